/- Contracts of the program: isFrom, isEnd, size, Right, across, core, reaching. -/
import Derived.Test.YtlmgilcigbnbaaaTw
import Derived.Test.YtlmgilcigbnbaaaHz
import Derived.Test.YtlmgilcigbnbaaaXv
namespace Go.Proofs.Ytlmgilcigbnbaaa
open Go.ChangeShapes Go.WideShapes Go.ChangeAt Go.RowKit
set_option linter.unusedVariables false
set_option linter.unusedSimpArgs false

theorem at_idx (d : Nat) {P : Program} {ops : Array Oper} {Q : Exit → Act → World → Prop} {a : Act} {w : World} {rest : List Oper} {ty : TypeId} {pos : String} {after : Array Edge} {t : TypeId} {x y : Operand} {gd : Option (Nat × Bool)} (h : wpList P ops Q (⟨some d, .index t x y, ty, pos, after, gd⟩ :: rest) a w) : wpList P ops Q (⟨some d, .index t x y, ty, pos, after, gd⟩ :: rest) a w := h
theorem wfrom_is {a b n : Int} {z : Bool} (h : (decide (a ≤ n) && decide (n ≤ b)) = z) (w : World) : Calls Try.prog 30 #[.int .i64 a, .int .i64 b, .int .i64 n] w fun e w' => e = .returned (.bool z) ∧ w' = w := by
  subst h
  obtain ⟨z, hz⟩ : ∃ z, (decide (a ≤ n) && decide (n ≤ b)) = z := ⟨_, rfl⟩
  rw [hz]
  have HZ := Lib.hid hz
  clear hz
  cases h0 : decide (a ≤ n)
  · rw [h0] at HZ
    go_enter Try.func30, Try.ntmps30
    go_wp2_with fail
    go_ret
    exact ⟨by rw [← HZ.out]; rfl, rfl⟩
  · cases h1 : decide (n ≤ b)
    all_goals
      rw [h0, h1] at HZ
      go_enter Try.func30, Try.ntmps30
      go_wp2_with fail
      go_ret
      exact ⟨by rw [← HZ.out]; rfl, rfl⟩
namespace WD
theorem okv_three {x y z : Int} {z0 z1 z2 : Bool} (e0 : (decide (-268435456 ≤ x) && decide (x ≤ 268435456)) = z0) (e1 : (decide (-268435456 ≤ y) && decide (y ≤ 268435456)) = z1) (e2 : (decide (0 ≤ z) && decide (z ≤ 16777215)) = z2) : VM.okv x y z = (z0 && (z1 && z2)) := by
  rw [VM.okv, ← e0, ← e1, ← e2]
  simp only [Bool.and_assoc]
end WD
set_option maxHeartbeats 8000000 in
theorem wend_any (v : Nat → Int) (w : World) : Calls Try.prog 29 #[arr 7 v] w fun e w' => e = .returned (.bool (VM.fit v)) ∧ Below w.heap.size w w' := by
  have O := Own.start w
  have HB := Lib.hid (fun i (hi : i < 4) => VM.fit_out (v := v) hi)
  have HN := Lib.hid (VM.fit_end (v := v))
  obtain ⟨x0, ex0⟩ : ∃ z, v 0 = z := ⟨_, rfl⟩
  have Cx0 := cell_is (n := 7) ex0 (by decide)
  obtain ⟨x1, ex1⟩ : ∃ z, v 1 = z := ⟨_, rfl⟩
  have Cx1 := cell_is (n := 7) ex1 (by decide)
  obtain ⟨x2, ex2⟩ : ∃ z, v 2 = z := ⟨_, rfl⟩
  have Cx2 := cell_is (n := 7) ex2 (by decide)
  rw [ex0, ex1, ex2] at HN
  clear ex0 ex1 ex2
  go_enter Try.func29, Try.ntmps29
  go_wp2_with (first | ((with_reducible refine at_box 1 ?_); refine wpList_box_own O (M.mat 7 (v)) rfl ?_; clear O; intro g1 w1 O) | ((with_reducible refine at_load 6 ?_); refine wpList_mid_h rfl O.held 0 rfl (M.mat 4 (D.sub 3 v)) (mat_sub v (by decide)) rfl Try.underlying23 rfl (sC _) ?_))
  go_loopw [7] (fun u wr => ∃ k : Nat, k ≤ 4 ∧ u = .int .i64 k ∧ (∀ i, i < k → VM.okc (v (3 + i)) = true) ∧ w1 = wr) (fun t _ => 4 - (intOf t).toNat)
  case atStart => exact ⟨0, by omega, rfl, fun i hi => absurd hi (by omega), rfl⟩
  case round =>
    obtain ⟨k, hk, rfl, hall, rfl⟩ := hrel
    have q0 : (0 : Int) ≤ k := by omega
    have HA := Lib.hid hall
    clear hall
    have hB := O.below
    by_cases hlt : k < 4
    · have q1 : (k : Int) < 4 := by omega
      obtain ⟨z, hz⟩ : ∃ z, v (3 + k) = z := ⟨_, rfl⟩
      have HV : Hid ((M.mat 4 (D.sub 3 v))[k]? = some (.int .i64 z)) := Lib.hid (by rw [M.mat_get hlt, ← hz]; rfl)
      have HK := HB.out k hlt
      rw [hz] at HK
      obtain ⟨y, hy⟩ : ∃ y, (decide (0 ≤ z) && decide (z ≤ 255)) = y := ⟨_, rfl⟩
      have CF := fun w => wfrom_is hy w
      have hc : VM.okc z = y := hy
      clear hy
      cases y
      · have HF := Lib.hid (HK hc)
        clear HK hz HB HN hc
        go_wp2_with (first | ((with_reducible refine at_idx 9 ?_); refine wpList_idx rfl Try.underlying23 sizeOf3 agg3 (M.mat 4 (D.sub 3 v)) rfl k rfl rfl (by omega) HV.out ?_) | (go_at_call 30; refine (CF _).mono ?_; rintro e w' ⟨rfl, rfl⟩))
        go_ret
        exact ⟨by rw [HF.out]; rfl, hB⟩
      · clear HK
        have HC := Lib.hid (show VM.okc (v (3 + k)) = true by rw [hz]; exact hc)
        clear hc hz
        go_wp2_with (first | ((with_reducible refine at_idx 9 ?_); refine wpList_idx rfl Try.underlying23 sizeOf3 agg3 (M.mat 4 (D.sub 3 v)) rfl k rfl rfl (by omega) HV.out ?_) | (go_at_call 30; refine (CF _).mono ?_; rintro e w' ⟨rfl, rfl⟩))
        go_roundw
        case rel => exact ⟨k + 1, by omega, by go_num, fun i hi => by
          by_cases e : i = k
          · subst e; exact HC.out
          · exact HA.out i (by omega), trivial⟩
        case measure => simp [intOf]; omega
    · have q1 : ¬ (k : Int) < 4 := by omega
      obtain rfl : k = 4 := by omega
      have HE := Lib.hid (HN.out HA.out)
      obtain ⟨z0, f0⟩ : ∃ z, (decide (-268435456 ≤ x0) && decide (x0 ≤ 268435456)) = z := ⟨_, rfl⟩
      obtain ⟨z1, f1⟩ : ∃ z, (decide (-268435456 ≤ x1) && decide (x1 ≤ 268435456)) = z := ⟨_, rfl⟩
      obtain ⟨z2, f2⟩ : ∃ z, (decide (0 ≤ x2) && decide (x2 ≤ 16777215)) = z := ⟨_, rfl⟩
      rw [WD.okv_three f0 f1 f2] at HE
      have C0 := fun w => wfrom_is f0 w
      have C1 := fun w => wfrom_is f1 w
      have C2 := fun w => wfrom_is f2 w
      clear f0 f1 f2 HN HB HA
      have tok0 : True := trivial
      cases z0
      · go_wp2_with (first | ((with_reducible refine at_load 15 ?_); refine wpList_cell_h (v := .int .i64 (x0)) rfl O.held 0 rfl Cx0.out rfl agg3 rfl ?_) | (go_at_call 30; clear tok0; have tok1 : True := trivial; refine (C0 _).mono ?_; rintro e w' ⟨rfl, rfl⟩))
        go_ret
        exact ⟨by rw [HE.out]; rfl, hB⟩
      · cases z1
        · go_wp2_with (first | ((with_reducible refine at_load 15 ?_); refine wpList_cell_h (v := .int .i64 (x0)) rfl O.held 0 rfl Cx0.out rfl agg3 rfl ?_) | (go_at_call 30; clear tok0; have tok1 : True := trivial; refine (C0 _).mono ?_; rintro e w' ⟨rfl, rfl⟩) | ((with_reducible refine at_load 19 ?_); refine wpList_cell_h (v := .int .i64 (x1)) rfl O.held 0 rfl Cx1.out rfl agg3 rfl ?_) | (go_at_call 30; clear tok1; have tok2 : True := trivial; refine (C1 _).mono ?_; rintro e w' ⟨rfl, rfl⟩))
          go_ret
          exact ⟨by rw [HE.out]; rfl, hB⟩
        · cases z2
          all_goals
            go_wp2_with (first | ((with_reducible refine at_load 15 ?_); refine wpList_cell_h (v := .int .i64 (x0)) rfl O.held 0 rfl Cx0.out rfl agg3 rfl ?_) | (go_at_call 30; clear tok0; have tok1 : True := trivial; refine (C0 _).mono ?_; rintro e w' ⟨rfl, rfl⟩) | ((with_reducible refine at_load 19 ?_); refine wpList_cell_h (v := .int .i64 (x1)) rfl O.held 0 rfl Cx1.out rfl agg3 rfl ?_) | (go_at_call 30; clear tok1; have tok2 : True := trivial; refine (C1 _).mono ?_; rintro e w' ⟨rfl, rfl⟩) | ((with_reducible refine at_load 24 ?_); refine wpList_cell_h (v := .int .i64 (x2)) rfl O.held 0 rfl Cx2.out rfl agg3 rfl ?_) | (go_at_call 30; clear tok2; have tok3 : True := trivial; refine (C2 _).mono ?_; rintro e w' ⟨rfl, rfl⟩))
            go_ret
            exact ⟨by rw [HE.out]; rfl, hB⟩
namespace WD
def right (a b : Nat → Int) (n : Int) (d : Nat → Int) : Bool := VM.fit a && (VM.fit b && ((decide (1 ≤ n) && decide (n ≤ 64)) && HM.right d))
theorem right_iff {a b : Nat → Int} {n : Int} {d : Nat → Int} : right a b n d = true ↔ (VM.fit a = true ∧ VM.fit b = true) ∧ (1 ≤ n ∧ n ≤ 64) ∧ HM.right d = true := by
  simp only [right, Bool.and_eq_true, decide_eq_true_eq]
  exact ⟨fun ⟨a, b, c, d⟩ => ⟨⟨a, b⟩, c, d⟩, fun ⟨⟨a, b⟩, c, d⟩ => ⟨a, b, c, d⟩⟩
/-- Is Y the longer way? -/
def tl (a b : Nat → Int) : Bool := DM.tall (b 0 - a 0) (b 1 - a 1)
/-- What it is further to the next one across the longer way. -/
def bx (t : Bool) : Int := if t then 1 else 0
def by_ (t : Bool) : Int := if t then 0 else 1
theorem bx_is (t : Bool) : (bx t = 1 ∧ by_ t = 0) ∨ (bx t = 0 ∧ by_ t = 1) := by cases t <;> simp [bx, by_]
def core (n : Int) (t : Bool) (a : Nat → Int) : Nat → Int := DM.t2 (a 0 - 128 * (n - 1) * bx t) (a 1 - 128 * (n - 1) * by_ t)
def rch (n : Int) (t : Bool) (r : Nat → Int) : Nat → Int := if RC.right r then RC.mk (max (r 0 - (n - 1) * bx t) (-4194304)) (max (r 1 - (n - 1) * by_ t) (-4194304)) (r 2) (r 3) else M.zero
end WD
set_option maxHeartbeats 8000000 in
theorem wright_any (a b : Nat → Int) (n : Int) (d : Nat → Int) (w : World) : Calls Try.prog 21 #[arr 7 a, arr 7 b, .int .i64 n, arr 3 d] w fun e w' => e = .returned (.bool (WD.right a b n d)) ∧ Below w.heap.size w w' := by
  have O := Own.start w
  have CA := fun w => wend_any a w
  have CB := fun w => wend_any b w
  obtain ⟨zn, hn⟩ : ∃ z, (decide (1 ≤ n) && decide (n ≤ 64)) = z := ⟨_, rfl⟩
  have CN := fun w => wfrom_is hn w
  have CD := fun w => pright_any d w
  have HE : Hid (WD.right a b n d = (VM.fit a && (VM.fit b && (zn && HM.right d)))) := Lib.hid (by rw [WD.right, hn])
  clear hn
  generalize VM.fit a = za at *
  generalize VM.fit b = zb at *
  generalize HM.right d = zd at *
  have tok0 : True := trivial
  cases za
  · go_enter Try.func21, Try.ntmps21
    go_wp2_with (first | ((with_reducible refine at_box 4 ?_); refine wpList_box_own O (M.mat 7 (a)) rfl ?_; clear O; intro g4 w1 O) | ((with_reducible refine at_box 5 ?_); refine wpList_box_own O (M.mat 7 (b)) rfl ?_; clear O; intro g5 w2 O) | ((with_reducible refine at_box 7 ?_); refine wpList_box_own O (M.mat 3 (d)) rfl ?_; clear O; intro g7 w3 O) | ((with_reducible refine at_load 9 ?_); refine wpList_whole rfl O 2 rfl rfl Try.underlying25 rfl (sW _) ?_) | (go_at_call 29; clear tok0; have tok1 : True := trivial; refine (CA _).mono ?_; rintro e w4 ⟨rfl, hb⟩; replace O := O.call hb; clear hb))
    go_ret
    exact ⟨by rw [HE.out]; rfl, O.below⟩
  · cases zb
    · go_enter Try.func21, Try.ntmps21
      go_wp2_with (first | ((with_reducible refine at_box 4 ?_); refine wpList_box_own O (M.mat 7 (a)) rfl ?_; clear O; intro g4 w1 O) | ((with_reducible refine at_box 5 ?_); refine wpList_box_own O (M.mat 7 (b)) rfl ?_; clear O; intro g5 w2 O) | ((with_reducible refine at_box 7 ?_); refine wpList_box_own O (M.mat 3 (d)) rfl ?_; clear O; intro g7 w3 O) | ((with_reducible refine at_load 9 ?_); refine wpList_whole rfl O 2 rfl rfl Try.underlying25 rfl (sW _) ?_) | (go_at_call 29; clear tok0; have tok1 : True := trivial; refine (CA _).mono ?_; rintro e w4 ⟨rfl, hb⟩; replace O := O.call hb; clear hb) | ((with_reducible refine at_load 12 ?_); refine wpList_whole rfl O 1 rfl rfl Try.underlying25 rfl (sW _) ?_) | (go_at_call 29; clear tok1; have tok2 : True := trivial; refine (CB _).mono ?_; rintro e w5 ⟨rfl, hb⟩; replace O := O.call hb; clear hb))
      go_ret
      exact ⟨by rw [HE.out]; rfl, O.below⟩
    · cases zn
      · go_enter Try.func21, Try.ntmps21
        go_wp2_with (first | ((with_reducible refine at_box 4 ?_); refine wpList_box_own O (M.mat 7 (a)) rfl ?_; clear O; intro g4 w1 O) | ((with_reducible refine at_box 5 ?_); refine wpList_box_own O (M.mat 7 (b)) rfl ?_; clear O; intro g5 w2 O) | ((with_reducible refine at_box 7 ?_); refine wpList_box_own O (M.mat 3 (d)) rfl ?_; clear O; intro g7 w3 O) | ((with_reducible refine at_load 9 ?_); refine wpList_whole rfl O 2 rfl rfl Try.underlying25 rfl (sW _) ?_) | (go_at_call 29; clear tok0; have tok1 : True := trivial; refine (CA _).mono ?_; rintro e w4 ⟨rfl, hb⟩; replace O := O.call hb; clear hb) | ((with_reducible refine at_load 12 ?_); refine wpList_whole rfl O 1 rfl rfl Try.underlying25 rfl (sW _) ?_) | (go_at_call 29; clear tok1; have tok2 : True := trivial; refine (CB _).mono ?_; rintro e w5 ⟨rfl, hb⟩; replace O := O.call hb; clear hb) | (go_at_call 30; refine (CN _).mono ?_; rintro e w' ⟨rfl, rfl⟩))
        go_ret
        exact ⟨by rw [HE.out]; rfl, O.below⟩
      · cases zd
        all_goals
          go_enter Try.func21, Try.ntmps21
          go_wp2_with (first | ((with_reducible refine at_box 4 ?_); refine wpList_box_own O (M.mat 7 (a)) rfl ?_; clear O; intro g4 w1 O) | ((with_reducible refine at_box 5 ?_); refine wpList_box_own O (M.mat 7 (b)) rfl ?_; clear O; intro g5 w2 O) | ((with_reducible refine at_box 7 ?_); refine wpList_box_own O (M.mat 3 (d)) rfl ?_; clear O; intro g7 w3 O) | ((with_reducible refine at_load 9 ?_); refine wpList_whole rfl O 2 rfl rfl Try.underlying25 rfl (sW _) ?_) | (go_at_call 29; clear tok0; have tok1 : True := trivial; refine (CA _).mono ?_; rintro e w4 ⟨rfl, hb⟩; replace O := O.call hb; clear hb) | ((with_reducible refine at_load 12 ?_); refine wpList_whole rfl O 1 rfl rfl Try.underlying25 rfl (sW _) ?_) | (go_at_call 29; clear tok1; have tok2 : True := trivial; refine (CB _).mono ?_; rintro e w5 ⟨rfl, hb⟩; replace O := O.call hb; clear hb) | (go_at_call 30; refine (CN _).mono ?_; rintro e w' ⟨rfl, rfl⟩) | ((with_reducible refine at_load 20 ?_); refine wpList_whole rfl O 0 rfl rfl Try.underlying49 rfl (sH _) ?_) | (go_at_call 31; refine (CD _).mono ?_; rintro e w6 ⟨rfl, hb⟩; replace O := O.call hb; clear hb))
          go_ret
          exact ⟨by rw [HE.out]; rfl, O.below⟩
end Go.Proofs.Ytlmgilcigbnbaaa
