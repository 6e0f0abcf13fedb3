/- Contracts of the program: isFrom, isEnd, size, Right, across, core, reaching. -/
import Derived.Test.YtpfhaocmcfnhnaaGreatTw
import Derived.Test.YtpfhaocmcfnhnaaGreatHz
import Derived.Test.YtpfhaocmcfnhnaaGreatVp
import Derived.Test.YtpfhaocmcfnhnaaGreatXv
namespace Go.Proofs.YtpfhaocmcfnhnaaGreat
open Go.ChangeShapes Go.WideShapes Go.ChangeAt Go.RowKit
set_option linter.unusedVariables false
set_option linter.unusedSimpArgs false

theorem at_idx (d : Nat) {P : Program} {ops : Array Oper} {Q : Exit → Act → World → Prop} {a : Act} {w : World} {rest : List Oper} {ty : TypeId} {pos : String} {after : Array Edge} {t : TypeId} {x y : Operand} {gd : Option (Nat × Bool)} (h : wpList P ops Q (⟨some d, .index t x y, ty, pos, after, gd⟩ :: rest) a w) : wpList P ops Q (⟨some d, .index t x y, ty, pos, after, gd⟩ :: rest) a w := h
theorem wfrom_is {a b n : Int} {z : Bool} (h : (decide (a ≤ n) && decide (n ≤ b)) = z) (w : World) : Calls Tryz.prog 30 #[.int .i64 a, .int .i64 b, .int .i64 n] w fun e w' => e = .returned (.bool z) ∧ w' = w := by
 subst h
 obtain ⟨z, hz⟩ : ∃ z, (decide (a ≤ n) && decide (n ≤ b)) = z := ⟨_, rfl⟩
 rw [hz]
 have HZ := Lib.hid hz
 clear hz
 cases h0 : decide (a ≤ n)
 ·
  rw [h0] at HZ
  go_enter Tryz.func30, Tryz.ntmps30
  go_wp2_with fail
  go_ret
  exact ⟨by rw [← HZ.out]; rfl, rfl⟩
 ·
  cases h1 : decide (n ≤ b)
  all_goals
   rw [h0, h1] at HZ
   go_enter Tryz.func30, Tryz.ntmps30
   go_wp2_with fail
   go_ret
   exact ⟨by rw [← HZ.out]; rfl, rfl⟩
namespace WD
theorem okv_three {x y z : Int} {z0 z1 z2 : Bool} (e0 : (decide (-268435456 ≤ x) && decide (x ≤ 268435456)) = z0) (e1 : (decide (-268435456 ≤ y) && decide (y ≤ 268435456)) = z1) (e2 : (decide (0 ≤ z) && decide (z ≤ 16777215)) = z2) : VM.okv x y z = (z0 && (z1 && z2)) := by
 rw [VM.okv, ← e0, ← e1, ← e2]
 simp only [Bool.and_assoc]
end WD
set_option maxHeartbeats 8000000 in
theorem wend_any (v : Nat → Int) (w : World) : Calls Tryz.prog 29 #[arr 7 v] w fun e w' => e = .returned (.bool (VM.fit v)) ∧ Below w.heap.size w w' := by
 have O := Own.start w
 have HB := Lib.hid (fun i (hi : i < 4) => VM.fit_out (v := v) hi)
 have HN := Lib.hid (VM.fit_end (v := v))
 obtain ⟨x0, ex0⟩ : ∃ z, v 0 = z := ⟨_, rfl⟩
 have Cx0 := cell_is (n := 7) ex0 (by decide)
 obtain ⟨x1, ex1⟩ : ∃ z, v 1 = z := ⟨_, rfl⟩
 have Cx1 := cell_is (n := 7) ex1 (by decide)
 obtain ⟨x2, ex2⟩ : ∃ z, v 2 = z := ⟨_, rfl⟩
 have Cx2 := cell_is (n := 7) ex2 (by decide)
 rw [ex0, ex1, ex2] at HN
 clear ex0 ex1 ex2
 go_enter Tryz.func29, Tryz.ntmps29
 go_wp2_with (first | ((with_reducible refine at_box 1 ?_); refine wpList_box_own O (M.mat 7 (v)) rfl ?_; clear O; intro g1 w1 O) | ((with_reducible refine at_load 6 ?_); refine wpList_mid_h rfl O.held 0 rfl (M.mat 4 (D.sub 3 v)) (mat_sub v (by decide)) rfl Tryz.underlying23 rfl (sC _) ?_))
 go_loopw [7] (fun u wr => ∃ k : Nat, k ≤ 4 ∧ u = .int .i64 k ∧ (∀ i, i < k → VM.okc (v (3 + i)) = true) ∧ w1 = wr) (fun t _ => 4 - (intOf t).toNat)
 case atStart => exact ⟨0, by omega, rfl, fun i hi => absurd hi (by omega), rfl⟩
 case round =>
  obtain ⟨k, hk, rfl, hall, rfl⟩ := hrel
  have q0 : (0 : Int) ≤ k := by omega
  have HA := Lib.hid hall
  clear hall
  have hB := O.below
  by_cases hlt : k < 4
  ·
   have q1 : (k : Int) < 4 := by omega
   obtain ⟨z, hz⟩ : ∃ z, v (3 + k) = z := ⟨_, rfl⟩
   have HV : Hid ((M.mat 4 (D.sub 3 v))[k]? = some (.int .i64 z)) := Lib.hid (by rw [M.mat_get hlt, ← hz]; rfl)
   have HK := HB.out k hlt
   rw [hz] at HK
   obtain ⟨y, hy⟩ : ∃ y, (decide (0 ≤ z) && decide (z ≤ 255)) = y := ⟨_, rfl⟩
   have CF := fun w => wfrom_is hy w
   have hc : VM.okc z = y := hy
   clear hy
   cases y
   ·
    have HF := Lib.hid (HK hc)
    clear HK hz HB HN hc
    go_wp2_with (first | ((with_reducible refine at_idx 9 ?_); refine wpList_idx rfl Tryz.underlying23 sizeOf3 agg3 (M.mat 4 (D.sub 3 v)) rfl k rfl rfl (by omega) HV.out ?_) | (go_at_call 30; refine (CF _).mono ?_; rintro e w' ⟨rfl, rfl⟩))
    go_ret
    exact ⟨by rw [HF.out]; rfl, hB⟩
   ·
    clear HK
    have HC := Lib.hid (show VM.okc (v (3 + k)) = true by rw [hz]; exact hc)
    clear hc hz
    go_wp2_with (first | ((with_reducible refine at_idx 9 ?_); refine wpList_idx rfl Tryz.underlying23 sizeOf3 agg3 (M.mat 4 (D.sub 3 v)) rfl k rfl rfl (by omega) HV.out ?_) | (go_at_call 30; refine (CF _).mono ?_; rintro e w' ⟨rfl, rfl⟩))
    go_roundw
    case rel => exact ⟨k + 1, by omega, by go_num, fun i hi => by
     by_cases e : i = k
     · subst e; exact HC.out
     · exact HA.out i (by omega), trivial⟩
    case measure => simp [intOf]; omega
  ·
   have q1 : ¬ (k : Int) < 4 := by omega
   obtain rfl : k = 4 := by omega
   have HE := Lib.hid (HN.out HA.out)
   obtain ⟨z0, f0⟩ : ∃ z, (decide (-268435456 ≤ x0) && decide (x0 ≤ 268435456)) = z := ⟨_, rfl⟩
   obtain ⟨z1, f1⟩ : ∃ z, (decide (-268435456 ≤ x1) && decide (x1 ≤ 268435456)) = z := ⟨_, rfl⟩
   obtain ⟨z2, f2⟩ : ∃ z, (decide (0 ≤ x2) && decide (x2 ≤ 16777215)) = z := ⟨_, rfl⟩
   rw [WD.okv_three f0 f1 f2] at HE
   have C0 := fun w => wfrom_is f0 w
   have C1 := fun w => wfrom_is f1 w
   have C2 := fun w => wfrom_is f2 w
   clear f0 f1 f2 HN HB HA
   have tok0 : True := trivial
   cases z0
   ·
    go_wp2_with (first | ((with_reducible refine at_load 15 ?_); refine wpList_cell_h (v := .int .i64 (x0)) rfl O.held 0 rfl Cx0.out rfl agg3 rfl ?_) | (go_at_call 30; clear tok0; have tok1 : True := trivial; refine (C0 _).mono ?_; rintro e w' ⟨rfl, rfl⟩))
    go_ret
    exact ⟨by rw [HE.out]; rfl, hB⟩
   ·
    cases z1
    ·
     go_wp2_with (first | ((with_reducible refine at_load 15 ?_); refine wpList_cell_h (v := .int .i64 (x0)) rfl O.held 0 rfl Cx0.out rfl agg3 rfl ?_) | (go_at_call 30; clear tok0; have tok1 : True := trivial; refine (C0 _).mono ?_; rintro e w' ⟨rfl, rfl⟩) | ((with_reducible refine at_load 19 ?_); refine wpList_cell_h (v := .int .i64 (x1)) rfl O.held 0 rfl Cx1.out rfl agg3 rfl ?_) | (go_at_call 30; clear tok1; have tok2 : True := trivial; refine (C1 _).mono ?_; rintro e w' ⟨rfl, rfl⟩))
     go_ret
     exact ⟨by rw [HE.out]; rfl, hB⟩
    ·
     cases z2
     all_goals
      go_wp2_with (first | ((with_reducible refine at_load 15 ?_); refine wpList_cell_h (v := .int .i64 (x0)) rfl O.held 0 rfl Cx0.out rfl agg3 rfl ?_) | (go_at_call 30; clear tok0; have tok1 : True := trivial; refine (C0 _).mono ?_; rintro e w' ⟨rfl, rfl⟩) | ((with_reducible refine at_load 19 ?_); refine wpList_cell_h (v := .int .i64 (x1)) rfl O.held 0 rfl Cx1.out rfl agg3 rfl ?_) | (go_at_call 30; clear tok1; have tok2 : True := trivial; refine (C1 _).mono ?_; rintro e w' ⟨rfl, rfl⟩) | ((with_reducible refine at_load 24 ?_); refine wpList_cell_h (v := .int .i64 (x2)) rfl O.held 0 rfl Cx2.out rfl agg3 rfl ?_) | (go_at_call 30; clear tok2; have tok3 : True := trivial; refine (C2 _).mono ?_; rintro e w' ⟨rfl, rfl⟩))
      go_ret
      exact ⟨by rw [HE.out]; rfl, hB⟩
theorem wsize_any (x m : Int) (hx : -4611686018427387904 ≤ x ∧ x ≤ 4611686018427387904) (hm : max x (0 - x) = m) (w : World) : Calls Tryz.prog 34 #[.int .i64 x] w fun e w' => e = .returned (.int .i64 m) ∧ Below w.heap.size w w' := by
 obtain ⟨y, hy⟩ : ∃ z, 0 - x = z := ⟨_, rfl⟩
 have F1 : wrap64 (0 - x) = y := (IntWalk.wrap64_in _ (by omega)).trans hy
 have F1' : wrap64 (-x) = y := by rw [← F1, Int.zero_sub]
 rw [hy] at hm
 have HM := Lib.hid hm
 clear hx hy hm
 go_enter Tryz.func34, Tryz.ntmps34
 go_wp2_with fail
 go_ret
 exact ⟨by rw [← HM.out]; rfl, Below.refl _ _⟩
namespace WD
def right (a b : Nat → Int) (n : Int) (d : Nat → Int) : Bool := VM.fit a && (VM.fit b && ((decide (1 ≤ n) && decide (n ≤ 64)) && HM.right d))
theorem right_iff {a b : Nat → Int} {n : Int} {d : Nat → Int} : right a b n d = true ↔ (VM.fit a = true ∧ VM.fit b = true) ∧ (1 ≤ n ∧ n ≤ 64) ∧ HM.right d = true := by
 simp only [right, Bool.and_eq_true, decide_eq_true_eq]
 exact ⟨fun ⟨a, b, c, d⟩ => ⟨⟨a, b⟩, c, d⟩, fun ⟨⟨a, b⟩, c, d⟩ => ⟨a, b, c, d⟩⟩
/-- Is Y the longer way? -/
def tl (a b : Nat → Int) : Bool := DM.tall (b 0 - a 0) (b 1 - a 1)
/-- What it is further to the next one across the longer way. -/
def bx (t : Bool) : Int := if t then 1 else 0
def by_ (t : Bool) : Int := if t then 0 else 1
theorem bx_is (t : Bool) : (bx t = 1 ∧ by_ t = 0) ∨ (bx t = 0 ∧ by_ t = 1) := by cases t <;> simp [bx, by_]
def core (n : Int) (t : Bool) (a : Nat → Int) : Nat → Int := DM.t2 (a 0 - 128 * (n - 1) * bx t) (a 1 - 128 * (n - 1) * by_ t)
def rch (n : Int) (t : Bool) (r : Nat → Int) : Nat → Int := if RC.right r then RC.mk (max (r 0 - (n - 1) * bx t) (-4194304)) (max (r 1 - (n - 1) * by_ t) (-4194304)) (r 2) (r 3) else M.zero
end WD
set_option maxHeartbeats 8000000 in
theorem wright_any (a b : Nat → Int) (n : Int) (d : Nat → Int) (w : World) : Calls Tryz.prog 9 #[arr 7 a, arr 7 b, .int .i64 n, arr 3 d] w fun e w' => e = .returned (.bool (WD.right a b n d)) ∧ Below w.heap.size w w' := by
 have O := Own.start w
 have CA := fun w => wend_any a w
 have CB := fun w => wend_any b w
 obtain ⟨zn, hn⟩ : ∃ z, (decide (1 ≤ n) && decide (n ≤ 64)) = z := ⟨_, rfl⟩
 have CN := fun w => wfrom_is hn w
 have CD := fun w => pright_any d w
 have HE : Hid (WD.right a b n d = (VM.fit a && (VM.fit b && (zn && HM.right d)))) := Lib.hid (by rw [WD.right, hn])
 clear hn
 generalize VM.fit a = za at *
 generalize VM.fit b = zb at *
 generalize HM.right d = zd at *
 have tok0 : True := trivial
 cases za
 ·
  go_enter Tryz.func9, Tryz.ntmps9
  go_wp2_with (first | ((with_reducible refine at_box 4 ?_); refine wpList_box_own O (M.mat 7 (a)) rfl ?_; clear O; intro g4 w1 O) | ((with_reducible refine at_box 5 ?_); refine wpList_box_own O (M.mat 7 (b)) rfl ?_; clear O; intro g5 w2 O) | ((with_reducible refine at_box 7 ?_); refine wpList_box_own O (M.mat 3 (d)) rfl ?_; clear O; intro g7 w3 O) | ((with_reducible refine at_load 9 ?_); refine wpList_whole rfl O 2 rfl rfl Tryz.underlying25 rfl (sW _) ?_) | (go_at_call 29; clear tok0; have tok1 : True := trivial; refine (CA _).mono ?_; rintro e w4 ⟨rfl, hb⟩; replace O := O.call hb; clear hb))
  go_ret
  exact ⟨by rw [HE.out]; rfl, O.below⟩
 ·
  cases zb
  ·
   go_enter Tryz.func9, Tryz.ntmps9
   go_wp2_with (first | ((with_reducible refine at_box 4 ?_); refine wpList_box_own O (M.mat 7 (a)) rfl ?_; clear O; intro g4 w1 O) | ((with_reducible refine at_box 5 ?_); refine wpList_box_own O (M.mat 7 (b)) rfl ?_; clear O; intro g5 w2 O) | ((with_reducible refine at_box 7 ?_); refine wpList_box_own O (M.mat 3 (d)) rfl ?_; clear O; intro g7 w3 O) | ((with_reducible refine at_load 9 ?_); refine wpList_whole rfl O 2 rfl rfl Tryz.underlying25 rfl (sW _) ?_) | (go_at_call 29; clear tok0; have tok1 : True := trivial; refine (CA _).mono ?_; rintro e w4 ⟨rfl, hb⟩; replace O := O.call hb; clear hb) | ((with_reducible refine at_load 12 ?_); refine wpList_whole rfl O 1 rfl rfl Tryz.underlying25 rfl (sW _) ?_) | (go_at_call 29; clear tok1; have tok2 : True := trivial; refine (CB _).mono ?_; rintro e w5 ⟨rfl, hb⟩; replace O := O.call hb; clear hb))
   go_ret
   exact ⟨by rw [HE.out]; rfl, O.below⟩
  ·
   cases zn
   ·
    go_enter Tryz.func9, Tryz.ntmps9
    go_wp2_with (first | ((with_reducible refine at_box 4 ?_); refine wpList_box_own O (M.mat 7 (a)) rfl ?_; clear O; intro g4 w1 O) | ((with_reducible refine at_box 5 ?_); refine wpList_box_own O (M.mat 7 (b)) rfl ?_; clear O; intro g5 w2 O) | ((with_reducible refine at_box 7 ?_); refine wpList_box_own O (M.mat 3 (d)) rfl ?_; clear O; intro g7 w3 O) | ((with_reducible refine at_load 9 ?_); refine wpList_whole rfl O 2 rfl rfl Tryz.underlying25 rfl (sW _) ?_) | (go_at_call 29; clear tok0; have tok1 : True := trivial; refine (CA _).mono ?_; rintro e w4 ⟨rfl, hb⟩; replace O := O.call hb; clear hb) | ((with_reducible refine at_load 12 ?_); refine wpList_whole rfl O 1 rfl rfl Tryz.underlying25 rfl (sW _) ?_) | (go_at_call 29; clear tok1; have tok2 : True := trivial; refine (CB _).mono ?_; rintro e w5 ⟨rfl, hb⟩; replace O := O.call hb; clear hb) | (go_at_call 30; refine (CN _).mono ?_; rintro e w' ⟨rfl, rfl⟩))
    go_ret
    exact ⟨by rw [HE.out]; rfl, O.below⟩
   ·
    cases zd
    all_goals
     go_enter Tryz.func9, Tryz.ntmps9
     go_wp2_with (first | ((with_reducible refine at_box 4 ?_); refine wpList_box_own O (M.mat 7 (a)) rfl ?_; clear O; intro g4 w1 O) | ((with_reducible refine at_box 5 ?_); refine wpList_box_own O (M.mat 7 (b)) rfl ?_; clear O; intro g5 w2 O) | ((with_reducible refine at_box 7 ?_); refine wpList_box_own O (M.mat 3 (d)) rfl ?_; clear O; intro g7 w3 O) | ((with_reducible refine at_load 9 ?_); refine wpList_whole rfl O 2 rfl rfl Tryz.underlying25 rfl (sW _) ?_) | (go_at_call 29; clear tok0; have tok1 : True := trivial; refine (CA _).mono ?_; rintro e w4 ⟨rfl, hb⟩; replace O := O.call hb; clear hb) | ((with_reducible refine at_load 12 ?_); refine wpList_whole rfl O 1 rfl rfl Tryz.underlying25 rfl (sW _) ?_) | (go_at_call 29; clear tok1; have tok2 : True := trivial; refine (CB _).mono ?_; rintro e w5 ⟨rfl, hb⟩; replace O := O.call hb; clear hb) | (go_at_call 30; refine (CN _).mono ?_; rintro e w' ⟨rfl, rfl⟩) | ((with_reducible refine at_load 20 ?_); refine wpList_whole rfl O 0 rfl rfl Tryz.underlying27 rfl (sH _) ?_) | (go_at_call 31; refine (CD _).mono ?_; rintro e w6 ⟨rfl, hb⟩; replace O := O.call hb; clear hb))
     go_ret
     exact ⟨by rw [HE.out]; rfl, O.below⟩
set_option maxRecDepth 100000 in
set_option maxHeartbeats 8000000 in
theorem wacross_any (a b : Nat → Int) (ha : VM.fit a = true) (hb : VM.fit b = true) (w : World) : Calls Tryz.prog 13 #[arr 7 a, arr 7 b] w fun e w' => e = .returned (arr 2 (DM.t2 (WD.bx (WD.tl a b)) (WD.by_ (WD.tl a b)))) ∧ Below w.heap.size w w' := by
 have O := Own.start w
 obtain ⟨la0, la1, -, -⟩ := VM.fit_lim ha
 obtain ⟨lb0, lb1, -, -⟩ := VM.fit_lim hb
 unfold WD.tl
 obtain ⟨ax, eax⟩ : ∃ z, a 0 = z := ⟨_, rfl⟩
 have Cax := cell_is (n := 7) eax (by decide)
 obtain ⟨ay, eay⟩ : ∃ z, a 1 = z := ⟨_, rfl⟩
 have Cay := cell_is (n := 7) eay (by decide)
 obtain ⟨bx, ebx⟩ : ∃ z, b 0 = z := ⟨_, rfl⟩
 have Cbx := cell_is (n := 7) ebx (by decide)
 obtain ⟨bz, ebz⟩ : ∃ z, b 1 = z := ⟨_, rfl⟩
 have Cbz := cell_is (n := 7) ebz (by decide)
 rw [eax, eay, ebx, ebz]
 rw [eax] at la0
 rw [eay] at la1
 rw [ebx] at lb0
 rw [ebz] at lb1
 clear eax eay ebx ebz ha hb
 obtain ⟨t, ht⟩ : ∃ t, DM.tall (bx - ax) (bz - ay) = t := ⟨_, rfl⟩
 rw [ht]
 unfold DM.tall DM.abs at ht
 obtain ⟨dx, hdx⟩ : ∃ z, bx - ax = z := ⟨_, rfl⟩
 obtain ⟨dy, hdy⟩ : ∃ z, bz - ay = z := ⟨_, rfl⟩
 rw [hdx, hdy] at ht
 have WX : Hid (IntKind.i64.wrap (bx - ax) = dx) := Lib.hid ((IntWalk.i64_in _ (by omega)).trans hdx)
 have WY : Hid (IntKind.i64.wrap (bz - ay) = dy) := Lib.hid ((IntWalk.i64_in _ (by omega)).trans hdy)
 obtain ⟨mx, hmx⟩ : ∃ z, max dx (0 - dx) = z := ⟨_, rfl⟩
 obtain ⟨my, hmy⟩ : ∃ z, max dy (0 - dy) = z := ⟨_, rfl⟩
 have CX := fun w => wsize_any dx mx (by omega) hmx w
 have CY := fun w => wsize_any dy my (by omega) hmy w
 rw [hmx, hmy] at ht
 clear la0 la1 lb0 lb1 hdx hdy hmx hmy
 cases t
 ·
  have c1 : my ≤ mx := by
   have := of_decide_eq_false ht
   omega
  clear ht
  go_enter Tryz.func13, Tryz.ntmps13
  go_wp2_with (first | ((with_reducible refine at_box 2 ?_); refine wpList_box_own O (M.mat 7 (a)) rfl ?_; clear O; intro g2 w1 O) | ((with_reducible refine at_box 3 ?_); refine wpList_box_own O (M.mat 7 (b)) rfl ?_; clear O; intro g3 w2 O) | ((with_reducible refine at_alloc 4 ?_); refine wpList_alloc_own O (M.mat 2 M.zero) zeroP ?_; clear O; intro g4 w3 O))
  refine region_T (fun w2 => Own w w2 [(g4, 44, M.mat 2 M.zero), (g3, 25, M.mat 7 b), (g2, 25, M.mat 7 a)]) [0, 1, 2, 3, 4, 5, 6, 7, 8, 9, 10, 11] 12 [some 5, some 6, some 7, some 8, some 9, some 10, some 11, some 12, some 13, some 14, some 15, some 16] [.pointer (some ⟨g3, 0, none⟩), .int .i64 (bx), .pointer (some ⟨g2, 0, none⟩), .int .i64 (ax), .int .i64 (dx), .int .i64 (mx), .pointer (some ⟨g3, 1, none⟩), .int .i64 (bz), .pointer (some ⟨g2, 1, none⟩), .int .i64 (ay), .int .i64 (dy), .int .i64 (my)] 1 (by kernel_rfl) (by rfl) (by kernel_rfl) (by rfl) (by rfl) (O.drew) (fun F hF => ?_)
  simp only [fillD, Act.put, List.setIfInBounds_toArray, List.set_cons_zero, List.set_cons_succ] at hF
  subst hF
  refine ⟨⟨does_want rfl (by rfl) (fun w' O K hK => ?_), does_want rfl (by rfl) (fun w' O K hK => ?_), does_want rfl (by rfl) (fun w' O K hK => ?_), does_want rfl (by rfl) (fun w' O K hK => ?_), does_want rfl (by rfl) (fun w' O K hK => ?_), does_want rfl (by rfl) (fun w' O K hK => ?_), does_want rfl (by rfl) (fun w' O K hK => ?_), does_want rfl (by rfl) (fun w' O K hK => ?_), does_want rfl (by rfl) (fun w' O K hK => ?_), does_want rfl (by rfl) (fun w' O K hK => ?_), does_want rfl (by rfl) (fun w' O K hK => ?_), does_want rfl (by rfl) (fun w' O K hK => ?_), trivial⟩, fun w' O => ?_⟩
  ·
   go_simp
   exact hK _ O
  · exact wp_cell_h (v := .int .i64 (bx)) O.held 1 rfl Cbx.out rfl agg3 rfl (hK _ O)
  ·
   go_simp
   exact hK _ O
  · exact wp_cell_h (v := .int .i64 (ax)) O.held 2 rfl Cax.out rfl agg3 rfl (hK _ O)
  ·
   go_simp
   simp only [WX.out]
   exact hK _ O
  ·
   go_simp
   go_at_call 34
   refine (CX _).mono ?_
   rintro e w2 ⟨rfl, hb⟩
   exact hK _ (O.call hb)
  ·
   go_simp
   exact hK _ O
  · exact wp_cell_h (v := .int .i64 (bz)) O.held 1 rfl Cbz.out rfl agg3 rfl (hK _ O)
  ·
   go_simp
   exact hK _ O
  · exact wp_cell_h (v := .int .i64 (ay)) O.held 2 rfl Cay.out rfl agg3 rfl (hK _ O)
  ·
   go_simp
   simp only [WY.out]
   exact hK _ O
  ·
   go_simp
   go_at_call 34
   refine (CY _).mono ?_
   rintro e w2 ⟨rfl, hb⟩
   exact hK _ (O.call hb)
  refine wpAny_one (i := 12) (by kernel_rfl) rfl (fun K hK => ?_)
  go_simp
  refine hK _ _ ?_
  clear hK K
  try simp only [Act.put, List.setIfInBounds_toArray, List.set_cons_zero, List.set_cons_succ]
  refine wpAny_done (by kernel_rfl) ?_ _
  go_wp2_with (first | ((with_reducible refine at_build 18 ?_); refine wpList_build_g rfl ([(1, .int .i64 1)]) ((M.mat 2 (DM.t2 0 1)).toArray) ?_ (builtPy) ?_; (focus (simp only [List.map_toArray, List.map_cons, List.map_nil]; rfl))) | ((with_reducible refine at_store 4 ?_); refine wpList_put_own O 0 (M.mat 2 (DM.t2 0 1)) rfl rfl rfl (sP _) (M.mat_len2 _ _ _) (M.mat_one _ _) ?_; clear O; intro w9 O))
  exact bodyPost_ret (v := arr 2 (DM.t2 0 1)) (res_h rfl O.held 0 rfl rfl Tryz.underlying44 rfl (sP _)) rfl ⟨rfl, O.below⟩
 ·
  have c1 : ¬ my ≤ mx := by
   have := of_decide_eq_true ht
   omega
  clear ht
  go_enter Tryz.func13, Tryz.ntmps13
  go_wp2_with (first | ((with_reducible refine at_box 2 ?_); refine wpList_box_own O (M.mat 7 (a)) rfl ?_; clear O; intro g2 w1 O) | ((with_reducible refine at_box 3 ?_); refine wpList_box_own O (M.mat 7 (b)) rfl ?_; clear O; intro g3 w2 O) | ((with_reducible refine at_alloc 4 ?_); refine wpList_alloc_own O (M.mat 2 M.zero) zeroP ?_; clear O; intro g4 w3 O))
  refine region_T (fun w2 => Own w w2 [(g4, 44, M.mat 2 M.zero), (g3, 25, M.mat 7 b), (g2, 25, M.mat 7 a)]) [0, 1, 2, 3, 4, 5, 6, 7, 8, 9, 10, 11] 12 [some 5, some 6, some 7, some 8, some 9, some 10, some 11, some 12, some 13, some 14, some 15, some 16] [.pointer (some ⟨g3, 0, none⟩), .int .i64 (bx), .pointer (some ⟨g2, 0, none⟩), .int .i64 (ax), .int .i64 (dx), .int .i64 (mx), .pointer (some ⟨g3, 1, none⟩), .int .i64 (bz), .pointer (some ⟨g2, 1, none⟩), .int .i64 (ay), .int .i64 (dy), .int .i64 (my)] 1 (by kernel_rfl) (by rfl) (by kernel_rfl) (by rfl) (by rfl) (O.drew) (fun F hF => ?_)
  simp only [fillD, Act.put, List.setIfInBounds_toArray, List.set_cons_zero, List.set_cons_succ] at hF
  subst hF
  refine ⟨⟨does_want rfl (by rfl) (fun w' O K hK => ?_), does_want rfl (by rfl) (fun w' O K hK => ?_), does_want rfl (by rfl) (fun w' O K hK => ?_), does_want rfl (by rfl) (fun w' O K hK => ?_), does_want rfl (by rfl) (fun w' O K hK => ?_), does_want rfl (by rfl) (fun w' O K hK => ?_), does_want rfl (by rfl) (fun w' O K hK => ?_), does_want rfl (by rfl) (fun w' O K hK => ?_), does_want rfl (by rfl) (fun w' O K hK => ?_), does_want rfl (by rfl) (fun w' O K hK => ?_), does_want rfl (by rfl) (fun w' O K hK => ?_), does_want rfl (by rfl) (fun w' O K hK => ?_), trivial⟩, fun w' O => ?_⟩
  ·
   go_simp
   exact hK _ O
  · exact wp_cell_h (v := .int .i64 (bx)) O.held 1 rfl Cbx.out rfl agg3 rfl (hK _ O)
  ·
   go_simp
   exact hK _ O
  · exact wp_cell_h (v := .int .i64 (ax)) O.held 2 rfl Cax.out rfl agg3 rfl (hK _ O)
  ·
   go_simp
   simp only [WX.out]
   exact hK _ O
  ·
   go_simp
   go_at_call 34
   refine (CX _).mono ?_
   rintro e w2 ⟨rfl, hb⟩
   exact hK _ (O.call hb)
  ·
   go_simp
   exact hK _ O
  · exact wp_cell_h (v := .int .i64 (bz)) O.held 1 rfl Cbz.out rfl agg3 rfl (hK _ O)
  ·
   go_simp
   exact hK _ O
  · exact wp_cell_h (v := .int .i64 (ay)) O.held 2 rfl Cay.out rfl agg3 rfl (hK _ O)
  ·
   go_simp
   simp only [WY.out]
   exact hK _ O
  ·
   go_simp
   go_at_call 34
   refine (CY _).mono ?_
   rintro e w2 ⟨rfl, hb⟩
   exact hK _ (O.call hb)
  refine wpAny_one (i := 12) (by kernel_rfl) rfl (fun K hK => ?_)
  go_simp
  refine hK _ _ ?_
  clear hK K
  try simp only [Act.put, List.setIfInBounds_toArray, List.set_cons_zero, List.set_cons_succ]
  refine wpAny_done (by kernel_rfl) ?_ _
  go_wp2_with (first | ((with_reducible refine at_build 19 ?_); refine wpList_build_g rfl ([(0, .int .i64 1)]) ((M.mat 2 (DM.t2 1 0)).toArray) ?_ (builtPx) ?_; (focus (simp only [List.map_toArray, List.map_cons, List.map_nil]; rfl))) | ((with_reducible refine at_store 4 ?_); refine wpList_put_own O 0 (M.mat 2 (DM.t2 1 0)) rfl rfl rfl (sP _) (M.mat_len2 _ _ _) (M.mat_one _ _) ?_; clear O; intro w9 O))
  exact bodyPost_ret (v := arr 2 (DM.t2 1 0)) (res_h rfl O.held 0 rfl rfl Tryz.underlying44 rfl (sP _)) rfl ⟨rfl, O.below⟩
set_option maxRecDepth 100000 in
set_option maxHeartbeats 8000000 in
theorem wcore_any (a b v : Nat → Int) (n : Int) (t : Bool) (hv : VM.fit v = true) (hn : 1 ≤ n ∧ n ≤ 64) (w : World) : Calls Tryz.prog 14 #[arr 17 (WD.ln a b n (DM.t2 (WD.bx t) (WD.by_ t))), arr 7 v] w fun e w' => e = .returned (arr 2 (WD.core n t v)) ∧ Below w.heap.size w w' := by
 have O := Own.start w
 obtain ⟨l0, l1, -, -⟩ := VM.fit_lim hv
 unfold WD.core
 have hxy := WD.bx_is t
 generalize WD.bx t = x at *
 generalize WD.by_ t = y at *
 obtain ⟨X, eX⟩ : ∃ z, v 0 = z := ⟨_, rfl⟩
 have CX := cell_is (n := 7) eX (by decide)
 obtain ⟨Y, eY⟩ : ∃ z, v 1 = z := ⟨_, rfl⟩
 have CY := cell_is (n := 7) eY (by decide)
 rw [eX] at l0 ⊢
 rw [eY] at l1 ⊢
 clear eX eY hv
 have LN := Lib.hid (ln_n a b n (DM.t2 x y))
 have LX := Lib.hid (ln_p a b n x y).1
 have LY := Lib.hid (ln_p a b n x y).2
 obtain ⟨m, hm⟩ : ∃ m, n - 1 = m := ⟨_, rfl⟩
 obtain ⟨q, hq⟩ : ∃ q, 128 * m = q := ⟨_, rfl⟩
 have W1 : wrap64 (n - 1) = m := (IntWalk.wrap64_in _ (by omega)).trans hm
 have W2 : wrap64 (128 * m) = q := (IntWalk.wrap64_in _ (by omega)).trans hq
 obtain ⟨u, hu⟩ : ∃ u, q * x = u := ⟨_, rfl⟩
 obtain ⟨s, hs⟩ : ∃ s, q * y = s := ⟨_, rfl⟩
 rw [hm, hq, hu, hs]
 have hb : (0 ≤ u ∧ u ≤ 8064) ∧ (0 ≤ s ∧ s ≤ 8064) := by
  rcases hxy with ⟨rfl, rfl⟩ | ⟨rfl, rfl⟩
  ·
   rw [Int.mul_one] at hu
   rw [Int.mul_zero] at hs
   omega
  ·
   rw [Int.mul_zero] at hu
   rw [Int.mul_one] at hs
   omega
 have W3 : wrap64 (q * x) = u := (IntWalk.wrap64_in _ (by omega)).trans hu
 have W4 : wrap64 (q * y) = s := (IntWalk.wrap64_in _ (by omega)).trans hs
 obtain ⟨p1, hp1⟩ : ∃ p, X - u = p := ⟨_, rfl⟩
 obtain ⟨p2, hp2⟩ : ∃ p, Y - s = p := ⟨_, rfl⟩
 have W5 : wrap64 (X - u) = p1 := (IntWalk.wrap64_in _ (by omega)).trans hp1
 have W6 : wrap64 (Y - s) = p2 := (IntWalk.wrap64_in _ (by omega)).trans hp2
 rw [hp1, hp2]
 clear hm hq hu hs hb hp1 hp2 hxy l0 l1 hn
 go_enter Tryz.func14, Tryz.ntmps14
 go_wp2_with (first | ((with_reducible refine at_box 2 ?_); refine wpList_box_own O (M.mat 17 (WD.ln a b n (DM.t2 x y))) rfl ?_; clear O; intro g2 w1 O) | ((with_reducible refine at_box 3 ?_); refine wpList_box_own O (M.mat 7 (v)) rfl ?_; clear O; intro g3 w2 O) | ((with_reducible refine at_alloc 4 ?_); refine wpList_alloc_own O (M.mat 2 M.zero) zeroP ?_; clear O; intro g4 w3 O) | ((with_reducible refine at_load 7 ?_); refine wpList_cell_h (v := .int .i64 (n)) rfl O.held 2 rfl LN.out rfl agg3 rfl ?_) | ((with_reducible refine at_load 11 ?_); refine wpList_cell_h (v := .int .i64 (X)) rfl O.held 1 rfl CX.out rfl agg3 rfl ?_) | ((with_reducible refine at_load 15 ?_); refine wpList_cell_h (v := .int .i64 (x)) rfl O.held 2 rfl LX.out rfl agg3 rfl ?_) | ((with_reducible refine at_load 19 ?_); refine wpList_cell_h (v := .int .i64 (Y)) rfl O.held 1 rfl CY.out rfl agg3 rfl ?_) | ((with_reducible refine at_load 23 ?_); refine wpList_cell_h (v := .int .i64 (y)) rfl O.held 2 rfl LY.out rfl agg3 rfl ?_) | ((with_reducible refine at_build 26 ?_); refine wpList_build_g rfl ([(0, .int .i64 p1), (1, .int .i64 p2)]) ((M.mat 2 (DM.t2 p1 p2)).toArray) ?_ (builtP _ _) ?_; (focus (simp only [List.map_toArray, List.map_cons, List.map_nil]; rfl))) | ((with_reducible refine at_store 4 ?_); refine wpList_put_own O 0 (M.mat 2 (DM.t2 p1 p2)) rfl rfl rfl (sP _) (M.mat_len2 _ _ _) (M.mat_one _ _) ?_; clear O; intro w4 O))
 exact bodyPost_ret (v := arr 2 (DM.t2 p1 p2)) (res_h rfl O.held 0 rfl rfl Tryz.underlying44 rfl (sP _)) rfl ⟨rfl, O.below⟩
set_option maxRecDepth 100000 in
set_option maxHeartbeats 8000000 in
theorem wreach_any (a b r : Nat → Int) (n : Int) (t : Bool) (hn : 1 ≤ n ∧ n ≤ 64) (w : World) : Calls Tryz.prog 17 #[arr 17 (WD.ln a b n (DM.t2 (WD.bx t) (WD.by_ t))), arr 4 r] w fun e w' => e = .returned (arr 4 (WD.rch n t r)) ∧ Below w.heap.size w w' := by
 have O := Own.start w
 have CR := fun w => right_any r w
 unfold WD.rch
 have hxy := WD.bx_is t
 generalize WD.bx t = x at *
 generalize WD.by_ t = y at *
 cases hr : RC.right r
 ·
  rw [hr] at CR
  rw [if_neg (by decide)]
  clear hr hxy hn
  go_enter Tryz.func17, Tryz.ntmps17
  go_wp2_with (first | ((with_reducible refine at_box 2 ?_); refine wpList_box_own O (M.mat 17 (WD.ln a b n (DM.t2 x y))) rfl ?_; clear O; intro g2 w1 O) | ((with_reducible refine at_box 3 ?_); refine wpList_box_own O (M.mat 4 (r)) rfl ?_; clear O; intro g3 w2 O) | ((with_reducible refine at_alloc 4 ?_); refine wpList_alloc_own O (M.mat 4 M.zero) zeroR ?_; clear O; intro g4 w3 O) | ((with_reducible refine at_load 5 ?_); refine wpList_whole rfl O 1 rfl rfl Tryz.underlying29 rfl (sR _) ?_) | (go_at_call 41; refine (CR _).mono ?_; rintro e w4 ⟨rfl, hb⟩; replace O := O.call hb; clear hb) | ((with_reducible refine at_build 8 ?_); refine wpList_build_g rfl ([]) ((M.mat 4 M.zero).toArray) ?_ (builtRz) ?_; (focus (simp only [List.map_toArray, List.map_cons, List.map_nil]; rfl))) | ((with_reducible refine at_store 4 ?_); refine wpList_put_own O 0 (M.mat 4 (M.zero)) rfl rfl rfl (sR _) (M.mat_len2 _ _ _) (M.mat_one _ _) ?_; clear O; intro w5 O))
  exact bodyPost_ret (v := arr 4 M.zero) (res_h rfl O.held 0 rfl rfl Tryz.underlying29 rfl (sR _)) rfl ⟨rfl, O.below⟩
 ·
  rw [hr] at CR
  rw [if_pos rfl]
  obtain ⟨x0, ex0⟩ : ∃ z, r 0 = z := ⟨_, rfl⟩
  have Cx0 := cell_is (n := 4) ex0 (by decide)
  obtain ⟨y0, ey0⟩ : ∃ z, r 1 = z := ⟨_, rfl⟩
  have Cy0 := cell_is (n := 4) ey0 (by decide)
  obtain ⟨x1, ex1⟩ : ∃ z, r 2 = z := ⟨_, rfl⟩
  have Cx1 := cell_is (n := 4) ex1 (by decide)
  obtain ⟨y1, ey1⟩ : ∃ z, r 3 = z := ⟨_, rfl⟩
  have Cy1 := cell_is (n := 4) ey1 (by decide)
  have hl := RC.right_lim hr ex0 ey0 ex1 ey1
  have S1 : Hid (∀ z, (M.mat 4 r).set 0 (.int .i64 z) = M.mat 4 (RC.mk z y0 x1 y1)) := Lib.hid (fun z => by rw [← ey0, ← ex1, ← ey1]; rfl)
  have S2 : Hid (∀ u z, (M.mat 4 (RC.mk u y0 x1 y1)).set 1 (.int .i64 z) = M.mat 4 (RC.mk u z x1 y1)) := Lib.hid (fun u z => rfl)
  rw [ex0, ey0, ex1, ey1]
  clear ex0 ey0 ex1 ey1 hr
  have LN := Lib.hid (ln_n a b n (DM.t2 x y))
  have LX := Lib.hid (ln_p a b n x y).1
  have LY := Lib.hid (ln_p a b n x y).2
  obtain ⟨m, hm⟩ : ∃ m, n - 1 = m := ⟨_, rfl⟩
  have W1 : wrap64 (n - 1) = m := (IntWalk.wrap64_in _ (by omega)).trans hm
  obtain ⟨u, hu⟩ : ∃ u, m * x = u := ⟨_, rfl⟩
  obtain ⟨s, hs⟩ : ∃ s, m * y = s := ⟨_, rfl⟩
  rw [hm, hu, hs]
  have hb : (0 ≤ u ∧ u ≤ 63) ∧ (0 ≤ s ∧ s ≤ 63) := by
   rcases hxy with ⟨rfl, rfl⟩ | ⟨rfl, rfl⟩
   ·
    rw [Int.mul_one] at hu
    rw [Int.mul_zero] at hs
    omega
   ·
    rw [Int.mul_zero] at hu
    rw [Int.mul_one] at hs
    omega
  have W3 : wrap64 (m * x) = u := (IntWalk.wrap64_in _ (by omega)).trans hu
  have W4 : wrap64 (m * y) = s := (IntWalk.wrap64_in _ (by omega)).trans hs
  obtain ⟨p1, hp1⟩ : ∃ p, x0 - u = p := ⟨_, rfl⟩
  obtain ⟨p2, hp2⟩ : ∃ p, y0 - s = p := ⟨_, rfl⟩
  have W5 : wrap64 (x0 - u) = p1 := (IntWalk.wrap64_in _ (by omega)).trans hp1
  have W6 : wrap64 (y0 - s) = p2 := (IntWalk.wrap64_in _ (by omega)).trans hp2
  rw [hp1, hp2]
  obtain ⟨q1, hq1⟩ : ∃ q, max p1 (-4194304) = q := ⟨_, rfl⟩
  obtain ⟨q2, hq2⟩ : ∃ q, max p2 (-4194304) = q := ⟨_, rfl⟩
  rw [hq1, hq2]
  have HQ1 := Lib.hid (congrArg (Value.int IntKind.i64) hq1)
  have HQ2 := Lib.hid (congrArg (Value.int IntKind.i64) hq2)
  clear hm hu hs hb hp1 hp2 hxy hn hl hq1 hq2
  go_enter Tryz.func17, Tryz.ntmps17
  go_wp2_with (first | ((with_reducible refine at_box 2 ?_); refine wpList_box_own O (M.mat 17 (WD.ln a b n (DM.t2 x y))) rfl ?_; clear O; intro g2 w1 O) | ((with_reducible refine at_box 3 ?_); refine wpList_box_own O (M.mat 4 (r)) rfl ?_; clear O; intro g3 w2 O) | ((with_reducible refine at_alloc 4 ?_); refine wpList_alloc_own O (M.mat 4 M.zero) zeroR ?_; clear O; intro g4 w3 O) | ((with_reducible first | refine at_load 5 ?_ | refine at_load 33 ?_); refine wpList_whole rfl O 1 rfl rfl Tryz.underlying29 rfl (sR _) ?_) | (go_at_call 41; refine (CR _).mono ?_; rintro e w4 ⟨rfl, hb⟩; replace O := O.call hb; clear hb) | ((with_reducible refine at_load 10 ?_); refine wpList_cell_h (v := .int .i64 (x0)) rfl O.held 1 rfl Cx0.out rfl agg3 rfl ?_) | ((with_reducible first | refine at_load 12 ?_ | refine at_load 24 ?_); refine wpList_cell_h (v := .int .i64 (n)) rfl O.held 2 rfl LN.out rfl agg3 rfl ?_) | ((with_reducible refine at_load 16 ?_); refine wpList_cell_h (v := .int .i64 (x)) rfl O.held 2 rfl LX.out rfl agg3 rfl ?_) | ((with_reducible refine at_store 20 ?_); refine wpList_set_own O 1 (i := 0) (.int .i64 q1) rfl (by rw [M.mat_len]; omega) rfl (by first | rfl | exact HQ1.out) size3 rfl rfl ?_; clear O; intro w5 O; have O9 := Own.as O (l' := [(g4, 29, M.mat 4 M.zero), (g3, 29, M.mat 4 (RC.mk q1 y0 x1 y1)), (g2, 47, M.mat 17 (WD.ln a b n (DM.t2 x y)))]) (by first | (rw [← S1.out q1]; rfl) | (rw [← S2.out q1 q1]; rfl)); clear O; have O := O9; clear O9) | ((with_reducible refine at_load 22 ?_); refine wpList_cell_h (v := .int .i64 y0) rfl O.held 1 rfl (show (M.mat 4 (RC.mk q1 y0 x1 y1))[1]? = _ from rfl) rfl agg3 rfl ?_) | ((with_reducible refine at_load 28 ?_); refine wpList_cell_h (v := .int .i64 (y)) rfl O.held 2 rfl LY.out rfl agg3 rfl ?_) | ((with_reducible refine at_store 32 ?_); refine wpList_set_own O 1 (i := 1) (.int .i64 q2) rfl (by rw [M.mat_len]; omega) rfl (by first | rfl | exact HQ2.out) size3 rfl rfl ?_; clear O; intro w6 O; have O9 := Own.as O (l' := [(g4, 29, M.mat 4 M.zero), (g3, 29, M.mat 4 (RC.mk q1 q2 x1 y1)), (g2, 47, M.mat 17 (WD.ln a b n (DM.t2 x y)))]) (by first | (rw [← S1.out q2]; rfl) | (rw [← S2.out q1 q2]; rfl)); clear O; have O := O9; clear O9) | ((with_reducible refine at_store 4 ?_); refine wpList_put_own O 0 (M.mat 4 (RC.mk q1 q2 x1 y1)) rfl rfl rfl (sR _) (M.mat_len2 _ _ _) (M.mat_one _ _) ?_; clear O; intro w7 O))
  exact bodyPost_ret (v := arr 4 (RC.mk q1 q2 x1 y1)) (res_h rfl O.held 0 rfl rfl Tryz.underlying29 rfl (sR _)) rfl ⟨rfl, O.below⟩
end Go.Proofs.YtpfhaocmcfnhnaaGreat
