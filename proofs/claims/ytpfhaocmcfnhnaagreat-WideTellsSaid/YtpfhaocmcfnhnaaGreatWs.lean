/- Contracts: the document's Same, May, Right, Core; the example. -/
import Derived.Test.YtpfhaocmcfnhnaaGreatWm
import Derived.Test.YtpfhaocmcfnhnaaGreatWn
import Derived.Test.YtpfhaocmcfnhnaaGreatHz
import Derived.Test.YtpfhaocmcfnhnaaGreatXb
namespace Go.Proofs.YtpfhaocmcfnhnaaGreat
open Go.ChangeShapes Go.WideShapes Go.ChangeAt Go.RowKit
set_option linter.unusedVariables false
set_option linter.unusedSimpArgs false

theorem meas_lt2 {m j : Nat} (h : j < m) : m - (intOf (Value.int IntKind.i64 ((j : Int) + 1))).toNat < m - (intOf (Value.int IntKind.i64 (j : Int))).toNat := by
 simp only [intOf]
 omega
/-- A cell that is read (operation i) and written (operation j, behind it) in a region that draws its order. -/
def RS (w0 : World) (l0 l1 : List (Nat × TypeId × List Value)) (i j : Nat) (v : Value) (st : Nat → Option Value) (w : World) : Prop :=
 (∀ u, st i = some u → u = v) ∧ ((st j).isSome = true → (st i).isSome = true) ∧ Own w0 w (if (st j).isSome = true then l1 else l0)
section
variable {w0 w : World} {l0 l1 : List (Nat × TypeId × List Value)} {i j : Nat} {v : Value} {st : Nat → Option Value}
theorem RS.start (O : Own w0 w l0) : RS w0 l0 l1 i j v (fun _ => none) w := ⟨fun u h => (by cases h), fun h => (by cases h), O⟩
theorem RS.val (h : RS w0 l0 l1 i j v st w) (hi : (st i).isSome = true) : st i = some v := by
 obtain ⟨u, hu⟩ := Option.isSome_iff_exists.1 hi
 rw [hu, h.1 u hu]
theorem RS.any (h : RS w0 l0 l1 i j v st w) : Own w0 w l0 ∨ Own w0 w l1 := by
 have h3 := h.2.2
 split at h3
 · exact .inr h3
 · exact .inl h3
theorem RS.fst (h : RS w0 l0 l1 i j v st w) (hn : st j = none) : Own w0 w l0 := by
 have h3 := h.2.2
 rw [hn] at h3
 exact h3
theorem RS.fst' (h : RS w0 l0 l1 i j v st w) (hn : st i = none) : Own w0 w l0 := h.fst (by
 cases hj : st j with
 | none => rfl
 | some u =>
  have := h.2.1 (by rw [hj]; rfl)
  rw [hn] at this
  cases this)
theorem RS.read (h : RS w0 l0 l1 i j v st w) (hij : j ≠ i) (hn : st i = none) : RS w0 l0 l1 i j v (upd st i v) w := by
 have O := h.fst' hn
 have hj : st j = none := by
  cases hj : st j with
  | none => rfl
  | some u =>
   have := h.2.1 (by rw [hj]; rfl)
   rw [hn] at this
   cases this
 refine ⟨fun u hu => ?_, fun _ => by rw [upd_same]; rfl, ?_⟩
 ·
  rw [upd_same] at hu
  exact (Option.some.inj hu).symm
 ·
  rw [upd_other st v hij, hj]
  exact O
theorem RS.put (h : RS w0 l0 l1 i j v st w) (hij : i ≠ j) (hi : (st i).isSome = true) (u : Value) {w1 : World} (O : Own w0 w1 l1) : RS w0 l0 l1 i j v (upd st j u) w1 := by
 refine ⟨fun z hz => ?_, fun _ => ?_, ?_⟩
 ·
  rw [upd_other st u hij] at hz
  exact h.1 z hz
 ·
  rw [upd_other st u hij]
  exact hi
 ·
  rw [upd_same]
  exact O
theorem RS.done (h : RS w0 l0 l1 i j v st w) (hj : (st j).isSome = true) : Own w0 w l1 := by
 have h3 := h.2.2
 rw [if_pos hj] at h3
 exact h3
end
set_option maxRecDepth 100000 in
set_option maxHeartbeats 8000000 in
theorem rsame_any (l : List (Nat → Int)) {lo1 lo2 : Nat} {A1 A2 : Option Addr} {c1 c2 : Nat} (h9 : l.length ≤ 1000000000) (w : World) (h1 : Lies w free (gE lo1 A1 c1 l)) (h2 : Lies w free (gE lo2 A2 c2 l)) :
  Calls Tryz.prog 8 #[.slice A1 l.length c1, .slice A2 l.length c2] w fun e w' => e = .returned (.bool true) ∧ Below w.heap.size w w' := by
 have O := Held.start w [gE lo1 A1 c1 l, gE lo2 A2 c2 l] (by
  intro x hx
  simp only [List.mem_cons, List.not_mem_nil, or_false] at hx
  rcases hx with rfl | rfl
  · exact h1
  · exact h2)
 clear h1 h2
 have k1 : ((l.length : Int) != (l.length : Int)) = false := by simp
 go_enter Tryz.func8, Tryz.ntmps8
 go_wp2_with fail
 clear k1
 go_loopw [5] (fun t wr => ∃ k : Nat, k ≤ l.length ∧ t = .int .i64 k ∧ Held w wr [] nilRow [gE lo1 A1 c1 l, gE lo2 A2 c2 l]) (fun t _ => l.length - (intOf t).toNat)
 case atStart => exact ⟨0, Nat.zero_le _, rfl, O⟩
 case round =>
  clear O
  obtain ⟨k, hk, rfl, O⟩ := hrel
  have q0 : (0 : Int) ≤ k := by omega
  by_cases hlt : k < l.length
  ·
   have q1 : (k : Int) < l.length := by omega
   have W1 : wrap64 ((k : Int) + 1) = (k : Int) + 1 := IntWalk.wrap64_in _ (by omega)
   obtain ⟨x, hx⟩ : ∃ x, l[k]? = some x := ⟨_, List.getElem?_eq_getElem hlt⟩
   have HX := Lib.hid hx
   clear hx
   go_wp2_with fail
   refine region_T ((fun w2 => Held w w2 [] nilRow [gE lo1 A1 c1 l, gE lo2 A2 c2 l])) [0, 1, 2, 3, 4, 5, 6, 7, 8] 12 [some 17, some 18, some 19, some 20, some 21, some 22, some 23, some 24, some 25] [.slice A1 l.length c1, .int .i64 k, .pointer (some ((adr A1).add (k * 8))), arr 8 x, .slice A2 l.length c2, .int .i64 k, .pointer (some ((adr A2).add (k * 8))), arr 8 x, .bool false] 0 (by kernel_rfl) (by rfl) (by kernel_rfl) (by rfl) (by rfl) (O.drew) (fun F hF => ?_)
   simp only [fillD, Act.put, List.setIfInBounds_toArray, List.set_cons_zero, List.set_cons_succ] at hF
   subst hF
   refine ⟨⟨does_want rfl (by rfl) (fun w' O K hK => ?_), does_want rfl (by rfl) (fun w' O K hK => ?_), does_want rfl (by rfl) (fun w' O K hK => ?_), does_want rfl (by rfl) (fun w' O K hK => ?_), does_want rfl (by rfl) (fun w' O K hK => ?_), does_want rfl (by rfl) (fun w' O K hK => ?_), does_want rfl (by rfl) (fun w' O K hK => ?_), does_want rfl (by rfl) (fun w' O K hK => ?_), does_want rfl (by rfl) (fun w' O K hK => ?_), trivial⟩, fun w' O => ?_⟩
   ·
    go_simp
    exact hK _ O
   ·
    go_simp
    exact hK _ O
   · exact wp_at_h Tryz.underlying34 sizeOfG _ (O.mem List.mem_cons_self) rfl (k) rfl rfl (by omega) rfl (hK _ O)
   · exact wp_elem_h _ (O.mem List.mem_cons_self) (k * 8) (M.mat 8 x) (gC_at HX.out) (by rw [M.mat_len]; decide) rfl Tryz.underlying42 rfl (sG _) (hK _ O)
   ·
    go_simp
    exact hK _ O
   ·
    go_simp
    exact hK _ O
   · exact wp_at_h Tryz.underlying34 sizeOfG _ (O.mem (List.mem_cons_of_mem _ List.mem_cons_self)) rfl (k) rfl rfl (by omega) rfl (hK _ O)
   · exact wp_elem_h _ (O.mem (List.mem_cons_of_mem _ List.mem_cons_self)) (k * 8) (M.mat 8 x) (gC_at HX.out) (by rw [M.mat_len]; decide) rfl Tryz.underlying42 rfl (sG _) (hK _ O)
   ·
    refine wp_neqG x x rfl rfl ?_
    rw [M.eqB_refl]
    exact hK _ O
   refine wpAny_done (by kernel_rfl) ?_ _
   go_wp2_with fail
   go_roundw
   case rel => exact ⟨k + 1, by omega, by go_num, O⟩
   case measure => exact meas_lt2 hlt
  ·
   have q1 : ¬ (k : Int) < l.length := by omega
   go_wp2_with fail
   go_ret
   exact ⟨rfl, O.below⟩
set_option maxHeartbeats 8000000 in
theorem rmay_any (v : Nat → Int) (w : World) : Calls Tryz.prog 32 #[arr 7 v] w fun e w' => e = .returned (.bool (VM.fit v)) ∧ Below w.heap.size w w' := by
 have O := Own.start w
 have HB := Lib.hid (fun i (hi : i < 4) => VM.fit_out (v := v) hi)
 have HN := Lib.hid (VM.fit_end (v := v))
 obtain ⟨x0, ex0⟩ : ∃ z, v 0 = z := ⟨_, rfl⟩
 have Cx0 := cell_is (n := 7) ex0 (by decide)
 obtain ⟨x1, ex1⟩ : ∃ z, v 1 = z := ⟨_, rfl⟩
 have Cx1 := cell_is (n := 7) ex1 (by decide)
 obtain ⟨x2, ex2⟩ : ∃ z, v 2 = z := ⟨_, rfl⟩
 have Cx2 := cell_is (n := 7) ex2 (by decide)
 rw [ex0, ex1, ex2] at HN
 clear ex0 ex1 ex2
 go_enter Tryz.func32, Tryz.ntmps32
 go_wp2_with ((with_reducible refine at_box 1 ?_); refine wpList_box_own O (M.mat 7 (v)) rfl ?_; clear O; intro g1 w1 O)
 go_loopw [3] (fun u wr => ∃ k : Nat, k ≤ 4 ∧ u = .int .i64 k ∧ (∀ i, i < k → VM.okc (v (3 + i)) = true) ∧ w1 = wr) (fun t _ => 4 - (intOf t).toNat)
 case atStart => exact ⟨0, by omega, rfl, fun i hi => absurd hi (by omega), rfl⟩
 case round =>
  obtain ⟨k, hk, rfl, hall, rfl⟩ := hrel
  have q0 : (0 : Int) ≤ k := by omega
  have HA := Lib.hid hall
  clear hall
  have hB := O.below
  by_cases hlt : k < 4
  ·
   have q1 : (k : Int) < 4 := by omega
   obtain ⟨z, hz⟩ : ∃ z, v (3 + k) = z := ⟨_, rfl⟩
   have CZ := cell_is (n := 7) hz (by omega)
   have HK := HB.out k hlt
   rw [hz] at HK
   cases hc : VM.okc z
   ·
    have HF := Lib.hid (HK hc)
    clear HK hz HB HN
    have hd : z < 0 ∨ 255 < z := by
     rw [← Bool.not_eq_true, VM.okc_iff] at hc
     omega
    clear hc
    rcases hd with hd | hd
    ·
     have k1 : decide (z < 0) = true := by simpa using hd
     clear hd
     go_wp2_with (first | ((with_reducible first | refine at_index_ 10 ?_ | refine at_index_ 16 ?_); refine wpList_ino rfl Tryz.underlying23 sizeOf3 (by decide) (k) rfl rfl (rfl) (by omega) ?_) | ((with_reducible first | refine at_load 11 ?_ | refine at_load 17 ?_); refine wpList_cell_h (v := .int .i64 (z)) rfl O.held 0 rfl CZ.out rfl agg3 rfl ?_))
     go_ret
     exact ⟨by rw [HF.out]; rfl, hB⟩
    ·
     have k1 : decide (z < 0) = false := by simp; omega
     have k2 : decide (255 < z) = true := by simpa using hd
     clear hd
     go_wp2_with (first | ((with_reducible first | refine at_index_ 10 ?_ | refine at_index_ 16 ?_); refine wpList_ino rfl Tryz.underlying23 sizeOf3 (by decide) (k) rfl rfl (rfl) (by omega) ?_) | ((with_reducible first | refine at_load 11 ?_ | refine at_load 17 ?_); refine wpList_cell_h (v := .int .i64 (z)) rfl O.held 0 rfl CZ.out rfl agg3 rfl ?_))
     go_ret
     exact ⟨by rw [HF.out]; rfl, hB⟩
   ·
    clear HK
    have HC := Lib.hid (show VM.okc (v (3 + k)) = true by rw [hz]; exact hc)
    obtain ⟨d1, d2⟩ := VM.okc_iff.1 hc
    have k1 : decide (z < 0) = false := by simp; omega
    have k2 : decide (255 < z) = false := by simp; omega
    clear hc hz d1 d2
    go_wp2_with (first | ((with_reducible first | refine at_index_ 10 ?_ | refine at_index_ 16 ?_); refine wpList_ino rfl Tryz.underlying23 sizeOf3 (by decide) (k) rfl rfl (rfl) (by omega) ?_) | ((with_reducible first | refine at_load 11 ?_ | refine at_load 17 ?_); refine wpList_cell_h (v := .int .i64 (z)) rfl O.held 0 rfl CZ.out rfl agg3 rfl ?_))
    go_roundw
    case rel => exact ⟨k + 1, by omega, by go_num, fun i hi => by
     by_cases e : i = k
     · subst e; exact HC.out
     · exact HA.out i (by omega), trivial⟩
    case measure => simp [intOf]; omega
  ·
   have q1 : ¬ (k : Int) < 4 := by omega
   obtain rfl : k = 4 := by omega
   have HE := Lib.hid (HN.out HA.out)
   unfold VM.okv at HE
   clear HN HB HA
   cases k0 : decide (-268435456 ≤ x0)
   ·
    rw [k0] at HE
    go_wp2_with (first | ((with_reducible first | refine at_load 21 ?_ | refine at_load 25 ?_); refine wpList_cell_h (v := .int .i64 (x0)) rfl O.held 0 rfl Cx0.out rfl agg3 rfl ?_) | ((with_reducible first | refine at_load 30 ?_ | refine at_load 35 ?_); refine wpList_cell_h (v := .int .i64 (x1)) rfl O.held 0 rfl Cx1.out rfl agg3 rfl ?_) | ((with_reducible first | refine at_load 40 ?_ | refine at_load 45 ?_); refine wpList_cell_h (v := .int .i64 (x2)) rfl O.held 0 rfl Cx2.out rfl agg3 rfl ?_))
    go_ret
    exact ⟨by rw [HE.out]; rfl, hB⟩
   cases k1 : decide (x0 ≤ 268435456)
   ·
    rw [k0, k1] at HE
    go_wp2_with (first | ((with_reducible first | refine at_load 21 ?_ | refine at_load 25 ?_); refine wpList_cell_h (v := .int .i64 (x0)) rfl O.held 0 rfl Cx0.out rfl agg3 rfl ?_) | ((with_reducible first | refine at_load 30 ?_ | refine at_load 35 ?_); refine wpList_cell_h (v := .int .i64 (x1)) rfl O.held 0 rfl Cx1.out rfl agg3 rfl ?_) | ((with_reducible first | refine at_load 40 ?_ | refine at_load 45 ?_); refine wpList_cell_h (v := .int .i64 (x2)) rfl O.held 0 rfl Cx2.out rfl agg3 rfl ?_))
    go_ret
    exact ⟨by rw [HE.out]; rfl, hB⟩
   cases k2 : decide (-268435456 ≤ x1)
   ·
    rw [k0, k1, k2] at HE
    go_wp2_with (first | ((with_reducible first | refine at_load 21 ?_ | refine at_load 25 ?_); refine wpList_cell_h (v := .int .i64 (x0)) rfl O.held 0 rfl Cx0.out rfl agg3 rfl ?_) | ((with_reducible first | refine at_load 30 ?_ | refine at_load 35 ?_); refine wpList_cell_h (v := .int .i64 (x1)) rfl O.held 0 rfl Cx1.out rfl agg3 rfl ?_) | ((with_reducible first | refine at_load 40 ?_ | refine at_load 45 ?_); refine wpList_cell_h (v := .int .i64 (x2)) rfl O.held 0 rfl Cx2.out rfl agg3 rfl ?_))
    go_ret
    exact ⟨by rw [HE.out]; rfl, hB⟩
   cases k3 : decide (x1 ≤ 268435456)
   ·
    rw [k0, k1, k2, k3] at HE
    go_wp2_with (first | ((with_reducible first | refine at_load 21 ?_ | refine at_load 25 ?_); refine wpList_cell_h (v := .int .i64 (x0)) rfl O.held 0 rfl Cx0.out rfl agg3 rfl ?_) | ((with_reducible first | refine at_load 30 ?_ | refine at_load 35 ?_); refine wpList_cell_h (v := .int .i64 (x1)) rfl O.held 0 rfl Cx1.out rfl agg3 rfl ?_) | ((with_reducible first | refine at_load 40 ?_ | refine at_load 45 ?_); refine wpList_cell_h (v := .int .i64 (x2)) rfl O.held 0 rfl Cx2.out rfl agg3 rfl ?_))
    go_ret
    exact ⟨by rw [HE.out]; rfl, hB⟩
   cases k4 : decide (0 ≤ x2)
   ·
    rw [k0, k1, k2, k3, k4] at HE
    go_wp2_with (first | ((with_reducible first | refine at_load 21 ?_ | refine at_load 25 ?_); refine wpList_cell_h (v := .int .i64 (x0)) rfl O.held 0 rfl Cx0.out rfl agg3 rfl ?_) | ((with_reducible first | refine at_load 30 ?_ | refine at_load 35 ?_); refine wpList_cell_h (v := .int .i64 (x1)) rfl O.held 0 rfl Cx1.out rfl agg3 rfl ?_) | ((with_reducible first | refine at_load 40 ?_ | refine at_load 45 ?_); refine wpList_cell_h (v := .int .i64 (x2)) rfl O.held 0 rfl Cx2.out rfl agg3 rfl ?_))
    go_ret
    exact ⟨by rw [HE.out]; rfl, hB⟩
   cases k5 : decide (x2 ≤ 16777215)
   ·
    rw [k0, k1, k2, k3, k4, k5] at HE
    go_wp2_with (first | ((with_reducible first | refine at_load 21 ?_ | refine at_load 25 ?_); refine wpList_cell_h (v := .int .i64 (x0)) rfl O.held 0 rfl Cx0.out rfl agg3 rfl ?_) | ((with_reducible first | refine at_load 30 ?_ | refine at_load 35 ?_); refine wpList_cell_h (v := .int .i64 (x1)) rfl O.held 0 rfl Cx1.out rfl agg3 rfl ?_) | ((with_reducible first | refine at_load 40 ?_ | refine at_load 45 ?_); refine wpList_cell_h (v := .int .i64 (x2)) rfl O.held 0 rfl Cx2.out rfl agg3 rfl ?_))
    go_ret
    exact ⟨by rw [HE.out]; rfl, hB⟩
   rw [k0, k1, k2, k3, k4, k5] at HE
   go_wp2_with (first | ((with_reducible first | refine at_load 21 ?_ | refine at_load 25 ?_); refine wpList_cell_h (v := .int .i64 (x0)) rfl O.held 0 rfl Cx0.out rfl agg3 rfl ?_) | ((with_reducible first | refine at_load 30 ?_ | refine at_load 35 ?_); refine wpList_cell_h (v := .int .i64 (x1)) rfl O.held 0 rfl Cx1.out rfl agg3 rfl ?_) | ((with_reducible first | refine at_load 40 ?_ | refine at_load 45 ?_); refine wpList_cell_h (v := .int .i64 (x2)) rfl O.held 0 rfl Cx2.out rfl agg3 rfl ?_))
   go_ret
   exact ⟨by rw [HE.out]; rfl, hB⟩
set_option maxHeartbeats 8000000 in
theorem rlright_any (a b : Nat → Int) (n : Int) (d : Nat → Int) (w : World) : Calls Tryz.prog 10 #[arr 7 a, arr 7 b, .int .i64 n, arr 3 d] w fun e w' => e = .returned (.bool (WD.right a b n d)) ∧ Below w.heap.size w w' := by
 have O := Own.start w
 have CA := fun w => rmay_any a w
 have CB := fun w => rmay_any b w
 have CD := fun w => dright_any d w
 have HE : Hid (WD.right a b n d = (VM.fit a && (VM.fit b && ((decide (1 ≤ n) && decide (n ≤ 64)) && HM.right d)))) := Lib.hid rfl
 generalize VM.fit a = za at *
 generalize VM.fit b = zb at *
 generalize HM.right d = zd at *
 have tok0 : True := trivial
 cases za
 ·
  go_enter Tryz.func10, Tryz.ntmps10
  go_wp2_with (first | ((with_reducible refine at_box 4 ?_); refine wpList_box_own O (M.mat 7 (a)) rfl ?_; clear O; intro g4 w1 O) | ((with_reducible refine at_box 5 ?_); refine wpList_box_own O (M.mat 7 (b)) rfl ?_; clear O; intro g5 w2 O) | ((with_reducible refine at_box 7 ?_); refine wpList_box_own O (M.mat 3 (d)) rfl ?_; clear O; intro g7 w3 O) | ((with_reducible refine at_load 9 ?_); refine wpList_whole rfl O 2 rfl rfl Tryz.underlying25 rfl (sW _) ?_) | (go_at_call 32; clear tok0; have tok1 : True := trivial; refine (CA _).mono ?_; rintro e w4 ⟨rfl, hb⟩; replace O := O.call hb; clear hb))
  go_ret
  exact ⟨by rw [HE.out]; rfl, O.below⟩
 ·
  cases zb
  ·
   go_enter Tryz.func10, Tryz.ntmps10
   go_wp2_with (first | ((with_reducible refine at_box 4 ?_); refine wpList_box_own O (M.mat 7 (a)) rfl ?_; clear O; intro g4 w1 O) | ((with_reducible refine at_box 5 ?_); refine wpList_box_own O (M.mat 7 (b)) rfl ?_; clear O; intro g5 w2 O) | ((with_reducible refine at_box 7 ?_); refine wpList_box_own O (M.mat 3 (d)) rfl ?_; clear O; intro g7 w3 O) | ((with_reducible refine at_load 9 ?_); refine wpList_whole rfl O 2 rfl rfl Tryz.underlying25 rfl (sW _) ?_) | (go_at_call 32; clear tok0; have tok1 : True := trivial; refine (CA _).mono ?_; rintro e w4 ⟨rfl, hb⟩; replace O := O.call hb; clear hb) | ((with_reducible refine at_load 12 ?_); refine wpList_whole rfl O 1 rfl rfl Tryz.underlying25 rfl (sW _) ?_) | (go_at_call 32; clear tok1; have tok2 : True := trivial; refine (CB _).mono ?_; rintro e w5 ⟨rfl, hb⟩; replace O := O.call hb; clear hb))
   go_ret
   exact ⟨by rw [HE.out]; rfl, O.below⟩
  ·
   cases h1 : decide (1 ≤ n)
   ·
    rw [h1] at HE
    go_enter Tryz.func10, Tryz.ntmps10
    go_wp2_with (first | ((with_reducible refine at_box 4 ?_); refine wpList_box_own O (M.mat 7 (a)) rfl ?_; clear O; intro g4 w1 O) | ((with_reducible refine at_box 5 ?_); refine wpList_box_own O (M.mat 7 (b)) rfl ?_; clear O; intro g5 w2 O) | ((with_reducible refine at_box 7 ?_); refine wpList_box_own O (M.mat 3 (d)) rfl ?_; clear O; intro g7 w3 O) | ((with_reducible refine at_load 9 ?_); refine wpList_whole rfl O 2 rfl rfl Tryz.underlying25 rfl (sW _) ?_) | (go_at_call 32; clear tok0; have tok1 : True := trivial; refine (CA _).mono ?_; rintro e w4 ⟨rfl, hb⟩; replace O := O.call hb; clear hb) | ((with_reducible refine at_load 12 ?_); refine wpList_whole rfl O 1 rfl rfl Tryz.underlying25 rfl (sW _) ?_) | (go_at_call 32; clear tok1; have tok2 : True := trivial; refine (CB _).mono ?_; rintro e w5 ⟨rfl, hb⟩; replace O := O.call hb; clear hb))
    go_ret
    exact ⟨by rw [HE.out]; rfl, O.below⟩
   ·
    cases h2 : decide (n ≤ 64)
    ·
     rw [h1, h2] at HE
     go_enter Tryz.func10, Tryz.ntmps10
     go_wp2_with (first | ((with_reducible refine at_box 4 ?_); refine wpList_box_own O (M.mat 7 (a)) rfl ?_; clear O; intro g4 w1 O) | ((with_reducible refine at_box 5 ?_); refine wpList_box_own O (M.mat 7 (b)) rfl ?_; clear O; intro g5 w2 O) | ((with_reducible refine at_box 7 ?_); refine wpList_box_own O (M.mat 3 (d)) rfl ?_; clear O; intro g7 w3 O) | ((with_reducible refine at_load 9 ?_); refine wpList_whole rfl O 2 rfl rfl Tryz.underlying25 rfl (sW _) ?_) | (go_at_call 32; clear tok0; have tok1 : True := trivial; refine (CA _).mono ?_; rintro e w4 ⟨rfl, hb⟩; replace O := O.call hb; clear hb) | ((with_reducible refine at_load 12 ?_); refine wpList_whole rfl O 1 rfl rfl Tryz.underlying25 rfl (sW _) ?_) | (go_at_call 32; clear tok1; have tok2 : True := trivial; refine (CB _).mono ?_; rintro e w5 ⟨rfl, hb⟩; replace O := O.call hb; clear hb))
     go_ret
     exact ⟨by rw [HE.out]; rfl, O.below⟩
    ·
     rw [h1, h2] at HE
     cases zd
     all_goals
      go_enter Tryz.func10, Tryz.ntmps10
      go_wp2_with (first | ((with_reducible refine at_box 4 ?_); refine wpList_box_own O (M.mat 7 (a)) rfl ?_; clear O; intro g4 w1 O) | ((with_reducible refine at_box 5 ?_); refine wpList_box_own O (M.mat 7 (b)) rfl ?_; clear O; intro g5 w2 O) | ((with_reducible refine at_box 7 ?_); refine wpList_box_own O (M.mat 3 (d)) rfl ?_; clear O; intro g7 w3 O) | ((with_reducible refine at_load 9 ?_); refine wpList_whole rfl O 2 rfl rfl Tryz.underlying25 rfl (sW _) ?_) | (go_at_call 32; clear tok0; have tok1 : True := trivial; refine (CA _).mono ?_; rintro e w4 ⟨rfl, hb⟩; replace O := O.call hb; clear hb) | ((with_reducible refine at_load 12 ?_); refine wpList_whole rfl O 1 rfl rfl Tryz.underlying25 rfl (sW _) ?_) | (go_at_call 32; clear tok1; have tok2 : True := trivial; refine (CB _).mono ?_; rintro e w5 ⟨rfl, hb⟩; replace O := O.call hb; clear hb) | ((with_reducible refine at_load 24 ?_); refine wpList_whole rfl O 0 rfl rfl Tryz.underlying27 rfl (sH _) ?_) | (go_at_call 33; refine (CD _).mono ?_; rintro e w6 ⟨rfl, hb⟩; replace O := O.call hb; clear hb))
      go_ret
      exact ⟨by rw [HE.out]; rfl, O.below⟩
theorem rlwide_any (a b : Nat → Int) (ha : DM.Rg a) (hb : DM.Rg b) (w : World) : Calls Tryz.prog 24 #[arr 2 a, arr 2 b] w fun e w' => e = .returned (.bool (!DM.tall (b 0 - a 0) (b 1 - a 1))) ∧ Below w.heap.size w w' := by
 have O := Own.start w
 have CW := fun w => wide_any a b ha hb w
 generalize DM.tall (b 0 - a 0) (b 1 - a 1) = t at *
 clear ha hb
 go_enter Tryz.func24, Tryz.ntmps24
 go_wp2_with (first | ((with_reducible refine at_box 2 ?_); refine wpList_box_own O (M.mat 2 (a)) rfl ?_; clear O; intro g2 w1 O) | ((with_reducible refine at_box 3 ?_); refine wpList_box_own O (M.mat 2 (b)) rfl ?_; clear O; intro g3 w2 O) | ((with_reducible refine at_load 5 ?_); refine wpList_whole rfl O 1 rfl rfl Tryz.underlying44 rfl (sP _) ?_) | ((with_reducible refine at_load 6 ?_); refine wpList_whole rfl O 0 rfl rfl Tryz.underlying44 rfl (sP _) ?_) | (go_at_call 46; refine (CW _).mono ?_; rintro e w3 ⟨rfl, hb⟩; replace O := O.call hb; clear hb))
 go_ret
 exact ⟨rfl, O.below⟩
theorem results_cells {fn : Func} {p q : Tmp} {ty tz : TypeId} (h : fn.results = #[.cell p ty, .cell q tz]) (tmps : Array Value) (P : Program) (w : World) :
  (results fn tmps).run P w =
   ((asAddr (tmps.getD p undef)).run P w).andThen fun a w₁ => ((loadVar ty a).run P w₁).andThen fun v w₂ => ((asAddr (tmps.getD q undef)).run P w₂).andThen fun a' w₃ => ((loadVar tz a').run P w₃).andThen fun v' w₄ => .ok (.tuple #[v, v']) w₄ := by
 simp only [results, h]
 simp [Sem.run_bind, Result.andThen]
/-- Two results, each an array in a block of its own. -/
theorem res_cc {w0 w : World} {bs : List (Nat × TypeId × List Value)} {P : Program} {fn : Func} {p q : Tmp} {t : TypeId} (h : fn.results = #[.cell p t, .cell q t]) {tmps : Array Value} (O : Own w0 w bs) (k m : Nat) {g g' : Nat} {t1 t2 : TypeId} {cs ds : List Value} (hk : bs[k]? = some (g, t1, cs)) (hm : bs[m]? = some (g', t2, ds))
  (hp : tmps.getD p undef = .pointer (some ⟨g, 0, none⟩)) (hq : tmps.getD q undef = .pointer (some ⟨g', 0, none⟩)) {d : TypeDesc} (hu : P.underlying t = some d) (hd : (match d with | .struct _ | .array _ _ => true | _ => false) = true) (hi : (P.info? t).map (·.size) = some cs.length) (hj : (P.info? t).map (·.size) = some ds.length) :
  (results fn tmps).run P w = .ok (.tuple #[.agg cs.toArray, .agg ds.toArray]) w := by
 rw [results_cells h, hp, hq]
 have h1 := run_loadVar_row (P := P) w g t1 t cs.toArray (0, 0) _ (O.blk k hk) hu hd (by simpa using hi)
 have h2 := run_loadVar_row (P := P) w g' t2 t ds.toArray (0, 0) _ (O.blk m hm) hu hd (by simpa using hj)
 simp only [asAddr, Sem.run_pure, Result.andThen_ok, h1, h2]
theorem t2_get (x y : Int) : (M.mat 2 (DM.t2 x y))[0]? = some (.int .i64 x) ∧ (M.mat 2 (DM.t2 x y))[1]? = some (.int .i64 y) := ⟨rfl, rfl⟩
set_option maxRecDepth 100000 in
set_option maxHeartbeats 8000000 in
theorem rlcore_any (a b : Nat → Int) (n : Int) (ha : VM.fit a = true) (hb : VM.fit b = true) (hn : 1 ≤ n ∧ n ≤ 64) (w : World) : Calls Tryz.prog 21 #[arr 7 a, arr 7 b, .int .i64 n] w fun e w' => e = .returned (.tuple #[arr 2 (WD.core n (WD.tl a b) a), arr 2 (WD.core n (WD.tl a b) b)]) ∧ Below w.heap.size w w' := by
 have O := Own.start w
 obtain ⟨la0, la1, -, -⟩ := VM.fit_lim ha
 obtain ⟨lb0, lb1, -, -⟩ := VM.fit_lim hb
 unfold WD.core WD.tl
 obtain ⟨ax, eax⟩ : ∃ z, a 0 = z := ⟨_, rfl⟩
 have Cax := cell_is (n := 7) eax (by decide)
 obtain ⟨ay, eay⟩ : ∃ z, a 1 = z := ⟨_, rfl⟩
 have Cay := cell_is (n := 7) eay (by decide)
 obtain ⟨bx, ebx⟩ : ∃ z, b 0 = z := ⟨_, rfl⟩
 have Cbx := cell_is (n := 7) ebx (by decide)
 obtain ⟨bz, ebz⟩ : ∃ z, b 1 = z := ⟨_, rfl⟩
 have Cbz := cell_is (n := 7) ebz (by decide)
 rw [eax, eay, ebx, ebz]
 rw [eax] at la0
 rw [eay] at la1
 rw [ebx] at lb0
 rw [ebz] at lb1
 clear eax eay ebx ebz ha hb
 have CW := fun w => rlwide_any (DM.t2 ax ay) (DM.t2 bx bz) (by unfold DM.Rg; simp only [DM.t2]; simp; omega) (by unfold DM.Rg; simp only [DM.t2]; simp; omega) w
 simp only [DM.t2, if_true, Nat.one_ne_zero, if_false] at CW
 change ∀ w, Calls _ _ #[arr 2 (DM.t2 ax ay), arr 2 (DM.t2 bx bz)] w _ at CW
 obtain ⟨t, ht⟩ : ∃ t, DM.tall (bx - ax) (bz - ay) = t := ⟨_, rfl⟩
 rw [ht] at CW ⊢
 clear ht
 obtain ⟨m, hm⟩ : ∃ m, n - 1 = m := ⟨_, rfl⟩
 obtain ⟨q, hq⟩ : ∃ q, 128 * m = q := ⟨_, rfl⟩
 have W1 : wrap64 (n - 1) = m := (IntWalk.wrap64_in _ (by omega)).trans hm
 have W2 : wrap64 (128 * m) = q := (IntWalk.wrap64_in _ (by omega)).trans hq
 rw [hm, hq]
 have hq2 : 0 ≤ q ∧ q ≤ 8064 := by omega
 have HA0 := Lib.hid (t2_get ax ay).1
 have HA1 := Lib.hid (t2_get ax ay).2
 have HB0 := Lib.hid (t2_get bx bz).1
 have HB1 := Lib.hid (t2_get bx bz).2
 have HD1 : apart [⟨10, 12, 44, M.mat 2 M.zero, M.mat 2 (DM.t2 ax ay)⟩, ⟨11, 99, 44, M.mat 2 M.zero, M.mat 2 M.zero⟩] := (by decide : [10, 12, 11, 99].Nodup)
 clear hm hq hn
 cases t
 ·
  obtain ⟨y1, hy1⟩ : ∃ y, ay - q = y := ⟨_, rfl⟩
  obtain ⟨y2, hy2⟩ : ∃ y, bz - q = y := ⟨_, rfl⟩
  have X1 : Hid (IntKind.i64.wrap (ay - q) = y1) := Lib.hid ((IntWalk.i64_in _ (by omega)).trans hy1)
  have X2 : Hid (IntKind.i64.wrap (bz - q) = y2) := Lib.hid ((IntWalk.i64_in _ (by omega)).trans hy2)
  have HR : Hid ((DM.t2 (ax - q * 0) (ay - q * 1)) = DM.t2 ax y1 ∧ (DM.t2 (bx - q * 0) (bz - q * 1)) = DM.t2 bx y2) := Lib.hid (by rw [Int.mul_one, Int.mul_zero, Int.sub_zero, Int.sub_zero, hy1, hy2]; exact ⟨rfl, rfl⟩)
  clear hy1 hy2 hq2 la0 la1 lb0 lb1
  go_enter Tryz.func21, Tryz.ntmps21
  go_wp2_with (first | ((with_reducible refine at_box 3 ?_); refine wpList_box_own O (M.mat 7 (a)) rfl ?_; clear O; intro g3 w1 O) | ((with_reducible refine at_box 4 ?_); refine wpList_box_own O (M.mat 7 (b)) rfl ?_; clear O; intro g4 w2 O) | ((with_reducible refine at_alloc 6 ?_); refine wpList_alloc_own O (M.mat 2 M.zero) zeroP ?_; clear O; intro g6 w3 O) | ((with_reducible refine at_alloc 7 ?_); refine wpList_alloc_own O (M.mat 2 M.zero) zeroP ?_; clear O; intro g7 w4 O))
  have OO := O
  clear O
  have O := OO
  clear OO
  refine region_S (fun st w2 => NB w [(g7, 44, M.mat 2 M.zero), (g6, 44, M.mat 2 M.zero), (g4, 25, M.mat 7 b), (g3, 25, M.mat 7 a)] [⟨10, 12, 44, M.mat 2 M.zero, M.mat 2 (DM.t2 ax ay)⟩, ⟨11, 99, 44, M.mat 2 M.zero, M.mat 2 M.zero⟩] st w2) [10, 11, 12] 12 13 [some 11, some 12, some 13, some 14, some 15, some 16, some 17, some 18, some 19, some 20, some 8, some 9, none] (fun g => [.pointer (some ⟨g3, 0, none⟩), .int .i64 (ax), .pointer (some ⟨g3, 1, none⟩), .int .i64 (ay), arr 2 (DM.t2 ax ay), .pointer (some ⟨g4, 0, none⟩), .int .i64 (bx), .pointer (some ⟨g4, 1, none⟩), .int .i64 (bz), arr 2 (DM.t2 bx bz), g 10, g 11, g 12]) 1 (by kernel_rfl) (by kernel_rfl) (by rfl) (by rfl) (fun _ => rfl) (by decide) ?_ (NB.start O.drew) (fun F hF => ?_)
  ·
   intro i hi
   simp only [List.mem_cons, List.not_mem_nil, or_false] at hi
   rcases hi with rfl | rfl | rfl
   · exact ⟨fun _ => rfl, [0, 1, 2, 3, 4, 5, 6, 7, 8, 9, 11, 12], by kernel_rfl, fun g v => ⟨rfl, rfl, rfl, rfl, rfl, rfl, rfl, rfl, rfl, rfl, rfl, rfl, trivial⟩⟩
   · exact ⟨fun _ => rfl, [0, 1, 2, 3, 4, 5, 6, 7, 8, 9, 10, 12], by kernel_rfl, fun g v => ⟨rfl, rfl, rfl, rfl, rfl, rfl, rfl, rfl, rfl, rfl, rfl, rfl, trivial⟩⟩
   · exact ⟨fun _ => rfl, [0, 1, 2, 3, 4, 5, 6, 7, 8, 9, 10, 11], by kernel_rfl, fun g v => ⟨rfl, rfl, rfl, rfl, rfl, rfl, rfl, rfl, rfl, rfl, rfl, rfl, trivial⟩⟩
  simp only [fillD, Act.put, List.setIfInBounds_toArray, List.set_cons_zero, List.set_cons_succ] at hF
  have hF2 := funext hF
  clear hF
  subst hF2
  refine ⟨⟨doesN_want (by decide) rfl (fun g => rfl) (fun st w' hS hp K hK => ?_), doesN_want (by decide) rfl (fun g => rfl) (fun st w' hS hp K hK => ?_), doesN_want (by decide) rfl (fun g => rfl) (fun st w' hS hp K hK => ?_), doesN_want (by decide) rfl (fun g => rfl) (fun st w' hS hp K hK => ?_), doesN_want (by decide) rfl (fun g => rfl) (fun st w' hS hp K hK => ?_), doesN_want (by decide) rfl (fun g => rfl) (fun st w' hS hp K hK => ?_), doesN_want (by decide) rfl (fun g => rfl) (fun st w' hS hp K hK => ?_), doesN_want (by decide) rfl (fun g => rfl) (fun st w' hS hp K hK => ?_), doesN_want (by decide) rfl (fun g => rfl) (fun st w' hS hp K hK => ?_), doesN_want (by decide) rfl (fun g => rfl) (fun st w' hS hp K hK => ?_), doesC_want (by decide) rfl (fun g => rfl) (fun st w' hS hn hp K hK => ?_), doesC_want (by decide) rfl (fun g => rfl) (fun st w' hS hn hp K hK => ?_), doesC_want (by decide) rfl (fun g => rfl) (fun st w' hS hn hp K hK => ?_), trivial⟩, fun st w' hS hall => ?_⟩
  ·
   try dsimp only
   go_simp
   exact hK _ hS
  ·
   try dsimp only
   exact wp_cell_h (v := .int .i64 ax) hS.own.held 3 rfl Cax.out rfl agg3 rfl (hK _ hS)
  ·
   try dsimp only
   go_simp
   exact hK _ hS
  ·
   try dsimp only
   exact wp_cell_h (v := .int .i64 ay) hS.own.held 3 rfl Cay.out rfl agg3 rfl (hK _ hS)
  ·
   try dsimp only
   refine wp_build_own [(0, .int .i64 ax), (1, .int .i64 ay)] ((M.mat 2 (DM.t2 ax ay)).toArray) ?_ (builtP _ _) (hK _ hS)
   simp only [List.map_toArray, List.map_cons, List.map_nil]
   rfl
  ·
   try dsimp only
   go_simp
   exact hK _ hS
  ·
   try dsimp only
   exact wp_cell_h (v := .int .i64 bx) hS.own.held 2 rfl Cbx.out rfl agg3 rfl (hK _ hS)
  ·
   try dsimp only
   go_simp
   exact hK _ hS
  ·
   try dsimp only
   exact wp_cell_h (v := .int .i64 bz) hS.own.held 2 rfl Cbz.out rfl agg3 rfl (hK _ hS)
  ·
   try dsimp only
   refine wp_build_own [(0, .int .i64 bx), (1, .int .i64 bz)] ((M.mat 2 (DM.t2 bx bz)).toArray) ?_ (builtP _ _) (hK _ hS)
   simp only [List.map_toArray, List.map_cons, List.map_nil]
   rfl
  ·
   try dsimp only
   exact hS.alloc HD1 0 rfl hn zeroP hK
  ·
   try dsimp only
   exact hS.alloc HD1 1 rfl hn zeroP hK
  ·
   try dsimp only
   exact hS.put HD1 0 rfl (hp 10 (by decide) (by kernel_rfl)) hn rfl rfl (sP _) (M.mat_len2 _ _ _) (M.mat_one _ _) hK
  try dsimp only
  obtain ⟨g8, e8⟩ := hS.ptr 0 rfl (hall 10 (by decide))
  obtain ⟨g9, e9⟩ := hS.ptr 1 rfl (hall 11 (by decide))
  have O3 : Own w w' ((g8, 44, M.mat 2 (DM.t2 ax ay)) :: (g9, 44, M.mat 2 M.zero) :: [(g7, 44, M.mat 2 M.zero), (g6, 44, M.mat 2 M.zero), (g4, 25, M.mat 7 b), (g3, 25, M.mat 7 a)]) := by
   have h3 := hS.2.2
   rw [nows_cons, nows_cons, NbS.now_same e9 rfl, NbS.now_is e8 true (hall 12 (by decide))] at h3
   exact h3
  clear hS O
  have O := O3
  clear O3
  simp only [seen, e8, e9, Option.getD_some]
  clear hall e8 e9
  refine wpAny_want (i := 13) (by kernel_rfl) rfl (by rfl) (fun K hK => ?_)
  refine wp_put_own O 1 (M.mat 2 (DM.t2 bx bz)) rfl rfl rfl (sP _) (M.mat_len2 _ _ _) (M.mat_one _ _) fun w9 O9 => hK _ _ ?_
  clear O
  have O := O9
  clear O9
  clear hK K
  try simp only [Act.put, List.setIfInBounds_toArray, List.set_cons_zero, List.set_cons_succ]
  refine wpAny_done (by kernel_rfl) ?_ _
  clear HD1
  go_wp2_with (first | ((with_reducible refine at_load 24 ?_); refine wpList_whole rfl O 0 rfl rfl Tryz.underlying44 rfl (sP _) ?_) | ((with_reducible refine at_load 25 ?_); refine wpList_whole rfl O 1 rfl rfl Tryz.underlying44 rfl (sP _) ?_) | (go_at_call 24; refine (CW _).mono ?_; rintro e w6 ⟨rfl, hb⟩; replace O := O.call hb; clear hb))
  clear CW
  have OO := O
  clear O
  have O := OO
  clear OO
  refine region_S (fun st w2 => RS w [(g8, 44, M.mat 2 (DM.t2 ax ay)), (g9, 44, M.mat 2 (DM.t2 bx bz)), (g7, 44, M.mat 2 M.zero), (g6, 44, M.mat 2 M.zero), (g4, 25, M.mat 7 b), (g3, 25, M.mat 7 a)] [(g8, 44, M.mat 2 (DM.t2 ax y1)), (g9, 44, M.mat 2 (DM.t2 bx bz)), (g7, 44, M.mat 2 M.zero), (g6, 44, M.mat 2 M.zero), (g4, 25, M.mat 7 b), (g3, 25, M.mat 7 a)] 1 9 (.int .i64 (ay)) st w2) [1, 9] 12 11 [some 27, some 28, some 29, some 30, some 31, some 32, some 33, some 34, some 35, none, some 36] (fun g => [.pointer (some ⟨g8, 1, none⟩), g 1, .int .i64 (q), .int .i64 (y1), .pointer (some ⟨g9, 1, none⟩), .int .i64 (bz), .int .i64 (q), .int .i64 (y2), .pointer (some ⟨g8, 1, none⟩), g 9, .pointer (some ⟨g9, 1, none⟩)]) 1 (by kernel_rfl) (by kernel_rfl) (by rfl) (by rfl) (fun _ => rfl) (by decide) ?_ (RS.start O.drew) (fun F hF => ?_)
  ·
   intro i hi
   simp only [List.mem_cons, List.not_mem_nil, or_false] at hi
   rcases hi with rfl | rfl
   · exact ⟨fun _ => rfl, [0, 2, 3, 4, 5, 6, 7, 8, 9, 10], by kernel_rfl, fun g v => ⟨rfl, rfl, rfl, rfl, rfl, rfl, rfl, rfl, rfl, rfl, trivial⟩⟩
   · exact ⟨fun _ => rfl, [0, 1, 2, 3, 4, 5, 6, 7, 8, 10], by kernel_rfl, fun g v => ⟨rfl, rfl, rfl, rfl, rfl, rfl, rfl, rfl, rfl, rfl, trivial⟩⟩
  simp only [fillD, Act.put, List.setIfInBounds_toArray, List.set_cons_zero, List.set_cons_succ] at hF
  have hF2 := funext hF
  clear hF
  subst hF2
  refine ⟨⟨doesN_want (by decide) rfl (fun g => rfl) (fun st w' hS hp K hK => ?_), doesC_want (by decide) rfl (fun g => rfl) (fun st w' hS hn hp K hK => ?_), doesN_want (by decide) rfl (fun g => rfl) (fun st w' hS hp K hK => ?_), doesN_want (by decide) rfl (fun g => rfl) (fun st w' hS hp K hK => ?_), doesN_want (by decide) rfl (fun g => rfl) (fun st w' hS hp K hK => ?_), doesN_want (by decide) rfl (fun g => rfl) (fun st w' hS hp K hK => ?_), doesN_want (by decide) rfl (fun g => rfl) (fun st w' hS hp K hK => ?_), doesN_want (by decide) rfl (fun g => rfl) (fun st w' hS hp K hK => ?_), doesN_want (by decide) rfl (fun g => rfl) (fun st w' hS hp K hK => ?_), doesC_want (by decide) rfl (fun g => rfl) (fun st w' hS hn hp K hK => ?_), doesN_want (by decide) rfl (fun g => rfl) (fun st w' hS hp K hK => ?_), trivial⟩, fun st w' hS hall => ?_⟩
  ·
   try dsimp only
   go_simp
   exact hK _ hS
  ·
   try dsimp only
   exact wp_cell_h (v := .int .i64 ay) (hS.fst' hn).held 0 rfl HA1.out rfl agg3 rfl (hK _ _ (hS.read (by decide) hn))
  ·
   try dsimp only
   go_simp
   exact hK _ hS
  ·
   try dsimp only
   have e1 := hS.val (hp 1 (by decide) (by kernel_rfl))
   simp only [seen, e1, Option.getD_some] at hK ⊢
   go_simp
   simp only [X1.out]
   exact hK _ hS
  ·
   try dsimp only
   go_simp
   exact hK _ hS
  ·
   try dsimp only
   rcases hS.any with O | O <;> exact wp_cell_h (v := .int .i64 bz) O.held 1 rfl HB1.out rfl agg3 rfl (hK _ hS)
  ·
   try dsimp only
   go_simp
   exact hK _ hS
  ·
   try dsimp only
   go_simp
   simp only [X2.out]
   exact hK _ hS
  ·
   try dsimp only
   go_simp
   exact hK _ hS
  ·
   try dsimp only
   refine wp_set_own (hS.fst hn) 0 (i := 1) (.int .i64 y1) rfl (by rw [M.mat_len]; omega) rfl rfl size3 rfl rfl fun w9 O9 => hK _ _ (hS.put (by decide) (hp 1 (by decide) (by kernel_rfl)) _ (Own.as O9 (l' := [(g8, 44, M.mat 2 (DM.t2 ax y1)), (g9, 44, M.mat 2 (DM.t2 bx bz)), (g7, 44, M.mat 2 M.zero), (g6, 44, M.mat 2 M.zero), (g4, 25, M.mat 7 b), (g3, 25, M.mat 7 a)]) rfl))
  ·
   try dsimp only
   go_simp
   exact hK _ hS
  try dsimp only
  have e1 := hS.val (hall 1 (by decide))
  have O3 := hS.done (hall 9 (by decide))
  clear hS O
  have O := O3
  clear O3
  simp only [seen, e1, Option.getD_some]
  clear hall e1
  refine wpAny_want (i := 11) (by kernel_rfl) rfl (by rfl) (fun K hK => ?_)
  refine wp_set_own O 1 (i := 1) (.int .i64 y2) rfl (by rw [M.mat_len]; omega) rfl rfl size3 rfl rfl fun w9 O9 => hK _ _ ?_
  clear O
  have O := Own.as O9 (l' := [(g8, 44, M.mat 2 (DM.t2 ax y1)), (g9, 44, M.mat 2 (DM.t2 bx y2)), (g7, 44, M.mat 2 M.zero), (g6, 44, M.mat 2 M.zero), (g4, 25, M.mat 7 b), (g3, 25, M.mat 7 a)]) rfl
  clear O9
  clear hK K
  try simp only [Act.put, List.setIfInBounds_toArray, List.set_cons_zero, List.set_cons_succ]
  refine wpAny_done (by kernel_rfl) ?_ _
  go_wp2_with fail
  have OO := O
  clear O
  have O := OO
  clear OO
  refine region_S (fun st w2 => RS w [(g8, 44, M.mat 2 (DM.t2 ax y1)), (g9, 44, M.mat 2 (DM.t2 bx y2)), (g7, 44, M.mat 2 M.zero), (g6, 44, M.mat 2 M.zero), (g4, 25, M.mat 7 b), (g3, 25, M.mat 7 a)] [(g8, 44, M.mat 2 (DM.t2 ax y1)), (g9, 44, M.mat 2 (DM.t2 bx y2)), (g7, 44, M.mat 2 M.zero), (g6, 44, M.mat 2 (DM.t2 ax y1)), (g4, 25, M.mat 7 b), (g3, 25, M.mat 7 a)] 0 2 (arr 2 (DM.t2 ax y1)) st w2) [0, 2] 12 3 [some 47, some 48, none] (fun g => [g 0, arr 2 (DM.t2 bx y2), g 2]) 1 (by kernel_rfl) (by kernel_rfl) (by rfl) (by rfl) (fun _ => rfl) (by decide) ?_ (RS.start O.drew) (fun F hF => ?_)
  ·
   intro i hi
   simp only [List.mem_cons, List.not_mem_nil, or_false] at hi
   rcases hi with rfl | rfl
   · exact ⟨fun _ => rfl, [1, 2], by kernel_rfl, fun g v => ⟨rfl, rfl, trivial⟩⟩
   · exact ⟨fun _ => rfl, [0, 1], by kernel_rfl, fun g v => ⟨rfl, rfl, trivial⟩⟩
  simp only [fillD, Act.put, List.setIfInBounds_toArray, List.set_cons_zero, List.set_cons_succ] at hF
  have hF2 := funext hF
  clear hF
  subst hF2
  refine ⟨⟨doesC_want (by decide) rfl (fun g => rfl) (fun st w' hS hn hp K hK => ?_), doesN_want (by decide) rfl (fun g => rfl) (fun st w' hS hp K hK => ?_), doesC_want (by decide) rfl (fun g => rfl) (fun st w' hS hn hp K hK => ?_), trivial⟩, fun st w' hS hall => ?_⟩
  ·
   try dsimp only
   exact wp_whole (hS.fst' hn) 0 rfl rfl Tryz.underlying44 rfl (sP _) (hK _ _ (hS.read (by decide) hn))
  ·
   try dsimp only
   rcases hS.any with O | O <;> exact wp_whole O 1 rfl rfl Tryz.underlying44 rfl (sP _) (hK _ hS)
  ·
   try dsimp only
   have e1 := hS.val (hp 0 (by decide) (by kernel_rfl))
   simp only [seen, e1, Option.getD_some] at hK ⊢
   refine wp_put_own (hS.fst hn) 3 (M.mat 2 (DM.t2 ax y1)) rfl rfl rfl (sP _) (M.mat_len2 _ _ _) (M.mat_one _ _) fun w9 O9 => hK _ _ (hS.put (by decide) (hp 0 (by decide) (by kernel_rfl)) _ (Own.as O9 (l' := [(g8, 44, M.mat 2 (DM.t2 ax y1)), (g9, 44, M.mat 2 (DM.t2 bx y2)), (g7, 44, M.mat 2 M.zero), (g6, 44, M.mat 2 (DM.t2 ax y1)), (g4, 25, M.mat 7 b), (g3, 25, M.mat 7 a)]) rfl))
  try dsimp only
  have e1 := hS.val (hall 0 (by decide))
  have O3 := hS.done (hall 2 (by decide))
  clear hS O
  have O := O3
  clear O3
  simp only [seen, e1, Option.getD_some]
  clear hall e1
  refine wpAny_want (i := 3) (by kernel_rfl) rfl (by rfl) (fun K hK => ?_)
  refine wp_put_own O 2 (M.mat 2 (DM.t2 bx y2)) rfl rfl rfl (sP _) (M.mat_len2 _ _ _) (M.mat_one _ _) fun w9 O9 => hK _ _ ?_
  clear O
  have O := O9
  clear O9
  clear hK K
  try simp only [Act.put, List.setIfInBounds_toArray, List.set_cons_zero, List.set_cons_succ]
  refine wpAny_done (by kernel_rfl) ?_ _
  go_wp2_with fail
  exact bodyPost_ret (v := .tuple #[arr 2 (DM.t2 ax y1), arr 2 (DM.t2 bx y2)]) (res_cc rfl O 3 2 rfl rfl rfl rfl Tryz.underlying44 rfl (sP _) (sP _)) rfl ⟨by rw [← HR.out.1, ← HR.out.2]; rfl, O.below⟩
 ·
  obtain ⟨y1, hy1⟩ : ∃ y, ax - q = y := ⟨_, rfl⟩
  obtain ⟨y2, hy2⟩ : ∃ y, bx - q = y := ⟨_, rfl⟩
  have X1 : Hid (IntKind.i64.wrap (ax - q) = y1) := Lib.hid ((IntWalk.i64_in _ (by omega)).trans hy1)
  have X2 : Hid (IntKind.i64.wrap (bx - q) = y2) := Lib.hid ((IntWalk.i64_in _ (by omega)).trans hy2)
  have HR : Hid ((DM.t2 (ax - q * 1) (ay - q * 0)) = DM.t2 y1 ay ∧ (DM.t2 (bx - q * 1) (bz - q * 0)) = DM.t2 y2 bz) := Lib.hid (by rw [Int.mul_one, Int.mul_zero, Int.sub_zero, Int.sub_zero, hy1, hy2]; exact ⟨rfl, rfl⟩)
  clear hy1 hy2 hq2 la0 la1 lb0 lb1
  go_enter Tryz.func21, Tryz.ntmps21
  go_wp2_with (first | ((with_reducible refine at_box 3 ?_); refine wpList_box_own O (M.mat 7 (a)) rfl ?_; clear O; intro g3 w1 O) | ((with_reducible refine at_box 4 ?_); refine wpList_box_own O (M.mat 7 (b)) rfl ?_; clear O; intro g4 w2 O) | ((with_reducible refine at_alloc 6 ?_); refine wpList_alloc_own O (M.mat 2 M.zero) zeroP ?_; clear O; intro g6 w3 O) | ((with_reducible refine at_alloc 7 ?_); refine wpList_alloc_own O (M.mat 2 M.zero) zeroP ?_; clear O; intro g7 w4 O))
  have OO := O
  clear O
  have O := OO
  clear OO
  refine region_S (fun st w2 => NB w [(g7, 44, M.mat 2 M.zero), (g6, 44, M.mat 2 M.zero), (g4, 25, M.mat 7 b), (g3, 25, M.mat 7 a)] [⟨10, 12, 44, M.mat 2 M.zero, M.mat 2 (DM.t2 ax ay)⟩, ⟨11, 99, 44, M.mat 2 M.zero, M.mat 2 M.zero⟩] st w2) [10, 11, 12] 12 13 [some 11, some 12, some 13, some 14, some 15, some 16, some 17, some 18, some 19, some 20, some 8, some 9, none] (fun g => [.pointer (some ⟨g3, 0, none⟩), .int .i64 (ax), .pointer (some ⟨g3, 1, none⟩), .int .i64 (ay), arr 2 (DM.t2 ax ay), .pointer (some ⟨g4, 0, none⟩), .int .i64 (bx), .pointer (some ⟨g4, 1, none⟩), .int .i64 (bz), arr 2 (DM.t2 bx bz), g 10, g 11, g 12]) 1 (by kernel_rfl) (by kernel_rfl) (by rfl) (by rfl) (fun _ => rfl) (by decide) ?_ (NB.start O.drew) (fun F hF => ?_)
  ·
   intro i hi
   simp only [List.mem_cons, List.not_mem_nil, or_false] at hi
   rcases hi with rfl | rfl | rfl
   · exact ⟨fun _ => rfl, [0, 1, 2, 3, 4, 5, 6, 7, 8, 9, 11, 12], by kernel_rfl, fun g v => ⟨rfl, rfl, rfl, rfl, rfl, rfl, rfl, rfl, rfl, rfl, rfl, rfl, trivial⟩⟩
   · exact ⟨fun _ => rfl, [0, 1, 2, 3, 4, 5, 6, 7, 8, 9, 10, 12], by kernel_rfl, fun g v => ⟨rfl, rfl, rfl, rfl, rfl, rfl, rfl, rfl, rfl, rfl, rfl, rfl, trivial⟩⟩
   · exact ⟨fun _ => rfl, [0, 1, 2, 3, 4, 5, 6, 7, 8, 9, 10, 11], by kernel_rfl, fun g v => ⟨rfl, rfl, rfl, rfl, rfl, rfl, rfl, rfl, rfl, rfl, rfl, rfl, trivial⟩⟩
  simp only [fillD, Act.put, List.setIfInBounds_toArray, List.set_cons_zero, List.set_cons_succ] at hF
  have hF2 := funext hF
  clear hF
  subst hF2
  refine ⟨⟨doesN_want (by decide) rfl (fun g => rfl) (fun st w' hS hp K hK => ?_), doesN_want (by decide) rfl (fun g => rfl) (fun st w' hS hp K hK => ?_), doesN_want (by decide) rfl (fun g => rfl) (fun st w' hS hp K hK => ?_), doesN_want (by decide) rfl (fun g => rfl) (fun st w' hS hp K hK => ?_), doesN_want (by decide) rfl (fun g => rfl) (fun st w' hS hp K hK => ?_), doesN_want (by decide) rfl (fun g => rfl) (fun st w' hS hp K hK => ?_), doesN_want (by decide) rfl (fun g => rfl) (fun st w' hS hp K hK => ?_), doesN_want (by decide) rfl (fun g => rfl) (fun st w' hS hp K hK => ?_), doesN_want (by decide) rfl (fun g => rfl) (fun st w' hS hp K hK => ?_), doesN_want (by decide) rfl (fun g => rfl) (fun st w' hS hp K hK => ?_), doesC_want (by decide) rfl (fun g => rfl) (fun st w' hS hn hp K hK => ?_), doesC_want (by decide) rfl (fun g => rfl) (fun st w' hS hn hp K hK => ?_), doesC_want (by decide) rfl (fun g => rfl) (fun st w' hS hn hp K hK => ?_), trivial⟩, fun st w' hS hall => ?_⟩
  ·
   try dsimp only
   go_simp
   exact hK _ hS
  ·
   try dsimp only
   exact wp_cell_h (v := .int .i64 ax) hS.own.held 3 rfl Cax.out rfl agg3 rfl (hK _ hS)
  ·
   try dsimp only
   go_simp
   exact hK _ hS
  ·
   try dsimp only
   exact wp_cell_h (v := .int .i64 ay) hS.own.held 3 rfl Cay.out rfl agg3 rfl (hK _ hS)
  ·
   try dsimp only
   refine wp_build_own [(0, .int .i64 ax), (1, .int .i64 ay)] ((M.mat 2 (DM.t2 ax ay)).toArray) ?_ (builtP _ _) (hK _ hS)
   simp only [List.map_toArray, List.map_cons, List.map_nil]
   rfl
  ·
   try dsimp only
   go_simp
   exact hK _ hS
  ·
   try dsimp only
   exact wp_cell_h (v := .int .i64 bx) hS.own.held 2 rfl Cbx.out rfl agg3 rfl (hK _ hS)
  ·
   try dsimp only
   go_simp
   exact hK _ hS
  ·
   try dsimp only
   exact wp_cell_h (v := .int .i64 bz) hS.own.held 2 rfl Cbz.out rfl agg3 rfl (hK _ hS)
  ·
   try dsimp only
   refine wp_build_own [(0, .int .i64 bx), (1, .int .i64 bz)] ((M.mat 2 (DM.t2 bx bz)).toArray) ?_ (builtP _ _) (hK _ hS)
   simp only [List.map_toArray, List.map_cons, List.map_nil]
   rfl
  ·
   try dsimp only
   exact hS.alloc HD1 0 rfl hn zeroP hK
  ·
   try dsimp only
   exact hS.alloc HD1 1 rfl hn zeroP hK
  ·
   try dsimp only
   exact hS.put HD1 0 rfl (hp 10 (by decide) (by kernel_rfl)) hn rfl rfl (sP _) (M.mat_len2 _ _ _) (M.mat_one _ _) hK
  try dsimp only
  obtain ⟨g8, e8⟩ := hS.ptr 0 rfl (hall 10 (by decide))
  obtain ⟨g9, e9⟩ := hS.ptr 1 rfl (hall 11 (by decide))
  have O3 : Own w w' ((g8, 44, M.mat 2 (DM.t2 ax ay)) :: (g9, 44, M.mat 2 M.zero) :: [(g7, 44, M.mat 2 M.zero), (g6, 44, M.mat 2 M.zero), (g4, 25, M.mat 7 b), (g3, 25, M.mat 7 a)]) := by
   have h3 := hS.2.2
   rw [nows_cons, nows_cons, NbS.now_same e9 rfl, NbS.now_is e8 true (hall 12 (by decide))] at h3
   exact h3
  clear hS O
  have O := O3
  clear O3
  simp only [seen, e8, e9, Option.getD_some]
  clear hall e8 e9
  refine wpAny_want (i := 13) (by kernel_rfl) rfl (by rfl) (fun K hK => ?_)
  refine wp_put_own O 1 (M.mat 2 (DM.t2 bx bz)) rfl rfl rfl (sP _) (M.mat_len2 _ _ _) (M.mat_one _ _) fun w9 O9 => hK _ _ ?_
  clear O
  have O := O9
  clear O9
  clear hK K
  try simp only [Act.put, List.setIfInBounds_toArray, List.set_cons_zero, List.set_cons_succ]
  refine wpAny_done (by kernel_rfl) ?_ _
  clear HD1
  go_wp2_with (first | ((with_reducible refine at_load 24 ?_); refine wpList_whole rfl O 0 rfl rfl Tryz.underlying44 rfl (sP _) ?_) | ((with_reducible refine at_load 25 ?_); refine wpList_whole rfl O 1 rfl rfl Tryz.underlying44 rfl (sP _) ?_) | (go_at_call 24; refine (CW _).mono ?_; rintro e w6 ⟨rfl, hb⟩; replace O := O.call hb; clear hb))
  clear CW
  have OO := O
  clear O
  have O := OO
  clear OO
  refine region_S (fun st w2 => RS w [(g8, 44, M.mat 2 (DM.t2 ax ay)), (g9, 44, M.mat 2 (DM.t2 bx bz)), (g7, 44, M.mat 2 M.zero), (g6, 44, M.mat 2 M.zero), (g4, 25, M.mat 7 b), (g3, 25, M.mat 7 a)] [(g8, 44, M.mat 2 (DM.t2 y1 ay)), (g9, 44, M.mat 2 (DM.t2 bx bz)), (g7, 44, M.mat 2 M.zero), (g6, 44, M.mat 2 M.zero), (g4, 25, M.mat 7 b), (g3, 25, M.mat 7 a)] 1 9 (.int .i64 (ax)) st w2) [1, 9] 12 11 [some 37, some 38, some 39, some 40, some 41, some 42, some 43, some 44, some 45, none, some 46] (fun g => [.pointer (some ⟨g8, 0, none⟩), g 1, .int .i64 (q), .int .i64 (y1), .pointer (some ⟨g9, 0, none⟩), .int .i64 (bx), .int .i64 (q), .int .i64 (y2), .pointer (some ⟨g8, 0, none⟩), g 9, .pointer (some ⟨g9, 0, none⟩)]) 1 (by kernel_rfl) (by kernel_rfl) (by rfl) (by rfl) (fun _ => rfl) (by decide) ?_ (RS.start O.drew) (fun F hF => ?_)
  ·
   intro i hi
   simp only [List.mem_cons, List.not_mem_nil, or_false] at hi
   rcases hi with rfl | rfl
   · exact ⟨fun _ => rfl, [0, 2, 3, 4, 5, 6, 7, 8, 9, 10], by kernel_rfl, fun g v => ⟨rfl, rfl, rfl, rfl, rfl, rfl, rfl, rfl, rfl, rfl, trivial⟩⟩
   · exact ⟨fun _ => rfl, [0, 1, 2, 3, 4, 5, 6, 7, 8, 10], by kernel_rfl, fun g v => ⟨rfl, rfl, rfl, rfl, rfl, rfl, rfl, rfl, rfl, rfl, trivial⟩⟩
  simp only [fillD, Act.put, List.setIfInBounds_toArray, List.set_cons_zero, List.set_cons_succ] at hF
  have hF2 := funext hF
  clear hF
  subst hF2
  refine ⟨⟨doesN_want (by decide) rfl (fun g => rfl) (fun st w' hS hp K hK => ?_), doesC_want (by decide) rfl (fun g => rfl) (fun st w' hS hn hp K hK => ?_), doesN_want (by decide) rfl (fun g => rfl) (fun st w' hS hp K hK => ?_), doesN_want (by decide) rfl (fun g => rfl) (fun st w' hS hp K hK => ?_), doesN_want (by decide) rfl (fun g => rfl) (fun st w' hS hp K hK => ?_), doesN_want (by decide) rfl (fun g => rfl) (fun st w' hS hp K hK => ?_), doesN_want (by decide) rfl (fun g => rfl) (fun st w' hS hp K hK => ?_), doesN_want (by decide) rfl (fun g => rfl) (fun st w' hS hp K hK => ?_), doesN_want (by decide) rfl (fun g => rfl) (fun st w' hS hp K hK => ?_), doesC_want (by decide) rfl (fun g => rfl) (fun st w' hS hn hp K hK => ?_), doesN_want (by decide) rfl (fun g => rfl) (fun st w' hS hp K hK => ?_), trivial⟩, fun st w' hS hall => ?_⟩
  ·
   try dsimp only
   go_simp
   exact hK _ hS
  ·
   try dsimp only
   exact wp_cell_h (v := .int .i64 ax) (hS.fst' hn).held 0 rfl HA0.out rfl agg3 rfl (hK _ _ (hS.read (by decide) hn))
  ·
   try dsimp only
   go_simp
   exact hK _ hS
  ·
   try dsimp only
   have e1 := hS.val (hp 1 (by decide) (by kernel_rfl))
   simp only [seen, e1, Option.getD_some] at hK ⊢
   go_simp
   simp only [X1.out]
   exact hK _ hS
  ·
   try dsimp only
   go_simp
   exact hK _ hS
  ·
   try dsimp only
   rcases hS.any with O | O <;> exact wp_cell_h (v := .int .i64 bx) O.held 1 rfl HB0.out rfl agg3 rfl (hK _ hS)
  ·
   try dsimp only
   go_simp
   exact hK _ hS
  ·
   try dsimp only
   go_simp
   simp only [X2.out]
   exact hK _ hS
  ·
   try dsimp only
   go_simp
   exact hK _ hS
  ·
   try dsimp only
   refine wp_set_own (hS.fst hn) 0 (i := 0) (.int .i64 y1) rfl (by rw [M.mat_len]; omega) rfl rfl size3 rfl rfl fun w9 O9 => hK _ _ (hS.put (by decide) (hp 1 (by decide) (by kernel_rfl)) _ (Own.as O9 (l' := [(g8, 44, M.mat 2 (DM.t2 y1 ay)), (g9, 44, M.mat 2 (DM.t2 bx bz)), (g7, 44, M.mat 2 M.zero), (g6, 44, M.mat 2 M.zero), (g4, 25, M.mat 7 b), (g3, 25, M.mat 7 a)]) rfl))
  ·
   try dsimp only
   go_simp
   exact hK _ hS
  try dsimp only
  have e1 := hS.val (hall 1 (by decide))
  have O3 := hS.done (hall 9 (by decide))
  clear hS O
  have O := O3
  clear O3
  simp only [seen, e1, Option.getD_some]
  clear hall e1
  refine wpAny_want (i := 11) (by kernel_rfl) rfl (by rfl) (fun K hK => ?_)
  refine wp_set_own O 1 (i := 0) (.int .i64 y2) rfl (by rw [M.mat_len]; omega) rfl rfl size3 rfl rfl fun w9 O9 => hK _ _ ?_
  clear O
  have O := Own.as O9 (l' := [(g8, 44, M.mat 2 (DM.t2 y1 ay)), (g9, 44, M.mat 2 (DM.t2 y2 bz)), (g7, 44, M.mat 2 M.zero), (g6, 44, M.mat 2 M.zero), (g4, 25, M.mat 7 b), (g3, 25, M.mat 7 a)]) rfl
  clear O9
  clear hK K
  try simp only [Act.put, List.setIfInBounds_toArray, List.set_cons_zero, List.set_cons_succ]
  refine wpAny_done (by kernel_rfl) ?_ _
  go_wp2_with fail
  have OO := O
  clear O
  have O := OO
  clear OO
  refine region_S (fun st w2 => RS w [(g8, 44, M.mat 2 (DM.t2 y1 ay)), (g9, 44, M.mat 2 (DM.t2 y2 bz)), (g7, 44, M.mat 2 M.zero), (g6, 44, M.mat 2 M.zero), (g4, 25, M.mat 7 b), (g3, 25, M.mat 7 a)] [(g8, 44, M.mat 2 (DM.t2 y1 ay)), (g9, 44, M.mat 2 (DM.t2 y2 bz)), (g7, 44, M.mat 2 M.zero), (g6, 44, M.mat 2 (DM.t2 y1 ay)), (g4, 25, M.mat 7 b), (g3, 25, M.mat 7 a)] 0 2 (arr 2 (DM.t2 y1 ay)) st w2) [0, 2] 12 3 [some 47, some 48, none] (fun g => [g 0, arr 2 (DM.t2 y2 bz), g 2]) 1 (by kernel_rfl) (by kernel_rfl) (by rfl) (by rfl) (fun _ => rfl) (by decide) ?_ (RS.start O.drew) (fun F hF => ?_)
  ·
   intro i hi
   simp only [List.mem_cons, List.not_mem_nil, or_false] at hi
   rcases hi with rfl | rfl
   · exact ⟨fun _ => rfl, [1, 2], by kernel_rfl, fun g v => ⟨rfl, rfl, trivial⟩⟩
   · exact ⟨fun _ => rfl, [0, 1], by kernel_rfl, fun g v => ⟨rfl, rfl, trivial⟩⟩
  simp only [fillD, Act.put, List.setIfInBounds_toArray, List.set_cons_zero, List.set_cons_succ] at hF
  have hF2 := funext hF
  clear hF
  subst hF2
  refine ⟨⟨doesC_want (by decide) rfl (fun g => rfl) (fun st w' hS hn hp K hK => ?_), doesN_want (by decide) rfl (fun g => rfl) (fun st w' hS hp K hK => ?_), doesC_want (by decide) rfl (fun g => rfl) (fun st w' hS hn hp K hK => ?_), trivial⟩, fun st w' hS hall => ?_⟩
  ·
   try dsimp only
   exact wp_whole (hS.fst' hn) 0 rfl rfl Tryz.underlying44 rfl (sP _) (hK _ _ (hS.read (by decide) hn))
  ·
   try dsimp only
   rcases hS.any with O | O <;> exact wp_whole O 1 rfl rfl Tryz.underlying44 rfl (sP _) (hK _ hS)
  ·
   try dsimp only
   have e1 := hS.val (hp 0 (by decide) (by kernel_rfl))
   simp only [seen, e1, Option.getD_some] at hK ⊢
   refine wp_put_own (hS.fst hn) 3 (M.mat 2 (DM.t2 y1 ay)) rfl rfl rfl (sP _) (M.mat_len2 _ _ _) (M.mat_one _ _) fun w9 O9 => hK _ _ (hS.put (by decide) (hp 0 (by decide) (by kernel_rfl)) _ (Own.as O9 (l' := [(g8, 44, M.mat 2 (DM.t2 y1 ay)), (g9, 44, M.mat 2 (DM.t2 y2 bz)), (g7, 44, M.mat 2 M.zero), (g6, 44, M.mat 2 (DM.t2 y1 ay)), (g4, 25, M.mat 7 b), (g3, 25, M.mat 7 a)]) rfl))
  try dsimp only
  have e1 := hS.val (hall 0 (by decide))
  have O3 := hS.done (hall 2 (by decide))
  clear hS O
  have O := O3
  clear O3
  simp only [seen, e1, Option.getD_some]
  clear hall e1
  refine wpAny_want (i := 3) (by kernel_rfl) rfl (by rfl) (fun K hK => ?_)
  refine wp_put_own O 2 (M.mat 2 (DM.t2 y2 bz)) rfl rfl rfl (sP _) (M.mat_len2 _ _ _) (M.mat_one _ _) fun w9 O9 => hK _ _ ?_
  clear O
  have O := O9
  clear O9
  clear hK K
  try simp only [Act.put, List.setIfInBounds_toArray, List.set_cons_zero, List.set_cons_succ]
  refine wpAny_done (by kernel_rfl) ?_ _
  go_wp2_with fail
  exact bodyPost_ret (v := .tuple #[arr 2 (DM.t2 y1 ay), arr 2 (DM.t2 y2 bz)]) (res_cc rfl O 3 2 rfl rfl rfl rfl Tryz.underlying44 rfl (sP _) (sP _)) rfl ⟨by rw [← HR.out.1, ← HR.out.2]; rfl, O.below⟩
namespace WD
def wn (x y : Int) (i : Nat) : Int := if i = 0 then x else if i = 1 then y else 0
/-- The example's fragments. -/
def aw : List (Nat → Int) := [fr 0 (-1) 0 M.zero, fr 0 0 0 M.zero, fr 1 (-1) 0 M.zero, fr 1 0 0 M.zero]
end WD
theorem builtW17 (x y : Int) : Tryz.prog.built 25 [(0, .int .i64 x), (1, .int .i64 y)] = some (M.mat 7 (WD.wn x y)).toArray := by kernel_rfl
theorem builtH17 : Tryz.prog.built 27 [(1, .int .i64 1)] = some (M.mat 3 (HM.t3 0 1 0)).toArray := by kernel_rfl
theorem builtG0 : Tryz.prog.built 42 [(1, .int .i64 (-1)), (4, .int .i64 64)] = some (M.mat 8 (WD.fr 0 (-1) 0 M.zero)).toArray := by kernel_rfl
theorem builtG1 : Tryz.prog.built 42 [(4, .int .i64 64)] = some (M.mat 8 (WD.fr 0 0 0 M.zero)).toArray := by kernel_rfl
theorem builtG2 : Tryz.prog.built 42 [(0, .int .i64 1), (1, .int .i64 (-1)), (4, .int .i64 64)] = some (M.mat 8 (WD.fr 1 (-1) 0 M.zero)).toArray := by kernel_rfl
theorem builtG3 : Tryz.prog.built 42 [(0, .int .i64 1), (4, .int .i64 64)] = some (M.mat 8 (WD.fr 1 0 0 M.zero)).toArray := by kernel_rfl
theorem retL_as {w : World} {l l' : List (Nat → Int)} {d : Nat → Int} {e : Ending} {w' : World} (h : RetL w l d e w') (h1 : gC l = gC l') (h2 : l.length = l'.length) : RetL w l' d e w' := by
 obtain ⟨A, c, he, hL, hb⟩ := h
 refine ⟨A, c, by rw [← h2]; exact he, ?_, hb⟩
 unfold gE at hL ⊢
 rw [← h1, ← h2]
 exact hL
namespace WD
theorem aw_steps : steps 2 (tl (wn 128 128) (wn 640 128)) (wn 128 128) (wn 640 128) (RC.mk (-9) (-9) 9 9) = [(0, 0, -1), (1, 1, -1)] := by decide +kernel
theorem aw_right : right (wn 128 128) (wn 640 128) 2 (HM.t3 0 1 0) = true := by decide +kernel
end WD
theorem aw_cells : gC (WD.frs (WD.wn 128 128) (WD.wn 640 128) (WD.tl (WD.wn 128 128) (WD.wn 640 128)) (RC.mk (-9) (-9) 9 9) 2 false (HM.t3 0 1 0) [(0, 0, -1), (1, 1, -1)]) = gC WD.aw := by kernel_rfl
theorem aw_len : (WD.frs (WD.wn 128 128) (WD.wn 640 128) (WD.tl (WD.wn 128 128) (WD.wn 640 128)) (RC.mk (-9) (-9) 9 9) 2 false (HM.t3 0 1 0) [(0, 0, -1), (1, 1, -1)]).length = WD.aw.length := by kernel_rfl
theorem aw_line (w : World) : Calls Tryz.prog 6 #[arr 7 (WD.wn 128 128), arr 7 (WD.wn 640 128), .int .i64 2, .bool false, arr 3 (HM.t3 0 1 0), arr 4 (RC.mk (-9) (-9) 9 9)] w (RetL w WD.aw (HM.t3 0 1 0)) := by
 refine (wline_false (WD.wn 128 128) (WD.wn 640 128) 2 (HM.t3 0 1 0) (RC.mk (-9) (-9) 9 9) WD.aw_right w).mono fun e w' h => ?_
 rw [WD.aw_steps] at h
 exact retL_as h aw_cells aw_len
set_option maxRecDepth 100000 in
set_option maxHeartbeats 4000000 in
theorem awake_any (w : World) : Calls Tryz.prog 5 #[] w fun e w' => e = .returned (.bool true) ∧ Below w.heap.size w w' := by
 have O := Held.start w [] (by simp)
 have CL := fun w => aw_line w
 have CS := fun {lo1 lo2 : Nat} {A1 A2 : Option Addr} {c1 c2 : Nat} w h1 h2 => rsame_any WD.aw (lo1 := lo1) (lo2 := lo2) (A1 := A1) (A2 := A2) (c1 := c1) (c2 := c2) (by decide) w h1 h2
 go_enter Tryz.func5, Tryz.ntmps5
 go_wp2_with (first | ((with_reducible refine at_build 4 ?_); refine wpList_build_g rfl ([(0, .int .i64 128), (1, .int .i64 128)]) ((M.mat 7 (WD.wn 128 128)).toArray) ?_ (builtW17 _ _) ?_; (focus (simp only [List.map_toArray, List.map_cons, List.map_nil]; rfl))) | ((with_reducible refine at_build 5 ?_); refine wpList_build_g rfl ([(0, .int .i64 640), (1, .int .i64 128)]) ((M.mat 7 (WD.wn 640 128)).toArray) ?_ (builtW17 _ _) ?_; (focus (simp only [List.map_toArray, List.map_cons, List.map_nil]; rfl))) | ((with_reducible refine at_build 6 ?_); refine wpList_build_g rfl ([(1, .int .i64 1)]) ((M.mat 3 (HM.t3 0 1 0)).toArray) ?_ (builtH17) ?_; (focus (simp only [List.map_toArray, List.map_cons, List.map_nil]; rfl))) | ((with_reducible refine at_build 7 ?_); refine wpList_build_g rfl ([(0, .int .i64 (-9)), (1, .int .i64 (-9)), (2, .int .i64 9), (3, .int .i64 9)]) ((M.mat 4 (RC.mk (-9) (-9) 9 9)).toArray) ?_ (builtR17 _ _ _ _) ?_; (focus (simp only [List.map_toArray, List.map_cons, List.map_nil]; rfl))) | (go_at_call 6; refine (CL _).mono ?_; rintro e w1 ⟨A, c, rfl, hL, hb⟩; replace O := O.gain hb hL; clear hb hL) | ((with_reducible refine at_alloc 2 ?_); refine wpList_alloc_h O (M.mat 3 M.zero) zeroH ?_; clear O; intro g2 w2 O) | ((with_reducible refine at_store 2 ?_); refine wpList_put_h O 0 (M.mat 3 (HM.t3 0 1 0)) rfl rfl rfl (sH _) (M.mat_len2 _ _ _) (M.mat_one _ _) ?_; clear O; intro w3 O) | ((with_reducible refine at_build 12 ?_); refine wpList_build_g rfl ([(1, .int .i64 (-1)), (4, .int .i64 64)]) ((M.mat 8 (WD.fr 0 (-1) 0 M.zero)).toArray) ?_ (builtG0) ?_; (focus (simp only [List.map_toArray, List.map_cons, List.map_nil]; rfl))) | ((with_reducible refine at_build 13 ?_); refine wpList_build_g rfl ([(4, .int .i64 64)]) ((M.mat 8 (WD.fr 0 0 0 M.zero)).toArray) ?_ (builtG1) ?_; (focus (simp only [List.map_toArray, List.map_cons, List.map_nil]; rfl))) | ((with_reducible refine at_build 14 ?_); refine wpList_build_g rfl ([(0, .int .i64 1), (1, .int .i64 (-1)), (4, .int .i64 64)]) ((M.mat 8 (WD.fr 1 (-1) 0 M.zero)).toArray) ?_ (builtG2) ?_; (focus (simp only [List.map_toArray, List.map_cons, List.map_nil]; rfl))) | ((with_reducible refine at_build 15 ?_); refine wpList_build_g rfl ([(0, .int .i64 1), (4, .int .i64 64)]) ((M.mat 8 (WD.fr 1 0 0 M.zero)).toArray) ?_ (builtG3) ?_; (focus (simp only [List.map_toArray, List.map_cons, List.map_nil]; rfl))) | ((with_reducible refine at_lit 16 ?_); refine wpList_lit_h rfl O 8 (.agg (M.mat 8 M.zero).toArray) infoG Tryz.underlying34 [(0, arr 8 (WD.fr 0 (-1) 0 M.zero)), (1, arr 8 (WD.fr 0 0 0 M.zero)), (2, arr 8 (WD.fr 1 (-1) 0 M.zero)), (3, arr 8 (WD.fr 1 0 0 M.zero))] (gC WD.aw) rfl (gC_len _) (by decide) (by decide) (by kernel_rfl) ?_; clear O; intro g16 u5 O) | (go_at_call 8; refine (CS _ (O.arg (List.mem_cons_of_mem _ List.mem_cons_self)) (O.arg List.mem_cons_self)).mono ?_; rintro e w4 ⟨rfl, hb⟩; replace O := O.call hb; clear hb))
 go_ret
 exact ⟨rfl, O.below⟩
end Go.Proofs.YtpfhaocmcfnhnaaGreat
