/-
  WideOnce: of every line no two fragments in any rectangle (of 600 pixels at most, 40 at most on a side) are of one pixel; each has Cov 64 and a depth between its ends'; there are no more than its longer side times the width.
-/
import Derived.Test.YtpfhaocmcfnhnaaWx
import Derived.Deep.DeepCutAuto
namespace Go.Proofs.Ytpfhaocmcfnhnaa.wideOnce
open Go.ChangeShapes Go.WideShapes Go.ChangeAt Go.RowKit
set_option linter.unusedVariables false
set_option linter.unusedSimpArgs false

theorem own : ownKnob Try.prog.godebug = none := by kernel_rfl
theorem pair_at {α : Type} {R : α → α → Prop} {l : List α} (h : l.Pairwise (fun x y => ¬ R x y)) {i j : Nat} {f g : α} (hij : j < i) (hf : l[i]? = some f) (hg : l[j]? = some g) : ¬ R g f := by
  obtain ⟨hi, rfl⟩ := List.getElem?_eq_some_iff.1 hf
  obtain ⟨hj, rfl⟩ := List.getElem?_eq_some_iff.1 hg
  exact List.pairwise_iff_getElem.1 h j i hj hi hij
theorem lin_cov {a b : Nat → Int} {n : Int} {s : Bool} {d r f : Nat → Int} (h : f ∈ WD.lin a b n s d r) : f 7 = 64 ∧ min (a 2) (b 2) ≤ f 2 ∧ f 2 ≤ max (a 2) (b 2) := by
  unfold WD.lin at h
  split at h
  · exact WD.frs_cov h
  · cases h
theorem lin_apart {a b : Nat → Int} {n : Int} {s : Bool} {d r : Nat → Int} : (WD.lin a b n s d r).Pairwise (fun f g => ¬ (g 0 = f 0 ∧ g 1 = f 1)) := by
  unfold WD.lin
  split
  · exact WD.frs_apart.imp fun {f g} h hh => h ⟨hh.1.symm, hh.2.symm⟩
  · exact List.Pairwise.nil
theorem lin_width {a b : Nat → Int} {n : Int} {s : Bool} {d r : Nat → Int} (h : 0 < (WD.lin a b n s d r).length) : 1 ≤ n ∧ n ≤ 64 := by
  unfold WD.lin at h
  split at h
  · rename_i hh
    exact (WD.right_iff.1 hh).2.1
  · exact absurd h (Nat.lt_irrefl 0)
theorem most_len {a b : Nat → Int} {n : Int} {s : Bool} {d r : Nat → Int} (hr : RC.right r = true) (N : Int) (hN : max (r 2 - r 0) (r 3 - r 1) = N) : ((WD.lin a b n s d r).length : Int) ≤ max 0 (N * n) := by
  unfold WD.lin
  split
  · rename_i h
    obtain ⟨e, h1, h2⟩ := WD.width_of h
    obtain ⟨⟨ha, hb⟩, -⟩ := WD.right_iff.1 h
    rw [← WD.frs_all ha hb ⟨h1, h2⟩ r s d]
    have h3 := WD.frs_len a b (WD.tl a b) r n.toNat s d (WD.steps n.toNat (WD.tl a b) a b r)
    have h4 := WD.steps_most (a := a) (b := b) hr (n := n.toNat) ⟨h1, h2⟩
    rw [hN] at h4
    have h5 := Int.mul_le_mul_of_nonneg_right h4 (show (0 : Int) ≤ n by omega)
    have h6 : (((WD.steps n.toNat (WD.tl a b) a b r).length * n.toNat : Nat) : Int) = (WD.steps n.toNat (WD.tl a b) a b r).length * n := by rw [Int.natCast_mul, e]
    omega
  · simp only [List.length_nil]
    omega

set_option maxRecDepth 100000 in
set_option maxHeartbeats 16000000 in
theorem walk (w : World) (a b : Nat → Int) (n : Int) (s : Bool) (d r : Nat → Int) :
    Calls Try.prog 4 #[.agg (lw a b n s d r).toArray] w fun e w' => e = .returned (.bool true) ∧ Below w.heap.size w w' := by
  have O := Held.start w [] (by simp)
  have CR := fun w => rright_any r w
  have CA := fun w => rarea_any r w
  cases hr : RC.right r
  · rw [hr] at CR
    clear hr CA
    go_enter Try.func4, Try.ntmps4
    go_wp2_with (first | ((with_reducible refine at_box 1 ?_); refine wpList_box_h O (lw a b n s d r) rfl ?_; clear O; intro g1 w1 O) | ((with_reducible refine at_load 8 ?_); refine wpList_mid_h rfl O 0 rfl (M.mat 4 r) (lw_r a b n s d r) rfl Try.underlying29 rfl (sR _) ?_) | (go_at_call 7; refine (CR _).mono ?_; rintro e w3 ⟨rfl, hb⟩; replace O := O.call hb; clear hb) | (go_at_call 9; refine (awake_any _).mono ?_; rintro e w9 ⟨rfl, hb⟩; replace O := O.call hb; clear hb))
    go_ret
    exact ⟨rfl, O.below⟩
  rw [hr] at CR
  obtain ⟨A, hA⟩ : ∃ A, RC.area r = A := ⟨_, rfl⟩
  rw [hA] at CA
  have hl := RC.right_iff.1 hr
  have hmost := fun N t => @most_len a b n s d r hr N t
  obtain ⟨x0, ex0⟩ : ∃ z, r 0 = z := ⟨_, rfl⟩
  obtain ⟨y0, ey0⟩ : ∃ z, r 1 = z := ⟨_, rfl⟩
  obtain ⟨x1, ex1⟩ : ∃ z, r 2 = z := ⟨_, rfl⟩
  obtain ⟨y1, ey1⟩ : ∃ z, r 3 = z := ⟨_, rfl⟩
  have D0 : Hid ((lw a b n s d r)[19]? = some (.int .i64 x0)) := Lib.hid (by rw [← ex0]; rfl)
  have D1 : Hid ((lw a b n s d r)[20]? = some (.int .i64 y0)) := Lib.hid (by rw [← ey0]; rfl)
  have D2 : Hid ((lw a b n s d r)[21]? = some (.int .i64 x1)) := Lib.hid (by rw [← ex1]; rfl)
  have D3 : Hid ((lw a b n s d r)[22]? = some (.int .i64 y1)) := Lib.hid (by rw [← ey1]; rfl)
  rw [ex0, ey0, ex1, ey1] at hl hmost
  obtain ⟨sx, hsx⟩ : ∃ z, x1 - x0 = z := ⟨_, rfl⟩
  obtain ⟨sy, hsy⟩ : ∃ z, y1 - y0 = z := ⟨_, rfl⟩
  have W1 : wrap64 (x1 - x0) = sx := (IntWalk.wrap64_in _ (by omega)).trans hsx
  have W2 : wrap64 (y1 - y0) = sy := (IntWalk.wrap64_in _ (by omega)).trans hsy
  rw [hsx, hsy] at hmost
  have hs0 : 0 < sx ∧ 0 < sy := by omega
  clear hsx hsy ex0 ey0 ex1 ey1 hA hr hl
  have FS : Hid (True) := Lib.hid trivial
  cases k2 : decide (600 < A)
  rotate_left
  · clear W1 W2
    go_enter Try.func4, Try.ntmps4
    go_wp2_with (first | ((with_reducible refine at_box 1 ?_); refine wpList_box_h O (lw a b n s d r) rfl ?_; clear O; intro g1 w1 O) | ((with_reducible refine at_load 8 ?_); refine wpList_mid_h rfl O 0 rfl (M.mat 4 r) (lw_r a b n s d r) rfl Try.underlying29 rfl (sR _) ?_) | (go_at_call 7; refine (CR _).mono ?_; rintro e w3 ⟨rfl, hb⟩; replace O := O.call hb; clear hb) | ((with_reducible refine at_load 13 ?_); refine wpList_mid_h rfl O 0 rfl (M.mat 4 r) (lw_r a b n s d r) rfl Try.underlying29 rfl (sR _) ?_) | (go_at_call 8; refine (CA _).mono ?_; rintro e w4 ⟨rfl, hb⟩; replace O := O.call hb; clear hb) | (go_at_call 9; refine (awake_any _).mono ?_; rintro e w9 ⟨rfl, hb⟩; replace O := O.call hb; clear hb))
    go_ret
    exact ⟨rfl, O.below⟩
  cases k3 : decide (40 < sx)
  rotate_left
  · clear W2
    go_enter Try.func4, Try.ntmps4
    go_wp2_with (first | ((with_reducible refine at_box 1 ?_); refine wpList_box_h O (lw a b n s d r) rfl ?_; clear O; intro g1 w1 O) | ((with_reducible refine at_load 8 ?_); refine wpList_mid_h rfl O 0 rfl (M.mat 4 r) (lw_r a b n s d r) rfl Try.underlying29 rfl (sR _) ?_) | (go_at_call 7; refine (CR _).mono ?_; rintro e w3 ⟨rfl, hb⟩; replace O := O.call hb; clear hb) | ((with_reducible refine at_load 13 ?_); refine wpList_mid_h rfl O 0 rfl (M.mat 4 r) (lw_r a b n s d r) rfl Try.underlying29 rfl (sR _) ?_) | (go_at_call 8; refine (CA _).mono ?_; rintro e w4 ⟨rfl, hb⟩; replace O := O.call hb; clear hb) | ((with_reducible refine at_load 20 ?_); refine wpList_cell_h (v := .int .i64 x1) rfl O 0 rfl D2.out rfl agg3 rfl ?_) | ((with_reducible refine at_load 23 ?_); refine wpList_cell_h (v := .int .i64 x0) rfl O 0 rfl D0.out rfl agg3 rfl ?_) | (go_at_call 9; refine (awake_any _).mono ?_; rintro e w9 ⟨rfl, hb⟩; replace O := O.call hb; clear hb))
    go_ret
    exact ⟨rfl, O.below⟩
  cases k4 : decide (40 < sy)
  rotate_left
  · go_enter Try.func4, Try.ntmps4
    go_wp2_with (first | ((with_reducible refine at_box 1 ?_); refine wpList_box_h O (lw a b n s d r) rfl ?_; clear O; intro g1 w1 O) | ((with_reducible refine at_load 8 ?_); refine wpList_mid_h rfl O 0 rfl (M.mat 4 r) (lw_r a b n s d r) rfl Try.underlying29 rfl (sR _) ?_) | (go_at_call 7; refine (CR _).mono ?_; rintro e w3 ⟨rfl, hb⟩; replace O := O.call hb; clear hb) | ((with_reducible refine at_load 13 ?_); refine wpList_mid_h rfl O 0 rfl (M.mat 4 r) (lw_r a b n s d r) rfl Try.underlying29 rfl (sR _) ?_) | (go_at_call 8; refine (CA _).mono ?_; rintro e w4 ⟨rfl, hb⟩; replace O := O.call hb; clear hb) | ((with_reducible refine at_load 20 ?_); refine wpList_cell_h (v := .int .i64 x1) rfl O 0 rfl D2.out rfl agg3 rfl ?_) | ((with_reducible refine at_load 23 ?_); refine wpList_cell_h (v := .int .i64 x0) rfl O 0 rfl D0.out rfl agg3 rfl ?_) | ((with_reducible refine at_load 30 ?_); refine wpList_cell_h (v := .int .i64 y1) rfl O 0 rfl D3.out rfl agg3 rfl ?_) | ((with_reducible refine at_load 33 ?_); refine wpList_cell_h (v := .int .i64 y0) rfl O 0 rfl D1.out rfl agg3 rfl ?_) | (go_at_call 9; refine (awake_any _).mono ?_; rintro e w9 ⟨rfl, hb⟩; replace O := O.call hb; clear hb))
    go_ret
    exact ⟨rfl, O.below⟩
  have CL := fun w => wline_any a b n s d r w
  have hcov := fun f => @lin_cov a b n s d r f
  have hap := @lin_apart a b n s d r
  have hlen := WD.lin_len a b n s d r
  have hwid := fun h => @lin_width a b n s d r h
  obtain ⟨LA, hLA⟩ : ∃ l, WD.lin a b n s d r = l := ⟨_, rfl⟩
  obtain ⟨dd, hdd⟩ : ∃ l, WD.nxt a b n s d = l := ⟨_, rfl⟩
  rw [hLA] at CL hcov hap hlen hwid
  rw [hLA] at hmost
  rw [hdd] at CL
  have HLEN := Lib.hid hlen
  have HCOV := Lib.hid (fun i f (h : LA[i]? = some f) => hcov f (List.mem_of_getElem? h))
  have HAP := Lib.hid (fun i j f g (hij : j < i) (h : LA[i]? = some f) (h' : LA[j]? = some g) => pair_at hap hij h h')
  clear hcov hap hlen hLA hdd
  by_cases h0 : LA.length = 0
  · have kz : decide (0 < LA.length) = false := decide_eq_false (by omega)
    have kz2 : decide ((0 : Int) < LA.length) = false := decide_eq_false (by omega)
    have kq : ¬ (0 : Int) < LA.length := by omega
    clear hmost hwid hs0
    go_enter Try.func4, Try.ntmps4
    go_wp2_with (first | ((with_reducible refine at_box 1 ?_); refine wpList_box_h O (lw a b n s d r) rfl ?_; clear O; intro g1 w1 O) | ((with_reducible refine at_load 8 ?_); refine wpList_mid_h rfl O 0 rfl (M.mat 4 r) (lw_r a b n s d r) rfl Try.underlying29 rfl (sR _) ?_) | (go_at_call 7; refine (CR _).mono ?_; rintro e w3 ⟨rfl, hb⟩; replace O := O.call hb; clear hb) | ((with_reducible refine at_load 13 ?_); refine wpList_mid_h rfl O 0 rfl (M.mat 4 r) (lw_r a b n s d r) rfl Try.underlying29 rfl (sR _) ?_) | (go_at_call 8; refine (CA _).mono ?_; rintro e w4 ⟨rfl, hb⟩; replace O := O.call hb; clear hb) | ((with_reducible refine at_load 20 ?_); refine wpList_cell_h (v := .int .i64 x1) rfl O 0 rfl D2.out rfl agg3 rfl ?_) | ((with_reducible refine at_load 23 ?_); refine wpList_cell_h (v := .int .i64 x0) rfl O 0 rfl D0.out rfl agg3 rfl ?_) | ((with_reducible refine at_load 30 ?_); refine wpList_cell_h (v := .int .i64 y1) rfl O 0 rfl D3.out rfl agg3 rfl ?_) | ((with_reducible refine at_load 33 ?_); refine wpList_cell_h (v := .int .i64 y0) rfl O 0 rfl D1.out rfl agg3 rfl ?_) | ((with_reducible refine at_load 40 ?_); refine wpList_mid_h rfl O 0 rfl (M.mat 7 a) (lw_a a b n s d r) rfl Try.underlying25 rfl (sW _) ?_) | ((with_reducible refine at_load 42 ?_); refine wpList_mid_h rfl O 0 rfl (M.mat 7 b) (lw_b a b n s d r) rfl Try.underlying25 rfl (sW _) ?_) | ((with_reducible refine at_load 44 ?_); refine wpList_cell_h (v := .int .i64 n) rfl O 0 rfl (lw_n a b n s d r) rfl agg3 rfl ?_) | ((with_reducible refine at_load 46 ?_); refine wpList_cell_h (v := .bool s) rfl O 0 rfl (lw_s a b n s d r) rfl agg4' rfl ?_) | ((with_reducible refine at_load 48 ?_); refine wpList_mid_h rfl O 0 rfl (M.mat 3 d) (lw_d a b n s d r) rfl Try.underlying27 rfl (sH _) ?_) | ((with_reducible refine at_load 50 ?_); refine wpList_mid_h rfl O 0 rfl (M.mat 4 r) (lw_r a b n s d r) rfl Try.underlying29 rfl (sR _) ?_) | (go_at_call 11; refine (CL _).mono ?_; rintro e w5 ⟨XA, xc, rfl, hV, hb⟩; have O2 := O.gain hb hV; clear O hb hV; have O := O2; clear O2) | ((with_reducible refine at_alloc 4 ?_); refine wpList_alloc_h O (M.mat 3 M.zero) zeroH ?_; clear O; intro g4 w6 O) | ((with_reducible refine at_store 4 ?_); refine wpList_put_h O 0 (M.mat 3 (dd)) rfl rfl rfl (sH _) (M.mat_len2 _ _ _) (M.mat_one _ _) ?_; clear O; intro w7 O))
    go_loopw [5] (fun t5 wr => t5 = .int .i64 0 ∧ Held w wr [(g4, 27, M.mat 3 dd), (g1, 31, lw a b n s d r)] nilRow [gE w.heap.size XA xc LA]) (fun t5 _ => 0)
    case atStart => exact ⟨rfl, O⟩
    case round =>
      clear O
      obtain ⟨rfl, O⟩ := hrel
      go_wp2_with (go_at_call 9; refine (awake_any _).mono ?_; rintro e w20 ⟨rfl, hb⟩; replace O := O.call hb; clear hb)
      go_ret
      exact ⟨rfl, O.below⟩
  obtain ⟨l1, l2⟩ := hwid (by omega)
  have hmost2 := hmost (max sx sy) rfl
  obtain ⟨Pn, hP⟩ : ∃ p, (max sx sy) * n = p := ⟨_, rfl⟩
  rw [hP] at hmost2
  have hM40 : 0 < (max sx sy) ∧ (max sx sy) ≤ 40 := by
    have := of_decide_eq_false k3
    have := of_decide_eq_false k4
    omega
  have hPb : 0 ≤ Pn ∧ Pn ≤ 2560 := by
    rw [← hP]
    exact ⟨Int.mul_nonneg (by omega) (by omega), by
      have := Int.mul_le_mul hM40.2 l2 (by omega) (by omega : (0 : Int) ≤ 40)
      omega⟩
  have W3 : wrap64 ((max sx sy) * n) = Pn := (IntWalk.wrap64_in _ (by omega)).trans hP
  have kz2 : 0 < LA.length := by omega
  have kp : ¬ Pn < (LA.length : Int) := by omega
  clear hmost hwid hmost2 hP hPb hM40 hs0 l1 l2 h0
  go_enter Try.func4, Try.ntmps4
  go_wp2_with (first | ((with_reducible refine at_box 1 ?_); refine wpList_box_h O (lw a b n s d r) rfl ?_; clear O; intro g1 w1 O) | ((with_reducible refine at_load 8 ?_); refine wpList_mid_h rfl O 0 rfl (M.mat 4 r) (lw_r a b n s d r) rfl Try.underlying29 rfl (sR _) ?_) | (go_at_call 7; refine (CR _).mono ?_; rintro e w3 ⟨rfl, hb⟩; replace O := O.call hb; clear hb) | ((with_reducible refine at_load 13 ?_); refine wpList_mid_h rfl O 0 rfl (M.mat 4 r) (lw_r a b n s d r) rfl Try.underlying29 rfl (sR _) ?_) | (go_at_call 8; refine (CA _).mono ?_; rintro e w4 ⟨rfl, hb⟩; replace O := O.call hb; clear hb) | ((with_reducible refine at_load 20 ?_); refine wpList_cell_h (v := .int .i64 x1) rfl O 0 rfl D2.out rfl agg3 rfl ?_) | ((with_reducible refine at_load 23 ?_); refine wpList_cell_h (v := .int .i64 x0) rfl O 0 rfl D0.out rfl agg3 rfl ?_) | ((with_reducible refine at_load 30 ?_); refine wpList_cell_h (v := .int .i64 y1) rfl O 0 rfl D3.out rfl agg3 rfl ?_) | ((with_reducible refine at_load 33 ?_); refine wpList_cell_h (v := .int .i64 y0) rfl O 0 rfl D1.out rfl agg3 rfl ?_) | ((with_reducible refine at_load 40 ?_); refine wpList_mid_h rfl O 0 rfl (M.mat 7 a) (lw_a a b n s d r) rfl Try.underlying25 rfl (sW _) ?_) | ((with_reducible refine at_load 42 ?_); refine wpList_mid_h rfl O 0 rfl (M.mat 7 b) (lw_b a b n s d r) rfl Try.underlying25 rfl (sW _) ?_) | ((with_reducible refine at_load 44 ?_); refine wpList_cell_h (v := .int .i64 n) rfl O 0 rfl (lw_n a b n s d r) rfl agg3 rfl ?_) | ((with_reducible refine at_load 46 ?_); refine wpList_cell_h (v := .bool s) rfl O 0 rfl (lw_s a b n s d r) rfl agg4' rfl ?_) | ((with_reducible refine at_load 48 ?_); refine wpList_mid_h rfl O 0 rfl (M.mat 3 d) (lw_d a b n s d r) rfl Try.underlying27 rfl (sH _) ?_) | ((with_reducible refine at_load 50 ?_); refine wpList_mid_h rfl O 0 rfl (M.mat 4 r) (lw_r a b n s d r) rfl Try.underlying29 rfl (sR _) ?_) | (go_at_call 11; refine (CL _).mono ?_; rintro e w5 ⟨XA, xc, rfl, hV, hb⟩; have O2 := O.gain hb hV; clear O hb hV; have O := O2; clear O2) | ((with_reducible refine at_alloc 4 ?_); refine wpList_alloc_h O (M.mat 3 M.zero) zeroH ?_; clear O; intro g4 w6 O) | ((with_reducible refine at_store 4 ?_); refine wpList_put_h O 0 (M.mat 3 (dd)) rfl rfl rfl (sH _) (M.mat_len2 _ _ _) (M.mat_one _ _) ?_; clear O; intro w7 O) | ((with_reducible refine at_load 62 ?_); refine wpList_cell_h (v := .int .i64 x1) rfl O 1 rfl D2.out rfl agg3 rfl ?_) | ((with_reducible refine at_load 65 ?_); refine wpList_cell_h (v := .int .i64 x0) rfl O 1 rfl D0.out rfl agg3 rfl ?_) | ((with_reducible refine at_load 69 ?_); refine wpList_cell_h (v := .int .i64 y1) rfl O 1 rfl D3.out rfl agg3 rfl ?_) | ((with_reducible refine at_load 72 ?_); refine wpList_cell_h (v := .int .i64 y0) rfl O 1 rfl D1.out rfl agg3 rfl ?_) | ((with_reducible refine at_load 76 ?_); refine wpList_cell_h (v := .int .i64 n) rfl O 1 rfl (lw_n a b n s d r) rfl agg3 rfl ?_))
  clear kz2 kp W1 W2 W3 CR CA CL k2 k3 k4 D0 D1 D2 D3
  have OX : Held w w7 [(g4, 27, M.mat 3 dd), (g1, 31, lw a b n s d r)] nilRow [gE w.heap.size XA xc LA] := O
  clear O
  have O := OX
  clear OX
  obtain ⟨az, haz⟩ : ∃ z, a 2 = z := ⟨_, rfl⟩
  obtain ⟨bz, hbz⟩ : ∃ z, b 2 = z := ⟨_, rfl⟩
  have E0 : Hid ((lw a b n s d r)[2]? = some (.int .i64 az)) := Lib.hid (by rw [← haz]; rfl)
  have E1 : Hid ((lw a b n s d r)[9]? = some (.int .i64 bz)) := Lib.hid (by rw [← hbz]; rfl)
  rw [haz, hbz] at HCOV
  clear haz hbz
  obtain ⟨mn, hmn⟩ : ∃ m, min az bz = m := ⟨_, rfl⟩
  obtain ⟨mx, hmx⟩ : ∃ m, max az bz = m := ⟨_, rfl⟩
  have HMN := Lib.hid (And.intro hmn ((min_if az bz).trans hmn))
  have HMX := Lib.hid (And.intro hmx ((max_if az bz).trans hmx))
  rw [hmn, hmx] at HCOV
  clear hmn hmx
  go_loopw [5] (fun t5 wr => ∃ i : Nat, i ≤ LA.length ∧ t5 = .int .i64 (i : Int) ∧ Held w wr [(g4, 27, M.mat 3 dd), (g1, 31, lw a b n s d r)] nilRow [gE w.heap.size XA xc LA]) (fun t5 _ => LA.length - (intOf t5).toNat)
  case atStart => exact ⟨0, Nat.zero_le _, rfl, O⟩
  case round =>
    clear O
    obtain ⟨i, hi, rfl, O⟩ := hrel
    have q0 : (0 : Int) ≤ i := by omega
    by_cases hlt : i < LA.length
    · have q1 : (i : Int) < LA.length := by omega
      obtain ⟨f, hf⟩ : ∃ f, LA[i]? = some f := ⟨_, List.getElem?_eq_getElem hlt⟩
      have W1 : wrap64 ((i : Int) + 1) = (i : Int) + 1 := IntWalk.wrap64_in _ (by have := HLEN.out; omega)
      obtain ⟨hc7, hc2, hc3⟩ := HCOV.out i f hf
      have hpair := fun j g hj h => HAP.out i j f g hj hf h
      obtain ⟨X, hX⟩ : ∃ X, f 0 = X := ⟨_, rfl⟩
      obtain ⟨Y, hY⟩ : ∃ Y, f 1 = Y := ⟨_, rfl⟩
      obtain ⟨Z, hZ⟩ : ∃ Z, f 2 = Z := ⟨_, rfl⟩
      rw [hX, hY] at hpair
      rw [hZ] at hc2 hc3
      have FX : Hid ((gC LA)[i * 8]? = some (.int .i64 X)) := Lib.hid (by rw [← hX]; exact gC_at hf 0 _ rfl)
      have FY : Hid ((gC LA)[i * 8 + 1]? = some (.int .i64 Y)) := Lib.hid (by rw [← hY]; exact gC_at hf 1 _ rfl)
      have FZ : Hid ((gC LA)[i * 8 + 2]? = some (.int .i64 Z)) := Lib.hid (by rw [← hZ]; exact gC_at hf 2 _ rfl)
      have FC : Hid ((gC LA)[i * 8 + 7]? = some (.int .i64 64)) := Lib.hid (by rw [← hc7]; exact gC_at hf 7 _ rfl)
      have HPAIR := Lib.hid hpair
      have HC2 := Lib.hid (And.intro hc2 hc3)
      clear hf hX hY hZ hc7 hc2 hc3 hpair
      go_wp2_with fail
      go_loopw [6] (fun t6 wr => ∃ k : Nat, k ≤ i ∧ t6 = .int .i64 (k : Int) ∧ Held w wr [(g4, 27, M.mat 3 dd), (g1, 31, lw a b n s d r)] nilRow [gE w.heap.size XA xc LA]) (fun t6 _ => i - (intOf t6).toNat)
      case atStart => exact ⟨0, Nat.zero_le _, rfl, O⟩
      case round =>
        clear O
        obtain ⟨k, hk, rfl, O⟩ := hrel
        have q2 : (0 : Int) ≤ k := by omega
        by_cases hkt : k < i
        · have q3 : (k : Int) < i := by omega
          have W2 : wrap64 ((k : Int) + 1) = (k : Int) + 1 := IntWalk.wrap64_in _ (by have := HLEN.out; omega)
          obtain ⟨g, hg⟩ : ∃ g, LA[k]? = some g := ⟨_, List.getElem?_eq_getElem (by omega)⟩
          have hp := HPAIR.out k g hkt hg
          obtain ⟨X2, hX2⟩ : ∃ X, g 0 = X := ⟨_, rfl⟩
          obtain ⟨Y2, hY2⟩ : ∃ Y, g 1 = Y := ⟨_, rfl⟩
          rw [hX2, hY2] at hp
          have GX : Hid ((gC LA)[k * 8]? = some (.int .i64 X2)) := Lib.hid (by rw [← hX2]; exact gC_at hg 0 _ rfl)
          have GY : Hid ((gC LA)[k * 8 + 1]? = some (.int .i64 Y2)) := Lib.hid (by rw [← hY2]; exact gC_at hg 1 _ rfl)
          clear hg hX2 hY2
          go_wp2_with fail
          by_cases hx : X = X2
          · have hy : ¬ Y = Y2 := fun e => hp ⟨hx, e⟩
            have ka : (X == X2) = true := by simpa using hx
            have ka2 : decide (X = X2) = true := decide_eq_true hx
            have ka3 : (X = X2) = True := eq_true hx
            have kb : (Y == Y2) = false := by simpa using hy
            have kb2 : decide (Y = Y2) = false := decide_eq_false hy
            have kb3 : (Y = Y2) = False := eq_false hy
            clear hx hy hp
            have OO := O
            clear O
            have O := OO
            clear OO
            refine region_T ((fun w2 => Held w w2 [(g4, 27, M.mat 3 dd), (g1, 31, lw a b n s d r)] nilRow [gE w.heap.size XA xc LA])) [0, 1, 2, 3, 4, 5, 6, 7, 8, 9, 10, 11, 12, 13, 14, 15, 16, 17, 18, 19, 20, 21, 22] 12 [some 91, some 92, some 93, some 94, some 95, some 96, some 97, some 98, some 99, some 100, some 101, some 102, some 103, some 104, some 105, some 106, some 107, some 108, some 109, some 110, some 111, some 112, some 113] [.slice XA LA.length xc, .int .i64 (i : Int), .pointer (some ((adr XA).add (i * 8))), .pointer (some ((adr XA).add (i * 8))), .int .i64 (X), .slice XA LA.length xc, .int .i64 (k : Int), .pointer (some ((adr XA).add (k * 8))), .pointer (some ((adr XA).add (k * 8))), .int .i64 (X2), .bool true, .bool true, .slice XA LA.length xc, .int .i64 (i : Int), .pointer (some ((adr XA).add (i * 8))), .pointer (some ⟨((adr XA).add (i * 8)).block, ((adr XA).add (i * 8)).off + 1, none⟩), .int .i64 (Y), .slice XA LA.length xc, .int .i64 (k : Int), .pointer (some ((adr XA).add (k * 8))), .pointer (some ⟨((adr XA).add (k * 8)).block, ((adr XA).add (k * 8)).off + 1, none⟩), .int .i64 (Y2), .bool false] 1 (by kernel_rfl) (by rfl) (by kernel_rfl) (by rfl) (by rfl) (O.drew) (fun F hF => ?_)
            simp only [fillD, Act.put, List.setIfInBounds_toArray, List.set_cons_zero, List.set_cons_succ] at hF
            subst hF
            refine ⟨⟨does_want rfl (by rfl) (fun w' O K hK => ?_), does_want rfl (by rfl) (fun w' O K hK => ?_), does_want rfl (by rfl) (fun w' O K hK => ?_), does_want rfl (by rfl) (fun w' O K hK => ?_), does_want rfl (by rfl) (fun w' O K hK => ?_), does_want rfl (by rfl) (fun w' O K hK => ?_), does_want rfl (by rfl) (fun w' O K hK => ?_), does_want rfl (by rfl) (fun w' O K hK => ?_), does_want rfl (by rfl) (fun w' O K hK => ?_), does_want rfl (by rfl) (fun w' O K hK => ?_), does_want rfl (by rfl) (fun w' O K hK => ?_), does_want rfl (by rfl) (fun w' O K hK => ?_), does_want rfl (by rfl) (fun w' O K hK => ?_), does_want rfl (by rfl) (fun w' O K hK => ?_), does_want rfl (by rfl) (fun w' O K hK => ?_), does_want rfl (by rfl) (fun w' O K hK => ?_), does_want rfl (by rfl) (fun w' O K hK => ?_), does_want rfl (by rfl) (fun w' O K hK => ?_), does_want rfl (by rfl) (fun w' O K hK => ?_), does_want rfl (by rfl) (fun w' O K hK => ?_), does_want rfl (by rfl) (fun w' O K hK => ?_), does_want rfl (by rfl) (fun w' O K hK => ?_), does_want rfl (by rfl) (fun w' O K hK => ?_), trivial⟩, fun w' O => ?_⟩
            · go_simp
              exact hK _ O
            · go_simp
              exact hK _ O
            · exact wp_at_h Try.underlying38 sizeOfG (gE w.heap.size XA xc LA) (O.mem List.mem_cons_self) rfl i rfl rfl (by omega) rfl (hK _ O)
            · go_simp
              exact hK _ O
            · exact wp_ecell_h (gE w.heap.size XA xc LA) (O.mem List.mem_cons_self) (i * 8) (v := .int .i64 X) FX.out rfl agg3 rfl (hK _ O)
            · go_simp
              exact hK _ O
            · go_simp
              exact hK _ O
            · exact wp_at_h Try.underlying38 sizeOfG (gE w.heap.size XA xc LA) (O.mem List.mem_cons_self) rfl k rfl rfl (by omega) rfl (hK _ O)
            · go_simp
              exact hK _ O
            · exact wp_ecell_h (gE w.heap.size XA xc LA) (O.mem List.mem_cons_self) (k * 8) (v := .int .i64 X2) GX.out rfl agg3 rfl (hK _ O)
            · go_simp
              first | exact hK _ O | (simp only [ka]; exact hK _ O) | (simp only [ka2]; exact hK _ O) | (simp only [ka3, decide_false]; exact hK _ O) | (simp only [ka3, decide_true]; exact hK _ O)
            · go_simp
              exact hK _ O
            · go_simp
              exact hK _ O
            · go_simp
              exact hK _ O
            · exact wp_at_h Try.underlying38 sizeOfG (gE w.heap.size XA xc LA) (O.mem List.mem_cons_self) rfl i rfl rfl (by omega) rfl (hK _ O)
            · go_simp
              exact hK _ O
            · exact wp_ecell_h (gE w.heap.size XA xc LA) (O.mem List.mem_cons_self) (i * 8 + 1) (v := .int .i64 Y) FY.out (congrArg (fun z => Value.pointer (some z)) (add_fld _ (i * 8) 1 (by decide))) agg3 rfl (hK _ O)
            · go_simp
              exact hK _ O
            · go_simp
              exact hK _ O
            · exact wp_at_h Try.underlying38 sizeOfG (gE w.heap.size XA xc LA) (O.mem List.mem_cons_self) rfl k rfl rfl (by omega) rfl (hK _ O)
            · go_simp
              exact hK _ O
            · exact wp_ecell_h (gE w.heap.size XA xc LA) (O.mem List.mem_cons_self) (k * 8 + 1) (v := .int .i64 Y2) GY.out (congrArg (fun z => Value.pointer (some z)) (add_fld _ (k * 8) 1 (by decide))) agg3 rfl (hK _ O)
            · go_simp
              first | exact hK _ O | (simp only [kb]; exact hK _ O) | (simp only [kb2]; exact hK _ O) | (simp only [kb3, decide_false]; exact hK _ O) | (simp only [kb3, decide_true]; exact hK _ O)
            refine wpAny_one (i := 23) (by kernel_rfl) rfl (fun K hK => ?_)
            go_simp
            refine hK _ _ ?_
            clear hK K
            try simp only [Act.put, List.setIfInBounds_toArray, List.set_cons_zero, List.set_cons_succ]
            refine wpAny_done (by kernel_rfl) ?_ _
            clear ka ka2 ka3 kb kb2 kb3
            go_wp2_with fail
            go_roundw
            case rel => exact ⟨k + 1, by omega, by go_num, O⟩
            case measure => first | exact meas_lt W2 hkt | exact meas_lt2 hkt
          · have ka : (X == X2) = false := by simpa using hx
            have ka2 : decide (X = X2) = false := decide_eq_false hx
            have ka3 : (X = X2) = False := eq_false hx
            clear hx hp
            have OO := O
            clear O
            have O := OO
            clear OO
            refine region_T ((fun w2 => Held w w2 [(g4, 27, M.mat 3 dd), (g1, 31, lw a b n s d r)] nilRow [gE w.heap.size XA xc LA])) [0, 1, 2, 3, 4, 5, 6, 7, 8, 9, 10, 11, 12, 13, 14, 15, 16, 17, 18, 19, 20, 21, 22] 12 [some 91, some 92, some 93, some 94, some 95, some 96, some 97, some 98, some 99, some 100, some 101, some 102, some 103, some 104, some 105, some 106, some 107, some 108, some 109, some 110, some 111, some 112, some 113] [.slice XA LA.length xc, .int .i64 (i : Int), .pointer (some ((adr XA).add (i * 8))), .pointer (some ((adr XA).add (i * 8))), .int .i64 (X), .slice XA LA.length xc, .int .i64 (k : Int), .pointer (some ((adr XA).add (k * 8))), .pointer (some ((adr XA).add (k * 8))), .int .i64 (X2), .bool false, .bool false, undef, undef, undef, undef, undef, undef, undef, undef, undef, undef, undef] 1 (by kernel_rfl) (by rfl) (by kernel_rfl) (by rfl) (by rfl) (O.drew) (fun F hF => ?_)
            simp only [fillD, Act.put, List.setIfInBounds_toArray, List.set_cons_zero, List.set_cons_succ] at hF
            subst hF
            refine ⟨⟨does_want rfl (by rfl) (fun w' O K hK => ?_), does_want rfl (by rfl) (fun w' O K hK => ?_), does_want rfl (by rfl) (fun w' O K hK => ?_), does_want rfl (by rfl) (fun w' O K hK => ?_), does_want rfl (by rfl) (fun w' O K hK => ?_), does_want rfl (by rfl) (fun w' O K hK => ?_), does_want rfl (by rfl) (fun w' O K hK => ?_), does_want rfl (by rfl) (fun w' O K hK => ?_), does_want rfl (by rfl) (fun w' O K hK => ?_), does_want rfl (by rfl) (fun w' O K hK => ?_), does_want rfl (by rfl) (fun w' O K hK => ?_), does_want rfl (by rfl) (fun w' O K hK => ?_), does_skip rfl (by rfl), does_skip rfl (by rfl), does_skip rfl (by rfl), does_skip rfl (by rfl), does_skip rfl (by rfl), does_skip rfl (by rfl), does_skip rfl (by rfl), does_skip rfl (by rfl), does_skip rfl (by rfl), does_skip rfl (by rfl), does_skip rfl (by rfl), trivial⟩, fun w' O => ?_⟩
            · go_simp
              exact hK _ O
            · go_simp
              exact hK _ O
            · exact wp_at_h Try.underlying38 sizeOfG (gE w.heap.size XA xc LA) (O.mem List.mem_cons_self) rfl i rfl rfl (by omega) rfl (hK _ O)
            · go_simp
              exact hK _ O
            · exact wp_ecell_h (gE w.heap.size XA xc LA) (O.mem List.mem_cons_self) (i * 8) (v := .int .i64 X) FX.out rfl agg3 rfl (hK _ O)
            · go_simp
              exact hK _ O
            · go_simp
              exact hK _ O
            · exact wp_at_h Try.underlying38 sizeOfG (gE w.heap.size XA xc LA) (O.mem List.mem_cons_self) rfl k rfl rfl (by omega) rfl (hK _ O)
            · go_simp
              exact hK _ O
            · exact wp_ecell_h (gE w.heap.size XA xc LA) (O.mem List.mem_cons_self) (k * 8) (v := .int .i64 X2) GX.out rfl agg3 rfl (hK _ O)
            · go_simp
              first | exact hK _ O | (simp only [ka]; exact hK _ O) | (simp only [ka2]; exact hK _ O) | (simp only [ka3, decide_false]; exact hK _ O) | (simp only [ka3, decide_true]; exact hK _ O)
            · go_simp
              exact hK _ O
            refine wpAny_one (i := 23) (by kernel_rfl) rfl (fun K hK => ?_)
            go_simp
            refine hK _ _ ?_
            clear hK K
            try simp only [Act.put, List.setIfInBounds_toArray, List.set_cons_zero, List.set_cons_succ]
            refine wpAny_done (by kernel_rfl) ?_ _
            clear ka ka2 ka3
            go_wp2_with fail
            go_roundw
            case rel => exact ⟨k + 1, by omega, by go_num, O⟩
            case measure => first | exact meas_lt W2 hkt | exact meas_lt2 hkt
        · have q3 : ¬ (k : Int) < i := by omega
          obtain ⟨hz1, hz2⟩ := HC2.out
          have kl : decide (Z < mn) = false := decide_eq_false (by omega)
          have kl3 : (Z < mn) = False := eq_false (by omega)
          have kg : decide (mx < Z) = false := decide_eq_false (by omega)
          have kg3 : (mx < Z) = False := eq_false (by omega)
          clear hz1 hz2
          go_wp2_with fail
          have OO := O
          clear O
          have O := OO
          clear OO
          refine region_T ((fun w2 => Held w w2 [(g4, 27, M.mat 3 dd), (g1, 31, lw a b n s d r)] nilRow [gE w.heap.size XA xc LA])) [0, 1, 2, 3, 4, 5, 6, 7, 8, 9, 10, 11, 12, 13, 14, 15, 16, 17, 18, 19, 20, 21, 22, 23, 24, 25, 26, 27, 28, 29, 30, 31, 32, 33, 34] 12 [some 115, some 116, some 117, some 118, some 119, some 120, some 121, some 122, some 123, some 124, some 125, some 126, some 127, some 128, some 129, some 130, some 131, some 132, some 133, some 134, some 135, some 136, some 137, some 138, some 139, some 140, some 141, some 142, some 143, some 144, some 145, some 146, some 147, some 148, some 149] [.slice XA LA.length xc, .int .i64 (i : Int), .pointer (some ((adr XA).add (i * 8))), .pointer (some ⟨((adr XA).add (i * 8)).block, ((adr XA).add (i * 8)).off + 7, none⟩), .int .i64 (64), .bool false, .bool false, .slice XA LA.length xc, .int .i64 (i : Int), .pointer (some ((adr XA).add (i * 8))), .pointer (some ⟨((adr XA).add (i * 8)).block, ((adr XA).add (i * 8)).off + 2, none⟩), .int .i64 (Z), .pointer (some ⟨g1, 0, none⟩), .pointer (some ⟨g1, 2, none⟩), .int .i64 (az), .pointer (some ⟨g1, 7, none⟩), .pointer (some ⟨g1, 9, none⟩), .int .i64 (bz), .int .i64 (mn), .bool false, .bool false, .bool false, .slice XA LA.length xc, .int .i64 (i : Int), .pointer (some ((adr XA).add (i * 8))), .pointer (some ⟨((adr XA).add (i * 8)).block, ((adr XA).add (i * 8)).off + 2, none⟩), .int .i64 (Z), .pointer (some ⟨g1, 0, none⟩), .pointer (some ⟨g1, 2, none⟩), .int .i64 (az), .pointer (some ⟨g1, 7, none⟩), .pointer (some ⟨g1, 9, none⟩), .int .i64 (bz), .int .i64 (mx), .bool false] 1 (by kernel_rfl) (by rfl) (by kernel_rfl) (by rfl) (by rfl) (O.drew) (fun F hF => ?_)
          simp only [fillD, Act.put, List.setIfInBounds_toArray, List.set_cons_zero, List.set_cons_succ] at hF
          subst hF
          refine ⟨⟨does_want rfl (by rfl) (fun w' O K hK => ?_), does_want rfl (by rfl) (fun w' O K hK => ?_), does_want rfl (by rfl) (fun w' O K hK => ?_), does_want rfl (by rfl) (fun w' O K hK => ?_), does_want rfl (by rfl) (fun w' O K hK => ?_), does_want rfl (by rfl) (fun w' O K hK => ?_), does_want rfl (by rfl) (fun w' O K hK => ?_), does_want rfl (by rfl) (fun w' O K hK => ?_), does_want rfl (by rfl) (fun w' O K hK => ?_), does_want rfl (by rfl) (fun w' O K hK => ?_), does_want rfl (by rfl) (fun w' O K hK => ?_), does_want rfl (by rfl) (fun w' O K hK => ?_), does_want rfl (by rfl) (fun w' O K hK => ?_), does_want rfl (by rfl) (fun w' O K hK => ?_), does_want rfl (by rfl) (fun w' O K hK => ?_), does_want rfl (by rfl) (fun w' O K hK => ?_), does_want rfl (by rfl) (fun w' O K hK => ?_), does_want rfl (by rfl) (fun w' O K hK => ?_), does_want rfl (by rfl) (fun w' O K hK => ?_), does_want rfl (by rfl) (fun w' O K hK => ?_), does_want rfl (by rfl) (fun w' O K hK => ?_), does_want rfl (by rfl) (fun w' O K hK => ?_), does_want rfl (by rfl) (fun w' O K hK => ?_), does_want rfl (by rfl) (fun w' O K hK => ?_), does_want rfl (by rfl) (fun w' O K hK => ?_), does_want rfl (by rfl) (fun w' O K hK => ?_), does_want rfl (by rfl) (fun w' O K hK => ?_), does_want rfl (by rfl) (fun w' O K hK => ?_), does_want rfl (by rfl) (fun w' O K hK => ?_), does_want rfl (by rfl) (fun w' O K hK => ?_), does_want rfl (by rfl) (fun w' O K hK => ?_), does_want rfl (by rfl) (fun w' O K hK => ?_), does_want rfl (by rfl) (fun w' O K hK => ?_), does_want rfl (by rfl) (fun w' O K hK => ?_), does_want rfl (by rfl) (fun w' O K hK => ?_), trivial⟩, fun w' O => ?_⟩
          · go_simp
            exact hK _ O
          · go_simp
            exact hK _ O
          · exact wp_at_h Try.underlying38 sizeOfG (gE w.heap.size XA xc LA) (O.mem List.mem_cons_self) rfl i rfl rfl (by omega) rfl (hK _ O)
          · go_simp
            exact hK _ O
          · exact wp_ecell_h (gE w.heap.size XA xc LA) (O.mem List.mem_cons_self) (i * 8 + 7) (v := .int .i64 64) FC.out (congrArg (fun z => Value.pointer (some z)) (add_fld _ (i * 8) 7 (by decide))) agg3 rfl (hK _ O)
          · go_simp
            exact hK _ O
          · go_simp
            exact hK _ O
          · go_simp
            exact hK _ O
          · go_simp
            exact hK _ O
          · exact wp_at_h Try.underlying38 sizeOfG (gE w.heap.size XA xc LA) (O.mem List.mem_cons_self) rfl i rfl rfl (by omega) rfl (hK _ O)
          · go_simp
            exact hK _ O
          · exact wp_ecell_h (gE w.heap.size XA xc LA) (O.mem List.mem_cons_self) (i * 8 + 2) (v := .int .i64 Z) FZ.out (congrArg (fun z => Value.pointer (some z)) (add_fld _ (i * 8) 2 (by decide))) agg3 rfl (hK _ O)
          · go_simp
            exact hK _ O
          · go_simp
            exact hK _ O
          · exact wp_cell_h (v := .int .i64 (az)) O 1 rfl E0.out rfl agg3 rfl (hK _ O)
          · go_simp
            exact hK _ O
          · go_simp
            exact hK _ O
          · exact wp_cell_h (v := .int .i64 (bz)) O 1 rfl E1.out rfl agg3 rfl (hK _ O)
          · obtain ⟨e1, e2⟩ := HMN.out
            go_simp
            first | exact hK _ O | (simp only [e1]; exact hK _ O) | (simp only [e2]; exact hK _ O)
          · go_simp
            first | exact hK _ O | (simp only [kl]; exact hK _ O) | (simp only [kl3, decide_false]; exact hK _ O)
          · go_simp
            exact hK _ O
          · go_simp
            exact hK _ O
          · go_simp
            exact hK _ O
          · go_simp
            exact hK _ O
          · exact wp_at_h Try.underlying38 sizeOfG (gE w.heap.size XA xc LA) (O.mem List.mem_cons_self) rfl i rfl rfl (by omega) rfl (hK _ O)
          · go_simp
            exact hK _ O
          · exact wp_ecell_h (gE w.heap.size XA xc LA) (O.mem List.mem_cons_self) (i * 8 + 2) (v := .int .i64 Z) FZ.out (congrArg (fun z => Value.pointer (some z)) (add_fld _ (i * 8) 2 (by decide))) agg3 rfl (hK _ O)
          · go_simp
            exact hK _ O
          · go_simp
            exact hK _ O
          · exact wp_cell_h (v := .int .i64 (az)) O 1 rfl E0.out rfl agg3 rfl (hK _ O)
          · go_simp
            exact hK _ O
          · go_simp
            exact hK _ O
          · exact wp_cell_h (v := .int .i64 (bz)) O 1 rfl E1.out rfl agg3 rfl (hK _ O)
          · obtain ⟨e1, e2⟩ := HMX.out
            go_simp
            first | exact hK _ O | (simp only [e1]; exact hK _ O) | (simp only [e2]; exact hK _ O)
          · go_simp
            first | exact hK _ O | (simp only [kg]; exact hK _ O) | (simp only [kg3, decide_false]; exact hK _ O)
          refine wpAny_one (i := 35) (by kernel_rfl) rfl (fun K hK => ?_)
          go_simp
          refine hK _ _ ?_
          clear hK K
          try simp only [Act.put, List.setIfInBounds_toArray, List.set_cons_zero, List.set_cons_succ]
          refine wpAny_done (by kernel_rfl) ?_ _
          clear kl kl3 kg kg3
          go_wp2_with fail
          go_roundw
          case rel => exact ⟨i + 1, by omega, by go_num, O⟩
          case measure => first | exact meas_lt W1 hlt | exact meas_lt2 hlt
    · have q1 : ¬ (i : Int) < LA.length := by omega
      go_wp2_with (go_at_call 9; refine (awake_any _).mono ?_; rintro e w20 ⟨rfl, hb⟩; replace O := O.call hb; clear hb)
      go_ret
      exact ⟨rfl, O.below⟩

theorem readable : ∀ t ∈ Try.f4.params.toList, Try.prog.readableRec t = true ∧ t < Try.prog.types.size := by
  intro t ht
  rw [Try.params4] at ht
  simp only [List.mem_cons, List.not_mem_nil, or_false] at ht
  repeat (first | (rcases ht with rfl | ht; exact ⟨by kernel_rfl, of_decide_eq_true (by kernel_rfl)⟩) | (subst ht; exact ⟨by kernel_rfl, of_decide_eq_true (by kernel_rfl)⟩))
set_option maxRecDepth 100000 in
theorem lifted (os : Os) (started : os.Started) (H : Type) (enc : TypeId × Value → H) :
    ReturnsInHanded {} Try.checked os 4 .any (Rows.wideOnceSpec.pre6 enc Try.prog Try.f4 Rows.wideOnceRow.domain false) (Rows.wideOnceSpec.post enc Try.prog Try.f4 false true false false) := by
  refine returnsInHanded_of_change (C := Try.checked) own started (by kernel_rfl) Try.func4
    (ChangeSpec.witness6 (enc := enc) (C := Try.checked) false ⟨#[], #[.agg #[.int .i64 0, .int .i64 0, .int .i64 0, .int .i64 0, .int .i64 0, .int .i64 0, .int .i64 0, .int .i64 0, .int .i64 0, .int .i64 0, .int .i64 0, .int .i64 0, .int .i64 0, .int .i64 0, .int .i64 0, .bool false, .int .i64 0, .int .i64 0, .int .i64 0, .int .i64 0, .int .i64 0, .int .i64 0, .int .i64 0]], []⟩ 8 (by kernel_rfl) (by kernel_rfl) (by kernel_rfl) (by kernel_rfl)) ?_
  intro W base args ds gs before hval0 hW hcnd _
  have hval : ∀ (j : Nat) t v, Try.f4.params[j]? = some t → args[j]? = some v → Value.okWide Try.prog W .any base t v := hval0
  have hW' := hW
  obtain ⟨p, q, hA0, hV, rfl, hfz, hnd⟩ := hW
  have hA : DataW.TrodAll enc Try.prog W 0 (fun _ => true) true Try.f4.params.toList args.toList ds p := hA0
  rw [Try.params4] at hA hval
  have hlt : ∀ x ∈ p ++ q, x.block < W.heap.size := fun x hx => hW'.lt x hx
  obtain ⟨v0, vs0, d0, ds0, p0, q0, hargs, rfl, rfl, h0, rr0⟩ := trodAll_cons hA
  obtain ⟨rfl, rfl, rfl⟩ := trodAll_nil rr0
  obtain rfl : args = #[v0] := by cases args; simp_all
  obtain ⟨rfl, rfl⟩ := trodVars_none hV
  obtain ⟨a0, b0, n0, s0, e0, r0, rfl⟩ := openLine (hval 0 31 v0 rfl rfl) h0
  clear hA0 hval0
  refine (walk W a0 b0 n0 s0 e0 r0).mono fun e W' ⟨he, hg⟩ => ?_
  subst he
  exact ⟨_, rfl, post_true (tb := 4) laid readable (by kernel_rfl) Try.underlying4 rfl (fun l hl => by
    match l, hl with
    | [_], _ => exact ⟨rfl, rfl, rfl⟩) hW' hg⟩

theorem over : Rows.wideOnceRow.holds Try.pinned (OpenSpec.ofChange Rows.wideOnceSpec) :=
  OpenClaim.holds_of_wide 4 Try.f4 rfl rfl rfl rfl rfl rfl rfl ⟨rfl, rfl, rfl, rfl, rfl⟩ rfl rfl rfl rfl rfl (by kernel_rfl) Try.func4 (by kernel_rfl)
    (of_decide_eq_true (by kernel_rfl)) (by unfold Func.isWrapper; first | (rw [if_pos (by decide +kernel)]; kernel_rfl) | (rw [if_neg (by decide +kernel)]; exact ⟨rfl, rfl⟩))
    (fun os started H enc _ => lifted os started H enc)

theorem proved : Rows.WideOnceSaid :=
  over
#print axioms proved
end Go.Proofs.Ytpfhaocmcfnhnaa.wideOnce
