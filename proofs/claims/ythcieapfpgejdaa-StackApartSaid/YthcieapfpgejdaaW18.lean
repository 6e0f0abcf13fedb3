/- Contract: the document's Mult. -/
import Derived.Test.YthcieapfpgejdaaW17
import Derived.Test.YthcieapfpgejdaaRMul4
namespace Go.Proofs.Ythcieapfpgejdaa
open Go.ChangeShapes Go.WideShapes Go.ChangeAt Go.RowKit
set_option linter.unusedVariables false
set_option linter.unusedSimpArgs false

theorem mul_ok {a b : Nat → Int} (ha : M.right a = true) (hb : M.right b = true) (h : (M.mul a b).2 = 0) : M.right (M.mul a b).1 = true := by
  unfold M.mul at h ⊢
  simp only [ha, hb, Bool.and_true, if_true] at h ⊢
  by_cases hp : M.right (M.prod a b) = true
  · simp [hp]
  · simp [hp] at h
theorem last_right {l : List (Nat → Int)} (h : Stk.okL l = true) (hne : l ≠ []) : M.right (Stk.last l) = true :=
  (Stk.okL_iff.1 h).2.2 _ (List.mem_of_getElem? (Stk.last_mem hne))
set_option maxRecDepth 100000 in
set_option maxHeartbeats 4000000 in
theorem rmult_any (m : Int) (L : Nat → Ent) (x : Nat → Int) (w : World) (hL : ∀ i, i < 2 → Lies w [] (L i)) : Calls Try.prog 17 #[.agg (sv m L).toArray, arr 16 x] w (RetSE w (Stk.mult (stk m L) x)) := by
  have O := OwnL.start w [L 0, L 1] (two_all hL)
  have hu2 := Try.underlying25
  have hu3 := Try.underlying27
  clear hL
  cases hr : Stk.right (stk m L)
  · have HE : Hid (Stk.mult (stk m L) x = (Stk.none_, 1)) := by show _ = _; simp [Stk.mult, hr]
    have HR := Lib.hid hr
    clear hr
    go_enter Try.func17, Try.ntmps17
    go_wp2_with (first | ((with_reducible refine at_box 2 ?_); refine wpList_box_ls O (sv m L) rfl ?_; clear O; intro g2 w1 O) | ((with_reducible refine at_box 3 ?_); refine wpList_box_ls O (M.mat 16 x) rfl ?_; clear O; intro g3 w1 O) | ((with_reducible refine at_alloc 4 ?_); refine wpList_alloc_ls O (sv 0 (noL 0)) zero25 ?_; clear O; intro g4 w2 O) | ((with_reducible refine at_load 10 ?_); refine wpList_rowg_ls rfl O 2 rfl rfl Try.underlying25 rfl (s25 _ _) ?_) | (go_at_call 23; refine (rright6_any m L _ O.twoL).mono ?_; rw [HR.out]; rintro e w3 ⟨rfl, hb⟩; replace O := O.call hb; clear hb) | ((with_reducible refine at_load 14 ?_); refine wpList_rowg_ls rfl O 1 rfl rfl Try.underlying27 rfl (s23 _) ?_) | ((with_reducible refine at_build 18 ?_); refine wpList_build_own [] (sv 0 (noL 0)).toArray ?_ built25z ?_; (focus simp)) | ((with_reducible refine at_store 4 ?_); refine wpList_put_ls O 0 (sv (0) (noL 0)) rfl rfl rfl (s25 _ _) (sv_len _ _ _ _) (sv_one _ _) ?_; clear O; intro w4 O))
    refine bodyPost_ret (v := .tuple #[.agg (sv 0 (noL 0)).toArray, .int .i64 1]) (res_ls3 rfl O 0 rfl rfl Try.underlying25 rfl (s25 _ _) rfl) rfl ?_
    rw [HE.out]
    exact ⟨_, rfl, newS_none _ _, O.below⟩
  cases hx : M.right x
  · have HE : Hid (Stk.mult (stk m L) x = (Stk.none_, 1)) := by show _ = _; simp [Stk.mult, hr, M.mul, hx]
    have HR := Lib.hid hr
    have HX := Lib.hid hx
    clear hr hx
    go_enter Try.func17, Try.ntmps17
    go_wp2_with (first | ((with_reducible refine at_box 2 ?_); refine wpList_box_ls O (sv m L) rfl ?_; clear O; intro g2 w1 O) | ((with_reducible refine at_box 3 ?_); refine wpList_box_ls O (M.mat 16 x) rfl ?_; clear O; intro g3 w1 O) | ((with_reducible refine at_alloc 4 ?_); refine wpList_alloc_ls O (sv 0 (noL 0)) zero25 ?_; clear O; intro g4 w2 O) | ((with_reducible refine at_load 10 ?_); refine wpList_rowg_ls rfl O 2 rfl rfl Try.underlying25 rfl (s25 _ _) ?_) | (go_at_call 23; refine (rright6_any m L _ O.twoL).mono ?_; rw [HR.out]; rintro e w3 ⟨rfl, hb⟩; replace O := O.call hb; clear hb) | ((with_reducible refine at_load 14 ?_); refine wpList_rowg_ls rfl O 1 rfl rfl Try.underlying27 rfl (s23 _) ?_) | (go_at_call 28; refine (rright_any x _).mono ?_; rw [HX.out]; rintro e w4 ⟨rfl, hb⟩; replace O := O.call hb; clear hb) | ((with_reducible refine at_build 18 ?_); refine wpList_build_own [] (sv 0 (noL 0)).toArray ?_ built25z ?_; (focus simp)) | ((with_reducible refine at_store 4 ?_); refine wpList_put_ls O 0 (sv (0) (noL 0)) rfl rfl rfl (s25 _ _) (sv_len _ _ _ _) (sv_one _ _) ?_; clear O; intro w4 O))
    refine bodyPost_ret (v := .tuple #[.agg (sv 0 (noL 0)).toArray, .int .i64 1]) (res_ls3 rfl O 0 rfl rfl Try.underlying25 rfl (s25 _ _) rfl) rfl ?_
    rw [HE.out]
    exact ⟨_, rfl, newS_none _ _, O.below⟩
  obtain ⟨i, hi, rfl⟩ := Stk.isMode_nat (Stk.isMode_iff.2 (Stk.right_iff.1 hr).1)
  have hlen := right_len hr
  have hli := hlen i hi
  have hne : (L i).l ≠ [] := len_ne hli.1
  have hmt : (stk i L).meant = (L i).l := by show (L (i : Int).toNat).l = _; rw [show (i : Int).toNat = i by omega]
  have HT : Hid (Stk.top (stk i L) i = (Stk.last (L i).l, 0)) := by show _ = _; simp only [Stk.top, hr, Stk.isMode_iff.2 (Stk.right_iff.1 hr).1, show Stk.isMode (i : Int) = true from Stk.isMode_iff.2 (Stk.right_iff.1 hr).1, Bool.and_true, if_true]; rw [show (i : Int).toNat = i by omega]; rfl
  obtain ⟨p, hp⟩ : ∃ p, M.mul (Stk.last (L i).l) x = p := ⟨_, rfl⟩
  have HE : Hid (Stk.mult (stk i L) x = if p.2 = 0 then ((stk i L).put ((L i).l.dropLast ++ [p.1]), 0) else (Stk.none_, p.2)) := by show _ = _; simp only [Stk.mult, hr, hmt, hp, if_true]
  have HP := Lib.hid hp
  have HX := Lib.hid hx
  have HO : Hid (p.2 = 0 → Stk.load (stk i L) p.1 = ((stk i L).put ((L i).l.dropLast ++ [p.1]), 0)) := by
    show _ → _
    intro h0
    have : M.right p.1 = true := by rw [← hp]; exact mul_ok (last_right ((Stk.right_iff.1 hr).2 i hi) hne) hx (by rw [hp]; exact h0)
    simp [Stk.load, hr, this, hmt]
  clear hx hp
  have HR := Lib.hid hr
  have HN := Lib.hid hlen
  have HI := Lib.hid hli
  have HNE := Lib.hid hne
  clear hr hlen hli hne hmt
  have TOPW : ∀ (w3 w4 : World) (bs : List (Nat × TypeId × List Value)), True := fun _ _ _ => trivial
  clear TOPW
  by_cases he : p.2 = 0
  · have HE2 : Hid (Stk.mult (stk i L) x = ((stk i L).put ((L i).l.dropLast ++ [p.1]), 0)) := by show _ = _; rw [HE.out, if_pos he]
    have HO2 := Lib.hid (HO.out he)
    clear HE HO
    have b8 : (p.2 != 0) = false := by simpa using he
    clear he
    go_enter Try.func17, Try.ntmps17
    go_wp2_with (first | ((with_reducible refine at_box 2 ?_); refine wpList_box_ls O (sv i L) rfl ?_; clear O; intro g2 w1 O) | ((with_reducible refine at_box 3 ?_); refine wpList_box_ls O (M.mat 16 x) rfl ?_; clear O; intro g3 w1 O) | ((with_reducible refine at_alloc 4 ?_); refine wpList_alloc_ls O (sv 0 (noL 0)) zero25 ?_; clear O; intro g4 w2 O) | ((with_reducible refine at_load 10 ?_); refine wpList_rowg_ls rfl O 2 rfl rfl Try.underlying25 rfl (s25 _ _) ?_) | (go_at_call 23; refine (rright6_any i L _ O.twoL).mono ?_; rw [HR.out]; rintro e w3 ⟨rfl, hb⟩; replace O := O.call hb; clear hb) | ((with_reducible refine at_load 14 ?_); refine wpList_rowg_ls rfl O 1 rfl rfl Try.underlying27 rfl (s23 _) ?_) | (go_at_call 28; refine (rright_any x _).mono ?_; rw [HX.out]; rintro e w4 ⟨rfl, hb⟩; replace O := O.call hb; clear hb) | ((with_reducible refine at_load 20 ?_); refine wpList_rowg_ls rfl O 2 rfl rfl Try.underlying25 rfl (s25 _ _) ?_) | ((with_reducible refine at_load 22 ?_); refine wpList_cell_ls rfl O 2 rfl (rfl) rfl agg3 rfl ?_) | (go_at_call 10; refine (rtop_any _ L _ _ O.twoL).mono ?_; rw [HT.out]; rintro e w5 ⟨rfl, hb⟩; replace O := O.call hb; clear hb) | ((with_reducible refine at_alloc 6 ?_); refine wpList_alloc_ls O (M.mat 16 M.zero) zero23 ?_; clear O; intro g6 w6 O) | ((with_reducible refine at_store 6 ?_); refine wpList_put_ls O 0 (M.mat 16 (Stk.last (L i).l)) rfl rfl rfl (s23 _) (M.mat_len2 _ _ _) (M.mat_one _ _) ?_; clear O; intro w7 O) | ((with_reducible refine at_load 27 ?_); refine wpList_rowg_ls rfl O 0 rfl rfl Try.underlying27 rfl (s23 _) ?_) | ((with_reducible refine at_load 28 ?_); refine wpList_rowg_ls rfl O 2 rfl rfl Try.underlying27 rfl (s23 _) ?_) | (go_at_call 29; refine (rmul_any (Stk.last (L i).l) x _).mono ?_; rw [HP.out]; rintro e w8 ⟨rfl, hb⟩; replace O := O.call hb; clear hb) | ((with_reducible refine at_alloc 8 ?_); refine wpList_alloc_ls O (M.mat 16 M.zero) zero23 ?_; clear O; intro g8 w9 O) | ((with_reducible refine at_store 8 ?_); refine wpList_put_ls O 0 (M.mat 16 (p.1)) rfl rfl rfl (s23 _) (M.mat_len2 _ _ _) (M.mat_one _ _) ?_; clear O; intro w10 O) | ((with_reducible refine at_load 36 ?_); refine wpList_rowg_ls rfl O 4 rfl rfl Try.underlying25 rfl (s25 _ _) ?_) | ((with_reducible refine at_load 37 ?_); refine wpList_rowg_ls rfl O 0 rfl rfl Try.underlying27 rfl (s23 _) ?_) | (go_at_call 15; refine (rload_any _ L p.1 _ O.twoL).mono ?_; rw [HO2.out]; rintro e w11 ⟨v, rfl, hv, hb⟩; obtain ⟨L', rfl, hL', O2⟩ := O.gainS hv hb; clear O hv hb; have O := O2; clear O2) | ((with_reducible refine at_store 4 ?_); refine wpList_put_ls O 2 (sv (i) (L')) rfl rfl rfl (s25 _ _) (sv_len _ _ _ _) (sv_one _ _) ?_; clear O; intro w12 O))
    refine bodyPost_ret (v := .tuple #[.agg (sv i L').toArray, .int .i64 0]) (res_ls3 rfl O 2 rfl rfl Try.underlying25 rfl (s25 _ _) rfl) rfl ?_
    rw [HE2.out]
    refine ⟨_, rfl, newS_of (s := (stk i L).put ((L i).l.dropLast ++ [p.1])) O L' (fun k hk => ?_) (fun k hk => ⟨(hL' k hk).1, (hL' k hk).2⟩), O.below⟩
    rcases k with _ | _ | k
    · simp
    · simp
    · omega
  · have HE2 : Hid (Stk.mult (stk i L) x = (Stk.none_, p.2)) := by show _ = _; rw [HE.out, if_neg he]
    clear HE HO
    have b8 : (p.2 != 0) = true := by simpa using he
    clear he
    go_enter Try.func17, Try.ntmps17
    go_wp2_with (first | ((with_reducible refine at_box 2 ?_); refine wpList_box_ls O (sv i L) rfl ?_; clear O; intro g2 w1 O) | ((with_reducible refine at_box 3 ?_); refine wpList_box_ls O (M.mat 16 x) rfl ?_; clear O; intro g3 w1 O) | ((with_reducible refine at_alloc 4 ?_); refine wpList_alloc_ls O (sv 0 (noL 0)) zero25 ?_; clear O; intro g4 w2 O) | ((with_reducible refine at_load 10 ?_); refine wpList_rowg_ls rfl O 2 rfl rfl Try.underlying25 rfl (s25 _ _) ?_) | (go_at_call 23; refine (rright6_any i L _ O.twoL).mono ?_; rw [HR.out]; rintro e w3 ⟨rfl, hb⟩; replace O := O.call hb; clear hb) | ((with_reducible refine at_load 14 ?_); refine wpList_rowg_ls rfl O 1 rfl rfl Try.underlying27 rfl (s23 _) ?_) | (go_at_call 28; refine (rright_any x _).mono ?_; rw [HX.out]; rintro e w4 ⟨rfl, hb⟩; replace O := O.call hb; clear hb) | ((with_reducible refine at_load 20 ?_); refine wpList_rowg_ls rfl O 2 rfl rfl Try.underlying25 rfl (s25 _ _) ?_) | ((with_reducible refine at_load 22 ?_); refine wpList_cell_ls rfl O 2 rfl (rfl) rfl agg3 rfl ?_) | (go_at_call 10; refine (rtop_any _ L _ _ O.twoL).mono ?_; rw [HT.out]; rintro e w5 ⟨rfl, hb⟩; replace O := O.call hb; clear hb) | ((with_reducible refine at_alloc 6 ?_); refine wpList_alloc_ls O (M.mat 16 M.zero) zero23 ?_; clear O; intro g6 w6 O) | ((with_reducible refine at_store 6 ?_); refine wpList_put_ls O 0 (M.mat 16 (Stk.last (L i).l)) rfl rfl rfl (s23 _) (M.mat_len2 _ _ _) (M.mat_one _ _) ?_; clear O; intro w7 O) | ((with_reducible refine at_load 27 ?_); refine wpList_rowg_ls rfl O 0 rfl rfl Try.underlying27 rfl (s23 _) ?_) | ((with_reducible refine at_load 28 ?_); refine wpList_rowg_ls rfl O 2 rfl rfl Try.underlying27 rfl (s23 _) ?_) | (go_at_call 29; refine (rmul_any (Stk.last (L i).l) x _).mono ?_; rw [HP.out]; rintro e w8 ⟨rfl, hb⟩; replace O := O.call hb; clear hb) | ((with_reducible refine at_alloc 8 ?_); refine wpList_alloc_ls O (M.mat 16 M.zero) zero23 ?_; clear O; intro g8 w9 O) | ((with_reducible refine at_store 8 ?_); refine wpList_put_ls O 0 (M.mat 16 (p.1)) rfl rfl rfl (s23 _) (M.mat_len2 _ _ _) (M.mat_one _ _) ?_; clear O; intro w10 O) | ((with_reducible refine at_build 34 ?_); refine wpList_build_own [] (sv 0 (noL 0)).toArray ?_ built25z ?_; (focus simp)) | ((with_reducible refine at_store 4 ?_); refine wpList_put_ls O 2 (sv (0) (noL 0)) rfl rfl rfl (s25 _ _) (sv_len _ _ _ _) (sv_one _ _) ?_; clear O; intro w12 O))
    refine bodyPost_ret (v := .tuple #[.agg (sv 0 (noL 0)).toArray, .int .i64 p.2]) (res_ls3 rfl O 2 rfl rfl Try.underlying25 rfl (s25 _ _) rfl) rfl ?_
    rw [HE2.out]
    exact ⟨_, rfl, newS_none _ _, O.below⟩
end Go.Proofs.Ythcieapfpgejdaa
