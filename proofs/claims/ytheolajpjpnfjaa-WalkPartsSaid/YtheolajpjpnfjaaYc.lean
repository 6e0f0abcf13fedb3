/- Contracts: where a line comes to a rectangle; its iterator. -/
import Derived.Test.YtheolajpjpnfjaaYb
namespace Go.Proofs.Ytheolajpjpnfjaa
open Go.ChangeShapes Go.WideShapes Go.ChangeAt Go.RowKit
set_option linter.unusedVariables false
set_option linter.unusedSimpArgs false

set_option maxRecDepth 100000 in
set_option maxHeartbeats 8000000 in
/-- The first pixel that is not ahead of a rectangle any more. -/
theorem reaching_any (a0 a1 b0 b1 : Int) (t : Bool) (f s n r0 r1 r2 r3 : Int) (ht : DM.tall (b0 - a0) (b1 - a1) = t) (hL : DM.Lin a0 a1 b0 b1 f s n) (ha : DM.Rg (DM.t2 a0 a1)) (hb : DM.Rg (DM.t2 b0 b1)) (w : World) :
    Calls Try.prog 23 #[.agg (wl a0 a1 b0 b1 (DM.wv t) f s n).toArray, arr 4 (RC.mk r0 r1 r2 r3)] w fun e w' => ∃ i : Int, e = .returned (.int .i64 i) ∧ (0 ≤ i ∧ i ≤ n) ∧
      (0 < i → ∀ z, (DM.pixs a0 a1 b0 b1)[(i - 1).toNat]? = some z → DM.prd a0 a1 b0 b1 r0 r1 r2 r3 z = false) ∧ (i < n → ∀ z, (DM.pixs a0 a1 b0 b1)[i.toNat]? = some z → DM.prd a0 a1 b0 b1 r0 r1 r2 r3 z = true) ∧ Below w.heap.size w w' := by
  have O := Own.start w
  obtain ⟨L1, L2, L3, L4, L5⟩ := hL
  have la := ha
  have lb := hb
  unfold DM.Rg at la lb
  have P0 : DM.t2 a0 a1 0 = a0 := rfl
  have P1 : DM.t2 a0 a1 1 = a1 := rfl
  have P2 : DM.t2 b0 b1 0 = b0 := rfl
  have P3 : DM.t2 b0 b1 1 = b1 := rfl
  rw [P0, P1] at la
  rw [P2, P3] at lb
  clear P0 P1 P2 P3
  obtain ⟨pr, hpr⟩ : ∃ q : Int → Bool, (fun k : Int => DM.prd a0 a1 b0 b1 r0 r1 r2 r3 (DM.pxl t (DM.mn t a0 a1) (DM.cr t a0 a1) (DM.mn t b0 b1) (DM.cr t b0 b1) (f + k * s))) = q := ⟨_, rfl⟩
  have CS : ∀ gl gr w, w.heap[gl]? = some (.cells (wl a0 a1 b0 b1 (DM.wv t) f s n).toArray 52 (0, 0)) → w.heap[gr]? = some (.cells (M.mat 4 (RC.mk r0 r1 r2 r3)).toArray 25 (0, 0)) → Calls Try.prog 37 #[.int .i64 n, .func (.func 38) #[] #[.pointer (some ⟨gl, 0, none⟩), .pointer (some ⟨gr, 0, none⟩)]] w fun e w' => ∃ i : Int, e = .returned (.int .i64 i) ∧ (0 ≤ i ∧ i ≤ n) ∧ (0 < i → pr (i - 1) = false) ∧ (i < n → pr i = true) ∧ Below w.heap.size w w' := by
    intro gl gr w hl hr
    refine search_any n L4.1 L4.2 gl gr pr (fun w => w.heap[gl]? = some (.cells (wl a0 a1 b0 b1 (DM.wv t) f s n).toArray 52 (0, 0)) ∧ w.heap[gr]? = some (.cells (M.mat 4 (RC.mk r0 r1 r2 r3)).toArray 25 (0, 0))) (fun k k0 k1 w hw => ?_) (fun w w' hw hb => ⟨(hb.block gl (Array.getElem?_eq_some_iff.1 hw.1).1).trans hw.1, (hb.block gr (Array.getElem?_eq_some_iff.1 hw.2).1).trans hw.2⟩) w ⟨hl, hr⟩
    obtain ⟨hn, hU, hP⟩ := L5 k k0 k1
    have hW := DM.way_of hn
    rw [ht] at hW hU
    have hks : -8388640 ≤ k * s ∧ k * s ≤ 8388640 := by rcases L2 with e | e <;> rw [e] <;> omega
    have CP := fun w => pixel_any a0 a1 b0 b1 t f s n k (f + k * s) hW ha hb hU rfl (by omega) w
    rw [← hpr]
    exact reach1_any a0 a1 b0 b1 (DM.wv t) f s n k _ _ r0 r1 r2 r3 gl gr w hw.1 hw.2 (by omega) (by omega) CP
  have HP : Hid (∀ k, 0 ≤ k → k < n → ∀ z, (DM.pixs a0 a1 b0 b1)[k.toNat]? = some z → DM.prd a0 a1 b0 b1 r0 r1 r2 r3 z = pr k) := Lib.hid (fun k k0 k1 z hz => by
    obtain ⟨hn, hU, hPx⟩ := L5 k k0 k1
    rw [hz, ht, Option.some.injEq] at hPx
    rw [hPx, ← hpr])
  generalize DM.wv t = tv at *
  clear L1 L2 L3 L4 L5 la lb ha hb hpr ht
  go_enter Try.func23, Try.ntmps23
  go_wp2_with (first | ((with_reducible refine at_box 2 ?_); refine wpList_box_own O (wl a0 a1 b0 b1 tv f s n) rfl ?_; clear O; intro g2 w1 O) | ((with_reducible refine at_box 3 ?_); refine wpList_box_own O (M.mat 4 (RC.mk r0 r1 r2 r3)) rfl ?_; clear O; intro g3 w2 O) | ((with_reducible refine at_load 6 ?_); refine wpList_cell_h (v := .int .i64 n) rfl O.held 1 rfl (i := 7) rfl rfl agg3 rfl ?_) | (go_at_call 37; refine (CS _ _ _ (O.2.2 _ (List.mem_cons_of_mem _ List.mem_cons_self)).2 (O.2.2 _ List.mem_cons_self).2).mono ?_; rintro e w3 ⟨i, rfl, hi, hi1, hi2, hb⟩; replace O := O.call hb; clear hb))
  go_ret
  exact ⟨i, rfl, hi, fun h z hz => by rw [HP.out (i - 1) (by omega) (by omega) z hz]; exact hi1 h, fun h z hz => by rw [HP.out i hi.1 h z hz]; exact hi2 h, O.below⟩
set_option maxHeartbeats 4000000 in
/-- The iterator: it has the line and a number in boxes of its own. -/
theorem from_any (a0 a1 b0 b1 tv f s n k : Int) (w : World) : Calls Try.prog 22 #[.agg (wl a0 a1 b0 b1 tv f s n).toArray, .int .i64 k] w fun e w' => ∃ gl gk, e = .returned (.func (.func 36) #[] #[.pointer (some ⟨gk, 0, none⟩), .pointer (some ⟨gl, 0, none⟩)]) ∧
    w'.heap[gl]? = some (.cells (wl a0 a1 b0 b1 tv f s n).toArray 52 (0, 0)) ∧ w'.heap[gk]? = some (.cells #[.int .i64 k] 3 (0, 0)) ∧ w.heap.size ≤ gl ∧ w.heap.size ≤ gk ∧ Below w.heap.size w w' := by
  have O1 := (Own.start w).alloc 52 (wl a0 a1 b0 b1 tv f s n)
  have O2 := O1.alloc 3 [.int .i64 k]
  have HO := Lib.hid O2
  clear O1 O2
  go_enter Try.func22, Try.ntmps22
  go_wp2_with fail
  go_ret
  have O2 := HO.out
  have h2 := (O2.2.2 _ List.mem_cons_self).2
  dsimp only at h2
  rw [World.size_alloc] at h2
  exact ⟨w.heap.size, w.heap.size + 1, rfl, (O2.2.2 _ (List.mem_cons_of_mem _ List.mem_cons_self)).2, h2, Nat.le_refl _, Nat.le_succ _, O2.below⟩
end Go.Proofs.Ytheolajpjpnfjaa
