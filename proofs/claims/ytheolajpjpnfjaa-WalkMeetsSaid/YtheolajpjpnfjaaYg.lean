/- Contracts: where a line comes to a rectangle, by its number; the iterator. -/
import Derived.Test.YtheolajpjpnfjaaYf
namespace Go.Proofs.Ytheolajpjpnfjaa
open Go.ChangeShapes Go.WideShapes Go.ChangeAt Go.RowKit
set_option linter.unusedVariables false
set_option linter.unusedSimpArgs false

set_option maxRecDepth 100000 in
set_option maxHeartbeats 16000000 in
/-- The first pixel that is not ahead of a rectangle, by its number. -/
theorem reach_any (a0 a1 b0 b1 : Int) (t : Bool) (f s n : Int) (r : Nat → Int) (ht : DM.tall (b0 - a0) (b1 - a1) = t) (hL : DM.Lin a0 a1 b0 b1 f s n) (ha : DM.Rg (DM.t2 a0 a1)) (hb : DM.Rg (DM.t2 b0 b1)) (w : World) :
    Calls Try.prog 23 #[.agg (wl a0 a1 b0 b1 (DM.wv t) f s n).toArray, arr 4 r] w fun e w' => e = .returned (.int .i64 (DM.fstR a0 a1 b0 b1 r : Int)) ∧ Below w.heap.size w w' := by
  have er : arr 4 r = arr 4 (RC.mk (r 0) (r 1) (r 2) (r 3)) := rfl
  rw [er]
  refine (reaching_any a0 a1 b0 b1 t f s n (r 0) (r 1) (r 2) (r 3) ht hL ha hb w).mono ?_
  rintro e w' ⟨i, rfl, hi, h0, h1, hb⟩
  rw [DM.fstR_is (r := r) hL hi h0 h1]
  exact ⟨rfl, hb⟩
/-- The iterator's contract. -/
theorem from_stops (m : Nat) (a0 a1 b0 b1 : Int) (t : Bool) (f s n : Int) (r : Nat → Int) (gl gk : Nat) (ht : DM.tall (b0 - a0) (b1 - a1) = t) (hL : DM.Lin a0 a1 b0 b1 f s n) (ha : DM.Rg (DM.t2 a0 a1)) (hb : DM.Rg (DM.t2 b0 b1)) (w : World)
    (hl : w.heap[gl]? = some (.cells (wl a0 a1 b0 b1 (DM.wv t) f s n).toArray 52 (0, 0))) (hk : w.heap[gk]? = some (.cells #[.int .i64 (DM.fstR a0 a1 b0 b1 r : Int)] 3 (0, 0))) :
    SeqStopsK Fence.wide m Try.prog 36 #[.pointer (some ⟨gk, 0, none⟩), .pointer (some ⟨gl, 0, none⟩)] (fun x => #[arr 3 (sF x)]) (fun W W' => W'.heap[gl]? = W.heap[gl]?) (fun ys => ys = DM.tailR a0 a1 b0 b1 r) (fun pre => pre <+: DM.tailR a0 a1 b0 b1 r) (DM.tailR a0 a1 b0 b1 r).length w := by
  intro l J Jx W hW hJ hJx hY h0
  have hn := hL.1
  unfold DM.cnt14 at hn
  have hF := DM.fstR_le a0 a1 b0 b1 r
  have hlen : (DM.tailR a0 a1 b0 b1 r).length = (DM.pixs a0 a1 b0 b1).length - DM.fstR a0 a1 b0 b1 r := by
    unfold DM.tailR
    rw [List.length_drop, DM.steps_len]
  refine from1_any m a0 a1 b0 b1 (DM.wv t) f s n (DM.fstR a0 a1 b0 b1 r) gl gk (DM.tailR a0 a1 b0 b1 r) (by omega) hL.2.2.2.1.2 (by omega) ?_ l J Jx (fun pre w w' h hb => hJ pre w w' none h (below_grown hb) (fun q e => by cases e)) hY W ((hW.block gl (lt_of hl)).trans hl) ((hW.block gk (lt_of hk)).trans hk) h0
  intro j x hx w
  have hx2 : (DM.steps a0 a1 b0 b1)[DM.fstR a0 a1 b0 b1 r + j]? = some x := by rw [← List.getElem?_drop]; exact hx
  obtain ⟨hp, hq⟩ := DM.steps_at hx2
  have hlt := (DM.nth hp).1
  obtain ⟨h1, h2, h3⟩ := hL.2.2.2.2 ((DM.fstR a0 a1 b0 b1 r : Int) + j) (by omega) (by omega)
  rw [show (((DM.fstR a0 a1 b0 b1 r : Int) + j).toNat) = DM.fstR a0 a1 b0 b1 r + j by omega, hp, ht, Option.some.injEq] at h3
  have hW := DM.way_of h1
  rw [ht] at h2 hW
  have hs := hL.2.1
  have hf := hL.2.2.1
  have CP := pixel_any a0 a1 b0 b1 t f s n ((DM.fstR a0 a1 b0 b1 r : Int) + j) _ hW ha hb h2 rfl (by omega) w
  rw [← h3] at CP
  unfold sF
  rw [hq, show (((DM.fstR a0 a1 b0 b1 r + j : Nat) : Int)) = (DM.fstR a0 a1 b0 b1 r : Int) + j by omega]
  exact CP
end Go.Proofs.Ytheolajpjpnfjaa
