/- Contract of slices.Repeat over pairs, of one pair; of same. -/
import Derived.Test.YtaegekmfndcflaaCopy
import Derived.Deep.DeepCutAuto
namespace Go.Proofs.Ytaegekmfndcflaa
open Go.ChangeShapes Go.WideShapes Go.ChangeAt Go.RowKit
set_option linter.unusedVariables false

theorem vint {a b : Int} (h : a = b) : Value.int .i64 a = .int .i64 b := by rw [h]
theorem span_info : (Try.prog.info? 51).map (·.size) = some 2 := by kernel_rfl
/-- How a list of pairs is handed back. -/
def RetPairs (w : World) (b : List (Int × Int)) (e : Ending) (w' : World) : Prop :=
  ∃ A c, e = .returned (.slice A b.length c) ∧ Reads w' w'.heap.size 2 A b.length (pairs b) ∧ Below w.heap.size w w'
theorem reads_block {w : World} {g : Nat} {t : TypeId} {b : List (Int × Int)} (hg : w.heap[g]? = some (.cells (pairs b).toArray t (0, 0))) : Reads w w.heap.size 2 (some ⟨g, 0, none⟩) b.length (pairs b) where
  len := pairs_len b
  lies := fun _ => ⟨_, rfl, (Array.getElem?_eq_some_iff.1 hg).1, fun j u hu => by
    have : (⟨g, 0, none⟩ : Addr).add j = ⟨g, j, none⟩ := by unfold Addr.add; split <;> simp_all
    rw [this]
    simp [World.cell?, hg, hu]⟩
theorem span_zero : (Try.prog.info? 51).map (fun i => (i.zero, i.size, i.bytes)) = some (some (.agg #[.int .i64 0, .int .i64 0]), 2, 16) := by kernel_rfl
/-- make([]span, n). -/
theorem make_run (x : Int × Int) (N : Nat) (hN : N = 1 ∨ N = 2 ∨ N = 4 ∨ N = 16) (w : World) : (Instr.makeSlice 44 (.int .i64 (N : Int)) (.int .i64 (N : Int))).run Try.prog w = .ok (.slice (some ⟨w.heap.size, 0, none⟩) N N) (w.alloc (.cells (fill x N 0).toArray 51)) := by
  obtain ⟨i0, hi0, hz0, hz1, hz2⟩ := info_parts span_zero
  have h := run_make (P := Try.prog) w 44 51 i0 _ Try.underlying44 hi0 hz0 .i64 .i64 (N : Int) (N : Int) (by omega) (by omega) (by rw [hz2]; omega) (by omega)
  rw [Int.toNat_natCast, hz1] at h
  have e : madeCells (Value.agg #[.int .i64 0, .int .i64 0]).cells (N * 2) = (fill x N 0).toArray := by
    rcases hN with rfl | rfl | rfl | rfl <;> (apply Array.ext'; simp [madeCells, Value.cells, fill, pairs, List.range_succ_eq_map])
  rw [e] at h
  exact h
theorem cut_lo (g N k : Nat) (h0 : 1 ≤ k) (h : k < N) (w : World) : (Instr.slice 44 (.slice (some ⟨g, 0, none⟩) N N) (some (.int .i64 (k : Int))) none none).run Try.prog w = .ok (.slice (some ⟨g, k * 2, none⟩) (N - k) (N - k)) w := by
  obtain ⟨i0, hi0, hz0, hz1, hz2⟩ := info_parts span_zero
  have h1 : (0 : Int) ≤ (k : Int) := by omega
  have h3 : k ≤ N := by omega
  have h4 : ¬ N = k := by omega
  have h5 : ¬ k * 2 = 0 := by omega
  simp only [Instr.slice, go_sem, Instr.sliceBounds, Instr.sliceBound, asIntOf, sizeOf, typeInfo]
  simp [h1, h3, h4, Addr.add, hi0, hz1]
  omega
theorem cut_hi (g N k : Nat) (h : k < N) (w : World) : (Instr.slice 44 (.slice (some ⟨g, 0, none⟩) N N) none (some (.int .i64 (k : Int))) none).run Try.prog w = .ok (.slice (some ⟨g, 0, none⟩) k N) w := by
  have h1 : (0 : Int) ≤ (k : Int) := by omega
  have h3 : k ≤ N := by omega
  simp only [Instr.slice, go_sem, Instr.sliceBounds, Instr.sliceBound, asIntOf, sizeOf, typeInfo]
  obtain ⟨i0, hi0, hz0, hz1, hz2⟩ := info_parts span_zero
  simp [h1, h3, Addr.add, hi0]
set_option maxHeartbeats 1000000 in
theorem repeat_any (x y : Int) (N : Nat) (hN : N = 1 ∨ N = 2 ∨ N = 4 ∨ N = 16) (ad : Addr) (w : World) (hlt : ad.block < w.heap.size) (h0 : w.cell? (ad.add 0) = some (.int .i64 x)) (h1 : w.cell? (ad.add 1) = some (.int .i64 y)) :
    Calls Try.prog 27 #[.slice (some ad) 1 1, .int .i64 N] w (RetPairs w (List.replicate N (x, y))) := by
  have M := mul_c N (by omega) w
  have n0 : (0 : Int) ≤ (N : Int) := by omega
  have n1 : (1 : Int) ≤ (N : Int) := by omega
  have n2 : (N : Int) ≤ 16 := by omega
  have mk := make_run (x, y) N hN
  have G0 : (w.alloc (.cells (fill (x, y) N 0).toArray 51)).heap[w.heap.size]? = some (.cells (fill (x, y) N 0).toArray 51 (0, 0)) := heap_alloc_new w _
  have K0 : Below w.heap.size w (w.alloc (.cells (fill (x, y) N 0).toArray 51)) := (Below.refl _ w).alloc (Nat.le_refl _) _
  have src : ∀ j v, (pairs [(x, y)])[j]? = some v → (w.alloc (.cells (fill (x, y) N 0).toArray 51)).cell? (ad.add j) = some v := by
    intro j v hv
    rw [World.cell?_alloc_lt w _ (ad.add j) (by rw [block_of_add]; exact hlt)]
    match j, hv with
    | 0, hv => simp [pairs] at hv; subst hv; exact h0
    | 1, hv => simp [pairs] at hv; subst hv; exact h1
    | j + 2, hv => simp [pairs] at hv
  have fl := fill_len (x, y) (n := N) (k := 0) (by omega)
  have HG := Lib.hid G0
  have HS := Lib.hid src
  have HF := Lib.hid fl
  have hN1 : 1 ≤ N := by omega
  have HN := Lib.hid hN
  clear G0 src h0 h1 fl hN
  have n3 : decide ((N : Int) < 0) = false := decide_eq_false (by omega)
  have n4 : decide ((9223372036854775807 : Int) < (N : Int)) = false := decide_eq_false (by omega)
  go_enter Try.func27, Try.ntmps27
  go_wp2_with (first
    | (refine M.mono ?_; rintro e w1 ⟨rfl, rfl⟩)
    | (refine wpList_copy_k rfl (.tmp 31) (.tmp 32) 44 44 (by rfl) 51 2 Try.underlying44 span_info w.heap.size 0 N N ad 1 1 (by rfl) (by rfl) (fill (x, y) N 0) 51 HG.out (pairs [(x, y)]) 1 (by simp [Nat.min_def]; omega) (by rfl) HS.out (by rw [HF.out, pairs_len]; simp; omega) (pairs_one _) w.heap.size w K0 (Nat.le_refl _) ?_; intro w2 HG2 hB2))
  have HG3 : Hid (w2.heap[w.heap.size]? = some (.cells (fill (x, y) N 1).toArray 51 (0, 0))) := by
    have e := fill_splice (x, y) (n := N) (k := 0) (m := 1) (by omega)
    rw [Nat.zero_mul] at e
    have h := HG2.out
    rw [show [(x, y)] = List.replicate 1 (x, y) from rfl, e] at h
    exact Lib.hid h
  clear HG2 HG HS HF K0 mk M
  go_loopw [8] (fun v wr => ∃ k : Nat, v = .int .i64 k ∧ 1 ≤ k ∧ k ≤ N ∧ Hid (wr.heap[w.heap.size]? = some (.cells (fill (x, y) N k).toArray 51 (0, 0))) ∧ Below w.heap.size w wr) (fun v _ => N - (intOf v).toNat)
  case atStart => exact ⟨1, rfl, by omega, by omega, HG3, hB2⟩
  case round =>
    obtain ⟨k, rfl, hk1, hk, hG, hB⟩ := hrel
    have q0 : (1 : Int) ≤ (k : Int) := by omega
    by_cases hlt : k < N
    · have q : (k : Int) < (N : Int) := by omega
      have s1 := cut_lo w.heap.size N k hk1 hlt
      have s2 := cut_hi w.heap.size N k hlt
      obtain ⟨m, hm⟩ : ∃ m, Nat.min k (N - k) = m := ⟨_, rfl⟩
      have hm1 : m = min k (N - k) := hm.symm
      have mk : m ≤ k := by omega
      have mN : k + m ≤ N := by omega
      have m0 : 0 < m := by omega
      have src : ∀ j v, (pairs (List.replicate m (x, y)))[j]? = some v → wr.cell? ((⟨w.heap.size, 0, none⟩ : Addr).add j) = some v := by
        intro j v hv
        have e : (⟨w.heap.size, 0, none⟩ : Addr).add j = ⟨w.heap.size, j, none⟩ := by unfold Addr.add; split <;> simp_all
        have hj : j < m * 2 := by
          have := (List.getElem?_eq_some_iff.1 hv).1
          rw [pairs_len, List.length_replicate] at this
          exact this
        have e2 : (fill (x, y) N k)[j]? = some v := by
          rw [fill, show k = m + (k - m) by omega, rep_add, List.append_assoc, pairs_app, List.getElem?_append_left (by rw [pairs_len, List.length_replicate]; omega)]
          exact hv
        rw [e]
        simp [World.cell?, hG.out, e2]
      have hx1 : (pairs (List.replicate m (x, y))).length = m * 2 := by rw [pairs_len, List.length_replicate]
      have hx2 : k * 2 + (pairs (List.replicate m (x, y))).length ≤ (fill (x, y) N k).length := by rw [hx1, fill_len _ hk]; omega
      have hx3 := pairs_one (List.replicate m (x, y))
      have hx4 := fill_splice (x, y) mN
      have S := Lib.hid src
      have X1 := Lib.hid hx1
      have X2 := Lib.hid hx2
      have X3 := Lib.hid hx3
      have X4 := Lib.hid hx4
      have HM := Lib.hid hm
      have q3 : (m : Int) ≤ 16 := by omega
      have q4 : (0 : Int) < (m : Int) := by omega
      clear hm hm1 src hx1 hx2 hx3 hx4 HG3
      have w1e : IntKind.i64.wrap ((k : Int) + (m : Int)) = (k : Int) + (m : Int) := IntWalk.i64_in _ (by omega)
      have hBd : Below w.heap.size w wr.drew := hB.drew
      have hGd : Hid (wr.drew.heap[w.heap.size]? = some (.cells (fill (x, y) N k).toArray 51 (0, 0))) := hG
      go_wp2_with fail
      go_region_law (refine step_copy_k rfl (.tmp 41) (.tmp 44) 44 44 rfl 51 2 Try.underlying44 span_info w.heap.size (k * 2) (N - k) (N - k) ⟨w.heap.size, 0, none⟩ k N (by simp [Act.eval, Act.put]) (by simp [Act.eval, Act.put]) (fill (x, y) N k) 51 hG.out (pairs (List.replicate m (x, y))) m HM.out.symm X1.out S.out X2.out X3.out w.heap.size w hBd (Nat.le_refl _) ?_; intro w4 hg4 hb4)
      have hg5 : Hid (w4.heap[w.heap.size]? = some (.cells (fill (x, y) N (k + m)).toArray 51 (0, 0))) := Lib.hid (by rw [← X4.out]; exact hg4.out)
      clear hg4
      clear w1e
      simp only [Act.put, List.getElem_toArray, List.getElem_cons_zero, List.getElem_cons_succ, List.setIfInBounds_toArray, List.set_cons_zero, List.set_cons_succ]
      go_roundw
      case rel =>
        (repeat apply Exists.intro)
        exact ⟨⟨k + m, rfl, by omega, mN, hg5, hb4⟩, rfl⟩
      case measure => simp [intOf]; omega
    · have hkN : k = N := by omega
      subst hkN
      have q : ¬ (k : Int) < (k : Int) := by omega
      have R : Reads wr wr.heap.size 2 (some ⟨w.heap.size, 0, none⟩) (List.replicate k (x, y)).length (pairs (List.replicate k (x, y))) := reads_block (by rw [← fill_all]; exact hG.out)
      have E : Hid (RetPairs w (List.replicate k (x, y)) (.returned (.slice (some ⟨w.heap.size, 0, none⟩) k k)) wr) := Lib.hid ⟨some ⟨w.heap.size, 0, none⟩, k, by rw [List.length_replicate], R, hB⟩
      clear R HG3
      go_wp2_with fail
      go_ret
      exact E.out
/-- same. -/
theorem same_any (x y : Int) (N : Nat) (hN : N = 1 ∨ N = 2 ∨ N = 4 ∨ N = 16) (w : World) :
    Calls Try.prog 26 #[.int .i64 N, .int .i64 x, .int .i64 y] w (RetPairs w (List.replicate N (x, y))) := by
  have T := repeat_any x y N hN ⟨w.heap.size, 0, none⟩ (w.alloc (.cells #[.int .i64 x, .int .i64 y] 51)) (by simp) (by simp [Addr.add]) (by simp [Addr.add])
  have K0 : Below w.heap.size w (w.alloc (.cells #[.int .i64 x, .int .i64 y] 51)) := (Below.refl _ w).alloc (Nat.le_refl _) _
  go_enter Try.func26, Try.ntmps26
  go_wp2_with fail
  refine T.mono ?_
  rintro e w1 ⟨A, c, rfl, hr, hb⟩
  have K1 := K0.trans (hb.mono K0.size)
  clear T hb
  go_wp2_with fail
  go_ret
  exact ⟨A, c, by rw [List.length_replicate]; rfl, hr, K1⟩
end Go.Proofs.Ytaegekmfndcflaa
