/- Arguments that came in: two small numbers; a line that is moved, in a rectangle. -/
import Derived.Test.YtheolajpjpnfjaaXo
namespace Go.Proofs.Ytheolajpjpnfjaa
open Go.ChangeShapes Go.WideShapes Go.ChangeAt Go.RowKit
set_option linter.unusedVariables false
set_option linter.unusedSimpArgs false

theorem o5 : Try.prog.cellsOf 5 = 1 := by kernel_rfl
theorem o42 : Try.prog.cellsOf 42 = 1 := by kernel_rfl
theorem o46 : Try.prog.cellsOf 46 = 1 := by kernel_rfl
theorem o43 : Try.prog.cellsOf 43 = 2 := by kernel_rfl
theorem o44 : Try.prog.cellsOf 44 = 2 := by kernel_rfl
theorem o47 : Try.prog.cellsOf 47 = 2 := by kernel_rfl
theorem agg42 (w : World) : (isAgg 42).run Try.prog w = .ok false w := by kernel_rfl
theorem agg46 (w : World) : (isAgg 46).run Try.prog w = .ok false w := by kernel_rfl
theorem agg5 (w : World) : (isAgg 5).run Try.prog w = .ok false w := by kernel_rfl
theorem sizeOf42 (w : World) : (sizeOf 42).run Try.prog w = .ok 1 w := by kernel_rfl
theorem sizeOf46 (w : World) : (sizeOf 46).run Try.prog w = .ok 1 w := by kernel_rfl
theorem sizeOf5 (w : World) : (sizeOf 5).run Try.prog w = .ok 1 w := by kernel_rfl
/-- Two numbers of a kind. -/
def two (k : IntKind) (x y : Int) : List Value := [.int k x, .int k y]
theorem two_one (k : IntKind) (x y : Int) : ∀ v ∈ two k x y, v.oneCell' = true := by
  intro v hv
  simp only [two, List.mem_cons, List.not_mem_nil, or_false] at hv
  rcases hv with rfl | rfl <;> rfl
section
variable {H : Type} {enc : TypeId × Value → H} {w : World}
theorem two_of {t e fuel : Nat} {q : IntKind} {cs : List Value} {x : DataW H × List MemPlace} (ht : Try.prog.underlying t = some (.array 2 e)) (he : Try.prog.underlying e = some (.int q)) (ho : Try.prog.cellsOf t = 2) (hoe : Try.prog.cellsOf e = 1) (hf : DataW.trod enc Try.prog w 0 (fun _ => true) true fuel t cs = some x) :
    ∃ a b : Int, cs = two q a b ∧ (Lit.int q a).wf = true ∧ (Lit.int q b).wf = true := by
  obtain ⟨xs, m, _, _, hlen, hxs, hg⟩ := DataW.trod_array ht hf
  rw [ho] at hlen
  match cs, hlen with
  | [v0, v1], _ =>
    have g0 := hg 0 (by omega)
    have g1 := hg 1 (by omega)
    simp [hoe] at g0 g1
    match xs, hxs with
    | [y0, y1], _ =>
      obtain ⟨m0, e0, _, r0⟩ := DataW.trod_int he g0
      obtain ⟨m1, e1, _, r1⟩ := DataW.trod_int he g1
      simp at e0 e1
      subst e0 e1
      exact ⟨m0, m1, rfl, r0, r1⟩
variable {r : Reach} {b0 : Nat} {v : Value} {d : DataW H} {p : List MemPlace}
theorem openI8 (hv : Value.okWide Try.prog w r b0 47 v) (h : DataW.Trod enc Try.prog w 0 (fun _ => true) true 47 v d p) : ∃ x y : Int, v = .agg (two .i8 x y).toArray ∧ (-128 ≤ x ∧ x ≤ 127) ∧ (-128 ≤ y ∧ y ≤ 127) := by
  simp only [Value.okWide, Try.underlying47] at hv
  obtain ⟨cs, rfl, hsz, _⟩ := hv
  obtain ⟨fuel, hf⟩ := h
  obtain ⟨x, y, ha, r1, r2⟩ := two_of Try.underlying47 Try.underlying46 o47 o46 hf
  refine ⟨x, y, ?_, bounds_i8 r1, bounds_i8 r2⟩
  obtain ⟨l⟩ := cs
  have : l = two .i8 x y := ha
  rw [this]
theorem openI16 (hv : Value.okWide Try.prog w r b0 43 v) (h : DataW.Trod enc Try.prog w 0 (fun _ => true) true 43 v d p) : ∃ x y : Int, v = .agg (two .i16 x y).toArray ∧ (-32768 ≤ x ∧ x ≤ 32767) ∧ (-32768 ≤ y ∧ y ≤ 32767) := by
  simp only [Value.okWide, Try.underlying43] at hv
  obtain ⟨cs, rfl, hsz, _⟩ := hv
  obtain ⟨fuel, hf⟩ := h
  obtain ⟨x, y, ha, r1, r2⟩ := two_of Try.underlying43 Try.underlying42 o43 o42 hf
  refine ⟨x, y, ?_, bounds_i16 r1, bounds_i16 r2⟩
  obtain ⟨l⟩ := cs
  have : l = two .i16 x y := ha
  rw [this]
theorem openU8 (hv : Value.okWide Try.prog w r b0 44 v) (h : DataW.Trod enc Try.prog w 0 (fun _ => true) true 44 v d p) : ∃ x y : Int, v = .agg (two .u8 x y).toArray ∧ (0 ≤ x ∧ x ≤ 255) ∧ (0 ≤ y ∧ y ≤ 255) := by
  simp only [Value.okWide, Try.underlying44] at hv
  obtain ⟨cs, rfl, hsz, _⟩ := hv
  obtain ⟨fuel, hf⟩ := h
  obtain ⟨x, y, ha, r1, r2⟩ := two_of Try.underlying44 Try.underlying5 o44 o5 hf
  refine ⟨x, y, ?_, bounds_u8 r1, bounds_u8 r2⟩
  obtain ⟨l⟩ := cs
  have : l = two .u8 x y := ha
  rw [this]
end
theorem add_fld (P : Addr) (k j : Nat) (hj : 0 < j) : (⟨(P.add k).block, (P.add k).off + j, none⟩ : Addr) = P.add (k + j) := by
  unfold Addr.add
  by_cases h : k = 0
  · subst h
    rw [if_pos rfl, if_neg (by omega), Nat.zero_add]
  · rw [if_neg h, if_neg (by omega)]
    simp only [Nat.add_assoc]
namespace DM
theorem steps_moved (ax ay bx by_ p q : Int) : steps (ax + 256 * p) (ay + 256 * q) (bx + 256 * p) (by_ + 256 * q) = (steps ax ay bx by_).map fun s => (s.1, s.2.1 + p, s.2.2 + q) := by
  unfold steps
  rw [pixs_moved, List.map_map, List.zipIdx_map, List.map_map]
  rfl
theorem wth_moved {ax ay bx by_ p q : Int} {r o : Nat → Int} (h0 : o 0 = r 0 + p) (h1 : o 1 = r 1 + q) (h2 : o 2 = r 2 + p) (h3 : o 3 = r 3 + q) : wth (ax + 256 * p) (ay + 256 * q) (bx + 256 * p) (by_ + 256 * q) o = (wth ax ay bx by_ r).map fun s => (s.1, s.2.1 + p, s.2.2 + q) := by
  unfold wth
  rw [steps_moved, List.filter_map]
  congr 1
  apply List.filter_congr
  intro s _
  show inR4 o (s.1, s.2.1 + p, s.2.2 + q) = inR4 r s
  unfold inR4
  rw [Bool.eq_iff_iff]
  simp only [Bool.and_eq_true, decide_eq_true_eq]
  omega
/-- In a rectangle there are no more than it is wide, or high. -/
theorem wth_most {ax ay bx by_ : Int} {r : Nat → Int} {N : Nat} (hs : r 2 - r 0 ≤ N ∧ r 3 - r 1 ≤ N) : (wth ax ay bx by_ r).length ≤ N := by
  by_cases hn : ax = bx ∧ ay = by_
  · have : wth ax ay bx by_ r = [] := by
      unfold wth steps
      rw [← hn.1, ← hn.2, pixs_same]
      rfl
    rw [this]
    exact Nat.zero_le _
  · let f : Int × Int × Int → Int := fun s => pl (mn (tall (bx - ax) (by_ - ay)) ax ay) (mn (tall (bx - ax) (by_ - ay)) bx by_) (mn (tall (bx - ax) (by_ - ay)) s.2.1 s.2.2)
    have hmem : ∀ s ∈ wth ax ay bx by_ r, (exits (rel ax s.2.1) (rel ay s.2.2) (rel bx s.2.1) (rel by_ s.2.2) = true ∧ s.1 = num ax ay bx by_ s.2.1 s.2.2) ∧ ((r 0 ≤ s.2.1 ∧ s.2.1 < r 2) ∧ (r 1 ≤ s.2.2 ∧ s.2.2 < r 3)) := by
      intro s hm
      unfold wth at hm
      rw [List.mem_filter, mem_steps] at hm
      refine ⟨hm.1, ?_⟩
      have := hm.2
      unfold inR4 at this
      simpa only [Bool.and_eq_true, decide_eq_true_eq] using this
    have hr : (wth ax ay bx by_ r).Pairwise (fun p q => f p < f q) := by
      have h0 : (wth ax ay bx by_ r).Pairwise (fun p q => p.1 < q.1) := (steps_rising ax ay bx by_).filter _
      refine h0.imp_of_mem fun {p q} hp hq hlt => ?_
      have a := (hmem p hp).1.2
      have b := (hmem q hq).1.2
      unfold num at a b
      show pl _ _ _ < pl _ _ _
      omega
    have hb : ∃ lo hi, hi - lo ≤ (N : Int) ∧ ∀ s ∈ wth ax ay bx by_ r, lo ≤ f s ∧ f s < hi := by
      by_cases c : mn (tall (bx - ax) (by_ - ay)) ax ay < mn (tall (bx - ax) (by_ - ay)) bx by_
      · refine ⟨mn (tall (bx - ax) (by_ - ay)) (r 0) (r 1) - ahd (mn (tall (bx - ax) (by_ - ay)) ax ay), mn (tall (bx - ax) (by_ - ay)) (r 2) (r 3) - ahd (mn (tall (bx - ax) (by_ - ay)) ax ay), ?_, fun s hm => ?_⟩
        · cases tall (bx - ax) (by_ - ay) <;> simp only [mn, Bool.false_eq_true, if_false, if_true] <;> omega
        · have := (hmem s hm).2
          show _ ≤ pl _ _ _ ∧ pl _ _ _ < _
          unfold pl
          rw [if_pos c]
          revert this
          cases tall (bx - ax) (by_ - ay) <;> simp only [mn, Bool.false_eq_true, if_false, if_true] <;> omega
      · refine ⟨ahd (mn (tall (bx - ax) (by_ - ay)) ax ay) - mn (tall (bx - ax) (by_ - ay)) (r 2) (r 3), ahd (mn (tall (bx - ax) (by_ - ay)) ax ay) - mn (tall (bx - ax) (by_ - ay)) (r 0) (r 1), ?_, fun s hm => ?_⟩
        · cases tall (bx - ax) (by_ - ay) <;> simp only [mn, Bool.false_eq_true, if_false, if_true] <;> omega
        · have := (hmem s hm).2
          show _ ≤ pl _ _ _ ∧ pl _ _ _ < _
          unfold pl
          rw [if_neg c]
          revert this
          cases tall (bx - ax) (by_ - ay) <;> simp only [mn, Bool.false_eq_true, if_false, if_true] <;> omega
    obtain ⟨lo, hi, e, hb⟩ := hb
    rcases rising_len f hr hb with e2 | e2
    · rw [e2]
      exact Nat.zero_le _
    · omega
end DM
end Go.Proofs.Ytheolajpjpnfjaa
