/- Arrays of numbers that came in. -/
import Derived.Test.YtidaffgfhmbomaaM
import Derived.OpenShut
namespace Go.Proofs.Ytidaffgfhmbomaa
open Go.ChangeShapes Go.WideShapes Go.ChangeAt Go.RowKit
set_option linter.unusedVariables false
set_option linter.unusedSimpArgs false

/-- The first n numbers of a as cells of kind k. -/
def M.matK (k : IntKind) (n : Nat) (a : Nat → Int) : List Value := (List.range n).map fun i => .int k (a i)
theorem M.matK_len (k : IntKind) (n : Nat) (a : Nat → Int) : (M.matK k n a).length = n := by simp [M.matK]
theorem M.matK_get {k : IntKind} {n : Nat} {a : Nat → Int} {i : Nat} (h : i < n) : (M.matK k n a)[i]? = some (.int k (a i)) := by simp [M.matK, h]
section
variable {H : Type} {enc : TypeId × Value → H} {P : Program} {w : World} {r : Reach} {b0 base : Nat} {spare : Nat → Bool} {held : Bool}
theorem open_arr {k : IntKind} {n : Nat} {t e : TypeId} {v : Value} {d : DataW H} {p : List MemPlace} (ht : P.underlying t = some (.array n e)) (he : P.underlying e = some (.int k)) (hce : P.cellsOf e = 1) (hct : P.cellsOf t = n)
    (hv : Value.okWide P w r b0 t v) (h : DataW.Trod enc P w base spare held t v d p) :
    ∃ a : Nat → Int, v = .agg (M.matK k n a).toArray ∧ ∀ i, i < n → (Lit.int k (a i)).wf = true := by
  simp only [Value.okWide, ht] at hv
  obtain ⟨cs, rfl, hsz, _⟩ := hv
  obtain ⟨l⟩ := cs
  obtain ⟨fuel, hf⟩ := h
  obtain ⟨xs, m, _, _, hlen, hxs, hg⟩ := DataW.trod_array ht hf
  have hl : l.length = n := by simpa [hct] using hsz
  have each : ∀ i, i < n → ∃ z : Int, l[i]? = some (.int k z) ∧ (Lit.int k z).wf = true := by
    intro i hi
    have g := hg i hi
    have hx : ∃ x, xs[i]? = some x := ⟨_, List.getElem?_eq_getElem (by omega)⟩
    obtain ⟨x, hx⟩ := hx
    rw [hx, hce, Nat.mul_one] at g
    have hil : i < l.length := by omega
    have e1 : (Value.cells (.agg l.toArray)).toList.drop i = l[i] :: l.drop (i + 1) := by
      show l.drop i = _
      exact List.drop_eq_getElem_cons hil
    rw [e1, List.take_succ_cons, List.take_zero] at g
    obtain ⟨z, e2, _, w2⟩ := DataW.trod_int he g
    obtain ⟨e2, _⟩ := List.cons.inj e2
    exact ⟨z, by rw [List.getElem?_eq_getElem hil, e2], w2⟩
  refine ⟨fun i => if h : i < n then (each i h).choose else 0, ?_, fun i hi => ?_⟩
  · congr 2
    apply List.ext_getElem?
    intro i
    by_cases hi : i < n
    · rw [M.matK_get hi, dif_pos hi]
      exact (each i hi).choose_spec.1
    · rw [List.getElem?_eq_none (by omega), List.getElem?_eq_none (by rw [M.matK_len]; omega)]
  · dsimp only
    rw [dif_pos hi]
    exact (each i hi).choose_spec.2
end
theorem o23 : Try.prog.cellsOf 23 = 16 := by kernel_rfl
theorem o32 : Try.prog.cellsOf 32 = 4 := by kernel_rfl
theorem o40 : Try.prog.cellsOf 40 = 3 := by kernel_rfl
theorem o43 : Try.prog.cellsOf 43 = 16 := by kernel_rfl
theorem o45 : Try.prog.cellsOf 45 = 4 := by kernel_rfl
theorem o3 : Try.prog.cellsOf 3 = 1 := by kernel_rfl
theorem o42 : Try.prog.cellsOf 42 = 1 := by kernel_rfl
theorem o44 : Try.prog.cellsOf 44 = 1 := by kernel_rfl
section
variable {H : Type} {enc : TypeId × Value → H} {w : World} {r : Reach} {b0 : Nat} {v : Value} {d : DataW H} {p : List MemPlace}
theorem open23 (hv : Value.okWide Try.prog w r b0 23 v) (h : DataW.Trod enc Try.prog w 0 (fun _ => true) true 23 v d p) : ∃ a : Nat → Int, v = .agg (M.mat 16 a).toArray ∧ ∀ i, i < 16 → -9223372036854775808 ≤ a i ∧ a i < 9223372036854775808 := by
  obtain ⟨a, h1, h2⟩ := open_arr Try.underlying23 Try.underlying3 o3 o23 hv h
  exact ⟨a, h1, fun i hi => wf_rng (h2 i hi)⟩
theorem open32 (hv : Value.okWide Try.prog w r b0 32 v) (h : DataW.Trod enc Try.prog w 0 (fun _ => true) true 32 v d p) : ∃ a : Nat → Int, v = .agg (M.mat 4 a).toArray ∧ ∀ i, i < 4 → -9223372036854775808 ≤ a i ∧ a i < 9223372036854775808 := by
  obtain ⟨a, h1, h2⟩ := open_arr Try.underlying32 Try.underlying3 o3 o32 hv h
  exact ⟨a, h1, fun i hi => wf_rng (h2 i hi)⟩
theorem open40 (hv : Value.okWide Try.prog w r b0 40 v) (h : DataW.Trod enc Try.prog w 0 (fun _ => true) true 40 v d p) : ∃ a : Nat → Int, v = .agg (M.mat 3 a).toArray ∧ ∀ i, i < 3 → -9223372036854775808 ≤ a i ∧ a i < 9223372036854775808 := by
  obtain ⟨a, h1, h2⟩ := open_arr Try.underlying40 Try.underlying3 o3 o40 hv h
  exact ⟨a, h1, fun i hi => wf_rng (h2 i hi)⟩
theorem open43 (hv : Value.okWide Try.prog w r b0 43 v) (h : DataW.Trod enc Try.prog w 0 (fun _ => true) true 43 v d p) : ∃ a : Nat → Int, v = .agg (M.matK .i8 16 a).toArray ∧ ∀ i, i < 16 → -128 ≤ a i ∧ a i ≤ 127 := by
  obtain ⟨a, h1, h2⟩ := open_arr Try.underlying43 Try.underlying42 o42 o43 hv h
  exact ⟨a, h1, fun i hi => bounds_i8 (h2 i hi)⟩
theorem open45 (hv : Value.okWide Try.prog w r b0 45 v) (h : DataW.Trod enc Try.prog w 0 (fun _ => true) true 45 v d p) : ∃ a : Nat → Int, v = .agg (M.matK .i16 4 a).toArray ∧ ∀ i, i < 4 → -32768 ≤ a i ∧ a i ≤ 32767 := by
  obtain ⟨a, h1, h2⟩ := open_arr Try.underlying45 Try.underlying44 o44 o45 hv h
  exact ⟨a, h1, fun i hi => bounds_i16 (h2 i hi)⟩
end
end Go.Proofs.Ytidaffgfhmbomaa
