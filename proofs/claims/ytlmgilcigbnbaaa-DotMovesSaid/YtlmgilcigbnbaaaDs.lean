/- Lists; facts of the laws. -/
import Derived.Test.YtlmgilcigbnbaaaDr
namespace Go.Proofs.Ytlmgilcigbnbaaa
open Go.ChangeShapes Go.WideShapes Go.ChangeAt Go.RowKit
set_option linter.unusedVariables false
set_option linter.unusedSimpArgs false

theorem meas_lt {m j : Nat} (W : wrap64 ((j : Int) + 1) = (j : Int) + 1) (h : j < m) : m - (intOf (Value.int IntKind.i64 (wrap64 ((j : Int) + 1)))).toNat < m - (intOf (Value.int IntKind.i64 (j : Int))).toNat := by
  rw [W]
  simp only [intOf]
  omega
theorem mat8_back {g f : Nat → Int} {X Y : Int} (h0 : f 0 = X) (h1 : f 1 = Y) (hg : ∀ i, 2 ≤ i → g i = f i) : ((M.mat 8 g).set 0 (.int .i64 X)).set 1 (.int .i64 Y) = M.mat 8 f := by
  have e : (M.mat 8 g) = [.int .i64 (g 0), .int .i64 (g 1), .int .i64 (g 2), .int .i64 (g 3), .int .i64 (g 4), .int .i64 (g 5), .int .i64 (g 6), .int .i64 (g 7)] := rfl
  have e' : (M.mat 8 f) = [.int .i64 (f 0), .int .i64 (f 1), .int .i64 (f 2), .int .i64 (f 3), .int .i64 (f 4), .int .i64 (f 5), .int .i64 (f 6), .int .i64 (f 7)] := rfl
  rw [e, e', h0, h1, hg 2 (by decide), hg 3 (by decide), hg 4 (by decide), hg 5 (by decide), hg 6 (by decide), hg 7 (by decide)]
  rfl
/-- Beside lists that are held, one that a call in a region hands back at any time (operation j). -/
def HS1 (w0 : World) (bs : List (Nat × TypeId × List Value)) (es : List Ent) (j : Nat) (m : List (Nat → Int)) (st : Nat → Option Value) (w : World) : Prop :=
  Held w0 w bs nilRow es ∧ ∀ v, st j = some v → ∃ A c, v = .slice A m.length c ∧ Held w0 w bs nilRow (gE w0.heap.size A c m :: es)
section
variable {w0 w w' : World} {bs : List (Nat × TypeId × List Value)} {es : List Ent} {j : Nat} {m : List (Nat → Int)} {st : Nat → Option Value}
theorem HS1.start (O : Held w0 w bs nilRow es) : HS1 w0 bs es j m (fun _ => none) w := ⟨O, fun v hv => (by cases hv)⟩
theorem HS1.call (h : HS1 w0 bs es j m st w) (hb : Below w.heap.size w w') : HS1 w0 bs es j m st w' := ⟨h.1.call hb, fun v hv => by
  obtain ⟨A, c, e, hH⟩ := h.2 v hv
  exact ⟨A, c, e, hH.call hb⟩⟩
theorem HS1.gain (h : HS1 w0 bs es j m st w) {A : Option Addr} {c : Nat} (hL : Lies w' free (gE w.heap.size A c m)) (hb : Below w.heap.size w w') : HS1 w0 bs es j m (upd st j (.slice A m.length c)) w' := by
  refine ⟨h.1.call hb, fun v hv => ?_⟩
  rw [upd_same] at hv
  obtain rfl := Option.some.inj hv
  exact ⟨A, c, rfl, h.1.gain hb hL⟩
theorem HS1.get (h : HS1 w0 bs es j m st w) (ha : (st j).isSome = true) : ∃ A c, st j = some (.slice A m.length c) ∧ Held w0 w bs nilRow (gE w0.heap.size A c m :: es) := by
  obtain ⟨v, hv⟩ := Option.isSome_iff_exists.1 ha
  obtain ⟨A, c, rfl, hH⟩ := h.2 v hv
  exact ⟨A, c, hv, hH⟩
end
namespace DT
theorem mvw_fit {v : Nat → Int} {p q : Int} {w : Nat → Int} (hv : VM.fit v = true) (h0 : w 0 = v 0 + 256 * p) (h1 : w 1 = v 1 + 256 * q) (hr : ∀ i, 2 ≤ i → w i = v i) : w = mvw v p q := funext fun i => by
  unfold mvw
  by_cases e0 : i = 0
  · rw [if_pos e0, e0, h0]
  · rw [if_neg e0]
    by_cases e1 : i = 1
    · rw [if_pos e1, e1, h1]
    · rw [if_neg e1, hr i (by omega)]
theorem right_kind {v : Nat → Int} {s k : Int} (h : right v s 0 = true) (hk : 0 ≤ k ∧ k ≤ 2) : right v s k = true := by
  obtain ⟨h1, h2, _⟩ := right_iff.1 h
  exact right_iff.2 ⟨h1, h2, hk⟩
theorem whole_lim {v : Nat → Int} {s k : Int} (h : right v s k = true) {p q : Int} (hp : -128 ≤ p ∧ p ≤ 127) (hq : -128 ≤ q ∧ q ≤ 127) : RC.right (mvr (whole v s) p q) = true ∧ RC.area (mvr (whole v s) p q) ≤ 100000 ∧ ((-2000000 ≤ whole v s 0 ∧ whole v s 0 ≤ 2000000) ∧ (-2000000 ≤ whole v s 1 ∧ whole v s 1 ≤ 2000000) ∧ (-2000000 ≤ whole v s 2 ∧ whole v s 2 ≤ 2000000) ∧ (-2000000 ≤ whole v s 3 ∧ whole v s 3 ≤ 2000000)) := by
  obtain ⟨hf, hs, _⟩ := right_iff.1 h
  obtain ⟨h0, h1, -⟩ := VM.fit_lim hf
  have t0 := tdiv_near (v 0)
  have t1 := tdiv_near (v 1)
  have b : ((-2000000 ≤ whole v s 0 ∧ whole v s 0 ≤ 2000000) ∧ (-2000000 ≤ whole v s 1 ∧ whole v s 1 ≤ 2000000) ∧ (-2000000 ≤ whole v s 2 ∧ whole v s 2 ≤ 2000000) ∧ (-2000000 ≤ whole v s 3 ∧ whole v s 3 ≤ 2000000)) := by
    show ((-2000000 ≤ (v 0).tdiv 256 - s - 2 ∧ (v 0).tdiv 256 - s - 2 ≤ 2000000) ∧ (-2000000 ≤ (v 1).tdiv 256 - s - 2 ∧ (v 1).tdiv 256 - s - 2 ≤ 2000000) ∧ (-2000000 ≤ (v 0).tdiv 256 + s + 3 ∧ (v 0).tdiv 256 + s + 3 ≤ 2000000) ∧ (-2000000 ≤ (v 1).tdiv 256 + s + 3 ∧ (v 1).tdiv 256 + s + 3 ≤ 2000000))
    omega
  have hw := whole_ok h
  have hr := RC.right_iff.1 hw.1
  have h2 : RC.right (mvr (whole v s) p q) = true := by
    rw [RC.right_iff]
    show ((-4194304 ≤ whole v s 0 + p ∧ whole v s 0 + p ≤ 4194304) ∧ (-4194304 ≤ whole v s 1 + q ∧ whole v s 1 + q ≤ 4194304) ∧ (-4194304 ≤ whole v s 2 + p ∧ whole v s 2 + p ≤ 4194304) ∧ (-4194304 ≤ whole v s 3 + q ∧ whole v s 3 + q ≤ 4194304)) ∧ (whole v s 0 + p < whole v s 2 + p) ∧ (whole v s 1 + q < whole v s 3 + q)
    omega
  refine ⟨h2, ?_, b⟩
  have ha := hw.2
  rw [RC.area_in hw.1] at ha
  rw [RC.area_in h2]
  show (whole v s 2 + p - (whole v s 0 + p)) * (whole v s 3 + q - (whole v s 1 + q)) ≤ 100000
  rw [show whole v s 2 + p - (whole v s 0 + p) = whole v s 2 - whole v s 0 by omega, show whole v s 3 + q - (whole v s 1 + q) = whole v s 3 - whole v s 1 by omega]
  omega
theorem both_area {r q : Nat → Int} (hr : RC.right r = true) : RC.area (RC.both r q) ≤ RC.area r := by
  have hl := RC.right_iff.1 hr
  cases hb : RC.right (RC.both r q)
  · rw [RC.area_bad hb, RC.area_in hr]
    exact Int.mul_nonneg (by omega) (by omega)
  · have hc := RC.right_iff.1 hb
    have k1 : RC.has (RC.both r q) (RC.both r q 0) (RC.both r q 1) = true := has_iff.2 ⟨hb, Int.le_refl _, hc.2.1, Int.le_refl _, hc.2.2⟩
    have k2 : RC.has (RC.both r q) (RC.both r q 2 - 1) (RC.both r q 3 - 1) = true := has_iff.2 ⟨hb, by omega, by omega, by omega, by omega⟩
    rw [both_has, Bool.and_eq_true] at k1 k2
    have h1 := has_iff.1 k1.1
    have h2 := has_iff.1 k2.1
    rw [RC.area_in hb, RC.area_in hr]
    exact Int.mul_le_mul (by omega) (by omega) (by omega) (by omega)
theorem pt_lim {v r : Nat → Int} {s k : Int} {f : Nat → Int} (h : f ∈ pt v s k r) : (-4194304 ≤ f 0 ∧ f 0 ≤ 4194304) ∧ (-4194304 ≤ f 1 ∧ f 1 ≤ 4194304) := by
  have h1 := has_iff.1 (pt_has h)
  have h2 := RC.right_iff.1 h1.1
  omega
end DT
end Go.Proofs.Ytlmgilcigbnbaaa
