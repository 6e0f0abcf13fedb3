/- Arguments that came in. -/
import Derived.Test.YtlmgilcigbnbaaaWo
namespace Go.Proofs.Ytlmgilcigbnbaaa
open Go.ChangeShapes Go.WideShapes Go.ChangeAt Go.RowKit
set_option linter.unusedVariables false
set_option linter.unusedSimpArgs false

set_option maxRecDepth 100000
theorem oD19 : Try.prog.cellsOf 29 = 13 := by kernel_rfl
/-- A point, and a rectangle. -/
def dl (v : Nat → Int) (s k : Int) (r : Nat → Int) : List Value := M.mat 7 v ++ ([.int .i64 s] ++ ([.int .i64 k] ++ M.mat 4 r))
section
variable (v : Nat → Int) (s k : Int) (r : Nat → Int)
theorem dl_is : dl v s k r = [.int .i64 (v 0), .int .i64 (v 1), .int .i64 (v 2), .int .i64 (v 3), .int .i64 (v 4), .int .i64 (v 5), .int .i64 (v 6), .int .i64 (s), .int .i64 (k), .int .i64 (r 0), .int .i64 (r 1), .int .i64 (r 2), .int .i64 (r 3)] := rfl
theorem dl_len : (dl v s k r).length = 13 := rfl
theorem dl_v : ∀ j u, (M.mat 7 v)[j]? = some u → (dl v s k r)[0 + j]? = some u := fun j u h => by
  have hj : j < (M.mat 7 v).length := (List.getElem?_eq_some_iff.1 h).1
  rw [Nat.zero_add, dl, List.getElem?_append_left hj]
  exact h
theorem dl_r : ∀ j u, (M.mat 4 r)[j]? = some u → (dl v s k r)[9 + j]? = some u := fun j u h => by
  have hj : j < 4 := by
    have := (List.getElem?_eq_some_iff.1 h).1
    rwa [M.mat_len] at this
  rcases (by omega : j = 0 ∨ j = 1 ∨ j = 2 ∨ j = 3) with rfl | rfl | rfl | rfl <;> exact h
theorem dl_s : (dl v s k r)[7]? = some (.int .i64 s) := rfl
theorem dl_k : (dl v s k r)[8]? = some (.int .i64 k) := rfl
end
theorem dl_one (v : Nat → Int) (s k : Int) (r : Nat → Int) : ∀ u ∈ dl v s k r, u.oneCell' = true := by
  intro u hu
  rw [dl_is] at hu
  simp only [List.mem_cons, List.not_mem_nil, or_false] at hu
  rcases hu with rfl | rfl | rfl | rfl | rfl | rfl | rfl | rfl | rfl | rfl | rfl | rfl | rfl <;> rfl
section
variable {H : Type} {enc : TypeId × Value → H} {w : World}
theorem sdot_of {fuel : Nat} {cs : List Value} {x : DataW H × List MemPlace} (hf : DataW.trod enc Try.prog w 0 (fun _ => true) true fuel 29 cs = some x) : ∃ (v : Nat → Int) (s k : Int) (r : Nat → Int), cs = dl v s k r := by
  obtain ⟨xs, k, _, hx, hlen, hxl, hg⟩ := DataW.trod_struct Try.underlying29 hf
  rw [oD19] at hlen
  match cs, hlen with
  | [v0, v1, v2, v3, v4, v5, v6, v7, v8, v9, v10, v11, v12], _ =>
    have g0 := hg 0 _ rfl
    have g1 := hg 1 _ rfl
    have g2 := hg 2 _ rfl
    have g3 := hg 3 _ rfl
    simp [o3, oW, oR] at g0 g1 g2 g3
    match xs, hxl with
    | [y0, y1, y2, y3], _ =>
      obtain ⟨a, ha⟩ := win_of g0
      obtain ⟨s, hs, _, _⟩ := DataW.trod_int Try.underlying3 g1
      obtain ⟨n, hn, _, _⟩ := DataW.trod_int Try.underlying3 g2
      obtain ⟨r, hr⟩ := rect_of g3
      refine ⟨a, s, n, r, ?_⟩
      simp at hs hn
      subst hs hn
      rw [dl, ← ha, ← hr]
      rfl
variable {r : Reach} {b0 : Nat} {v : Value} {d : DataW H} {p : List MemPlace}
theorem openSDot (hv : Value.okWide Try.prog w r b0 29 v) (h : DataW.Trod enc Try.prog w 0 (fun _ => true) true 29 v d p) : ∃ (a : Nat → Int) (s k : Int) (r : Nat → Int), v = .agg (dl a s k r).toArray := by
  obtain ⟨cs, rfl, hsz⟩ := okWide_struct Try.underlying29 hv
  obtain ⟨fuel, hf⟩ := h
  obtain ⟨a, s, k, r, ha⟩ := sdot_of hf
  refine ⟨a, s, k, r, ?_⟩
  obtain ⟨l⟩ := cs
  have : l = dl a s k r := ha
  rw [this]
theorem openSWin (hv : Value.okWide Try.prog w r b0 25 v) (h : DataW.Trod enc Try.prog w 0 (fun _ => true) true 25 v d p) : ∃ (a : Nat → Int), v = arr 7 a := by
  obtain ⟨cs, rfl, hsz⟩ := okWide_struct Try.underlying25 hv
  obtain ⟨fuel, hf⟩ := h
  obtain ⟨a, ha⟩ := win_of hf
  refine ⟨a, ?_⟩
  obtain ⟨l⟩ := cs
  have : l = M.mat 7 a := ha
  rw [this]
end
/-- How many of the first i are told. -/
def cntp {α : Type} (p : α → Bool) (l : List α) (i : Nat) : Nat := ((l.take i).filter p).length
theorem cntp_zero {α : Type} (p : α → Bool) (l : List α) : cntp p l 0 = 0 := by unfold cntp; simp
theorem cntp_no {α : Type} {p : α → Bool} {l : List α} {i : Nat} {x : α} (h : l[i]? = some x) (hp : p x = false) : cntp p l (i + 1) = cntp p l i := by
  unfold cntp
  rw [List.take_add_one, h, List.filter_append]
  simp [hp]
theorem cntp_yes {α : Type} {p : α → Bool} {l : List α} {i : Nat} {x : α} (h : l[i]? = some x) (hp : p x = true) : cntp p l (i + 1) = cntp p l i + 1 ∧ (l.filter p)[cntp p l i]? = some x := by
  obtain ⟨hi, rfl⟩ := List.getElem?_eq_some_iff.1 h
  constructor
  · unfold cntp
    rw [List.take_add_one, h, List.filter_append]
    simp [hp]
  · have e : l = l.take i ++ l[i] :: l.drop (i + 1) := by rw [List.getElem_cons_drop, List.take_append_drop]
    have e2 : l.filter p = (l.take i).filter p ++ l[i] :: (l.drop (i + 1)).filter p := by
      conv => lhs; rw [e]
      rw [List.filter_append, List.filter_cons_of_pos hp]
    unfold cntp
    rw [e2, List.getElem?_append_right (Nat.le_refl _), Nat.sub_self]
    rfl
theorem cntp_all {α : Type} (p : α → Bool) (l : List α) : cntp p l l.length = (l.filter p).length := by unfold cntp; rw [List.take_length]
theorem cntp_le {α : Type} (p : α → Bool) (l : List α) (i : Nat) : cntp p l i ≤ i := by
  unfold cntp
  have h1 := List.length_filter_le p (l.take i)
  rw [List.length_take] at h1
  omega
theorem add_fld (P : Addr) (k j : Nat) (hj : 0 < j) : (⟨(P.add k).block, (P.add k).off + j, none⟩ : Addr) = P.add (k + j) := by
  unfold Addr.add
  by_cases h : k = 0
  · subst h
    rw [if_pos rfl, if_neg (by omega), Nat.zero_add]
  · rw [if_neg h, if_neg (by omega)]
    simp only [Nat.add_assoc]
theorem add_fld0 (P : Addr) (j : Nat) (hj : 0 < j) : (⟨P.block, P.off + j, none⟩ : Addr) = P.add j := by
  unfold Addr.add
  rw [if_neg (by omega)]
end Go.Proofs.Ytlmgilcigbnbaaa
