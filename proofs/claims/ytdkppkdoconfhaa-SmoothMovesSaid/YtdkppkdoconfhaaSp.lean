/- Arguments that came in. -/
import Derived.Test.YtdkppkdoconfhaaWo
namespace Go.Proofs.Ytdkppkdoconfhaa
open Go.ChangeShapes Go.WideShapes Go.ChangeAt Go.RowKit
set_option linter.unusedVariables false
set_option linter.unusedSimpArgs false

set_option maxRecDepth 100000
theorem oL : Try.prog.cellsOf 29 = 19 := by kernel_rfl
theorem oP : Try.prog.cellsOf 48 = 9 := by kernel_rfl
theorem o2i64 : Try.prog.cellsOf 37 = 2 := by kernel_rfl
/-- A line, and a rectangle. -/
def sl (a b : Nat → Int) (n : Int) (r : Nat → Int) : List Value := M.mat 7 a ++ (M.mat 7 b ++ ([.int .i64 n] ++ M.mat 4 r))
section
variable (a b : Nat → Int) (n : Int) (r : Nat → Int)
theorem sl_is : sl a b n r = [.int .i64 (a 0), .int .i64 (a 1), .int .i64 (a 2), .int .i64 (a 3), .int .i64 (a 4), .int .i64 (a 5), .int .i64 (a 6), .int .i64 (b 0), .int .i64 (b 1), .int .i64 (b 2), .int .i64 (b 3), .int .i64 (b 4), .int .i64 (b 5), .int .i64 (b 6), .int .i64 (n), .int .i64 (r 0), .int .i64 (r 1), .int .i64 (r 2), .int .i64 (r 3)] := rfl
theorem sl_len : (sl a b n r).length = 19 := rfl
theorem sl_a : ∀ k u, (M.mat 7 a)[k]? = some u → (sl a b n r)[0 + k]? = some u := fun k u h => by
  have hk : k < (M.mat 7 a).length := (List.getElem?_eq_some_iff.1 h).1
  rw [Nat.zero_add, sl, List.getElem?_append_left hk]
  exact h
theorem sl_b : ∀ k u, (M.mat 7 b)[k]? = some u → (sl a b n r)[7 + k]? = some u := fun k u h => by
  have hk : k < 7 := by
    have := (List.getElem?_eq_some_iff.1 h).1
    rwa [M.mat_len] at this
  rw [sl, List.getElem?_append_right (by rw [M.mat_len]; omega), M.mat_len, Nat.add_sub_cancel_left, List.getElem?_append_left (by rw [M.mat_len]; exact hk)]
  exact h
theorem sl_r : ∀ k u, (M.mat 4 r)[k]? = some u → (sl a b n r)[15 + k]? = some u := fun k u h => by
  have hk : k < 4 := by
    have := (List.getElem?_eq_some_iff.1 h).1
    rwa [M.mat_len] at this
  rcases (by omega : k = 0 ∨ k = 1 ∨ k = 2 ∨ k = 3) with rfl | rfl | rfl | rfl <;> exact h
theorem sl_n : (sl a b n r)[14]? = some (.int .i64 n) := rfl
end
theorem sl_one (a b : Nat → Int) (n : Int) (r : Nat → Int) : ∀ v ∈ sl a b n r, v.oneCell' = true := by
  intro v hv
  rw [sl_is] at hv
  simp only [List.mem_cons, List.not_mem_nil, or_false] at hv
  rcases hv with rfl | rfl | rfl | rfl | rfl | rfl | rfl | rfl | rfl | rfl | rfl | rfl | rfl | rfl | rfl | rfl | rfl | rfl | rfl <;> rfl
/-- A line in parts, and a pixel. -/
def pk (x y d0 d1 m k u e0 e1 : Int) : List Value := two .i16 x y ++ (two .i8 d0 d1 ++ (two .u8 m k ++ ([.int .u8 u] ++ two .i8 e0 e1)))
section
variable {H : Type} {enc : TypeId × Value → H} {w : World}
theorem sline_of {fuel : Nat} {cs : List Value} {x : DataW H × List MemPlace} (hf : DataW.trod enc Try.prog w 0 (fun _ => true) true fuel 29 cs = some x) : ∃ (a b : Nat → Int) (n : Int) (r : Nat → Int), cs = sl a b n r := by
  obtain ⟨xs, k, _, hx, hlen, hxl, hg⟩ := DataW.trod_struct Try.underlying29 hf
  rw [oL] at hlen
  match cs, hlen with
  | [v0, v1, v2, v3, v4, v5, v6, v7, v8, v9, v10, v11, v12, v13, v14, v15, v16, v17, v18], _ =>
    have g0 := hg 0 _ rfl
    have g1 := hg 1 _ rfl
    have g2 := hg 2 _ rfl
    have g3 := hg 3 _ rfl
    simp [o3, oW, oR] at g0 g1 g2 g3
    match xs, hxl with
    | [y0, y1, y2, y3], _ =>
      obtain ⟨a, ha⟩ := win_of g0
      obtain ⟨b, hb⟩ := win_of g1
      obtain ⟨n, hn, _, _⟩ := DataW.trod_int Try.underlying3 g2
      obtain ⟨r, hr⟩ := rect_of g3
      refine ⟨a, b, n, r, ?_⟩
      simp at hn
      subst hn
      rw [sl, ← ha, ← hb, ← hr]
      rfl
theorem sparts_of {fuel : Nat} {cs : List Value} {x : DataW H × List MemPlace} (hf : DataW.trod enc Try.prog w 0 (fun _ => true) true fuel 48 cs = some x) : ∃ (x y d0 d1 m k u e0 e1 : Int), cs = pk x y d0 d1 m k u e0 e1 ∧
    ((-32768 ≤ x ∧ x ≤ 32767) ∧ (-32768 ≤ y ∧ y ≤ 32767)) ∧ ((-128 ≤ d0 ∧ d0 ≤ 127) ∧ (-128 ≤ d1 ∧ d1 ≤ 127)) ∧ ((0 ≤ m ∧ m ≤ 255) ∧ (0 ≤ k ∧ k ≤ 255)) ∧ (0 ≤ u ∧ u ≤ 255) ∧ ((-128 ≤ e0 ∧ e0 ≤ 127) ∧ (-128 ≤ e1 ∧ e1 ≤ 127)) := by
  obtain ⟨xs, k, _, hx, hlen, hxl, hg⟩ := DataW.trod_struct Try.underlying48 hf
  rw [oP] at hlen
  match cs, hlen with
  | [v0, v1, v2, v3, v4, v5, v6, v7, v8], _ =>
    have g0 := hg 0 _ rfl
    have g1 := hg 1 _ rfl
    have g2 := hg 2 _ rfl
    have g3 := hg 3 _ rfl
    have g4 := hg 4 _ rfl
    simp [o2i8, o2i16, o2u8, o5] at g0 g1 g2 g3 g4
    match xs, hxl with
    | [y0, y1, y2, y3, y4], _ =>
      obtain ⟨x, y, hx, r1, r2⟩ := two_of Try.underlying43 Try.underlying42 o2i16 oi16 g0
      obtain ⟨d0, d1, hd, r3, r4⟩ := two_of Try.underlying45 Try.underlying44 o2i8 oi8 g1
      obtain ⟨m, k, hm, r5, r6⟩ := two_of Try.underlying46 Try.underlying5 o2u8 o5 g2
      obtain ⟨u, hu, _, r7⟩ := DataW.trod_int Try.underlying5 g3
      obtain ⟨e0, e1, he, r8, r9⟩ := two_of Try.underlying45 Try.underlying44 o2i8 oi8 g4
      refine ⟨x, y, d0, d1, m, k, u, e0, e1, ?_, ⟨bounds_i16 r1, bounds_i16 r2⟩, ⟨bounds_i8 r3, bounds_i8 r4⟩, ⟨bounds_u8 r5, bounds_u8 r6⟩, bounds_u8 r7, bounds_i8 r8, bounds_i8 r9⟩
      simp at hu
      subst hu
      rw [pk, ← hx, ← hd, ← hm, ← he]
      rfl
variable {r : Reach} {b0 : Nat} {v : Value} {d : DataW H} {p : List MemPlace}
theorem openSLine (hv : Value.okWide Try.prog w r b0 29 v) (h : DataW.Trod enc Try.prog w 0 (fun _ => true) true 29 v d p) : ∃ (a b : Nat → Int) (n : Int) (r : Nat → Int), v = .agg (sl a b n r).toArray := by
  obtain ⟨cs, rfl, hsz⟩ := okWide_struct Try.underlying29 hv
  obtain ⟨fuel, hf⟩ := h
  obtain ⟨a, b, n, r, ha⟩ := sline_of hf
  refine ⟨a, b, n, r, ?_⟩
  obtain ⟨l⟩ := cs
  have : l = sl a b n r := ha
  rw [this]
theorem openTwo64 (hv : Value.okWide Try.prog w r b0 37 v) (h : DataW.Trod enc Try.prog w 0 (fun _ => true) true 37 v d p) : ∃ x y : Int, v = .agg (two .i64 x y).toArray := by
  simp only [Value.okWide, Try.underlying37] at hv
  obtain ⟨cs, rfl, hsz, _⟩ := hv
  obtain ⟨fuel, hf⟩ := h
  obtain ⟨x, y, ha, r1, r2⟩ := two_of Try.underlying37 Try.underlying3 o2i64 o3 hf
  refine ⟨x, y, ?_⟩
  obtain ⟨l⟩ := cs
  have : l = two .i64 x y := ha
  rw [this]
theorem openSParts (hv : Value.okWide Try.prog w r b0 48 v) (h : DataW.Trod enc Try.prog w 0 (fun _ => true) true 48 v d p) : ∃ (x y d0 d1 m k u e0 e1 : Int), v = .agg (pk x y d0 d1 m k u e0 e1).toArray ∧
    ((-32768 ≤ x ∧ x ≤ 32767) ∧ (-32768 ≤ y ∧ y ≤ 32767)) ∧ ((-128 ≤ d0 ∧ d0 ≤ 127) ∧ (-128 ≤ d1 ∧ d1 ≤ 127)) ∧ ((0 ≤ m ∧ m ≤ 255) ∧ (0 ≤ k ∧ k ≤ 255)) ∧ (0 ≤ u ∧ u ≤ 255) ∧ ((-128 ≤ e0 ∧ e0 ≤ 127) ∧ (-128 ≤ e1 ∧ e1 ≤ 127)) := by
  obtain ⟨cs, rfl, hsz⟩ := okWide_struct Try.underlying48 hv
  obtain ⟨fuel, hf⟩ := h
  obtain ⟨x, y, d0, d1, m, k, u, e0, e1, ha, hr⟩ := sparts_of hf
  refine ⟨x, y, d0, d1, m, k, u, e0, e1, ?_, hr⟩
  obtain ⟨l⟩ := cs
  have : l = pk x y d0 d1 m k u e0 e1 := ha
  rw [this]
end
/-- How many of the first i are told. -/
def cntp {α : Type} (p : α → Bool) (l : List α) (i : Nat) : Nat := ((l.take i).filter p).length
theorem cntp_zero {α : Type} (p : α → Bool) (l : List α) : cntp p l 0 = 0 := by unfold cntp; simp
theorem cntp_no {α : Type} {p : α → Bool} {l : List α} {i : Nat} {x : α} (h : l[i]? = some x) (hp : p x = false) : cntp p l (i + 1) = cntp p l i := by
  unfold cntp
  rw [List.take_add_one, h, List.filter_append]
  simp [hp]
theorem cntp_yes {α : Type} {p : α → Bool} {l : List α} {i : Nat} {x : α} (h : l[i]? = some x) (hp : p x = true) : cntp p l (i + 1) = cntp p l i + 1 ∧ (l.filter p)[cntp p l i]? = some x := by
  obtain ⟨hi, rfl⟩ := List.getElem?_eq_some_iff.1 h
  constructor
  · unfold cntp
    rw [List.take_add_one, h, List.filter_append]
    simp [hp]
  · have e : l = l.take i ++ l[i] :: l.drop (i + 1) := by rw [List.getElem_cons_drop, List.take_append_drop]
    have e2 : l.filter p = (l.take i).filter p ++ l[i] :: (l.drop (i + 1)).filter p := by
      conv => lhs; rw [e]
      rw [List.filter_append, List.filter_cons_of_pos hp]
    unfold cntp
    rw [e2, List.getElem?_append_right (Nat.le_refl _), Nat.sub_self]
    rfl
theorem cntp_all {α : Type} (p : α → Bool) (l : List α) : cntp p l l.length = (l.filter p).length := by unfold cntp; rw [List.take_length]
theorem cntp_le {α : Type} (p : α → Bool) (l : List α) (i : Nat) : cntp p l i ≤ i := by
  unfold cntp
  have h1 := List.length_filter_le p (l.take i)
  rw [List.length_take] at h1
  omega
theorem add_fld (P : Addr) (k j : Nat) (hj : 0 < j) : (⟨(P.add k).block, (P.add k).off + j, none⟩ : Addr) = P.add (k + j) := by
  unfold Addr.add
  by_cases h : k = 0
  · subst h
    rw [if_pos rfl, if_neg (by omega), Nat.zero_add]
  · rw [if_neg h, if_neg (by omega)]
    simp only [Nat.add_assoc]
theorem add_fld0 (P : Addr) (j : Nat) (hj : 0 < j) : (⟨P.block, P.off + j, none⟩ : Addr) = P.add j := by
  unfold Addr.add
  rw [if_neg (by omega)]
end Go.Proofs.Ytdkppkdoconfhaa
