/- New blocks, laid and written in any order; a port that is moved. -/
import Derived.Test.YtbmigbmeadgopaaVh
import Derived.Test.YtbmigbmeadgopaaVi
namespace Go.Proofs.Ytbmigbmeadgopaa
open Go.ChangeShapes Go.WideShapes Go.ChangeAt Go.RowKit
set_option linter.unusedVariables false
set_option linter.unusedSimpArgs false

theorem Own.perm {w0 w : World} {l l' : List (Nat × TypeId × List Value)} (h : Own w0 w l) (hp : l.Perm l') : Own w0 w l' :=
  ⟨h.1, (hp.map _).nodup_iff.1 h.2.1, fun x hx => h.2.2 x (hp.mem_iff.2 hx)⟩
theorem Own.drop {w0 w : World} : ∀ {l bs : List (Nat × TypeId × List Value)}, Own w0 w (l ++ bs) → Own w0 w bs
  | [], _, h => h
  | _ :: l, bs, h => Own.drop (l := l) (Own.tail h)
/-- A new block: laid, and written. -/
def wr (t : TypeId) (z : List Value) (a b : Option Value) (q : List Value) : List (Nat × TypeId × List Value) :=
  match a with
  | some (.pointer (some ad)) => [(ad.block, t, if b.isSome then q else z)]
  | _ => []
def isP (a : Option Value) : Prop := ∀ v, a = some v → ∃ g, v = .pointer (some ⟨g, 0, none⟩)
/-- A new vertex and two new ports, of which the first two are written. -/
def Nb (w0 : World) (bs : List (Nat × TypeId × List Value)) (x y : List Value) (a b c d e : Option Value) (w : World) : Prop :=
  (a = none → d = none) ∧ (b = none → e = none) ∧ isP a ∧ isP b ∧ isP c ∧ Own w0 w (wr 25 (M.mat 8 M.zero) a d x ++ (wr 27 (M.mat 4 M.zero) b e y ++ (wr 27 (M.mat 4 M.zero) c none [] ++ bs)))
theorem isP_none : isP none := fun v h => by cases h
theorem isP_some (g : Nat) : isP (some (.pointer (some ⟨g, 0, none⟩))) := fun v h => ⟨g, (Option.some.inj h).symm⟩
section
variable {w0 w : World} {bs : List (Nat × TypeId × List Value)} {x y : List Value} {a b c d e : Option Value}
theorem Nb.start (O : Own w0 w bs) : Nb w0 bs x y none none none none none w := ⟨fun _ => rfl, fun _ => rfl, isP_none, isP_none, isP_none, O⟩
theorem Nb.own (h : Nb w0 bs x y a b c d e w) : Own w0 w bs := Own.drop (Own.drop (Own.drop h.2.2.2.2.2))
variable {dst : Option Tmp} {ty : TypeId} {pos : String} {after : Array Edge} {K : Act → World → Prop} {p q : Operand} {ac : Act} {Q : Exit → Act → World → Prop} {gd : Option (Nat × Bool)}
theorem Nb.alloc_a (h : Nb w0 bs x y none b c d e w) (hK : ∀ v w1, Nb w0 bs x y (some v) b c d e w1 → K (ac.put dst v) w1) : Oper.wp Try.prog ⟨dst, .alloc 25, ty, pos, after, none⟩ ac w K Q := by
  obtain ⟨h1, h2, h3, h4, h5, O⟩ := h
  obtain rfl := h1 rfl
  exact wp_alloc_own O (M.mat 8 M.zero) zero27 fun g w1 O1 => hK _ _ ⟨by simp, h2, isP_some g, h4, h5, O1⟩
theorem Nb.alloc_b (h : Nb w0 bs x y a none c d e w) (hK : ∀ v w1, Nb w0 bs x y a (some v) c d e w1 → K (ac.put dst v) w1) : Oper.wp Try.prog ⟨dst, .alloc 27, ty, pos, after, none⟩ ac w K Q := by
  obtain ⟨h1, h2, h3, h4, h5, O⟩ := h
  obtain rfl := h2 rfl
  exact wp_alloc_own O (M.mat 4 M.zero) zeroP fun g w1 O1 => hK _ _ ⟨h1, by simp, h3, isP_some g, h5, O1.perm List.perm_middle.symm⟩
theorem Nb.alloc_c (h : Nb w0 bs x y a b none d e w) (hK : ∀ v w1, Nb w0 bs x y a b (some v) d e w1 → K (ac.put dst v) w1) : Oper.wp Try.prog ⟨dst, .alloc 27, ty, pos, after, none⟩ ac w K Q := by
  obtain ⟨h1, h2, h3, h4, h5, O⟩ := h
  refine wp_alloc_own O (M.mat 4 M.zero) zeroP fun g w1 O1 => hK _ _ ⟨h1, h2, h3, h4, isP_some g, ?_⟩
  have O2 := O1.perm (l' := (wr 25 (M.mat 8 M.zero) a d x ++ wr 27 (M.mat 4 M.zero) b e y) ++ (g, 27, M.mat 4 M.zero) :: bs) (by
    rw [← List.append_assoc]
    exact List.perm_middle.symm)
  rw [List.append_assoc] at O2
  exact O2
theorem Nb.put_a (h : Nb w0 bs x y a b c none e w) (ha : a.isSome = true) (f : Nat → Int) (hx0 : x = M.mat 8 f) (hx : ac.eval p = a.getD undef) (hy : ac.eval q = arr 8 f) (hK : ∀ v w1, Nb w0 bs x y a b c (some v) e w1 → K (ac.put dst v) w1) : Oper.wp Try.prog ⟨dst, .store 25 p q, ty, pos, after, gd⟩ ac w K Q := by
  obtain ⟨h1, h2, h3, h4, h5, O⟩ := h
  obtain ⟨v, rfl⟩ := Option.isSome_iff_exists.1 ha
  obtain ⟨g, rfl⟩ := h3 v rfl
  subst hx0
  exact wp_put_own O 0 (M.mat 8 f) rfl hx hy (s27 _) (M.mat_len2 _ _ _) (M.mat_one _ _) fun w1 O1 => hK _ _ ⟨by simp, h2, h3, h4, h5, O1⟩
theorem Nb.put_b (h : Nb w0 bs x y a b c d none w) (hb : b.isSome = true) (f : Nat → Int) (hy0 : y = M.mat 4 f) (hx : ac.eval p = b.getD undef) (hy : ac.eval q = arr 4 f) (hK : ∀ v w1, Nb w0 bs x y a b c d (some v) w1 → K (ac.put dst v) w1) : Oper.wp Try.prog ⟨dst, .store 27 p q, ty, pos, after, gd⟩ ac w K Q := by
  obtain ⟨h1, h2, h3, h4, h5, O⟩ := h
  obtain ⟨v, rfl⟩ := Option.isSome_iff_exists.1 hb
  obtain ⟨g, rfl⟩ := h4 v rfl
  subst hy0
  have O2 : Own w0 w ((g, 27, M.mat 4 M.zero) :: (wr 25 (M.mat 8 M.zero) a d x ++ (wr 27 (M.mat 4 M.zero) c none [] ++ bs))) := O.perm List.perm_middle
  exact wp_put_own O2 0 (M.mat 4 f) rfl hx hy (sP _) (M.mat_len2 _ _ _) (M.mat_one _ _) fun w1 O1 => hK _ _ ⟨h1, by simp, h3, h4, h5, Own.perm O1 List.perm_middle.symm⟩
theorem Nb.done (h : Nb w0 bs x y a b c d e w) (ha : a.isSome = true) (hb : b.isSome = true) (hc : c.isSome = true) (hd : d.isSome = true) (he : e.isSome = true) :
    ∃ g1 g2 g3, a = some (.pointer (some ⟨g1, 0, none⟩)) ∧ b = some (.pointer (some ⟨g2, 0, none⟩)) ∧ c = some (.pointer (some ⟨g3, 0, none⟩)) ∧ Own w0 w ((g1, 25, x) :: (g2, 27, y) :: (g3, 27, M.mat 4 M.zero) :: bs) := by
  obtain ⟨h1, h2, h3, h4, h5, O⟩ := h
  obtain ⟨v, rfl⟩ := Option.isSome_iff_exists.1 ha
  obtain ⟨v', rfl⟩ := Option.isSome_iff_exists.1 hb
  obtain ⟨v2, rfl⟩ := Option.isSome_iff_exists.1 hc
  obtain ⟨v3, rfl⟩ := Option.isSome_iff_exists.1 hd
  obtain ⟨v4, rfl⟩ := Option.isSome_iff_exists.1 he
  obtain ⟨g1, rfl⟩ := h3 v rfl
  obtain ⟨g2, rfl⟩ := h4 v' rfl
  obtain ⟨g3, rfl⟩ := h5 v2 rfl
  exact ⟨g1, g2, g3, rfl, rfl, rfl, O⟩
end
/-- A port of which two numbers may have been written. -/
def q2 (p : Nat → Int) (x y : Int) (a b : Bool) (i : Nat) : Int := if i = 0 then (if a then x else p 0) else if i = 1 then (if b then y else p 1) else p i
theorem q2_0 (p : Nat → Int) (x y : Int) : q2 p x y false false = p := funext fun i => by
  rw [q2]
  split
  · rename_i h; rw [h]; rfl
  · split
    · rename_i h; rw [h]; rfl
    · rfl
theorem q2_a (p : Nat → Int) (x y : Int) (b : Bool) : (M.mat 4 (q2 p x y false b)).set 0 (.int .i64 x) = M.mat 4 (q2 p x y true b) :=
  M.mat_set_to (by decide) rfl fun j _ hj => by simp only [q2, if_neg hj]
theorem q2_b (p : Nat → Int) (x y : Int) (a : Bool) : (M.mat 4 (q2 p x y a false)).set 1 (.int .i64 y) = M.mat 4 (q2 p x y a true) :=
  M.mat_set_to (by decide) rfl fun j _ hj => by simp only [q2, if_neg hj]
theorem agg39 (w : World) : (isAgg 39).run Try.prog w = .ok false w := by kernel_rfl
theorem mv_v (v p : Nat → Int) (i j : Int) : ∀ k u, (M.mat 8 v)[k]? = some u → (V.mv v p i j)[0 + k]? = some u := fun k u h => by
  have hk : k < (M.mat 8 v).length := (List.getElem?_eq_some_iff.1 h).1
  rw [Nat.zero_add, V.mv, List.getElem?_append_left hk]
  exact h
theorem mv_p (v p : Nat → Int) (i j : Int) : ∀ k u, (M.mat 4 p)[k]? = some u → (V.mv v p i j)[8 + k]? = some u := fun k u h => by
  have hk : k < (M.mat 4 p).length := (List.getElem?_eq_some_iff.1 h).1
  rw [V.mv, List.getElem?_append_right (by rw [M.mat_len]; omega), M.mat_len, show 8 + k - 8 = k by omega, List.getElem?_append_left hk]
  exact h
theorem cell_is {n i : Nat} {a : Nat → Int} {z : Int} (h : a i = z) (hi : i < n) : Hid ((M.mat n a)[i]? = some (.int .i64 z)) := Lib.hid (by rw [← h]; exact M.mat_get hi)
theorem moved {v p m n : Nat → Int} {x y : Int} (hx : -8192 ≤ x ∧ x ≤ 8192) (hy : -8192 ≤ y ∧ y ≤ 8192) (h : V.map v p = (m, 0)) (h' : V.map v (q2 p x y true true) = (n, 0)) :
    (-8192 ≤ p 0 ∧ p 0 ≤ 8192) ∧ (-8192 ≤ p 1 ∧ p 1 ≤ 8192) ∧ (-72057594040025088 ≤ m 0 ∧ m 0 ≤ 72057594040025088) ∧ (-72057594040025088 ≤ m 1 ∧ m 1 ≤ 72057594040025088) ∧
      n 0 - m 0 = 256 * (x - p 0) ∧ n 1 - m 1 = 256 * (y - p 1) ∧ n 2 = m 2 ∧ D.sub 3 m = D.sub 4 v ∧ D.sub 3 n = D.sub 4 v := by
  obtain ⟨hg, rfl⟩ := V.map_ok h
  obtain ⟨hg', rfl⟩ := V.map_ok h'
  obtain ⟨hv, h3, p0, p1, p2, p3⟩ := V.good_parts hg
  exact ⟨p0, p1, V.along_le p0 p2 (hv 0 (by omega)) h3, V.along_le p1 p3 (hv 1 (by omega)) h3, V.along_move (p 0) x (p 2) (v 0) (v 3), V.along_move (p 1) y (p 3) (v 1) (v 3), rfl, V.win_col _ _ _ _, V.win_col _ _ _ _⟩
theorem rest_in (i : Int) : -8192 ≤ i.tmod 8193 ∧ i.tmod 8193 ≤ 8192 := by
  rcases (by omega : 0 ≤ i ∨ i < 0) with h | h
  · have h1 := Int.tmod_lt_of_pos i (show (0 : Int) < 8193 by decide)
    have h2 := Int.tmod_nonneg (a := i) 8193 h
    omega
  · have h1 := Int.tmod_lt_of_pos (-i) (show (0 : Int) < 8193 by decide)
    have h2 := Int.tmod_nonneg (a := -i) 8193 (by omega)
    rw [Int.neg_tmod] at h1 h2
    omega
end Go.Proofs.Ytbmigbmeadgopaa
