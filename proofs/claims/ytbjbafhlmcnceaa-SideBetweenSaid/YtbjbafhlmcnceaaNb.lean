/- New blocks of four numbers, laid and written in any order; ways from end to end. -/
import Derived.Test.YtbjbafhlmcnceaaW6
namespace Go.Proofs.Ytbjbafhlmcnceaa
open Go.ChangeShapes Go.WideShapes Go.ChangeAt Go.RowKit
set_option linter.unusedVariables false
set_option linter.unusedSimpArgs false

theorem Own.perm {w0 w : World} {l l' : List (Nat × TypeId × List Value)} (h : Own w0 w l) (hp : l.Perm l') : Own w0 w l' :=
  ⟨h.1, (hp.map _).nodup_iff.1 h.2.1, fun x hx => h.2.2 x (hp.mem_iff.2 hx)⟩
theorem Own.drop {w0 w : World} : ∀ {l bs : List (Nat × TypeId × List Value)}, Own w0 w (l ++ bs) → Own w0 w bs
  | [], _, h => h
  | _ :: l, bs, h => Own.drop (l := l) (Own.tail h)
/-- A new block of four numbers: laid, and written. -/
def wr (a b : Option Value) (q : List Value) : List (Nat × TypeId × List Value) :=
  match a with
  | some (.pointer (some ad)) => [(ad.block, 22, if b.isSome then q else M.mat 4 M.zero)]
  | _ => []
def isP (a : Option Value) : Prop := ∀ v, a = some v → ∃ g, v = .pointer (some ⟨g, 0, none⟩)
/-- Three new blocks, of which two are written. -/
def Nb (w0 : World) (bs : List (Nat × TypeId × List Value)) (x y : List Value) (a b c d e : Option Value) (w : World) : Prop :=
  (a = none → d = none) ∧ (b = none → e = none) ∧ isP a ∧ isP b ∧ isP c ∧ Own w0 w (wr a d x ++ (wr b e y ++ (wr c none [] ++ bs)))
theorem isP_none : isP none := fun v h => by cases h
theorem isP_some (g : Nat) : isP (some (.pointer (some ⟨g, 0, none⟩))) := fun v h => ⟨g, (Option.some.inj h).symm⟩
section
variable {w0 w : World} {bs : List (Nat × TypeId × List Value)} {x y : List Value} {a b c d e : Option Value}
theorem Nb.start (O : Own w0 w bs) : Nb w0 bs x y none none none none none w := ⟨fun _ => rfl, fun _ => rfl, isP_none, isP_none, isP_none, O⟩
theorem Nb.own (h : Nb w0 bs x y a b c d e w) : Own w0 w bs := Own.drop (Own.drop (Own.drop h.2.2.2.2.2))
variable {dst : Option Tmp} {ty : TypeId} {pos : String} {after : Array Edge} {K : Act → World → Prop} {p q : Operand} {ac : Act} {Q : Exit → Act → World → Prop} {gd : Option (Nat × Bool)}
theorem Nb.alloc_a (h : Nb w0 bs x y none b c d e w) (hK : ∀ v w1, Nb w0 bs x y (some v) b c d e w1 → K (ac.put dst v) w1) : Oper.wp Try.prog ⟨dst, .alloc 22, ty, pos, after, none⟩ ac w K Q := by
  obtain ⟨h1, h2, h3, h4, h5, O⟩ := h
  obtain rfl := h1 rfl
  exact wp_alloc_own O (M.mat 4 M.zero) zero22 fun g w1 O1 => hK _ _ ⟨by simp, h2, isP_some g, h4, h5, O1⟩
theorem Nb.alloc_b (h : Nb w0 bs x y a none c d e w) (hK : ∀ v w1, Nb w0 bs x y a (some v) c d e w1 → K (ac.put dst v) w1) : Oper.wp Try.prog ⟨dst, .alloc 22, ty, pos, after, none⟩ ac w K Q := by
  obtain ⟨h1, h2, h3, h4, h5, O⟩ := h
  obtain rfl := h2 rfl
  exact wp_alloc_own O (M.mat 4 M.zero) zero22 fun g w1 O1 => hK _ _ ⟨h1, by simp, h3, isP_some g, h5, O1.perm List.perm_middle.symm⟩
theorem Nb.alloc_c (h : Nb w0 bs x y a b none d e w) (hK : ∀ v w1, Nb w0 bs x y a b (some v) d e w1 → K (ac.put dst v) w1) : Oper.wp Try.prog ⟨dst, .alloc 22, ty, pos, after, none⟩ ac w K Q := by
  obtain ⟨h1, h2, h3, h4, h5, O⟩ := h
  refine wp_alloc_own O (M.mat 4 M.zero) zero22 fun g w1 O1 => hK _ _ ⟨h1, h2, h3, h4, isP_some g, ?_⟩
  have O2 := O1.perm (l' := (wr a d x ++ wr b e y) ++ (g, 22, M.mat 4 M.zero) :: bs) (by
    rw [← List.append_assoc]
    exact List.perm_middle.symm)
  rw [List.append_assoc] at O2
  exact O2
theorem Nb.put_a (h : Nb w0 bs x y a b c none e w) (ha : a.isSome = true) (f : Nat → Int) (hx0 : x = M.mat 4 f) (hx : ac.eval p = a.getD undef) (hy : ac.eval q = arr 4 f) (hK : ∀ v w1, Nb w0 bs x y a b c (some v) e w1 → K (ac.put dst v) w1) : Oper.wp Try.prog ⟨dst, .store 22 p q, ty, pos, after, gd⟩ ac w K Q := by
  obtain ⟨h1, h2, h3, h4, h5, O⟩ := h
  obtain ⟨v, rfl⟩ := Option.isSome_iff_exists.1 ha
  obtain ⟨g, rfl⟩ := h3 v rfl
  subst hx0
  exact wp_put_own O 0 (M.mat 4 f) rfl hx hy (s22 _) (M.mat_len2 _ _ _) (M.mat_one _ _) fun w1 O1 => hK _ _ ⟨by simp, h2, h3, h4, h5, O1⟩
theorem Nb.put_b (h : Nb w0 bs x y a b c d none w) (hb : b.isSome = true) (f : Nat → Int) (hy0 : y = M.mat 4 f) (hx : ac.eval p = b.getD undef) (hy : ac.eval q = arr 4 f) (hK : ∀ v w1, Nb w0 bs x y a b c d (some v) w1 → K (ac.put dst v) w1) : Oper.wp Try.prog ⟨dst, .store 22 p q, ty, pos, after, gd⟩ ac w K Q := by
  obtain ⟨h1, h2, h3, h4, h5, O⟩ := h
  obtain ⟨v, rfl⟩ := Option.isSome_iff_exists.1 hb
  obtain ⟨g, rfl⟩ := h4 v rfl
  subst hy0
  have O2 : Own w0 w ((g, 22, M.mat 4 M.zero) :: (wr a d x ++ (wr c none [] ++ bs))) := O.perm List.perm_middle
  exact wp_put_own O2 0 (M.mat 4 f) rfl hx hy (s22 _) (M.mat_len2 _ _ _) (M.mat_one _ _) fun w1 O1 => hK _ _ ⟨h1, by simp, h3, h4, h5, Own.perm O1 List.perm_middle.symm⟩
theorem Nb.done (h : Nb w0 bs x y a b c d e w) (ha : a.isSome = true) (hb : b.isSome = true) (hc : c.isSome = true) (hd : d.isSome = true) (he : e.isSome = true) :
    ∃ g1 g2 g3, a = some (.pointer (some ⟨g1, 0, none⟩)) ∧ b = some (.pointer (some ⟨g2, 0, none⟩)) ∧ c = some (.pointer (some ⟨g3, 0, none⟩)) ∧ Own w0 w ((g1, 22, x) :: (g2, 22, y) :: (g3, 22, M.mat 4 M.zero) :: bs) := by
  obtain ⟨h1, h2, h3, h4, h5, O⟩ := h
  obtain ⟨v, rfl⟩ := Option.isSome_iff_exists.1 ha
  obtain ⟨v', rfl⟩ := Option.isSome_iff_exists.1 hb
  obtain ⟨v2, rfl⟩ := Option.isSome_iff_exists.1 hc
  obtain ⟨v3, rfl⟩ := Option.isSome_iff_exists.1 hd
  obtain ⟨v4, rfl⟩ := Option.isSome_iff_exists.1 he
  obtain ⟨g1, rfl⟩ := h3 v rfl
  obtain ⟨g2, rfl⟩ := h4 v' rfl
  obtain ⟨g3, rfl⟩ := h5 v2 rfl
  exact ⟨g1, g2, g3, rfl, rfl, rfl, O⟩
end
theorem min_if (x y : Int) : (if y < x then y else x) = min x y := by
  split <;> omega
theorem max_if (x y : Int) : (if x < y then y else x) = max x y := by
  split <;> omega
theorem way_begin {a b : Nat → Int} {d : Int} (hd : 1 ≤ d) : D.way a b 0 d = a := funext fun i => D.wt_0 hd
theorem way_end {a b : Nat → Int} {d : Int} (hd : 1 ≤ d) : D.way a b d d = b := funext fun i => D.wt_d hd
theorem way_back (a b : Nat → Int) (n d : Int) : D.way b a (d - n) d = D.way a b n d := funext fun i => D.wt_back _ _ _ _
theorem at_is {a b : Nat → Int} {n d : Int} (h : D.okAt a b n d = true) (h9 : d < 9223372036854775808) (v : Nat → Int) (hv : D.way a b n d = v) (w : World) :
    Calls Try.prog 17 #[arr 8 a, arr 8 b, .int .i64 n, .int .i64 d] w fun e w' => e = .returned (.tuple #[arr 8 v, .int .i64 0]) ∧ Below w.heap.size w w' := by
  have := at_any a b n d h9 w
  rw [D.at_yes h] at this
  subst hv
  exact this
end Go.Proofs.Ytbjbafhlmcnceaa
