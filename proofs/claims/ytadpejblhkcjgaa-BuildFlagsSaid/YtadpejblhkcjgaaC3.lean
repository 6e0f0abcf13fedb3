/- A row whose first numbers change places. -/
import Derived.Test.YtadpejblhkcjgaaC2
namespace Go.Proofs.Ytadpejblhkcjgaa
open Go.ChangeShapes Go.WideShapes Go.ChangeAt Go.RowKit
set_option linter.unusedVariables false
set_option linter.unusedSimpArgs false

/-- The row as a block of the call's own; and back. -/
theorem Held.open_ {w0 w : World} {bs : List (Nat × TypeId × List Value)} {R : RowD} {es : List Ent} (h : Held w0 w bs R es) (h0 : 0 < R.n) :
    ∃ g c cs, R.v = .slice (some ⟨g, 0, none⟩) R.n c ∧ R.n ≤ c ∧ cs.length = c * R.s ∧ cs.take (R.n * R.s) = R.xs ∧ Held w0 w ((g, R.e, cs) :: bs) nilRow es := by
  obtain ⟨h1, h2, h3, h4⟩ := h
  rcases h2.2 with ⟨hv, hn⟩ | ⟨g, cap, cur, hv, hb, hg, hnc, _, hcs, ht⟩
  · omega
  · have hob : R.v.ownBlock = some g := by rw [hv]; rfl
    refine ⟨g, cap, cur.toList, hv, hnc, by simpa using hcs, ht, ⟨h1.1, ?_, fun x hx => ?_⟩, World.ownsRow_nil _ _ _ _, by simp [nilRow, Value.ownBlock], fun x hx => (h4 x hx).turn (Nat.le_refl _) (fun _ _ _ => rfl) (fun b _ hn hm => ?_)⟩
    · simp only [List.map_cons, List.nodup_cons]
      refine ⟨fun hm => ?_, h1.2.1⟩
      obtain ⟨x, hx, he⟩ := List.mem_map.1 hm
      exact h3 x hx (by rw [hob, he])
    · rcases List.mem_cons.1 hx with rfl | hx
      · exact ⟨hb, hg⟩
      · exact h1.2.2 x hx
    · simp only [RowD.no, nilRow, Value.ownBlock, List.map_cons, List.mem_cons] at hm
      rcases hm with hm | rfl | hm
      · cases hm
      · exact hn (.inl hob)
      · exact hn (.inr hm)
theorem Held.shut {w0 w : World} {bs : List (Nat × TypeId × List Value)} {es : List Ent} (h : Held w0 w bs nilRow es) (k : Nat) {g : Nat} {e : TypeId} {cs : List Value} (hk : bs[k]? = some (g, e, cs)) {n c s : Nat} (hn : n ≤ c) (hl : cs.length = c * s) {xs : List Value} (hx : cs.take (n * s) = xs) :
    Lies w free ⟨w0.heap.size, some ⟨g, 0, none⟩, n, c, s, xs⟩ := by
  subst hx
  refine ⟨by rw [List.length_take, hl]; exact Nat.min_eq_left (Nat.mul_le_mul_right s hn), hn, fun _ => ⟨_, rfl, h.1.ge k hk, h.1.lt (Own.mem hk), id, fun j u hu => ?_⟩⟩
  rw [add_zero_off, Nat.zero_add]
  refine h.cell k hk ?_
  have h1 : (cs.take (n * s))[j]? = some u := hu
  rw [List.getElem?_take] at h1
  split at h1
  · exact h1
  · cases h1
section
variable {P : Program} {ops : Array Oper} {Q : Exit → Act → World → Prop} {a : Act} {w w0 : World} {rest : List Oper} {dst : Option Tmp} {ty : TypeId} {pos : String} {after : Array Edge} {K : Act → World → Prop}
/-- The address of an element, of one cell, of a slice that begins its block. -/
theorem wp_at_g {t e : TypeId} {x y : Operand} {gd : Option (Nat × Bool)} (hu : P.underlying t = some (.slice e)) (hs : ∀ w, (sizeOf e).run P w = .ok 1 w) {g n c : Nat} (hx : a.eval x = .slice (some ⟨g, 0, none⟩) n c)
    {kd : IntKind} {z : Int} (i : Nat) (hy : a.eval y = .int kd z) (hz : z = (i : Int)) (hi : i < n) (h : K (a.put dst (.pointer (some ⟨g, i, none⟩))) w) : Oper.wp P ⟨dst, .indexAddr t x y, ty, pos, after, gd⟩ a w K Q := by
  subst hz
  have hr : (Instr.indexAt t (.slice (some ⟨g, 0, none⟩) n c) (.int kd i)).run P w = .ok (.pointer (some ⟨g, i, none⟩)) w := by
    have h1 : (0 : Int) ≤ i ∧ (i : Int) < n := by omega
    unfold Instr.indexAt
    simp [asIntOf, Sem.run_bind, run_underlying hu, hs w, h1, show ¬ n ≤ i by omega, add_zero_off]
  unfold Oper.wp execOp
  simp only [hx, hy, Sem.run_bind, hr, Result.andThen_ok]
  exact h
end
/-- Two numbers of a row change places. -/
def SwS (w0 : World) (bs : List (Nat × TypeId × List Value)) (es : List Ent) (g : Nat) (cs : List Value) (l0 l1 : Value) (a b c d : Option Value) (w : World) : Prop :=
  (∀ v, a = some v → v = l1) ∧ (∀ v, b = some v → v = l0) ∧ (c.isSome = true → a.isSome = true ∧ b.isSome = true) ∧ (d.isSome = true → c.isSome = true) ∧
  Held w0 w ((g, 3, if d.isSome then (cs.set 0 l1).set 1 l0 else if c.isSome then cs.set 0 l1 else cs) :: bs) nilRow es
section
variable {w0 w : World} {bs : List (Nat × TypeId × List Value)} {es : List Ent} {g : Nat} {cs : List Value} {l0 l1 : Value} {a b c d : Option Value}
theorem SwS.start (O : Held w0 w ((g, 3, cs) :: bs) nilRow es) : SwS w0 bs es g cs l0 l1 none none none none w := ⟨by simp, by simp, by simp, by simp, O⟩
theorem SwS.early (h : SwS w0 bs es g cs l0 l1 none b c d w ∨ SwS w0 bs es g cs l0 l1 a none c d w) : c = none ∧ d = none ∧ Held w0 w ((g, 3, cs) :: bs) nilRow es := by
  rcases h with h | h
  all_goals
    obtain ⟨h1, h2, h3, h4, h5⟩ := h
    have hc : c = none := by
      cases c with
      | none => rfl
      | some v => have := h3 rfl; simp at this
    subst hc
    have hd : d = none := by
      cases d with
      | none => rfl
      | some v => have := h4 rfl; simp at this
    subst hd
    exact ⟨rfl, rfl, h5⟩
variable {dst : Option Tmp} {ty : TypeId} {pos : String} {after : Array Edge} {K : Act → World → Prop} {x y : Operand} {ac : Act} {Q : Exit → Act → World → Prop} {gd : Option (Nat × Bool)}
theorem SwS.load1 (h : SwS w0 bs es g cs l0 l1 none b c d w) (hc1 : cs[1]? = some l1) (h1 : l1.oneCell' = true) (hx : ac.eval x = .pointer (some ⟨g, 1, none⟩))
    (hK : SwS w0 bs es g cs l0 l1 (some l1) b c d w → K (ac.put dst l1) w) : Oper.wp Try.prog ⟨dst, .load 3 x, ty, pos, after, gd⟩ ac w K Q := by
  obtain ⟨rfl, rfl, O⟩ := SwS.early (a := none) (.inl h)
  exact wp_cell_h O 0 rfl hc1 hx agg3 h1 (hK ⟨fun v e => (Option.some.inj e).symm, h.2.1, by simp, by simp, O⟩)
theorem SwS.load0 (h : SwS w0 bs es g cs l0 l1 a none c d w) (hc0 : cs[0]? = some l0) (h1 : l0.oneCell' = true) (hx : ac.eval x = .pointer (some ⟨g, 0, none⟩))
    (hK : SwS w0 bs es g cs l0 l1 a (some l0) c d w → K (ac.put dst l0) w) : Oper.wp Try.prog ⟨dst, .load 3 x, ty, pos, after, gd⟩ ac w K Q := by
  obtain ⟨rfl, rfl, O⟩ := SwS.early (b := none) (.inr h)
  exact wp_cell_h O 0 rfl hc0 hx agg3 h1 (hK ⟨h.1, fun v e => (Option.some.inj e).symm, by simp, by simp, O⟩)
theorem SwS.put0 (h : SwS w0 bs es g cs l0 l1 a b none d w) (ha : a.isSome = true) (hb : b.isSome = true) (hl : 2 ≤ cs.length) (h1 : l1.oneCell' = true) (hcs : l1.cells = #[l1]) (hx : ac.eval x = .pointer (some ⟨g, 0, none⟩)) (hy : ac.eval y = a.getD undef)
    (hK : ∀ w1, SwS w0 bs es g cs l0 l1 a b (some undef) d w1 → K (ac.put dst undef) w1) : Oper.wp Try.prog ⟨dst, .store 3 x y, ty, pos, after, gd⟩ ac w K Q := by
  obtain ⟨h2, h3, h4, h5, O⟩ := h
  have hd : d = none := by
    cases d with
    | none => rfl
    | some v => have := h5 rfl; simp at this
  subst hd
  obtain ⟨v, rfl⟩ := Option.isSome_iff_exists.1 ha
  obtain rfl := h2 v rfl
  exact wp_set_h O 0 v rfl (by simpa using (by omega : 0 < cs.length)) hx hy size3 h1 hcs fun w1 O1 => hK w1 ⟨h2, h3, fun _ => ⟨rfl, hb⟩, by simp, O1⟩
theorem SwS.put1 (h : SwS w0 bs es g cs l0 l1 a b c none w) (hc : c.isSome = true) (hb : b.isSome = true) (hl : 2 ≤ cs.length) (h1 : l0.oneCell' = true) (hcs : l0.cells = #[l0]) (hx : ac.eval x = .pointer (some ⟨g, 1, none⟩)) (hy : ac.eval y = b.getD undef)
    (hK : ∀ w1, SwS w0 bs es g cs l0 l1 a b c (some undef) w1 → K (ac.put dst undef) w1) : Oper.wp Try.prog ⟨dst, .store 3 x y, ty, pos, after, gd⟩ ac w K Q := by
  obtain ⟨h2, h3, h4, h5, O⟩ := h
  obtain ⟨v, rfl⟩ := Option.isSome_iff_exists.1 hb
  obtain rfl := h3 v rfl
  obtain ⟨u, rfl⟩ := Option.isSome_iff_exists.1 hc
  exact wp_set_h O 0 v rfl (by simpa using (by omega : 1 < cs.length)) hx hy size3 h1 hcs fun w1 O1 => hK w1 ⟨h2, h3, h4, fun _ => rfl, O1⟩
theorem SwS.done (h : SwS w0 bs es g cs l0 l1 a b c d w) (hd : d.isSome = true) : Held w0 w ((g, 3, (cs.set 0 l1).set 1 l0) :: bs) nilRow es := by
  have := h.2.2.2.2
  rwa [if_pos hd] at this
end
/-- Two first numbers change places. -/
theorem ints_swap {l : List Nat} {cs : List Value} {x y : Nat} {m : Nat} (h0 : l[0]? = some x) (h1 : l[1]? = some y) (hc : cs.take m = ints l) : ((cs.set 0 (.int .i64 y)).set 1 (.int .i64 x)).take m = ints (P.swap l) := by
  rw [List.take_set, List.take_set, hc]
  unfold P.swap
  rw [List.getD_eq_getElem?_getD, List.getD_eq_getElem?_getD, h0, h1]
  simp [ints]
theorem range_snoc (k : Nat) : ints (List.range k) ++ [.int .i64 k] = ints (List.range (k + 1)) := by
  rw [List.range_succ]
  simp [ints]
def cE (lo : Nat) (A : Option Addr) (c : Nat) (l : List (Nat × Nat)) : Ent := ⟨lo, A, l.length, c, 2, cc l⟩
theorem pm2 (k : Nat) : Int.tmod (k : Int) 2 = ((k % 2 : Nat) : Int) := rfl
end Go.Proofs.Ytadpejblhkcjgaa
