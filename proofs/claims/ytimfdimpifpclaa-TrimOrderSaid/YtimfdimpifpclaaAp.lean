/- A side, twice, appended to a row. -/
import Derived.Test.YtimfdimpifpclaaL7
namespace Go.Proofs.Ytimfdimpifpclaa
open Go.ChangeShapes Go.WideShapes Go.ChangeAt Go.RowKit
set_option linter.unusedVariables false
set_option linter.unusedSimpArgs false

/-- A row of sides. -/
def sR (A : Option Addr) (c : Nat) (l : List (Nat → Int)) : RowD := ⟨.slice A l.length c, 24, 5, l.length, ss l⟩
/-- How far a region has come that makes a slice of a side, twice, and appends it to a row. -/
def ApS (w0 : World) (bs : List (Nat × TypeId × List Value)) (MA : Option Addr) (Mc : Nat) (L : List (Nat → Int)) (x : Nat → Int) (es : List Ent) (a b : Option Value) (w : World) : Prop :=
  (a = none ∧ b = none ∧ Held w0 w bs (sR MA Mc L) es) ∨
  (∃ g, a = some (.slice (some ⟨g, 0, none⟩) 2 2) ∧ b = none ∧ Held w0 w bs (sR MA Mc L) (sE w0.heap.size (some ⟨g, 0, none⟩) 2 [x, x] :: es)) ∨
  (∃ v A c, a = some v ∧ b = some (.slice A (L ++ [x, x]).length c) ∧ Held w0 w bs (sR A c (L ++ [x, x])) es)
section
variable {w0 w : World} {bs : List (Nat × TypeId × List Value)} {MA : Option Addr} {Mc : Nat} {L : List (Nat → Int)} {x : Nat → Int} {es : List Ent} {a b : Option Value}
theorem ApS.held (h : ApS w0 bs MA Mc L x es a b w) : ∃ R, Held w0 w bs R es := by
  rcases h with ⟨_, _, h⟩ | ⟨g, _, _, h⟩ | ⟨v, A, c, _, _, h⟩
  · exact ⟨_, h⟩
  · exact ⟨_, h.pick (fun x hx => List.mem_cons_of_mem _ hx)⟩
  · exact ⟨_, h⟩
variable {dst : Option Tmp} {ty : TypeId} {pos : String} {after : Array Edge} {K : Act → World → Prop} {p q : Operand} {ac : Act} {Q : Exit → Act → World → Prop} {gd : Option (Nat × Bool)}
theorem ApS.lit (h : ApS w0 bs MA Mc L x es none b w) (hp : ac.eval p = arr 5 x) (hq : ac.eval q = arr 5 x) (hK : ∀ v w1, ApS w0 bs MA Mc L x es (some v) b w1 → K (ac.put dst v) w1) : Oper.wp Try.prog ⟨dst, .buildSlice 29 2 #[(0, p), (1, q)], ty, pos, after, gd⟩ ac w K Q := by
  rcases h with ⟨_, h2, O⟩ | ⟨g, h1, _, _⟩ | ⟨v, A, c, h1, _, _⟩
  · exact wp_lit_h O 5 (.agg (M.mat 5 M.zero).toArray) info24 Try.underlying29 ([(0, .agg (M.mat 5 x).toArray), (1, .agg (M.mat 5 x).toArray)]) (ss [x, x]) (by simp only [List.map_cons, List.map_nil, hp, hq]) (ss_len _) (by decide) (by decide) (by kernel_rfl)
      fun g w3 O3 => hK _ w3 (.inr (.inl ⟨g, rfl, h2, O3⟩))
  · cases h1
  · cases h1
theorem ApS.app (h : ApS w0 bs MA Mc L x es a none w) (ha : a.isSome = true) (hp : ac.eval p = .slice MA L.length Mc) (hq : ac.eval q = a.getD undef) (hl : L.length ≤ 100) (hK : ∀ v w1, ApS w0 bs MA Mc L x es a (some v) w1 → K (ac.put dst v) w1) :
    Oper.wp Try.prog ⟨dst, .call { callee := .builtin .append, args := #[p, q], argTypes := #[29, 29] }, ty, pos, after, gd⟩ ac w K Q := by
  rcases h with ⟨h1, h2, O⟩ | ⟨g, rfl, _, O⟩ | ⟨v, A, c, _, h1, _⟩
  · subst h1; cases ha
  · refine wp_app_h O (.agg (M.mat 5 M.zero).toArray) 40 info24b rfl (Nat.succ_pos _) Try.underlying29 hp (sE w0.heap.size (some ⟨g, 0, none⟩) 2 [x, x]) (O.mem List.mem_cons_self) rfl (c := 2) hq (ss_one _) (by dsimp only [sE, sR, List.length_cons, List.length_nil]; omega) (by decide) fun v w3 O3 => ?_
    obtain ⟨A, c, hv⟩ := O3.row_val
    dsimp only at hv
    subst hv
    have e : L.length + 2 = (L ++ [x, x]).length := by simp
    refine hK _ w3 (.inr (.inr ⟨_, A, c, rfl, ?_, ?_⟩))
    · rw [← e]; rfl
    · have := O3.pick (es' := es) (fun y hy => List.mem_cons_of_mem _ hy)
      unfold sR at this ⊢
      dsimp only [sE] at this
      rw [ss_app, ← e]
      exact this
  · cases h1
theorem ApS.done (h : ApS w0 bs MA Mc L x es a b w) (ha : a.isSome = true) (hb : b.isSome = true) : ∃ v A c, a = some v ∧ b = some (.slice A (L ++ [x, x]).length c) ∧ Held w0 w bs (sR A c (L ++ [x, x])) es := by
  rcases h with ⟨h1, h2, O⟩ | ⟨g, _, h1, O⟩ | h
  · subst h1; cases ha
  · subst h1; cases hb
  · exact h
end
end Go.Proofs.Ytimfdimpifpclaa
