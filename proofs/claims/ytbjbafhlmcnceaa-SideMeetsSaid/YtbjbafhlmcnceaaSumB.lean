/- Contracts of the document's Sum, whatever the signs, and of Order. -/
import Derived.Test.YtbjbafhlmcnceaaSum
namespace Go.Proofs.Ytbjbafhlmcnceaa
open Go.ChangeShapes Go.WideShapes Go.ChangeAt Go.RowKit
set_option linter.unusedVariables false

theorem sum_any (am bm : Bool) (A B : Option Addr) (c d : Nat) (a b : List Nat) (w : World) (ha : Reads w w.heap.size 1 A a.length (cells a)) (hb : Reads w w.heap.size 1 B b.length (cells b))
    (xa : L.Bits a) (xb : L.Bits b) (na : a.length ≤ 900) (nb : b.length ≤ 900) :
    Calls Try.prog 28 #[.agg #[.bool am, .slice A a.length c], .agg #[.bool bm, .slice B b.length d]] w (RetNum w (M.sg am (L.nat a) + M.sg bm (L.nat b))) := by
  have K0 : Below w.heap.size w (((w.alloc (.cells #[.bool am, .slice A a.length c] 50)).alloc (.cells #[.bool bm, .slice B b.length d] 50)).alloc (.cells #[.bool false, .slice none 0 0] 50)) := ((((Below.refl _ w).alloc (Nat.le_refl _) _).alloc (by simp) _).alloc (by simp; omega) _)
  have ha0 := ha.up K0
  have hb0 := hb.up K0
  by_cases hm : (am == bm) = true
  · have e : am = bm := by simpa using hm
    subst e
    refine sum_same am am A B c d a b w _ hm ?_
    refine (more_any A B c d a b _ ha0.drew hb0.drew xa xb na nb).mono fun e w' h => sln_of h fun l hl => ⟨hl.1, by have := hl.2.2; omega, ?_⟩
    rw [hl.2.1]
    cases am <;> simp only [M.sg, Int.natCast_add, if_true, if_false, Bool.false_eq_true] <;> omega
  · have hm := Bool.eq_false_iff.2 hm
    have cO := above_any A B c d a b _ ha0 hb0 xa xb na nb
    rw [L.sgn_of] at cO
    by_cases g : L.nat a < L.nat b
    · rw [if_pos g] at cO
      refine sum_lt am bm A B c d a b w _ _ hm (by omega) cO fun w2 h2 => ?_
      refine (less_any B A d c b a _ (hb0.up h2).drew (ha0.up h2).drew xb xa nb na (by omega)).mono fun e w' h => sln_of h fun l hl => ⟨hl.1, by have := hl.2.2; omega, ?_⟩
      rw [hl.2.1, Int.ofNat_sub (by omega)]
      cases am <;> cases bm <;> simp_all only [M.sg, if_true, if_false, Bool.false_eq_true] <;> first | omega | (exfalso; exact absurd hm (by decide))
    · have hg : 0 ≤ (if L.nat a < L.nat b then (-1 : Int) else if L.nat b < L.nat a then 1 else 0) := by rw [if_neg g]; split <;> omega
      refine sum_ge am bm A B c d a b w _ _ hm hg cO fun w2 h2 => ?_
      refine (less_any A B c d a b _ (ha0.up h2).drew (hb0.up h2).drew xa xb na nb (by omega)).mono fun e w' h => sln_of h fun l hl => ⟨hl.1, by have := hl.2.2; omega, ?_⟩
      rw [hl.2.1, Int.ofNat_sub (by omega)]
      cases am <;> cases bm <;> simp_all only [M.sg, if_true, if_false, Bool.false_eq_true] <;> first | omega | (exfalso; exact absurd hm (by decide))
/-- What a number that was handed back says. -/
theorem sg_dec {z : Int} {l : List Nat} (h : L.nat l = z.natAbs) : M.sg (decide (z < 0)) (L.nat l) = z := by
  unfold M.sg
  by_cases g : z < 0
  · rw [decide_eq_true g, if_pos rfl]; omega
  · rw [decide_eq_false g]; simp; omega
theorem keep4a {x : World} {b : Nat} {v u v' u' : Value} {o : Obj} (h : x.cell? ⟨b, 0, none⟩ = some v ∧ x.cell? ⟨b, 1, none⟩ = some u ∧ x.cell? ⟨b + 1, 0, none⟩ = some v' ∧ x.cell? ⟨b + 1, 1, none⟩ = some u' ∧ b + 1 < x.heap.size) : (x.alloc o).cell? ⟨b, 0, none⟩ = some v ∧ (x.alloc o).cell? ⟨b, 1, none⟩ = some u ∧ (x.alloc o).cell? ⟨b + 1, 0, none⟩ = some v' ∧ (x.alloc o).cell? ⟨b + 1, 1, none⟩ = some u' ∧ b + 1 < (x.alloc o).heap.size :=
  ⟨(World.cell?_alloc_lt x o ⟨b, 0, none⟩ (by have := h.2.2.2.2; dsimp only; omega)).trans h.1, (World.cell?_alloc_lt x o ⟨b, 1, none⟩ (by have := h.2.2.2.2; dsimp only; omega)).trans h.2.1, (World.cell?_alloc_lt x o ⟨b + 1, 0, none⟩ h.2.2.2.2).trans h.2.2.1, (World.cell?_alloc_lt x o ⟨b + 1, 1, none⟩ h.2.2.2.2).trans h.2.2.2.1, by have := h.2.2.2.2; simp; omega⟩
theorem keep4b {x : World} {b : Nat} {v u v' u' : Value} {o o' : Obj} (hz : b + 1 < x.heap.size) (h : (x.alloc o).cell? ⟨b, 0, none⟩ = some v ∧ (x.alloc o).cell? ⟨b, 1, none⟩ = some u ∧ (x.alloc o).cell? ⟨b + 1, 0, none⟩ = some v' ∧ (x.alloc o).cell? ⟨b + 1, 1, none⟩ = some u' ∧ b + 1 < (x.alloc o).heap.size) : (x.alloc o').cell? ⟨b, 0, none⟩ = some v ∧ (x.alloc o').cell? ⟨b, 1, none⟩ = some u ∧ (x.alloc o').cell? ⟨b + 1, 0, none⟩ = some v' ∧ (x.alloc o').cell? ⟨b + 1, 1, none⟩ = some u' ∧ b + 1 < (x.alloc o').heap.size :=
  keep4a ⟨(World.cell?_alloc_lt x o ⟨b, 0, none⟩ (by dsimp only; omega)).symm.trans h.1, (World.cell?_alloc_lt x o ⟨b, 1, none⟩ (by dsimp only; omega)).symm.trans h.2.1, (World.cell?_alloc_lt x o ⟨b + 1, 0, none⟩ hz).symm.trans h.2.2.1, (World.cell?_alloc_lt x o ⟨b + 1, 1, none⟩ hz).symm.trans h.2.2.2.1, hz⟩
theorem Reads.upA {w : World} {A : Option Addr} {n : Nat} {xs : List Value} (h : Reads w w.heap.size 1 A n xs) (o : Obj) : Reads (w.alloc o) (w.alloc o).heap.size 1 A n xs := h.up ((Below.refl _ w).alloc (Nat.le_refl _) o)
/-- A variable that holds a number. -/
def NumAt (w0 wx : World) (g : Nat) (z : Int) : Prop := ∃ A c l, wx.cell? ⟨g, 0, none⟩ = some (.bool (decide (z < 0))) ∧ wx.cell? ⟨g, 1, none⟩ = some (.slice A l.length c) ∧ L.Can l ∧ L.nat l = z.natAbs ∧ g < wx.heap.size ∧ Below w0.heap.size w0 wx
theorem new2w {w x : World} {v u : Value} {t : TypeId} (K : Below w.heap.size w x) :
    (x.alloc (.cells #[v, u] t)).cell? ⟨x.heap.size, 0, none⟩ = some v ∧ (x.alloc (.cells #[v, u] t)).cell? ⟨x.heap.size, 1, none⟩ = some u ∧ x.heap.size < (x.alloc (.cells #[v, u] t)).heap.size ∧ Below w.heap.size w (x.alloc (.cells #[v, u] t)) :=
  ⟨by simp [World.cell?_alloc_new], by simp [World.cell?_alloc_new], by simp, K.alloc K.size _⟩
theorem set2w {W y : World} {g : Nat} {a b v u : Value} (K : Below W.heap.size W y) (hg : W.heap.size ≤ g) (h0 : y.cell? ⟨g, 0, none⟩ = some a) (h1 : y.cell? ⟨g, 1, none⟩ = some b) (hz : g < y.heap.size) :
    ((y.setCell ⟨g, 0, none⟩ v).setCell ⟨g, 1, none⟩ u).cell? ⟨g, 0, none⟩ = some v ∧ ((y.setCell ⟨g, 0, none⟩ v).setCell ⟨g, 1, none⟩ u).cell? ⟨g, 1, none⟩ = some u ∧ g < ((y.setCell ⟨g, 0, none⟩ v).setCell ⟨g, 1, none⟩ u).heap.size ∧
      Below W.heap.size W ((y.setCell ⟨g, 0, none⟩ v).setCell ⟨g, 1, none⟩ u) := by
  have n01 : (⟨g, 0, none⟩ : Addr) ≠ ⟨g, 1, none⟩ := by simp
  have e1 : (y.setCell ⟨g, 0, none⟩ v).cell? ⟨g, 1, none⟩ = some b := (World.cell?_setCell_other y _ _ v n01).trans h1
  refine ⟨?_, ?_, by simp [World.setCell]; omega, (K.setCell (by dsimp only; omega) _).setCell (by dsimp only; omega) _⟩
  · rw [World.cell?_setCell_other _ _ _ u n01.symm]
    exact World.cell?_setCell_same y _ v h0
  · exact World.cell?_setCell_same _ _ u e1
end Go.Proofs.Ytbjbafhlmcnceaa
