/- Contract: Line of anything; what a filter has ahead of a place. -/
import Derived.Test.YtpfhaocmcfnhnaaWk
import Derived.Test.YtpfhaocmcfnhnaaWs
import Derived.Test.YtpfhaocmcfnhnaaWo
namespace Go.Proofs.Ytpfhaocmcfnhnaa
open Go.ChangeShapes Go.WideShapes Go.ChangeAt Go.RowKit
set_option linter.unusedVariables false
set_option linter.unusedSimpArgs false

namespace WD
/-- The line's fragments in r; the dash behind it. -/
def lin (a b : Nat → Int) (n : Int) (ds : Bool) (d r : Nat → Int) : List (Nat → Int) := if right a b n d then frs a b (tl a b) r n.toNat ds d (al n.toNat (tl a b) a b) else []
def nxt (a b : Nat → Int) (n : Int) (ds : Bool) (d : Nat → Int) : Nat → Int := if right a b n d && ds then HM.nextF d (cnt n.toNat (tl a b) a b) else d
theorem width_of {a b : Nat → Int} {n : Int} {d : Nat → Int} (h : right a b n d = true) : ((n.toNat : Nat) : Int) = n ∧ 1 ≤ n.toNat ∧ n.toNat ≤ 64 := by
  have := (right_iff.1 h).2.1
  omega
theorem al_len {n : Nat} {t : Bool} {a b : Nat → Int} (ha : VM.fit a = true) (hb : VM.fit b = true) (hn : 1 ≤ n ∧ n ≤ 64) : (al n t a b).length ≤ 4194320 := by
  have h5 := cnt_lim (ax := core n t a 0) (ay := core n t a 1) (bx := core n t b 0) (by_ := core n t b 1) (core_rg (t := t) ha hn) (core_rg (t := t) hb hn)
  unfold DM.cnt14 at h5
  unfold al
  rw [DM.steps_len]
  omega
theorem lin_len (a b : Nat → Int) (n : Int) (ds : Bool) (d r : Nat → Int) : (lin a b n ds d r).length ≤ 268436480 := by
  unfold lin
  split
  · rename_i h
    obtain ⟨e, h1, h2⟩ := width_of h
    obtain ⟨⟨ha, hb⟩, -⟩ := right_iff.1 h
    have h3 := frs_len a b (tl a b) r n.toNat ds d (al n.toNat (tl a b) a b)
    have h4 := al_len (t := tl a b) ha hb ⟨h1, h2⟩
    have h5 : (al n.toNat (tl a b) a b).length * n.toNat ≤ 4194320 * 64 := Nat.mul_le_mul h4 h2
    omega
  · exact Nat.zero_le _
theorem lin_has {a b : Nat → Int} {n : Int} {ds : Bool} {d r f : Nat → Int} (h : f ∈ lin a b n ds d r) : RC.has r (f 0) (f 1) = true := by
  unfold lin at h
  split at h
  · exact frs_has h
  · cases h
theorem lin_cut {x y : Nat → Int} (h : ∀ p q, RC.has y p q = true → RC.has x p q = true) (a b : Nat → Int) (n : Int) (ds : Bool) (d : Nat → Int) : lin a b n ds d y = (lin a b n ds d x).filter (fun f => RC.has y (f 0) (f 1)) := by
  unfold lin
  split
  · exact frs_cut h _
  · rfl
end WD
theorem wline_any (a b : Nat → Int) (n : Int) (ds : Bool) (d r : Nat → Int) (w : World) : Calls Try.prog 11 #[arr 7 a, arr 7 b, .int .i64 n, .bool ds, arr 3 d, arr 4 r] w (RetL w (WD.lin a b n ds d r) (WD.nxt a b n ds d)) := by
  cases h : WD.right a b n d
  · unfold WD.lin WD.nxt
    rw [h, if_neg (by decide), Bool.false_and, if_neg (by decide)]
    exact wline_bad a b n ds d r h w
  · obtain ⟨e, h1, h2⟩ := WD.width_of h
    obtain ⟨⟨ha, hb⟩, -⟩ := WD.right_iff.1 h
    unfold WD.lin WD.nxt
    rw [h, if_pos rfl, Bool.true_and, ← WD.frs_all ha hb ⟨h1, h2⟩ r ds d]
    generalize hN : n.toNat = N at *
    subst e
    cases ds
    · rw [if_neg (by decide)]
      exact wline_false a b N d r h w
    · rw [if_pos rfl]
      exact wline_true a b N d r h w
/-- How many of the first i are told. -/
def cntp {α : Type} (p : α → Bool) (l : List α) (i : Nat) : Nat := ((l.take i).filter p).length
theorem cntp_zero {α : Type} (p : α → Bool) (l : List α) : cntp p l 0 = 0 := by unfold cntp; simp
theorem cntp_no {α : Type} {p : α → Bool} {l : List α} {i : Nat} {x : α} (h : l[i]? = some x) (hp : p x = false) : cntp p l (i + 1) = cntp p l i := by
  unfold cntp
  rw [List.take_add_one, h, List.filter_append]
  simp [hp]
theorem cntp_yes {α : Type} {p : α → Bool} {l : List α} {i : Nat} {x : α} (h : l[i]? = some x) (hp : p x = true) : cntp p l (i + 1) = cntp p l i + 1 ∧ (l.filter p)[cntp p l i]? = some x := by
  obtain ⟨hi, rfl⟩ := List.getElem?_eq_some_iff.1 h
  constructor
  · unfold cntp
    rw [List.take_add_one, h, List.filter_append]
    simp [hp]
  · have e : l = l.take i ++ l[i] :: l.drop (i + 1) := by rw [List.getElem_cons_drop, List.take_append_drop]
    have e2 : l.filter p = (l.take i).filter p ++ l[i] :: (l.drop (i + 1)).filter p := by
      conv => lhs; rw [e]
      rw [List.filter_append, List.filter_cons_of_pos hp]
    unfold cntp
    rw [e2, List.getElem?_append_right (Nat.le_refl _), Nat.sub_self]
    rfl
theorem cntp_all {α : Type} (p : α → Bool) (l : List α) : cntp p l l.length = (l.filter p).length := by unfold cntp; rw [List.take_length]
theorem cntp_le {α : Type} (p : α → Bool) (l : List α) (i : Nat) : cntp p l i ≤ i := by
  unfold cntp
  have h1 := List.length_filter_le p (l.take i)
  rw [List.length_take] at h1
  omega
theorem add_fld (P : Addr) (k j : Nat) (hj : 0 < j) : (⟨(P.add k).block, (P.add k).off + j, none⟩ : Addr) = P.add (k + j) := by
  unfold Addr.add
  by_cases h : k = 0
  · subst h
    rw [if_pos rfl, if_neg (by omega), Nat.zero_add]
  · rw [if_neg h, if_neg (by omega)]
    simp only [Nat.add_assoc]
end Go.Proofs.Ytpfhaocmcfnhnaa
