/- Contract: Line of anything; what a filter has ahead of a place. -/
import Derived.Test.YtpfhaocmcfnhnaaGreatWk
import Derived.Test.YtpfhaocmcfnhnaaGreatWs
import Derived.Test.YtpfhaocmcfnhnaaGreatWo
namespace Go.Proofs.YtpfhaocmcfnhnaaGreat
open Go.ChangeShapes Go.WideShapes Go.ChangeAt Go.RowKit
set_option linter.unusedVariables false
set_option linter.unusedSimpArgs false

namespace WD
/-- The line's fragments in r; the dash behind it. -/
def lin (a b : Nat → Int) (n : Int) (ds : Bool) (d r : Nat → Int) : List (Nat → Int) := if right a b n d then frs a b (tl a b) r n.toNat ds d (al n.toNat (tl a b) a b) else []
def nxt (a b : Nat → Int) (n : Int) (ds : Bool) (d : Nat → Int) : Nat → Int := if right a b n d && ds then HM.nextF d (cnt n.toNat (tl a b) a b) else d
theorem width_of {a b : Nat → Int} {n : Int} {d : Nat → Int} (h : right a b n d = true) : ((n.toNat : Nat) : Int) = n ∧ 1 ≤ n.toNat ∧ n.toNat ≤ 64 := by
 have := (right_iff.1 h).2.1
 omega
theorem al_len {n : Nat} {t : Bool} {a b : Nat → Int} (ha : VM.fit a = true) (hb : VM.fit b = true) (hn : 1 ≤ n ∧ n ≤ 64) : (al n t a b).length ≤ 4194320 := by
 have h5 := cnt_lim (ax := core n t a 0) (ay := core n t a 1) (bx := core n t b 0) (by_ := core n t b 1) (core_rg (t := t) ha hn) (core_rg (t := t) hb hn)
 unfold DM.cnt14 at h5
 unfold al
 rw [DM.steps_len]
 omega
theorem lin_len (a b : Nat → Int) (n : Int) (ds : Bool) (d r : Nat → Int) : (lin a b n ds d r).length ≤ 268436480 := by
 unfold lin
 split
 ·
  rename_i h
  obtain ⟨e, h1, h2⟩ := width_of h
  obtain ⟨⟨ha, hb⟩, -⟩ := right_iff.1 h
  have h3 := frs_len a b (tl a b) r n.toNat ds d (al n.toNat (tl a b) a b)
  have h4 := al_len (t := tl a b) ha hb ⟨h1, h2⟩
  have h5 : (al n.toNat (tl a b) a b).length * n.toNat ≤ 4194320 * 64 := Nat.mul_le_mul h4 h2
  omega
 · exact Nat.zero_le _
end WD
theorem wline_any (a b : Nat → Int) (n : Int) (ds : Bool) (d r : Nat → Int) (w : World) : Calls Tryz.prog 6 #[arr 7 a, arr 7 b, .int .i64 n, .bool ds, arr 3 d, arr 4 r] w (RetL w (WD.lin a b n ds d r) (WD.nxt a b n ds d)) := by
 cases h : WD.right a b n d
 ·
  unfold WD.lin WD.nxt
  rw [h, if_neg (by decide), Bool.false_and, if_neg (by decide)]
  exact wline_bad a b n ds d r h w
 ·
  obtain ⟨e, h1, h2⟩ := WD.width_of h
  obtain ⟨⟨ha, hb⟩, -⟩ := WD.right_iff.1 h
  unfold WD.lin WD.nxt
  rw [h, if_pos rfl, Bool.true_and, ← WD.frs_all ha hb ⟨h1, h2⟩ r ds d]
  generalize hN : n.toNat = N at *
  subst e
  cases ds
  ·
   rw [if_neg (by decide)]
   exact wline_false a b N d r h w
  ·
   rw [if_pos rfl]
   exact wline_true a b N d r h w
theorem add_fld (P : Addr) (k j : Nat) (hj : 0 < j) : (⟨(P.add k).block, (P.add k).off + j, none⟩ : Addr) = P.add (k + j) := by
 unfold Addr.add
 by_cases h : k = 0
 ·
  subst h
  rw [if_pos rfl, if_neg (by omega), Nat.zero_add]
 ·
  rw [if_neg h, if_neg (by omega)]
  simp only [Nat.add_assoc]
end Go.Proofs.YtpfhaocmcfnhnaaGreat
