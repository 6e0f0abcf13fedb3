/- Plain: what a line of any width has. -/
import Derived.Test.YtpfhaocmcfnhnaaGreatWp
import Derived.Test.YtpfhaocmcfnhnaaGreatYz
namespace Go.Proofs.YtpfhaocmcfnhnaaGreat
open Go.ChangeShapes Go.WideShapes Go.ChangeAt Go.RowKit
set_option linter.unusedVariables false
set_option linter.unusedSimpArgs false

namespace WD
/-- What stands along the line at a pixel of the core. -/
def zz (a b : Nat → Int) (X Y : Int) : Int := VM.mid (a 2) (b 2) (VM.nA (a 0) (a 1) (b 0) (b 1) X Y) (VM.dA (a 0) (a 1) (b 0) (b 1))
def cc (a b : Nat → Int) (X Y : Int) : Nat → Int := VM.col a b (VM.nA (a 0) (a 1) (b 0) (b 1) X Y) (VM.dA (a 0) (a 1) (b 0) (b 1))
def px (t : Bool) (s : Int × Int × Int) (i : Nat) : Int := s.2.1 + i * bx t
def py (t : Bool) (s : Int × Int × Int) (i : Nat) : Int := s.2.2 + i * by_ t
/-- The fragment i of the core's pixel s. -/
def fg (a b : Nat → Int) (t : Bool) (s : Int × Int × Int) (i : Nat) : Nat → Int := fr (px t s i) (py t s i) (zz a b s.2.1 s.2.2) (cc a b s.2.1 s.2.2)
def one (a b : Nat → Int) (t : Bool) (r : Nat → Int) (s : Int × Int × Int) (i : Nat) : List (Nat → Int) := if RC.has r (px t s i) (py t s i) then [fg a b t s i] else []
/-- The fragments of the core's pixel s. -/
def sp (a b : Nat → Int) (t : Bool) (r : Nat → Int) (s : Int × Int × Int) (n : Nat) : List (Nat → Int) := (List.range n).flatMap (one a b t r s)
theorem sp_zero (a b : Nat → Int) (t : Bool) (r : Nat → Int) (s : Int × Int × Int) : sp a b t r s 0 = [] := rfl
theorem sp_succ (a b : Nat → Int) (t : Bool) (r : Nat → Int) (s : Int × Int × Int) (n : Nat) : sp a b t r s (n + 1) = sp a b t r s n ++ one a b t r s n := by
 unfold sp
 rw [List.range_succ, List.flatMap_append]
 simp
theorem sp_yes {a b : Nat → Int} {t : Bool} {r : Nat → Int} {s : Int × Int × Int} {n : Nat} (h : RC.has r (px t s n) (py t s n) = true) : sp a b t r s (n + 1) = sp a b t r s n ++ [fg a b t s n] := by rw [sp_succ, one, if_pos h]
theorem sp_no {a b : Nat → Int} {t : Bool} {r : Nat → Int} {s : Int × Int × Int} {n : Nat} (h : RC.has r (px t s n) (py t s n) = false) : sp a b t r s (n + 1) = sp a b t r s n := by rw [sp_succ, one, if_neg (by rw [h]; decide), List.append_nil]
theorem one_len (a b : Nat → Int) (t : Bool) (r : Nat → Int) (s : Int × Int × Int) (i : Nat) : (one a b t r s i).length ≤ 1 := by unfold one; split <;> simp
theorem sp_len (a b : Nat → Int) (t : Bool) (r : Nat → Int) (s : Int × Int × Int) : ∀ n, (sp a b t r s n).length ≤ n
 | 0 => by rw [sp_zero]; exact Nat.le_refl _
 | n + 1 => by
  have := sp_len a b t r s n
  have := one_len a b t r s n
  rw [sp_succ, List.length_append]
  omega
/-- Is the core's pixel k lit? -/
def lits (dashed : Bool) (d : Nat → Int) (k : Int) : Bool := !dashed || HM.litF d k
def stp (a b : Nat → Int) (t : Bool) (r : Nat → Int) (n : Nat) (dashed : Bool) (d : Nat → Int) (s : Int × Int × Int) : List (Nat → Int) := if lits dashed d s.1 then sp a b t r s n else []
theorem stp_len (a b : Nat → Int) (t : Bool) (r : Nat → Int) (n : Nat) (dashed : Bool) (d : Nat → Int) (s : Int × Int × Int) : (stp a b t r n dashed d s).length ≤ n := by
 unfold stp
 split
 · exact sp_len a b t r s n
 · exact Nat.zero_le _
/-- The core's pixels that have fragments in r, or nearly. -/
def steps (n : Nat) (t : Bool) (a b r : Nat → Int) : List (Int × Int × Int) := if RC.right (rch n t r) then DM.wth (core n t a 0) (core n t a 1) (core n t b 0) (core n t b 1) (rch n t r) else []
def frs (a b : Nat → Int) (t : Bool) (r : Nat → Int) (n : Nat) (dashed : Bool) (d : Nat → Int) (xs : List (Int × Int × Int)) : List (Nat → Int) := xs.flatMap (stp a b t r n dashed d)
theorem frs_len (a b : Nat → Int) (t : Bool) (r : Nat → Int) (n : Nat) (dashed : Bool) (d : Nat → Int) : ∀ xs, (frs a b t r n dashed d xs).length ≤ xs.length * n
 | [] => by simp [frs]
 | s :: xs => by
  have h1 := frs_len a b t r n dashed d xs
  have h2 := stp_len a b t r n dashed d s
  unfold frs at h1 ⊢
  rw [List.flatMap_cons, List.length_append, List.length_cons, Nat.add_mul]
  omega
theorem frs_take {a b : Nat → Int} {t : Bool} {r : Nat → Int} {n : Nat} {dashed : Bool} {d : Nat → Int} {xs : List (Int × Int × Int)} {j : Nat} {s : Int × Int × Int} (h : xs[j]? = some s) : frs a b t r n dashed d (xs.take (j + 1)) = frs a b t r n dashed d (xs.take j) ++ stp a b t r n dashed d s := by
 unfold frs
 rw [List.take_add_one, h, List.flatMap_append]
 simp
/-- How many pixels the core has. -/
def cnt (n : Nat) (t : Bool) (a b : Nat → Int) : Int := DM.cnt14 (core n t a 0) (core n t a 1) (core n t b 0) (core n t b 1)
/-- The line's fragments in r; the dash behind it. -/
def line (a b : Nat → Int) (n : Nat) (dashed : Bool) (d r : Nat → Int) : List (Nat → Int) := if right a b n d then frs a b (tl a b) r n dashed d (steps n (tl a b) a b r) else []
theorem core_rg {n : Nat} {t : Bool} {a : Nat → Int} (ha : VM.fit a = true) (hn : 1 ≤ n ∧ n ≤ 64) : DM.Rg (core n t a) := by
 obtain ⟨l0, l1, -, -⟩ := VM.fit_lim ha
 unfold DM.Rg core
 rcases bx_is t with ⟨h1, h2⟩ | ⟨h1, h2⟩ <;> rw [h1, h2] <;> simp only [DM.t2] <;> simp <;> omega
theorem cnt_lim {ax ay bx by_ : Int} (ha : DM.Rg (DM.t2 ax ay)) (hb : DM.Rg (DM.t2 bx by_)) : 0 ≤ DM.cnt14 ax ay bx by_ ∧ DM.cnt14 ax ay bx by_ ≤ 4194320 := by
 unfold DM.Rg at ha hb
 simp only [DM.t2] at ha hb
 simp only [if_true, Nat.one_ne_zero, if_false] at ha hb
 by_cases hs : ax = bx ∧ ay = by_
 ·
  obtain ⟨rfl, rfl⟩ := hs
  rw [DM.cnt14_same]
  omega
 ·
  have hm : ∀ t, (-536870912 ≤ DM.mn t ax ay ∧ DM.mn t ax ay ≤ 536870912) ∧ (-536870912 ≤ DM.mn t bx by_ ∧ DM.mn t bx by_ ≤ 536870912) := fun t => by
   cases t <;> simp only [DM.mn] <;> simp <;> omega
  have h := DM.lin_is hs rfl rfl rfl rfl rfl (hm _).1 (hm _).2
  have h1 := h.1
  have h2 := h.2.2.2.1
  omega
theorem rch_lim {n : Nat} {t : Bool} {r : Nat → Int} (h : RC.right (rch n t r) = true) : ((-4194304 ≤ rch n t r 0 ∧ rch n t r 0 ≤ 4194304) ∧ (-4194304 ≤ rch n t r 1 ∧ rch n t r 1 ≤ 4194304) ∧ (-4194304 ≤ rch n t r 2 ∧ rch n t r 2 ≤ 4194304) ∧ (-4194304 ≤ rch n t r 3 ∧ rch n t r 3 ≤ 4194304)) ∧ rch n t r 0 < rch n t r 2 ∧ rch n t r 1 < rch n t r 3 := RC.right_iff.1 h
theorem steps_mem {n : Nat} {t : Bool} {a b r : Nat → Int} (ha : VM.fit a = true) (hb : VM.fit b = true) (hn : 1 ≤ n ∧ n ≤ 64) {s : Int × Int × Int} (h : s ∈ steps n t a b r) : (0 ≤ s.1 ∧ s.1 ≤ 4194320) ∧ (-4194304 ≤ s.2.1 ∧ s.2.1 ≤ 4194304) ∧ (-4194304 ≤ s.2.2 ∧ s.2.2 ≤ 4194304) := by
 unfold steps at h
 split at h
 ·
  rename_i hr
  have hl := rch_lim hr
  unfold DM.wth at h
  obtain ⟨h1, h2⟩ := List.mem_filter.1 h
  obtain ⟨j, hj⟩ := List.mem_iff_getElem?.1 h1
  have h3 := (DM.steps_at hj).2
  have h4 := (List.getElem?_eq_some_iff.1 hj).1
  rw [DM.steps_len] at h4
  have h5 := cnt_lim (ax := core n t a 0) (ay := core n t a 1) (bx := core n t b 0) (by_ := core n t b 1) (core_rg (t := t) ha hn) (core_rg (t := t) hb hn)
  unfold DM.cnt14 at h5
  unfold DM.inR4 at h2
  simp only [Bool.and_eq_true, decide_eq_true_eq] at h2
  omega
 · cases h
theorem steps_len {n : Nat} {t : Bool} {a b r : Nat → Int} (ha : VM.fit a = true) (hb : VM.fit b = true) (hn : 1 ≤ n ∧ n ≤ 64) : (steps n t a b r).length ≤ 4194320 := by
 unfold steps
 split
 ·
  have h5 := cnt_lim (ax := core n t a 0) (ay := core n t a 1) (bx := core n t b 0) (by_ := core n t b 1) (core_rg (t := t) ha hn) (core_rg (t := t) hb hn)
  unfold DM.cnt14 at h5
  unfold DM.wth
  have h6 := List.length_filter_le (DM.inR4 (rch n t r)) (DM.steps (core n t a 0) (core n t a 1) (core n t b 0) (core n t b 1))
  rw [DM.steps_len] at h6
  omega
 · exact Nat.zero_le _
end WD
end Go.Proofs.YtpfhaocmcfnhnaaGreat
