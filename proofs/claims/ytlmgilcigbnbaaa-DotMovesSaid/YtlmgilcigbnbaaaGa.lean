/- Plain: the pixels that the program looks at; the cover row by row. -/
import Derived.Test.YtlmgilcigbnbaaaDa
import Derived.Test.YtlmgilcigbnbaaaSv
namespace Go.Proofs.Ytlmgilcigbnbaaa
open Go.ChangeShapes Go.WideShapes Go.ChangeAt Go.RowKit
set_option linter.unusedVariables false
set_option linter.unusedSimpArgs false

namespace DT
/-- The first pixel, one way for all sizes. -/
theorem first_one {u s : Int} : (u - 128 * (s - 1)) / 256 = first u s := by
  unfold first
  split <;> omega
/-- Pixels around a round point. -/
def arnd (v : Nat → Int) (s : Int) : Nat → Int := RC.mk ((v 0 - 128 * s) / 256) ((v 1 - 128 * s) / 256) ((v 0 + 128 * s) / 256 + 1) ((v 1 + 128 * s) / 256 + 1)
/-- The pixels among which all of a point's are. -/
def pix (v : Nat → Int) (s k : Int) : Nat → Int := if k = 1 then arnd v s else box v s
theorem pix_1 {v : Nat → Int} {s k : Int} (h : k = 1) : pix v s k = arnd v s := if_pos h
theorem pix_n {v : Nat → Int} {s k : Int} (h : ¬ k = 1) : pix v s k = box v s := if_neg h
theorem arnd_right {v : Nat → Int} {s : Int} (h0 : -268435456 ≤ v 0 ∧ v 0 ≤ 268435456) (h1 : -268435456 ≤ v 1 ∧ v 1 ≤ 268435456) (hs : 1 ≤ s ∧ s ≤ 64) : RC.right (arnd v s) = true := by
  rw [RC.right_iff]
  show ((-4194304 ≤ (v 0 - 128 * s) / 256 ∧ (v 0 - 128 * s) / 256 ≤ 4194304) ∧ (-4194304 ≤ (v 1 - 128 * s) / 256 ∧ (v 1 - 128 * s) / 256 ≤ 4194304) ∧ (-4194304 ≤ (v 0 + 128 * s) / 256 + 1 ∧ (v 0 + 128 * s) / 256 + 1 ≤ 4194304) ∧ (-4194304 ≤ (v 1 + 128 * s) / 256 + 1 ∧ (v 1 + 128 * s) / 256 + 1 ≤ 4194304)) ∧ ((v 0 - 128 * s) / 256 < (v 0 + 128 * s) / 256 + 1) ∧ ((v 1 - 128 * s) / 256 < (v 1 + 128 * s) / 256 + 1)
  omega
/-- What has something is among them. -/
theorem px_pix {v : Nat → Int} {s k x y : Int} (h : right v s k = true) (hp : px v s k x y ≠ []) : RC.has (pix v s k) x y = true := by
  obtain ⟨hf, hs, _⟩ := right_iff.1 h
  obtain ⟨h0, h1, -⟩ := VM.fit_lim hf
  by_cases hk : k = 1
  · subst hk
    rw [pix_1 rfl]
    have hc : cov v s x y ≠ 0 := fun e => hp (px_no (by unfold cv; rw [if_pos rfl, e]; rfl))
    obtain ⟨i, j, hi, hj, hn⟩ := cov_some hc
    have l := near_lim (by omega) hn
    refine RC.has_iff.2 ⟨arnd_right h0 h1 hs, ?_⟩
    show (v 0 - 128 * s) / 256 ≤ x ∧ x < (v 0 + 128 * s) / 256 + 1 ∧ (v 1 - 128 * s) / 256 ≤ y ∧ y < (v 1 + 128 * s) / 256 + 1
    omega
  · rw [pix_n hk]
    cases e : RC.has (box v s) x y
    · exact absurd (px_no (by unfold cv; rw [if_neg hk, e]; rfl)) hp
    · rfl
/-- Cut to what may have something, a rectangle has the same. -/
theorem rows_cut {f : Int → Int → List (Nat → Int)} {r p : Nat → Int} (hc : ∀ x y z, z ∈ f x y → z 0 = x ∧ z 1 = y) (hr : RC.right r = true) (hp : RC.right p = true) (ho : ∀ x y, f x y ≠ [] → RC.has p x y = true) :
    SM.rows f (r 0) (r 2) (r 1) (r 3) = SM.rows f (RC.both r p 0) (RC.both r p 2) (RC.both r p 1) (RC.both r p 3) := by
  have hall : ∀ x y z, (r 0 ≤ x ∧ x < r 2) → (r 1 ≤ y ∧ y < r 3) → z ∈ f x y → RC.has (RC.both r p) x y = true := fun x y z hx hy hz => by
    rw [both_has, ho x y (fun e => by rw [e] at hz; exact absurd hz (by simp)), Bool.and_true]
    exact RC.has_iff.2 ⟨hr, hx.1, hx.2, hy.1, hy.2⟩
  cases hm : RC.right (RC.meet r p)
  · have e0 : RC.both r p = M.zero := RC.both_no3 hm
    have : SM.rows f (r 0) (r 2) (r 1) (r 3) = [] := by
      rw [List.eq_nil_iff_forall_not_mem]
      intro z hz
      obtain ⟨x, y, hx, hy, hz⟩ := rows_mem.1 hz
      have h := hall x y z hx hy hz
      rw [e0, has_no RC.right_zero] at h
      cases h
    rw [this, e0]
    rfl
  · have e0 : RC.both r p = RC.meet r p := RC.both_yes hr hp hm
    rw [e0] at hall ⊢
    have hl : (r 0 ≤ RC.meet r p 0 ∧ RC.meet r p 2 ≤ r 2) ∧ (r 1 ≤ RC.meet r p 1 ∧ RC.meet r p 3 ≤ r 3) := by
      show (r 0 ≤ max (r 0) (p 0) ∧ min (r 2) (p 2) ≤ r 2) ∧ (r 1 ≤ max (r 1) (p 1) ∧ min (r 3) (p 3) ≤ r 3)
      omega
    have h := SM.rows_part f (fun z => (decide (RC.meet r p 0 ≤ z 0) && decide (z 0 < RC.meet r p 2)) && (decide (RC.meet r p 1 ≤ z 1) && decide (z 1 < RC.meet r p 3))) hl.1 hl.2 (fun x y z hz => by rw [(hc x y z hz).1, (hc x y z hz).2])
    rw [← h]
    symm
    rw [List.filter_eq_self]
    intro z hz
    obtain ⟨x, y, hx, hy, hz⟩ := rows_mem.1 hz
    have k := (RC.has_iff.1 (hall x y z hx hy hz)).2
    have e := hc x y z hz
    rw [e.1, e.2]
    simp only [Bool.and_eq_true, decide_eq_true_eq]
    exact ⟨⟨k.1, k.2.1⟩, k.2.2⟩
/-- A point's fragments: those of the pixels that its rectangle has together with its own. -/
theorem pt_look {v r : Nat → Int} {s k : Int} (h : right v s k = true) : pt v s k r = SM.rows (px v s k) (RC.both r (pix v s k) 0) (RC.both r (pix v s k) 2) (RC.both r (pix v s k) 1) (RC.both r (pix v s k) 3) := by
  obtain ⟨hf, hs, _⟩ := right_iff.1 h
  obtain ⟨h0, h1, -⟩ := VM.fit_lim hf
  cases hr : RC.right r
  · rw [pt_bad (by rw [hr, Bool.and_false]), RC.both_no1 hr]
    rfl
  · rw [pt_ok h hr]
    have hp : RC.right (pix v s k) = true := by
      unfold pix
      split
      · exact arnd_right h0 h1 hs
      · exact box_right (right_0 h)
    exact rows_cut (fun x y z hz => px_at hz) hr hp fun x y hne => px_pix h hne
/-- How far what is looked at goes, and how many pixels it has. -/
theorem look_ok (r p : Nat → Int) : ((-4194304 ≤ RC.both r p 0 ∧ RC.both r p 2 ≤ 4194304) ∧ (-4194304 ≤ RC.both r p 1 ∧ RC.both r p 3 ≤ 4194304)) ∧ (RC.both r p 0 ≤ RC.both r p 2 ∧ RC.both r p 1 ≤ RC.both r p 3) := by
  cases hb : RC.right (RC.both r p)
  · have e : RC.both r p = M.zero := by
      unfold RC.both at hb ⊢
      split
      · split
        · rename_i h1 h2
          rw [if_pos h1, if_pos h2] at hb
          rw [h2] at hb
          cases hb
        · rfl
      · rfl
    rw [e]
    decide
  · have := RC.right_iff.1 hb
    omega
theorem look_area {r p : Nat → Int} {n : Int} (hn : 0 ≤ n) (h : RC.area r ≤ n) : (((RC.both r p 2 - RC.both r p 0).toNat * (RC.both r p 3 - RC.both r p 1).toNat : Nat) : Int) ≤ n := by
  cases hr : RC.right r
  · rw [RC.both_no1 hr]
    exact hn
  · cases hp : RC.right p
    · rw [RC.both_no2 hp]
      exact hn
    · cases hm : RC.right (RC.meet r p)
      · rw [RC.both_no3 hm]
        exact hn
      · rw [RC.both_yes hr hp hm]
        rw [RC.area_in hr] at h
        have hx := RC.right_iff.1 hr
        have hy := RC.right_iff.1 hm
        have e0 : RC.meet r p 0 = max (r 0) (p 0) := rfl
        have e1 : RC.meet r p 1 = max (r 1) (p 1) := rfl
        have e2 : RC.meet r p 2 = min (r 2) (p 2) := rfl
        have e3 : RC.meet r p 3 = min (r 3) (p 3) := rfl
        rw [Int.natCast_mul, Int.toNat_of_nonneg (by omega), Int.toNat_of_nonneg (by omega)]
        have := Int.mul_le_mul (show RC.meet r p 2 - RC.meet r p 0 ≤ r 2 - r 0 by omega) (show RC.meet r p 3 - RC.meet r p 1 ≤ r 3 - r 1 by omega) (by omega) (by omega)
        omega
/-- Seen the other way round: up is right. -/
def flip (v : Nat → Int) (i : Nat) : Int := if i = 0 then v 1 else v 0
theorem near_flip (v : Nat → Int) (s x y : Int) : near (flip v) s y x = near v s x y := by
  unfold near
  rw [decide_eq_decide]
  show (y - v 1) * (y - v 1) + (x - v 0) * (x - v 0) < 128 * s * 128 * s ↔ nearP v s x y
  unfold nearP
  rw [Int.add_comm]
theorem sum_zero {α : Type} : ∀ l : List α, (l.map fun _ => 0).sum = 0
  | [] => rfl
  | _ :: l => by rw [List.map_cons, List.sum_cons, sum_zero l]
theorem sum_add {α : Type} (f g : α → Nat) : ∀ l : List α, (l.map fun x => f x + g x).sum = (l.map f).sum + (l.map g).sum
  | [] => rfl
  | x :: l => by
    rw [List.map_cons, List.sum_cons, sum_add f g l, List.map_cons, List.sum_cons, List.map_cons, List.sum_cons]
    omega
/-- Rows and columns add up to the same. -/
theorem sum_swap {α β : Type} (f : α → β → Nat) (m : List β) : ∀ l : List α, (l.map fun i => (m.map fun k => f i k).sum).sum = (m.map fun k => (l.map fun i => f i k).sum).sum
  | [] => by simp only [List.map_nil, List.sum_nil]; exact (sum_zero m).symm
  | x :: l => by
    rw [List.map_cons, List.sum_cons, sum_swap f m l, ← sum_add]
    rfl
theorem cov_flip (v : Nat → Int) (s x y : Int) : cov (flip v) s y x = cov v s x y := by
  unfold cov ccol
  rw [sum_swap]
  simp only [near_flip]
end DT
end Go.Proofs.Ytlmgilcigbnbaaa
