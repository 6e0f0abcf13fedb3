/- Plain: how many fragments a line has in all. -/
import Derived.Test.YtpfhaocmcfnhnaaWx
namespace Go.Proofs.Ytpfhaocmcfnhnaa
open Go.ChangeShapes Go.WideShapes Go.ChangeAt Go.RowKit
set_option linter.unusedVariables false
set_option linter.unusedSimpArgs false

theorem Held.as17 {w0 w : World} {l l' : List (Nat × TypeId × List Value)} {R : RowD} {es : List Ent} (h : Held w0 w l R es) (e : l = l') : Held w0 w l' R es := e ▸ h
def WD.mv (b : Nat → Int) (x y : Int) (i : Nat) : Int := if i = 0 then x else if i = 1 then y else b i
theorem tmod_lim (z : Int) : -3999 ≤ z.tmod 4000 ∧ z.tmod 4000 ≤ 3999 := by
  rcases (by omega : 0 ≤ z ∨ z < 0) with h | h
  · rw [Int.tmod_eq_emod_of_nonneg h]
    omega
  · obtain ⟨y, rfl⟩ : ∃ y, z = -y := ⟨-z, by omega⟩
    rw [Int.neg_tmod, Int.tmod_eq_emod_of_nonneg (by omega)]
    omega
theorem tdiv_lim17 (z : Int) : 256 * z.tdiv 256 ≤ z + 255 ∧ z ≤ 256 * z.tdiv 256 + 255 := by
  rcases (by omega : 0 ≤ z ∨ z < 0) with h | h
  · rw [Int.tdiv_eq_ediv_of_nonneg h]
    omega
  · obtain ⟨y, rfl⟩ : ∃ y, z = -y := ⟨-z, by omega⟩
    rw [Int.neg_tdiv, Int.tdiv_eq_ediv_of_nonneg (by omega)]
    omega
/-- How many of the first k pixels are lit. -/
def litc (d : Nat → Int) (k : Nat) : Nat := (List.range k).countP fun j : Nat => HM.litF d (j : Int)
theorem litc_le (d : Nat → Int) (k : Nat) : litc d k ≤ k := by
  unfold litc
  have := List.countP_le_length (p := fun j : Nat => HM.litF d j) (l := List.range k)
  rwa [List.length_range] at this
theorem litc_succ (d : Nat → Int) (k : Nat) : litc d (k + 1) = if HM.litF d k = true then litc d k + 1 else litc d k := by
  unfold litc
  rw [List.range_succ, List.countP_append]
  cases h : HM.litF d k <;> simp [h]
theorem cnt_few {n : Nat} {t : Bool} {a b : Nat → Int} (h : (-3999 ≤ b 0 - a 0 ∧ b 0 - a 0 ≤ 3999) ∧ (-3999 ≤ b 1 - a 1 ∧ b 1 - a 1 ≤ 3999)) : 0 ≤ WD.cnt n t a b ∧ WD.cnt n t a b ≤ 99 := by
  unfold WD.cnt
  by_cases hs : WD.core n t a 0 = WD.core n t b 0 ∧ WD.core n t a 1 = WD.core n t b 1
  · rw [hs.1, hs.2, DM.cnt14_same]
    omega
  · have h0 := DM.cntG_pos (t := DM.tall (WD.core n t b 0 - WD.core n t a 0) (WD.core n t b 1 - WD.core n t a 1)) (DM.way_of hs)
    rw [DM.cnt14_is hs]
    refine ⟨h0, ?_⟩
    have e0 : WD.core n t b 0 - WD.core n t a 0 = b 0 - a 0 := by
      simp only [WD.core, DM.t2, if_true]
      omega
    have e1 : WD.core n t b 1 - WD.core n t a 1 = b 1 - a 1 := by
      simp only [WD.core, DM.t2, Nat.one_ne_zero, if_false]
      omega
    clear h0 hs
    generalize WD.core n t a 0 = p at *
    generalize WD.core n t a 1 = q at *
    generalize WD.core n t b 0 = p' at *
    generalize WD.core n t b 1 = q' at *
    generalize DM.tall (p' - p) (q' - q) = u
    unfold DM.cntG
    have g1 := @DM.e1_is u (DM.mn u p q) (DM.cr u p q) (DM.mn u p' q') (DM.cr u p' q')
    have g2 := @DM.l1_is u (DM.mn u p q) (DM.cr u p q) (DM.mn u p' q') (DM.cr u p' q')
    have g3 : DM.nl (DM.mn u p q) (DM.mn u p' q') ≤ 20 := by
      unfold DM.nl DM.ahd DM.mn
      cases u
      · simp only [Bool.false_eq_true, if_false]
        split <;> omega
      · simp only [if_true]
        split <;> omega
    omega
theorem all_in {a b : Nat → Int} {n : Nat} {t : Bool} {x : Nat → Int} (hn : 1 ≤ n ∧ n ≤ 64) (h : (-3999 ≤ b 0 - a 0 ∧ b 0 - a 0 ≤ 3999) ∧ (-3999 ≤ b 1 - a 1 ∧ b 1 - a 1 ≤ 3999)) (ha0 : -268435456 ≤ a 0 ∧ a 0 ≤ 268435456) (ha1 : -268435456 ≤ a 1 ∧ a 1 ≤ 268435456)
    {qx qy : Int} (hx : x 0 = qx - 150 ∧ x 2 = qx + 150 ∧ 256 * qx ≤ a 0 + 255 ∧ a 0 ≤ 256 * qx + 255) (hy : x 1 = qy - 150 ∧ x 3 = qy + 150 ∧ 256 * qy ≤ a 1 + 255 ∧ a 1 ≤ 256 * qy + 255) : ∀ s ∈ WD.al n t a b, ∀ i, i < n → RC.has x (WD.px t s i) (WD.py t s i) = true := by
  intro s hs i hi
  have h1 := DM.exits_lim ((DM.mem_steps s).1 hs).1
  rw [WD.has_iff', RC.right_iff]
  unfold WD.core at h1
  unfold WD.px WD.py
  rcases WD.bx_is t with ⟨e1, e2⟩ | ⟨e1, e2⟩ <;> rw [e1, e2] at h1 ⊢ <;> simp only [DM.t2, if_true, Nat.one_ne_zero, if_false, Int.mul_one, Int.mul_zero] at h1 ⊢ <;> omega
theorem sp_full {a b : Nat → Int} {t : Bool} {x : Nat → Int} {s : Int × Int × Int} : ∀ n, (∀ i, i < n → RC.has x (WD.px t s i) (WD.py t s i) = true) → (WD.sp a b t x s n).length = n
  | 0, _ => rfl
  | n + 1, h => by
    rw [WD.sp_yes (h n (Nat.lt_succ_self n)), List.length_append, sp_full n fun i hi => h i (by omega)]
    rfl
theorem frs_full {a b : Nat → Int} {t : Bool} {x : Nat → Int} {n : Nat} {ds : Bool} {d : Nat → Int} : ∀ l, (∀ s ∈ l, ∀ i, i < n → RC.has x (WD.px t s i) (WD.py t s i) = true) → (WD.frs a b t x n ds d l).length = (l.countP fun s => WD.lits ds d s.1) * n
  | [], _ => by simp [WD.frs]
  | s :: l, h => by
    have ih := frs_full (a := a) (b := b) (ds := ds) (d := d) l fun y hy => h y (List.mem_cons_of_mem _ hy)
    have hs := sp_full (a := a) (b := b) n (h s List.mem_cons_self)
    unfold WD.frs at ih ⊢
    rw [List.flatMap_cons, List.length_append, ih, List.countP_cons]
    unfold WD.stp
    cases hl : WD.lits ds d s.1
    · simp
    · simp [hs, Nat.add_mul]
      omega
theorem al_fst (n : Nat) (t : Bool) (a b : Nat → Int) : (WD.al n t a b).map (·.1) = (List.range (WD.al n t a b).length).map fun k : Nat => (k : Int) := by
  refine List.ext_getElem? fun k => ?_
  rw [List.getElem?_map, List.getElem?_map]
  unfold WD.al
  rw [DM.steps_get]
  by_cases hk : k < (DM.pixs (WD.core n t a 0) (WD.core n t a 1) (WD.core n t b 0) (WD.core n t b 1)).length
  · rw [List.getElem?_eq_getElem hk, List.getElem?_range (by rw [DM.steps_len]; exact hk)]
    rfl
  · rw [List.getElem?_eq_none (by omega), List.getElem?_eq_none (by rw [List.length_range, DM.steps_len]; omega)]
    rfl
theorem al_count (n : Nat) (t : Bool) (a b : Nat → Int) (ds : Bool) (d : Nat → Int) : ((WD.al n t a b).countP fun s => WD.lits ds d s.1) = if ds then litc d (WD.al n t a b).length else (WD.al n t a b).length := by
  have e : ((WD.al n t a b).countP fun s => WD.lits ds d s.1) = ((WD.al n t a b).map (·.1)).countP (WD.lits ds d) := by
    rw [List.countP_map]
    rfl
  rw [e, al_fst, List.countP_map]
  cases ds
  · rw [if_neg (by decide)]
    have : (WD.lits false d ∘ fun k : Nat => (k : Int)) = fun _ => true := by funext k; rfl
    rw [this, List.countP_true, List.length_range]
  · rw [if_pos rfl]
    rfl
theorem lin_all {a b : Nat → Int} {N : Nat} {s : Bool} {d x : Nat → Int} (hq : WD.right a b N d = true) (hin : ∀ y ∈ WD.al N (WD.tl a b) a b, ∀ i, i < N → RC.has x (WD.px (WD.tl a b) y i) (WD.py (WD.tl a b) y i) = true) {c : Nat} (hc : WD.cnt N (WD.tl a b) a b = c) : (if s then litc d c else c) * N = (WD.lin a b N s d x).length := by
  unfold WD.lin
  rw [if_pos hq, Int.toNat_natCast, frs_full _ hin, al_count]
  have e : (WD.al N (WD.tl a b) a b).length = c := by
    unfold WD.cnt DM.cnt14 at hc
    unfold WD.al
    rw [DM.steps_len]
    omega
  rw [e]
theorem lin_none (a : Nat → Int) (N : Nat) (d x : Nat → Int) : WD.lin a a N false d x = [] := by
  unfold WD.lin WD.al DM.steps
  rw [DM.pixs_same]
  split <;> rfl
end Go.Proofs.Ytpfhaocmcfnhnaa
