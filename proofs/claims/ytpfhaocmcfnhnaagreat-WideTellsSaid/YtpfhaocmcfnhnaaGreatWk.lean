/- Plain: what a rectangle shows of a line; fragments are apart; how many there are. -/
import Derived.Test.YtpfhaocmcfnhnaaGreatWd
namespace Go.Proofs.YtpfhaocmcfnhnaaGreat
open Go.ChangeShapes Go.WideShapes Go.ChangeAt Go.RowKit
set_option linter.unusedVariables false
set_option linter.unusedSimpArgs false

namespace WD
/-- The core's pixels, all of them. -/
def al (n : Nat) (t : Bool) (a b : Nat → Int) : List (Int × Int × Int) := DM.steps (core n t a 0) (core n t a 1) (core n t b 0) (core n t b 1)
def Near (s : Int × Int × Int) : Prop := (-2000000 ≤ s.2.1 ∧ s.2.1 ≤ 2000000) ∧ (-2000000 ≤ s.2.2 ∧ s.2.2 ≤ 2000000)
theorem core_lim {n : Nat} {t : Bool} {a : Nat → Int} (ha : VM.fit a = true) (hn : 1 ≤ n ∧ n ≤ 64) : (-268443520 ≤ core n t a 0 ∧ core n t a 0 ≤ 268435456) ∧ (-268443520 ≤ core n t a 1 ∧ core n t a 1 ≤ 268435456) := by
 obtain ⟨l0, l1, -, -⟩ := VM.fit_lim ha
 unfold core
 rcases bx_is t with ⟨h1, h2⟩ | ⟨h1, h2⟩ <;> rw [h1, h2] <;> simp only [DM.t2] <;> simp <;> omega
theorem al_near {n : Nat} {t : Bool} {a b : Nat → Int} (ha : VM.fit a = true) (hb : VM.fit b = true) (hn : 1 ≤ n ∧ n ≤ 64) {s : Int × Int × Int} (h : s ∈ al n t a b) : Near s := by
 have h1 := (DM.mem_steps s).1 h
 have h2 := DM.exits_lim h1.1
 have h3 := core_lim (t := t) ha hn
 have h4 := core_lim (t := t) hb hn
 unfold Near
 omega
theorem flat_filter {α β : Type} (f : α → List β) (p : α → Bool) : ∀ l : List α, (∀ s ∈ l, p s = false → f s = []) → (l.filter p).flatMap f = l.flatMap f
 | [], _ => rfl
 | s :: l, h => by
  have ih := flat_filter f p l fun x hx => h x (List.mem_cons_of_mem _ hx)
  cases hp : p s
  · rw [List.filter_cons_of_neg (by rw [hp]; decide), List.flatMap_cons, h s List.mem_cons_self hp, List.nil_append, ih]
  · rw [List.filter_cons_of_pos hp, List.flatMap_cons, List.flatMap_cons, ih]
theorem sp_nil {a b : Nat → Int} {t : Bool} {x : Nat → Int} {s : Int × Int × Int} {n : Nat} (h : ∀ i, i < n → RC.has x (px t s i) (py t s i) = false) : sp a b t x s n = [] := by
 unfold sp
 rw [List.flatMap_eq_nil_iff]
 intro i hi
 rw [one, if_neg (by rw [h i (List.mem_range.1 hi)]; decide)]
theorem has_bad {x : Nat → Int} (h : RC.right x = false) (u v : Int) : RC.has x u v = false := by rw [RC.has, h, Bool.false_and]
theorem has_iff' {r : Nat → Int} {x y : Int} : RC.has r x y = true ↔ RC.right r = true ∧ r 0 ≤ x ∧ x < r 2 ∧ r 1 ≤ y ∧ y < r 3 := by
 simp only [RC.has, Bool.and_eq_true, decide_eq_true_eq]
theorem rch_right {n : Nat} {t : Bool} {x : Nat → Int} (hn : 1 ≤ n ∧ n ≤ 64) (h : RC.right x = true) : RC.right (rch n t x) = true := by
 have h1 := RC.right_iff.1 h
 rw [RC.right_iff, rch, if_pos h]
 rcases bx_is t with ⟨e1, e2⟩ | ⟨e1, e2⟩ <;> rw [e1, e2] <;> simp only [RC.mk] <;> simp <;> omega
theorem rch_in {n : Nat} {t : Bool} {x : Nat → Int} {s : Int × Int × Int} {i : Nat} (hi : i < n) (hs : Near s) (h : RC.has x (px t s i) (py t s i) = true) : DM.inR4 (rch n t x) s = true := by
 obtain ⟨h0, h1, h2, h3, h4⟩ := has_iff'.1 h
 unfold px at h1 h2
 unfold py at h3 h4
 unfold Near at hs
 unfold DM.inR4
 rw [rch, if_pos h0]
 simp only [Bool.and_eq_true, decide_eq_true_eq]
 rcases bx_is t with ⟨e1, e2⟩ | ⟨e1, e2⟩ <;> rw [e1] at h1 h2 ⊢ <;> rw [e2] at h3 h4 ⊢ <;> simp only [RC.mk] <;> simp <;> omega
theorem stp_nil {a b : Nat → Int} {t : Bool} {x : Nat → Int} {n : Nat} {ds : Bool} {d : Nat → Int} {s : Int × Int × Int} (h : ∀ i, i < n → RC.has x (px t s i) (py t s i) = false) : stp a b t x n ds d s = [] := by
 unfold stp
 split
 · exact sp_nil h
 · rfl
/-- The fragments are those of all the core's pixels. -/
theorem frs_all {a b : Nat → Int} {n : Nat} {t : Bool} (ha : VM.fit a = true) (hb : VM.fit b = true) (hn : 1 ≤ n ∧ n ≤ 64) (x : Nat → Int) (ds : Bool) (d : Nat → Int) : frs a b t x n ds d (steps n t a b x) = frs a b t x n ds d (al n t a b) := by
 cases hx : RC.right x
 ·
  have h1 : ∀ l, frs a b t x n ds d l = [] := fun l => by
   unfold frs
   rw [List.flatMap_eq_nil_iff]
   exact fun s _ => stp_nil fun i _ => has_bad hx _ _
  rw [h1, h1]
 ·
  unfold frs steps
  rw [if_pos (rch_right hn hx)]
  unfold DM.wth
  refine flat_filter _ _ _ fun s hs hp => stp_nil fun i hi => ?_
  rw [← Bool.not_eq_true]
  intro h
  rw [rch_in hi (al_near ha hb hn hs) h] at hp
  cases hp
/-- No more pixels than a rectangle's longer side. -/
theorem steps_most {n : Nat} {a b x : Nat → Int} (hx : RC.right x = true) (hn : 1 ≤ n ∧ n ≤ 64) : ((steps n (tl a b) a b x).length : Int) ≤ max (x 2 - x 0) (x 3 - x 1) := by
 have hr := RC.right_iff.1 hx
 unfold steps
 rw [if_pos (rch_right hn hx)]
 have h := DM.pixs_rising (core n (tl a b) a 0) (core n (tl a b) a 1) (core n (tl a b) b 0) (core n (tl a b) b 1)
 have e : (DM.steps (core n (tl a b) a 0) (core n (tl a b) a 1) (core n (tl a b) b 0) (core n (tl a b) b 1)).map (fun s => (s.2.1, s.2.2)) = DM.pixs (core n (tl a b) a 0) (core n (tl a b) a 1) (core n (tl a b) b 0) (core n (tl a b) b 1) := by
  unfold DM.steps
  rw [List.map_map]
  exact List.zipIdx_map_fst 0 _
 rw [← e, List.pairwise_map] at h
 have h2 := h.filter (DM.inR4 (rch n (tl a b) x))
 have ht : DM.tall (core n (tl a b) b 0 - core n (tl a b) a 0) (core n (tl a b) b 1 - core n (tl a b) a 1) = tl a b := by
  have e0 : core n (tl a b) b 0 - core n (tl a b) a 0 = b 0 - a 0 := by
   simp only [core, DM.t2, if_true]
   omega
  have e1 : core n (tl a b) b 1 - core n (tl a b) a 1 = b 1 - a 1 := by
   simp only [core, DM.t2, Nat.one_ne_zero, if_false]
   omega
  rw [e0, e1]
  rfl
 unfold DM.fAb at h2
 rw [ht] at h2
 unfold DM.wth
 generalize DM.mn (tl a b) (core n (tl a b) a 0) (core n (tl a b) a 1) = am at h2
 generalize DM.mn (tl a b) (core n (tl a b) b 0) (core n (tl a b) b 1) = bm at h2
 generalize hL : (DM.steps (core n (tl a b) a 0) (core n (tl a b) a 1) (core n (tl a b) b 0) (core n (tl a b) b 1)).filter (DM.inR4 (rch n (tl a b) x)) = L at h2 ⊢
 have hin : ∀ s ∈ L, DM.inR4 (rch n (tl a b) x) s = true := fun s hs => by
  rw [← hL] at hs
  exact (List.mem_filter.1 hs).2
 generalize tl a b = t at *
 have hin2 : ∀ s ∈ L, (if t then x 1 ≤ s.2.2 ∧ s.2.2 < x 3 else x 0 ≤ s.2.1 ∧ s.2.1 < x 2) := fun s hs => by
  have h5 := hin s hs
  unfold DM.inR4 at h5
  rw [rch, if_pos hx] at h5
  simp only [Bool.and_eq_true, decide_eq_true_eq, RC.mk] at h5
  cases t
  ·
   simp [bx, by_] at h5 ⊢
   omega
  ·
   simp [bx, by_] at h5 ⊢
   omega
 by_cases ho : am < bm
 ·
  rcases DM.rising_len (fun s : Int × Int × Int => DM.ord t am bm (s.2.1, s.2.2)) (lo := if t then x 1 else x 0) (hi := if t then x 3 else x 2) h2 (fun s hs => by
   have h6 := hin2 s hs
   unfold DM.ord DM.mn
   cases t
   ·
    simp at h6 ⊢
    rw [if_pos ho]
    exact h6
   ·
    simp at h6 ⊢
    rw [if_pos ho]
    exact h6) with e | e
  ·
   rw [e]
   simp only [List.length_nil]
   omega
  ·
   cases t
   ·
    simp at e
    omega
   ·
    simp at e
    omega
 ·
  rcases DM.rising_len (fun s : Int × Int × Int => DM.ord t am bm (s.2.1, s.2.2)) (lo := if t then 1 - x 3 else 1 - x 2) (hi := if t then 1 - x 1 else 1 - x 0) h2 (fun s hs => by
   have h6 := hin2 s hs
   unfold DM.ord DM.mn
   cases t
   ·
    simp at h6 ⊢
    rw [if_neg ho]
    omega
   ·
    simp at h6 ⊢
    rw [if_neg ho]
    omega) with e | e
  ·
   rw [e]
   simp only [List.length_nil]
   omega
  ·
   cases t
   ·
    simp at e
    omega
   ·
    simp at e
    omega
end WD
end Go.Proofs.YtpfhaocmcfnhnaaGreat
