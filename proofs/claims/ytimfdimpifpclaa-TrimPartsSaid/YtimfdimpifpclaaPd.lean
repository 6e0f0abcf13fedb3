/- Plain: the greatest and the least part, taken round by round; what is left by them. -/
import Derived.Test.YtimfdimpifpclaaPc
namespace Go.Proofs.Ytimfdimpifpclaa
set_option linter.unusedVariables false
namespace D
theorem cuts_nil (k : Int) (a b : Nat → Int) : cuts k a b [] = [] := rfl
theorem cuts_app (k : Int) (a b : Nat → Int) (l m : List (Nat → Int)) : cuts k a b (l ++ m) = cuts k a b l ++ cuts k a b m := by simp [cuts]
theorem take_one {l : List (Nat → Int)} {k : Nat} {s : Nat → Int} (h : l[k]? = some s) : l.take (k + 1) = l.take k ++ [s] := by rw [List.take_add_one, h]; rfl
theorem cuts_yes {j : Int} {a b : Nat → Int} {l : List (Nat → Int)} {k : Nat} {s : Nat → Int} (h : l[k]? = some s) (hk : (partOf s a b).1 = j) : cuts j a b (l.take (k + 1)) = cuts j a b (l.take k) ++ [(partOf s a b).2] := by
  rw [take_one h, cuts_app]
  congr 1
  simp [cuts, hk]
theorem cuts_not {j : Int} {a b : Nat → Int} {l : List (Nat → Int)} {k : Nat} {s : Nat → Int} (h : l[k]? = some s) (hk : (partOf s a b).1 ≠ j) : cuts j a b (l.take (k + 1)) = cuts j a b (l.take k) := by
  rw [take_one h, cuts_app]
  have : cuts j a b [s] = [] := by simp [cuts, hk]
  rw [this, List.append_nil]
def c01 : Cut := (0, 1)
def c11 : Cut := (1, 1)
theorem c01_fair : c01.fair := ⟨by decide, by decide, by decide⟩
theorem c11_fair : c11.fair := ⟨by decide, by decide, by decide⟩
/-- The greatest one so far, behind nought. -/
def TopZ (l : List Cut) (x : Cut) : Prop := x.fair ∧ Top (c01 :: l) x
def LowZ (l : List Cut) (x : Cut) : Prop := x.fair ∧ Low (c11 :: l) x
theorem topZ_nil : TopZ [] c01 := ⟨c01_fair, List.mem_cons_self, fun y hy => by
  obtain rfl : y = c01 := by simpa using hy
  exact above_self _⟩
theorem lowZ_nil : LowZ [] c11 := ⟨c11_fair, List.mem_cons_self, fun y hy => by
  obtain rfl : y = c11 := by simpa using hy
  exact above_self _⟩
theorem mem_end {x y z : Cut} {l : List Cut} : z ∈ x :: (l ++ [y]) ↔ z ∈ x :: l ∨ z = y := by simp [or_assoc]
theorem topZ_yes {l : List Cut} {x p : Cut} (hf : ∀ y ∈ l, y.fair) (hp : p.fair) (h : TopZ l x) (hab : above p x = true) : TopZ (l ++ [p]) p := by
  refine ⟨hp, mem_end.2 (.inr rfl), fun u hu => ?_⟩
  rcases mem_end.1 hu with hu | rfl
  · have fu : u.fair := by
      rcases List.mem_cons.1 hu with rfl | hu
      · exact c01_fair
      · exact hf u hu
    exact above_trans fu h.1 hp (h.2.2 u hu) (above_tot hab)
  · exact above_self _
theorem topZ_no {l : List Cut} {x p : Cut} (h : TopZ l x) (hab : above p x = false) : TopZ (l ++ [p]) x := by
  refine ⟨h.1, mem_end.2 (.inl h.2.1), fun u hu => ?_⟩
  rcases mem_end.1 hu with hu | rfl
  · exact h.2.2 u hu
  · exact hab
theorem lowZ_yes {l : List Cut} {x p : Cut} (hf : ∀ y ∈ l, y.fair) (hp : p.fair) (h : LowZ l x) (hab : above x p = true) : LowZ (l ++ [p]) p := by
  refine ⟨hp, mem_end.2 (.inr rfl), fun u hu => ?_⟩
  rcases mem_end.1 hu with hu | rfl
  · have fu : u.fair := by
      rcases List.mem_cons.1 hu with rfl | hu
      · exact c11_fair
      · exact hf u hu
    exact above_trans hp h.1 fu (above_tot hab) (h.2.2 u hu)
  · exact above_self _
theorem lowZ_no {l : List Cut} {x p : Cut} (h : LowZ l x) (hab : above x p = false) : LowZ (l ++ [p]) x := by
  refine ⟨h.1, mem_end.2 (.inl h.2.1), fun u hu => ?_⟩
  rcases mem_end.1 hu with hu | rfl
  · exact h.2.2 u hu
  · exact hab
theorem way_c01 (a b : Nat → Int) : way a b c01.1 c01.2 = a := funext fun i => wt_0 (by decide)
theorem way_c11 (a b : Nat → Int) : way a b c11.1 c11.2 = b := funext fun i => wt_d (by decide)
theorem topZ_stand {a b : Nat → Int} {l : List Cut} {x : Cut} (hf : ∀ y ∈ l, y.fair) (h : TopZ l x) : way a b x.1 x.2 = stand a b a (top l) := by
  cases ht : top l with
  | none =>
    obtain rfl := top_none.1 ht
    have := h.2.1
    obtain rfl : x = c01 := by simpa using this
    exact way_c01 a b
  | some y =>
    have hy := top_is hf ht
    have h1 := h.2.2 y (List.mem_cons_of_mem _ hy.1)
    rcases List.mem_cons.1 h.2.1 with rfl | hx
    · refine (way_like c01_fair (hf y hy.1) ?_ h1).trans rfl
      rw [above_no] at h1 ⊢
      have := hf y hy.1
      simp only [c01] at h1 ⊢
      have h2 := this.2.1
      omega
    · exact (way_like (hf x hx) (hf y hy.1) (hy.2 x hx) h1)
theorem lowZ_stand {a b : Nat → Int} {l : List Cut} {x : Cut} (hf : ∀ y ∈ l, y.fair) (h : LowZ l x) : way a b x.1 x.2 = stand a b b (low l) := by
  cases ht : low l with
  | none =>
    obtain rfl := low_none.1 ht
    have := h.2.1
    obtain rfl : x = c11 := by simpa using this
    exact way_c11 a b
  | some y =>
    have hy := low_is hf ht
    have h1 := h.2.2 y (List.mem_cons_of_mem _ hy.1)
    rcases List.mem_cons.1 h.2.1 with rfl | hx
    · refine (way_like c11_fair (hf y hy.1) h1 ?_).trans rfl
      rw [above_no] at h1 ⊢
      have := hf y hy.1
      simp only [c11] at h1 ⊢
      have h2 := this.2.2
      omega
    · exact (way_like (hf x hx) (hf y hy.1) h1 (hy.2 x hx))
theorem above_01 {y : Cut} (h : y.fair) : above c01 y = false := by
  rw [above_no]
  have := h.2.1
  simp only [c01]
  omega
theorem above_11 {y : Cut} (h : y.fair) : above y c11 = false := by
  rw [above_no]
  have := h.2.2
  simp only [c11]
  omega
/-- What is left, by the greatest and the least part. -/
theorem leaves_by {a b : Nat → Int} {l : List (Nat → Int)} {x y : Cut} (h3 : ∀ s ∈ l, (partOf s a b).1 ≠ 3) (hx : TopZ (cuts 1 a b l) x) (hy : LowZ (cuts 2 a b l) y) : leaves a b l = !above x y := by
  have f1 : ∀ u ∈ cuts 1 a b l, u.fair := fun u hu => cuts_fair (.inl rfl) hu
  have f2 : ∀ u ∈ cuts 2 a b l, u.fair := fun u hu => cuts_fair (.inr rfl) hu
  rw [Bool.eq_iff_iff, leaves_iff, Bool.not_eq_true']
  constructor
  · rintro ⟨_, h⟩
    rcases List.mem_cons.1 hx.2.1 with rfl | h1
    · exact above_01 hy.1
    · rcases List.mem_cons.1 hy.2.1 with rfl | h2
      · exact above_11 hx.1
      · exact h x h1 y h2
  · intro h
    refine ⟨h3, fun u hu v hv => ?_⟩
    exact above_trans (f1 u hu) hx.1 (f2 v hv) (hx.2.2 u (List.mem_cons_of_mem _ hu)) (above_trans hx.1 hy.1 (f2 v hv) h (hy.2.2 v (List.mem_cons_of_mem _ hv)))
theorem trim_out {a b : Nat → Int} {l : List (Nat → Int)} {s : Nat → Int} {k : Nat} (h : l[k]? = some s) (h3 : (partOf s a b).1 = 3) : trim a b l = (M.zero, M.zero, false) := by
  unfold trim
  rw [if_neg]
  rw [leaves_iff]
  exact fun hh => hh.1 s (List.mem_of_getElem? h) h3
theorem trim_no {a b : Nat → Int} {l : List (Nat → Int)} {x y : Cut} (h3 : ∀ s ∈ l, (partOf s a b).1 ≠ 3) (hx : TopZ (cuts 1 a b l) x) (hy : LowZ (cuts 2 a b l) y) (h : above x y = true) : trim a b l = (M.zero, M.zero, false) := by
  unfold trim
  rw [leaves_by h3 hx hy, h, if_neg (by decide)]
theorem trim_yes {a b : Nat → Int} {l : List (Nat → Int)} {x y : Cut} (h3 : ∀ s ∈ l, (partOf s a b).1 ≠ 3) (hx : TopZ (cuts 1 a b l) x) (hy : LowZ (cuts 2 a b l) y) (h : above x y = false) : trim a b l = (way a b x.1 x.2, way a b y.1 y.2, true) := by
  unfold trim
  rw [leaves_by h3 hx hy, h, if_pos (by decide), topZ_stand (fun u hu => cuts_fair (.inl rfl) hu) hx, lowZ_stand (fun u hu => cuts_fair (.inr rfl) hu) hy]
/-- The document's: one of the parts is above one of the others. -/
theorem trim_above {a b : Nat → Int} {l : List (Nat → Int)} {x y : Cut} (hx : x ∈ cuts 1 a b l) (hy : y ∈ cuts 2 a b l) (h : above x y = true) : trim a b l = (M.zero, M.zero, false) := by
  unfold trim
  rw [if_neg]
  rw [leaves_iff]
  intro hh
  have := hh.2 x hx y hy
  rw [h] at this
  cases this
theorem trim_left {a b : Nat → Int} {l : List (Nat → Int)} (h3 : ∀ s ∈ l, (partOf s a b).1 ≠ 3) (h : ∀ x ∈ cuts 1 a b l, ∀ y ∈ cuts 2 a b l, above x y = false) : trim a b l = (stand a b a (top (cuts 1 a b l)), stand a b b (low (cuts 2 a b l)), true) := by
  unfold trim
  rw [if_pos (leaves_iff.2 ⟨h3, h⟩)]
/-- Rounds over the parts: so far none was a greatest one, and it is as it was; or it is what stands there. -/
def Best (P : List Cut → Cut → Prop) (l : List Cut) (v t : Nat → Int) (k : Nat) (u : Nat → Int) : Prop := (u = v ∧ ∀ i x, i < k → l[i]? = some x → ¬ P l x) ∨ u = t
theorem Best.start {P : List Cut → Cut → Prop} {l : List Cut} {v t : Nat → Int} : Best P l v t 0 v := .inl ⟨rfl, fun i x h => absurd h (by omega)⟩
theorem Best.not {P : List Cut → Cut → Prop} {l : List Cut} {v t u : Nat → Int} {k : Nat} {x : Cut} (h : Best P l v t k u) (hx : l[k]? = some x) (hn : ¬ P l x) : Best P l v t (k + 1) u := by
  rcases h with ⟨h1, h2⟩ | h
  · refine .inl ⟨h1, fun i y hi hy => ?_⟩
    by_cases e : i = k
    · subst e
      have := hx.symm.trans hy
      obtain rfl := Option.some.inj this
      exact hn
    · exact h2 i y (by omega) hy
  · exact .inr h
theorem best_top {a b u : Nat → Int} {l : List Cut} (hf : ∀ y ∈ l, y.fair) (h : Best Top l a (stand a b a (top l)) l.length u) : u = stand a b a (top l) := by
  rcases h with ⟨rfl, h2⟩ | h
  · cases ht : top l with
    | none => rfl
    | some y =>
      have hy := top_is hf ht
      obtain ⟨i, hi⟩ := List.mem_iff_getElem?.1 hy.1
      exact absurd hy (h2 i y (List.getElem?_eq_some_iff.1 hi).1 hi)
  · exact h
theorem best_low {a b u : Nat → Int} {l : List Cut} (hf : ∀ y ∈ l, y.fair) (h : Best Low l b (stand a b b (low l)) l.length u) : u = stand a b b (low l) := by
  rcases h with ⟨rfl, h2⟩ | h
  · cases ht : low l with
    | none => rfl
    | some y =>
      have hy := low_is hf ht
      obtain ⟨i, hi⟩ := List.mem_iff_getElem?.1 hy.1
      exact absurd hy (h2 i y (List.getElem?_eq_some_iff.1 hi).1 hi)
  · exact h
/-- Of the parts ahead of k none is above it. -/
def noneB (f : Cut → Bool) (l : List Cut) (k : Nat) : Bool := (l.take k).all fun y => !f y
theorem noneB_step {f : Cut → Bool} {l : List Cut} {k : Nat} {y : Cut} (h : l[k]? = some y) : noneB f l (k + 1) = (noneB f l k && !f y) := by
  unfold noneB
  rw [List.take_add_one, h, List.all_append]
  simp
theorem noneB_top {l : List Cut} {x : Cut} (hx : x ∈ l) : noneB (fun y => above y x) l l.length = true ↔ Top l x := by
  unfold noneB Top
  rw [List.take_of_length_le (Nat.le_refl _), List.all_eq_true]
  simp [hx]
theorem noneB_low {l : List Cut} {x : Cut} (hx : x ∈ l) : noneB (fun y => above x y) l l.length = true ↔ Low l x := by
  unfold noneB Low
  rw [List.take_of_length_le (Nat.le_refl _), List.all_eq_true]
  simp [hx]
theorem cuts_len (k : Int) (a b : Nat → Int) (l : List (Nat → Int)) : (cuts k a b l).length ≤ l.length := by
  unfold cuts
  rw [List.length_map]
  exact List.length_filter_le _ _
theorem part_rng {s a b : Nat → Int} (hs : right s = true) (ha : fits a = true) (hb : fits b = true) : 0 ≤ (partOf s a b).2.1 ∧ (partOf s a b).2.1 ≤ 9007199254740992 ∧ 0 ≤ (partOf s a b).2.2 ∧ (partOf s a b).2.2 ≤ 18014398509481984 := by
  have h1 := dist_le hs ha
  have h2 := dist_le hs hb
  unfold partOf
  split
  · dsimp only; omega
  split
  · dsimp only; omega
  split
  · dsimp only; omega
  · dsimp only; omega
/-- Parts whose numbers are not large. -/
def Cut.low (x : Cut) : Prop := 0 ≤ x.1 ∧ x.1 ≤ 9007199254740992 ∧ 0 ≤ x.2 ∧ x.2 ≤ 18014398509481984
theorem cuts_low {k : Int} {a b : Nat → Int} {l : List (Nat → Int)} (hl : ∀ s ∈ l, right s = true) (ha : fits a = true) (hb : fits b = true) {x : Cut} (h : x ∈ cuts k a b l) : x.low := by
  obtain ⟨s, hs, _, rfl⟩ := cuts_mem.1 h
  exact part_rng (hl s hs) ha hb
theorem c01_low : c01.low := ⟨by decide, by decide, by decide, by decide⟩
theorem c11_low : c11.low := ⟨by decide, by decide, by decide, by decide⟩
end D
end Go.Proofs.Ytimfdimpifpclaa
