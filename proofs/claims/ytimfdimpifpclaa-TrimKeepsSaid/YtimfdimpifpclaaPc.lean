/- Plain: parts of ways, held against one another crosswise; what sides leave of a line. -/
import Derived.Test.YtimfdimpifpclaaL1
namespace Go.Proofs.Ytimfdimpifpclaa
set_option linter.unusedVariables false
namespace D
/-- A part of a way: what is divided, and by what. -/
abbrev Cut := Int × Int
def Cut.fair (x : Cut) : Prop := 1 ≤ x.2 ∧ 0 ≤ x.1 ∧ x.1 ≤ x.2
/-- Is a part greater than another one? -/
def above (x y : Cut) : Bool := decide (y.1 * x.2 < x.1 * y.2)
theorem above_iff {x y : Cut} : above x y = true ↔ y.1 * x.2 < x.1 * y.2 := by simp [above]
theorem above_no {x y : Cut} : above x y = false ↔ x.1 * y.2 ≤ y.1 * x.2 := by rw [← Bool.not_eq_true, above_iff]; omega
theorem above_self (x : Cut) : above x x = false := above_no.2 (Int.le_refl _)
/-- What isn't above one that isn't above a third one isn't above that. -/
theorem above_trans {x y z : Cut} (hx : x.fair) (hy : y.fair) (hz : z.fair) (h : above x y = false) (g : above y z = false) : above x z = false := by
  rw [above_no] at *
  have e1 := Int.mul_le_mul_of_nonneg_right h (show 0 ≤ z.2 by have := hz.1; omega)
  have e2 := Int.mul_le_mul_of_nonneg_right g (show 0 ≤ x.2 by have := hx.1; omega)
  refine Int.le_of_mul_le_mul_right (a := y.2) ?_ (by have := hy.1; omega)
  have a1 : x.1 * z.2 * y.2 = x.1 * y.2 * z.2 := by rw [Int.mul_assoc, Int.mul_comm z.2, ← Int.mul_assoc]
  have a2 : y.1 * x.2 * z.2 = y.1 * z.2 * x.2 := by rw [Int.mul_assoc, Int.mul_comm x.2, ← Int.mul_assoc]
  have a3 : z.1 * y.2 * x.2 = z.1 * x.2 * y.2 := by rw [Int.mul_assoc, Int.mul_comm y.2, ← Int.mul_assoc]
  omega
theorem above_tot {x y : Cut} (h : above x y = true) : above y x = false := by
  rw [above_iff] at h
  rw [above_no]
  omega
/-- At like parts the same stands. -/
theorem wt_like {a b : Int} {x y : Cut} (hx : x.fair) (hy : y.fair) (h : above x y = false) (g : above y x = false) : wt a b x.1 x.2 = wt a b y.1 y.2 := by
  rw [above_no] at h g
  have e : x.1 * y.2 = y.1 * x.2 := by omega
  unfold wt
  have h1 : (a * (x.2 - x.1) + b * x.1) * y.2 = (a * (y.2 - y.1) + b * y.1) * x.2 := by
    have c1 : (a * (x.2 - x.1) + b * x.1) * y.2 = a * (x.2 * y.2 - x.1 * y.2) + b * (x.1 * y.2) := by
      rw [Int.add_mul, Int.mul_assoc, Int.mul_assoc, Int.sub_mul]
    have c2 : (a * (y.2 - y.1) + b * y.1) * x.2 = a * (y.2 * x.2 - y.1 * x.2) + b * (y.1 * x.2) := by
      rw [Int.add_mul, Int.mul_assoc, Int.mul_assoc, Int.sub_mul]
    rw [c1, c2, e, Int.mul_comm x.2 y.2]
  rw [← Int.mul_ediv_mul_of_pos_left (a * (x.2 - x.1) + b * x.1) x.2 (show 0 < y.2 by have := hy.1; omega), h1, Int.mul_comm x.2 y.2, Int.mul_ediv_mul_of_pos_left _ _ (show 0 < x.2 by have := hx.1; omega)]
theorem way_like {a b : Nat → Int} {x y : Cut} (hx : x.fair) (hy : y.fair) (h : above x y = false) (g : above y x = false) : way a b x.1 x.2 = way a b y.1 y.2 := funext fun i => wt_like hx hy h g
/-- The part at which a line comes in at a side (1), or goes out (2); 0: it is inside, 3: outside. -/
def partOf (s a b : Nat → Int) : Int × Cut :=
  if 0 ≤ dist s a ∧ 0 ≤ dist s b then (0, 0, 0) else if dist s a < 0 ∧ dist s b < 0 then (3, 0, 0) else if dist s a < 0 then (1, 0 - dist s a, dist s b - dist s a) else (2, dist s a, dist s a - dist s b)
theorem part_kinds (s a b : Nat → Int) : (partOf s a b).1 = 0 ∨ (partOf s a b).1 = 1 ∨ (partOf s a b).1 = 2 ∨ (partOf s a b).1 = 3 := by
  unfold partOf
  split
  · exact .inl rfl
  split
  · exact .inr (.inr (.inr rfl))
  split
  · exact .inr (.inl rfl)
  · exact .inr (.inr (.inl rfl))
theorem part_fair {s a b : Nat → Int} (h : (partOf s a b).1 = 1 ∨ (partOf s a b).1 = 2) : Cut.fair (partOf s a b).2 := by
  unfold partOf at *
  split at h
  · omega
  rename_i h1
  rw [if_neg h1]
  split at h
  · omega
  rename_i h2
  rw [if_neg h2]
  split at h
  · rename_i h3
    rw [if_pos h3]
    exact ⟨by dsimp only; omega, by dsimp only; omega, by dsimp only; omega⟩
  · rename_i h3
    rw [if_neg h3]
    exact ⟨by dsimp only; omega, by dsimp only; omega, by dsimp only; omega⟩
/-- All parts of a kind. -/
def cuts (k : Int) (a b : Nat → Int) (l : List (Nat → Int)) : List Cut := (l.filter fun s => (partOf s a b).1 == k).map fun s => (partOf s a b).2
theorem cuts_mem {k : Int} {a b : Nat → Int} {l : List (Nat → Int)} {x : Cut} : x ∈ cuts k a b l ↔ ∃ s ∈ l, (partOf s a b).1 = k ∧ (partOf s a b).2 = x := by
  simp only [cuts, List.mem_map, List.mem_filter, beq_iff_eq]
  exact ⟨fun ⟨s, ⟨h1, h2⟩, h3⟩ => ⟨s, h1, h2, h3⟩, fun ⟨s, h1, h2, h3⟩ => ⟨s, ⟨h1, h2⟩, h3⟩⟩
theorem cuts_fair {k : Int} (hk : k = 1 ∨ k = 2) {a b : Nat → Int} {l : List (Nat → Int)} {x : Cut} (h : x ∈ cuts k a b l) : x.fair := by
  obtain ⟨s, _, h1, rfl⟩ := cuts_mem.1 h
  exact part_fair (by omega)
/-- A greatest one, a least one. -/
def Top (l : List Cut) (x : Cut) : Prop := x ∈ l ∧ ∀ y ∈ l, above y x = false
def Low (l : List Cut) (x : Cut) : Prop := x ∈ l ∧ ∀ y ∈ l, above x y = false
def top : List Cut → Option Cut
  | [] => none
  | x :: l => match top l with
    | none => some x
    | some y => if above x y = true then some x else some y
def low : List Cut → Option Cut
  | [] => none
  | x :: l => match low l with
    | none => some x
    | some y => if above y x = true then some x else some y
theorem top_none {l : List Cut} : top l = none ↔ l = [] := by
  cases l with
  | nil => simp [top]
  | cons x l =>
    simp only [top]
    split
    · simp
    · split <;> simp
theorem low_none {l : List Cut} : low l = none ↔ l = [] := by
  cases l with
  | nil => simp [low]
  | cons x l =>
    simp only [low]
    split
    · simp
    · split <;> simp
theorem top_is : ∀ {l : List Cut} {x : Cut}, (∀ y ∈ l, y.fair) → top l = some x → Top l x
  | [], x, _, h => by simp [top] at h
  | z :: l, x, hf, h => by
    simp only [top] at h
    cases ht : top l with
    | none =>
      rw [ht] at h
      obtain rfl := Option.some.inj h
      obtain rfl := top_none.1 ht
      exact ⟨List.mem_cons_self, fun y hy => by
        rcases List.mem_cons.1 hy with rfl | hy
        · exact above_self _
        · simp at hy⟩
    | some y =>
      rw [ht] at h
      have ih := top_is (l := l) (fun y hy => hf y (List.mem_cons_of_mem _ hy)) ht
      dsimp only at h
      split at h
      · rename_i hab
        obtain rfl := Option.some.inj h
        refine ⟨List.mem_cons_self, fun u hu => ?_⟩
        rcases List.mem_cons.1 hu with rfl | hu
        · exact above_self _
        · exact above_trans (hf u (List.mem_cons_of_mem _ hu)) (hf y (List.mem_cons_of_mem _ ih.1)) (hf z List.mem_cons_self) (ih.2 u hu) (above_tot hab)
      · rename_i hab
        obtain rfl := Option.some.inj h
        refine ⟨List.mem_cons_of_mem _ ih.1, fun u hu => ?_⟩
        rcases List.mem_cons.1 hu with rfl | hu
        · exact Bool.eq_false_iff.2 hab
        · exact ih.2 u hu
theorem low_is : ∀ {l : List Cut} {x : Cut}, (∀ y ∈ l, y.fair) → low l = some x → Low l x
  | [], x, _, h => by simp [low] at h
  | z :: l, x, hf, h => by
    simp only [low] at h
    cases ht : low l with
    | none =>
      rw [ht] at h
      obtain rfl := Option.some.inj h
      obtain rfl := low_none.1 ht
      exact ⟨List.mem_cons_self, fun y hy => by
        rcases List.mem_cons.1 hy with rfl | hy
        · exact above_self _
        · simp at hy⟩
    | some y =>
      rw [ht] at h
      have ih := low_is (l := l) (fun y hy => hf y (List.mem_cons_of_mem _ hy)) ht
      dsimp only at h
      split at h
      · rename_i hab
        obtain rfl := Option.some.inj h
        refine ⟨List.mem_cons_self, fun u hu => ?_⟩
        rcases List.mem_cons.1 hu with rfl | hu
        · exact above_self _
        · exact above_trans (hf z List.mem_cons_self) (hf y (List.mem_cons_of_mem _ ih.1)) (hf u (List.mem_cons_of_mem _ hu)) (above_tot hab) (ih.2 u hu)
      · rename_i hab
        obtain rfl := Option.some.inj h
        refine ⟨List.mem_cons_of_mem _ ih.1, fun u hu => ?_⟩
        rcases List.mem_cons.1 hu with rfl | hu
        · exact Bool.eq_false_iff.2 hab
        · exact ih.2 u hu
/-- What stands at a part; at none: this. -/
def stand (a b v : Nat → Int) : Option Cut → (Nat → Int)
  | none => v
  | some x => way a b x.1 x.2
theorem stand_top {a b v : Nat → Int} {l : List Cut} (hf : ∀ y ∈ l, y.fair) {x : Cut} (hx : Top l x) : stand a b v (top l) = way a b x.1 x.2 := by
  cases ht : top l with
  | none =>
    obtain rfl := top_none.1 ht
    have := hx.1
    simp at this
  | some y =>
    have hy := top_is hf ht
    exact way_like (hf y hy.1) (hf x hx.1) (hx.2 y hy.1) (hy.2 x hx.1)
theorem stand_low {a b v : Nat → Int} {l : List Cut} (hf : ∀ y ∈ l, y.fair) {x : Cut} (hx : Low l x) : stand a b v (low l) = way a b x.1 x.2 := by
  cases ht : low l with
  | none =>
    obtain rfl := low_none.1 ht
    have := hx.1
    simp at this
  | some y =>
    have hy := low_is hf ht
    exact way_like (hf y hy.1) (hf x hx.1) (hy.2 x hx.1) (hx.2 y hy.1)
/-- Is anything left? -/
def leaves (a b : Nat → Int) (l : List (Nat → Int)) : Bool := (l.all fun s => !((partOf s a b).1 == 3)) && (cuts 1 a b l).all fun x => (cuts 2 a b l).all fun y => !above x y
/-- What sides leave of a line. -/
def trim (a b : Nat → Int) (l : List (Nat → Int)) : (Nat → Int) × (Nat → Int) × Bool :=
  if leaves a b l = true then (stand a b a (top (cuts 1 a b l)), stand a b b (low (cuts 2 a b l)), true) else (M.zero, M.zero, false)
theorem leaves_iff {a b : Nat → Int} {l : List (Nat → Int)} : leaves a b l = true ↔ (∀ s ∈ l, (partOf s a b).1 ≠ 3) ∧ ∀ x ∈ cuts 1 a b l, ∀ y ∈ cuts 2 a b l, above x y = false := by
  simp [leaves, List.all_eq_true]
/-- Lists with the same sides leave the same. -/
theorem cuts_same {k : Int} {a b : Nat → Int} {l m : List (Nat → Int)} (h : ∀ s, s ∈ l ↔ s ∈ m) (x : Cut) : x ∈ cuts k a b l ↔ x ∈ cuts k a b m := by
  rw [cuts_mem, cuts_mem]
  exact ⟨fun ⟨s, h1, h2⟩ => ⟨s, (h s).1 h1, h2⟩, fun ⟨s, h1, h2⟩ => ⟨s, (h s).2 h1, h2⟩⟩
theorem top_same {a b v : Nat → Int} {l m : List Cut} (hf : ∀ y ∈ l, y.fair) (h : ∀ x, x ∈ l ↔ x ∈ m) : stand a b v (top l) = stand a b v (top m) := by
  have hg : ∀ y ∈ m, y.fair := fun y hy => hf y ((h y).2 hy)
  cases ht : top m with
  | none =>
    obtain rfl := top_none.1 ht
    have : l = [] := List.eq_nil_iff_forall_not_mem.2 fun x hx => by simpa using (h x).1 hx
    subst this
    rfl
  | some y =>
    have hy := top_is hg ht
    exact stand_top hf ⟨(h y).2 hy.1, fun u hu => hy.2 u ((h u).1 hu)⟩
theorem low_same {a b v : Nat → Int} {l m : List Cut} (hf : ∀ y ∈ l, y.fair) (h : ∀ x, x ∈ l ↔ x ∈ m) : stand a b v (low l) = stand a b v (low m) := by
  have hg : ∀ y ∈ m, y.fair := fun y hy => hf y ((h y).2 hy)
  cases ht : low m with
  | none =>
    obtain rfl := low_none.1 ht
    have : l = [] := List.eq_nil_iff_forall_not_mem.2 fun x hx => by simpa using (h x).1 hx
    subst this
    rfl
  | some y =>
    have hy := low_is hg ht
    exact stand_low hf ⟨(h y).2 hy.1, fun u hu => hy.2 u ((h u).1 hu)⟩
theorem trim_same {a b : Nat → Int} {l m : List (Nat → Int)} (h : ∀ s, s ∈ l ↔ s ∈ m) : trim a b l = trim a b m := by
  have e : leaves a b l = leaves a b m := by
    rw [Bool.eq_iff_iff, leaves_iff, leaves_iff]
    exact ⟨fun ⟨h1, h2⟩ => ⟨fun s hs => h1 s ((h s).2 hs), fun x hx y hy => h2 x ((cuts_same h x).2 hx) y ((cuts_same h y).2 hy)⟩,
      fun ⟨h1, h2⟩ => ⟨fun s hs => h1 s ((h s).1 hs), fun x hx y hy => h2 x ((cuts_same h x).1 hx) y ((cuts_same h y).1 hy)⟩⟩
  unfold trim
  rw [e, top_same (fun y hy => cuts_fair (.inl rfl) hy) (cuts_same h), low_same (fun y hy => cuts_fair (.inr rfl) hy) (cuts_same h)]
/-- The other way round. -/
def Cut.back (x : Cut) : Cut := (x.2 - x.1, x.2)
theorem back_above (x y : Cut) : above x.back y.back = above y x := by
  rw [Bool.eq_iff_iff, above_iff, above_iff]
  simp only [Cut.back, Int.sub_mul]
  rw [Int.mul_comm y.2 x.2]
  omega
theorem way_turn {a b : Nat → Int} {x : Cut} : way b a x.back.1 x.back.2 = way a b x.1 x.2 := funext fun i => by
  simp only [way, Cut.back]
  exact wt_back _ _ _ _
theorem part_turn (s a b : Nat → Int) : ((partOf s b a).1 = 0 ↔ (partOf s a b).1 = 0) ∧ ((partOf s b a).1 = 3 ↔ (partOf s a b).1 = 3) ∧ ((partOf s b a).1 = 1 ↔ (partOf s a b).1 = 2) ∧ ((partOf s b a).1 = 2 ↔ (partOf s a b).1 = 1) ∧
    ((partOf s a b).1 = 1 ∨ (partOf s a b).1 = 2 → (partOf s b a).2 = Cut.back (partOf s a b).2) := by
  unfold partOf Cut.back
  by_cases h1 : 0 ≤ dist s a <;> by_cases h2 : 0 ≤ dist s b
  · simp [h1, h2]
  · simp [h1, h2, show ¬ dist s a < 0 by omega, show dist s b < 0 by omega]
    omega
  · simp [h1, h2, show dist s a < 0 by omega, show ¬ dist s b < 0 by omega]
  · simp [h1, h2, show dist s a < 0 by omega, show dist s b < 0 by omega]
theorem cuts_turn {a b : Nat → Int} {l : List (Nat → Int)} (x : Cut) : (x ∈ cuts 1 b a l ↔ ∃ y ∈ cuts 2 a b l, x = y.back) ∧ (x ∈ cuts 2 b a l ↔ ∃ y ∈ cuts 1 a b l, x = y.back) := by
  simp only [cuts_mem]
  refine ⟨⟨fun ⟨s, h1, h2, h3⟩ => ?_, fun ⟨y, ⟨s, h1, h2, h3⟩, h4⟩ => ?_⟩, ⟨fun ⟨s, h1, h2, h3⟩ => ?_, fun ⟨y, ⟨s, h1, h2, h3⟩, h4⟩ => ?_⟩⟩
  all_goals obtain ⟨t0, t3, t1, t2, tb⟩ := part_turn s a b
  · exact ⟨_, ⟨s, h1, t1.1 h2, rfl⟩, by rw [← h3, tb (.inr (t1.1 h2))]⟩
  · exact ⟨s, h1, t1.2 h2, by rw [tb (.inr h2), h3, h4]⟩
  · exact ⟨_, ⟨s, h1, t2.1 h2, rfl⟩, by rw [← h3, tb (.inl (t2.1 h2))]⟩
  · exact ⟨s, h1, t2.2 h2, by rw [tb (.inl h2), h3, h4]⟩
/-- From the other end the same is left, the other way round. -/
theorem trim_turn (a b : Nat → Int) (l : List (Nat → Int)) : trim b a l = ((trim a b l).2.1, (trim a b l).1, (trim a b l).2.2) := by
  have e : leaves b a l = leaves a b l := by
    rw [Bool.eq_iff_iff, leaves_iff, leaves_iff]
    constructor
    · rintro ⟨h1, h2⟩
      exact ⟨fun s hs h => h1 s hs ((part_turn s a b).2.1.2 h), fun x hx y hy => by
        have := h2 y.back ((cuts_turn _).1.2 ⟨y, hy, rfl⟩) x.back ((cuts_turn _).2.2 ⟨x, hx, rfl⟩)
        rwa [back_above] at this⟩
    · rintro ⟨h1, h2⟩
      exact ⟨fun s hs h => h1 s hs ((part_turn s a b).2.1.1 h), fun x hx y hy => by
        obtain ⟨x', hx', rfl⟩ := (cuts_turn _).1.1 hx
        obtain ⟨y', hy', rfl⟩ := (cuts_turn _).2.1 hy
        rw [back_above]
        exact h2 y' hy' x' hx'⟩
  have f1 : ∀ y ∈ cuts 1 b a l, y.fair := fun y hy => cuts_fair (.inl rfl) hy
  have f2 : ∀ y ∈ cuts 2 b a l, y.fair := fun y hy => cuts_fair (.inr rfl) hy
  have g1 : ∀ y ∈ cuts 1 a b l, y.fair := fun y hy => cuts_fair (.inl rfl) hy
  have g2 : ∀ y ∈ cuts 2 a b l, y.fair := fun y hy => cuts_fair (.inr rfl) hy
  have s1 : stand b a b (top (cuts 1 b a l)) = stand a b b (low (cuts 2 a b l)) := by
    cases ht : low (cuts 2 a b l) with
    | none =>
      have h0 := low_none.1 ht
      have : cuts 1 b a l = [] := List.eq_nil_iff_forall_not_mem.2 fun x hx => by
        obtain ⟨y, hy, _⟩ := (cuts_turn x).1.1 hx
        rw [h0] at hy
        simp at hy
      rw [this]
      rfl
    | some y =>
      have hy := low_is g2 ht
      have : Top (cuts 1 b a l) y.back := ⟨(cuts_turn _).1.2 ⟨y, hy.1, rfl⟩, fun u hu => by
        obtain ⟨u', hu', rfl⟩ := (cuts_turn _).1.1 hu
        rw [back_above]
        exact hy.2 u' hu'⟩
      rw [stand_top f1 this, way_turn]
      rfl
  have s2 : stand b a a (low (cuts 2 b a l)) = stand a b a (top (cuts 1 a b l)) := by
    cases ht : top (cuts 1 a b l) with
    | none =>
      have h0 := top_none.1 ht
      have : cuts 2 b a l = [] := List.eq_nil_iff_forall_not_mem.2 fun x hx => by
        obtain ⟨y, hy, _⟩ := (cuts_turn x).2.1 hx
        rw [h0] at hy
        simp at hy
      rw [this]
      rfl
    | some y =>
      have hy := top_is g1 ht
      have : Low (cuts 2 b a l) y.back := ⟨(cuts_turn _).2.2 ⟨y, hy.1, rfl⟩, fun u hu => by
        obtain ⟨u', hu', rfl⟩ := (cuts_turn _).2.1 hu
        rw [back_above]
        exact hy.2 u' hu'⟩
      rw [stand_low f2 this, way_turn]
      rfl
  unfold trim
  rw [e]
  split
  · rw [s1, s2]
  · rfl
/-- An end that is inside all sides stays. -/
theorem trim_first {a b : Nat → Int} {l : List (Nat → Int)} (h : ∀ s ∈ l, 0 ≤ dist s a) (hk : leaves a b l = true) : (trim a b l).1 = a := by
  have : cuts 1 a b l = [] := List.eq_nil_iff_forall_not_mem.2 fun x hx => by
    obtain ⟨s, hs, h1, _⟩ := cuts_mem.1 hx
    have := h s hs
    unfold partOf at h1
    split at h1
    · omega
    split at h1
    · omega
    split at h1
    · omega
    · omega
  unfold trim
  rw [if_pos hk, this]
  rfl
theorem trim_last {a b : Nat → Int} {l : List (Nat → Int)} (h : ∀ s ∈ l, 0 ≤ dist s b) (hk : leaves a b l = true) : (trim a b l).2.1 = b := by
  have : cuts 2 a b l = [] := List.eq_nil_iff_forall_not_mem.2 fun x hx => by
    obtain ⟨s, hs, h1, _⟩ := cuts_mem.1 hx
    have := h s hs
    unfold partOf at h1
    split at h1
    · omega
    split at h1
    · omega
    split at h1
    · omega
    · omega
  unfold trim
  rw [if_pos hk, this]
  rfl
theorem leaves_in {a b : Nat → Int} {l : List (Nat → Int)} (h : ∀ s ∈ l, 0 ≤ dist s a) (g : ∀ s ∈ l, 0 ≤ dist s b) : leaves a b l = true := by
  have hz : ∀ s ∈ l, (partOf s a b).1 = 0 := fun s hs => by unfold partOf; rw [if_pos ⟨h s hs, g s hs⟩]
  refine leaves_iff.2 ⟨fun s hs => by rw [hz s hs]; decide, fun x hx => ?_⟩
  obtain ⟨s, hs, h1, _⟩ := cuts_mem.1 hx
  rw [hz s hs] at h1
  cases h1
end D
end Go.Proofs.Ytimfdimpifpclaa
