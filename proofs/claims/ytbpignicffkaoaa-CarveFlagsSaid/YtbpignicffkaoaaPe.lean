/- Plain: polygons cut at sides, one side behind the other. -/
import Derived.Test.YtbpignicffkaoaaL1
namespace Go.Proofs.Ytbpignicffkaoaa
set_option linter.unusedVariables false
namespace C
/-- A vertex and its flag. -/
abbrev PV := (Nat → Int) × Bool
/-- Each one with the one that follows; the last one with z. -/
def pairs : List PV → PV → List (PV × PV)
  | [], _ => []
  | [x], z => [(x, z)]
  | x :: y :: l, z => (x, y) :: pairs (y :: l) z
/-- The sides of a polygon. -/
def edges : List PV → List (PV × PV)
  | [] => []
  | x :: l => pairs (x :: l) x
theorem pairs_len : ∀ (l : List PV) (z : PV), (pairs l z).length = l.length
  | [], _ => rfl
  | [x], z => rfl
  | x :: y :: l, z => by rw [pairs, List.length_cons, pairs_len (y :: l) z, ← List.length_cons]
theorem edges_len (l : List PV) : (edges l).length = l.length := by
  cases l with
  | nil => rfl
  | cons x l => exact pairs_len _ _
theorem pairs_get : ∀ {l : List PV} {z x : PV} {i : Nat}, l[i]? = some x → (pairs l z)[i]? = some (x, l[i + 1]?.getD z)
  | [u], z, x, 0, h => by
    obtain rfl : u = x := by simpa using h
    rfl
  | [u], z, x, i + 1, h => by simp at h
  | u :: v :: l, z, x, 0, h => by
    obtain rfl : u = x := by simpa using h
    rfl
  | u :: v :: l, z, x, i + 1, h => by
    rw [pairs, List.getElem?_cons_succ, List.getElem?_cons_succ]
    exact pairs_get (l := v :: l) (by simpa using h)
/-- The next one of a row that begins anew behind its end. -/
theorem edges_get {l : List PV} {x y : PV} {i : Nat} (h : l[i]? = some x) (g : l[(i + 1) % l.length]? = some y) : (edges l)[i]? = some (x, y) := by
  have hi := (List.getElem?_eq_some_iff.1 h).1
  cases l with
  | nil => simp at h
  | cons u l =>
    rw [edges, pairs_get h]
    congr 2
    by_cases e : i + 1 < (u :: l).length
    · rw [Nat.mod_eq_of_lt e] at g
      rw [g]
      rfl
    · have : i + 1 = (u :: l).length := by omega
      rw [this, Nat.mod_self] at g
      rw [this, List.getElem?_eq_none (Nat.le_refl _)]
      simpa using g
theorem pairs_app : ∀ (a : List PV) (y : PV) (b : List PV) (z : PV), pairs (a ++ y :: b) z = pairs a y ++ pairs (y :: b) z
  | [], y, b, z => rfl
  | [x], y, b, z => rfl
  | x :: u :: a, y, b, z => by
    show (x, u) :: pairs (u :: (a ++ y :: b)) z = (x, u) :: pairs (u :: a) y ++ pairs (y :: b) z
    rw [show u :: (a ++ y :: b) = (u :: a) ++ y :: b from rfl, pairs_app (u :: a) y b z]
    rfl
/-- The same round, from another one on. -/
def Rot {α : Type} (l m : List α) : Prop := ∃ a b, l = a ++ b ∧ m = b ++ a
theorem Rot.refl {α : Type} (l : List α) : Rot l l := ⟨l, [], by simp, by simp⟩
theorem edges_rot {l m : List PV} (h : Rot l m) : Rot (edges l) (edges m) := by
  obtain ⟨a, b, rfl, rfl⟩ := h
  cases a with
  | nil => rw [List.append_nil, List.nil_append]; exact Rot.refl _
  | cons x a =>
    cases b with
    | nil => rw [List.append_nil, List.nil_append]; exact Rot.refl _
    | cons y b =>
      refine ⟨pairs (x :: a) y, pairs (y :: b) x, ?_, ?_⟩
      · rw [List.cons_append, edges, ← List.cons_append, pairs_app]
      · rw [List.cons_append, edges, ← List.cons_append, pairs_app]
theorem flat_rot {α β : Type} (f : α → List β) {l m : List α} (h : Rot l m) : Rot (l.flatMap f) (m.flatMap f) := by
  obtain ⟨a, b, rfl, rfl⟩ := h
  exact ⟨a.flatMap f, b.flatMap f, by simp, by simp⟩
theorem Rot.len {α : Type} {l m : List α} (h : Rot l m) : l.length = m.length := by
  obtain ⟨a, b, rfl, rfl⟩ := h
  simp [Nat.add_comm]
theorem Rot.mem {α : Type} {l m : List α} (h : Rot l m) (x : α) : x ∈ l ↔ x ∈ m := by
  obtain ⟨a, b, rfl, rfl⟩ := h
  simp [or_comm]
theorem Rot.at {α : Type} {l m : List α} (h : Rot l m) (hl : l ≠ []) : ∃ k, k < l.length ∧ m = l.drop k ++ l.take k := by
  obtain ⟨a, b, rfl, rfl⟩ := h
  cases b with
  | nil =>
    refine ⟨0, ?_, by simp⟩
    rw [List.append_nil] at *
    exact List.length_pos_iff.2 hl
  | cons y b => exact ⟨a.length, by simp, by simp⟩
/-- What comes of a vertex, with the next one. -/
def step (s : Nat → Int) (x : PV × PV) : List PV :=
  if 0 ≤ D.dist s x.1.1 then (if D.dist s x.2.1 < 0 then [x.1, (D.way x.1.1 x.2.1 (D.dist s x.1.1) (D.dist s x.1.1 - D.dist s x.2.1), true)] else [x.1])
  else if 0 ≤ D.dist s x.2.1 then [(D.way x.2.1 x.1.1 (D.dist s x.2.1) (D.dist s x.2.1 - D.dist s x.1.1), x.1.2)] else []
theorem step_in {s : Nat → Int} {p q : PV} (h : 0 ≤ D.dist s p.1) (g : 0 ≤ D.dist s q.1) : step s (p, q) = [p] := by simp [step, h, show ¬ D.dist s q.1 < 0 by omega]
theorem step_goes {s : Nat → Int} {p q : PV} (h : 0 ≤ D.dist s p.1) (g : D.dist s q.1 < 0) : step s (p, q) = [p, (D.way p.1 q.1 (D.dist s p.1) (D.dist s p.1 - D.dist s q.1), true)] := by simp [step, h, g]
theorem step_comes {s : Nat → Int} {p q : PV} (h : D.dist s p.1 < 0) (g : 0 ≤ D.dist s q.1) : step s (p, q) = [(D.way q.1 p.1 (D.dist s q.1) (D.dist s q.1 - D.dist s p.1), p.2)] := by simp [step, g, show ¬ 0 ≤ D.dist s p.1 by omega]
theorem step_out {s : Nat → Int} {p q : PV} (h : D.dist s p.1 < 0) (g : D.dist s q.1 < 0) : step s (p, q) = [] := by simp [step, show ¬ 0 ≤ D.dist s p.1 by omega, show ¬ 0 ≤ D.dist s q.1 by omega]
def all (s : Nat → Int) (l : List PV) : List PV := (edges l).flatMap (step s)
/-- Fewer than three are none. -/
def three (l : List PV) : List PV := if l.length < 3 then [] else l
def cut (s : Nat → Int) (l : List PV) : List PV := three (all s l)
def carve (sides : List (Nat → Int)) (l : List PV) : List PV := sides.foldl (fun l s => cut s l) l
theorem carve_one {sides : List (Nat → Int)} {l : List PV} {k : Nat} {s : Nat → Int} (h : sides[k]? = some s) : carve (sides.take (k + 1)) l = cut s (carve (sides.take k) l) := by
  rw [List.take_add_one, h]
  simp [carve]
theorem step_len (s : Nat → Int) (x : PV × PV) : (step s x).length ≤ 2 := by
  unfold step
  split
  · split <;> simp
  · split <;> simp
theorem flat_le {α β : Type} (f : α → List β) (n : Nat) (hf : ∀ x, (f x).length ≤ n) : ∀ l : List α, (l.flatMap f).length ≤ n * l.length
  | [] => by simp
  | x :: l => by
    have := flat_le f n hf l
    have h := hf x
    rw [List.flatMap_cons, List.length_append, List.length_cons, Nat.mul_add]
    omega
theorem all_len (s : Nat → Int) (l : List PV) : (all s l).length ≤ 2 * l.length := by
  have := flat_le (step s) 2 (step_len s) (edges l)
  rwa [edges_len] at this
theorem three_len (l : List PV) : (three l).length ≤ l.length := by
  unfold three
  split <;> simp
theorem cut_len (s : Nat → Int) (l : List PV) : (cut s l).length ≤ 2 * l.length := Nat.le_trans (three_len _) (all_len s l)
theorem carve_len : ∀ (sides : List (Nat → Int)) (l : List PV), (carve sides l).length ≤ 2 ^ sides.length * l.length
  | [], l => by simp [carve]
  | s :: sides, l => by
    have h1 := carve_len sides (cut s l)
    have h2 := cut_len s l
    have h3 := Nat.mul_le_mul_left (2 ^ sides.length) h2
    show (carve sides (cut s l)).length ≤ _
    rw [List.length_cons, Nat.pow_succ, Nat.mul_assoc]
    exact Nat.le_trans h1 h3
/-- Vertices that fit. -/
def Fit (l : List PV) : Prop := ∀ x ∈ l, D.fits x.1 = true
theorem pairs_mem : ∀ {l : List PV} {z : PV} {x : PV × PV}, x ∈ pairs l z → x.1 ∈ l ∧ (x.2 ∈ l ∨ x.2 = z)
  | [u], z, x, h => by
    obtain rfl : x = (u, z) := by simpa [pairs] using h
    exact ⟨by simp, .inr rfl⟩
  | u :: v :: l, z, x, h => by
    rw [pairs] at h
    rcases List.mem_cons.1 h with rfl | h
    · exact ⟨by simp, .inl (by simp)⟩
    · obtain ⟨h1, h2⟩ := pairs_mem (l := v :: l) h
      exact ⟨List.mem_cons_of_mem _ h1, h2.imp (List.mem_cons_of_mem _) id⟩
theorem edges_mem {l : List PV} {x : PV × PV} (h : x ∈ edges l) : x.1 ∈ l ∧ x.2 ∈ l := by
  cases l with
  | nil => simp [edges] at h
  | cons u l =>
    obtain ⟨h1, h2⟩ := pairs_mem h
    exact ⟨h1, h2.elim id (fun e => by rw [e]; simp)⟩
theorem step_fit {s : Nat → Int} {p q : PV} (hp : D.fits p.1 = true) (hq : D.fits q.1 = true) : Fit (step s (p, q)) := by
  intro x hx
  rcases (by omega : D.dist s p.1 < 0 ∨ 0 ≤ D.dist s p.1) with h | h <;> rcases (by omega : D.dist s q.1 < 0 ∨ 0 ≤ D.dist s q.1) with g | g
  · rw [step_out h g] at hx
    simp at hx
  · rw [step_comes h g] at hx
    obtain rfl := List.mem_singleton.1 hx
    exact D.way_fits (D.okAt_iff.2 ⟨hq, hp, by omega, by omega, by omega⟩)
  · rw [step_goes h g] at hx
    rcases List.mem_cons.1 hx with rfl | hx
    · exact hp
    · obtain rfl := List.mem_singleton.1 hx
      exact D.way_fits (D.okAt_iff.2 ⟨hp, hq, by omega, by omega, by omega⟩)
  · rw [step_in h g] at hx
    obtain rfl := List.mem_singleton.1 hx
    exact hp
theorem three_mem {l : List PV} {x : PV} (h : x ∈ three l) : x ∈ l := by
  unfold three at h
  split at h
  · simp at h
  · exact h
theorem cut_fit {s : Nat → Int} {l : List PV} (h : Fit l) : Fit (cut s l) := by
  intro x hx
  obtain ⟨e, he, hx⟩ := List.mem_flatMap.1 (three_mem hx)
  obtain ⟨h1, h2⟩ := edges_mem he
  exact step_fit (h _ h1) (h _ h2) x hx
theorem carve_fit : ∀ {sides : List (Nat → Int)} {l : List PV}, Fit l → Fit (carve sides l)
  | [], l, h => h
  | s :: sides, l, h => carve_fit (sides := sides) (cut_fit h)
/-- Inside the side: it stays. -/
theorem flat_id {α : Type} (f : PV × PV → List PV) : ∀ (l : List PV) (z : PV), (∀ x ∈ pairs l z, f x = [x.1]) → (pairs l z).flatMap f = l
  | [], z, h => rfl
  | [u], z, h => by simp [pairs, h (u, z) (by simp [pairs])]
  | u :: v :: l, z, h => by
    rw [pairs, List.flatMap_cons, h (u, v) (by simp [pairs]), flat_id (α := α) f (v :: l) z (fun x hx => h x (by rw [pairs]; exact List.mem_cons_of_mem _ hx))]
    rfl
theorem all_in {s : Nat → Int} {l : List PV} (h : ∀ x ∈ l, 0 ≤ D.dist s x.1) : all s l = l := by
  cases l with
  | nil => rfl
  | cons u l =>
    refine flat_id (α := PV) (step s) (u :: l) u fun x hx => ?_
    obtain ⟨h1, h2⟩ := edges_mem (l := u :: l) hx
    exact step_in (h _ h1) (h _ h2)
theorem cut_in {s : Nat → Int} {l : List PV} (h : ∀ x ∈ l, 0 ≤ D.dist s x.1) (h3 : 3 ≤ l.length) : cut s l = l := by
  unfold cut three
  rw [all_in h, if_neg (by omega)]
theorem all_out {s : Nat → Int} {l : List PV} (h : ∀ x ∈ l, D.dist s x.1 < 0) : all s l = [] := by
  unfold all
  rw [List.flatMap_eq_nil_iff]
  intro x hx
  obtain ⟨h1, h2⟩ := edges_mem hx
  exact step_out (h _ h1) (h _ h2)
theorem cut_out {s : Nat → Int} {l : List PV} (h : ∀ x ∈ l, D.dist s x.1 < 0) : cut s l = [] := by
  unfold cut
  rw [all_out h]
  rfl
theorem cut_nil (s : Nat → Int) : cut s [] = [] := rfl
theorem carve_nil : ∀ sides : List (Nat → Int), carve sides [] = []
  | [] => rfl
  | s :: sides => carve_nil sides
theorem carve_in : ∀ {sides : List (Nat → Int)} {l : List PV}, (∀ s ∈ sides, ∀ x ∈ l, 0 ≤ D.dist s x.1) → 3 ≤ l.length → carve sides l = l
  | [], l, h, h3 => rfl
  | s :: sides, l, h, h3 => by
    show carve sides (cut s l) = l
    rw [cut_in (h s List.mem_cons_self) h3]
    exact carve_in (fun t ht => h t (List.mem_cons_of_mem _ ht)) h3
theorem carve_app (a b : List (Nat → Int)) (l : List PV) : carve (a ++ b) l = carve b (carve a l) := by simp [carve]
/-- Inside all sides ahead of one that it is outside of: it is gone. -/
theorem carve_gone {sides : List (Nat → Int)} {l : List PV} {k : Nat} {s : Nat → Int} (hs : sides[k]? = some s) (h : ∀ t ∈ sides.take k, ∀ x ∈ l, 0 ≤ D.dist t x.1) (g : ∀ x ∈ l, D.dist s x.1 < 0) (h3 : 3 ≤ l.length) : carve sides l = [] := by
  have e : sides = sides.take (k + 1) ++ sides.drop (k + 1) := (List.take_append_drop _ _).symm
  rw [e, carve_app, carve_one hs, carve_in h h3, cut_out g, carve_nil]
/-- Flags that are all set stay so. -/
def On (l : List PV) : Prop := ∀ x ∈ l, x.2 = true
theorem step_on {s : Nat → Int} {p q : PV} (hp : p.2 = true) : On (step s (p, q)) := by
  intro x hx
  rcases (by omega : D.dist s p.1 < 0 ∨ 0 ≤ D.dist s p.1) with h | h <;> rcases (by omega : D.dist s q.1 < 0 ∨ 0 ≤ D.dist s q.1) with g | g
  · rw [step_out h g] at hx
    simp at hx
  · rw [step_comes h g] at hx
    obtain rfl := List.mem_singleton.1 hx
    exact hp
  · rw [step_goes h g] at hx
    rcases List.mem_cons.1 hx with rfl | hx
    · exact hp
    · obtain rfl := List.mem_singleton.1 hx
      rfl
  · rw [step_in h g] at hx
    obtain rfl := List.mem_singleton.1 hx
    exact hp
theorem cut_on {s : Nat → Int} {l : List PV} (h : On l) : On (cut s l) := by
  intro x hx
  obtain ⟨e, he, hx⟩ := List.mem_flatMap.1 (three_mem hx)
  exact step_on (h _ (edges_mem he).1) x hx
theorem carve_on : ∀ {sides : List (Nat → Int)} {l : List PV}, On l → On (carve sides l)
  | [], l, h => h
  | s :: sides, l, h => carve_on (sides := sides) (cut_on h)
theorem three_or (l : List PV) : three l = [] ∨ 3 ≤ (three l).length := by
  unfold three
  split
  · exact .inl rfl
  · exact .inr (by omega)
/-- Three at least, or none. -/
theorem carve_three : ∀ {sides : List (Nat → Int)} {l : List PV}, 3 ≤ l.length → carve sides l = [] ∨ 3 ≤ (carve sides l).length
  | [], l, h => .inr h
  | s :: sides, l, h => by
    show carve sides (cut s l) = [] ∨ 3 ≤ (carve sides (cut s l)).length
    rcases three_or (all s l) with e | e
    · left
      unfold cut
      rw [e]
      exact carve_nil _
    · exact carve_three e
theorem cut_rot {s : Nat → Int} {l m : List PV} (h : Rot l m) : Rot (cut s l) (cut s m) := by
  have h1 := flat_rot (step s) (edges_rot h)
  unfold cut three all
  rw [← h1.len]
  split
  · exact Rot.refl _
  · exact h1
theorem carve_rot : ∀ {sides : List (Nat → Int)} {l m : List PV}, Rot l m → Rot (carve sides l) (carve sides m)
  | [], l, m, h => h
  | s :: sides, l, m, h => carve_rot (sides := sides) (cut_rot h)
/-- The rounds of one cut: what has come of the first k. -/
def some_ (s : Nat → Int) (l : List PV) (k : Nat) : List PV := ((edges l).take k).flatMap (step s)
theorem some_0 (s : Nat → Int) (l : List PV) : some_ s l 0 = [] := rfl
theorem some_step {s : Nat → Int} {l : List PV} {k : Nat} {p q : PV} (hp : l[k]? = some p) (hq : l[(k + 1) % l.length]? = some q) : some_ s l (k + 1) = some_ s l k ++ step s (p, q) := by
  unfold some_
  rw [List.take_add_one, edges_get hp hq, List.flatMap_append]
  simp
theorem some_end (s : Nat → Int) (l : List PV) : some_ s l l.length = all s l := by
  unfold some_ all
  rw [List.take_of_length_le (by rw [edges_len]; exact Nat.le_refl _)]
theorem some_len (s : Nat → Int) (l : List PV) (k : Nat) : (some_ s l k).length ≤ 2 * l.length := by
  have h := flat_le (step s) 2 (step_len s) ((edges l).take k)
  have : ((edges l).take k).length ≤ l.length := by rw [List.length_take, edges_len]; omega
  unfold some_
  omega
/-- Vertices and flags, apart and together. -/
def vs (l : List PV) : List (Nat → Int) := l.map (·.1)
def fs (l : List PV) : List Bool := l.map (·.2)
theorem zip_vs : ∀ {l : List (Nat → Int)} {e : List Bool}, l.length = e.length → vs (l.zip e) = l
  | [], [], _ => rfl
  | x :: l, y :: e, h => by
    have := zip_vs (l := l) (e := e) (by simpa using h)
    simp only [vs, List.zip_cons_cons, List.map_cons] at this ⊢
    rw [this]
theorem zip_fs : ∀ {l : List (Nat → Int)} {e : List Bool}, l.length = e.length → fs (l.zip e) = e
  | [], [], _ => rfl
  | x :: l, y :: e, h => by
    have := zip_fs (l := l) (e := e) (by simpa using h)
    simp only [fs, List.zip_cons_cons, List.map_cons] at this ⊢
    rw [this]
/-- The same vertices and flags? -/
def same (a b : List PV) : Bool := a.length == b.length && (a.zip b).all fun x => M.eqB 8 x.1.1 x.2.1 && x.1.2 == x.2.2
theorem same_refl : ∀ a : List PV, same a a = true := by
  intro a
  have : ∀ l : List PV, (l.zip l).all (fun x => M.eqB 8 x.1.1 x.2.1 && x.1.2 == x.2.2) = true := by
    intro l
    induction l with
    | nil => rfl
    | cons x l ih => rw [List.zip_cons_cons, List.all_cons, ih, M.eqB_refl]; simp
  simp [same, this]
end C
end Go.Proofs.Ytbpignicffkaoaa
