/- Plain: what a list of acts notes, and with what it gives up. -/
namespace Go.Proofs.Ytlggclehakcdaaa.P
set_option linter.unusedVariables false

def err : Option Int → Int
  | none => 0
  | some n => n
def mark (o : Option Int) : Int := -1000000 - (err o).tmod 1000
/-- How many of the next acts stand within. -/
def cut (m : Int) (len : Nat) : Nat := min m.toNat len
theorem cut_le (m : Int) (len : Nat) : cut m len ≤ len := Nat.min_le_right _ _
def run : Nat → List (Int × Int × Int) → List Int × Option Int
  | 0, _ => ([], none)
  | _ + 1, [] => ([], none)
  | f + 1, (k, n, m) :: r =>
    if k = 0 then (n :: (run f r).1, (run f r).2)
    else if k = 1 then ([], some n)
    else if k = 2 then ((run f (r.take (cut m r.length))).1 ++ mark (run f (r.take (cut m r.length))).2 :: (run f (r.drop (cut m r.length))).1, (run f (r.drop (cut m r.length))).2)
    else run f r
theorem run_fuel : ∀ (f g : Nat) (l : List (Int × Int × Int)), l.length ≤ f → l.length ≤ g → run f l = run g l
  | 0, 0, _, _, _ => rfl
  | 0, g + 1, l, h, _ => by
    obtain rfl : l = [] := List.eq_nil_of_length_eq_zero (by omega)
    rfl
  | f + 1, 0, l, _, h => by
    obtain rfl : l = [] := List.eq_nil_of_length_eq_zero (by omega)
    rfl
  | f + 1, g + 1, [], _, _ => rfl
  | f + 1, g + 1, (k, n, m) :: r, h1, h2 => by
    have l1 : r.length ≤ f := by simpa using h1
    have l2 : r.length ≤ g := by simpa using h2
    have c := cut_le m r.length
    rw [run, run, run_fuel f g r l1 l2, run_fuel f g (r.take (cut m r.length)) (by rw [List.length_take]; omega) (by rw [List.length_take]; omega),
      run_fuel f g (r.drop (cut m r.length)) (by rw [List.length_drop]; omega) (by rw [List.length_drop]; omega)]
/-- What acts note, and with what they give up. -/
def play (l : List (Int × Int × Int)) : List Int × Option Int := run l.length l
theorem play_nil : play [] = ([], none) := rfl
theorem run_play (f : Nat) (l : List (Int × Int × Int)) (h : l.length ≤ f) : run f l = play l := run_fuel f l.length l h (Nat.le_refl _)
section
variable (k n m : Int) (r : List (Int × Int × Int))
theorem play_0 (h : k = 0) : play ((k, n, m) :: r) = (n :: (play r).1, (play r).2) := by
  show run (r.length + 1) _ = _
  rw [run, if_pos h, run_play _ r (Nat.le_refl _)]
theorem play_1 (h : k = 1) : play ((k, n, m) :: r) = ([], some n) := by
  show run (r.length + 1) _ = _
  rw [run, if_neg (by omega), if_pos h]
theorem play_2 (h : k = 2) : play ((k, n, m) :: r) = ((play (r.take (cut m r.length))).1 ++ mark (play (r.take (cut m r.length))).2 :: (play (r.drop (cut m r.length))).1, (play (r.drop (cut m r.length))).2) := by
  show run (r.length + 1) _ = _
  rw [run, if_neg (by omega), if_neg (by omega), if_pos h, run_play _ (r.take _) (by rw [List.length_take]; omega), run_play _ (r.drop _) (by rw [List.length_drop]; omega)]
theorem play_3 (h0 : k ≠ 0) (h1 : k ≠ 1) (h2 : k ≠ 2) : play ((k, n, m) :: r) = play r := by
  show run (r.length + 1) _ = _
  rw [run, if_neg h0, if_neg h1, if_neg h2, run_play _ r (Nat.le_refl _)]
end
theorem play_len : ∀ (f : Nat) (l : List (Int × Int × Int)), l.length ≤ f → (play l).1.length ≤ l.length
  | _, [], _ => by rw [play_nil]; exact Nat.le_refl _
  | 0, _ :: _, h => absurd h (by simp)
  | f + 1, (k, n, m) :: r, h => by
    have l1 : r.length ≤ f := by simpa using h
    have c := cut_le m r.length
    by_cases h0 : k = 0
    · rw [play_0 k n m r h0]
      have := play_len f r l1
      simpa using this
    by_cases h1 : k = 1
    · rw [play_1 k n m r h1]; simp
    by_cases h2 : k = 2
    · rw [play_2 k n m r h2]
      have a := play_len f (r.take (cut m r.length)) (by rw [List.length_take]; omega)
      have b := play_len f (r.drop (cut m r.length)) (by rw [List.length_drop]; omega)
      rw [List.length_take] at a
      rw [List.length_drop] at b
      simp only [List.length_append, List.length_cons]
      omega
    · rw [play_3 k n m r h0 h1 h2]
      have := play_len f r l1
      simp; omega
/-- The list from the i-th act on. -/
theorem at_i {l : List (Int × Int × Int)} {i : Nat} (h : i < l.length) : l.drop i = l[i] :: l.drop (i + 1) := List.drop_eq_getElem_cons h
/-- What was noted so far, and what the rest will note, is the whole. -/
def Goes (l : List (Int × Int × Int)) (i : Nat) (ys : List Int) : Prop := (play l).1 = ys ++ (play (l.drop i)).1 ∧ (play l).2 = (play (l.drop i)).2
theorem goes_0 (l : List (Int × Int × Int)) : Goes l 0 [] := ⟨by simp, by simp⟩
section
variable {l : List (Int × Int × Int)} {i : Nat} {ys : List Int} {k n m : Int}
theorem goes_kind0 (g : Goes l i ys) (h : i < l.length) (e : l[i] = (k, n, m)) (hk : k = 0) : Goes l (i + 1) (ys ++ [n]) := by
  obtain ⟨a, b⟩ := g
  rw [at_i h, e, play_0 _ _ _ _ hk] at a b
  exact ⟨by rw [a]; simp, b⟩
theorem goes_kind1 (g : Goes l i ys) (h : i < l.length) (e : l[i] = (k, n, m)) (hk : k = 1) : play l = (ys, some n) := by
  obtain ⟨a, b⟩ := g
  rw [at_i h, e, play_1 _ _ _ _ hk] at a b
  exact Prod.ext (by rw [a]; simp) b
theorem goes_kind2 (g : Goes l i ys) (h : i < l.length) (e : l[i] = (k, n, m)) (hk : k = 2) (c : Nat) (hc : cut m (l.length - (i + 1)) = c) :
    Goes l (i + 1 + c) (ys ++ (play ((l.drop (i + 1)).take c)).1 ++ [mark (play ((l.drop (i + 1)).take c)).2]) := by
  obtain ⟨a, b⟩ := g
  have hl : (l.drop (i + 1)).length = l.length - (i + 1) := by rw [List.length_drop]
  rw [at_i h, e, play_2 _ _ _ _ hk, hl, hc, List.drop_drop] at a b
  exact ⟨by rw [a]; simp, b⟩
theorem goes_kind3 (g : Goes l i ys) (h : i < l.length) (e : l[i] = (k, n, m)) (h0 : k ≠ 0) (h1 : k ≠ 1) (h2 : k ≠ 2) : Goes l (i + 1) ys := by
  obtain ⟨a, b⟩ := g
  rw [at_i h, e, play_3 _ _ _ _ h0 h1 h2] at a b
  exact ⟨a, b⟩
theorem goes_end (g : Goes l i ys) (h : l.length ≤ i) : play l = (ys, none) := by
  obtain ⟨a, b⟩ := g
  rw [List.drop_eq_nil_of_le h, play_nil] at a b
  exact Prod.ext (by rw [a]; simp) b
/-- So far, and the rest within, are no more than all. -/
theorem goes_len (g : Goes l i ys) : ys.length ≤ l.length := by
  have h := play_len l.length l (Nat.le_refl _)
  rw [g.1, List.length_append] at h
  omega
end
theorem mark_rng (o : Option Int) : -1001000 < mark o ∧ mark o < -999000 := by
  unfold mark
  have h1 := Int.tmod_lt_of_pos (err o) (b := 1000) (by omega)
  have h2 : -1000 < (err o).tmod 1000 := by
    have := Int.lt_tmod_of_pos (err o) (b := 1000) (by omega)
    omega
  omega
end Go.Proofs.Ytlggclehakcdaaa.P
