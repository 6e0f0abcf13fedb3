/- Plain: what the table of commands says; what Right, Put and Get answer. -/
namespace Go.Proofs.Ytaegekmfndcflaa.P
set_option linter.unusedVariables false

abbrev Rec := Int × List Int
/-- The table's rows: an Op, then groups: of how many numbers, the least, the greatest one. -/
def table : List (List Int) :=
  [[1, 2, 1, 1024], [2, 4, 0, 255], [3, 1, 0, 16777215], [4, 1, 0, 3], [5, 2, -8192, 8192, 2, 0, 4096], [6, 1, 0, 1, 2, -8192, 8192, 2, 0, 8192], [7, 1, 0, 1],
   [8, 16, -268435456, 268435456], [9, 16, -268435456, 268435456], [10], [11], [12], [13, 1, 0, 5, 1, 0, 1, 4, -32768, 32768], [14, 4, 0, 255], [15, 1, 0, 1], [16, 1, 0, 9],
   [17, 4, -1048576, 1048576], [18], [19, 1, 1, 64], [20, 1, 0, 1, 1, 1, 256, 1, 0, 65535], [21, 1, 1, 64, 1, 0, 2], [22, 1, 0, 1], [23, 2, 0, 2], [24, 1, 0, 1, 1, 0, 3],
   [25, 1, 0, 1, 1, -65536, 65536, 1, -16777216, 16777216], [26, 1, 0, 1, 1, 0, 7, 1, 0, 1], [27, 1, 0, 1, 2, 0, 7], [28, 4, 0, 1], [29, 2, 0, 1],
   [30, 4, -9223372036854775808, 9223372036854775807], [31, 16, -9223372036854775808, 9223372036854775807], [32, 1, -9223372036854775808, 9223372036854775807]]
def expand : List Int → List (Int × Int)
  | n :: a :: b :: r => List.replicate n.toNat (a, b) ++ expand r
  | _ => []
/-- What each number of a command may be; none: there is no such command. -/
def find (op : Int) : List (List Int) → Option (List (Int × Int))
  | [] => none
  | r :: l => if r.headD 0 = op then some (expand r.tail) else find op l
def tab (op : Int) : Option (List (Int × Int)) := find op table

theorem find_none {op : Int} : ∀ {l : List (List Int)}, (∀ r ∈ l, r.headD 0 ≠ op) → find op l = none
  | [], _ => rfl
  | r :: l, h => by
    rw [find, if_neg (h r List.mem_cons_self)]
    exact find_none (fun x hx => h x (List.mem_cons_of_mem _ hx))
theorem find_mem {op : Int} {b : List (Int × Int)} : ∀ {l : List (List Int)}, find op l = some b → ∃ r ∈ l, expand r.tail = b
  | [], h => by cases h
  | r :: l, h => by
    by_cases e : r.headD 0 = op
    · rw [find, if_pos e] at h
      exact ⟨r, List.mem_cons_self, Option.some.inj h⟩
    · rw [find, if_neg e] at h
      obtain ⟨x, hx, hb⟩ := find_mem h
      exact ⟨x, List.mem_cons_of_mem _ hx, hb⟩
theorem tab_small {op : Int} (h : op < 1 ∨ 32 < op) : tab op = none := by
  apply find_none
  intro r hr
  simp only [table, List.mem_cons, List.not_mem_nil, or_false] at hr
  rcases hr with rfl | rfl | rfl | rfl | rfl | rfl | rfl | rfl | rfl | rfl | rfl | rfl | rfl | rfl | rfl | rfl | rfl | rfl | rfl | rfl | rfl | rfl | rfl | rfl | rfl | rfl | rfl | rfl | rfl | rfl | rfl | rfl <;> simp <;> omega
theorem tab_len {op : Int} {b : List (Int × Int)} (h : tab op = some b) : b.length ≤ 16 := by
  obtain ⟨r, hr, rfl⟩ := find_mem h
  have : ∀ r ∈ table, (expand r.tail).length ≤ 16 := by decide
  exact this r hr
/-- What is wrong with a command. -/
def fits : List (Int × Int) → List Int → Bool
  | b :: l, x :: r => (decide (b.1 ≤ x) && decide (x ≤ b.2)) && fits l r
  | _, _ => true
def right (op : Int) (a : List Int) : Int :=
  match tab op with
  | none => 5
  | some l => if l.length = a.length then (if fits l a then 0 else 4) else 1
theorem fits_at {l : List (Int × Int)} {a : List Int} (hl : l.length = a.length) : ∀ {k : Nat}, fits (l.drop k) (a.drop k) = true → (h : k < l.length) → (l[k].1 ≤ a[k]'(by omega) ∧ a[k]'(by omega) ≤ l[k].2) ∧ fits (l.drop (k + 1)) (a.drop (k + 1)) = true := by
  intro k h hk
  rw [List.drop_eq_getElem_cons hk, List.drop_eq_getElem_cons (by omega : k < a.length), fits] at h
  simpa [Bool.and_eq_true, and_assoc] using h
theorem fits_step {l : List (Int × Int)} {a : List Int} (hl : l.length = a.length) {k : Nat} (hk : k < l.length) (h : l[k].1 ≤ a[k]'(by omega) ∧ a[k]'(by omega) ≤ l[k].2) : fits (l.drop k) (a.drop k) = fits (l.drop (k + 1)) (a.drop (k + 1)) := by
  rw [List.drop_eq_getElem_cons hk, List.drop_eq_getElem_cons (by omega : k < a.length), fits]
  simp [h.1, h.2]
theorem fits_bad {l : List (Int × Int)} {a : List Int} (hl : l.length = a.length) {k : Nat} (hk : k < l.length) (h : ¬ (l[k].1 ≤ a[k]'(by omega) ∧ a[k]'(by omega) ≤ l[k].2)) : fits (l.drop k) (a.drop k) = false := by
  rw [List.drop_eq_getElem_cons hk, List.drop_eq_getElem_cons (by omega : k < a.length), fits]
  by_cases h1 : l[k].1 ≤ a[k]'(by omega)
  · have h2 : ¬ a[k]'(by omega) ≤ l[k].2 := fun x => h ⟨h1, x⟩
    simp [h2]
  · simp [h1]
theorem fits_end {l : List (Int × Int)} {a : List Int} {k : Nat} (hk : l.length ≤ k) : fits (l.drop k) (a.drop k) = true := by
  rw [List.drop_eq_nil_of_le hk]; rfl

/-- What holds of each of the table's rows. -/
def good (r : List Int) : Prop := r.length % 3 = 1 ∧ r.length ≤ 10 ∧ ∀ k, k < r.length → k % 3 = 1 → 0 ≤ r.getD k 0 ∧ r.getD k 0 ≤ 16
instance (r : List Int) : Decidable (good r) := inferInstanceAs (Decidable (_ ∧ _ ∧ _))
theorem table_good : ∀ r ∈ table, good r := by decide
theorem table_at {i : Nat} (h : i < table.length) : good table[i] := table_good _ (List.getElem_mem h)
theorem find_at {op : Int} {i : Nat} (h : i < table.length) : find op (table.drop i) = if table[i].headD 0 = op then some (expand table[i].tail) else find op (table.drop (i + 1)) := by
  rw [List.drop_eq_getElem_cons h, find]
theorem headD_get {r : List Int} (h : 0 < r.length) : r.headD 0 = r[0] := by
  cases r with
  | nil => simp at h
  | cons x l => rfl
/-- What has been read of a row, up to its k-th number, is pre. -/
def Read (r : List Int) (pre : List (Int × Int)) (k : Nat) : Prop := k % 3 = 1 ∧ k ≤ r.length ∧ expand r.tail = pre ++ expand (r.drop k)
theorem read_1 {r : List Int} (h : good r) : Read r [] 1 := ⟨rfl, by have := h.1; omega, by simp⟩
theorem read_group {r : List Int} {pre : List (Int × Int)} {k : Nat} (g : good r) (h : Read r pre k) (hk : k < r.length) : k + 2 < r.length := by
  have := g.1; have := h.1; omega
theorem read_next {r : List Int} {pre : List (Int × Int)} {k : Nat} (g : good r) (h : Read r pre k) (hk : k + 2 < r.length) :
    Read r (pre ++ List.replicate r[k].toNat (r[k + 1], r[k + 2])) (k + 3) := by
  refine ⟨by have := h.1; omega, by omega, ?_⟩
  rw [h.2.2, List.drop_eq_getElem_cons (by omega : k < r.length), List.drop_eq_getElem_cons (by omega : k + 1 < r.length), List.drop_eq_getElem_cons (by omega : k + 1 + 1 < r.length), expand, List.append_assoc]
theorem read_end {r : List Int} {pre : List (Int × Int)} {k : Nat} (h : Read r pre k) (hk : r.length ≤ k) : expand r.tail = pre := by
  rw [h.2.2, List.drop_eq_nil_of_le hk]; simp [expand]
theorem read_rng {r : List Int} {pre : List (Int × Int)} {k : Nat} (g : good r) (h : Read r pre k) (hk : k < r.length) : 0 ≤ r[k] ∧ r[k] ≤ 16 := by
  have := g.2.2 k hk h.1
  simpa [List.getD, hk] using this
theorem find_len {op : Int} {l : List (Int × Int)} {i : Nat} (h : i < table.length) : (expand table[i].tail).length ≤ 16 := by
  have : ∀ r ∈ table, (expand r.tail).length ≤ 16 := by decide
  exact this _ (List.getElem_mem h)
theorem read_len {r : List Int} {pre : List (Int × Int)} {k : Nat} (h : Read r pre k) : pre.length ≤ (expand r.tail).length := by
  rw [h.2.2, List.length_append]; omega

/-! ### Streams -/
def bad (r : Rec) : Prop := right r.1 r.2 ≠ 0 ∧ right r.1 r.2 ≠ 4
instance (r : Rec) : Decidable (bad r) := inferInstanceAs (Decidable (_ ∧ _))
def flat : List Rec → List Int
  | [] => []
  | r :: l => r.1 :: (r.2 ++ flat l)
theorem flat_app : ∀ (a b : List Rec), flat (a ++ b) = flat a ++ flat b
  | [], _ => rfl
  | r :: a, b => by simp [flat, flat_app a b]
theorem flat_one (r : Rec) : flat [r] = r.1 :: r.2 := by simp [flat]
/-- The stream of commands, and why there is none. -/
def put : List Rec → List Int × Int
  | [] => ([], 0)
  | r :: l => if bad r then ([], right r.1 r.2) else if (put l).2 = 0 then (r.1 :: (r.2 ++ (put l).1), 0) else ([], (put l).2)
theorem bad_ne {r : Rec} (h : bad r) : right r.1 r.2 ≠ 0 := h.1
theorem put_ok : ∀ {l : List Rec}, (∀ r ∈ l, ¬ bad r) → put l = (flat l, 0)
  | [], _ => rfl
  | r :: l, h => by
    rw [put, if_neg (h r List.mem_cons_self), put_ok (fun x hx => h x (List.mem_cons_of_mem _ hx)), if_pos rfl]
    rfl
theorem put_bad : ∀ {l : List Rec} {k : Nat} (hk : k < l.length), (∀ r ∈ l.take k, ¬ bad r) → bad l[k] → put l = ([], right l[k].1 l[k].2)
  | r :: l, 0, _, _, hb => by
    have hb' : bad r := hb
    rw [put, if_pos hb']; rfl
  | r :: l, k + 1, hk, h, hb => by
    have hk' : k < l.length := by simpa using hk
    have hb' : bad l[k] := by simpa using hb
    rw [put, if_neg (h r (by simp)), put_bad hk' (fun x hx => h x (by simp [hx])) hb', if_neg (bad_ne hb')]
    rfl
theorem put_ok' {l : List Rec} (h : (put l).2 = 0) : (∀ r ∈ l, ¬ bad r) ∧ (put l).1 = flat l := by
  induction l with
  | nil => exact ⟨fun _ h => (by cases h), rfl⟩
  | cons r l ih =>
    rw [put] at h ⊢
    by_cases hb : bad r
    · rw [if_pos hb] at h
      exact absurd h hb.1
    rw [if_neg hb] at h ⊢
    by_cases hz : (put l).2 = 0
    · obtain ⟨h1, h2⟩ := ih hz
      rw [if_pos hz, h2]
      refine ⟨fun x hx => ?_, rfl⟩
      rcases List.mem_cons.1 hx with rfl | hx
      · exact hb
      · exact h1 x hx
    · rw [if_neg hz] at h
      exact absurd h hz
theorem put_err {l : List Rec} (h : (put l).2 ≠ 0) : (put l).1 = [] := by
  induction l with
  | nil => rfl
  | cons r l ih =>
    rw [put] at h ⊢
    by_cases hb : bad r
    · rw [if_pos hb]
    rw [if_neg hb] at h ⊢
    by_cases hz : (put l).2 = 0
    · rw [if_pos hz] at h
      exact absurd rfl h
    · rw [if_neg hz]
theorem bad_not {r : Rec} (h : ¬ bad r) : ∃ b, tab r.1 = some b ∧ b.length = r.2.length := by
  unfold bad right at h
  rcases ht : tab r.1 with _ | b
  · simp [ht] at h
  · refine ⟨b, rfl, ?_⟩
    rcases Nat.decEq b.length r.2.length with hn | hn
    · simp [ht, hn] at h
    · exact hn

/-! ### Commands of a stream -/
/-- Of the command that begins with x: how many numbers it has, and what is wrong: len stand there in all, ahead commands ahead of it. -/
def first (x : Int) (len ahead : Nat) : Nat × Int :=
  if 4096 ≤ ahead then (0, 12)
  else match tab x with
  | none => (0, 5)
  | some b => if len ≤ b.length then (0, 1) else (b.length, 0)
theorem first_ok {x : Int} {len ahead : Nat} (h : (first x len ahead).2 = 0) : ahead < 4096 ∧ ∃ b, tab x = some b ∧ b.length < len ∧ first x len ahead = (b.length, 0) := by
  by_cases ha : 4096 ≤ ahead
  · have e : first x len ahead = (0, 12) := by rw [first, if_pos ha]
    rw [e] at h; simp at h
  · rcases ht : tab x with _ | b
    · have e : first x len ahead = (0, 5) := by rw [first, if_neg ha, ht]
      rw [e] at h
      simp at h
    · by_cases hb : len ≤ b.length
      · have e : first x len ahead = (0, 1) := by rw [first, if_neg ha, ht]; simp [hb]
        rw [e] at h
        simp at h
      · have e : first x len ahead = (b.length, 0) := by rw [first, if_neg ha, ht]; simp; omega
        exact ⟨by omega, b, rfl, by omega, e⟩
theorem first_long (x : Int) (len ahead : Nat) (h : 4096 ≤ ahead) : first x len ahead = (0, 12) := by rw [first, if_pos h]
theorem first_none {x : Int} (len : Nat) {ahead : Nat} (h : ahead < 4096) (ht : tab x = none) : first x len ahead = (0, 5) := by rw [first, if_neg (by omega), ht]
theorem first_arg {x : Int} {len ahead : Nat} {b : List (Int × Int)} (h : ahead < 4096) (ht : tab x = some b) (hb : len ≤ b.length) : first x len ahead = (0, 1) := by rw [first, if_neg (by omega), ht]; simp [hb]
theorem first_some {x : Int} {len ahead : Nat} {b : List (Int × Int)} (h : ahead < 4096) (ht : tab x = some b) (hb : b.length < len) : first x len ahead = (b.length, 0) := by rw [first, if_neg (by omega), ht]; simp; omega
theorem first_le (x : Int) (len ahead : Nat) : (first x len ahead).1 ≤ 16 := by
  unfold first
  by_cases ha : 4096 ≤ ahead
  · rw [if_pos ha]; simp
  · rw [if_neg ha]
    rcases ht : tab x with _ | b
    · simp
    · dsimp only
      have := tab_len ht
      split <;> simp <;> omega
def run : Nat → List Int → List Rec → Nat → List Rec × Nat × Int
  | 0, _, out, _ => (out, 0, 0)
  | _ + 1, [], out, _ => (out, 0, 0)
  | f + 1, x :: r, out, at_ =>
    if (first x (r.length + 1) out.length).2 = 0 then run f (r.drop (first x (r.length + 1) out.length).1) (out ++ [(x, r.take (first x (r.length + 1) out.length).1)]) (at_ + 1 + (first x (r.length + 1) out.length).1)
    else ([], at_, (first x (r.length + 1) out.length).2)
theorem run_fuel : ∀ (f g : Nat) (l : List Int) (out : List Rec) (at_ : Nat), l.length ≤ f → l.length ≤ g → run f l out at_ = run g l out at_
  | 0, 0, _, _, _, _, _ => rfl
  | 0, g + 1, l, out, at_, h, _ => by
    obtain rfl : l = [] := List.eq_nil_of_length_eq_zero (by omega)
    rfl
  | f + 1, 0, l, out, at_, _, h => by
    obtain rfl : l = [] := List.eq_nil_of_length_eq_zero (by omega)
    rfl
  | f + 1, g + 1, [], out, at_, _, _ => rfl
  | f + 1, g + 1, x :: r, out, at_, h1, h2 => by
    have l1 : r.length ≤ f := by simpa using h1
    have l2 : r.length ≤ g := by simpa using h2
    rw [run, run]
    split
    · exact run_fuel f g _ _ _ (by rw [List.length_drop]; omega) (by rw [List.length_drop]; omega)
    · rfl
/-- What is read on, where out has been read, and the rest begins at at_. -/
def go (l : List Int) (out : List Rec) (at_ : Nat) : List Rec × Nat × Int := run l.length l out at_
def get (a : List Int) : List Rec × Nat × Int := go a [] 0
theorem go_nil (out : List Rec) (p : Nat) : go [] out p = (out, 0, 0) := rfl
theorem go_cons (x : Int) (r : List Int) (out : List Rec) (p n : Nat) (h : first x (r.length + 1) out.length = (n, 0)) : go (x :: r) out p = go (r.drop n) (out ++ [(x, r.take n)]) (p + 1 + n) := by
  unfold go
  rw [List.length_cons, run, h, if_pos rfl]
  exact run_fuel _ _ _ _ _ (by rw [List.length_drop]; omega) (Nat.le_refl _)
theorem go_bad (x : Int) (r : List Int) (out : List Rec) (p n : Nat) (e : Int) (h : first x (r.length + 1) out.length = (n, e)) (he : e ≠ 0) : go (x :: r) out p = ([], p, e) := by
  unfold go
  rw [List.length_cons, run, h, if_neg he]
/-- A stream's commands come back. -/
theorem go_flat : ∀ (l : List Rec) (out : List Rec) (rest : List Int) (p : Nat), (∀ r ∈ l, ¬ bad r) → out.length + l.length ≤ 4096 → go (flat l ++ rest) out p = go rest (out ++ l) (p + (flat l).length)
  | [], out, rest, p, _, _ => by simp [flat]
  | r :: l, out, rest, p, h, hn => by
    obtain ⟨b, ht, hb⟩ := bad_not (h r List.mem_cons_self)
    have hn' : out.length + (l.length + 1) ≤ 4096 := by simpa using hn
    have hf : first r.1 ((r.2 ++ flat l ++ rest).length + 1) out.length = (r.2.length, 0) := by
      rw [first_some (by omega) ht (by simp; omega), hb]
    show go (r.1 :: (r.2 ++ flat l) ++ rest) out p = _
    rw [List.cons_append, go_cons r.1 _ out p _ hf]
    have e1 : (r.2 ++ flat l ++ rest).drop r.2.length = flat l ++ rest := by rw [List.append_assoc, List.drop_left]
    have e2 : (r.2 ++ flat l ++ rest).take r.2.length = r.2 := by rw [List.append_assoc, List.take_left]
    rw [e1, e2, go_flat l _ rest _ (fun x hx => h x (List.mem_cons_of_mem _ hx)) (by simp; omega)]
    congr 1
    · simp
    · simp [flat]; omega
theorem get_flat {l : List Rec} (h : ∀ r ∈ l, ¬ bad r) (hn : l.length ≤ 4096) : get (flat l) = (l, 0, 0) := by
  have := go_flat l [] [] 0 h (by simpa using hn)
  simpa [get, go_nil] using this
/-- Of two streams, one behind the other. -/
theorem go_two (b : List Int) : ∀ (n : Nat) (a : List Int) (out l : List Rec) (p q : Nat), a.length ≤ n → go a out p = (l, q, 0) → go (a ++ b) out p = go b l (p + a.length) ∧ l.length ≤ out.length + a.length := by
  intro n
  induction n with
  | zero =>
    intro a out l p q ha h
    obtain rfl : a = [] := List.eq_nil_of_length_eq_zero (by omega)
    rw [go_nil] at h
    cases h
    simp
  | succ n ih =>
    intro a out l p q ha h
    rcases a with _ | ⟨x, r⟩
    · rw [go_nil] at h
      cases h
      simp
    · have hr : r.length ≤ n := by simpa using ha
      obtain ⟨m, e⟩ : ∃ m, first x (r.length + 1) out.length = m := ⟨_, rfl⟩
      rcases Classical.em (m.2 = 0) with hz | hz
      · obtain ⟨h4, bb, ht, hb, hfe⟩ := first_ok (show (first x (r.length + 1) out.length).2 = 0 by rw [e]; exact hz)
        rw [go_cons x r out p _ hfe] at h
        have hfe2 : first x ((r ++ b).length + 1) out.length = (bb.length, 0) := first_some h4 ht (by simp; omega)
        rw [List.cons_append, go_cons x _ out p _ hfe2]
        have e1 : (r ++ b).drop bb.length = r.drop bb.length ++ b := by rw [List.drop_append_of_le_length (by omega)]
        have e2 : (r ++ b).take bb.length = r.take bb.length := by rw [List.take_append_of_le_length (by omega)]
        obtain ⟨h1, h2⟩ := ih (r.drop bb.length) _ l _ q (by rw [List.length_drop]; omega) h
        rw [e1, e2, h1]
        rw [List.length_drop] at h2 ⊢
        simp only [List.length_append, List.length_cons, List.length_nil] at h2 ⊢
        refine ⟨?_, by omega⟩
        congr 1
        omega
      · rw [go_bad x r out p m.1 m.2 e hz] at h
        exact absurd (congrArg (fun t => t.2.2) h) hz
theorem go_shift : ∀ (n : Nat) (b : List Int) (l1 l2 : List Rec) (p q : Nat), b.length ≤ n → l1.length + l2.length + b.length ≤ 4096 →
    go b (l1 ++ l2) (p + q) = if (go b l2 q).2.2 = 0 then (l1 ++ (go b l2 q).1, 0, 0) else ([], p + (go b l2 q).2.1, (go b l2 q).2.2) := by
  intro n
  induction n with
  | zero =>
    intro b l1 l2 p q hb _
    obtain rfl : b = [] := List.eq_nil_of_length_eq_zero (by omega)
    simp [go_nil]
  | succ n ih =>
    intro b l1 l2 p q hb hn
    rcases b with _ | ⟨x, r⟩
    · simp [go_nil]
    · have hr : r.length ≤ n := by simpa using hb
      have hn' : l1.length + l2.length + (r.length + 1) ≤ 4096 := by simpa using hn
      have same : first x (r.length + 1) (l1 ++ l2).length = first x (r.length + 1) l2.length := by
        unfold first
        rw [if_neg (by simp; omega), if_neg (by omega)]
      obtain ⟨m, e⟩ : ∃ m, first x (r.length + 1) l2.length = m := ⟨_, rfl⟩
      rcases Classical.em (m.2 = 0) with hz | hz
      · have e' : first x (r.length + 1) l2.length = (m.1, 0) := by rw [e, ← hz]
        rw [go_cons x r (l1 ++ l2) (p + q) _ (same.trans e'), go_cons x r l2 q _ e', List.append_assoc, show p + q + 1 + m.1 = p + (q + 1 + m.1) by omega]
        exact ih _ _ _ _ _ (by rw [List.length_drop]; omega) (by rw [List.length_drop]; simp; omega)
      · rw [go_bad x r (l1 ++ l2) (p + q) m.1 m.2 (same.trans e) hz, go_bad x r l2 q m.1 m.2 e hz]
        simp [hz]
/-- What comes of two streams of which the first one is one. -/
theorem get_two {a b : List Int} {l : List Rec} {q : Nat} (ha : a.length ≤ 200) (hb : b.length ≤ 200) (h : get a = (l, q, 0)) :
    get (a ++ b) = if (get b).2.2 = 0 then (l ++ (get b).1, 0, 0) else ([], a.length + (get b).2.1, (get b).2.2) := by
  obtain ⟨h1, h2⟩ := go_two b a.length a [] l 0 q (Nat.le_refl _) h
  have h3 : l.length ≤ a.length := by simpa using h2
  have h4 := go_shift b.length b l [] a.length 0 (Nat.le_refl _) (by simp; omega)
  rw [List.append_nil, Nat.add_zero] at h4
  rw [get, h1, Nat.zero_add]
  exact h4
/-- The place is 0 where nothing is wrong; nothing comes where something is. -/
theorem go_ends : ∀ (n : Nat) (a : List Int) (out : List Rec) (p : Nat), a.length ≤ n → ((go a out p).2.2 = 0 → (go a out p).2.1 = 0) ∧ ((go a out p).2.2 ≠ 0 → (go a out p).1 = []) ∧ (go a out p).1.length ≤ out.length + a.length ∧ (go a out p).2.1 ≤ p + a.length := by
  intro n
  induction n with
  | zero =>
    intro a out p ha
    obtain rfl : a = [] := List.eq_nil_of_length_eq_zero (by omega)
    simp [go_nil]
  | succ n ih =>
    intro a out p ha
    rcases a with _ | ⟨x, r⟩
    · simp [go_nil]
    · have hr : r.length ≤ n := by simpa using ha
      obtain ⟨m, e⟩ : ∃ m, first x (r.length + 1) out.length = m := ⟨_, rfl⟩
      rcases Classical.em (m.2 = 0) with hz | hz
      · obtain ⟨h4, bb, ht, hbb, hfe⟩ := first_ok (show (first x (r.length + 1) out.length).2 = 0 by rw [e]; exact hz)
        rw [go_cons x r out p _ hfe]
        have := ih (r.drop bb.length) (out ++ [(x, r.take bb.length)]) (p + 1 + bb.length) (by rw [List.length_drop]; omega)
        rw [List.length_drop] at this
        refine ⟨this.1, this.2.1, ?_, ?_⟩
        · have := this.2.2.1; simp at this ⊢; omega
        · have := this.2.2.2; simp at this ⊢; omega
      · rw [go_bad x r out p m.1 m.2 e hz]
        simp [hz]
/-- The walk over a stream. -/
def Goes (a : List Int) (out : List Rec) (p : Nat) : Prop := get a = go (a.drop p) out p
theorem goes_0 (a : List Int) : Goes a [] 0 := by simp [Goes, get]
theorem goes_next {a : List Int} {out : List Rec} {p n : Nat} (g : Goes a out p) (hp : p < a.length) (h : first a[p] (a.length - p) out.length = (n, 0)) : Goes a (out ++ [(a[p], (a.drop (p + 1)).take n)]) (p + 1 + n) := by
  unfold Goes at g ⊢
  rw [g, List.drop_eq_getElem_cons hp, go_cons (n := n), List.drop_drop]
  rw [List.length_drop, show a.length - (p + 1) + 1 = a.length - p by omega]
  exact h
theorem goes_bad {a : List Int} {out : List Rec} {p n : Nat} {e : Int} (g : Goes a out p) (hp : p < a.length) (h : first a[p] (a.length - p) out.length = (n, e)) (he : e ≠ 0) : get a = ([], p, e) := by
  unfold Goes at g
  rw [g, List.drop_eq_getElem_cons hp]
  refine go_bad _ _ _ _ n e ?_ he
  rw [List.length_drop, show a.length - (p + 1) + 1 = a.length - p by omega]
  exact h
theorem goes_end {a : List Int} {out : List Rec} {p : Nat} (g : Goes a out p) (hp : a.length ≤ p) : get a = (out, 0, 0) := by
  unfold Goes at g
  rw [g, List.drop_eq_nil_of_le hp, go_nil]
/-- Many of the same one. -/
theorem tab18 : tab 18 = some [] := by decide
theorem not_bad18 : ¬ bad (18, []) := by decide
theorem flat_rep : ∀ n : Nat, flat (List.replicate n (18, [])) = List.replicate n 18
  | 0 => rfl
  | n + 1 => by
    rw [List.replicate_succ, List.replicate_succ, flat, flat_rep n]; rfl
theorem get_rep (n : Nat) (rest : List Int) (hn : n ≤ 4096) : get (List.replicate n 18 ++ rest) = go rest (List.replicate n (18, [])) n := by
  have := go_flat (List.replicate n (18, [])) [] rest 0 (fun r hr => by rw [List.eq_of_mem_replicate hr]; exact not_bad18) (by simpa using hn)
  rw [flat_rep] at this
  simpa [get] using this
theorem many_ok {n : Nat} (hn : n ≤ 4096) : get (List.replicate n 18) = (List.replicate n (18, []), 0, 0) := by
  have := get_rep n [] hn
  simpa [go_nil] using this
theorem many_long (x : Int) (rest : List Int) : get (List.replicate 4096 18 ++ x :: rest) = ([], 4096, 12) := by
  rw [get_rep 4096 _ (Nat.le_refl _)]
  exact go_bad x rest _ 4096 0 12 (first_long _ _ _ (by rw [List.length_replicate]; exact Nat.le_refl _)) (by decide)
theorem many_wrong {n : Nat} (hn : n < 4096) : get (List.replicate n 18 ++ [0]) = ([], n, 5) := by
  rw [get_rep n _ (by omega)]
  exact go_bad 0 [] _ n 0 5 (first_none _ (by simpa using hn) (by decide)) (by decide)
/-- The law's own examples. -/
theorem get_ex1 : get [15, 1, 18] = ([(15, [1]), (18, [])], 0, 0) := by decide
theorem get_ex2 : get [18, 15] = ([], 1, 1) := by decide
theorem right_ex : right 19 [65] = 4 := by decide
end Go.Proofs.Ytaegekmfndcflaa.P
