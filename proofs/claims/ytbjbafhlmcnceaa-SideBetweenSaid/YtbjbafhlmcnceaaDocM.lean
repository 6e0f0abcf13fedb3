/- Plain numbers: lists of bits, the lowest first, as the document's answer has them. -/
namespace Go.Proofs.Ytbjbafhlmcnceaa.L
set_option linter.unusedVariables false

def nat : List Nat → Nat
  | [] => 0
  | b :: l => b + 2 * nat l
def Bits (l : List Nat) : Prop := ∀ b ∈ l, b < 2
def bit (l : List Nat) (i : Nat) : Nat := (l[i]?).getD 0
def Can (l : List Nat) : Prop := Bits l ∧ (l ≠ [] → bit l (l.length - 1) = 1)

theorem Bits.nil : Bits [] := by intro b hb; cases hb
theorem Bits.snoc {l : List Nat} {b : Nat} (h : Bits l) (hb : b < 2) : Bits (l ++ [b]) := by
  intro x hx
  rw [List.mem_append, List.mem_singleton] at hx
  rcases hx with hx | rfl
  · exact h x hx
  · exact hb
theorem Bits.cons {l : List Nat} {b : Nat} (h : Bits l) (hb : b < 2) : Bits (b :: l) := by
  intro x hx
  rcases List.mem_cons.1 hx with rfl | hx
  · exact hb
  · exact h x hx
theorem Bits.take {l : List Nat} (h : Bits l) (n : Nat) : Bits (l.take n) := fun b hb => h b (List.mem_of_mem_take hb)
theorem bit_lt {l : List Nat} (h : Bits l) (i : Nat) : bit l i < 2 := by
  unfold bit
  by_cases hi : i < l.length
  · rw [List.getElem?_eq_getElem hi]; exact h _ (List.getElem_mem hi)
  · rw [List.getElem?_eq_none (by omega)]; simp
theorem bit_out {l : List Nat} {i : Nat} (hi : l.length ≤ i) : bit l i = 0 := by unfold bit; rw [List.getElem?_eq_none hi]; rfl
theorem bit_in {l : List Nat} {i : Nat} (hi : i < l.length) : l[i]? = some (bit l i) := by
  unfold bit; rw [List.getElem?_eq_getElem hi]; rfl
theorem nat_snoc : ∀ (l : List Nat) (b : Nat), nat (l ++ [b]) = nat l + 2 ^ l.length * b
  | [], b => by simp [nat]
  | a :: l, b => by
    show a + 2 * nat (l ++ [b]) = a + 2 * nat l + 2 ^ (l.length + 1) * b
    rw [nat_snoc l b, Nat.pow_succ, Nat.mul_add, Nat.mul_comm (2 ^ l.length) 2, Nat.mul_assoc]; omega
theorem nat_drop : ∀ (l : List Nat) (i : Nat), nat (l.drop i) = bit l i + 2 * nat (l.drop (i + 1))
  | [], i => by simp [nat, bit]
  | a :: l, 0 => by simp [nat, bit]
  | a :: l, i + 1 => by
    have := nat_drop l i
    simpa [bit] using this
theorem nat_drop_out {l : List Nat} {i : Nat} (h : l.length ≤ i) : nat (l.drop i) = 0 := by
  rw [List.drop_eq_nil_of_le h]; rfl
theorem nat_lt : ∀ {l : List Nat}, Bits l → nat l < 2 ^ l.length
  | [], _ => by simp [nat]
  | a :: l, h => by
    have h1 := nat_lt (l := l) (fun b hb => h b (List.mem_cons_of_mem _ hb))
    have h2 := h a List.mem_cons_self
    show a + 2 * nat l < 2 ^ (l.length + 1)
    rw [Nat.pow_succ]; omega
theorem nat_take : ∀ (l : List Nat) (i : Nat), nat l = nat (l.take i) + 2 ^ (min i l.length) * nat (l.drop i)
  | [], i => by simp [nat]
  | a :: l, 0 => by simp [nat]
  | a :: l, i + 1 => by
    have h := nat_take l i
    have e : min (i + 1) (a :: l).length = min i l.length + 1 := by rw [List.length_cons]; omega
    rw [e, Nat.pow_succ]
    show a + 2 * nat l = a + 2 * nat (l.take i) + 2 ^ min i l.length * 2 * nat (l.drop i)
    rw [h, Nat.mul_add, Nat.mul_comm (2 ^ min i l.length) 2, Nat.mul_assoc]; omega
/-- A list that ends in a one has a value of its length. -/
theorem can_ge {l : List Nat} (h : Can l) (hl : l ≠ []) : 2 ^ (l.length - 1) ≤ nat l := by
  have h1 := h.2 hl
  have hp : 0 < l.length := by cases l with | nil => exact absurd rfl hl | cons a l => simp
  rw [nat_take l (l.length - 1), nat_drop, h1, show min (l.length - 1) l.length = l.length - 1 by omega, show l.length - 1 + 1 = l.length by omega, nat_drop_out (Nat.le_refl _)]
  omega
theorem can_zero {l : List Nat} (h : Can l) : nat l = 0 ↔ l = [] := by
  refine ⟨fun e => ?_, fun e => by rw [e]; rfl⟩
  by_cases hl : l = []
  · exact hl
  · have := can_ge h hl; have := Nat.two_pow_pos (l.length - 1); omega
theorem can_len {l : List Nat} (h : Can l) {k : Nat} (hk : nat l < 2 ^ k) : l.length ≤ k := by
  by_cases hl : l = []
  · rw [hl]; simp
  · have h1 := can_ge h hl
    rcases Nat.lt_or_ge k l.length with g | g
    · have := Nat.pow_le_pow_right (n := 2) (by omega) (show k ≤ l.length - 1 by omega); omega
    · exact g
theorem can_len' {l : List Nat} (h : Can l) {k : Nat} (hk : 2 ^ k ≤ nat l) : k < l.length := by
  have h1 := nat_lt h.1
  rcases Nat.lt_or_ge k l.length with g | g
  · exact g
  · have := Nat.pow_le_pow_right (n := 2) (by omega) g; omega

/-! ### more -/
def MoreI (a b out : List Nat) (c : Nat) : Prop :=
  Bits out ∧ c < 2 ∧ nat out + 2 ^ out.length * (c + nat (a.drop out.length) + nat (b.drop out.length)) = nat a + nat b ∧ (out.length ≤ max a.length b.length ∨ (out.length = max a.length b.length + 1 ∧ c = 0))
theorem more_start (a b : List Nat) : MoreI a b [] 0 := ⟨Bits.nil, by omega, by simp [nat], by simp⟩
theorem more_step {a b out : List Nat} {c : Nat} (ha : Bits a) (hb : Bits b) (h : MoreI a b out c) (hc : out.length < a.length ∨ out.length < b.length ∨ 0 < c) :
    MoreI a b (out ++ [(bit a out.length + bit b out.length + c) % 2]) ((bit a out.length + bit b out.length + c) / 2) := by
  obtain ⟨h1, h2, h3, h4⟩ := h
  have xa := bit_lt ha out.length
  have xb := bit_lt hb out.length
  refine ⟨h1.snoc (Nat.mod_lt _ (by omega)), by omega, ?_, ?_⟩
  · rw [nat_snoc, ← h3, nat_drop a out.length, nat_drop b out.length, List.length_append, List.length_singleton, Nat.pow_succ]
    generalize nat (a.drop (out.length + 1)) = p
    generalize nat (b.drop (out.length + 1)) = q
    generalize bit a out.length = x at *
    generalize bit b out.length = y at *
    have e : c + (x + 2 * p) + (y + 2 * q) = (x + y + c) % 2 + 2 * ((x + y + c) / 2 + p + q) := by omega
    have E : 2 ^ out.length * 2 * ((x + y + c) / 2 + p + q) = 2 ^ out.length * (2 * ((x + y + c) / 2 + p + q)) := Nat.mul_assoc _ _ _
    try rw [← Nat.mul_add (2 ^ out.length * 2)]
    rw [e, Nat.mul_add (2 ^ out.length) ((x + y + c) % 2), E.symm]; omega
  · rw [List.length_append, List.length_singleton]
    rcases Nat.lt_or_ge out.length (max a.length b.length) with g | g
    · left; omega
    · right
      have : bit a out.length = 0 := bit_out (by omega)
      have : bit b out.length = 0 := bit_out (by omega)
      omega
theorem more_end {a b out : List Nat} {c : Nat} (h : MoreI a b out c) (hc : ¬ (out.length < a.length ∨ out.length < b.length ∨ 0 < c)) : Bits out ∧ nat out = nat a + nat b ∧ out.length ≤ max a.length b.length + 1 := by
  obtain ⟨h1, h2, h3, h4⟩ := h
  rw [nat_drop_out (by omega), nat_drop_out (by omega)] at h3
  obtain rfl : c = 0 := by omega
  exact ⟨h1, by simpa using h3, by omega⟩

/-! ### less -/
def LessI (a b out : List Nat) (c : Nat) : Prop :=
  Bits out ∧ c < 2 ∧ out.length ≤ a.length ∧ nat out + 2 ^ out.length * nat (a.drop out.length) + nat b = nat a + 2 ^ out.length * (c + nat (b.drop out.length))
theorem less_start (a b : List Nat) : LessI a b [] 0 := ⟨Bits.nil, by omega, by simp, by simp [nat]⟩
theorem less_step {a b out : List Nat} {c : Nat} (ha : Bits a) (hb : Bits b) (h : LessI a b out c) (hl : out.length < a.length) :
    LessI a b (out ++ [(2 + bit a out.length - bit b out.length - c) % 2]) (1 - (2 + bit a out.length - bit b out.length - c) / 2) := by
  obtain ⟨h1, h2, h3, h4⟩ := h
  have xa := bit_lt ha out.length
  have xb := bit_lt hb out.length
  refine ⟨h1.snoc (Nat.mod_lt _ (by omega)), by omega, by simp; omega, ?_⟩
  rw [nat_drop a out.length, nat_drop b out.length] at h4
  rw [nat_snoc, List.length_append, List.length_singleton, Nat.pow_succ]
  generalize nat (a.drop (out.length + 1)) = p at *
  generalize nat (b.drop (out.length + 1)) = q at *
  generalize bit a out.length = x at *
  generalize bit b out.length = y at *
  obtain ⟨z, hz⟩ : ∃ z, 2 + x - y - c = z := ⟨_, rfl⟩
  rw [hz]
  have e : z % 2 + 2 * p + (y + c) + 2 * (z / 2) = x + 2 * p + 2 := by omega
  have e2 : z / 2 ≤ 1 := by omega
  have E : 2 ^ out.length * (z % 2) + 2 ^ out.length * 2 * p + 2 ^ out.length * (c + (y + 2 * q)) = 2 ^ out.length * (x + 2 * p) + 2 ^ out.length * 2 * (1 - z / 2 + q) := by
    rw [Nat.mul_assoc, Nat.mul_assoc, ← Nat.mul_add, ← Nat.mul_add, ← Nat.mul_add]
    congr 1; omega
  omega
theorem less_end {a b out : List Nat} {c : Nat} (ha : Bits a) (hb : Bits b) (h : LessI a b out c) (hl : out.length = a.length) (hab : nat b ≤ nat a) : Bits out ∧ nat out = nat a - nat b := by
  obtain ⟨h1, h2, h3, h4⟩ := h
  have l1 := nat_lt h1
  rw [nat_drop_out (l := a) (by omega), Nat.mul_zero, Nat.add_zero] at h4
  refine ⟨h1, ?_⟩
  have : c + nat (b.drop out.length) = 0 := by
    rcases Nat.eq_zero_or_pos (c + nat (b.drop out.length)) with g | g
    · exact g
    · have := Nat.mul_le_mul_left (2 ^ out.length) g; omega
  rw [this, Nat.mul_zero] at h4
  omega

/-! ### above -/
theorem above_step {a b : List Nat} {i : Nat} (h : nat (a.drop (i + 1)) = nat (b.drop (i + 1))) (e : bit a i = bit b i) : nat (a.drop i) = nat (b.drop i) := by
  rw [nat_drop a i, nat_drop b i, h, e]
theorem above_ne {a b : List Nat} {i : Nat} (ha : Bits a) (hb : Bits b) (h : nat (a.drop (i + 1)) = nat (b.drop (i + 1))) (e : bit a i < bit b i) : nat a < nat b := by
  have xa := bit_lt ha i
  have xb := bit_lt hb i
  have hib : i < b.length := by
    rcases Nat.lt_or_ge i b.length with g | g
    · exact g
    · rw [bit_out g] at e; omega
  have t1 := nat_take a i
  have t2 := nat_take b i
  have l1 := nat_lt (ha.take i)
  rw [List.length_take] at l1
  rw [nat_drop a i] at t1
  rw [nat_drop b i, ← h] at t2
  rw [show min i b.length = i by omega] at t2
  have p1 := Nat.pow_le_pow_right (n := 2) (by omega) (show min i a.length ≤ i by omega)
  rw [show bit b i = 1 by omega, Nat.mul_add] at t2
  rw [show bit a i = 0 by omega, Nat.zero_add] at t1
  have : 2 ^ min i a.length * (2 * nat (a.drop (i + 1))) ≤ 2 ^ i * (2 * nat (a.drop (i + 1))) := Nat.mul_le_mul_right _ p1
  omega
/-! ### trim -/
theorem take_succ_nat {l : List Nat} {k : Nat} (hk : k < l.length) : nat (l.take (k + 1)) = nat (l.take k) + 2 ^ k * bit l k := by
  rw [List.take_add_one, bit_in hk]
  show nat (l.take k ++ [bit l k]) = _
  rw [nat_snoc, List.length_take, show min k l.length = k by omega]
theorem trim_step {l : List Nat} {k : Nat} (hk : k < l.length) (e : bit l k = 0) (h : nat (l.take (k + 1)) = nat l) : nat (l.take k) = nat l := by
  rw [take_succ_nat hk, e] at h; simpa using h
theorem trim_end {l : List Nat} {k : Nat} (hl : Bits l) (hk : k ≤ l.length) (e : 0 < k → bit l (k - 1) ≠ 0) : Can (l.take k) := by
  refine ⟨hl.take k, fun hn => ?_⟩
  have h0 : 0 < k := by
    rcases Nat.eq_zero_or_pos k with z | z
    · subst z; simp at hn
    · exact z
  rw [List.length_take, show min k l.length = k by omega]
  have : bit (l.take k) (k - 1) = bit l (k - 1) := by unfold bit; rw [List.getElem?_take_of_lt (by omega)]
  rw [this]
  have := bit_lt hl (k - 1)
  have := e h0
  omega
theorem can_pos {l : List Nat} (h : Can l) : (0 < l.length) ↔ 0 < nat l := by
  have := can_zero h
  constructor
  · intro g
    rcases Nat.eq_zero_or_pos (nat l) with z | z
    · rw [this.1 z] at g; simp at g
    · exact z
  · intro g
    rcases Nat.eq_zero_or_pos l.length with z | z
    · rw [List.eq_nil_of_length_eq_zero z] at g; simp [nat] at g
    · exact z
end Go.Proofs.Ytbjbafhlmcnceaa.L
