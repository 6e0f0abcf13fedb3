/- A slice that reads as a list, wherever it lies; an append of such a slice onto a row of the call's own. -/
import Derived.Test.YtbjbafhlmcnceaaRows
import Derived.WalkKit
import Derived.Below
import Derived.Laws.OwnMore
import Derived.Deep.AppendLies
import Derived.Deep.Draws
import Derived.Maps.AppendAt
import Derived.RegionTactic
import Derived.OwnWalk
namespace Go.Proofs.Ytbjbafhlmcnceaa
open Go.RowKit
set_option linter.unusedVariables false

theorem block_of_add (p : Addr) (k : Nat) : (p.add k).block = p.block := by
  by_cases h : k = 0
  · subst h; simp [Addr.add]
  · simp [Addr.add, h]

/-- The cells of a slice, as a list. Where there is nothing to read nothing is asked of the address. -/
structure Reads (w : World) (B size : Nat) (A : Option Addr) (n : Nat) (xs : List Value) : Prop where
  len : xs.length = n * size
  lies : 0 < n → ∃ ad : Addr, A = some ad ∧ ad.block < B ∧ ∀ j u, xs[j]? = some u → w.cell? (ad.add j) = some u
namespace Reads
variable {w w' : World} {B B' size n : Nat} {A : Option Addr} {xs : List Value}
theorem none_ : Reads w B size A 0 [] where
  len := by rw [Nat.zero_mul, List.length_nil]
  lies := fun h => (Nat.lt_irrefl 0 h).elim
/-- From one world to another one: the cells below B are the same. -/
theorem carry (r : Reads w B size A n xs) (hB : B ≤ B') (same : ∀ p : Addr, p.block < B → w'.cell? p = w.cell? p) : Reads w' B' size A n xs where
  len := r.len
  lies := by
    intro h
    rcases r.lies h with ⟨ad, e, lt, at'⟩
    refine ⟨ad, e, Nat.lt_of_lt_of_le lt hB, fun j u hu => ?_⟩
    rw [same (ad.add j) (by rw [block_of_add]; exact lt)]
    exact at' j u hu
theorem below (r : Reads w B size A n xs) (hb : Below B w w') : Reads w' B size A n xs := r.carry (Nat.le_refl B) (fun p hp => hb.cell hp)
theorem drewN (r : Reads w B size A n xs) (k : Nat) : Reads (w.drewN k) B size A n xs := r.carry (Nat.le_refl B) (fun _ _ => rfl)
theorem drew (r : Reads w B size A n xs) : Reads w.drew B size A n xs := r.carry (Nat.le_refl B) (fun _ _ => rfl)
theorem alloc (r : Reads w B size A n xs) (hB : B ≤ w.heap.size) (o : Obj) : Reads (w.alloc o) B size A n xs := r.carry (Nat.le_refl B) (fun p hp => World.cell?_alloc_lt w o p (Nat.lt_of_lt_of_le hp hB))
theorem more (r : Reads w B size A n xs) (hB : B ≤ B') : Reads w B' size A n xs := r.carry hB (fun _ _ => rfl)
theorem at_ {k : Nat} (r : Reads w B 1 A n xs) (hk : k < n) : ∃ ad u, A = some ad ∧ ad.block < B ∧ xs[k]? = some u ∧ w.cell? (ad.add k) = some u := by
  rcases r.lies (Nat.lt_of_le_of_lt (Nat.zero_le k) hk) with ⟨ad, e, lt, at'⟩
  rcases h : xs[k]? with _ | u
  · have := List.getElem?_eq_none_iff.1 h
    have := r.len
    omega
  · exact ⟨ad, u, e, lt, rfl, at' k u h⟩
theorem of_own {base : Nat} {e : TypeId} {c : Nat} (own : w.ownsRow base e size (.slice A n c) n xs) : Reads w w.heap.size size A n xs where
  len := own.1
  lies := by
    intro h
    rcases own.form h with ⟨g, cap, hv, _, lt⟩
    cases hv
    exact ⟨⟨g, 0, none⟩, rfl, lt, own.cells (g := g) rfl⟩
end Reads

section
variable {P : Program} {w : World} {base size bytes n m c B : Nat} {t e : TypeId} {i : TypeInfo} {z v : Value} {xs news : List Value} {A : Option Addr}
/-- What an append onto a row of the call's own leaves, whatever is appended: nil, too. -/
theorem append_leaves (ty : TypeId) (ht : P.underlying t = some (.slice e)) (hi : P.info? e = some i) (hz : i.zero = some z) (hsize : i.size = size) (hby : i.bytes = bytes) (hzs : z.cells.size = size) (hsz : 0 < size)
    (own : w.ownsRow base e size v n xs) (src : Reads w B size A m news) (one : ∀ u ∈ news, u.oneCell' = true) (h63 : n + m ≤ maxLen) (hbytes : (n + m) * bytes ≤ 140737488355328) (hbase : base ≤ w.heap.size) :
    ∃ v' w', (Builtin.append_ #[t, t] ty #[v, .slice A m c]).run P w = .ok v' w' ∧ w'.ownsRow base e size v' (n + m) (xs ++ news) ∧ w.grownBy w' v.ownBlock ∧ (v'.ownBlock = v.ownBlock ∨ v'.ownBlock = some w.heap.size) := by
  have nothing : m = 0 → news = [] := fun h => List.eq_nil_of_length_eq_zero (by rw [src.len, h, Nat.zero_mul])
  cases A with
  | some ad =>
    have at' : ∀ j u, news[j]? = some u → w.cell? (ad.add j) = some u := by
      intro j u hu
      rcases Nat.eq_zero_or_pos m with h | h
      · rw [nothing h] at hu; cases hu
      · rcases src.lies h with ⟨ad', e', _, at''⟩
        cases e'
        exact at'' j u hu
    rcases run_append_own_at (P := P) w base t ty e i z size bytes ht hi hz hsize hby hzs hsz v n xs own ad m c news src.len at' one h63 hbytes hbase with ⟨v', w', r, o, g, _, b⟩
    exact ⟨v', w', r, o, g, b⟩
  | none =>
    have h0 : m = 0 := by
      rcases Nat.eq_zero_or_pos m with h | h
      · exact h
      · rcases src.lies h with ⟨_, e', _⟩; cases e'
    subst h0
    rw [nothing rfl]
    refine ⟨v, w, ?_, by simpa using own, ⟨rfl, rfl, rfl, Nat.le_refl _, fun _ _ _ => rfl⟩, .inl rfl⟩
    rcases own.2 with ⟨rfl, rfl⟩ | ⟨g, cap, cur, rfl, _, _, le, _⟩
    · simp [Builtin.append_, run_underlying ht, sizeOf, typeInfo, hi, Builtin.lenOf, Builtin.firstCells]
    · simp [Builtin.append_, run_underlying ht, sizeOf, typeInfo, hi, Builtin.lenOf, Builtin.firstCells, le, storeCells]
theorem append_steps {o : Oper} {a : Act} {K : Act → World → Prop} {Q : Exit → Act → World → Prop} {s x : Operand} (ho : o.op = .call { callee := .builtin .append, args := #[s, x], argTypes := #[t, t] })
    (ht : P.underlying t = some (.slice e)) (hi : P.info? e = some i) (hz : i.zero = some z) (hsize : i.size = size) (hby : i.bytes = bytes) (hzs : z.cells.size = size) (hsz : 0 < size)
    (hs : a.eval s = v) (own : w.ownsRow base e size v n xs) (hx : a.eval x = .slice A m c) (src : Reads w B size A m news) (one : ∀ u ∈ news, u.oneCell' = true) (h63 : n + m ≤ maxLen) (hbytes : (n + m) * bytes ≤ 140737488355328) (hbase : base ≤ w.heap.size)
    (k : ∀ v' w', w'.ownsRow base e size v' (n + m) (xs ++ news) → w.grownBy w' v.ownBlock → (v'.ownBlock = v.ownBlock ∨ v'.ownBlock = some w.heap.size) → K (a.put o.dst v') w') : o.wp P a w K Q := by
  rcases append_leaves (P := P) (c := c) o.type ht hi hz hsize hby hzs hsz own src one h63 hbytes hbase with ⟨v', w', r, h1, h2, h3⟩
  have := k v' w' h1 h2 h3
  unfold Oper.wp execOp
  simp only [ho, resolve, invoke, builtin, Sem.run_bind, Sem.run_pure, Result.andThen_ok, List.map_toArray, List.map_cons, List.map_nil, hs, hx, r]
  exact this
end
section
variable {P : Program} (w : World)
/-- The same at the head of a list of operations. -/
theorem wpList_append_any {ops : Array Oper} {rest : List Oper} {o : Oper} {a : Act} {Q : Exit → Act → World → Prop} (hgd : o.guard = none) (s x : Operand) (t : TypeId)
    (ho : o.op = .call { callee := .builtin .append, args := #[s, x], argTypes := #[t, t] }) (base : Nat) (e : TypeId) (i : TypeInfo) (z : Value) (size bytes : Nat)
    (ht : P.underlying t = some (.slice e)) (hi : P.info? e = some i) (hz : i.zero = some z) (hsize : i.size = size) (hby : i.bytes = bytes) (hzs : z.cells.size = size) (hsz : 0 < size)
    (v : Value) (n : Nat) (xs : List Value) (hs : a.eval s = v) (own : w.ownsRow base e size v n xs) (B : Nat) (A : Option Addr) (m c : Nat) (news : List Value) (hx : a.eval x = .slice A m c) (src : Reads w B size A m news)
    (one : ∀ u ∈ news, u.oneCell' = true) (h63 : n + m ≤ maxLen) (hbytes : (n + m) * bytes ≤ 140737488355328) (hbase : base ≤ w.heap.size)
    (k : ∀ v' w', w'.ownsRow base e size v' (n + m) (xs ++ news) → w.grownBy w' v.ownBlock → (v'.ownBlock = v.ownBlock ∨ v'.ownBlock = some w.heap.size) → wpList P ops Q rest (a.put o.dst v') w') : wpList P ops Q (o :: rest) a w := by
  refine wpList_plain hgd (fun K hK => append_steps ho ht hi hz hsize hby hzs hsz hs own hx src one h63 hbytes hbase (fun v' w' a1 a2 a3 => ?_))
  exact hK _ _ (k v' w' a1 a2 a3)
/-- The same at a step of a region that draws its order. -/
theorem step_append_any {ops : Array Oper} {o : Oper} {a : Act} {K : Act → World → Prop} {Q : Exit → Act → World → Prop} {E : Prop} (hgd : o.guard = none) (s x : Operand) (t : TypeId)
    (ho : o.op = .call { callee := .builtin .append, args := #[s, x], argTypes := #[t, t] }) (base : Nat) (e : TypeId) (i : TypeInfo) (z : Value) (size bytes : Nat)
    (ht : P.underlying t = some (.slice e)) (hi : P.info? e = some i) (hz : i.zero = some z) (hsize : i.size = size) (hby : i.bytes = bytes) (hzs : z.cells.size = size) (hsz : 0 < size)
    (v : Value) (n : Nat) (xs : List Value) (hs : a.eval s = v) (own : w.ownsRow base e size v n xs) (B : Nat) (A : Option Addr) (m c : Nat) (news : List Value) (hx : a.eval x = .slice A m c) (src : Reads w B size A m news)
    (one : ∀ u ∈ news, u.oneCell' = true) (h63 : n + m ≤ maxLen) (hbytes : (n + m) * bytes ≤ 140737488355328) (hbase : base ≤ w.heap.size)
    (k : ∀ v' w', w'.ownsRow base e size v' (n + m) (xs ++ news) → w.grownBy w' v.ownBlock → (v'.ownBlock = v.ownBlock ∨ v'.ownBlock = some w.heap.size) → K (a.put o.dst v') w') :
    if Region.wanted o (yielded ops a.tmps) = true then Oper.wp P o a w K Q else E := by
  split
  · exact append_steps ho ht hi hz hsize hby hzs hsz hs own hx src one h63 hbytes hbase k
  · rename_i no
    exact absurd (by simp [Region.wanted, hgd]) no
end
end Go.Proofs.Ytbjbafhlmcnceaa
