/- Lists of a call: one that grows, others that lie elsewhere; blocks of the call's own. -/
import Derived.Test.YtbjbafhlmcnceaaOwn
import Derived.Test.YtbjbafhlmcnceaaAnyS
import Derived.Test.YtbjbafhlmcnceaaWords
import Derived.Great.BuildSlice
import Derived.Laws.CopyRow
import Derived.Laws.OwnMore
namespace Go.Proofs.Ytbjbafhlmcnceaa
open Go.ChangeShapes Go.WideShapes Go.ChangeAt Go.RowKit
set_option linter.unusedVariables false
set_option linter.unusedSimpArgs false

theorem add_add' (a : Addr) (i j : Nat) : (a.add i).add j = a.add (i + j) := by
  unfold Addr.add
  by_cases hi : i = 0
  · subst hi; simp
  · by_cases hj : j = 0
    · subst hj; simp
    · simp [hi, hj, Nat.add_assoc]
theorem add_block (p : Addr) (k : Nat) : (p.add k).block = p.block := by
  by_cases h : k = 0
  · subst h; simp [Addr.add]
  · simp [Addr.add, h]
theorem add_zero_off (g o j : Nat) : (⟨g, o, none⟩ : Addr).add j = ⟨g, o + j, none⟩ := by unfold Addr.add; split <;> simp_all

/-- A list that lies in memory: from which block on it may lie, where, how many, how much room it has, how many cells each takes, the cells. -/
structure Ent where
  lo : Nat
  A : Option Addr
  n : Nat
  c : Nat
  s : Nat
  xs : List Value
def Ent.val (x : Ent) : Value := .slice x.A x.n x.c
/-- It lies there, in none of some blocks. -/
def Lies (w : World) (no : Nat → Prop) (x : Ent) : Prop :=
  x.xs.length = x.n * x.s ∧ x.n ≤ x.c ∧ (0 < x.n → ∃ ad, x.A = some ad ∧ x.lo ≤ ad.block ∧ ad.block < w.heap.size ∧ ¬ no ad.block ∧ ∀ j u, x.xs[j]? = some u → w.cell? (ad.add j) = some u)
def free (_ : Nat) : Prop := False
theorem Lies.turn {w w' : World} {no no' : Nat → Prop} {x : Ent} (h : Lies w no x) (hs : w.heap.size ≤ w'.heap.size) (hb : ∀ b, b < w.heap.size → ¬ no b → w'.heap[b]? = w.heap[b]?) (hn : ∀ b, b < w.heap.size → ¬ no b → ¬ no' b) : Lies w' no' x :=
  ⟨h.1, h.2.1, fun hne => by
    obtain ⟨ad, h1, h2, h3, h4, h5⟩ := h.2.2 hne
    refine ⟨ad, h1, h2, by omega, hn _ h3 h4, fun j u hu => ?_⟩
    rw [← h5 j u hu]
    exact World.cell?_of_block (by rw [add_block]; exact hb _ h3 h4)⟩
theorem Lies.low {w : World} {no : Nat → Prop} {lo lo' n c s : Nat} {A : Option Addr} {xs : List Value} (h : Lies w no ⟨lo, A, n, c, s, xs⟩) (hl : lo' ≤ lo) : Lies w no ⟨lo', A, n, c, s, xs⟩ :=
  ⟨h.1, h.2.1, fun hne => by
    obtain ⟨ad, h1, h2, h3⟩ := h.2.2 hne
    exact ⟨ad, h1, Nat.le_trans hl h2, h3⟩⟩
theorem Lies.nil {w : World} {no : Nat → Prop} {lo c s : Nat} {A : Option Addr} : Lies w no ⟨lo, A, 0, c, s, []⟩ := ⟨by simp, Nat.zero_le _, fun h => absurd h (Nat.lt_irrefl 0)⟩
theorem Lies.below {w w' : World} {x : Ent} (h : Lies w free x) (hb : Below w.heap.size w w') : Lies w' free x := h.turn hb.size (fun b hbb _ => hb.block b hbb) (fun _ _ h => h)
theorem Lies.reads {w : World} {no : Nat → Prop} {x : Ent} (h : Lies w no x) : Reads w w.heap.size x.s x.A x.n x.xs where
  len := h.1
  lies := fun h0 => by
    obtain ⟨ad, h1, h2, h3, h4, h5⟩ := h.2.2 h0
    exact ⟨ad, h1, h3, h5⟩

/-- A row that the call makes. -/
structure RowD where
  v : Value
  e : TypeId
  s : Nat
  n : Nat
  xs : List Value
def nilRow : RowD := ⟨.slice none 0 0, 0, 0, 0, []⟩
def RowD.no (R : RowD) (bs : List (Nat × TypeId × List Value)) (b : Nat) : Prop := R.v.ownBlock = some b ∨ b ∈ bs.map (·.1)
/-- Since w0 nothing old has changed, these blocks are the call's own, the row too, and these lists lie elsewhere. -/
def Held (w0 w : World) (bs : List (Nat × TypeId × List Value)) (R : RowD) (es : List Ent) : Prop :=
  Own w0 w bs ∧ w.ownsRow w0.heap.size R.e R.s R.v R.n R.xs ∧ (∀ x ∈ bs, R.v.ownBlock ≠ some x.1) ∧ ∀ x ∈ es, Lies w (R.no bs) x
theorem grown_below {B : Nat} {w0 w w' : World} {row : Option Nat} (hb : Below B w0 w) (hB : B ≤ w.heap.size) (hg : w.grownBy w' row) (hrow : ∀ k, row = some k → B ≤ k) : Below B w0 w' :=
  hb.trans ⟨hg.os, hg.tape, hg.output, hg.size, fun j hj => hg.block j (Nat.lt_of_lt_of_le hj hB) (fun e => by have := hrow j e.symm; omega)⟩
theorem below_grown {w w' : World} (hb : Below w.heap.size w w') : w.grownBy w' none := ⟨hb.os, hb.tape, hb.output, hb.size, fun k hk _ => hb.block k hk⟩
theorem none_ne (o : Option Nat) : o = none ∨ o ≠ none := by cases o <;> simp
theorem set_fst {bs : List (Nat × TypeId × List Value)} {k g : Nat} {t : TypeId} {cs : List Value} (hk : bs[k]? = some (g, t, cs)) (ds : List Value) : (bs.set k (g, t, ds)).map (·.1) = bs.map (·.1) := by
  rw [List.map_set]
  apply List.ext_getElem?
  intro i
  rw [List.getElem?_set]
  split
  · rename_i e
    subst e
    obtain ⟨hlt, he⟩ := List.getElem?_eq_some_iff.1 hk
    rw [if_pos (by simpa using hlt)]
    simp [hk]
  · rfl
theorem Own.fst {bs : List (Nat × TypeId × List Value)} {k g : Nat} {t : TypeId} {cs : List Value} (hk : bs[k]? = some (g, t, cs)) : g ∈ bs.map (·.1) := List.mem_map.2 ⟨_, Own.mem hk, rfl⟩
section
variable {w0 w w' : World} {bs : List (Nat × TypeId × List Value)} {R : RowD} {es : List Ent} {g k : Nat} {t : TypeId} {cs : List Value}
theorem Held.below (h : Held w0 w bs R es) : Below w0.heap.size w0 w := h.1.1
theorem Held.start (w : World) (es : List Ent) (h : ∀ x ∈ es, Lies w free x) : Held w w [] nilRow es :=
  ⟨Own.start w, World.ownsRow_nil _ _ _ _, by simp, fun x hx => (h x hx).turn (Nat.le_refl _) (fun _ _ _ => rfl) (fun b _ _ => by simp [RowD.no, nilRow, Value.ownBlock])⟩
theorem Held.row_lt (h : Held w0 w bs R es) {b : Nat} (hb : R.v.ownBlock = some b) : w0.heap.size ≤ b ∧ b < w.heap.size := h.2.1.lt b hb
theorem Held.fst_of (h : Held w0 w bs R es) {b : Nat} (hb : b ∈ bs.map (·.1)) : w0.heap.size ≤ b ∧ b < w.heap.size := by
  obtain ⟨x, hx, rfl⟩ := List.mem_map.1 hb
  exact ⟨(h.1.2.2 x hx).1, h.1.lt hx⟩
theorem Held.alloc (h : Held w0 w bs R es) (t : TypeId) (cs : List Value) : Held w0 (w.alloc (.cells cs.toArray t)) ((w.heap.size, t, cs) :: bs) R es :=
  ⟨h.1.alloc t cs, h.2.1.alloc _, fun x hx => by
    rcases List.mem_cons.1 hx with rfl | hx
    · intro e
      have := (h.row_lt e).2
      exact absurd this (Nat.lt_irrefl _)
    · exact h.2.2.1 x hx, fun x hx => (h.2.2.2 x hx).turn (by simp) (fun b hb _ => Below.heap_alloc w _ b hb) (fun b hb hn => by
    simp only [RowD.no, List.map_cons, List.mem_cons] at hn ⊢
    rintro (hm | rfl | hm)
    · exact hn (.inl hm)
    · omega
    · exact hn (.inr hm))⟩
theorem Held.drew (h : Held w0 w bs R es) : Held w0 w.drew bs R es := ⟨h.1.drew, h.2.1, h.2.2.1, fun x hx => (h.2.2.2 x hx).turn (Nat.le_refl _) (fun _ _ _ => rfl) (fun _ _ h => h)⟩
theorem Held.call (h : Held w0 w bs R es) (hb : Below w.heap.size w w') : Held w0 w' bs R es :=
  ⟨h.1.call hb, h.2.1.kept (below_grown hb) (none_ne _), h.2.2.1, fun x hx => (h.2.2.2 x hx).turn hb.size (fun b hbb _ => hb.block b hbb) (fun _ _ h => h)⟩
theorem Held.blk (h : Held w0 w bs R es) (k : Nat) (hk : bs[k]? = some (g, t, cs)) : w.heap[g]? = some (.cells cs.toArray t (0, 0)) := h.1.blk k hk
theorem Held.cell (h : Held w0 w bs R es) (k : Nat) (hk : bs[k]? = some (g, t, cs)) {i : Nat} {v : Value} (hv : cs[i]? = some v) : w.cell? ⟨g, i, none⟩ = some v := h.1.cell k hk hv
theorem Held.frozen (h : Held w0 w bs R es) (k : Nat) (hk : bs[k]? = some (g, t, cs)) (i : Nat) : w.frozen? ⟨g, i, none⟩ = false := h.1.frozen k hk i
theorem Held.set_ (h : Held w0 w bs R es) (hk : bs[k]? = some (g, t, cs)) (ds : List Value) (hO : Own w0 w' (bs.set k (g, t, ds))) (hg : w.grownBy w' (some g)) : Held w0 w' (bs.set k (g, t, ds)) R es := by
  have hne : R.v.ownBlock ≠ some g := h.2.2.1 _ (Own.mem hk)
  refine ⟨hO, h.2.1.kept hg (.inr hne), fun x hx => ?_, fun x hx => (h.2.2.2 x hx).turn hg.size (fun b hb hn => hg.block b hb (fun e => ?_)) (fun b hb hn => ?_)⟩
  · have : x.1 ∈ (bs.set k (g, t, ds)).map (·.1) := List.mem_map.2 ⟨x, hx, rfl⟩
    rw [set_fst hk] at this
    obtain ⟨y, hy, he⟩ := List.mem_map.1 this
    rw [← he]
    exact h.2.2.1 y hy
  · cases e
    exact hn (.inr (Own.fst hk))
  · unfold RowD.no
    rw [set_fst hk]
    exact hn
theorem Held.setCell (h : Held w0 w bs R es) (k : Nat) (hk : bs[k]? = some (g, t, cs)) (i : Nat) (v : Value) : Held w0 (w.setCell ⟨g, i, none⟩ v) (bs.set k (g, t, cs.set i v)) R es :=
  h.set_ hk _ (h.1.setCell k hk i v) ⟨rfl, rfl, rfl, by simp [World.setCell], fun j hj hne => heap_setCell_other w _ j v (fun e => hne (by rw [e]))⟩
theorem Held.setRow (h : Held w0 w bs R es) (k : Nat) (hk : bs[k]? = some (g, t, cs)) (ds : List Value) : Held w0 (w.setRow g ds.toArray) (bs.set k (g, t, ds)) R es :=
  h.set_ hk _ (h.1.setRow k hk ds) ⟨rfl, rfl, rfl, by simp, fun j hj hne => setRow_other w g j _ (fun e => hne (by rw [e]))⟩
theorem Held.pick (h : Held w0 w bs R es) {es' : List Ent} (hs : ∀ x ∈ es', x ∈ es) : Held w0 w bs R es' := ⟨h.1, h.2.1, h.2.2.1, fun x hx => h.2.2.2 x (hs x hx)⟩
theorem Held.tail {x : Nat × TypeId × List Value} (h : Held w0 w (x :: bs) R es) : Held w0 w bs R es :=
  ⟨⟨h.1.1, (List.nodup_cons.1 (by simpa using h.1.2.1)).2, fun y hy => h.1.2.2 y (List.mem_cons_of_mem _ hy)⟩, h.2.1, fun y hy => h.2.2.1 y (List.mem_cons_of_mem _ hy),
    fun y hy => (h.2.2.2 y hy).turn (Nat.le_refl _) (fun _ _ _ => rfl) (fun b _ hn hm => hn (hm.imp id (fun h => List.mem_cons_of_mem _ h)))⟩
theorem Held.mem (h : Held w0 w bs R es) {x : Ent} (hx : x ∈ es) : Lies w (R.no bs) x := h.2.2.2 x hx
/-- A list as an argument, or handed back. -/
theorem Held.arg (h : Held w0 w bs R es) {x : Ent} (hx : x ∈ es) : Lies w free x := (h.2.2.2 x hx).turn (Nat.le_refl _) (fun _ _ _ => rfl) (fun _ _ _ h => h)
/-- Lists that a call hands back. -/
theorem Held.gains (h : Held w0 w bs R es) (hb : Below w.heap.size w w') {ns : List Ent} (hn : ∀ x ∈ ns, x.lo = w.heap.size ∧ Lies w' free x) : Held w0 w' bs R (ns.map (fun x => { x with lo := w0.heap.size }) ++ es) := by
  have h2 := h.call hb
  refine ⟨h2.1, h2.2.1, h2.2.2.1, fun x hx => ?_⟩
  rcases List.mem_append.1 hx with hx | hx
  · obtain ⟨y, hy, rfl⟩ := List.mem_map.1 hx
    obtain ⟨hlo, hl⟩ := hn y hy
    refine ⟨hl.1, hl.2.1, fun hne => ?_⟩
    obtain ⟨ad, h3, h4, h5, h6, h7⟩ := hl.2.2 hne
    have hle := h.1.1.size
    rw [hlo] at h4
    refine ⟨ad, h3, Nat.le_trans hle h4, h5, ?_, h7⟩
    rintro (hr | hm)
    · have := (h.row_lt hr).2; omega
    · have := (h.fst_of hm).2; omega
  · exact h2.2.2.2 x hx
theorem Held.gain (h : Held w0 w bs R es) (hb : Below w.heap.size w w') {n c s : Nat} {A : Option Addr} {xs : List Value} (hx : Lies w' free ⟨w.heap.size, A, n, c, s, xs⟩) : Held w0 w' bs R (⟨w0.heap.size, A, n, c, s, xs⟩ :: es) :=
  h.gains hb (ns := [⟨w.heap.size, A, n, c, s, xs⟩]) (by simpa using hx)
/-- The row has grown. -/
theorem Held.grow (h : Held w0 w bs R es) {v' : Value} {n' : Nat} {xs' : List Value} (ho : w'.ownsRow w0.heap.size R.e R.s v' n' xs') (hg : w.grownBy w' R.v.ownBlock) (hv : v'.ownBlock = R.v.ownBlock ∨ v'.ownBlock = some w.heap.size) :
    Held w0 w' bs ⟨v', R.e, R.s, n', xs'⟩ es := by
  have hsz : w0.heap.size ≤ w.heap.size := h.1.1.size
  refine ⟨⟨grown_below h.1.1 hsz hg (fun k hk => (h.row_lt hk).1), h.1.2.1, fun x hx => ⟨(h.1.2.2 x hx).1, ?_⟩⟩, ho, fun x hx => ?_, fun x hx => (h.2.2.2 x hx).turn hg.size (fun b hb hn => hg.block b hb (fun e => hn (.inl e.symm))) (fun b hb hn => ?_)⟩
  · rw [hg.block _ (h.1.lt hx) (fun e => h.2.2.1 x hx e.symm)]
    exact (h.1.2.2 x hx).2
  · intro e
    rcases hv with hv | hv
    · exact h.2.2.1 x hx (hv ▸ e)
    · have hl := h.1.lt hx
      have : some w.heap.size = some x.1 := hv.symm.trans e
      have := Option.some.inj this
      omega
  · rintro (e | hm)
    · rcases hv with hv | hv
      · exact hn (.inl (hv ▸ e))
      · have : some w.heap.size = some b := hv.symm.trans e
        have := Option.some.inj this
        omega
    · exact hn (.inr hm)
/-- The row is of another kind (there is none yet). -/
theorem Held.fresh (h : Held w0 w bs nilRow es) (e : TypeId) (s : Nat) : Held w0 w bs ⟨.slice none 0 0, e, s, 0, []⟩ es := ⟨h.1, World.ownsRow_nil _ _ _ _, h.2.2.1, h.2.2.2⟩
/-- The row is done. -/
theorem row_lies (h : w.ownsRow w0.heap.size R.e R.s R.v R.n R.xs) : ∃ A c, R.v = .slice A R.n c ∧ (∀ no : Nat → Prop, (∀ b, R.v.ownBlock = some b → ¬ no b) → Lies w no ⟨w0.heap.size, A, R.n, c, R.s, R.xs⟩) := by
  rcases h.2 with ⟨hv, hn⟩ | ⟨g, cap, cur, hv, hb, hg, hnc, _, hcs, ht⟩
  · refine ⟨none, 0, by rw [hv, hn], fun no _ => ⟨h.1, by simp [hn], fun h0 => by simp [hn] at h0⟩⟩
  · refine ⟨some ⟨g, 0, none⟩, cap, hv, fun no hno => ⟨h.1, hnc, fun _ => ⟨_, rfl, hb, (Array.getElem?_eq_some_iff.1 hg).1, hno g (by rw [hv]; rfl), fun j u hu => ?_⟩⟩⟩
    rw [add_zero_off, Nat.zero_add, cell_of_row w g j cur R.e (0, 0) hg]
    have h1 : R.xs[j]? = some u := hu
    rw [← ht, List.getElem?_take] at h1
    split at h1
    · simpa using h1
    · cases h1
theorem Held.done (h : Held w0 w bs R es) : ∃ A c, R.v = .slice A R.n c ∧ Held w0 w bs nilRow (⟨w0.heap.size, A, R.n, c, R.s, R.xs⟩ :: es) := by
  obtain ⟨A, c, hv, hl⟩ := row_lies h.2.1
  refine ⟨A, c, hv, h.1, World.ownsRow_nil _ _ _ _, by simp [nilRow, Value.ownBlock], fun x hx => ?_⟩
  rcases List.mem_cons.1 hx with rfl | hx
  · refine hl _ (fun b hb hn => ?_)
    rcases hn with hn | hn
    · simp [nilRow, Value.ownBlock] at hn
    · obtain ⟨y, hy, rfl⟩ := List.mem_map.1 hn
      exact h.2.2.1 y hy hb
  · refine (h.2.2.2 x hx).turn (Nat.le_refl _) (fun _ _ _ => rfl) (fun b _ hn hm => ?_)
    rcases hm with hm | hm
    · simp [nilRow, Value.ownBlock] at hm
    · exact hn (.inr hm)
/-- A number into the row. -/
theorem Held.store (h : Held w0 w bs R es) {g c : Nat} (hv : R.v = .slice (some ⟨g, 0, none⟩) R.n c) (j : Nat) (u : Value) : Held w0 (w.setCell ⟨g, j, none⟩ u) bs ⟨R.v, R.e, R.s, R.n, R.xs.set j u⟩ es := by
  have h1 := h.2.1
  rw [hv] at h1
  obtain ⟨h2, h3⟩ := h1.stored j u
  refine h.grow (v' := R.v) (n' := R.n) (xs' := R.xs.set j u) (by rw [hv]; exact h2) (by rw [hv]; exact h3) (.inl rfl)
end

section
variable {P : Program} {ops : Array Oper} {Q : Exit → Act → World → Prop} {a : Act} {w w0 : World} {rest : List Oper} {bs : List (Nat × TypeId × List Value)} {R : RowD} {es : List Ent} {dst : Option Tmp} {ty : TypeId} {pos : String} {after : Array Edge} {K : Act → World → Prop}
theorem wp_box_h {t : TypeId} {x : Operand} (O : Held w0 w bs R es) (cs : List Value) (hx : a.eval x = .agg cs.toArray)
    (h : ∀ g w1, Held w0 w1 ((g, t, cs) :: bs) R es → K (a.put dst (.pointer (some ⟨g, 0, none⟩))) w1) : Oper.wp P ⟨dst, .box t x, ty, pos, after, none⟩ a w K Q := by
  have hr : (Instr.box t (.agg cs.toArray)).run P w = .ok (.pointer (some ⟨w.heap.size, 0, none⟩)) (w.alloc (.cells cs.toArray t)) := rfl
  unfold Oper.wp execOp
  simp only [hx, Sem.run_bind, hr, Result.andThen_ok]
  exact h _ _ (O.alloc t cs)
theorem wpList_box_h {t : TypeId} {x : Operand} (O : Held w0 w bs R es) (cs : List Value) (hx : a.eval x = .agg cs.toArray)
    (h : ∀ g w1, Held w0 w1 ((g, t, cs) :: bs) R es → wpList P ops Q rest (a.put dst (.pointer (some ⟨g, 0, none⟩))) w1) : wpList P ops Q (⟨dst, .box t x, ty, pos, after, none⟩ :: rest) a w :=
  wpList_plain rfl fun K hK => wp_box_h O cs hx fun g w1 O' => hK _ _ (h g w1 O')
theorem wp_alloc_h {t : TypeId} (O : Held w0 w bs R es) (cs : List Value) (hz : (P.info? t).map (·.zero) = some (some (.agg cs.toArray)))
    (h : ∀ g w1, Held w0 w1 ((g, t, cs) :: bs) R es → K (a.put dst (.pointer (some ⟨g, 0, none⟩))) w1) : Oper.wp P ⟨dst, .alloc t, ty, pos, after, none⟩ a w K Q := by
  have hzv : (zeroValue t).run P w = .ok (.agg cs.toArray) w := by
    cases hi : P.info? t with
    | none => simp [hi] at hz
    | some i =>
      have : i.zero = some (.agg cs.toArray) := by simpa [hi] using hz
      simp [zeroValue, typeInfo, hi, this]
  have hr : (Instr.alloc t true (.tuple #[])).run P w = .ok (.pointer (some ⟨w.heap.size, 0, none⟩)) (w.alloc (.cells cs.toArray t)) := by
    unfold Instr.alloc
    rw [Sem.run_bind, hzv, Result.andThen_ok]
    rfl
  unfold Oper.wp execOp
  simp only [Sem.run_bind, hr, Result.andThen_ok]
  exact h _ _ (O.alloc t cs)
theorem wpList_alloc_h {t : TypeId} (O : Held w0 w bs R es) (cs : List Value) (hz : (P.info? t).map (·.zero) = some (some (.agg cs.toArray)))
    (h : ∀ g w1, Held w0 w1 ((g, t, cs) :: bs) R es → wpList P ops Q rest (a.put dst (.pointer (some ⟨g, 0, none⟩))) w1) : wpList P ops Q (⟨dst, .alloc t, ty, pos, after, none⟩ :: rest) a w :=
  wpList_plain rfl fun K hK => wp_alloc_h O cs hz fun g w1 O' => hK _ _ (h g w1 O')
/-- A whole array out of its block. -/
theorem wp_row_h {t : TypeId} {x : Operand} {gd : Option (Nat × Bool)} (O : Held w0 w bs R es) (k : Nat) {g : Nat} {t' : TypeId} {cs : List Value} (hk : bs[k]? = some (g, t', cs)) (hx : a.eval x = .pointer (some ⟨g, 0, none⟩))
    {d : TypeDesc} (hu : P.underlying t = some d) (hd : (match d with | .struct _ | .array _ _ => true | _ => false) = true) (hi : (P.info? t).map (·.size) = some cs.length) (h : K (a.put dst (.agg cs.toArray)) w) : Oper.wp P ⟨dst, .load t x, ty, pos, after, gd⟩ a w K Q :=
  wp_load_row t x rfl g hx t' cs.toArray (0, 0) _ (O.blk k hk) hu hd (by simpa using hi) h
theorem wpList_row_h {t : TypeId} {x : Operand} (O : Held w0 w bs R es) (k : Nat) {g : Nat} {t' : TypeId} {cs : List Value} (hk : bs[k]? = some (g, t', cs)) (hx : a.eval x = .pointer (some ⟨g, 0, none⟩))
    {d : TypeDesc} (hu : P.underlying t = some d) (hd : (match d with | .struct _ | .array _ _ => true | _ => false) = true) (hi : (P.info? t).map (·.size) = some cs.length) (h : wpList P ops Q rest (a.put dst (.agg cs.toArray)) w) :
    wpList P ops Q (⟨dst, .load t x, ty, pos, after, none⟩ :: rest) a w :=
  wpList_plain rfl fun K hK => wp_row_h O k hk hx hu hd hi (hK _ _ h)
/-- A whole array into its block. -/
theorem wp_put_h {t : TypeId} {x y : Operand} {gd : Option (Nat × Bool)} (O : Held w0 w bs R es) (k : Nat) {g : Nat} {t' : TypeId} {cs : List Value} (ds : List Value) (hk : bs[k]? = some (g, t', cs)) (hx : a.eval x = .pointer (some ⟨g, 0, none⟩))
    (hy : a.eval y = .agg ds.toArray) (hi : (P.info? t).map (·.size) = some ds.length) (hl : cs.length = ds.length) (h1 : ∀ v ∈ ds, v.oneCell' = true)
    (h : ∀ w1, Held w0 w1 (bs.set k (g, t', ds)) R es → K (a.put dst undef) w1) : Oper.wp P ⟨dst, .store t x y, ty, pos, after, gd⟩ a w K Q :=
  wp_store_row t x y rfl g ds.toArray hx hy t' cs.toArray (O.blk k hk) (by simpa using hi) (by simpa using hl) (by rw [Array.all_eq_true_iff_forall_mem]; intro v hv; exact h1 v (by simpa using hv)) (h _ (O.setRow k hk ds))
theorem wpList_put_h {t : TypeId} {x y : Operand} (O : Held w0 w bs R es) (k : Nat) {g : Nat} {t' : TypeId} {cs : List Value} (ds : List Value) (hk : bs[k]? = some (g, t', cs)) (hx : a.eval x = .pointer (some ⟨g, 0, none⟩))
    (hy : a.eval y = .agg ds.toArray) (hi : (P.info? t).map (·.size) = some ds.length) (hl : cs.length = ds.length) (h1 : ∀ v ∈ ds, v.oneCell' = true)
    (h : ∀ w1, Held w0 w1 (bs.set k (g, t', ds)) R es → wpList P ops Q rest (a.put dst undef) w1) : wpList P ops Q (⟨dst, .store t x y, ty, pos, after, none⟩ :: rest) a w :=
  wpList_plain rfl fun K hK => wp_put_h O k ds hk hx hy hi hl h1 fun w1 O' => hK _ _ (h w1 O')
/-- One cell. -/
theorem wp_cell_h {t : TypeId} {x : Operand} {gd : Option (Nat × Bool)} (O : Held w0 w bs R es) (k : Nat) {g i : Nat} {t' : TypeId} {cs : List Value} {v : Value} (hk : bs[k]? = some (g, t', cs)) (hv : cs[i]? = some v) (hx : a.eval x = .pointer (some ⟨g, i, none⟩))
    (hs : ∀ w, (isAgg t).run P w = .ok false w) (h1 : v.oneCell' = true) (h : K (a.put dst v) w) : Oper.wp P ⟨dst, .load t x, ty, pos, after, gd⟩ a w K Q := by
  have hc := O.cell k hk hv
  have hr : (loadVar t ⟨g, i, none⟩).run P w = .ok v w := by
    simp [loadVar, hs w, run_load, hc]
  unfold Oper.wp execOp
  simp only [hx, Instr.loadAt, Instr.sureAddr, Sem.run_bind, Sem.run_pure, Result.andThen_ok, hr]
  exact h
theorem wp_set_h {t : TypeId} {x y : Operand} {gd : Option (Nat × Bool)} (O : Held w0 w bs R es) (k : Nat) {g i : Nat} {t' : TypeId} {cs : List Value} (v : Value) (hk : bs[k]? = some (g, t', cs)) (hi : i < cs.length) (hx : a.eval x = .pointer (some ⟨g, i, none⟩))
    (hy : a.eval y = v) (hs : (P.info? t).map (·.size) = some 1) (h1 : v.oneCell' = true) (hcs : v.cells = #[v])
    (h : ∀ w1, Held w0 w1 (bs.set k (g, t', cs.set i v)) R es → K (a.put dst undef) w1) : Oper.wp P ⟨dst, .store t x y, ty, pos, after, gd⟩ a w K Q := by
  have hc := O.cell k hk (List.getElem?_eq_getElem hi)
  have hf := O.frozen k hk i
  have hst : (storeVar t ⟨g, i, none⟩ v).run P w = .ok () (w.setCell ⟨g, i, none⟩ v) := by
    cases hq : P.info? t with
    | none => simp [hq] at hs
    | some j =>
      have hj : j.size = 1 := by simpa [hq] using hs
      have ha : (⟨g, i, none⟩ : Addr).add 0 = ⟨g, i, none⟩ := Addr.add_zero' _
      have hst : (store ⟨g, i, none⟩ v).run P w = .ok () (w.setCell ⟨g, i, none⟩ v) := by
        rw [Go.run_store P w _ v _ h1, hc]
        simp [hf]
      simp [storeVar, sizeOf, typeInfo, hq, hj, hcs, storeCells, ha, hst]
  unfold Oper.wp execOp
  simp only [hx, hy, Instr.storeAt, Instr.sureAddr, Sem.run_bind, Sem.run_pure, Result.andThen_ok, hst]
  exact h _ (O.setCell k hk i v)
theorem wpList_set_h {t : TypeId} {x y : Operand} (O : Held w0 w bs R es) (k : Nat) {g i : Nat} {t' : TypeId} {cs : List Value} (v : Value) (hk : bs[k]? = some (g, t', cs)) (hi : i < cs.length) (hx : a.eval x = .pointer (some ⟨g, i, none⟩))
    (hy : a.eval y = v) (hs : (P.info? t).map (·.size) = some 1) (h1 : v.oneCell' = true) (hcs : v.cells = #[v])
    (h : ∀ w1, Held w0 w1 (bs.set k (g, t', cs.set i v)) R es → wpList P ops Q rest (a.put dst undef) w1) : wpList P ops Q (⟨dst, .store t x y, ty, pos, after, none⟩ :: rest) a w :=
  wpList_plain rfl fun K hK => wp_set_h O k v hk hi hx hy hs h1 hcs fun w1 O' => hK _ _ (h w1 O')
/-- A guarded load that is wanted. -/
theorem wpList_rowg_h {t : TypeId} {x : Operand} {gd : Option (Nat × Bool)} (hw : Region.wanted ⟨dst, .load t x, ty, pos, after, gd⟩ (yielded ops a.tmps) = true) (O : Held w0 w bs R es) (k : Nat) {g : Nat} {t' : TypeId} {cs : List Value} (hk : bs[k]? = some (g, t', cs)) (hx : a.eval x = .pointer (some ⟨g, 0, none⟩))
    {d : TypeDesc} (hu : P.underlying t = some d) (hd : (match d with | .struct _ | .array _ _ => true | _ => false) = true) (hi : (P.info? t).map (·.size) = some cs.length) (h : wpList P ops Q rest (a.put dst (.agg cs.toArray)) w) :
    wpList P ops Q (⟨dst, .load t x, ty, pos, after, gd⟩ :: rest) a w :=
  wpList_step fun K hK => by rw [if_pos hw]; exact wp_row_h O k hk hx hu hd hi (hK _ _ h)
/-- A function's one result, an array in a block of its own. -/
theorem res_h {fn : Func} {p : Tmp} {t : TypeId} (h : fn.results = #[.cell p t]) {tmps : Array Value} (O : Held w0 w bs R es) (k : Nat) {g : Nat} {t' : TypeId} {cs : List Value} (hk : bs[k]? = some (g, t', cs))
    (hp : tmps.getD p undef = .pointer (some ⟨g, 0, none⟩)) {d : TypeDesc} (hu : P.underlying t = some d) (hd : (match d with | .struct _ | .array _ _ => true | _ => false) = true) (hi : (P.info? t).map (·.size) = some cs.length) :
    (results fn tmps).run P w = .ok (.agg cs.toArray) w :=
  results_cell_row h tmps w g t' cs.toArray (0, 0) _ hp (O.blk k hk) hu hd (by simpa using hi)
/-- Two results, the first one an array in a block of its own. -/
theorem res_h2 {fn : Func} {p u : Tmp} {t : TypeId} (h : fn.results = #[.cell p t, .tmp u]) {tmps : Array Value} (O : Held w0 w bs R es) (k : Nat) {g : Nat} {t' : TypeId} {cs : List Value} (hk : bs[k]? = some (g, t', cs))
    (hp : tmps.getD p undef = .pointer (some ⟨g, 0, none⟩)) {d : TypeDesc} (hu : P.underlying t = some d) (hd : (match d with | .struct _ | .array _ _ => true | _ => false) = true) (hi : (P.info? t).map (·.size) = some cs.length) {v : Value} (hv : tmps.getD u undef = v) :
    (results fn tmps).run P w = .ok (.tuple #[.agg cs.toArray, v]) w := by
  rw [results_cell_tmp h, hp]
  have := run_loadVar_row (P := P) w g t' t cs.toArray (0, 0) _ (O.blk k hk) hu hd (by simpa using hi)
  simp only [asAddr, Sem.run_pure, Result.andThen_ok, this, hv]
/-- A guarded cell that is wanted. -/
theorem wpList_cell_h {t : TypeId} {x : Operand} {gd : Option (Nat × Bool)} (hw : Region.wanted ⟨dst, .load t x, ty, pos, after, gd⟩ (yielded ops a.tmps) = true) (O : Held w0 w bs R es) (k : Nat) {g i : Nat} {t' : TypeId} {cs : List Value} {v : Value} (hk : bs[k]? = some (g, t', cs)) (hv : cs[i]? = some v)
    (hx : a.eval x = .pointer (some ⟨g, i, none⟩)) (hs : ∀ w, (isAgg t).run P w = .ok false w) (h1 : v.oneCell' = true) (h : wpList P ops Q rest (a.put dst v) w) : wpList P ops Q (⟨dst, .load t x, ty, pos, after, gd⟩ :: rest) a w :=
  wpList_step fun K hK => by rw [if_pos hw]; exact wp_cell_h O k hk hv hx hs h1 (hK _ _ h)
/-- An array or a struct that stands within a block. -/
theorem wp_mid_h {t : TypeId} {x : Operand} {gd : Option (Nat × Bool)} (O : Held w0 w bs R es) (k : Nat) {g o : Nat} {t' : TypeId} {cs : List Value} (hk : bs[k]? = some (g, t', cs)) (ds : List Value) (hds : ∀ j v, ds[j]? = some v → cs[o + j]? = some v) (hx : a.eval x = .pointer (some ⟨g, o, none⟩))
    {d : TypeDesc} (hu : P.underlying t = some d) (hd : (match d with | .struct _ | .array _ _ => true | _ => false) = true) (hi : (P.info? t).map (·.size) = some ds.length) (h : K (a.put dst (.agg ds.toArray)) w) : Oper.wp P ⟨dst, .load t x, ty, pos, after, gd⟩ a w K Q := by
  have hcell : ∀ j u, ds[j]? = some u → w.cell? ((⟨g, o, none⟩ : Addr).add j) = some u := by
    intro j u hu
    have ha : (⟨g, o, none⟩ : Addr).add j = ⟨g, o + j, none⟩ := by unfold Addr.add; split <;> simp_all
    rw [ha]
    exact O.cell k hk (hds j u hu)
  have hl := run_loadCells_list (P := P) w ⟨g, o, none⟩ ds hcell
  have hr : (loadVar t ⟨g, o, none⟩).run P w = .ok (.agg ds.toArray) w := by
    cases hq : P.info? t with
    | none => simp [hq] at hi
    | some j =>
      have hs : j.size = ds.length := by simpa [hq] using hi
      have hagg : (isAgg t).run P w = .ok true w := by
        unfold isAgg
        rw [Sem.run_bind, run_underlying hu w]
        cases d <;> simp_all
      simp [loadVar, Sem.run_bind, hagg, sizeOf, typeInfo, hq, hs, hl]
  unfold Oper.wp execOp
  simp only [hx, Instr.loadAt, Instr.sureAddr, Sem.run_bind, Sem.run_pure, Result.andThen_ok, hr]
  exact h
theorem wpList_mid_h {t : TypeId} {x : Operand} {gd : Option (Nat × Bool)} (hw : Region.wanted ⟨dst, .load t x, ty, pos, after, gd⟩ (yielded ops a.tmps) = true) (O : Held w0 w bs R es) (k : Nat) {g o : Nat} {t' : TypeId} {cs : List Value} (hk : bs[k]? = some (g, t', cs)) (ds : List Value) (hds : ∀ j v, ds[j]? = some v → cs[o + j]? = some v) (hx : a.eval x = .pointer (some ⟨g, o, none⟩))
    {d : TypeDesc} (hu : P.underlying t = some d) (hd : (match d with | .struct _ | .array _ _ => true | _ => false) = true) (hi : (P.info? t).map (·.size) = some ds.length) (h : wpList P ops Q rest (a.put dst (.agg ds.toArray)) w) : wpList P ops Q (⟨dst, .load t x, ty, pos, after, gd⟩ :: rest) a w :=
  wpList_step fun K hK => by rw [if_pos hw]; exact wp_mid_h O k hk ds hds hx hu hd hi (hK _ _ h)
/-- An element of an array that is a value, elements of one cell each. -/
theorem wp_idx {t e : TypeId} {x y : Operand} {gd : Option (Nat × Bool)} {n : Nat} (hu : P.underlying t = some (.array n e)) (hs : ∀ w, (sizeOf e).run P w = .ok 1 w) (hg : ∀ w, (isAgg e).run P w = .ok false w) (ds : List Value) (hx : a.eval x = .agg ds.toArray) {kd : IntKind} {z : Int} (i : Nat) (hy : a.eval y = .int kd z) (hz : z = (i : Int)) (hi : i < n) {v : Value} (hv : ds[i]? = some v)
    (h : K (a.put dst v) w) : Oper.wp P ⟨dst, .index t x y, ty, pos, after, gd⟩ a w K Q := by
  subst hz
  have hp : (part e ds.toArray i).run P w = .ok v w := by
    have : ds.toArray[i]? = some v := by simpa using hv
    simp [part, Sem.run_bind, hg w, this]
  have hr : (Instr.index t (.agg ds.toArray) (.int kd i)).run P w = .ok v w := by
    unfold Instr.index
    have h1 : (0 : Int) ≤ i ∧ (i : Int) < n := by omega
    simp [asIntOf, Sem.run_bind, run_underlying hu, h1, hs, hp, show ¬ n ≤ i by omega]
  unfold Oper.wp execOp
  simp only [hx, hy, Sem.run_bind, hr, Result.andThen_ok]
  exact h
theorem wpList_idx {t e : TypeId} {x y : Operand} {gd : Option (Nat × Bool)} {n : Nat} (hw : Region.wanted ⟨dst, .index t x y, ty, pos, after, gd⟩ (yielded ops a.tmps) = true) (hu : P.underlying t = some (.array n e)) (hs : ∀ w, (sizeOf e).run P w = .ok 1 w) (hg : ∀ w, (isAgg e).run P w = .ok false w) (ds : List Value) (hx : a.eval x = .agg ds.toArray) {kd : IntKind} {z : Int} (i : Nat) (hy : a.eval y = .int kd z) (hz : z = (i : Int)) (hi : i < n) {v : Value} (hv : ds[i]? = some v)
    (h : wpList P ops Q rest (a.put dst v) w) : wpList P ops Q (⟨dst, .index t x y, ty, pos, after, gd⟩ :: rest) a w :=
  wpList_step fun K hK => by rw [if_pos hw]; exact wp_idx hu hs hg ds hx i hy hz hi hv (hK _ _ h)
/-- Cells into the middle of a block of the call's own. -/
theorem wp_into_h {t : TypeId} {x y : Operand} {gd : Option (Nat × Bool)} (O : Held w0 w bs R es) (k : Nat) {g o : Nat} {t' : TypeId} {cs : List Value} (ds : List Value) (hk : bs[k]? = some (g, t', cs)) (hx : a.eval x = .pointer (some ⟨g, o, none⟩))
    (hy : a.eval y = .agg ds.toArray) (hi : (P.info? t).map (·.size) = some ds.length) (hl : o + ds.length ≤ cs.length) (h1 : ∀ v ∈ ds, v.oneCell' = true)
    (h : ∀ w1, Held w0 w1 (bs.set k (g, t', cs.take o ++ ds ++ cs.drop (o + ds.length))) R es → K (a.put dst undef) w1) : Oper.wp P ⟨dst, .store t x y, ty, pos, after, gd⟩ a w K Q := by
  have hst := run_storeCells_at P g o t' ds 0 cs.toArray w (O.blk k hk) (by simpa using hl) h1
  have hsv : (storeVar t ⟨g, o, none⟩ (.agg ds.toArray)).run P w = .ok () (w.setRow g (cs.take o ++ ds ++ cs.drop (o + ds.length)).toArray) := by
    cases hq : P.info? t with
    | none => simp [hq] at hi
    | some j =>
      have hj : j.size = ds.length := by simpa [hq] using hi
      have hc : (Value.agg ds.toArray).cells = ds.toArray := rfl
      simp only [Nat.add_zero] at hst
      simp [storeVar, sizeOf, typeInfo, hq, hj, hc, hst]
  unfold Oper.wp execOp
  simp only [hx, hy, Instr.storeAt, Instr.sureAddr, Sem.run_bind, Sem.run_pure, Result.andThen_ok, hsv]
  exact h _ (O.setRow k hk _)
/-- The address of an element of a list. -/
def adr (A : Option Addr) : Addr := A.getD ⟨0, 0, none⟩
theorem wp_at_h {t e : TypeId} {x y : Operand} {gd : Option (Nat × Bool)} {s : Nat} (hu : P.underlying t = some (.slice e)) (hs : ∀ w, (sizeOf e).run P w = .ok s w) {no : Nat → Prop} (en : Ent) (L : Lies w no en)
    {n cc : Nat} (hx : a.eval x = .slice en.A n cc) {kd : IntKind} {z : Int} (i : Nat) (hy : a.eval y = .int kd z) (hz : z = (i : Int)) (hi : i < n) (hn : n = en.n) (h : K (a.put dst (.pointer (some ((adr en.A).add (i * s))))) w) : Oper.wp P ⟨dst, .indexAddr t x y, ty, pos, after, gd⟩ a w K Q := by
  subst hz hn
  obtain ⟨lo, A, n, c, s', xs⟩ := en
  obtain ⟨ad, rfl, -⟩ := L.2.2 (by omega)
  have hr : (Instr.indexAt t (.slice (some ad) n cc) (.int kd i)).run P w = .ok (.pointer (some (ad.add (i * s)))) w := by
    have h1 : (0 : Int) ≤ i ∧ (i : Int) < n := by dsimp only at hi; omega
    unfold Instr.indexAt
    simp [asIntOf, Sem.run_bind, run_underlying hu, hs w, h1, show ¬ n ≤ i by dsimp only at hi; omega]
  unfold Oper.wp execOp
  simp only [hx, hy, Sem.run_bind, hr, Result.andThen_ok]
  exact h
theorem wpList_at_h {t e : TypeId} {x y : Operand} {gd : Option (Nat × Bool)} {s : Nat} (hw : Region.wanted ⟨dst, .indexAddr t x y, ty, pos, after, gd⟩ (yielded ops a.tmps) = true) (hu : P.underlying t = some (.slice e)) (hs : ∀ w, (sizeOf e).run P w = .ok s w) {no : Nat → Prop} (en : Ent) (L : Lies w no en)
    {n cc : Nat} (hx : a.eval x = .slice en.A n cc) {kd : IntKind} {z : Int} (i : Nat) (hy : a.eval y = .int kd z) (hz : z = (i : Int)) (hi : i < n) (hn : n = en.n) (h : wpList P ops Q rest (a.put dst (.pointer (some ((adr en.A).add (i * s))))) w) : wpList P ops Q (⟨dst, .indexAddr t x y, ty, pos, after, gd⟩ :: rest) a w :=
  wpList_step fun K hK => by rw [if_pos hw]; exact wp_at_h hu hs en L hx i hy hz hi hn (hK _ _ h)
/-- The address of a field. -/
theorem wp_fld_h {t : TypeId} {x : Operand} {gd : Option (Nat × Bool)} {f : Nat} {k : Nat} {ad : Addr} (hf : ∀ w, (Instr.fieldAt t (.pointer (some ad)) f).run P w = .ok (.pointer (some (ad.add k))) w) (hx : a.eval x = .pointer (some ad))
    (h : K (a.put dst (.pointer (some (ad.add k)))) w) : Oper.wp P ⟨dst, .fieldAddr t x f, ty, pos, after, gd⟩ a w K Q := by
  unfold Oper.wp execOp
  simp only [hx, Sem.run_bind, hf w, Result.andThen_ok]
  exact h
theorem wpList_fld_h {t : TypeId} {x : Operand} {gd : Option (Nat × Bool)} {f : Nat} {k : Nat} {ad : Addr} (hw : Region.wanted ⟨dst, .fieldAddr t x f, ty, pos, after, gd⟩ (yielded ops a.tmps) = true) (hf : ∀ w, (Instr.fieldAt t (.pointer (some ad)) f).run P w = .ok (.pointer (some (ad.add k))) w) (hx : a.eval x = .pointer (some ad))
    (h : wpList P ops Q rest (a.put dst (.pointer (some (ad.add k)))) w) : wpList P ops Q (⟨dst, .fieldAddr t x f, ty, pos, after, gd⟩ :: rest) a w :=
  wpList_step fun K hK => by rw [if_pos hw]; exact wp_fld_h hf hx (hK _ _ h)
/-- One cell of a list. -/
theorem wp_ecell_h {t : TypeId} {x : Operand} {gd : Option (Nat × Bool)} {no : Nat → Prop} (en : Ent) (L : Lies w no en) (j : Nat) {v : Value} (hv : en.xs[j]? = some v) (hx : a.eval x = .pointer (some ((adr en.A).add j)))
    (hs : ∀ w, (isAgg t).run P w = .ok false w) (h1 : v.oneCell' = true) (h : K (a.put dst v) w) : Oper.wp P ⟨dst, .load t x, ty, pos, after, gd⟩ a w K Q := by
  obtain ⟨lo, A, n, c, s, xs⟩ := en
  have hj : j < xs.length := (List.getElem?_eq_some_iff.1 hv).1
  obtain ⟨ad, rfl, -, -, -, hc⟩ := L.2.2 (by
    have := L.1
    dsimp only at this ⊢
    rcases Nat.eq_zero_or_pos n with rfl | h0
    · rw [Nat.zero_mul] at this; omega
    · exact h0)
  have hc := hc j v hv
  have hr : (loadVar t (ad.add j)).run P w = .ok v w := by
    simp [loadVar, hs w, run_load, hc]
  unfold Oper.wp execOp
  simp only [hx, Instr.loadAt, Instr.sureAddr, Sem.run_bind, Sem.run_pure, Result.andThen_ok, adr, Option.getD_some, hr]
  exact h
theorem wpList_ecell_h {t : TypeId} {x : Operand} {gd : Option (Nat × Bool)} {no : Nat → Prop} (hw : Region.wanted ⟨dst, .load t x, ty, pos, after, gd⟩ (yielded ops a.tmps) = true) (en : Ent) (L : Lies w no en) (j : Nat) {v : Value} (hv : en.xs[j]? = some v) (hx : a.eval x = .pointer (some ((adr en.A).add j)))
    (hs : ∀ w, (isAgg t).run P w = .ok false w) (h1 : v.oneCell' = true) (h : wpList P ops Q rest (a.put dst v) w) : wpList P ops Q (⟨dst, .load t x, ty, pos, after, gd⟩ :: rest) a w :=
  wpList_step fun K hK => by rw [if_pos hw]; exact wp_ecell_h en L j hv hx hs h1 (hK _ _ h)
/-- Some cells of a list, as a struct. -/
theorem wp_elem_h {t : TypeId} {x : Operand} {gd : Option (Nat × Bool)} {no : Nat → Prop} (en : Ent) (L : Lies w no en) (o : Nat) (ds : List Value) (hds : ∀ j v, ds[j]? = some v → en.xs[o + j]? = some v) (h0 : 0 < ds.length) (hx : a.eval x = .pointer (some ((adr en.A).add o)))
    {d : TypeDesc} (hu : P.underlying t = some d) (hd : (match d with | .struct _ | .array _ _ => true | _ => false) = true) (hi : (P.info? t).map (·.size) = some ds.length) (h : K (a.put dst (.agg ds.toArray)) w) : Oper.wp P ⟨dst, .load t x, ty, pos, after, gd⟩ a w K Q := by
  obtain ⟨lo, A, n, c, s, xs⟩ := en
  obtain ⟨ad, rfl, -, -, -, hc⟩ := L.2.2 (by
    have := L.1
    have hh := hds 0 _ (List.getElem?_eq_getElem h0)
    have hj := (List.getElem?_eq_some_iff.1 hh).1
    dsimp only at this hj ⊢
    rcases Nat.eq_zero_or_pos n with rfl | h0
    · rw [Nat.zero_mul] at this; omega
    · exact h0)
  have hcell : ∀ j u, ds[j]? = some u → w.cell? ((ad.add o).add j) = some u := by
    intro j u hu
    rw [add_add']
    exact hc _ u (hds j u hu)
  have hl := run_loadCells_list (P := P) w (ad.add o) ds hcell
  have hr : (loadVar t (ad.add o)).run P w = .ok (.agg ds.toArray) w := by
    cases hq : P.info? t with
    | none => simp [hq] at hi
    | some j =>
      have hs : j.size = ds.length := by simpa [hq] using hi
      have hagg : (isAgg t).run P w = .ok true w := by
        unfold isAgg
        rw [Sem.run_bind, run_underlying hu w]
        cases d <;> simp_all
      simp [loadVar, Sem.run_bind, hagg, sizeOf, typeInfo, hq, hs, hl]
  unfold Oper.wp execOp
  simp only [hx, Instr.loadAt, Instr.sureAddr, Sem.run_bind, Sem.run_pure, Result.andThen_ok, adr, Option.getD_some, hr]
  exact h
theorem wpList_elem_h {t : TypeId} {x : Operand} {gd : Option (Nat × Bool)} {no : Nat → Prop} (hw : Region.wanted ⟨dst, .load t x, ty, pos, after, gd⟩ (yielded ops a.tmps) = true) (en : Ent) (L : Lies w no en) (o : Nat) (ds : List Value) (hds : ∀ j v, ds[j]? = some v → en.xs[o + j]? = some v) (h0 : 0 < ds.length) (hx : a.eval x = .pointer (some ((adr en.A).add o)))
    {d : TypeDesc} (hu : P.underlying t = some d) (hd : (match d with | .struct _ | .array _ _ => true | _ => false) = true) (hi : (P.info? t).map (·.size) = some ds.length) (h : wpList P ops Q rest (a.put dst (.agg ds.toArray)) w) : wpList P ops Q (⟨dst, .load t x, ty, pos, after, gd⟩ :: rest) a w :=
  wpList_step fun K hK => by rw [if_pos hw]; exact wp_elem_h en L o ds hds h0 hx hu hd hi (hK _ _ h)
/-- A slice literal. -/
theorem wp_lit_h {t e : TypeId} {len : Nat} {parts : Array (Nat × Operand)} {gd : Option (Nat × Bool)} (O : Held w0 w bs R es) (s : Nat) (z : Value) (hi : (P.info? e).map (fun i => (i.zero, i.size)) = some (some z, s)) (hu : P.underlying t = some (.slice e))
    (l : List (Nat × Value)) (cs : List Value) (hl : parts.toList.map (fun x => (x.1, a.eval x.2)) = l) (hn : cs.length = len * s) (hp : 0 < len * s) (hm : len * s ≤ 1000)
    (hf : Instr.fill (fun i => some (i * s, s)) ((Array.range (len * s)).map (z.cells[· % z.cells.size]!)) l = some cs.toArray)
    (h : ∀ g w1, Held w0 w1 bs R (⟨w0.heap.size, some ⟨g, 0, none⟩, len, len, s, cs⟩ :: es) → K (a.put dst (.slice (some ⟨g, 0, none⟩) len len)) w1) : Oper.wp P ⟨dst, .buildSlice t len parts, ty, pos, after, gd⟩ a w K Q := by
  cases hie : P.info? e with
  | none => simp [hie] at hi
  | some ie =>
    simp only [hie, Option.map_some, Option.some.injEq, Prod.mk.injEq] at hi
    obtain ⟨hz, hs⟩ := hi
    subst hs
    refine wp_buildSlice t e len parts rfl cs.toArray ie z hu hie hz (by omega) (by omega) (by rw [Array.toList_map, hl]; exact hf) ?_
    have hbw : Below w.heap.size w (w.alloc (.cells cs.toArray e)) := (Below.refl _ w).alloc (Nat.le_refl _) _
    refine h _ _ (O.gain hbw ⟨hn, Nat.le_refl _, fun _ => ⟨_, rfl, Nat.le_refl _, by simp, id, fun j u hu => ?_⟩⟩)
    rw [add_zero_off, Nat.zero_add, cell_of_row _ _ _ _ _ _ (heap_alloc_new w _)]
    simpa using hu
theorem wpList_lit_h {t e : TypeId} {len : Nat} {parts : Array (Nat × Operand)} {gd : Option (Nat × Bool)} (hw : Region.wanted ⟨dst, .buildSlice t len parts, ty, pos, after, gd⟩ (yielded ops a.tmps) = true) (O : Held w0 w bs R es) (s : Nat) (z : Value) (hi : (P.info? e).map (fun i => (i.zero, i.size)) = some (some z, s)) (hu : P.underlying t = some (.slice e))
    (l : List (Nat × Value)) (cs : List Value) (hl : parts.toList.map (fun x => (x.1, a.eval x.2)) = l) (hn : cs.length = len * s) (hp : 0 < len * s) (hm : len * s ≤ 1000)
    (hf : Instr.fill (fun i => some (i * s, s)) ((Array.range (len * s)).map (z.cells[· % z.cells.size]!)) l = some cs.toArray)
    (h : ∀ g w1, Held w0 w1 bs R (⟨w0.heap.size, some ⟨g, 0, none⟩, len, len, s, cs⟩ :: es) → wpList P ops Q rest (a.put dst (.slice (some ⟨g, 0, none⟩) len len)) w1) : wpList P ops Q (⟨dst, .buildSlice t len parts, ty, pos, after, gd⟩ :: rest) a w :=
  wpList_step fun K hK => by rw [if_pos hw]; exact wp_lit_h O s z hi hu l cs hl hn hp hm hf fun g w1 O' => hK _ _ (h g w1 O')
/-- An append onto the row, of a list that lies elsewhere. -/
theorem wp_app_h {t : TypeId} {x y : Operand} {gd : Option (Nat × Bool)} (O : Held w0 w bs R es) (z : Value) (bytes : Nat) (hi : (P.info? R.e).map (fun i => (i.zero, i.size, i.bytes)) = some (some z, R.s, bytes)) (hzs : z.cells.size = R.s) (hsz : 0 < R.s) (hu : P.underlying t = some (.slice R.e))
    (hx : a.eval x = R.v) {no : Nat → Prop} (en : Ent) (L : Lies w no en) (hes : en.s = R.s) {c : Nat} (hy : a.eval y = .slice en.A en.n c) (h1 : ∀ v ∈ en.xs, v.oneCell' = true) (hb : (R.n + en.n) ≤ 1000) (hbb : bytes ≤ 1000)
    (h : ∀ v w1, Held w0 w1 bs ⟨v, R.e, R.s, R.n + en.n, R.xs ++ en.xs⟩ es → K (a.put dst v) w1) : Oper.wp P ⟨dst, .call { callee := .builtin .append, args := #[x, y], argTypes := #[t, t] }, ty, pos, after, gd⟩ a w K Q := by
  cases hie : P.info? R.e with
  | none => simp [hie] at hi
  | some ie =>
    simp only [hie, Option.map_some, Option.some.injEq, Prod.mk.injEq] at hi
    obtain ⟨hz, hs, hby⟩ := hi
    have hR := L.reads
    rw [hes] at hR
    exact append_steps (P := P) rfl hu hie hz hs hby hzs hsz hx O.2.1 hy hR h1 (by unfold maxLen; omega) (by have := Nat.mul_le_mul hb hbb; omega) O.1.1.size fun v' w' a1 a2 a3 => h v' w' (O.grow a1 a2 a3)
theorem wpList_app_h {t : TypeId} {x y : Operand} {gd : Option (Nat × Bool)} (hw : Region.wanted ⟨dst, .call { callee := .builtin .append, args := #[x, y], argTypes := #[t, t] }, ty, pos, after, gd⟩ (yielded ops a.tmps) = true) (O : Held w0 w bs R es) (z : Value) (bytes : Nat) (hi : (P.info? R.e).map (fun i => (i.zero, i.size, i.bytes)) = some (some z, R.s, bytes)) (hzs : z.cells.size = R.s) (hsz : 0 < R.s) (hu : P.underlying t = some (.slice R.e))
    (hx : a.eval x = R.v) {no : Nat → Prop} (en : Ent) (L : Lies w no en) (hes : en.s = R.s) {c : Nat} (hy : a.eval y = .slice en.A en.n c) (h1 : ∀ v ∈ en.xs, v.oneCell' = true) (hb : (R.n + en.n) ≤ 1000) (hbb : bytes ≤ 1000)
    (h : ∀ v w1, Held w0 w1 bs ⟨v, R.e, R.s, R.n + en.n, R.xs ++ en.xs⟩ es → wpList P ops Q rest (a.put dst v) w1) : wpList P ops Q (⟨dst, .call { callee := .builtin .append, args := #[x, y], argTypes := #[t, t] }, ty, pos, after, gd⟩ :: rest) a w :=
  wpList_step fun K hK => by rw [if_pos hw]; exact wp_app_h O z bytes hi hzs hsz hu hx en L hes hy h1 hb hbb fun v w1 O' => hK _ _ (h v w1 O')
/-- A new list, of zero values of one cell. -/
theorem wp_make_h {t e : TypeId} {x y : Operand} {gd : Option (Nat × Bool)} (O : Held w0 w bs R es) (z : Value) (bytes : Nat) (hi : (P.info? e).map (fun i => (i.zero, i.size, i.bytes)) = some (some z, 1, bytes)) (hzc : z.cells = #[z]) (hu : P.underlying t = some (.slice e))
    (n : Nat) {k1 k2 : IntKind} (hx : a.eval x = .int k1 (n : Int)) (hy : a.eval y = .int k2 (n : Int)) (hb : n ≤ 1000) (hbb : bytes ≤ 1000)
    (h : ∀ A w1, Held w0 w1 bs R (⟨w0.heap.size, A, n, n, 1, List.replicate n z⟩ :: es) → K (a.put dst (.slice A n n)) w1) : Oper.wp P ⟨dst, .makeSlice t x y, ty, pos, after, gd⟩ a w K Q := by
  cases hie : P.info? e with
  | none => simp [hie] at hi
  | some ie =>
    simp only [hie, Option.map_some, Option.some.injEq, Prod.mk.injEq] at hi
    obtain ⟨hz, hs, hby⟩ := hi
    obtain ⟨w', hr, ho, hg⟩ := run_makeSlice_full (P := P) w w.heap.size t e ie z 1 hu hie hz hs k1 k2 n (by omega) (by rw [hby]; have := Nat.mul_le_mul hbb hb; omega) (by unfold maxLen; omega) (Nat.le_refl _)
    unfold Oper.wp execOp
    simp only [hx, hy, Sem.run_bind, hr, Result.andThen_ok]
    refine h _ w' (O.gain ⟨hg.os, hg.tape, hg.output, hg.size, fun j hj => hg.block j hj (by simp)⟩ ?_)
    rw [Nat.mul_one, hzc, toList_madeCells_one] at ho
    obtain ⟨A, c, hv, hl⟩ := row_lies (w0 := w) (R := ⟨_, e, 1, n, List.replicate n z⟩) ho
    injection hv with h1 h2 h3
    subst h1 h3
    exact hl free (fun _ _ h => h)
theorem wpList_make_h {t e : TypeId} {x y : Operand} {gd : Option (Nat × Bool)} (hw : Region.wanted ⟨dst, .makeSlice t x y, ty, pos, after, gd⟩ (yielded ops a.tmps) = true) (O : Held w0 w bs R es) (z : Value) (bytes : Nat) (hi : (P.info? e).map (fun i => (i.zero, i.size, i.bytes)) = some (some z, 1, bytes)) (hzc : z.cells = #[z]) (hu : P.underlying t = some (.slice e))
    (n : Nat) {k1 k2 : IntKind} (hx : a.eval x = .int k1 (n : Int)) (hy : a.eval y = .int k2 (n : Int)) (hb : n ≤ 1000) (hbb : bytes ≤ 1000)
    (h : ∀ A w1, Held w0 w1 bs R (⟨w0.heap.size, A, n, n, 1, List.replicate n z⟩ :: es) → wpList P ops Q rest (a.put dst (.slice A n n)) w1) : wpList P ops Q (⟨dst, .makeSlice t x y, ty, pos, after, gd⟩ :: rest) a w :=
  wpList_step fun K hK => by rw [if_pos hw]; exact wp_make_h O z bytes hi hzc hu n hx hy hb hbb fun A w1 O' => hK _ _ (h A w1 O')
theorem at_lit (d : Nat) {t : TypeId} {len : Nat} {parts : Array (Nat × Operand)} {gd : Option (Nat × Bool)} (h : wpList P ops Q (⟨some d, .buildSlice t len parts, ty, pos, after, gd⟩ :: rest) a w) : wpList P ops Q (⟨some d, .buildSlice t len parts, ty, pos, after, gd⟩ :: rest) a w := h
theorem at_app (d : Nat) {t t' : TypeId} {x y : Operand} {gd : Option (Nat × Bool)} (h : wpList P ops Q (⟨some d, .call { callee := .builtin .append, args := #[x, y], argTypes := #[t, t'] }, ty, pos, after, gd⟩ :: rest) a w) : wpList P ops Q (⟨some d, .call { callee := .builtin .append, args := #[x, y], argTypes := #[t, t'] }, ty, pos, after, gd⟩ :: rest) a w := h
theorem at_make_ (d : Nat) {t : TypeId} {x y : Operand} {gd : Option (Nat × Bool)} (h : wpList P ops Q (⟨some d, .makeSlice t x y, ty, pos, after, gd⟩ :: rest) a w) : wpList P ops Q (⟨some d, .makeSlice t x y, ty, pos, after, gd⟩ :: rest) a w := h
theorem at_fld (d : Nat) {t : TypeId} {x : Operand} {f : Nat} {gd : Option (Nat × Bool)} (h : wpList P ops Q (⟨some d, .fieldAddr t x f, ty, pos, after, gd⟩ :: rest) a w) : wpList P ops Q (⟨some d, .fieldAddr t x f, ty, pos, after, gd⟩ :: rest) a w := h
theorem at_index_ (d : Nat) {t : TypeId} {x y : Operand} {gd : Option (Nat × Bool)} (h : wpList P ops Q (⟨some d, .indexAddr t x y, ty, pos, after, gd⟩ :: rest) a w) : wpList P ops Q (⟨some d, .indexAddr t x y, ty, pos, after, gd⟩ :: rest) a w := h
end
end Go.Proofs.Ytbjbafhlmcnceaa
