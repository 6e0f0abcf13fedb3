/- Lists of matrices in memory; blocks of a call's own, each known whole, and lists that lie outside of them: they stay so over calls, new blocks, stores into one of them. -/
import Derived.Test.YthcieapfpgejdaaOwn
import Derived.Test.YthcieapfpgejdaaBase
namespace Go.Proofs.Ythcieapfpgejdaa
open Go.ChangeShapes Go.WideShapes Go.ChangeAt Go.RowKit
set_option linter.unusedVariables false

/-! ### Matrices one behind the other -/
def M.cells (l : List (Nat → Int)) : List Value := l.flatMap fun a => M.mat 16 a
theorem M.cells_cons (a : Nat → Int) (l : List (Nat → Int)) : M.cells (a :: l) = M.mat 16 a ++ M.cells l := rfl
theorem M.cells_app (a b : List (Nat → Int)) : M.cells (a ++ b) = M.cells a ++ M.cells b := by simp [M.cells]
theorem M.cells_len : ∀ l : List (Nat → Int), (M.cells l).length = l.length * 16
  | [] => rfl
  | a :: l => by rw [M.cells_cons, List.length_append, M.mat_len, M.cells_len l, List.length_cons]; omega
theorem M.cells_one (l : List (Nat → Int)) : ∀ v ∈ M.cells l, v.oneCell' = true := by
  intro v hv
  obtain ⟨a, _, ha⟩ := List.mem_flatMap.1 hv
  exact M.mat_one 16 a v ha
theorem M.cells_at : ∀ {l : List (Nat → Int)} {i : Nat} {x : Nat → Int}, l[i]? = some x → ∀ j, j < 16 → (M.cells l)[i * 16 + j]? = some (.int .i64 (x j))
  | a :: l, 0, x, h, j, hj => by
    obtain rfl : a = x := by simpa using h
    rw [M.cells_cons, List.getElem?_append_left (by rw [M.mat_len]; omega), Nat.zero_mul, Nat.zero_add]
    exact M.mat_get hj
  | a :: l, i + 1, x, h, j, hj => by
    rw [M.cells_cons, List.getElem?_append_right (by rw [M.mat_len]; omega), M.mat_len, show (i + 1) * 16 + j - 16 = i * 16 + j by omega]
    exact M.cells_at (l := l) (by simpa using h) j hj
theorem M.cells_take (l : List (Nat → Int)) (k : Nat) : M.cells (l.take k) = (M.cells l).take (k * 16) := by
  induction k generalizing l with
  | zero => simp [M.cells]
  | succ k ih =>
    cases l with
    | nil => simp [M.cells]
    | cons a l =>
      rw [List.take_succ_cons, M.cells_cons, M.cells_cons, ih, show (k + 1) * 16 = (M.mat 16 a).length + k * 16 by rw [M.mat_len]; omega, List.take_length_add_append]

/-- A list that lies in memory: from which block on it may lie, where, how much room it has, what it is. -/
structure Ent where
  lo : Nat
  A : Option Addr
  c : Nat
  l : List (Nat → Int)
def Ent.val (x : Ent) : Value := .slice x.A x.l.length x.c
/-- It lies there, in none of some blocks. -/
def Lies (w : World) (no : List Nat) (x : Ent) : Prop :=
  x.l.length ≤ x.c ∧ (x.l ≠ [] → ∃ ad, x.A = some ad ∧ x.lo ≤ ad.block ∧ ad.block < w.heap.size ∧ ad.block ∉ no ∧ ∀ j u, (M.cells x.l)[j]? = some u → w.cell? (ad.add j) = some u)
theorem add_block (p : Addr) (k : Nat) : (p.add k).block = p.block := by
  by_cases h : k = 0
  · subst h; simp [Addr.add]
  · simp [Addr.add, h]
theorem Lies.turn {w w' : World} {no no' : List Nat} {x : Ent} (h : Lies w no x) (hs : w.heap.size ≤ w'.heap.size) (hb : ∀ b, b < w.heap.size → b ∉ no → w'.heap[b]? = w.heap[b]?) (hn : ∀ b, b < w.heap.size → b ∉ no → b ∉ no') : Lies w' no' x :=
  ⟨h.1, fun hne => by
    obtain ⟨ad, h1, h2, h3, h4, h5⟩ := h.2 hne
    refine ⟨ad, h1, h2, by omega, hn _ h3 h4, fun j u hu => ?_⟩
    rw [← h5 j u hu]
    exact World.cell?_of_block (by rw [add_block]; exact hb _ h3 h4)⟩
theorem Lies.low {w : World} {no : List Nat} {lo lo' c : Nat} {A : Option Addr} {l : List (Nat → Int)} (h : Lies w no ⟨lo, A, c, l⟩) (hl : lo' ≤ lo) : Lies w no ⟨lo', A, c, l⟩ :=
  ⟨h.1, fun hne => by
    obtain ⟨ad, h1, h2, h3⟩ := h.2 hne
    exact ⟨ad, h1, Nat.le_trans hl h2, h3⟩⟩
theorem Lies.cut {w : World} {no : List Nat} {lo c k : Nat} {A : Option Addr} {l : List (Nat → Int)} (h : Lies w no ⟨lo, A, c, l⟩) (hk : k ≤ l.length) : Lies w no ⟨lo, A, c, l.take k⟩ :=
  ⟨by have := h.1; simp only [List.length_take] at *; omega, fun hne => by
    have hne2 : l ≠ [] := fun e => hne (by simp [e])
    obtain ⟨ad, h1, h2, h3, h4, h5⟩ := h.2 hne2
    refine ⟨ad, h1, h2, h3, h4, fun j u hu => h5 j u ?_⟩
    simp only [M.cells_take, List.getElem?_take] at hu
    split at hu
    · exact hu
    · cases hu⟩
theorem Lies.nil {w : World} {no : List Nat} {lo c : Nat} {A : Option Addr} : Lies w no ⟨lo, A, c, []⟩ := ⟨Nat.zero_le _, fun h => absurd rfl h⟩

/-- Since w0 nothing old has changed, these blocks are the call's own, and these lists lie elsewhere. -/
def OwnL (w0 w : World) (bs : List (Nat × TypeId × List Value)) (ls : List Ent) : Prop := Own w0 w bs ∧ ∀ x ∈ ls, Lies w (bs.map (·.1)) x
section
variable {w0 w w' : World} {bs : List (Nat × TypeId × List Value)} {ls : List Ent} {g k : Nat} {t : TypeId} {cs : List Value}
theorem OwnL.below (h : OwnL w0 w bs ls) : Below w0.heap.size w0 w := h.1.1
theorem OwnL.start (w : World) (ls : List Ent) (h : ∀ x ∈ ls, Lies w [] x) : OwnL w w [] ls := ⟨Own.start w, h⟩
theorem OwnL.alloc (h : OwnL w0 w bs ls) (t : TypeId) (cs : List Value) : OwnL w0 (w.alloc (.cells cs.toArray t)) ((w.heap.size, t, cs) :: bs) ls :=
  ⟨h.1.alloc t cs, fun x hx => (h.2 x hx).turn (by simp) (fun b hb _ => Below.heap_alloc w _ b hb) (fun b hb hn => by
    simp only [List.map_cons, List.mem_cons]
    rintro (rfl | hm)
    · omega
    · exact hn hm)⟩
theorem OwnL.drew (h : OwnL w0 w bs ls) : OwnL w0 w.drew bs ls := ⟨h.1.drew, fun x hx => (h.2 x hx).turn (Nat.le_refl _) (fun _ _ _ => rfl) (fun _ _ h => h)⟩
theorem OwnL.call (h : OwnL w0 w bs ls) (hb : Below w.heap.size w w') : OwnL w0 w' bs ls := ⟨h.1.call hb, fun x hx => (h.2 x hx).turn hb.size (fun b hbb _ => hb.block b hbb) (fun _ _ h => h)⟩
theorem OwnL.blk (h : OwnL w0 w bs ls) (k : Nat) (hk : bs[k]? = some (g, t, cs)) : w.heap[g]? = some (.cells cs.toArray t (0, 0)) := h.1.blk k hk
theorem OwnL.ge (h : OwnL w0 w bs ls) (k : Nat) (hk : bs[k]? = some (g, t, cs)) : w0.heap.size ≤ g := h.1.ge k hk
theorem OwnL.cell (h : OwnL w0 w bs ls) (k : Nat) (hk : bs[k]? = some (g, t, cs)) {i : Nat} {v : Value} (hv : cs[i]? = some v) : w.cell? ⟨g, i, none⟩ = some v := h.1.cell k hk hv
theorem OwnL.frozen (h : OwnL w0 w bs ls) (k : Nat) (hk : bs[k]? = some (g, t, cs)) (i : Nat) : w.frozen? ⟨g, i, none⟩ = false := h.1.frozen k hk i
theorem set_fst (hk : bs[k]? = some (g, t, cs)) (ds : List Value) : (bs.set k (g, t, ds)).map (·.1) = bs.map (·.1) := by
  rw [List.map_set]
  apply List.ext_getElem?
  intro i
  rw [List.getElem?_set]
  split
  · rename_i e
    subst e
    obtain ⟨hlt, he⟩ := List.getElem?_eq_some_iff.1 hk
    rw [if_pos (by simpa using hlt)]
    simp [hk]
  · rfl
theorem Own.fst (hk : bs[k]? = some (g, t, cs)) : g ∈ bs.map (·.1) := List.mem_map.2 ⟨_, Own.mem hk, rfl⟩
theorem OwnL.setCell (h : OwnL w0 w bs ls) (k : Nat) (hk : bs[k]? = some (g, t, cs)) (i : Nat) (v : Value) : OwnL w0 (w.setCell ⟨g, i, none⟩ v) (bs.set k (g, t, cs.set i v)) ls :=
  ⟨h.1.setCell k hk i v, fun x hx => (h.2 x hx).turn (by simp [World.setCell]) (fun b hb hn => Below.heap_setCell w _ v b (fun e => hn (by rw [show b = g from e]; exact Own.fst hk))) (fun b hb hn => by rw [set_fst hk]; exact hn)⟩
theorem OwnL.setRow (h : OwnL w0 w bs ls) (k : Nat) (hk : bs[k]? = some (g, t, cs)) (ds : List Value) : OwnL w0 (w.setRow g ds.toArray) (bs.set k (g, t, ds)) ls :=
  ⟨h.1.setRow k hk ds, fun x hx => (h.2 x hx).turn (by simp) (fun b hb hn => setRow_other w g b _ (fun e => hn (by rw [e]; exact Own.fst hk))) (fun b hb hn => by rw [set_fst hk]; exact hn)⟩
/-- A list that a call hands back. -/
theorem OwnL.gain (h : OwnL w0 w bs ls) (hb : Below w.heap.size w w') {c : Nat} {A : Option Addr} {l : List (Nat → Int)} (hx : Lies w' [] ⟨w.heap.size, A, c, l⟩) : OwnL w0 w' bs (⟨w0.heap.size, A, c, l⟩ :: ls) :=
  ⟨h.1.call hb, fun x hm => by
    rcases List.mem_cons.1 hm with rfl | hm
    · refine ⟨hx.1, fun hne => ?_⟩
      obtain ⟨ad, h1, h2, h3, h4, h5⟩ := hx.2 hne
      have hle := h.1.1.size
      refine ⟨ad, h1, Nat.le_trans hle h2, h3, fun hmem => ?_, h5⟩
      obtain ⟨y, hy, hye⟩ := List.mem_map.1 hmem
      have h6 := h.1.lt hy
      have h7 : w.heap.size ≤ ad.block := h2
      omega
    · exact (h.call hb).2 x hm⟩
theorem OwnL.gain2 (h : OwnL w0 w bs ls) (hb : Below w.heap.size w w') {c c' : Nat} {A A' : Option Addr} {l l' : List (Nat → Int)} (hx : Lies w' [] ⟨w.heap.size, A, c, l⟩) (hy : Lies w' [] ⟨w.heap.size, A', c', l'⟩) :
    OwnL w0 w' bs (⟨w0.heap.size, A, c, l⟩ :: ⟨w0.heap.size, A', c', l'⟩ :: ls) := by
  refine ⟨h.1.call hb, fun x hm => ?_⟩
  rcases List.mem_cons.1 hm with rfl | hm
  · exact (h.gain hb hx).2 _ List.mem_cons_self
  rcases List.mem_cons.1 hm with rfl | hm
  · exact (h.gain hb hy).2 _ List.mem_cons_self
  · exact (h.call hb).2 x hm
theorem OwnL.pick (h : OwnL w0 w bs ls) {ls' : List Ent} (hs : ∀ x ∈ ls', x ∈ ls) : OwnL w0 w bs ls' := ⟨h.1, fun x hx => h.2 x (hs x hx)⟩
theorem OwnL.tail {x : Nat × TypeId × List Value} (h : OwnL w0 w (x :: bs) ls) : OwnL w0 w bs ls :=
  ⟨⟨h.1.1, (List.nodup_cons.1 (by simpa using h.1.2.1)).2, fun y hy => h.1.2.2 y (List.mem_cons_of_mem _ hy)⟩, fun x hx => (h.2 x hx).turn (Nat.le_refl _) (fun _ _ _ => rfl) (fun b _ hn hm => hn (List.mem_cons_of_mem _ hm))⟩
/-- A list as an argument. -/
theorem OwnL.arg (h : OwnL w0 w bs ls) (k : Nat) {lo c : Nat} {A : Option Addr} {l : List (Nat → Int)} (hk : ls[k]? = some ⟨lo, A, c, l⟩) : Lies w [] ⟨0, A, c, l⟩ :=
  ((h.2 _ (List.mem_of_getElem? hk)).turn (Nat.le_refl _) (fun _ _ _ => rfl) (fun _ _ _ => List.not_mem_nil)).low (Nat.zero_le _)
/-- A list that is handed back. -/
theorem OwnL.ret (h : OwnL w0 w bs ls) (k : Nat) {lo c : Nat} {A : Option Addr} {l : List (Nat → Int)} (hk : ls[k]? = some ⟨lo, A, c, l⟩) : Lies w [] ⟨lo, A, c, l⟩ :=
  (h.2 _ (List.mem_of_getElem? hk)).turn (Nat.le_refl _) (fun _ _ _ => rfl) (fun _ _ _ => List.not_mem_nil)
theorem OwnL.len (h : OwnL w0 w bs ls) (k : Nat) {lo c : Nat} {A : Option Addr} {l : List (Nat → Int)} (hk : ls[k]? = some ⟨lo, A, c, l⟩) : l.length ≤ c := (h.2 _ (List.mem_of_getElem? hk)).1
end

section
variable {P : Program} {ops : Array Oper} {Q : Exit → Act → World → Prop} {a : Act} {w w0 : World} {rest : List Oper} {bs : List (Nat × TypeId × List Value)} {ls : List Ent} {dst : Option Tmp} {ty : TypeId} {pos : String} {after : Array Edge} {K : Act → World → Prop}
theorem wp_box_ls {t : TypeId} {x : Operand} (O : OwnL w0 w bs ls) (cs : List Value) (hx : a.eval x = .agg cs.toArray)
    (h : ∀ g w1, OwnL w0 w1 ((g, t, cs) :: bs) ls → K (a.put dst (.pointer (some ⟨g, 0, none⟩))) w1) : Oper.wp P ⟨dst, .box t x, ty, pos, after, none⟩ a w K Q := by
  have hr : (Instr.box t (.agg cs.toArray)).run P w = .ok (.pointer (some ⟨w.heap.size, 0, none⟩)) (w.alloc (.cells cs.toArray t)) := rfl
  unfold Oper.wp execOp
  simp only [hx, Sem.run_bind, hr, Result.andThen_ok]
  exact h _ _ (O.alloc t cs)
theorem wpList_box_ls {t : TypeId} {x : Operand} (O : OwnL w0 w bs ls) (cs : List Value) (hx : a.eval x = .agg cs.toArray)
    (h : ∀ g w1, OwnL w0 w1 ((g, t, cs) :: bs) ls → wpList P ops Q rest (a.put dst (.pointer (some ⟨g, 0, none⟩))) w1) : wpList P ops Q (⟨dst, .box t x, ty, pos, after, none⟩ :: rest) a w :=
  wpList_plain rfl fun K hK => wp_box_ls O cs hx fun g w1 O' => hK _ _ (h g w1 O')
theorem wp_alloc_ls {t : TypeId} (O : OwnL w0 w bs ls) (cs : List Value) (hz : (P.info? t).map (·.zero) = some (some (.agg cs.toArray)))
    (h : ∀ g w1, OwnL w0 w1 ((g, t, cs) :: bs) ls → K (a.put dst (.pointer (some ⟨g, 0, none⟩))) w1) : Oper.wp P ⟨dst, .alloc t, ty, pos, after, none⟩ a w K Q := by
  have hzv : (zeroValue t).run P w = .ok (.agg cs.toArray) w := by
    cases hi : P.info? t with
    | none => simp [hi] at hz
    | some i =>
      have : i.zero = some (.agg cs.toArray) := by simpa [hi] using hz
      simp [zeroValue, typeInfo, hi, this]
  have hr : (Instr.alloc t true (.tuple #[])).run P w = .ok (.pointer (some ⟨w.heap.size, 0, none⟩)) (w.alloc (.cells cs.toArray t)) := by
    unfold Instr.alloc
    rw [Sem.run_bind, hzv, Result.andThen_ok]
    rfl
  unfold Oper.wp execOp
  simp only [Sem.run_bind, hr, Result.andThen_ok]
  exact h _ _ (O.alloc t cs)
theorem wpList_alloc_ls {t : TypeId} (O : OwnL w0 w bs ls) (cs : List Value) (hz : (P.info? t).map (·.zero) = some (some (.agg cs.toArray)))
    (h : ∀ g w1, OwnL w0 w1 ((g, t, cs) :: bs) ls → wpList P ops Q rest (a.put dst (.pointer (some ⟨g, 0, none⟩))) w1) : wpList P ops Q (⟨dst, .alloc t, ty, pos, after, none⟩ :: rest) a w :=
  wpList_plain rfl fun K hK => wp_alloc_ls O cs hz fun g w1 O' => hK _ _ (h g w1 O')
/-- A whole array out of its block. -/
theorem wp_row_ls {t : TypeId} {x : Operand} {gd : Option (Nat × Bool)} (O : OwnL w0 w bs ls) (k : Nat) {g : Nat} {t' : TypeId} {cs : List Value} (hk : bs[k]? = some (g, t', cs)) (hx : a.eval x = .pointer (some ⟨g, 0, none⟩))
    {d : TypeDesc} (hu : P.underlying t = some d) (hd : (match d with | .struct _ | .array _ _ => true | _ => false) = true) (hi : (P.info? t).map (·.size) = some cs.length) (h : K (a.put dst (.agg cs.toArray)) w) : Oper.wp P ⟨dst, .load t x, ty, pos, after, gd⟩ a w K Q :=
  wp_load_row t x rfl g hx t' cs.toArray (0, 0) _ (O.blk k hk) hu hd (by simpa using hi) h
theorem wpList_row_ls {t : TypeId} {x : Operand} (O : OwnL w0 w bs ls) (k : Nat) {g : Nat} {t' : TypeId} {cs : List Value} (hk : bs[k]? = some (g, t', cs)) (hx : a.eval x = .pointer (some ⟨g, 0, none⟩))
    {d : TypeDesc} (hu : P.underlying t = some d) (hd : (match d with | .struct _ | .array _ _ => true | _ => false) = true) (hi : (P.info? t).map (·.size) = some cs.length) (h : wpList P ops Q rest (a.put dst (.agg cs.toArray)) w) :
    wpList P ops Q (⟨dst, .load t x, ty, pos, after, none⟩ :: rest) a w :=
  wpList_plain rfl fun K hK => wp_row_ls O k hk hx hu hd hi (hK _ _ h)
/-- A whole array into its block. -/
theorem wp_put_ls {t : TypeId} {x y : Operand} {gd : Option (Nat × Bool)} (O : OwnL w0 w bs ls) (k : Nat) {g : Nat} {t' : TypeId} {cs : List Value} (ds : List Value) (hk : bs[k]? = some (g, t', cs)) (hx : a.eval x = .pointer (some ⟨g, 0, none⟩))
    (hy : a.eval y = .agg ds.toArray) (hi : (P.info? t).map (·.size) = some ds.length) (hl : cs.length = ds.length) (h1 : ∀ v ∈ ds, v.oneCell' = true)
    (h : ∀ w1, OwnL w0 w1 (bs.set k (g, t', ds)) ls → K (a.put dst undef) w1) : Oper.wp P ⟨dst, .store t x y, ty, pos, after, gd⟩ a w K Q :=
  wp_store_row t x y rfl g ds.toArray hx hy t' cs.toArray (O.blk k hk) (by simpa using hi) (by simpa using hl) (by rw [Array.all_eq_true_iff_forall_mem]; intro v hv; exact h1 v (by simpa using hv)) (h _ (O.setRow k hk ds))
theorem wpList_put_ls {t : TypeId} {x y : Operand} (O : OwnL w0 w bs ls) (k : Nat) {g : Nat} {t' : TypeId} {cs : List Value} (ds : List Value) (hk : bs[k]? = some (g, t', cs)) (hx : a.eval x = .pointer (some ⟨g, 0, none⟩))
    (hy : a.eval y = .agg ds.toArray) (hi : (P.info? t).map (·.size) = some ds.length) (hl : cs.length = ds.length) (h1 : ∀ v ∈ ds, v.oneCell' = true)
    (h : ∀ w1, OwnL w0 w1 (bs.set k (g, t', ds)) ls → wpList P ops Q rest (a.put dst undef) w1) : wpList P ops Q (⟨dst, .store t x y, ty, pos, after, none⟩ :: rest) a w :=
  wpList_plain rfl fun K hK => wp_put_ls O k ds hk hx hy hi hl h1 fun w1 O' => hK _ _ (h w1 O')
/-- One cell. -/
theorem wp_cell_ls {t : TypeId} {x : Operand} {gd : Option (Nat × Bool)} (O : OwnL w0 w bs ls) (k : Nat) {g i : Nat} {t' : TypeId} {cs : List Value} {v : Value} (hk : bs[k]? = some (g, t', cs)) (hv : cs[i]? = some v) (hx : a.eval x = .pointer (some ⟨g, i, none⟩))
    (hs : ∀ w, (isAgg t).run P w = .ok false w) (h1 : v.oneCell' = true) (h : K (a.put dst v) w) : Oper.wp P ⟨dst, .load t x, ty, pos, after, gd⟩ a w K Q := by
  have hc := O.cell k hk hv
  have hr : (loadVar t ⟨g, i, none⟩).run P w = .ok v w := by
    simp [loadVar, hs w, run_load, hc]
  unfold Oper.wp execOp
  simp only [hx, Instr.loadAt, Instr.sureAddr, Sem.run_bind, Sem.run_pure, Result.andThen_ok, hr]
  exact h
theorem wp_set_ls {t : TypeId} {x y : Operand} {gd : Option (Nat × Bool)} (O : OwnL w0 w bs ls) (k : Nat) {g i : Nat} {t' : TypeId} {cs : List Value} (v : Value) (hk : bs[k]? = some (g, t', cs)) (hi : i < cs.length) (hx : a.eval x = .pointer (some ⟨g, i, none⟩))
    (hy : a.eval y = v) (hs : (P.info? t).map (·.size) = some 1) (h1 : v.oneCell' = true) (hcs : v.cells = #[v])
    (h : ∀ w1, OwnL w0 w1 (bs.set k (g, t', cs.set i v)) ls → K (a.put dst undef) w1) : Oper.wp P ⟨dst, .store t x y, ty, pos, after, gd⟩ a w K Q := by
  have hc := O.cell k hk (List.getElem?_eq_getElem hi)
  have hf := O.frozen k hk i
  have hst : (storeVar t ⟨g, i, none⟩ v).run P w = .ok () (w.setCell ⟨g, i, none⟩ v) := by
    cases hq : P.info? t with
    | none => simp [hq] at hs
    | some j =>
      have hj : j.size = 1 := by simpa [hq] using hs
      have ha : (⟨g, i, none⟩ : Addr).add 0 = ⟨g, i, none⟩ := Addr.add_zero' _
      have hst : (store ⟨g, i, none⟩ v).run P w = .ok () (w.setCell ⟨g, i, none⟩ v) := by
        rw [Go.run_store P w _ v _ h1, hc]
        simp [hf]
      simp [storeVar, sizeOf, typeInfo, hq, hj, hcs, storeCells, ha, hst]
  unfold Oper.wp execOp
  simp only [hx, hy, Instr.storeAt, Instr.sureAddr, Sem.run_bind, Sem.run_pure, Result.andThen_ok, hst]
  exact h _ (O.setCell k hk i v)
theorem wpList_set_ls {t : TypeId} {x y : Operand} (O : OwnL w0 w bs ls) (k : Nat) {g i : Nat} {t' : TypeId} {cs : List Value} (v : Value) (hk : bs[k]? = some (g, t', cs)) (hi : i < cs.length) (hx : a.eval x = .pointer (some ⟨g, i, none⟩))
    (hy : a.eval y = v) (hs : (P.info? t).map (·.size) = some 1) (h1 : v.oneCell' = true) (hcs : v.cells = #[v])
    (h : ∀ w1, OwnL w0 w1 (bs.set k (g, t', cs.set i v)) ls → wpList P ops Q rest (a.put dst undef) w1) : wpList P ops Q (⟨dst, .store t x y, ty, pos, after, none⟩ :: rest) a w :=
  wpList_plain rfl fun K hK => wp_set_ls O k v hk hi hx hy hs h1 hcs fun w1 O' => hK _ _ (h w1 O')
/-- A guarded load that is wanted. -/
theorem wpList_rowg_ls {t : TypeId} {x : Operand} {gd : Option (Nat × Bool)} (hw : Region.wanted ⟨dst, .load t x, ty, pos, after, gd⟩ (yielded ops a.tmps) = true) (O : OwnL w0 w bs ls) (k : Nat) {g : Nat} {t' : TypeId} {cs : List Value} (hk : bs[k]? = some (g, t', cs)) (hx : a.eval x = .pointer (some ⟨g, 0, none⟩))
    {d : TypeDesc} (hu : P.underlying t = some d) (hd : (match d with | .struct _ | .array _ _ => true | _ => false) = true) (hi : (P.info? t).map (·.size) = some cs.length) (h : wpList P ops Q rest (a.put dst (.agg cs.toArray)) w) :
    wpList P ops Q (⟨dst, .load t x, ty, pos, after, gd⟩ :: rest) a w :=
  wpList_step fun K hK => by rw [if_pos hw]; exact wp_row_ls O k hk hx hu hd hi (hK _ _ h)
/-- A function's one result, an array in a block of its own. -/
theorem res_ls {fn : Func} {p : Tmp} {t : TypeId} (h : fn.results = #[.cell p t]) {tmps : Array Value} (O : OwnL w0 w bs ls) (k : Nat) {g : Nat} {t' : TypeId} {cs : List Value} (hk : bs[k]? = some (g, t', cs))
    (hp : tmps.getD p undef = .pointer (some ⟨g, 0, none⟩)) {d : TypeDesc} (hu : P.underlying t = some d) (hd : (match d with | .struct _ | .array _ _ => true | _ => false) = true) (hi : (P.info? t).map (·.size) = some cs.length) :
    (results fn tmps).run P w = .ok (.agg cs.toArray) w :=
  results_cell_row h tmps w g t' cs.toArray (0, 0) _ hp (O.blk k hk) hu hd (by simpa using hi)
/-- Two results, the first one an array in a block of its own. -/
theorem res_ls2 {fn : Func} {p u : Tmp} {t : TypeId} (h : fn.results = #[.cell p t, .tmp u]) {tmps : Array Value} (O : OwnL w0 w bs ls) (k : Nat) {g : Nat} {t' : TypeId} {cs : List Value} (hk : bs[k]? = some (g, t', cs))
    (hp : tmps.getD p undef = .pointer (some ⟨g, 0, none⟩)) {d : TypeDesc} (hu : P.underlying t = some d) (hd : (match d with | .struct _ | .array _ _ => true | _ => false) = true) (hi : (P.info? t).map (·.size) = some cs.length) {v : Value} (hv : tmps.getD u undef = v) :
    (results fn tmps).run P w = .ok (.tuple #[.agg cs.toArray, v]) w := by
  rw [results_cell_tmp h, hp]
  have := run_loadVar_row (P := P) w g t' t cs.toArray (0, 0) _ (O.blk k hk) hu hd (by simpa using hi)
  simp only [asAddr, Sem.run_pure, Result.andThen_ok, this, hv]
/-- A guarded cell that is wanted. -/
theorem wpList_cell_ls {t : TypeId} {x : Operand} {gd : Option (Nat × Bool)} (hw : Region.wanted ⟨dst, .load t x, ty, pos, after, gd⟩ (yielded ops a.tmps) = true) (O : OwnL w0 w bs ls) (k : Nat) {g i : Nat} {t' : TypeId} {cs : List Value} {v : Value} (hk : bs[k]? = some (g, t', cs)) (hv : cs[i]? = some v)
    (hx : a.eval x = .pointer (some ⟨g, i, none⟩)) (hs : ∀ w, (isAgg t).run P w = .ok false w) (h1 : v.oneCell' = true) (h : wpList P ops Q rest (a.put dst v) w) : wpList P ops Q (⟨dst, .load t x, ty, pos, after, gd⟩ :: rest) a w :=
  wpList_step fun K hK => by rw [if_pos hw]; exact wp_cell_ls O k hk hv hx hs h1 (hK _ _ h)
/-- The address of an element of a list, and what stands there. -/
def adr (A : Option Addr) : Addr := A.getD ⟨0, 0, none⟩
theorem wp_at_ls {t e : TypeId} {x y : Operand} {gd : Option (Nat × Bool)} (hu : P.underlying t = some (.slice e)) (hs : ∀ w, (sizeOf e).run P w = .ok 16 w) (O : OwnL w0 w bs ls) (k : Nat) {lo c : Nat} {A : Option Addr} {l : List (Nat → Int)} (hk : ls[k]? = some ⟨lo, A, c, l⟩)
    {n cc : Nat} (hx : a.eval x = .slice A n cc) {kd : IntKind} {z : Int} (i : Nat) (hy : a.eval y = .int kd z) (hz : z = (i : Int)) (hi : i < n) (hil : i < l.length) (h : K (a.put dst (.pointer (some ((adr A).add (i * 16))))) w) : Oper.wp P ⟨dst, .indexAddr t x y, ty, pos, after, gd⟩ a w K Q := by
  subst hz
  obtain ⟨ad, rfl, -⟩ := (O.2 _ (List.mem_of_getElem? hk)).2 (fun e => by rw [show l = [] from e] at hil; simp at hil)
  have hr : (Instr.indexAt t (.slice (some ad) n cc) (.int kd i)).run P w = .ok (.pointer (some (ad.add (i * 16)))) w := by
    have h1 : (0 : Int) ≤ i ∧ (i : Int) < n := by omega
    unfold Instr.indexAt
    simp [asIntOf, Sem.run_bind, run_underlying hu, hs w, hi]
  unfold Oper.wp execOp
  simp only [hx, hy, Sem.run_bind, hr, Result.andThen_ok]
  exact h
theorem run_elem {t : TypeId} (O : OwnL w0 w bs ls) (k : Nat) {lo c : Nat} {A : Option Addr} {l : List (Nat → Int)} (hk : ls[k]? = some ⟨lo, A, c, l⟩) (i : Nat) {v : Nat → Int} (hv : l[i]? = some v)
    {d : TypeDesc} (hu : P.underlying t = some d) (hd : (match d with | .struct _ | .array _ _ => true | _ => false) = true) (hi : (P.info? t).map (·.size) = some 16) : (loadVar t ((adr A).add (i * 16))).run P w = .ok (.agg (M.mat 16 v).toArray) w := by
  have hil : i < l.length := (List.getElem?_eq_some_iff.1 hv).1
  obtain ⟨ad, rfl, -, -, -, hc⟩ := (O.2 _ (List.mem_of_getElem? hk)).2 (fun e => by rw [show l = [] from e] at hil; simp at hil)
  show (loadVar t (ad.add (i * 16))).run P w = _
  have hcell : ∀ j u, (M.mat 16 v)[j]? = some u → w.cell? ((ad.add (i * 16)).add j) = some u := by
    intro j u hu
    have hj : j < 16 := by
      obtain ⟨h1, _⟩ := List.getElem?_eq_some_iff.1 hu
      rwa [M.mat_len] at h1
    have : (ad.add (i * 16)).add j = ad.add (i * 16 + j) := by
      by_cases h1 : i * 16 = 0
      · by_cases h2 : j = 0 <;> simp [Addr.add, h1, h2]
      · by_cases h2 : j = 0
        · simp [Addr.add, h1, h2]
        · have h3 : ¬ i * 16 + j = 0 := by omega
          simp only [Addr.add, if_neg h1, if_neg h2, if_neg h3, Nat.add_assoc]
    rw [this]
    refine hc _ u ?_
    rw [M.cells_at hv j hj, ← hu, M.mat_get hj]
  have hl := run_loadCells_list (P := P) w (ad.add (i * 16)) (M.mat 16 v) hcell
  rw [M.mat_len] at hl
  cases hq : P.info? t with
  | none => simp [hq] at hi
  | some j =>
    have hs : j.size = 16 := by simpa [hq] using hi
    have hagg : (isAgg t).run P w = .ok true w := by
      unfold isAgg
      rw [Sem.run_bind, run_underlying hu w]
      cases d <;> simp_all
    simp [loadVar, Sem.run_bind, hagg, sizeOf, typeInfo, hq, hs, hl]
theorem wp_elem_ls {t : TypeId} {x : Operand} {gd : Option (Nat × Bool)} (O : OwnL w0 w bs ls) (k : Nat) {lo c : Nat} {A : Option Addr} {l : List (Nat → Int)} (hk : ls[k]? = some ⟨lo, A, c, l⟩) (i : Nat) {v : Nat → Int} (hv : l[i]? = some v) (hx : a.eval x = .pointer (some ((adr A).add (i * 16))))
    {d : TypeDesc} (hu : P.underlying t = some d) (hd : (match d with | .struct _ | .array _ _ => true | _ => false) = true) (hi : (P.info? t).map (·.size) = some 16) (h : K (a.put dst (.agg (M.mat 16 v).toArray)) w) : Oper.wp P ⟨dst, .load t x, ty, pos, after, gd⟩ a w K Q := by
  unfold Oper.wp execOp
  simp only [hx, Instr.loadAt, Instr.sureAddr, Sem.run_bind, Sem.run_pure, Result.andThen_ok, run_elem O k hk i hv hu hd hi]
  exact h
theorem wpList_at_ls {t e : TypeId} {x y : Operand} {gd : Option (Nat × Bool)} (hw : Region.wanted ⟨dst, .indexAddr t x y, ty, pos, after, gd⟩ (yielded ops a.tmps) = true) (hu : P.underlying t = some (.slice e)) (hs : ∀ w, (sizeOf e).run P w = .ok 16 w) (O : OwnL w0 w bs ls) (k : Nat) {lo c : Nat} {A : Option Addr} {l : List (Nat → Int)} (hk : ls[k]? = some ⟨lo, A, c, l⟩)
    {n cc : Nat} (hx : a.eval x = .slice A n cc) {kd : IntKind} {z : Int} (i : Nat) (hy : a.eval y = .int kd z) (hz : z = (i : Int)) (hi : i < n) (hil : i < l.length) (h : wpList P ops Q rest (a.put dst (.pointer (some ((adr A).add (i * 16))))) w) : wpList P ops Q (⟨dst, .indexAddr t x y, ty, pos, after, gd⟩ :: rest) a w :=
  wpList_step fun K hK => by rw [if_pos hw]; exact wp_at_ls hu hs O k hk hx i hy hz hi hil (hK _ _ h)
theorem wpList_elem_ls {t : TypeId} {x : Operand} {gd : Option (Nat × Bool)} (hw : Region.wanted ⟨dst, .load t x, ty, pos, after, gd⟩ (yielded ops a.tmps) = true) (O : OwnL w0 w bs ls) (k : Nat) {lo c : Nat} {A : Option Addr} {l : List (Nat → Int)} (hk : ls[k]? = some ⟨lo, A, c, l⟩) (i : Nat) {v : Nat → Int} (hv : l[i]? = some v) (hx : a.eval x = .pointer (some ((adr A).add (i * 16))))
    {d : TypeDesc} (hu : P.underlying t = some d) (hd : (match d with | .struct _ | .array _ _ => true | _ => false) = true) (hi : (P.info? t).map (·.size) = some 16) (h : wpList P ops Q rest (a.put dst (.agg (M.mat 16 v).toArray)) w) : wpList P ops Q (⟨dst, .load t x, ty, pos, after, gd⟩ :: rest) a w :=
  wpList_step fun K hK => by rw [if_pos hw]; exact wp_elem_ls O k hk i hv hx hu hd hi (hK _ _ h)
/-- The address of a part of an array that stands within a block, parts of one cell each. -/
theorem wp_in_ls {t e : TypeId} {x y : Operand} {gd : Option (Nat × Bool)} {n : Nat} (hu : P.underlying t = some (.array n e)) (hs : ∀ w, (sizeOf e).run P w = .ok 1 w) (hn : 1 < n) {g o : Nat} {kd : IntKind} {z : Int} (i : Nat)
    (hx : a.eval x = .pointer (some ⟨g, o, none⟩)) (hy : a.eval y = .int kd z) (hz : z = (i : Int)) (hi : i < n) (h : K (a.put dst (.pointer (some ⟨g, o + i, none⟩))) w) : Oper.wp P ⟨dst, .indexAddr t x y, ty, pos, after, gd⟩ a w K Q := by
  subst hz
  have hr : (Instr.indexAt t (.pointer (some ⟨g, o, none⟩)) (.int kd i)).run P w = .ok (.pointer (some ⟨g, o + i, none⟩)) w := by
    have h1 : (0 : Int) ≤ i ∧ (i : Int) < n := by omega
    have ha : (⟨g, o, none⟩ : Addr).add i = ⟨g, o + i, none⟩ := by unfold Addr.add; split <;> simp_all
    unfold Instr.indexAt
    simp [asIntOf, Sem.run_bind, run_underlying hu, Instr.sureAddr, hs w, ha, show ¬ n ≤ i by omega, show ¬ n ≤ 1 by omega]
  unfold Oper.wp execOp
  simp only [hx, hy, Sem.run_bind, hr, Result.andThen_ok]
  exact h
theorem wpList_in_ls {t e : TypeId} {x y : Operand} {gd : Option (Nat × Bool)} {n : Nat} (hw : Region.wanted ⟨dst, .indexAddr t x y, ty, pos, after, gd⟩ (yielded ops a.tmps) = true) (hu : P.underlying t = some (.array n e)) (hs : ∀ w, (sizeOf e).run P w = .ok 1 w) (hn : 1 < n) {g o : Nat} {kd : IntKind} {z : Int} (i : Nat)
    (hx : a.eval x = .pointer (some ⟨g, o, none⟩)) (hy : a.eval y = .int kd z) (hz : z = (i : Int)) (hi : i < n) (h : wpList P ops Q rest (a.put dst (.pointer (some ⟨g, o + i, none⟩))) w) : wpList P ops Q (⟨dst, .indexAddr t x y, ty, pos, after, gd⟩ :: rest) a w :=
  wpList_step fun K hK => by rw [if_pos hw]; exact wp_in_ls hu hs hn i hx hy hz hi (hK _ _ h)
end
end Go.Proofs.Ythcieapfpgejdaa
