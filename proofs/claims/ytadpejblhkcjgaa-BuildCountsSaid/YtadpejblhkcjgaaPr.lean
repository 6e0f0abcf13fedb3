/- Primitives in memory; a primitive that is made and appended. -/
import Derived.Test.YtadpejblhkcjgaaC6
namespace Go.Proofs.Ytadpejblhkcjgaa
open Go.ChangeShapes Go.WideShapes Go.ChangeAt Go.RowKit
set_option linter.unusedVariables false
set_option linter.unusedSimpArgs false

/-- Where a primitive's two lists lie, and how much room they have. -/
structure Ads where
  VA : Option Addr
  Vc : Nat
  EA : Option Addr
  Ec : Nat
abbrev PA := Pm × Ads
def vOf (lo : Nat) (x : PA) : Ent := iE lo x.2.VA x.2.Vc x.1.V
def eOf (lo : Nat) (x : PA) : Ent := bE lo x.2.EA x.2.Ec x.1.E
def pmc (x : PA) : List Value := [.slice x.2.VA x.1.V.length x.2.Vc, .slice x.2.EA x.1.E.length x.2.Ec, .int .i64 x.1.p]
def pmcs (l : List PA) : List Value := l.flatMap pmc
def pE (lo : Nat) (A : Option Addr) (c : Nat) (l : List PA) : Ent := ⟨lo, A, l.length, c, 3, pmcs l⟩
def ents (lo : Nat) (l : List PA) : List Ent := l.flatMap fun x => [vOf lo x, eOf lo x]
theorem pmcs_app (a b : List PA) : pmcs (a ++ b) = pmcs a ++ pmcs b := by simp [pmcs]
theorem pmcs_snoc (a : List PA) (x : PA) : pmcs (a ++ [x]) = pmcs a ++ pmc x := by simp [pmcs]
theorem ents_snoc (lo : Nat) (a : List PA) (x : PA) : ents lo (a ++ [x]) = ents lo a ++ [vOf lo x, eOf lo x] := by simp [ents]
theorem pmcs_len (l : List PA) : (pmcs l).length = l.length * 3 := flat_len pmc 3 (fun _ => rfl) l
theorem pmcs_at {l : List PA} {i : Nat} {x : PA} (h : l[i]? = some x) : ∀ j v, (pmc x)[j]? = some v → (pmcs l)[i * 3 + j]? = some v := flat_at pmc 3 (fun _ => rfl) h
theorem pmc_one (x : PA) : ∀ v ∈ pmc x, v.oneCell' = true := by
  intro v hv
  simp only [pmc, List.mem_cons, List.not_mem_nil, or_false] at hv
  rcases hv with rfl | rfl | rfl <;> rfl
theorem pmcs_one (l : List PA) : ∀ v ∈ pmcs l, v.oneCell' = true := by
  intro v hv
  obtain ⟨a, _, ha⟩ := List.mem_flatMap.1 hv
  exact pmc_one a v ha
theorem ents_v {lo : Nat} {l : List PA} {i : Nat} {x : PA} (h : l[i]? = some x) : vOf lo x ∈ ents lo l := List.mem_flatMap.2 ⟨x, List.mem_of_getElem? h, by simp⟩
theorem ents_e {lo : Nat} {l : List PA} {i : Nat} {x : PA} (h : l[i]? = some x) : eOf lo x ∈ ents lo l := List.mem_flatMap.2 ⟨x, List.mem_of_getElem? h, by simp⟩
/-- Primitives that are handed back. -/
def RetP (w : World) (ps : List Pm) (er : Int) (e : Ending) (w' : World) : Prop :=
  ∃ A c l, l.map (·.1) = ps ∧ e = .returned (.tuple #[.slice A l.length c, .int .i64 er]) ∧ Lies w' free (pE w.heap.size A c l) ∧ (∀ x ∈ ents w.heap.size l, Lies w' free x) ∧ Below w.heap.size w w'
theorem retP_nil {w w' : World} {er : Int} (h : Below w.heap.size w w') : RetP w [] er (.returned (.tuple #[.slice none 0 0, .int .i64 er])) w' :=
  ⟨none, 0, [], rfl, rfl, Lies.nil, by simp [ents], h⟩
theorem retP_done {w w' : World} {bs : List (Nat × TypeId × List Value)} {u : Value} {l : List PA} {es : List Ent} {er : Int} (O : Held w w' bs ⟨u, 35, 3, l.length, pmcs l⟩ (ents w.heap.size l ++ es)) : RetP w (l.map (·.1)) er (.returned (.tuple #[u, .int .i64 er])) w' := by
  obtain ⟨A, c, hv, h⟩ := O.done
  dsimp only at hv
  subst hv
  exact ⟨A, c, l, rfl, rfl, h.arg List.mem_cons_self, fun x hx => h.arg (List.mem_cons_of_mem _ (List.mem_append_left _ hx)), O.below⟩
/-- Primitives that a call hands back. -/
theorem Held.gainP {w0 w w' : World} {bs : List (Nat × TypeId × List Value)} {R : RowD} {es : List Ent} (O : Held w0 w bs R es) {ps : List Pm} {er : Int} {e : Ending} (h : RetP w ps er e w') :
    ∃ A c l, l.map (·.1) = ps ∧ e = .returned (.tuple #[.slice A l.length c, .int .i64 er]) ∧ Held w0 w' bs R (pE w0.heap.size A c l :: (ents w0.heap.size l ++ es)) := by
  obtain ⟨A, c, l, hl, he, h1, h2, hb⟩ := h
  refine ⟨A, c, l, hl, he, ?_⟩
  have := O.gains hb (ns := pE w.heap.size A c l :: ents w.heap.size l) (by
    intro x hx
    rcases List.mem_cons.1 hx with rfl | hx
    · exact ⟨rfl, h1⟩
    · refine ⟨?_, h2 x hx⟩
      obtain ⟨y, _, hy⟩ := List.mem_flatMap.1 hx
      simp only [List.mem_cons, List.not_mem_nil, or_false] at hy
      rcases hy with rfl | rfl <;> rfl)
  have e2 : (ents w.heap.size l).map (fun x => ({ x with lo := w0.heap.size } : Ent)) = ents w0.heap.size l := by
    simp only [ents, List.map_flatMap]
    rfl
  rw [List.map_cons, e2] at this
  exact this
/-- How far it has come: the list of flags is there, the primitive is built, it is a row of one, it is appended. -/
def PrS (w0 : World) (bs : List (Nat × TypeId × List Value)) (es : List Ent) (k : Nat) (xs : List Value) (u : Value) (q : Pm) (VA : Option Addr) (Vc : Nat) (a b c d : Option Value) (w : World) : Prop :=
  (a = none ∧ b = none ∧ c = none ∧ d = none ∧ Held w0 w bs ⟨u, 35, 3, k, xs⟩ es) ∨
  ∃ EA Ec, a = some (.slice EA q.E.length Ec) ∧ (∀ v, b = some v → v = .agg (pmc (q, ⟨VA, Vc, EA, Ec⟩)).toArray) ∧
    ((c = none ∧ d = none ∧ Held w0 w bs ⟨u, 35, 3, k, xs⟩ (bE w0.heap.size EA Ec q.E :: es)) ∨
     (b.isSome = true ∧ d = none ∧ ∃ g, c = some (.slice (some ⟨g, 0, none⟩) 1 1) ∧ Held w0 w bs ⟨u, 35, 3, k, xs⟩ (⟨w0.heap.size, some ⟨g, 0, none⟩, 1, 1, 3, pmc (q, ⟨VA, Vc, EA, Ec⟩)⟩ :: bE w0.heap.size EA Ec q.E :: es)) ∨
     (b.isSome = true ∧ c.isSome = true ∧ ∃ v, d = some v ∧ Held w0 w bs ⟨v, 35, 3, k + 1, xs ++ pmc (q, ⟨VA, Vc, EA, Ec⟩)⟩ (bE w0.heap.size EA Ec q.E :: es)))
section
variable {w0 w w' : World} {bs : List (Nat × TypeId × List Value)} {es : List Ent} {k : Nat} {xs : List Value} {u : Value} {q : Pm} {VA : Option Addr} {Vc : Nat} {a b c d : Option Value}
theorem PrS.start (O : Held w0 w bs ⟨u, 35, 3, k, xs⟩ es) : PrS w0 bs es k xs u q VA Vc none none none none w := .inl ⟨rfl, rfl, rfl, rfl, O⟩
theorem PrS.held (h : PrS w0 bs es k xs u q VA Vc a b c d w) : ∃ R es', Held w0 w bs R es' := by
  rcases h with ⟨-, -, -, -, O⟩ | ⟨EA, Ec, -, -, ⟨-, -, O⟩ | ⟨-, -, g, -, O⟩ | ⟨-, -, v, -, O⟩⟩
  all_goals exact ⟨_, _, O⟩
theorem PrS.call (h : PrS w0 bs es k xs u q VA Vc a b c d w) (hb : Below w.heap.size w w') : PrS w0 bs es k xs u q VA Vc a b c d w' := by
  rcases h with ⟨h1, h2, h3, h4, O⟩ | ⟨EA, Ec, h1, h2, ⟨h3, h4, O⟩ | ⟨h3, h4, g, h5, O⟩ | ⟨h3, h4, v, h5, O⟩⟩
  · exact .inl ⟨h1, h2, h3, h4, O.call hb⟩
  · exact .inr ⟨EA, Ec, h1, h2, .inl ⟨h3, h4, O.call hb⟩⟩
  · exact .inr ⟨EA, Ec, h1, h2, .inr (.inl ⟨h3, h4, g, h5, O.call hb⟩)⟩
  · exact .inr ⟨EA, Ec, h1, h2, .inr (.inr ⟨h3, h4, v, h5, O.call hb⟩)⟩
theorem PrS.early (h : PrS w0 bs es k xs u q VA Vc none b c d w) : b = none ∧ c = none ∧ d = none ∧ Held w0 w bs ⟨u, 35, 3, k, xs⟩ es := by
  rcases h with ⟨-, h2, h3, h4, O⟩ | ⟨EA, Ec, h1, -⟩
  · exact ⟨h2, h3, h4, O⟩
  · cases h1
theorem PrS.got (h : PrS w0 bs es k xs u q VA Vc none b c d w) {v : Value} (hr : RetB w q.E (.returned v) w') : PrS w0 bs es k xs u q VA Vc (some v) b c d w' := by
  obtain ⟨rfl, rfl, rfl, O⟩ := h.early
  obtain ⟨EA, Ec, he, hl, hb⟩ := hr
  cases he
  exact .inr ⟨EA, Ec, rfl, by simp, .inl ⟨rfl, rfl, O.gain hb hl⟩⟩
theorem PrS.built (h : PrS w0 bs es k xs u q VA Vc a none c d w) (ha : a.isSome = true) {dst : Option Tmp} {ty : TypeId} {pos : String} {after : Array Edge} {K : Act → World → Prop} {x0 x1 x2 : Operand} {ac : Act} {Q : Exit → Act → World → Prop} {gd : Option (Nat × Bool)}
    (h0 : ac.eval x0 = .slice VA q.V.length Vc) (h1 : ac.eval x1 = a.getD undef) (h2 : ac.eval x2 = .int .i64 q.p)
    (hK : ∀ v, PrS w0 bs es k xs u q VA Vc a (some v) c d w → K (ac.put dst v) w) : Oper.wp Try.prog ⟨dst, .build 35 #[(0, x0), (1, x1), (2, x2)], ty, pos, after, gd⟩ ac w K Q := by
  rcases h with ⟨rfl, -⟩ | ⟨EA, Ec, rfl, h4, ⟨rfl, rfl, O⟩ | ⟨h5, -⟩ | ⟨h5, -⟩⟩
  · cases ha
  · have h1' : ac.eval x1 = .slice EA q.E.length Ec := h1
    refine wp_build_own [(0, .slice VA q.V.length Vc), (1, .slice EA q.E.length Ec), (2, .int .i64 q.p)] (pmc (q, ⟨VA, Vc, EA, Ec⟩)).toArray (by simp [h0, h1', h2]) (by kernel_rfl) (hK _ (.inr ⟨EA, Ec, rfl, fun v e => (Option.some.inj e).symm, .inl ⟨rfl, rfl, O⟩⟩))
  · cases h5
  · cases h5
theorem PrS.lit (h : PrS w0 bs es k xs u q VA Vc a b none d w) (ha : a.isSome = true) (hb : b.isSome = true) {dst : Option Tmp} {ty : TypeId} {pos : String} {after : Array Edge} {K : Act → World → Prop} {x0 : Operand} {ac : Act} {Q : Exit → Act → World → Prop} {gd : Option (Nat × Bool)}
    (h0 : ac.eval x0 = b.getD undef) (hu : Try.prog.underlying 24 = some (.slice 35))
    (hK : ∀ v w1, PrS w0 bs es k xs u q VA Vc a b (some v) d w1 → K (ac.put dst v) w1) : Oper.wp Try.prog ⟨dst, .buildSlice 24 1 #[(0, x0)], ty, pos, after, gd⟩ ac w K Q := by
  rcases h with ⟨rfl, -⟩ | ⟨EA, Ec, rfl, h4, ⟨-, rfl, O⟩ | ⟨-, -, g, h5, -⟩ | ⟨-, h5, -⟩⟩
  · cases ha
  · obtain ⟨v, rfl⟩ := Option.isSome_iff_exists.1 hb
    obtain rfl := h4 v rfl
    refine wp_lit_h O 3 _ info35 hu [(0, .agg (pmc (q, ⟨VA, Vc, EA, Ec⟩)).toArray)] (pmc (q, ⟨VA, Vc, EA, Ec⟩)) (by simpa using h0) rfl (by decide) (by decide) (by kernel_rfl) fun g w1 O1 => hK _ w1 (.inr ⟨EA, Ec, rfl, h4, .inr (.inl ⟨rfl, rfl, g, rfl, O1⟩)⟩)
  · cases h5
  · cases h5
theorem PrS.app (h : PrS w0 bs es k xs u q VA Vc a b c none w) (ha : a.isSome = true) (hc : c.isSome = true) {dst : Option Tmp} {ty : TypeId} {pos : String} {after : Array Edge} {K : Act → World → Prop} {x y : Operand} {ac : Act} {Q : Exit → Act → World → Prop} {gd : Option (Nat × Bool)}
    (hx : ac.eval x = u) (hy : ac.eval y = c.getD undef) (hu : Try.prog.underlying 24 = some (.slice 35)) (hk : k ≤ 999)
    (hK : ∀ v w1, PrS w0 bs es k xs u q VA Vc a b c (some v) w1 → K (ac.put dst v) w1) : Oper.wp Try.prog ⟨dst, .call { callee := .builtin .append, args := #[x, y], argTypes := #[24, 24] }, ty, pos, after, gd⟩ ac w K Q := by
  rcases h with ⟨rfl, -⟩ | ⟨EA, Ec, rfl, h4, ⟨rfl, -⟩ | ⟨h5, -, g, rfl, O⟩ | ⟨-, -, v, h6, -⟩⟩
  · cases ha
  · cases hc
  · refine wp_app_h O _ 56 info35b rfl (Nat.succ_pos _) hu hx ⟨w0.heap.size, some ⟨g, 0, none⟩, 1, 1, 3, pmc (q, ⟨VA, Vc, EA, Ec⟩)⟩ (O.mem List.mem_cons_self) rfl (c := 1) hy (pmc_one _) (by dsimp only; omega) (by decide) fun v w1 O1 => hK v w1 (.inr ⟨EA, Ec, rfl, h4, .inr (.inr ⟨h5, rfl, v, rfl, ?_⟩)⟩)
    exact O1.pick (fun y hy => List.mem_cons_of_mem _ hy)
  · cases h6
theorem PrS.done (h : PrS w0 bs es k xs u q VA Vc a b c d w) (hd : d.isSome = true) : ∃ EA Ec v, d = some v ∧ Held w0 w bs ⟨v, 35, 3, k + 1, xs ++ pmc (q, ⟨VA, Vc, EA, Ec⟩)⟩ (bE w0.heap.size EA Ec q.E :: es) := by
  rcases h with ⟨-, -, -, rfl, -⟩ | ⟨EA, Ec, -, -, ⟨-, rfl, -⟩ | ⟨-, rfl, -⟩ | ⟨-, -, v, h5, O⟩⟩
  · cases hd
  · cases hd
  · cases hd
  · exact ⟨EA, Ec, v, h5, O⟩
end
/-! ### What the table says -/
theorem P.le10 {m : Nat} (h : m ≤ 9) : m = 0 ∨ m = 1 ∨ m = 2 ∨ m = 3 ∨ m = 4 ∨ m = 5 ∨ m = 6 ∨ m = 7 ∨ m = 8 ∨ m = 9 := by omega
theorem P.cs_le {m : Nat} (h : m ≤ 9) : ∀ x ∈ (P.shp m).cs, x.1 ≤ 4 ∧ x.2 ≤ 4 := by
  rcases P.le10 h with rfl | rfl | rfl | rfl | rfl | rfl | rfl | rfl | rfl | rfl <;> decide
theorem P.cs_tu {m : Nat} (h : m ≤ 9) : (P.shp m).tu = true → 2 ≤ (P.shp m).cs.length := by
  rcases P.le10 h with rfl | rfl | rfl | rfl | rfl | rfl | rfl | rfl | rfl | rfl <;> decide
theorem P.cs_four {m : Nat} (h : m ≤ 9) : (P.shp m).cs.length ≤ 4 := by
  rcases P.le10 h with rfl | rfl | rfl | rfl | rfl | rfl | rfl | rfl | rfl | rfl <;> decide
theorem P.ed_le {m : Nat} (h : m ≤ 9) : (P.shp m).ed ≤ 2 := by
  rcases P.le10 h with rfl | rfl | rfl | rfl | rfl | rfl | rfl | rfl | rfl | rfl <;> decide
theorem P.prov_le {m : Nat} (h : m ≤ 9) (f : Bool) : (P.prov (P.shp m) f).1 ≤ 4 ∧ (P.prov (P.shp m) f).2 ≤ 4 := by
  rcases P.le10 h with rfl | rfl | rfl | rfl | rfl | rfl | rfl | rfl | rfl | rfl <;> cases f <;> decide
theorem P.need_pos {m : Nat} (h : m ≤ 9) : 0 < (P.shp m).need ∧ 0 < (P.shp m).more := by
  rcases P.le10 h with rfl | rfl | rfl | rfl | rfl | rfl | rfl | rfl | rfl | rfl <;> decide
theorem P.cnt_pos {m n : Nat} (h : m ≤ 9) (hc : 0 < P.cnt (P.shp m) n) : 0 < n := by
  have := (P.need_pos h).1
  unfold P.cnt at hc
  split at hc <;> omega
theorem P.swap_mem {l : List Nat} {n : Nat} (h2 : 2 ≤ l.length) (h : ∀ k ∈ l, k < n) : ∀ k ∈ P.swap l, k < n := by
  intro k hk
  unfold P.swap at hk
  have g0 : l.getD 0 0 < n := by rw [List.getD_eq_getElem?_getD, List.getElem?_eq_getElem (by omega)]; exact h _ (List.getElem_mem _)
  have g1 : l.getD 1 0 < n := by rw [List.getD_eq_getElem?_getD, List.getElem?_eq_getElem (by omega)]; exact h _ (List.getElem_mem _)
  rcases List.mem_or_eq_of_mem_set hk with hk | rfl
  · rcases List.mem_or_eq_of_mem_set hk with hk | rfl
    · exact h k hk
    · exact g1
  · exact g0
theorem P.verts_lt {m : Nat} (h : m ≤ 9) {i n : Nat} (hn : 0 < n) : ∀ k ∈ P.verts (P.shp m) i n, k < n := by
  have hf : ∀ k ∈ P.flat (P.shp m) i n, k < n := by
    intro k hk
    obtain ⟨c, _, rfl⟩ := List.mem_map.1 hk
    exact Nat.mod_lt _ hn
  unfold P.verts
  split
  · intro k hk
    exact List.mem_range.1 hk
  · split
    · rename_i ht
      refine P.swap_mem ?_ hf
      have : (P.shp m).tu = true := by
        cases hh : (P.shp m).tu
        · simp [hh] at ht
        · rfl
      have := P.cs_tu h this
      simpa [P.flat] using this
    · exact hf
theorem P.verts_len {m : Nat} (h : m ≤ 9) {i n : Nat} (hn : n ≤ 256) : (P.verts (P.shp m) i n).length ≤ 256 := by
  have := P.cs_four h
  unfold P.verts
  split
  · simpa using hn
  · split <;> simp [P.swap, P.flat] <;> omega
/-- Count. -/
def P.count (m n : Int) : Nat := if m < 0 ∨ 9 < m ∨ 256 < n then 0 else P.cnt (P.shp m.toNat) n.toNat
theorem P.count_in {m : Nat} (hm : m ≤ 9) {n : Nat} (hn : n ≤ 256) : P.count m n = P.cnt (P.shp m) n := by
  unfold P.count
  rw [if_neg (by omega)]
  simp
theorem P.count_low {m : Nat} (hm : m ≤ 9) {n : Int} (hn : n < (P.shp m).need) : P.count m n = 0 := by
  unfold P.count
  split
  · rfl
  · unfold P.cnt
    have := (P.need_pos hm).1
    rw [if_pos]
    simp only [Int.toNat_natCast]
    omega
theorem cnt_any (m : Nat) (hm : m ≤ 9) (en : Ent) (n : Nat) (hn : n ≤ 256) (w : World) :
    Calls Try.prog 15 #[.agg (sc (P.shp m) en).toArray, .int .i64 n] w fun e w' => e = .returned (.int .i64 (P.cnt (P.shp m) n : Nat)) ∧ Below w.heap.size w w' := by
  by_cases h : n < (P.shp m).need
  · have hc : P.cnt (P.shp m) n = 0 := by unfold P.cnt; rw [if_pos h]
    rw [hc]
    exact count_lo _ en n (by omega) w
  · exact count_hi _ en n (by omega) hn (P.need_pos hm).2 w
end Go.Proofs.Ytadpejblhkcjgaa
