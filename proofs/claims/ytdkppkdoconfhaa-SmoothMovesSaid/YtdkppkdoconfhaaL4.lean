/- Contracts of the document's sums of bits: bit, more, less, above. Contract of the document's trim. Contracts of the document's Turn, Sum and Order. Contracts of the document's Sum, whatever the signs, and of Order. Contract of the document's From: the bits of a number of 128 bits. Contracts of the document's num and To. Contract of the document's Prod. Contracts of the document's Neg, Times, Mul, Sign. Contracts of the document's Add, Sub, Cmp. Contract of the document's Ratio. The document's Floor: its two variables, in memory. Contract of the document's Floor. Contracts of the document's Mul and Div. -/
import Derived.Test.YtdkppkdoconfhaaL3
import Derived.Test.YtdkppkdoconfhaaL1
import Derived.WalkKit
import Derived.ProofKit
import Derived.OpenShut
import Derived.Outline
import Derived.WalkLawsBesides
import Derived.Lib.Hide
import Derived.BigQuiet
import Derived.LoopTactic
import Derived.Deep.QuietTactic
import Derived.Deep.RegionHeld3
import Derived.Deep.DeepCutAuto
import Derived.WalkSpells
import Derived.Laws.MakeOwn
set_option linter.unusedSimpArgs false
namespace Go.Proofs.Ytdkppkdoconfhaa
set_option maxRecDepth 100000
open Go.ChangeShapes Go.WideShapes Go.ChangeAt Go.RowKit
set_option linter.unusedVariables false

def cells (l : List Nat) : List Value := l.map fun (b : Nat) => Value.int .u8 (b : Int)
theorem cells_one (l : List Nat) : ∀ u ∈ cells l, u.oneCell' = true := by
  intro u hu
  unfold cells at hu
  rw [List.mem_map] at hu
  obtain ⟨b, _, rfl⟩ := hu
  rfl
theorem cells_snoc (l : List Nat) (b : Nat) : cells (l ++ [b]) = cells l ++ [.int .u8 (b : Int)] := by simp [cells]
theorem cells_at {l : List Nat} {i : Nat} (h : i < l.length) : (cells l)[i]? = some (.int .u8 (L.bit l i : Int)) := by
  unfold cells; rw [List.getElem?_map, L.bit_in h]; rfl
theorem u8_info : (Try.prog.info? 5).map (fun i => (i.zero, i.size, i.bytes)) = some (some (.int .u8 0), 1, 1) := by kernel_rfl

theorem own_ge {w : World} {base : Nat} {e : TypeId} {size n : Nat} {v : Value} {xs : List Value} (h : w.ownsRow base e size v n xs) : ∀ k, v.ownBlock = some k → base ≤ k := by
  intro k hk
  rcases h.2 with ⟨rfl, _⟩ | ⟨g, cap, cur, rfl, hg, _⟩
  · simp [Value.ownBlock] at hk
  · simp [Value.ownBlock] at hk; omega
theorem new_one {w : World} {x : Value} {t : TypeId} : ∀ (j : Nat) (u : Value), [x][j]? = some u → (w.alloc (.cells #[x] t)).cell? ((⟨w.heap.size, 0, none⟩ : Addr).add j) = some u := by
  intro j u hu
  have : j = 0 := by
    rcases Nat.eq_zero_or_pos j with h | h
    · exact h
    · rw [List.getElem?_eq_none (by simp; omega)] at hu; cases hu
  subst this
  simp at hu
  subst hu
  simp [Addr.add, World.cell?_alloc_new]
theorem quiet_left {P : Program} {f : FuncId} {args : Array Value} {w : World} {n : Nat} {v : Value}
    (h : Calls P f args (w.drewN n) fun e w' => e = .returned v ∧ w.drewN n = w') : Calls P f args (w.drewN n) fun e w'' => e = .returned v ∧ ∃ m, w'' = w.drewN m :=
  h.mono fun _ _ ⟨he, hm⟩ => ⟨he, n, hm.symm⟩
/-- A call hands back a new row of bits. -/
def RetList (w : World) (P : List Nat → Prop) (e : Ending) (w' : World) : Prop :=
  ∃ v l, e = .returned v ∧ w'.ownsRow w.heap.size 5 1 v l.length (cells l) ∧ P l ∧ Below w.heap.size w w'
theorem bit_any (A : Option Addr) (c : Nat) (l : List Nat) (i : Nat) (w : World) (B : Nat) (h : Reads w B 1 A l.length (cells l)) (hn : l.length ≤ 1000) (hi : i ≤ 2000) :
    Calls Try.prog 91 #[.slice A l.length c, .int .i64 i] w fun e w' => e = .returned (.int .u8 (L.bit l i)) ∧ w = w' := by
  by_cases k : i < l.length
  · obtain ⟨ad, v, rfl, _, hx, hc⟩ := h.at_ k
    rw [cells_at k] at hx
    obtain rfl := Option.some.inj hx
    have k1 : (i : Int) < (l.length : Int) := by omega
    have k2 : (0 : Int) ≤ (i : Int) := by omega
    clear h hx
    generalize L.bit l i = x at *
    generalize l.length = n at *
    go_enter Try.func91, Try.ntmps91
    go_wp2
    go_ret
    exact ⟨rfl, rfl⟩
  · rw [L.bit_out (by omega)]
    have k1 : ¬ (i : Int) < (l.length : Int) := by omega
    clear h
    generalize l.length = n at *
    go_enter Try.func91, Try.ntmps91
    go_wp2
    go_ret
    exact ⟨rfl, rfl⟩
set_option maxHeartbeats 1000000 in
theorem more_any (A B : Option Addr) (c d : Nat) (a b : List Nat) (w : World) (ha : Reads w w.heap.size 1 A a.length (cells a)) (hb : Reads w w.heap.size 1 B b.length (cells b)) (xa : L.Bits a) (xb : L.Bits b) (na : a.length ≤ 900) (nb : b.length ≤ 900) :
    Calls Try.prog 90 #[.slice A a.length c, .slice B b.length d] w (RetList w fun l => L.Bits l ∧ L.nat l = L.nat a + L.nat b ∧ l.length ≤ max a.length b.length + 1) := by
  obtain ⟨i0, hi0, hz0, hz1, hz2⟩ := info_parts u8_info
  go_enter Try.func90, Try.ntmps90
  go_wp2
  go_loopw [5, 6, 7] (fun o c i wr => ∃ (l : List Nat) (x : Nat), i = .int .i64 (l.length : Nat) ∧ c = .int .u8 (x : Nat) ∧ wr.ownsRow w.heap.size 5 1 o l.length (cells l) ∧ L.MoreI a b l x ∧ Below w.heap.size w wr) (fun _ c i _ => (max a.length b.length + 1 - (intOf i).toNat))
  case atStart => exact ⟨[], 0, rfl, rfl, ⟨rfl, .inl ⟨rfl, rfl⟩⟩, L.more_start a b, Below.refl _ _⟩
  case round =>
    obtain ⟨l, x, rfl, rfl, hown, hI, hB⟩ := hrel
    have HI := Lib.hid hI
    have x2 := hI.2.1
    have hll : l.length ≤ max a.length b.length + 1 := by have := hI.2.2.2; omega
    clear hI
    have ha' := ha.below hB
    have hb' := hb.below hB
    have hz := hB.size
    by_cases hc : l.length < a.length ∨ l.length < b.length ∨ 0 < x
    · have cA := bit_any A c a l.length wr w.heap.size ha' (by omega) (by omega)
      have cB := bit_any B d b l.length wr w.heap.size hb' (by omega) (by omega)
      have p2 := L.bit_lt xa l.length
      have q2 := L.bit_lt xb l.length
      have N := Lib.hid (L.more_step xa xb HI.out hc)
      have hm : l.length < max a.length b.length + 1 := by
        have := HI.out.2.2.2; omega
      clear ha' hb'
      generalize L.bit a l.length = p at *
      generalize L.bit b l.length = q at *
      obtain ⟨y, hy⟩ : ∃ y, (p + q + x) % 2 = y := ⟨_, rfl⟩
      obtain ⟨z, hz'⟩ : ∃ z, (p + q + x) / 2 = z := ⟨_, rfl⟩
      rw [hy, hz'] at N
      have hy' : ((p : Int) + q + x) % 2 = (y : Int) := by omega
      have hz'' : ((p : Int) + q + x) / 2 = (z : Int) := by omega
      clear hy hz'
      have g1 : (l.length : Int) < a.length ∨ ((¬ (l.length : Int) < a.length) ∧ (l.length : Int) < b.length) ∨ ((¬ (l.length : Int) < a.length) ∧ (¬ (l.length : Int) < b.length) ∧ (0 : Int) < x) := by omega
      clear hc
      rcases g1 with g1 | ⟨g1, g2⟩ | ⟨g1, g2, g3⟩
      all_goals
        go_wp2_with fail
        refine cA.mono ?_; rintro e w' ⟨rfl, rfl⟩
        go_wp2_with fail
        refine cB.mono ?_; rintro e w' ⟨rfl, rfl⟩
        go_wp2_with (at_builtin; refine wpList_append_own _ rfl _ _ 110 rfl w.heap.size 5 i0 (.int .u8 0) 1 1 Try.underlying110 hi0 hz0 hz1 hz2 rfl (by decide) _ _ _ rfl (hown.alloc _) ⟨wr.heap.size, 0, none⟩ 1 1 [.int .u8 (y : Int)] rfl rfl new_one (by simp [Value.oneCell']) (by simp only [maxLen]; omega) (by omega) (by simp; omega) ?_; intro v' w1 hown1 hgrow _)
        exact ⟨⟨l ++ [y], z, vint (by simp), by first | rfl | exact vint hz'', by rw [cells_snoc, List.length_append]; exact hown1, N.out, (hB.alloc hz _).grown hgrow (by simp; omega) (fun k hk => own_ge hown k hk)⟩, by simp [intOf]; omega⟩
    · obtain ⟨e1, e2, e3⟩ := L.more_end HI.out hc
      have g1 : ¬ (l.length : Int) < a.length := by omega
      have g2 : ¬ (l.length : Int) < b.length := by omega
      have g3 : ¬ (0 : Int) < x := by omega
      have E1 := Lib.hid e1
      have E2 := Lib.hid e2
      have E3 := Lib.hid e3
      clear e1 e2 e3 hc ha' hb'
      go_wp2
      go_ret
      exact ⟨u5, l, rfl, hown, ⟨E1.out, E2.out, E3.out⟩, hB⟩
set_option maxHeartbeats 1000000 in
theorem less_any (A B : Option Addr) (c d : Nat) (a b : List Nat) (w : World) (ha : Reads w w.heap.size 1 A a.length (cells a)) (hb : Reads w w.heap.size 1 B b.length (cells b)) (xa : L.Bits a) (xb : L.Bits b) (na : a.length ≤ 900) (nb : b.length ≤ 900) (hab : L.nat b ≤ L.nat a) :
    Calls Try.prog 85 #[.slice A a.length c, .slice B b.length d] w (RetList w fun l => L.Bits l ∧ L.nat l = L.nat a - L.nat b ∧ l.length = a.length) := by
  obtain ⟨i0, hi0, hz0, hz1, hz2⟩ := info_parts u8_info
  have HAB := Lib.hid hab
  clear hab
  go_enter Try.func85, Try.ntmps85
  go_wp2
  go_loopw [5, 6, 7] (fun o c i wr => ∃ (l : List Nat) (x : Nat), i = .int .i64 (l.length : Nat) ∧ c = .int .u8 (x : Nat) ∧ wr.ownsRow w.heap.size 5 1 o l.length (cells l) ∧ L.LessI a b l x ∧ Below w.heap.size w wr) (fun _ c i _ => (a.length - (intOf i).toNat))
  case atStart => exact ⟨[], 0, rfl, rfl, ⟨rfl, .inl ⟨rfl, rfl⟩⟩, L.less_start a b, Below.refl _ _⟩
  case round =>
    obtain ⟨l, x, rfl, rfl, hown, hI, hB⟩ := hrel
    have HI := Lib.hid hI
    have x2 := hI.2.1
    have hll : l.length ≤ a.length := hI.2.2.1
    clear hI
    have ha' := ha.below hB
    have hb' := hb.below hB
    have hz := hB.size
    by_cases hc : l.length < a.length
    · have cB := fun k => bit_any B d b l.length (wr.drewN k) w.heap.size (hb'.drewN k) (by omega) (by omega)
      have p2 := L.bit_lt xa l.length
      have q2 := L.bit_lt xb l.length
      have N := Lib.hid (L.less_step xa xb HI.out hc)
      obtain ⟨ad, v, rfl, _, hx, hcell⟩ := ha'.at_ hc
      rw [cells_at hc] at hx
      obtain rfl := Option.some.inj hx
      clear ha' hb' hx
      generalize L.bit a l.length = p at *
      generalize L.bit b l.length = q at *
      obtain ⟨t, ht⟩ : ∃ t, 2 + p - q - x = t := ⟨_, rfl⟩
      obtain ⟨y, hy⟩ : ∃ y, t % 2 = y := ⟨_, rfl⟩
      obtain ⟨z, hz'⟩ : ∃ z, 1 - t / 2 = z := ⟨_, rfl⟩
      rw [ht, hy, hz'] at N
      have g1 : (l.length : Int) < a.length := by omega
      have g2 : (0 : Int) ≤ (l.length : Int) := by omega
      have w1 : IntKind.u8.wrap (2 + (p : Int)) = 2 + (p : Int) := by rw [IntKind.wrap_u8]; omega
      have w2 : IntKind.u8.wrap (2 + (p : Int) - (q : Int)) = 2 + (p : Int) - (q : Int) := by rw [IntKind.wrap_u8]; omega
      have w3 : IntKind.u8.wrap (2 + (p : Int) - (q : Int) - (x : Int)) = (t : Int) := by rw [IntKind.wrap_u8]; omega
      have t4 : t < 4 := by omega
      clear hc ht
      go_wp2_with fail
      go_quiet ((go_at_call 91; exact quiet_left (cB _)))
      have hy' : (t : Int) % 2 = (y : Int) := by omega
      have hz'' : (1 : Int) - (t : Int) / 2 = (z : Int) := by omega
      have hownq : (wr.drewN nq).ownsRow w.heap.size 5 1 u5 l.length (cells l) := hown
      have hBq := bdrewN hB nq
      have hzq : w.heap.size ≤ (wr.drewN nq).heap.size := hz
      clear hy hz' w1 w2 w3 hcell
      generalize wr.drewN nq = ws at *
      go_wp2_with (at_builtin; refine wpList_append_own _ rfl _ _ 110 rfl w.heap.size 5 i0 (.int .u8 0) 1 1 Try.underlying110 hi0 hz0 hz1 hz2 rfl (by decide) _ _ _ rfl (hownq.alloc _) ⟨ws.heap.size, 0, none⟩ 1 1 [.int .u8 (y : Int)] rfl rfl new_one (by simp [Value.oneCell']) (by simp only [maxLen]; omega) (by omega) (by simp; omega) ?_; intro v' w4 hown1 hgrow _)
      exact ⟨⟨l ++ [y], z, vint (by simp), by first | rfl | exact vint hz'', by rw [cells_snoc, List.length_append]; exact hown1, N.out, (hBq.alloc hzq _).grown hgrow (by simp; omega) (fun k hk => own_ge hownq k hk)⟩, by simp [intOf]; omega⟩
    · have hl : l.length = a.length := by omega
      obtain ⟨e1, e2⟩ := L.less_end xa xb HI.out hl HAB.out
      have g1 : ¬ (l.length : Int) < a.length := by omega
      have E1 := Lib.hid e1
      have E2 := Lib.hid e2
      have E3 := Lib.hid hl
      clear e1 e2 hl hc ha' hb'
      go_wp2
      go_ret
      exact ⟨u5, l, rfl, hown, ⟨E1.out, E2.out, E3.out⟩, hB⟩
theorem L.sgn_of {a b : List Nat} : M.sgn (L.nat a) (L.nat b) = if L.nat a < L.nat b then -1 else if L.nat b < L.nat a then 1 else 0 := by
  unfold M.sgn
  by_cases h : L.nat a < L.nat b
  · rw [if_pos (by omega), if_pos h]
  · rw [if_neg (by omega), if_neg h]
    by_cases g : L.nat b < L.nat a
    · rw [if_pos (by omega), if_pos g]
    · rw [if_neg (by omega), if_neg g]
set_option maxHeartbeats 1000000 in
theorem above_any (A B : Option Addr) (c d : Nat) (a b : List Nat) (w : World) (ha : Reads w w.heap.size 1 A a.length (cells a)) (hb : Reads w w.heap.size 1 B b.length (cells b)) (xa : L.Bits a) (xb : L.Bits b) (na : a.length ≤ 900) (nb : b.length ≤ 900) :
    Calls Try.prog 88 #[.slice A a.length c, .slice B b.length d] w fun e w' => e = .returned (.int .i64 (M.sgn (L.nat a) (L.nat b))) ∧ Below w.heap.size w w' := by
  have fin : ∀ p q : Nat, p < 2 → q < 2 → (p < q → L.nat a < L.nat b) → (q < p → L.nat b < L.nat a) → p ≠ q → (p : Int) - (q : Int) = M.sgn (L.nat a) (L.nat b) := by
    intro p q h1 h2 h3 h4 h5
    rw [L.sgn_of]
    rcases Nat.lt_or_gt_of_ne h5 with g | g
    · rw [if_pos (h3 g)]; omega
    · rw [if_neg (by have := h4 g; omega), if_pos (h4 g)]; omega
  have FIN := Lib.hid fin
  clear fin
  go_enter Try.func88, Try.ntmps88
  go_wp2
  all_goals
    go_loop [5] (fun i => ∃ j : Nat, i = .int .i64 ((j : Int) - 1) ∧ j ≤ max a.length b.length ∧ Hid (L.nat (a.drop j) = L.nat (b.drop j))) (fun i => (intOf i + 1).toNat)
    case atStart =>
      first
        | exact ⟨a.length, rfl, by omega, Lib.hid (by rw [L.nat_drop_out (Nat.le_refl _), L.nat_drop_out (by omega)])⟩
        | exact ⟨b.length, rfl, by omega, Lib.hid (by rw [L.nat_drop_out (by omega), L.nat_drop_out (Nat.le_refl _)])⟩
        | exact ⟨max a.length b.length, congrArg (Value.int .i64) (by omega), Nat.le_refl _, Lib.hid (by rw [L.nat_drop_out (by omega), L.nat_drop_out (by omega)])⟩
    case round =>
      obtain ⟨j, rfl, hj, hd⟩ := hrel
      rcases Nat.eq_zero_or_pos j with z | z
      · subst z
        have e : 0 = M.sgn (L.nat a) (L.nat b) := M.sgn_eq (by have := hd.out; simp at this; omega) (by have := hd.out; simp at this; omega)
        have E := Lib.hid e
        clear e
        go_wp2
        go_ret
        exact ⟨ret1 E.out, Below.refl _ _⟩
      · obtain ⟨i, rfl⟩ : ∃ i, j = i + 1 := ⟨j - 1, by omega⟩
        have ei : (((i + 1 : Nat) : Int) - 1) = (i : Int) := by omega
        rw [ei]
        have cA := bit_any A c a i w w.heap.size ha (by omega) (by omega)
        have cB := bit_any B d b i w w.heap.size hb (by omega) (by omega)
        have p2 := L.bit_lt xa i
        have q2 := L.bit_lt xb i
        have S := fun e : L.bit a i = L.bit b i => L.above_step hd.out e
        have T1 := fun e : L.bit a i < L.bit b i => L.above_ne xa xb hd.out e
        have T2 := fun e : L.bit b i < L.bit a i => L.above_ne xb xa hd.out.symm e
        generalize L.bit a i = p at *
        generalize L.bit b i = q at *
        have i0 : (0 : Int) ≤ (i : Int) := by omega
        by_cases pq : p = q
        · have S' := Lib.hid (S pq)
          subst pq
          clear S T1 T2
          go_wp2_with fail
          refine cA.mono ?_; rintro e w' ⟨rfl, rfl⟩
          go_wp2_with fail
          refine cB.mono ?_; rintro e w' ⟨rfl, rfl⟩
          go_wp2_with fail
          exact ⟨⟨i, rfl, by omega, S'⟩, by simp [intOf]⟩
        · have F := Lib.hid (FIN.out p q p2 q2 T1 T2 pq)
          have k : ((p : Int) != (q : Int)) = true := by simp; omega
          clear S T1 T2 pq
          go_wp2_with fail
          refine cA.mono ?_; rintro e w' ⟨rfl, rfl⟩
          go_wp2_with fail
          refine cB.mono ?_; rintro e w' ⟨rfl, rfl⟩
          go_wp2_with fail
          refine cA.mono ?_; rintro e w' ⟨rfl, rfl⟩
          go_wp2_with fail
          refine cB.mono ?_; rintro e w' ⟨rfl, rfl⟩
          go_wp2_with fail
          go_ret
          exact ⟨ret1 F.out, Below.refl _ _⟩
end Go.Proofs.Ytdkppkdoconfhaa
namespace Go.Proofs.Ytdkppkdoconfhaa
open Go.ChangeShapes Go.WideShapes Go.ChangeAt Go.RowKit
set_option linter.unusedVariables false

/-- A call hands back a number, told by its value. -/
def RetNum (w : World) (z : Int) (e : Ending) (w' : World) : Prop :=
  ∃ A c l, e = .returned (.agg #[.bool (decide (z < 0)), .slice A l.length c]) ∧ Reads w' w'.heap.size 1 A l.length (cells l) ∧ L.Can l ∧ L.nat l = z.natAbs ∧ (∀ ad, A = some ad → w.heap.size ≤ ad.block) ∧ Below w.heap.size w w'

theorem own_empty (x : World) {base : Nat} (h : base ≤ x.heap.size) : (x.alloc (.cells #[] 5)).ownsRow base 5 1 (.slice (some ⟨x.heap.size, 0, none⟩) 0 0) 0 [] :=
  ⟨by simp, .inr ⟨x.heap.size, 0, #[], rfl, h, heap_alloc_new x _, by omega, by simp [maxLen], rfl, rfl⟩⟩
theorem add0 (g j : Nat) : (⟨g, 0, none⟩ : Addr).add j = ⟨g, j, none⟩ := by unfold Addr.add; split <;> simp_all
theorem three_cells (w : World) (a b c d : Value) (o : Obj) (W : World) (hW : W = ((w.alloc (.cells #[a, b] 112)).alloc (.cells #[c, d] 112)).alloc o) :
    W.cell? ⟨w.heap.size, 0, none⟩ = some a ∧ W.cell? ⟨w.heap.size, 1, none⟩ = some b ∧ W.cell? ⟨w.heap.size + 1, 0, none⟩ = some c ∧ W.cell? ⟨w.heap.size + 1, 1, none⟩ = some d ∧
      W.frozen? ⟨w.heap.size + 1, 0, none⟩ = false ∧ W.frozen? ⟨w.heap.size + 1, 1, none⟩ = false := by
  subst hW
  refine ⟨?_, ?_, ?_, ?_, ?_, ?_⟩
  · rw [World.cell?_alloc_lt _ _ _ (by simp; omega), World.cell?_alloc_lt _ _ _ (by simp)]; simp [World.cell?_alloc_new]
  · rw [World.cell?_alloc_lt _ _ _ (by simp; omega), World.cell?_alloc_lt _ _ _ (by simp)]; simp [World.cell?_alloc_new]
  · rw [World.cell?_alloc_lt _ _ _ (by simp)]
    simp
  · rw [World.cell?_alloc_lt _ _ _ (by simp)]
    simp
  · rw [World.frozen?_alloc_old _ _ _ (by simp)]; exact World.frozen?_alloc2_new _ _ _ _
  · rw [World.frozen?_alloc_old _ _ _ (by simp)]; exact World.frozen?_alloc2_new _ _ _ _
theorem ret_mk {w w' : World} {m : Bool} {l : List Nat} {k g cap : Nat} {b : Bool} (hl : L.Bits l) (hk : k ≤ l.length) (hv : L.nat (l.take k) = L.nat l) (hC : L.Can (l.take k))
    (hb : b = (m && decide (0 < k))) (hgw : w.heap.size ≤ g) (hg : g < w'.heap.size) (hcell : ∀ j, j < l.length → w'.cell? ⟨g, j, none⟩ = some (.int .u8 (L.bit l j : Int))) (hB : Below w.heap.size w w') :
    RetNum w (M.sg m (L.nat l)) (.returned (.agg #[.bool b, .slice (some ⟨g, 0, none⟩) k cap])) w' := by
  have hlen : (l.take k).length = k := by rw [List.length_take]; omega
  have hp := L.can_pos hC
  rw [hlen, hv] at hp
  refine ⟨some ⟨g, 0, none⟩, cap, l.take k, ?_, ⟨by simp [cells], fun hn => ⟨⟨g, 0, none⟩, rfl, hg, fun j u hu => ?_⟩⟩, hC, ?_, fun ad he => by cases he; exact hgw, hB⟩
  · have e : b = decide (M.sg m (L.nat l : Int) < 0) := by
      rw [hb]
      cases m with
      | true =>
        rw [Bool.true_and]
        show decide (0 < k) = decide (-(L.nat l : Int) < 0)
        by_cases h : 0 < k
        · have := hp.1 h; rw [decide_eq_true h, decide_eq_true (by omega)]
        · have : ¬ 0 < L.nat l := fun g => h (hp.2 g)
          rw [decide_eq_false h, decide_eq_false (by omega)]
      | false =>
        rw [Bool.false_and]
        show false = decide ((L.nat l : Int) < 0)
        rw [decide_eq_false (by omega)]
    rw [e, hlen]
  · have hj : j < k := by
      rcases Nat.lt_or_ge j k with h | h
      · exact h
      · rw [List.getElem?_eq_none (by simp [cells]; omega)] at hu; cases hu
    rw [cells_at (by rw [hlen]; exact hj)] at hu
    obtain rfl := Option.some.inj hu
    rw [add0, hcell j (by omega)]
    have : L.bit (l.take k) j = L.bit l j := by unfold L.bit; rw [List.getElem?_take_of_lt hj]
    rw [this]
  · rw [hv]; cases m <;> simp [M.sg]
set_option maxHeartbeats 1000000 in
theorem trim_any (m : Bool) (A : Option Addr) (c : Nat) (l : List Nat) (w : World) (h : Reads w w.heap.size 1 A l.length (cells l)) (hl : L.Bits l) (hn : l.length ≤ 950) :
    Calls Try.prog 84 #[.agg #[.bool m, .slice A l.length c]] w (RetNum w (M.sg m (L.nat l))) := by
  obtain ⟨i0, hi0, hz0, hz1, hz2⟩ := info_parts u8_info
  have hcl : (cells l).length = l.length := by simp [cells]
  have hr : Reads (((w.alloc (.cells #[.bool m, .slice A l.length c] 112)).alloc (.cells #[.bool false, .slice none 0 0] 112)).alloc (.cells #[] 5)) w.heap.size 1 A l.length (cells l) :=
    ((h.alloc (Nat.le_refl _) _).alloc (by simp) _).alloc (by simp; omega) _
  have ho : (((w.alloc (.cells #[.bool m, .slice A l.length c] 112)).alloc (.cells #[.bool false, .slice none 0 0] 112)).alloc (.cells #[] 5)).ownsRow w.heap.size 5 1 (.slice (some ⟨w.heap.size + 1 + 1, 0, none⟩) 0 0) 0 [] := by
    have := own_empty ((w.alloc (.cells #[.bool m, .slice A l.length c] 112)).alloc (.cells #[.bool false, .slice none 0 0] 112)) (base := w.heap.size) (by simp; omega)
    simpa using this
  have hs : w.heap.size ≤ (((w.alloc (.cells #[.bool m, .slice A l.length c] 112)).alloc (.cells #[.bool false, .slice none 0 0] 112)).alloc (.cells #[] 5)).heap.size := by simp; omega
  have hm1 : 0 + l.length ≤ maxLen := by simp only [maxLen]; omega
  have hm2 : (0 + l.length) * 1 ≤ 140737488355328 := by omega
  have HCL := Lib.hid hcl
  clear hcl
  go_enter Try.func84, Try.ntmps84
  go_wp2_with (at_builtin; go_must (refine wpList_append_any _ rfl (.tmp 4) (.tmp 6) _ rfl w.heap.size 5 i0 _ 1 1 Try.underlying110 hi0 hz0 hz1 hz2 rfl (by omega) (.slice (some ⟨w.heap.size + 1 + 1, 0, none⟩) 0 0) 0 [] rfl ho w.heap.size A l.length c (cells l) rfl hr (cells_one l) hm1 hm2 hs ?_); intro v1 w1 hown1 hg1 hat1)
  have K : Below w.heap.size w w1 := ((((Below.refl _ w).alloc (Nat.le_refl _) _).alloc (by simp) _).alloc (by simp; omega) _).grown hg1 (by simp; omega) (own_ge ho)
  obtain ⟨g, cap, cur, rfl, hgB, hblk, hkc, hcm, hcs, htk⟩ : ∃ g cap cur, v1 = .slice (some ⟨g, 0, none⟩) l.length cap ∧ w.heap.size ≤ g ∧ w1.heap[g]? = some (.cells cur 5 (0, 0)) ∧ l.length ≤ cap ∧ cap ≤ maxLen ∧ cur.size = cap * 1 ∧ cur.toList.take (l.length * 1) = cells l := by
    rcases hown1.2 with ⟨rfl, _⟩ | ⟨g, cap, cur, e, h1, h2, h3, h4, h5, h6⟩
    · exfalso
      rcases hat1 with e | e <;> simp [Value.ownBlock] at e
    · simp only [Nat.zero_add, List.nil_append] at e h3 h6
      exact ⟨g, cap, cur, e, h1, h2, h3, h4, h5, h6⟩
  have hcell : ∀ j, j < l.length → w1.cell? ⟨g, j, none⟩ = some (.int .u8 (L.bit l j : Int)) := by
    intro j hj
    have := hown1.cells (g := g) rfl
    simp only [List.nil_append] at this
    have := this j _ (cells_at hj)
    rw [add0] at this
    exact this
  obtain ⟨b0, b1, b2, b3, f2, f3⟩ := three_cells w _ _ _ _ _ _ rfl
  have hgs : w.heap.size + 1 < w1.heap.size := by have := hg1.size; simp at this; omega
  have hn0 : ∀ k, k < w.heap.size + 1 + 1 → some k ≠ (Value.slice (some ⟨w.heap.size + 1 + 1, 0, none⟩) 0 0).ownBlock := by intro k hk; simp [Value.ownBlock]; omega
  have d0 := (hg1.cell_far ⟨w.heap.size, 0, none⟩ (by simp; omega) (hn0 _ (by simp; omega))).trans b0
  have d2 := (hg1.cell_far ⟨w.heap.size + 1, 0, none⟩ (by simp) (hn0 _ (by simp))).trans b2
  have d3 := (hg1.cell_far ⟨w.heap.size + 1, 1, none⟩ (by simp) (hn0 _ (by simp))).trans b3
  have e2 := (hg1.frozen_far ⟨w.heap.size + 1, 0, none⟩ (by simp) (hn0 _ (by simp))).trans f2
  have e3 := (hg1.frozen_far ⟨w.heap.size + 1, 1, none⟩ (by simp) (hn0 _ (by simp))).trans f3
  have hg2 : w.heap.size + 1 < g := by
    rcases hat1 with e | e <;> simp [Value.ownBlock] at e <;> omega
  have hgs2 : g < w1.heap.size := by
    rcases Nat.lt_or_ge g w1.heap.size with q | q
    · exact q
    · rw [Array.getElem?_eq_none q] at hblk; cases hblk
  clear b0 b1 b2 b3 f2 f3 hn0 hg1 hat1 hown1 hr ho hs htk hcs
  have hlen := hn
  go_wp2_with fail
  go_loop [3] (fun v => ∃ k : Nat, v = .slice (some ⟨g, 0, none⟩) k cap ∧ k ≤ l.length ∧ Hid (L.nat (l.take k) = L.nat l)) (fun v => match v with | .slice _ k _ => k | _ => 0)
  case atStart => exact ⟨l.length, rfl, Nat.le_refl _, Lib.hid (by rw [List.take_length])⟩
  case round =>
    obtain ⟨k, rfl, hk, hv⟩ := hrel
    have fin : ∀ (k : Nat) (b : Bool), k ≤ l.length → L.nat (l.take k) = L.nat l → L.Can (l.take k) → b = (m && decide (0 < k)) →
        RetNum w (M.sg m (L.nat l)) (.returned (.agg #[.bool b, .slice (some ⟨g, 0, none⟩) k cap])) ((w1.setCell ⟨w.heap.size + 1, 0, none⟩ (.bool b)).setCell ⟨w.heap.size + 1, 1, none⟩ (.slice (some ⟨g, 0, none⟩) k cap)) := by
      intro k b h1 h2 h3 h4
      refine ret_mk hl h1 h2 h3 h4 hgB (by simp [World.setCell]; exact hgs2) (fun j hj => ?_) ((K.setCell (by simp) _).setCell (by simp) _)
      rw [World.cell?_setCell_other _ _ _ _ (by first | (simp; done) | (simp; omega)), World.cell?_setCell_other _ _ _ _ (by first | (simp; done) | (simp; omega))]
      exact hcell j hj
    have F := Lib.hid fin
    clear fin
    rcases Nat.eq_zero_or_pos k with z | z
    · subst z
      have C : L.Can (l.take 0) := ⟨L.Bits.nil, fun h => absurd rfl h⟩
      have R := Lib.hid (F.out 0 false hk hv.out C (by simp))
      clear hcell F hv C
      cases m with
      | true =>
        go_wp2_with fail
        exact bodyPost_ret (v := .agg #[.bool false, .slice (some ⟨g, 0, none⟩) 0 cap]) (by simp [results, Try.results84, go_sem, hgs, d2, d3]) rfl R.out
      | false =>
        go_wp2_with fail
        exact bodyPost_ret (v := .agg #[.bool false, .slice (some ⟨g, 0, none⟩) 0 cap]) (by simp [results, Try.results84, go_sem, hgs, d2, d3]) rfl R.out
    · obtain ⟨j, rfl⟩ : ∃ j, k = j + 1 := ⟨k - 1, by omega⟩
      have hj := hcell j (by omega)
      have k1 : (0 : Int) ≤ (j : Int) := by omega
      have k2 : (j : Int) ≤ (cap : Int) := by omega
      have k3 : (j : Int) < ((j + 1 : Nat) : Int) := by omega
      have k4 : ((j + 1 : Nat) : Int) ≤ (cap : Int) := by omega
      have k5 : (0 : Int) < ((j + 1 : Nat) : Int) := by omega
      have k6 : ((j + 1 : Nat) : Int) - 1 = (j : Int) := by omega
      have k7 : ((j + 1 : Nat) : Int) ≤ 950 := by omega
      by_cases b : L.bit l j = 0
      · have hv' := Lib.hid (L.trim_step (by omega) b hv.out)
        rw [b] at hj
        clear hcell hv
        go_wp2_with fail
        exact ⟨⟨j, rfl, by omega, hv'⟩, Nat.lt_succ_self j⟩
      · have C := L.trim_end hl hk (fun _ => b)
        have R := Lib.hid (F.out (j + 1) m hk hv.out C (by simp))
        have kb : ((L.bit l j : Int) == 0) = false := by simp; omega
        clear hcell F hv C b
        cases m with
        | true =>
          go_wp2_with fail
          exact bodyPost_ret (v := .agg #[.bool true, .slice (some ⟨g, 0, none⟩) (j + 1) cap]) (by simp [results, Try.results84, go_sem, hgs, d2, d3]) rfl R.out
        | false =>
          go_wp2_with fail
          exact bodyPost_ret (v := .agg #[.bool false, .slice (some ⟨g, 0, none⟩) (j + 1) cap]) (by simp [results, Try.results84, go_sem, hgs, d2, d3]) rfl R.out
end Go.Proofs.Ytdkppkdoconfhaa
namespace Go.Proofs.Ytdkppkdoconfhaa
open Go.ChangeShapes Go.WideShapes Go.ChangeAt Go.RowKit
set_option linter.unusedVariables false

/-- A call hands back a slice that reads as bits. -/
def RetSl (w : World) (P : List Nat → Prop) (e : Ending) (w' : World) : Prop :=
  ∃ A c l, e = .returned (.slice A l.length c) ∧ Reads w' w'.heap.size 1 A l.length (cells l) ∧ P l ∧ Below w.heap.size w w'
theorem sl_of {w : World} {P : List Nat → Prop} {e : Ending} {w' : World} (h : RetList w P e w') : RetSl w P e w' := by
  obtain ⟨v, l, rfl, hown, hP, hB⟩ := h
  rcases hown.2 with ⟨rfl, hn⟩ | ⟨g, cap, cur, rfl, _⟩
  · have : l = [] := List.eq_nil_of_length_eq_zero hn
    subst this
    exact ⟨none, 0, [], rfl, Reads.none_, hP, hB⟩
  · exact ⟨some ⟨g, 0, none⟩, cap, l, rfl, Reads.of_own hown, hP, hB⟩
theorem Reads.up {w w' : World} {A : Option Addr} {n : Nat} {xs : List Value} (h : Reads w w.heap.size 1 A n xs) (hb : Below w.heap.size w w') : Reads w' w'.heap.size 1 A n xs := (h.below hb).more hb.size
def RetSlN (w : World) (P : List Nat → Prop) (e : Ending) (w' : World) : Prop :=
  ∃ A c l, e = .returned (.slice A l.length c) ∧ Reads w' w'.heap.size 1 A l.length (cells l) ∧ P l ∧ (∀ ad, A = some ad → w.heap.size ≤ ad.block) ∧ Below w.heap.size w w'
theorem sln_of {w : World} {P Q : List Nat → Prop} {e : Ending} {w' : World} (h : RetList w P e w') (hPQ : ∀ l, P l → Q l) : RetSlN w Q e w' := by
  obtain ⟨v, l, rfl, hown, hP, hB⟩ := h
  rcases hown.2 with ⟨rfl, hn⟩ | ⟨g, cap, cur, rfl, hg, _⟩
  · have : l = [] := List.eq_nil_of_length_eq_zero hn
    subst this
    exact ⟨none, 0, [], rfl, Reads.none_, hPQ _ hP, fun ad e => (by cases e), hB⟩
  · exact ⟨some ⟨g, 0, none⟩, cap, l, rfl, Reads.of_own hown, hPQ _ hP, fun ad e => (by cases e; exact hg), hB⟩
/-- Two structs of two cells, one behind the other, held over a call. -/
theorem keep4 {x y : World} {b : Nat} {v u v' u' : Value} (hb : Below x.heap.size x y)
    (h : x.cell? ⟨b, 0, none⟩ = some v ∧ x.cell? ⟨b, 1, none⟩ = some u ∧ x.cell? ⟨b + 1, 0, none⟩ = some v' ∧ x.cell? ⟨b + 1, 1, none⟩ = some u' ∧ b + 1 < x.heap.size) :
    y.cell? ⟨b, 0, none⟩ = some v ∧ y.cell? ⟨b, 1, none⟩ = some u ∧ y.cell? ⟨b + 1, 0, none⟩ = some v' ∧ y.cell? ⟨b + 1, 1, none⟩ = some u' ∧ b + 1 < y.heap.size :=
  ⟨(hb.cell (p := ⟨b, 0, none⟩) (by dsimp only; omega)).trans h.1, (hb.cell (p := ⟨b, 1, none⟩) (by dsimp only; omega)).trans h.2.1, (hb.cell (p := ⟨b + 1, 0, none⟩) h.2.2.2.2).trans h.2.2.1, (hb.cell (p := ⟨b + 1, 1, none⟩) h.2.2.2.2).trans h.2.2.2.1, Nat.lt_of_lt_of_le h.2.2.2.2 hb.size⟩
theorem retnum_up {w w1 w' : World} {z : Int} {e : Ending} (h : RetNum w1 z e w') (hB : Below w.heap.size w w1) : RetNum w z e w' := by
  obtain ⟨A, c, l, he, hr, hC, hn, ha, hb⟩ := h
  exact ⟨A, c, l, he, hr, hC, hn, fun ad e => Nat.le_trans hB.size (ha ad e), hB.trans (hb.mono hB.size)⟩
theorem reads_set {w : World} {B n : Nat} {A : Option Addr} {xs : List Value} (h : Reads w B 1 A n xs) {p : Addr} (hp : ∀ ad, A = some ad → p.block < ad.block) (u : Value) : Reads (w.setCell p u) B 1 A n xs :=
  ⟨h.1, fun hn => by
    obtain ⟨ad, e, hb, hc⟩ := h.2 hn
    refine ⟨ad, e, hb, fun j v hv => ?_⟩
    rw [World.cell?_setCell_other _ _ _ _ (fun q => ?_)]
    · exact hc j v hv
    · have h1 := hp ad e
      have h2 : p.block = (ad.add j).block := congrArg Addr.block q
      rw [block_of_add] at h2
      omega⟩
/-- A number handed back out of a variable of the call's own. -/
theorem end_num {w w1 : World} {A : Option Addr} {c R : Nat} {l : List Nat} {z : Int} (hr : Reads w1 w1.heap.size 1 A l.length (cells l)) (hC : L.Can l) (hz : L.nat l = z.natAbs) (hA : ∀ ad, A = some ad → R < ad.block)
    (hR : w.heap.size ≤ R) (hB : Below w.heap.size w w1) :
    RetNum w z (.returned (.agg #[.bool (decide (z < 0)), .slice A l.length c])) ((w1.setCell ⟨R, 0, none⟩ (.bool (decide (z < 0)))).setCell ⟨R, 1, none⟩ (.slice A l.length c)) :=
  ⟨A, c, l, rfl, by
    have := reads_set (reads_set hr (p := ⟨R, 0, none⟩) hA (.bool (decide (z < 0)))) (p := ⟨R, 1, none⟩) hA (.slice A l.length c)
    simpa [World.setCell] using this, hC, hz, fun ad e => Nat.le_trans hR (Nat.le_of_lt (hA ad e)), (hB.setCell hR _).setCell hR _⟩
theorem turn_any (m : Bool) (A : Option Addr) (c : Nat) (l : List Nat) (w : World) (h : Reads w w.heap.size 1 A l.length (cells l)) (hl : L.Bits l) (hn : l.length ≤ 950) :
    Calls Try.prog 89 #[.agg #[.bool m, .slice A l.length c]] w (RetNum w (-(M.sg m (L.nat l)))) := by
  have ez : -(M.sg m (L.nat l : Int)) = M.sg (!m) (L.nat l) := by cases m <;> simp [M.sg]
  have ht := trim_any (!m) A c l ((w.alloc (.cells #[.bool m, .slice A l.length c] 112)).alloc (.cells #[.bool false, .slice none 0 0] 112))
    (h.up (((Below.refl _ w).alloc (Nat.le_refl _) _).alloc (by simp) _)) hl hn
  rw [ez]
  clear ez
  generalize M.sg (!m) (L.nat l : Int) = z at *
  go_enter Try.func89, Try.ntmps89
  go_wp2_with fail
  refine ht.mono ?_
  rintro e w1 ⟨A', c', l', rfl, hr, hC, hz, hA, hb⟩
  have K : Below w.heap.size w w1 := (((Below.refl _ w).alloc (Nat.le_refl _) _).alloc (by simp) _).trans (hb.mono (by simp; omega))
  have E := Lib.hid (end_num (w := w) (R := w.heap.size + 1) (c := c') hr hC hz (fun ad e => by have := hA ad e; simp at this; omega) (by omega) K)
  obtain ⟨hc, hf⟩ := bcell hb
  have hs : w.heap.size + 1 < w1.heap.size := by have := hb.size; simp at this; omega
  clear hA hz hC hr
  go_wp2_with fail
  exact bodyPost_ret (v := .agg #[.bool (decide (z < 0)), .slice A' l'.length c']) (by simp [results, Try.results89, go_sem, hc]) rfl E.out
theorem keep4s {x : World} {b : Nat} {v u v' u' z : Value} {p : Addr} (hp : b + 1 < p.block)
    (h : x.cell? ⟨b, 0, none⟩ = some v ∧ x.cell? ⟨b, 1, none⟩ = some u ∧ x.cell? ⟨b + 1, 0, none⟩ = some v' ∧ x.cell? ⟨b + 1, 1, none⟩ = some u' ∧ b + 1 < x.heap.size) :
    (x.setCell p z).cell? ⟨b, 0, none⟩ = some v ∧ (x.setCell p z).cell? ⟨b, 1, none⟩ = some u ∧ (x.setCell p z).cell? ⟨b + 1, 0, none⟩ = some v' ∧ (x.setCell p z).cell? ⟨b + 1, 1, none⟩ = some u' ∧ b + 1 < (x.setCell p z).heap.size := by
  have n : ∀ k i, k ≤ b + 1 → p ≠ ⟨k, i, none⟩ := fun k i hk e => by have : p.block = k := congrArg Addr.block e; omega
  exact ⟨(World.cell?_setCell_other _ _ _ _ (n _ _ (by omega))).trans h.1, (World.cell?_setCell_other _ _ _ _ (n _ _ (by omega))).trans h.2.1, (World.cell?_setCell_other _ _ _ _ (n _ _ (by omega))).trans h.2.2.1, (World.cell?_setCell_other _ _ _ _ (n _ _ (by omega))).trans h.2.2.2.1, by have := h.2.2.2.2; simp [World.setCell]; omega⟩
theorem three_new (w : World) (a b c d x y : Value) : (((w.alloc (.cells #[a, b] 112)).alloc (.cells #[c, d] 112)).alloc (.cells #[x, y] 112)).cell? ⟨w.heap.size + 1 + 1, 0, none⟩ = some x ∧ (((w.alloc (.cells #[a, b] 112)).alloc (.cells #[c, d] 112)).alloc (.cells #[x, y] 112)).cell? ⟨w.heap.size + 1 + 1, 1, none⟩ = some y := by
  have h0 := World.cell?_alloc_new ((w.alloc (.cells #[a, b] 112)).alloc (.cells #[c, d] 112)) #[x, y] 112 0
  have h1 := World.cell?_alloc_new ((w.alloc (.cells #[a, b] 112)).alloc (.cells #[c, d] 112)) #[x, y] 112 1
  rw [World.size_alloc, World.size_alloc] at h0 h1
  exact ⟨h0, h1⟩
theorem three_frozen (w : World) (a b c d x y : Value) (i : Nat) : (((w.alloc (.cells #[a, b] 112)).alloc (.cells #[c, d] 112)).alloc (.cells #[x, y] 112)).frozen? ⟨w.heap.size + 1 + 1, i, none⟩ = false := by
  have h0 := World.frozen?_alloc_new ((w.alloc (.cells #[a, b] 112)).alloc (.cells #[c, d] 112)) #[x, y] 112 i
  rw [World.size_alloc, World.size_alloc] at h0
  exact h0
/-- The case of one sign. -/
theorem sum_same (am bm : Bool) (A B : Option Addr) (c d : Nat) (a b : List Nat) (w : World) (z : Int) (hm : (am == bm) = true)
    (cM : Calls Try.prog 90 #[.slice A a.length c, .slice B b.length d] (World.drew (((w.alloc (.cells #[.bool am, .slice A a.length c] 112)).alloc (.cells #[.bool bm, .slice B b.length d] 112)).alloc (.cells #[.bool false, .slice none 0 0] 112))) (RetSlN (World.drew (((w.alloc (.cells #[.bool am, .slice A a.length c] 112)).alloc (.cells #[.bool bm, .slice B b.length d] 112)).alloc (.cells #[.bool false, .slice none 0 0] 112))) fun l => L.Bits l ∧ l.length ≤ 950 ∧ M.sg am (L.nat l) = z)) :
    Calls Try.prog 80 #[.agg #[.bool am, .slice A a.length c], .agg #[.bool bm, .slice B b.length d]] w (RetNum w z) := by
    have trimC : ∀ (A' : Option Addr) (c' : Nat) (l' : List Nat) (w3 : World), Reads w3 w3.heap.size 1 A' l'.length (cells l') → (L.Bits l' ∧ l'.length ≤ 950 ∧ M.sg am (L.nat l') = z) → Calls Try.prog 84 #[.agg #[.bool am, .slice A' l'.length c']] w3 (RetNum w3 z) := by
      intro A' c' l' w3 hr hP
      have := trim_any am A' c' l' w3 hr hP.1 hP.2.1
      rwa [hP.2.2] at this
    go_enter Try.func80, Try.ntmps80
    go_wp2_with fail
    go_region_held3 (fun w' => w'.cell? ⟨w.heap.size, 0, none⟩ = some (.bool am) ∧ w'.cell? ⟨w.heap.size, 1, none⟩ = some (.slice A a.length c) ∧ w'.cell? ⟨w.heap.size + 1, 0, none⟩ = some (.bool bm) ∧ w'.cell? ⟨w.heap.size + 1, 1, none⟩ = some (.slice B b.length d) ∧ w.heap.size + 1 < w'.heap.size)
      (first | exact keep4 hbB (by assumption) | exact keep4s (by (dsimp only; omega)) (keep4s (by (dsimp only; omega)) (by assumption)) | exact keep4 hbA (by assumption) | go_keep)
      ((first | (go_at_call 90; refine cM.mono ?_; rintro e w3 ⟨A', c', l', rfl, hr, hP, hA, hbA⟩; have zA : w.heap.size + 2 < w3.heap.size := (by (have := hbA.size; (try simp at this); omega)); obtain ⟨hcA, hfA⟩ := bcell hbA) | (go_at_call 84; refine (trimC A' c' l' w3 hr hP).mono ?_; rintro e w4 ⟨A2, c2, l2, rfl, hr2, hC2, hz2, hA2, hbB⟩; have zB : w.heap.size + 2 < w4.heap.size := (by (have := hbB.size; (try simp at this); omega)); obtain ⟨hcB, hfB⟩ := bcell hbB)))
    all_goals go_wp2_with fail
    have K1 := (((((Below.refl _ w).alloc (Nat.le_refl _) _).alloc (by simp) _).alloc (by simp; omega) _).drew).trans (hbA.mono (by simp; omega))
    have K2 := K1.trans (hbB.mono K1.size)
    have E := Lib.hid (end_num (w := w) (R := w.heap.size + 2) (c := c2) hr2 hC2 hz2 (fun ad e => by have := hA2 ad e; omega) (by omega) K2)
    have n0 := three_new w (.bool am) (.slice A a.length c) (.bool bm) (.slice B b.length d) (.bool false) (.slice none 0 0)
    have rc0 : w4.cell? ⟨w.heap.size + 1 + 1, 0, none⟩ = some (.bool false) := (hcB (w.heap.size + 1 + 1) 0 (by omega)).trans ((hcA (w.heap.size + 1 + 1) 0 (by simp)).trans n0.1)
    have rc1 : w4.cell? ⟨w.heap.size + 1 + 1, 1, none⟩ = some (.slice none 0 0) := (hcB (w.heap.size + 1 + 1) 1 (by omega)).trans ((hcA (w.heap.size + 1 + 1) 1 (by simp)).trans n0.2)
    exact bodyPost_ret (v := .agg #[.bool (decide (z < 0)), .slice A2 l2.length c2]) (by simp [results, Try.results80, go_sem, rc0, rc1]) rfl E.out
/-- Above first: sum_ge. -/
theorem sum_ge (am bm : Bool) (A B : Option Addr) (c d : Nat) (a b : List Nat) (w : World) (z g : Int) (hm : (am == bm) = false) (hg : 0 ≤ g)
    (cO : Calls Try.prog 88 #[.slice A a.length c, .slice B b.length d] (((w.alloc (.cells #[.bool am, .slice A a.length c] 112)).alloc (.cells #[.bool bm, .slice B b.length d] 112)).alloc (.cells #[.bool false, .slice none 0 0] 112)) fun e w' => e = .returned (.int .i64 g) ∧ Below ((((w.alloc (.cells #[.bool am, .slice A a.length c] 112)).alloc (.cells #[.bool bm, .slice B b.length d] 112)).alloc (.cells #[.bool false, .slice none 0 0] 112))).heap.size (((w.alloc (.cells #[.bool am, .slice A a.length c] 112)).alloc (.cells #[.bool bm, .slice B b.length d] 112)).alloc (.cells #[.bool false, .slice none 0 0] 112)) w')
    (cM : ∀ w2, Below ((((w.alloc (.cells #[.bool am, .slice A a.length c] 112)).alloc (.cells #[.bool bm, .slice B b.length d] 112)).alloc (.cells #[.bool false, .slice none 0 0] 112))).heap.size (((w.alloc (.cells #[.bool am, .slice A a.length c] 112)).alloc (.cells #[.bool bm, .slice B b.length d] 112)).alloc (.cells #[.bool false, .slice none 0 0] 112)) w2 → Calls Try.prog 85 #[.slice A a.length c, .slice B b.length d] w2.drew (RetSlN w2.drew fun l => L.Bits l ∧ l.length ≤ 950 ∧ M.sg am (L.nat l) = z)) :
    Calls Try.prog 80 #[.agg #[.bool am, .slice A a.length c], .agg #[.bool bm, .slice B b.length d]] w (RetNum w z) := by
  have trimC : ∀ (A' : Option Addr) (c' : Nat) (l' : List Nat) (w3 : World), Reads w3 w3.heap.size 1 A' l'.length (cells l') → (L.Bits l' ∧ l'.length ≤ 950 ∧ M.sg am (L.nat l') = z) → Calls Try.prog 84 #[.agg #[.bool am, .slice A' l'.length c']] w3 (RetNum w3 z) := by
    intro A' c' l' w3 hr hP
    have := trim_any am A' c' l' w3 hr hP.1 hP.2.1
    rwa [hP.2.2] at this
  have n0 := three_new w (.bool am) (.slice A a.length c) (.bool bm) (.slice B b.length d) (.bool false) (.slice none 0 0)
  have n1 := three_cells w (.bool am) (.slice A a.length c) (.bool bm) (.slice B b.length d) (.cells #[.bool false, .slice none 0 0] 112) _ rfl
  have K0 : Below w.heap.size w (((w.alloc (.cells #[.bool am, .slice A a.length c] 112)).alloc (.cells #[.bool bm, .slice B b.length d] 112)).alloc (.cells #[.bool false, .slice none 0 0] 112)) := ((((Below.refl _ w).alloc (Nat.le_refl _) _).alloc (by simp) _).alloc (by simp; omega) _)
  have N0 := Lib.hid n0
  have N1 := Lib.hid n1
  clear n0 n1
  go_enter Try.func80, Try.ntmps80
  go_wp2_with fail
  refine cO.mono ?_
  rintro e w2 ⟨rfl, hbO⟩
  have cM2 := cM w2 hbO
  have hs2 : w.heap.size + 1 + 1 < w2.heap.size := by have := hbO.size; simp at this; omega
  have H2 := keep4 hbO ⟨N1.out.1, N1.out.2.1, N1.out.2.2.1, N1.out.2.2.2.1, by simp⟩
  have m0 := (hbO.cell (p := ⟨w.heap.size + 1 + 1, 0, none⟩) (by simp)).trans N0.out.1
  have m1 := (hbO.cell (p := ⟨w.heap.size + 1 + 1, 1, none⟩) (by simp)).trans N0.out.2
  obtain ⟨hcO, hfO⟩ := bcell hbO
  have p0 : w2.frozen? ⟨w.heap.size + 1 + 1, 0, none⟩ = false := (hfO (w.heap.size + 1 + 1) 0 (by simp)).trans (three_frozen w _ _ _ _ _ _ 0)
  have p1 : w2.frozen? ⟨w.heap.size + 1 + 1, 1, none⟩ = false := (hfO (w.heap.size + 1 + 1) 1 (by simp)).trans (three_frozen w _ _ _ _ _ _ 1)
  have K2' := K0.trans (hbO.mono K0.size)
  clear cM cO hcO hfO
  have HH := H2
  obtain ⟨x1, x2, x3, x4, x5⟩ := H2
  go_wp2_with fail
  clear x1 x2 x3 x4 x5
  go_region_held3 (fun w' => w'.cell? ⟨w.heap.size, 0, none⟩ = some (.bool am) ∧ w'.cell? ⟨w.heap.size, 1, none⟩ = some (.slice A a.length c) ∧ w'.cell? ⟨w.heap.size + 1, 0, none⟩ = some (.bool bm) ∧ w'.cell? ⟨w.heap.size + 1, 1, none⟩ = some (.slice B b.length d) ∧ w.heap.size + 1 < w'.heap.size)
    (first | exact keep4 hbB (by assumption) | exact keep4s (by (dsimp only; omega)) (keep4s (by (dsimp only; omega)) (by assumption)) | exact keep4 hbA (by assumption) | exact HH | go_keep)
    ((first | (go_at_call 85; refine cM2.mono ?_; rintro e w3 ⟨A', c', l', rfl, hr, hP, hA, hbA⟩; have zA : w.heap.size + 1 + 1 < w3.heap.size := (by (have := hbA.size; (try simp at this); omega)); obtain ⟨hcA, hfA⟩ := bcell hbA) | (go_at_call 84; refine (trimC A' c' l' w3 hr hP).mono ?_; rintro e w4 ⟨A2, c2, l2, rfl, hr2, hC2, hz2, hA2, hbB⟩; have zB : w.heap.size + 1 + 1 < w4.heap.size := (by (have := hbB.size; (try simp at this); omega)); obtain ⟨hcB, hfB⟩ := bcell hbB; have rc0 : w4.cell? ⟨w.heap.size + 1 + 1, 0, none⟩ = some (.bool false) := (hcB (w.heap.size + 1 + 1) 0 zA).trans ((hcA (w.heap.size + 1 + 1) 0 hs2).trans m0); have rc1 : w4.cell? ⟨w.heap.size + 1 + 1, 1, none⟩ = some (.slice none 0 0) := (hcB (w.heap.size + 1 + 1) 1 zA).trans ((hcA (w.heap.size + 1 + 1) 1 hs2).trans m1); have rf0 : w4.frozen? ⟨w.heap.size + 1 + 1, 0, none⟩ = false := (hfB (w.heap.size + 1 + 1) 0 zA).trans ((hfA (w.heap.size + 1 + 1) 0 hs2).trans p0); have rf1 : w4.frozen? ⟨w.heap.size + 1 + 1, 1, none⟩ = false := (hfB (w.heap.size + 1 + 1) 1 zA).trans ((hfA (w.heap.size + 1 + 1) 1 hs2).trans p1); clear hcA hfA hcB hfB)))
  all_goals go_wp2_with fail
  have K1 := (K2'.drew).trans (hbA.mono (by simp; omega))
  have K2 := K1.trans (hbB.mono K1.size)
  have E := Lib.hid (end_num (w := w) (R := w.heap.size + 2) (c := c2) hr2 hC2 hz2 (fun ad e => by have := hA2 ad e; omega) (by omega) K2)
  exact bodyPost_ret (v := .agg #[.bool (decide (z < 0)), .slice A2 l2.length c2]) (by simp [results, Try.results80, go_sem, rc0, rc1]) rfl E.out
/-- Above first: sum_lt. -/
theorem sum_lt (am bm : Bool) (A B : Option Addr) (c d : Nat) (a b : List Nat) (w : World) (z g : Int) (hm : (am == bm) = false) (hg : g < 0)
    (cO : Calls Try.prog 88 #[.slice A a.length c, .slice B b.length d] (((w.alloc (.cells #[.bool am, .slice A a.length c] 112)).alloc (.cells #[.bool bm, .slice B b.length d] 112)).alloc (.cells #[.bool false, .slice none 0 0] 112)) fun e w' => e = .returned (.int .i64 g) ∧ Below ((((w.alloc (.cells #[.bool am, .slice A a.length c] 112)).alloc (.cells #[.bool bm, .slice B b.length d] 112)).alloc (.cells #[.bool false, .slice none 0 0] 112))).heap.size (((w.alloc (.cells #[.bool am, .slice A a.length c] 112)).alloc (.cells #[.bool bm, .slice B b.length d] 112)).alloc (.cells #[.bool false, .slice none 0 0] 112)) w')
    (cM : ∀ w2, Below ((((w.alloc (.cells #[.bool am, .slice A a.length c] 112)).alloc (.cells #[.bool bm, .slice B b.length d] 112)).alloc (.cells #[.bool false, .slice none 0 0] 112))).heap.size (((w.alloc (.cells #[.bool am, .slice A a.length c] 112)).alloc (.cells #[.bool bm, .slice B b.length d] 112)).alloc (.cells #[.bool false, .slice none 0 0] 112)) w2 → Calls Try.prog 85 #[.slice B b.length d, .slice A a.length c] w2.drew (RetSlN w2.drew fun l => L.Bits l ∧ l.length ≤ 950 ∧ M.sg bm (L.nat l) = z)) :
    Calls Try.prog 80 #[.agg #[.bool am, .slice A a.length c], .agg #[.bool bm, .slice B b.length d]] w (RetNum w z) := by
  have trimC : ∀ (A' : Option Addr) (c' : Nat) (l' : List Nat) (w3 : World), Reads w3 w3.heap.size 1 A' l'.length (cells l') → (L.Bits l' ∧ l'.length ≤ 950 ∧ M.sg bm (L.nat l') = z) → Calls Try.prog 84 #[.agg #[.bool bm, .slice A' l'.length c']] w3 (RetNum w3 z) := by
    intro A' c' l' w3 hr hP
    have := trim_any bm A' c' l' w3 hr hP.1 hP.2.1
    rwa [hP.2.2] at this
  have n0 := three_new w (.bool am) (.slice A a.length c) (.bool bm) (.slice B b.length d) (.bool false) (.slice none 0 0)
  have n1 := three_cells w (.bool am) (.slice A a.length c) (.bool bm) (.slice B b.length d) (.cells #[.bool false, .slice none 0 0] 112) _ rfl
  have K0 : Below w.heap.size w (((w.alloc (.cells #[.bool am, .slice A a.length c] 112)).alloc (.cells #[.bool bm, .slice B b.length d] 112)).alloc (.cells #[.bool false, .slice none 0 0] 112)) := ((((Below.refl _ w).alloc (Nat.le_refl _) _).alloc (by simp) _).alloc (by simp; omega) _)
  have N0 := Lib.hid n0
  have N1 := Lib.hid n1
  clear n0 n1
  go_enter Try.func80, Try.ntmps80
  go_wp2_with fail
  refine cO.mono ?_
  rintro e w2 ⟨rfl, hbO⟩
  have cM2 := cM w2 hbO
  have hs2 : w.heap.size + 1 + 1 < w2.heap.size := by have := hbO.size; simp at this; omega
  have H2 := keep4 hbO ⟨N1.out.1, N1.out.2.1, N1.out.2.2.1, N1.out.2.2.2.1, by simp⟩
  have m0 := (hbO.cell (p := ⟨w.heap.size + 1 + 1, 0, none⟩) (by simp)).trans N0.out.1
  have m1 := (hbO.cell (p := ⟨w.heap.size + 1 + 1, 1, none⟩) (by simp)).trans N0.out.2
  obtain ⟨hcO, hfO⟩ := bcell hbO
  have p0 : w2.frozen? ⟨w.heap.size + 1 + 1, 0, none⟩ = false := (hfO (w.heap.size + 1 + 1) 0 (by simp)).trans (three_frozen w _ _ _ _ _ _ 0)
  have p1 : w2.frozen? ⟨w.heap.size + 1 + 1, 1, none⟩ = false := (hfO (w.heap.size + 1 + 1) 1 (by simp)).trans (three_frozen w _ _ _ _ _ _ 1)
  have K2' := K0.trans (hbO.mono K0.size)
  clear cM cO hcO hfO
  have HH := H2
  obtain ⟨x1, x2, x3, x4, x5⟩ := H2
  go_wp2_with fail
  clear x1 x2 x3 x4 x5
  go_region_held3 (fun w' => w'.cell? ⟨w.heap.size, 0, none⟩ = some (.bool am) ∧ w'.cell? ⟨w.heap.size, 1, none⟩ = some (.slice A a.length c) ∧ w'.cell? ⟨w.heap.size + 1, 0, none⟩ = some (.bool bm) ∧ w'.cell? ⟨w.heap.size + 1, 1, none⟩ = some (.slice B b.length d) ∧ w.heap.size + 1 < w'.heap.size)
    (first | exact keep4 hbB (by assumption) | exact keep4s (by (dsimp only; omega)) (keep4s (by (dsimp only; omega)) (by assumption)) | exact keep4 hbA (by assumption) | exact HH | go_keep)
    ((first | (go_at_call 85; refine cM2.mono ?_; rintro e w3 ⟨A', c', l', rfl, hr, hP, hA, hbA⟩; have zA : w.heap.size + 1 + 1 < w3.heap.size := (by (have := hbA.size; (try simp at this); omega)); obtain ⟨hcA, hfA⟩ := bcell hbA) | (go_at_call 84; refine (trimC A' c' l' w3 hr hP).mono ?_; rintro e w4 ⟨A2, c2, l2, rfl, hr2, hC2, hz2, hA2, hbB⟩; have zB : w.heap.size + 1 + 1 < w4.heap.size := (by (have := hbB.size; (try simp at this); omega)); obtain ⟨hcB, hfB⟩ := bcell hbB; have rc0 : w4.cell? ⟨w.heap.size + 1 + 1, 0, none⟩ = some (.bool false) := (hcB (w.heap.size + 1 + 1) 0 zA).trans ((hcA (w.heap.size + 1 + 1) 0 hs2).trans m0); have rc1 : w4.cell? ⟨w.heap.size + 1 + 1, 1, none⟩ = some (.slice none 0 0) := (hcB (w.heap.size + 1 + 1) 1 zA).trans ((hcA (w.heap.size + 1 + 1) 1 hs2).trans m1); have rf0 : w4.frozen? ⟨w.heap.size + 1 + 1, 0, none⟩ = false := (hfB (w.heap.size + 1 + 1) 0 zA).trans ((hfA (w.heap.size + 1 + 1) 0 hs2).trans p0); have rf1 : w4.frozen? ⟨w.heap.size + 1 + 1, 1, none⟩ = false := (hfB (w.heap.size + 1 + 1) 1 zA).trans ((hfA (w.heap.size + 1 + 1) 1 hs2).trans p1); clear hcA hfA hcB hfB)))
  all_goals go_wp2_with fail
  have K1 := (K2'.drew).trans (hbA.mono (by simp; omega))
  have K2 := K1.trans (hbB.mono K1.size)
  have E := Lib.hid (end_num (w := w) (R := w.heap.size + 2) (c := c2) hr2 hC2 hz2 (fun ad e => by have := hA2 ad e; omega) (by omega) K2)
  exact bodyPost_ret (v := .agg #[.bool (decide (z < 0)), .slice A2 l2.length c2]) (by simp [results, Try.results80, go_sem, rc0, rc1]) rfl E.out
end Go.Proofs.Ytdkppkdoconfhaa
namespace Go.Proofs.Ytdkppkdoconfhaa
open Go.ChangeShapes Go.WideShapes Go.ChangeAt Go.RowKit
set_option linter.unusedVariables false

theorem sum_any (am bm : Bool) (A B : Option Addr) (c d : Nat) (a b : List Nat) (w : World) (ha : Reads w w.heap.size 1 A a.length (cells a)) (hb : Reads w w.heap.size 1 B b.length (cells b))
    (xa : L.Bits a) (xb : L.Bits b) (na : a.length ≤ 900) (nb : b.length ≤ 900) :
    Calls Try.prog 80 #[.agg #[.bool am, .slice A a.length c], .agg #[.bool bm, .slice B b.length d]] w (RetNum w (M.sg am (L.nat a) + M.sg bm (L.nat b))) := by
  have K0 : Below w.heap.size w (((w.alloc (.cells #[.bool am, .slice A a.length c] 112)).alloc (.cells #[.bool bm, .slice B b.length d] 112)).alloc (.cells #[.bool false, .slice none 0 0] 112)) := ((((Below.refl _ w).alloc (Nat.le_refl _) _).alloc (by simp) _).alloc (by simp; omega) _)
  have ha0 := ha.up K0
  have hb0 := hb.up K0
  by_cases hm : (am == bm) = true
  · have e : am = bm := by simpa using hm
    subst e
    refine sum_same am am A B c d a b w _ hm ?_
    refine (more_any A B c d a b _ ha0.drew hb0.drew xa xb na nb).mono fun e w' h => sln_of h fun l hl => ⟨hl.1, by have := hl.2.2; omega, ?_⟩
    rw [hl.2.1]
    cases am <;> simp only [M.sg, Int.natCast_add, if_true, if_false, Bool.false_eq_true] <;> omega
  · have hm := Bool.eq_false_iff.2 hm
    have cO := above_any A B c d a b _ ha0 hb0 xa xb na nb
    rw [L.sgn_of] at cO
    by_cases g : L.nat a < L.nat b
    · rw [if_pos g] at cO
      refine sum_lt am bm A B c d a b w _ _ hm (by omega) cO fun w2 h2 => ?_
      refine (less_any B A d c b a _ (hb0.up h2).drew (ha0.up h2).drew xb xa nb na (by omega)).mono fun e w' h => sln_of h fun l hl => ⟨hl.1, by have := hl.2.2; omega, ?_⟩
      rw [hl.2.1, Int.ofNat_sub (by omega)]
      cases am <;> cases bm <;> simp_all only [M.sg, if_true, if_false, Bool.false_eq_true] <;> first | omega | (exfalso; exact absurd hm (by decide))
    · have hg : 0 ≤ (if L.nat a < L.nat b then (-1 : Int) else if L.nat b < L.nat a then 1 else 0) := by rw [if_neg g]; split <;> omega
      refine sum_ge am bm A B c d a b w _ _ hm hg cO fun w2 h2 => ?_
      refine (less_any A B c d a b _ (ha0.up h2).drew (hb0.up h2).drew xa xb na nb (by omega)).mono fun e w' h => sln_of h fun l hl => ⟨hl.1, by have := hl.2.2; omega, ?_⟩
      rw [hl.2.1, Int.ofNat_sub (by omega)]
      cases am <;> cases bm <;> simp_all only [M.sg, if_true, if_false, Bool.false_eq_true] <;> first | omega | (exfalso; exact absurd hm (by decide))
/-- What a number that was handed back says. -/
theorem sg_dec {z : Int} {l : List Nat} (h : L.nat l = z.natAbs) : M.sg (decide (z < 0)) (L.nat l) = z := by
  unfold M.sg
  by_cases g : z < 0
  · rw [decide_eq_true g, if_pos rfl]; omega
  · rw [decide_eq_false g]; simp; omega
theorem keep4a {x : World} {b : Nat} {v u v' u' : Value} {o : Obj} (h : x.cell? ⟨b, 0, none⟩ = some v ∧ x.cell? ⟨b, 1, none⟩ = some u ∧ x.cell? ⟨b + 1, 0, none⟩ = some v' ∧ x.cell? ⟨b + 1, 1, none⟩ = some u' ∧ b + 1 < x.heap.size) : (x.alloc o).cell? ⟨b, 0, none⟩ = some v ∧ (x.alloc o).cell? ⟨b, 1, none⟩ = some u ∧ (x.alloc o).cell? ⟨b + 1, 0, none⟩ = some v' ∧ (x.alloc o).cell? ⟨b + 1, 1, none⟩ = some u' ∧ b + 1 < (x.alloc o).heap.size :=
  ⟨(World.cell?_alloc_lt x o ⟨b, 0, none⟩ (by have := h.2.2.2.2; dsimp only; omega)).trans h.1, (World.cell?_alloc_lt x o ⟨b, 1, none⟩ (by have := h.2.2.2.2; dsimp only; omega)).trans h.2.1, (World.cell?_alloc_lt x o ⟨b + 1, 0, none⟩ h.2.2.2.2).trans h.2.2.1, (World.cell?_alloc_lt x o ⟨b + 1, 1, none⟩ h.2.2.2.2).trans h.2.2.2.1, by have := h.2.2.2.2; simp; omega⟩
theorem keep4b {x : World} {b : Nat} {v u v' u' : Value} {o o' : Obj} (hz : b + 1 < x.heap.size) (h : (x.alloc o).cell? ⟨b, 0, none⟩ = some v ∧ (x.alloc o).cell? ⟨b, 1, none⟩ = some u ∧ (x.alloc o).cell? ⟨b + 1, 0, none⟩ = some v' ∧ (x.alloc o).cell? ⟨b + 1, 1, none⟩ = some u' ∧ b + 1 < (x.alloc o).heap.size) : (x.alloc o').cell? ⟨b, 0, none⟩ = some v ∧ (x.alloc o').cell? ⟨b, 1, none⟩ = some u ∧ (x.alloc o').cell? ⟨b + 1, 0, none⟩ = some v' ∧ (x.alloc o').cell? ⟨b + 1, 1, none⟩ = some u' ∧ b + 1 < (x.alloc o').heap.size :=
  keep4a ⟨(World.cell?_alloc_lt x o ⟨b, 0, none⟩ (by dsimp only; omega)).symm.trans h.1, (World.cell?_alloc_lt x o ⟨b, 1, none⟩ (by dsimp only; omega)).symm.trans h.2.1, (World.cell?_alloc_lt x o ⟨b + 1, 0, none⟩ hz).symm.trans h.2.2.1, (World.cell?_alloc_lt x o ⟨b + 1, 1, none⟩ hz).symm.trans h.2.2.2.1, hz⟩
theorem Reads.upA {w : World} {A : Option Addr} {n : Nat} {xs : List Value} (h : Reads w w.heap.size 1 A n xs) (o : Obj) : Reads (w.alloc o) (w.alloc o).heap.size 1 A n xs := h.up ((Below.refl _ w).alloc (Nat.le_refl _) o)
/-- A variable that holds a number. -/
def NumAt (w0 wx : World) (g : Nat) (z : Int) : Prop := ∃ A c l, wx.cell? ⟨g, 0, none⟩ = some (.bool (decide (z < 0))) ∧ wx.cell? ⟨g, 1, none⟩ = some (.slice A l.length c) ∧ L.Can l ∧ L.nat l = z.natAbs ∧ g < wx.heap.size ∧ Below w0.heap.size w0 wx
theorem new2w {w x : World} {v u : Value} {t : TypeId} (K : Below w.heap.size w x) :
    (x.alloc (.cells #[v, u] t)).cell? ⟨x.heap.size, 0, none⟩ = some v ∧ (x.alloc (.cells #[v, u] t)).cell? ⟨x.heap.size, 1, none⟩ = some u ∧ x.heap.size < (x.alloc (.cells #[v, u] t)).heap.size ∧ Below w.heap.size w (x.alloc (.cells #[v, u] t)) :=
  ⟨by simp [World.cell?_alloc_new], by simp [World.cell?_alloc_new], by simp, K.alloc K.size _⟩
theorem set2w {W y : World} {g : Nat} {a b v u : Value} (K : Below W.heap.size W y) (hg : W.heap.size ≤ g) (h0 : y.cell? ⟨g, 0, none⟩ = some a) (h1 : y.cell? ⟨g, 1, none⟩ = some b) (hz : g < y.heap.size) :
    ((y.setCell ⟨g, 0, none⟩ v).setCell ⟨g, 1, none⟩ u).cell? ⟨g, 0, none⟩ = some v ∧ ((y.setCell ⟨g, 0, none⟩ v).setCell ⟨g, 1, none⟩ u).cell? ⟨g, 1, none⟩ = some u ∧ g < ((y.setCell ⟨g, 0, none⟩ v).setCell ⟨g, 1, none⟩ u).heap.size ∧
      Below W.heap.size W ((y.setCell ⟨g, 0, none⟩ v).setCell ⟨g, 1, none⟩ u) := by
  have n01 : (⟨g, 0, none⟩ : Addr) ≠ ⟨g, 1, none⟩ := by simp
  have e1 : (y.setCell ⟨g, 0, none⟩ v).cell? ⟨g, 1, none⟩ = some b := (World.cell?_setCell_other y _ _ v n01).trans h1
  refine ⟨?_, ?_, by simp [World.setCell]; omega, (K.setCell (by dsimp only; omega) _).setCell (by dsimp only; omega) _⟩
  · rw [World.cell?_setCell_other _ _ _ u n01.symm]
    exact World.cell?_setCell_same y _ v h0
  · exact World.cell?_setCell_same _ _ u e1
end Go.Proofs.Ytdkppkdoconfhaa
namespace Go.Proofs.Ytdkppkdoconfhaa
open Go.ChangeShapes Go.WideShapes Go.ChangeAt Go.RowKit
set_option linter.unusedVariables false

/-- Bits taken from below: what is left is x. -/
def L.FromI (U : Nat) (bs : List Nat) (x : Nat) : Prop := L.Bits bs ∧ L.nat bs + 2 ^ bs.length * x = U
theorem L.from_step {U x : Nat} {bs : List Nat} (h : L.FromI U bs x) : L.FromI U (bs ++ [x % 2]) (x / 2) := by
  obtain ⟨h1, h2⟩ := h
  refine ⟨h1.snoc (Nat.mod_lt _ (by omega)), ?_⟩
  rw [L.nat_snoc, List.length_append, List.length_singleton, Nat.pow_succ, ← h2]
  have : 2 ^ bs.length * x = 2 ^ bs.length * (x % 2) + 2 ^ bs.length * 2 * (x / 2) := by
    rw [Nat.mul_assoc, ← Nat.mul_add]; congr 1; omega
  omega
theorem made_list (n : Nat) : (madeCells (Value.int .u8 0).cells (n * 1)).toList = cells (List.replicate n 0) := by
  apply List.ext_getElem
  · simp [madeCells, cells]
  · intro i h1 h2
    simp [madeCells, cells, Value.cells, Nat.mod_one]
theorem L.nat_rep : ∀ n, L.nat (List.replicate n 0) = 0
  | 0 => rfl
  | n + 1 => by rw [List.replicate_succ]; show 0 + 2 * L.nat _ = 0; rw [L.nat_rep n]
theorem L.bits_rep (n : Nat) : L.Bits (List.replicate n 0) := by intro b hb; rw [List.mem_replicate] at hb; omega
/-- make([]byte, n). -/
theorem make_run (n : Nat) (hn : n ≤ 100000) : ∃ ZR : Array Value, ZR.toList = cells (List.replicate n 0) ∧ ∀ w : World, (Instr.makeSlice 110 (.int .i64 (n : Int)) (.int .i64 (n : Int))).run Try.prog w = .ok (.slice (some ⟨w.heap.size, 0, none⟩) n n) (w.alloc (.cells ZR 5)) := by
  obtain ⟨i0, hi0, hz0, hz1, hz2⟩ := info_parts u8_info
  refine ⟨_, made_list n, fun w => ?_⟩
  have := run_make (P := Try.prog) w 110 5 i0 (.int .u8 0) Try.underlying110 hi0 hz0 .i64 .i64 (n : Int) (n : Int) (by omega) (by omega) (by rw [hz2]; omega) (by omega)
  rw [Int.toNat_natCast, hz1] at this
  exact this
theorem make_own {x : World} {ZR : Array Value} {n base : Nat} (h : ZR.toList = cells (List.replicate n 0)) (hn : n ≤ 100000) (hb : base ≤ x.heap.size) : (x.alloc (.cells ZR 5)).ownsRow base 5 1 (.slice (some ⟨x.heap.size, 0, none⟩) n n) n (cells (List.replicate n 0)) := by
  have hs : ZR.size = n := by rw [← Array.length_toList, h]; simp [cells]
  refine ⟨by simp [cells], .inr ⟨x.heap.size, n, ZR, rfl, hb, heap_alloc_new x _, Nat.le_refl _, by simp only [maxLen]; omega, by omega, ?_⟩⟩
  rw [h, List.take_of_length_le (by simp [cells])]
set_option maxRecDepth 100000 in
set_option maxHeartbeats 2000000 in
theorem from_bits (h l : Int) (b : M.B h l) (w : World) :
    Calls Try.prog 77 #[.agg #[.int .i64 h, .int .u64 l]] w (RetNum w (M.val h l)) := by
  obtain ⟨i0, hi0, hz0, hz1, hz2⟩ := info_parts u8_info
  obtain ⟨h1, h2, h3, h4⟩ := b
  obtain ⟨lo, rfl⟩ := Int.eq_ofNat_of_zero_le h3
  obtain ⟨hi, hhi⟩ : ∃ hi : Nat, IntKind.u64.wrap h = (hi : Int) := ⟨(h % 18446744073709551616).toNat, by rw [IntKind.wrap_u64]; omega⟩
  have ehi : h % 18446744073709551616 = (hi : Int) := by rw [← hhi, IntKind.wrap_u64]
  have EHI := Lib.hid ehi
  have hi2 : hi < 18446744073709551616 := by omega
  have lo2 : lo < 18446744073709551616 := by omega
  clear ehi
  go_enter Try.func77, Try.ntmps77
  go_wp2
  go_quiet (fail)
  go_wp2
  have K0 : Below w.heap.size w (((w.alloc (.cells #[.int .i64 h, .int .u64 (lo : Int)] 80)).alloc (.cells #[.bool false, .slice none 0 0] 112)).drewN nq) := bdrewN (((Below.refl _ w).alloc (Nat.le_refl _) _).alloc (by simp) _) nq
  have c0 : (((w.alloc (.cells #[.int .i64 h, .int .u64 (lo : Int)] 80)).alloc (.cells #[.bool false, .slice none 0 0] 112)).drewN nq).cell? ⟨w.heap.size, 0, none⟩ = some (.int .i64 h) := by
    show ((w.alloc (.cells #[.int .i64 h, .int .u64 (lo : Int)] 80)).alloc (.cells #[.bool false, .slice none 0 0] 112)).cell? _ = _
    rw [World.cell?_alloc_lt _ _ _ (by simp)]; simp [World.cell?_alloc_new]
  have c1 : (((w.alloc (.cells #[.int .i64 h, .int .u64 (lo : Int)] 80)).alloc (.cells #[.bool false, .slice none 0 0] 112)).drewN nq).cell? ⟨w.heap.size + 1, 0, none⟩ = some (.bool false) := by show ((w.alloc (.cells #[.int .i64 h, .int .u64 (lo : Int)] 80)).alloc (.cells #[.bool false, .slice none 0 0] 112)).cell? _ = _; simp
  have c2 : (((w.alloc (.cells #[.int .i64 h, .int .u64 (lo : Int)] 80)).alloc (.cells #[.bool false, .slice none 0 0] 112)).drewN nq).cell? ⟨w.heap.size + 1, 1, none⟩ = some (.slice none 0 0) := by show ((w.alloc (.cells #[.int .i64 h, .int .u64 (lo : Int)] 80)).alloc (.cells #[.bool false, .slice none 0 0] 112)).cell? _ = _; simp
  have f1 : (((w.alloc (.cells #[.int .i64 h, .int .u64 (lo : Int)] 80)).alloc (.cells #[.bool false, .slice none 0 0] 112)).drewN nq).frozen? ⟨w.heap.size + 1, 0, none⟩ = false := World.frozen?_alloc2_new _ _ _ _
  have f2 : (((w.alloc (.cells #[.int .i64 h, .int .u64 (lo : Int)] 80)).alloc (.cells #[.bool false, .slice none 0 0] 112)).drewN nq).frozen? ⟨w.heap.size + 1, 1, none⟩ = false := World.frozen?_alloc2_new _ _ _ _
  have hs : w.heap.size + 1 < (((w.alloc (.cells #[.int .i64 h, .int .u64 (lo : Int)] 80)).alloc (.cells #[.bool false, .slice none 0 0] 112)).drewN nq).heap.size := by simp
  generalize ((w.alloc (.cells #[.int .i64 h, .int .u64 (lo : Int)] 80)).alloc (.cells #[.bool false, .slice none 0 0] 112)).drewN nq = W1 at *
  have hi0' := Lib.hid hi0
  go_loopw [3, 4, 6] (fun v x i wr => ∃ (bs : List Nat) (y : Nat), i = .int .i64 (bs.length : Nat) ∧ x = .int .u64 (y : Nat) ∧ bs.length ≤ 64 ∧ y < 18446744073709551616 ∧ Hid (L.FromI lo bs y) ∧ wr.ownsRow W1.heap.size 5 1 v bs.length (cells bs) ∧ Below W1.heap.size W1 wr) (fun _ _ i _ => 64 - (intOf i).toNat)
  case atStart => exact ⟨[], lo, rfl, rfl, by simp, lo2, Lib.hid ⟨L.Bits.nil, by simp [L.nat]⟩, ⟨rfl, .inl ⟨rfl, rfl⟩⟩, Below.refl _ _⟩
  case round =>
    obtain ⟨bs, y, rfl, rfl, hbs, hy, hI, hown, hB⟩ := hrel
    have hz := hB.size
    by_cases k : bs.length < 64
    · have N := Lib.hid (L.from_step hI.out)
      obtain ⟨p, hp⟩ : ∃ p, y % 2 = p := ⟨_, rfl⟩
      obtain ⟨q, hq⟩ : ∃ q, y / 2 = q := ⟨_, rfl⟩
      rw [hp, hq] at N
      have hp2 : p < 2 := by omega
      have hq2 : q < 18446744073709551616 := by omega
      have hp' : (y : Int) % 2 = (p : Int) := by omega
      have hq' : (y : Int) / 2 = (q : Int) := by omega
      have kk : (bs.length : Int) < 64 := by omega
      clear hp hq
      go_wp2_with (at_builtin; refine wpList_append_own _ rfl _ _ 110 rfl W1.heap.size 5 i0 (.int .u8 0) 1 1 Try.underlying110 hi0 hz0 hz1 hz2 rfl (by decide) _ _ _ rfl (hown.alloc _) ⟨wr.heap.size, 0, none⟩ 1 1 [.int .u8 (p : Int)] rfl rfl new_one (by simp [Value.oneCell']) (by simp only [maxLen]; omega) (by omega) (by simp; omega) ?_; intro v' w1 hown1 hgrow _)
      exact ⟨⟨bs ++ [p], q, vint (by simp), by first | rfl | exact vint hq', by simp; omega, hq2, N, by rw [cells_snoc, List.length_append]; exact hown1, (hB.alloc hz _).grown hgrow (by simp; omega) (fun k hk => own_ge hown k hk)⟩, by simp [intOf]; omega⟩
    · have kk : ¬ (bs.length : Int) < 64 := by omega
      have e64 : bs.length = 64 := by omega
      have hlo : L.nat bs = lo := by
        have := hI.out.2
        rw [e64] at this
        have h5 := L.nat_lt hI.out.1
        rw [e64] at h5
        omega
      have BS := Lib.hid (show L.Bits bs ∧ L.nat bs = lo ∧ bs.length = 64 from ⟨hI.out.1, hlo, e64⟩)
      clear hI hy hlo e64 hbs
      obtain ⟨U, hU0⟩ : ∃ U, lo + 18446744073709551616 * hi = U := ⟨_, rfl⟩
      have HU := Lib.hid hU0
      clear hU0
      go_wp2
      clear kk
      go_loopw [3, 5, 7] (fun v x i wr => ∃ (cs : List Nat) (k y : Nat), i = .int .i64 (k : Nat) ∧ x = .int .u64 (y : Nat) ∧ k ≤ 64 ∧ cs.length = 64 + k ∧ y < 18446744073709551616 ∧ Hid (L.FromI U cs y) ∧ wr.ownsRow W1.heap.size 5 1 v cs.length (cells cs) ∧ Below W1.heap.size W1 wr) (fun _ _ i _ => 64 - (intOf i).toNat)
      case atStart => exact ⟨bs, 0, hi, rfl, rfl, by omega, BS.out.2.2, hi2, Lib.hid ⟨BS.out.1, by rw [BS.out.2.1, BS.out.2.2, ← HU.out]⟩, hown, hB⟩
      case round =>
        clear hown hB hz
        obtain ⟨cs, k, y, rfl, rfl, hk, hcs, hy, hI, hown, hB⟩ := hrel
        have hz := hB.size
        have HCS := Lib.hid hcs
        have hcl : cs.length ≤ 128 := by omega
        clear hcs
        by_cases k6 : k < 64
        · have N := Lib.hid (L.from_step hI.out)
          obtain ⟨p, hp⟩ : ∃ p, y % 2 = p := ⟨_, rfl⟩
          obtain ⟨q, hq⟩ : ∃ q, y / 2 = q := ⟨_, rfl⟩
          rw [hp, hq] at N
          have hp2 : p < 2 := by omega
          have hq2 : q < 18446744073709551616 := by omega
          have hp' : (y : Int) % 2 = (p : Int) := by omega
          have hq' : (y : Int) / 2 = (q : Int) := by omega
          have kk : (k : Int) < 64 := by omega
          clear hp hq
          go_wp2_with (at_builtin; refine wpList_append_own _ rfl _ _ 110 rfl W1.heap.size 5 i0 (.int .u8 0) 1 1 Try.underlying110 hi0 hz0 hz1 hz2 rfl (by decide) _ _ _ rfl (hown.alloc _) ⟨wr.heap.size, 0, none⟩ 1 1 [.int .u8 (p : Int)] rfl rfl new_one (by simp [Value.oneCell']) (by simp only [maxLen]; omega) (by omega) (by simp; omega) ?_; intro v' w1 hown1 hgrow _)
          exact ⟨⟨cs ++ [p], k + 1, q, vint (by simp), by first | rfl | exact vint hq', by omega, by rw [List.length_append, HCS.out]; simp; omega, hq2, N, by rw [cells_snoc, List.length_append]; exact hown1, (hB.alloc hz _).grown hgrow (by simp; omega) (fun k hk => own_ge hown k hk)⟩, by simp [intOf]; omega⟩
        · have kk : ¬ (k : Int) < 64 := by omega
          have e128 : cs.length = 128 := by rw [HCS.out]; omega
          have hU : L.nat cs = lo + 18446744073709551616 * hi := by
            have hu := HU.out
            have := hI.out.2
            rw [e128] at this
            have h5 := L.nat_lt hI.out.1
            rw [e128] at h5
            omega
          have CS := Lib.hid (show L.Bits cs ∧ L.nat cs = lo + 18446744073709551616 * hi ∧ cs.length = 128 from ⟨hI.out.1, hU, e128⟩)
          obtain ⟨A, c, rfl, hr⟩ : ∃ A c, u3 = .slice A cs.length c ∧ Reads wr wr.heap.size 1 A cs.length (cells cs) := by
            rcases hown.2 with ⟨rfl, hn⟩ | ⟨g, cap, cur, rfl, _⟩
            · omega
            · exact ⟨some ⟨g, 0, none⟩, cap, rfl, Reads.of_own hown⟩
          have d0 := (hB.cell (p := ⟨w.heap.size, 0, none⟩) (by dsimp only; omega)).trans c0
          have d1 := (hB.cell (p := ⟨w.heap.size + 1, 0, none⟩) hs).trans c1
          have d2 := (hB.cell (p := ⟨w.heap.size + 1, 1, none⟩) hs).trans c2
          have g1 := (hB.frozen (p := ⟨w.heap.size + 1, 0, none⟩) hs).trans f1
          have g2 := (hB.frozen (p := ⟨w.heap.size + 1, 1, none⟩) hs).trans f2
          have K := K0.trans (hB.mono K0.size)
          have hs' : w.heap.size + 1 < wr.heap.size := by omega
          clear hI hU e128 hown hB hcl c0 c1 c2 f1 f2 hs K0 hz
          by_cases n : 0 ≤ h
          · have hV : M.sg false (L.nat cs : Int) = M.val h lo := by
              have := EHI.out; rw [CS.out.2.1]; unfold M.val; simp [M.sg]; omega
            have ct := trim_any false A c cs wr hr CS.out.1 (by have := CS.out.2.2; omega)
            rw [hV] at ct
            clear hV
            go_wp2_with fail
            refine ct.mono ?_
            rintro e w5 ⟨A', c', l', rfl, hr', hC, hz', hA, hb⟩
            have E := Lib.hid (end_num (w := w) (R := w.heap.size + 1) (c := c') hr' hC hz' (fun ad e => by have := hA ad e; omega) (by omega) (K.trans (hb.mono K.size)))
            have q1 := (hb.cell (p := ⟨w.heap.size + 1, 0, none⟩) hs').trans d1
            have q2 := (hb.cell (p := ⟨w.heap.size + 1, 1, none⟩) hs').trans d2
            have q3 := (hb.frozen (p := ⟨w.heap.size + 1, 0, none⟩) hs').trans g1
            have q4 := (hb.frozen (p := ⟨w.heap.size + 1, 1, none⟩) hs').trans g2
            clear hA hz' hC hr' hb d0 d1 d2 g1 g2
            go_wp2_with fail
            exact bodyPost_ret (v := .agg #[.bool (decide (M.val h lo < 0)), .slice A' l'.length c']) (by simp [results, Try.results77, go_sem, q1, q2]) rfl E.out
          · have hn : decide (0 ≤ h) = false := decide_eq_false n
            have HN := Lib.hid (show h < 0 ∧ -9223372036854775808 ≤ h from ⟨by omega, h1⟩)
            clear n hhi h1 h2
            obtain ⟨ZR, hZR, hmk⟩ := make_run 128 (by omega)
            have hmk' : ∀ w : World, (Instr.makeSlice 110 (.int .i64 128) (.int .i64 128)).run Try.prog w = .ok (.slice (some ⟨w.heap.size, 0, none⟩) 128 128) (w.alloc (.cells ZR 5)) := hmk
            clear hmk
            have LZ := Lib.hid (show L.Bits (List.replicate 128 0) ∧ L.nat (List.replicate 128 0) = 0 ∧ (List.replicate 128 0).length = 128 from ⟨L.bits_rep _, L.nat_rep _, by simp⟩)
            have ho := make_own (x := wr) (base := wr.heap.size) hZR (by omega) (Nat.le_refl _)
            have ho2 := ho.alloc (.cells #[.int .u8 1] 5)
            have kB : Below wr.heap.size wr ((wr.alloc (.cells ZR 5)).alloc (.cells #[.int .u8 1] 5)) := ((Below.refl _ wr).alloc (Nat.le_refl _) _).alloc (by simp) _
            clear ho hZR
            generalize List.replicate 128 0 = Z0 at *
            go_wp2_with (at_builtin; go_must (refine wpList_append_own _ rfl _ _ 110 rfl wr.heap.size 5 i0 (.int .u8 0) 1 1 Try.underlying110 hi0'.out hz0 hz1 hz2 rfl (by decide) _ 128 _ rfl ho2 ⟨wr.heap.size + 1, 0, none⟩ 1 1 [.int .u8 1] rfl rfl (by have := new_one (w := wr.alloc (.cells ZR 5)) (x := .int .u8 1) (t := 5); simpa using this) (by simp [Value.oneCell']) (by simp only [maxLen]; omega) (by omega) (by simp; omega) ?_); intro v' w6 hown1 hgrow _)
            have kB2 : Below wr.heap.size wr w6 := kB.grown hgrow (by first | (simp; done) | (simp; omega)) (own_ge ho2)
            have hl129 : (Z0 ++ [1]).length = 128 + 1 := by rw [List.length_append, LZ.out.2.2]; rfl
            obtain ⟨A', c', rfl, hr'⟩ : ∃ A' c', v' = .slice A' (Z0 ++ [1]).length c' ∧ Reads w6 w6.heap.size 1 A' (Z0 ++ [1]).length (cells (Z0 ++ [1])) := by
              rw [hl129, cells_snoc]
              rcases hown1.2 with ⟨rfl, hn⟩ | ⟨g, cap, cur, rfl, _⟩
              · omega
              · exact ⟨some ⟨g, 0, none⟩, cap, rfl, Reads.of_own hown1⟩
            have hZ1 : L.nat (Z0 ++ [1]) = 340282366920938463463374607431768211456 := by rw [L.nat_snoc, LZ.out.2.1, LZ.out.2.2]
            have hU2 : L.nat cs < 340282366920938463463374607431768211456 := by have := L.nat_lt CS.out.1; rw [CS.out.2.2] at this; exact this
            have cl := (less_any A' A c' c (Z0 ++ [1]) cs w6 hr' (hr.up kB2) (LZ.out.1.snoc (by omega)) CS.out.1 (by omega) (by have := CS.out.2.2; omega) (by omega)).mono fun _ _ h => sl_of h
            have hV : ∀ l2 : List Nat, L.nat l2 = L.nat (Z0 ++ [1]) - L.nat cs → M.sg true (L.nat l2 : Int) = M.val h lo := by
              intro l2 e
              rw [e, hZ1, CS.out.2.1]
              have := EHI.out
              have := HN.out.1
              have := HN.out.2
              have := CS.out.2.1
              rw [Int.ofNat_sub (by omega)]
              unfold M.val M.sg
              simp
              omega
            have HVV := Lib.hid hV
            have HL := Lib.hid hl129
            clear hV hZ1 hU2 hown1 hgrow ho2 kB hr' hmk' hl129
            have K2 := K.trans (kB2.mono K.size)
            have d1' := (kB2.cell (p := ⟨w.heap.size + 1, 0, none⟩) hs').trans d1
            have d2' := (kB2.cell (p := ⟨w.heap.size + 1, 1, none⟩) hs').trans d2
            have g1' := (kB2.frozen (p := ⟨w.heap.size + 1, 0, none⟩) hs').trans g1
            have g2' := (kB2.frozen (p := ⟨w.heap.size + 1, 1, none⟩) hs').trans g2
            have hs6 : w.heap.size + 1 < w6.heap.size := Nat.lt_of_lt_of_le hs' kB2.size
            clear kB2 d0 d1 d2 g1 g2
            refine cl.mono ?_
            rintro e w7 ⟨A2, c2, l2, rfl, hr2, ⟨p1, p2, p3⟩, hb7⟩
            have ct := trim_any true A2 c2 l2 w7 hr2 p1 (by rw [p3]; have := HL.out; omega)
            rw [HVV.out l2 p2] at ct
            have K3 := K2.trans (hb7.mono K2.size)
            have d1'' := (hb7.cell (p := ⟨w.heap.size + 1, 0, none⟩) hs6).trans d1'
            have d2'' := (hb7.cell (p := ⟨w.heap.size + 1, 1, none⟩) hs6).trans d2'
            have g1'' := (hb7.frozen (p := ⟨w.heap.size + 1, 0, none⟩) hs6).trans g1'
            have g2'' := (hb7.frozen (p := ⟨w.heap.size + 1, 1, none⟩) hs6).trans g2'
            have hs7 : w.heap.size + 1 < w7.heap.size := Nat.lt_of_lt_of_le hs6 hb7.size
            clear d1' d2' g1' g2' hb7 K2 p2 p3 cl
            go_wp2_with fail
            refine ct.mono ?_
            rintro e w8 ⟨A3, c3, l3, rfl, hr3, hC3, hz3, hA3, hb8⟩
            have E := Lib.hid (end_num (w := w) (R := w.heap.size + 1) (c := c3) hr3 hC3 hz3 (fun ad e => by have := hA3 ad e; omega) (by omega) (K3.trans (hb8.mono K3.size)))
            have q1 := (hb8.cell (p := ⟨w.heap.size + 1, 0, none⟩) hs7).trans d1''
            have q2 := (hb8.cell (p := ⟨w.heap.size + 1, 1, none⟩) hs7).trans d2''
            have q3 := (hb8.frozen (p := ⟨w.heap.size + 1, 0, none⟩) hs7).trans g1''
            have q4 := (hb8.frozen (p := ⟨w.heap.size + 1, 1, none⟩) hs7).trans g2''
            clear hA3 hz3 hC3 hr3 hb8 d1'' d2'' g1'' g2''
            go_wp2_with fail
            exact bodyPost_ret (v := .agg #[.bool (decide (M.val h lo < 0)), .slice A3 l3.length c3]) (by simp [results, Try.results77, go_sem, q1, q2]) rfl E.out
end Go.Proofs.Ytdkppkdoconfhaa
namespace Go.Proofs.Ytdkppkdoconfhaa
open Go.ChangeShapes Go.WideShapes Go.ChangeAt Go.RowKit
set_option linter.unusedVariables false

theorem num_any (n : Int) (h1 : -9223372036854775808 ≤ n) (h2 : n < 9223372036854775808) (w : World) : Calls Try.prog 87 #[.int .i64 n] w (RetNum w n) := by
  have cO := rof_any n h1 h2
  have cF := fun w => from_bits (M.oh n) (M.ol n) (M.b_of n) w
  rw [M.val_of (v := n) (by rw [M.ok_iff]; omega)] at cF
  clear h1 h2
  go_enter Try.func87, Try.ntmps87
  go_wp2_with fail
  refine (cO _).mono ?_; rintro e w1 ⟨rfl, hb⟩
  have d0 := (hb.cell (p := ⟨w.heap.size, 0, none⟩) (by simp)).trans (by simp : (w.alloc (.cells #[.bool false, .slice none 0 0] 112)).cell? ⟨w.heap.size, 0, none⟩ = some (.bool false))
  have d1 := (hb.cell (p := ⟨w.heap.size, 1, none⟩) (by simp)).trans (by simp : (w.alloc (.cells #[.bool false, .slice none 0 0] 112)).cell? ⟨w.heap.size, 1, none⟩ = some (.slice none 0 0))
  have g0 := (hb.frozen (p := ⟨w.heap.size, 0, none⟩) (by simp)).trans (World.frozen?_alloc_new w _ 112 0)
  have g1 := (hb.frozen (p := ⟨w.heap.size, 1, none⟩) (by simp)).trans (World.frozen?_alloc_new w _ 112 1)
  have K := ((Below.refl _ w).alloc (Nat.le_refl _) _).trans (hb.mono (show w.heap.size ≤ _ by simp))
  have hs : w.heap.size < w1.heap.size := by have := hb.size; simp at this; omega
  clear hb
  go_wp2_with fail
  refine (cF _).mono ?_
  rintro e w2 ⟨A, c, l, rfl, hr, hC, hz, hA, hb⟩
  have E := Lib.hid (end_num (w := w) (R := w.heap.size) (c := c) hr hC hz (fun ad e => by have := hA ad e; omega) (Nat.le_refl _) (K.trans (hb.mono K.size)))
  have q0 := (hb.cell (p := ⟨w.heap.size, 0, none⟩) hs).trans d0
  have q1 := (hb.cell (p := ⟨w.heap.size, 1, none⟩) hs).trans d1
  have q2 := (hb.frozen (p := ⟨w.heap.size, 0, none⟩) hs).trans g0
  have q3 := (hb.frozen (p := ⟨w.heap.size, 1, none⟩) hs).trans g1
  clear hb d0 d1 g0 g1 hA hz hC hr
  go_wp2_with fail
  exact bodyPost_ret (v := .agg #[.bool (decide (n < 0)), .slice A l.length c]) (by simp [results, Try.results87, go_sem, q0, q1]) rfl E.out
/-- What To has read of the bits from j on. -/
theorem L.to_step {b : List Nat} {j k : Nat} (hb : L.Bits b) : L.nat (b.drop j) % 2 ^ (k + 1) = L.nat (b.drop (j + 1)) % 2 ^ k * 2 + L.bit b j := by
  rw [L.nat_drop b j, Nat.pow_succ]
  have h := L.bit_lt hb j
  generalize L.nat (b.drop (j + 1)) = x
  have e1 := Nat.div_add_mod x (2 ^ k)
  have e2 := Nat.mod_lt x (Nat.two_pow_pos k)
  have e : L.bit b j + 2 * x = (x % 2 ^ k * 2 + L.bit b j) + 2 ^ k * 2 * (x / 2 ^ k) := by
    have : 2 ^ k * 2 * (x / 2 ^ k) = 2 * (2 ^ k * (x / 2 ^ k)) := by rw [Nat.mul_comm (2 ^ k) 2, Nat.mul_assoc]
    omega
  rw [e, Nat.add_mul_mod_self_left, Nat.mod_eq_of_lt (by omega)]
theorem L.to_end {b : List Nat} (hb : L.Bits b) : L.nat (b.drop 64) % 18446744073709551616 = L.nat b / 18446744073709551616 % 18446744073709551616 := by
  have h := L.nat_take b 64
  have l := L.nat_lt (hb.take 64)
  by_cases k : 64 ≤ b.length
  · rw [List.length_take, show min 64 b.length = 64 by omega] at l
    rw [show min 64 b.length = 64 by omega] at h
    omega
  · rw [L.nat_drop_out (by omega)] at h ⊢
    rw [List.length_take] at l
    have := Nat.pow_le_pow_right (n := 2) (by omega) (show min 64 b.length ≤ 64 by omega)
    omega
theorem L.bit127 {b : List Nat} (hb : L.Bits b) (hl : b.length = 129) (hT : L.nat b < 340282366920938463463374607431768211456) : (L.bit b 127 = 0 → L.nat b < 170141183460469231731687303715884105728) ∧ (L.bit b 127 = 1 → 170141183460469231731687303715884105728 ≤ L.nat b) := by
  have h := L.nat_take b 127
  have l := L.nat_lt (hb.take 127)
  rw [List.length_take, hl, show min 127 129 = 127 by omega] at l
  rw [hl, show min 127 129 = 127 by omega, L.nat_drop] at h
  have e : (2 : Nat) ^ 127 = 170141183460469231731687303715884105728 := by decide
  rw [e] at h l
  constructor <;> intro g <;> rw [g] at h <;> omega
theorem M.to_fin {z : Int} {T : Nat} (o : M.ok z = true) (hT : T < 340282366920938463463374607431768211456) (h : (T : Int) = z ∨ (T : Int) = z + 340282366920938463463374607431768211456) (x y : Nat) (hx : x = T % 18446744073709551616) (hy : y = T / 18446744073709551616 % 18446744073709551616) :
    M.oh z = M.w64 (y : Int) ∧ M.ol z = (x : Int) := by
  rw [M.ok_iff] at o
  refine M.ohl_of (by unfold M.B M.w64; omega) ?_
  unfold M.val M.w64
  omega
set_option maxRecDepth 100000 in
set_option maxHeartbeats 2000000 in
theorem to_any (z : Int) (A : Option Addr) (c : Nat) (l : List Nat) (w : World) (h : Reads w w.heap.size 1 A l.length (cells l)) (hC : L.Can l) (hz : L.nat l = z.natAbs) (hn : l.length ≤ 900) :
    Calls Try.prog 82 #[.agg #[.bool (decide (z < 0)), .slice A l.length c]] w fun e w' => e = .returned (.tuple #[.agg #[.int .i64 (M.oh z), .int .u64 (M.ol z)], .bool (M.ok z)]) ∧ Below w.heap.size w w' := by
  have kW : Below w.heap.size w ((w.alloc (.cells #[.bool (decide (z < 0)), .slice A l.length c] 112)).alloc (.cells #[.int .i64 0, .int .u64 0] 80)) := ((Below.refl _ w).alloc (Nat.le_refl _) _).alloc (by simp) _
  have hr := h.up kW
  by_cases n : z < 0
  · have nd : decide (z < 0) = true := decide_eq_true n
    rw [nd] at hr kW ⊢
    have npos : 0 < L.nat l := by omega
    by_cases big : 128 < l.length
    · have o : M.ok z = false := by
        rw [Bool.eq_false_iff]; intro o; rw [M.ok_iff] at o
        have := L.can_ge hC (by intro e; rw [e] at big; simp at big)
        have := Nat.pow_le_pow_right (n := 2) (by omega) (show 128 ≤ l.length - 1 by omega)
        omega
      have E := Lib.hid (M.no_of o)
      have O := Lib.hid o
      have bi : (128 : Int) < (l.length : Int) := by omega
      clear o hz hC h hr kW nd n big npos
      go_enter Try.func82, Try.ntmps82
      go_wp2
      exact bodyPost_ret (v := .tuple #[.agg #[.int .i64 0, .int .u64 0], .bool false]) (by simp [results, Try.results82, go_sem]) rfl ⟨retpb E.out.1.symm E.out.2.symm O.out.symm, ((Below.refl _ w).alloc (Nat.le_refl _) _).alloc (by simp) _⟩
    · have lt128 : L.nat l < 340282366920938463463374607431768211456 := Nat.lt_of_lt_of_le (L.nat_lt hC.1) (Nat.pow_le_pow_right (n := 2) (by omega) (show l.length ≤ 128 by omega))
      have bi : ¬ (128 : Int) < (l.length : Int) := by omega
      obtain ⟨i0, hi0, hz0, hz1, hz2⟩ := info_parts u8_info
      have hi0' := Lib.hid hi0
      have d1 : ((w.alloc (.cells #[.bool true, .slice A l.length c] 112)).alloc (.cells #[.int .i64 0, .int .u64 0] 80)).cell? ⟨w.heap.size + 1, 0, none⟩ = some (.int .i64 0) := by simp
      have d2 : ((w.alloc (.cells #[.bool true, .slice A l.length c] 112)).alloc (.cells #[.int .i64 0, .int .u64 0] 80)).cell? ⟨w.heap.size + 1, 1, none⟩ = some (.int .u64 0) := by simp
      have g1 : ((w.alloc (.cells #[.bool true, .slice A l.length c] 112)).alloc (.cells #[.int .i64 0, .int .u64 0] 80)).frozen? ⟨w.heap.size + 1, 0, none⟩ = false := World.frozen?_alloc2_new _ _ _ _
      have g2 : ((w.alloc (.cells #[.bool true, .slice A l.length c] 112)).alloc (.cells #[.int .i64 0, .int .u64 0] 80)).frozen? ⟨w.heap.size + 1, 1, none⟩ = false := World.frozen?_alloc2_new _ _ _ _
      have hs' : w.heap.size + 1 < ((w.alloc (.cells #[.bool true, .slice A l.length c] 112)).alloc (.cells #[.int .i64 0, .int .u64 0] 80)).heap.size := by simp
      have HZ := Lib.hid (show L.nat l = z.natAbs ∧ z < 0 ∧ 0 < L.nat l ∧ L.nat l < 340282366920938463463374607431768211456 from ⟨hz, n, npos, lt128⟩)
      have xl := hC.1
      have hl900 : l.length ≤ 128 := by omega
      clear hz n npos lt128 big nd h hC
      go_enter Try.func82, Try.ntmps82
      go_upto_region 5 with fail
      generalize (w.alloc (.cells #[.bool true, .slice A l.length c] 112)).alloc (.cells #[.int .i64 0, .int .u64 0] 80) = wr at *
      clear bi
      obtain ⟨ZR, hZR, hmk⟩ := make_run 128 (by omega)
      have hmk' : ∀ w : World, (Instr.makeSlice 110 (.int .i64 128) (.int .i64 128)).run Try.prog w = .ok (.slice (some ⟨w.heap.size, 0, none⟩) 128 128) (w.alloc (.cells ZR 5)) := hmk
      clear hmk
      have LZ := Lib.hid (show L.Bits (List.replicate 128 0) ∧ L.nat (List.replicate 128 0) = 0 ∧ (List.replicate 128 0).length = 128 from ⟨L.bits_rep _, L.nat_rep _, by simp⟩)
      have ho := make_own (x := wr) (base := wr.heap.size) hZR (by omega) (Nat.le_refl _)
      have ho2 := ho.alloc (.cells #[.int .u8 1] 5)
      have kB : Below wr.heap.size wr ((wr.alloc (.cells ZR 5)).alloc (.cells #[.int .u8 1] 5)) := ((Below.refl _ wr).alloc (Nat.le_refl _) _).alloc (by simp) _
      clear ho hZR
      generalize List.replicate 128 0 = Z0 at *
      go_wp2_with (at_builtin; go_must (refine wpList_append_own _ rfl _ _ 110 rfl wr.heap.size 5 i0 (.int .u8 0) 1 1 Try.underlying110 hi0'.out hz0 hz1 hz2 rfl (by decide) _ 128 _ rfl ho2 ⟨wr.heap.size + 1, 0, none⟩ 1 1 [.int .u8 1] rfl rfl (by have := new_one (w := wr.alloc (.cells ZR 5)) (x := .int .u8 1) (t := 5); simpa using this) (by simp [Value.oneCell']) (by simp only [maxLen]; omega) (by omega) (by simp; omega) ?_); intro v' w6 hown1 hgrow _)
      have kB2 : Below wr.heap.size wr w6 := kB.grown hgrow (by first | (simp; done) | (simp; omega)) (own_ge ho2)
      have hl129 : (Z0 ++ [1]).length = 128 + 1 := by rw [List.length_append, LZ.out.2.2]; rfl
      obtain ⟨A', c', rfl, hr'⟩ : ∃ A' c', v' = .slice A' (Z0 ++ [1]).length c' ∧ Reads w6 w6.heap.size 1 A' (Z0 ++ [1]).length (cells (Z0 ++ [1])) := by
        rw [hl129, cells_snoc]
        rcases hown1.2 with ⟨rfl, hn⟩ | ⟨g, cap, cur, rfl, _⟩
        · omega
        · exact ⟨some ⟨g, 0, none⟩, cap, rfl, Reads.of_own hown1⟩
      have hZ1 : L.nat (Z0 ++ [1]) = 340282366920938463463374607431768211456 := by rw [L.nat_snoc, LZ.out.2.1, LZ.out.2.2]
      have cl := (less_any A' A c' c (Z0 ++ [1]) l w6 hr' (hr.up kB2) (LZ.out.1.snoc (by omega)) xl (by omega) (by omega) (by have := HZ.out.2.2.2; omega)).mono fun _ _ h => sl_of h
      have hT : ∀ l2 : List Nat, L.nat l2 = L.nat (Z0 ++ [1]) - L.nat l → (L.nat l2 : Int) = z + 340282366920938463463374607431768211456 ∧ L.nat l2 < 340282366920938463463374607431768211456 := by
        intro l2 e
        have h1 := HZ.out
        rw [e, hZ1]
        omega
      have HT := Lib.hid hT
      have HL := Lib.hid hl129
      have K2 := kW.trans (kB2.mono kW.size)
      have d1' := (kB2.cell (p := ⟨w.heap.size + 1, 0, none⟩) hs').trans d1
      have d2' := (kB2.cell (p := ⟨w.heap.size + 1, 1, none⟩) hs').trans d2
      have g1' := (kB2.frozen (p := ⟨w.heap.size + 1, 0, none⟩) hs').trans g1
      have g2' := (kB2.frozen (p := ⟨w.heap.size + 1, 1, none⟩) hs').trans g2
      have hs6 : w.heap.size + 1 < w6.heap.size := Nat.lt_of_lt_of_le hs' kB2.size
      clear hT hZ1 hown1 hgrow ho2 kB hr' hmk' hl129 kB2 d1 d2 g1 g2 hr kW
      refine cl.mono ?_
      rintro e w7 ⟨A2, c2, l2, rfl, hr2, ⟨xb, p2, p3⟩, hb7⟩
      obtain ⟨T1, T2⟩ := HT.out l2 p2
      have l129 : l2.length = 129 := by rw [p3, HL.out]
      have K3 := K2.trans (hb7.mono K2.size)
      have d1'' := (hb7.cell (p := ⟨w.heap.size + 1, 0, none⟩) hs6).trans d1'
      have d2'' := (hb7.cell (p := ⟨w.heap.size + 1, 1, none⟩) hs6).trans d2'
      have g1'' := (hb7.frozen (p := ⟨w.heap.size + 1, 0, none⟩) hs6).trans g1'
      have g2'' := (hb7.frozen (p := ⟨w.heap.size + 1, 1, none⟩) hs6).trans g2'
      have hs7 : w.heap.size + 1 < w7.heap.size := Nat.lt_of_lt_of_le hs6 hb7.size
      have cb := bit_any A2 c2 l2 127 w7 w7.heap.size hr2 (by omega) (by omega)
      have hbit := L.bit127 xb l129 T2
      have hl9 : l2.length ≤ 1000 := by omega
      have hrr := hr2
      clear d1' d2' g1' g2' hb7 K2 p2 p3 cl hr2
      by_cases o : M.ok z = true
      · have b1 : L.bit l2 127 = 1 := by rw [M.ok_iff] at o; have := L.bit_lt xb 127; omega
        have O := Lib.hid o
        have FIN := Lib.hid (M.to_fin (T := L.nat l2) o T2 (Or.inr T1))
        rw [b1] at cb
        clear o T1 T2 hbit b1 l129
        go_wp2_with fail
        refine cb.mono ?_; rintro e w' ⟨rfl, rfl⟩
        go_wp2_with fail
        go_loop [5, 6, 7] (fun lo hi i => ∃ (j x y : Nat), i = .int .i64 ((j : Int) - 1) ∧ lo = .int .u64 (x : Nat) ∧ hi = .int .u64 (y : Nat) ∧ j ≤ 64 ∧ Hid (x = L.nat (l2.drop j) % 2 ^ (64 - j) ∧ y = L.nat (l2.drop (64 + j)) % 2 ^ (64 - j))) (fun _ _ i => (intOf i + 1).toNat)
        case atStart => exact ⟨64, 0, 0, rfl, rfl, rfl, Nat.le_refl _, Lib.hid ⟨by simp [Nat.mod_one], by simp [Nat.mod_one]⟩⟩
        case round =>
          obtain ⟨j, x, y, rfl, rfl, rfl, hj, hI⟩ := hrel
          rcases Nat.eq_zero_or_pos j with z0 | z0
          · subst z0
            have F := Lib.hid (FIN.out x y (by simpa using hI.out.1) (by have := hI.out.2; rw [Nat.sub_zero, Nat.add_zero] at this; rw [this]; exact L.to_end xb))
            clear hI
            go_wp2
            exact bodyPost_ret (v := .tuple #[.agg #[.int .i64 (wrap64 (y : Int)), .int .u64 (x : Int)], .bool true]) (by simp [results, Try.results82, go_sem, d1'', d2'']) rfl ⟨retpb (by rw [w64_is]; exact F.out.1.symm) F.out.2.symm O.out.symm, (K3.setCell (by dsimp only; omega) _).setCell (by dsimp only; omega) _⟩
          · obtain ⟨i, rfl⟩ : ∃ i, j = i + 1 := ⟨j - 1, by omega⟩
            have ei : (((i + 1 : Nat) : Int) - 1) = (i : Int) := by omega
            rw [ei]
            have cA := fun w' hw' => bit_any A2 c2 l2 i w' w'.heap.size hw' hl9 (by omega)
            have cB : ∀ w', Reads w' w'.heap.size 1 A2 l2.length (cells l2) → Calls Try.prog 91 #[.slice A2 l2.length c2, .int .i64 (64 + (i : Int))] w' fun e w'' => e = .returned (.int .u8 (L.bit l2 (64 + i))) ∧ w' = w'' := fun w' hw' => by
              have := bit_any A2 c2 l2 (64 + i) w' w'.heap.size hw' hl9 (by omega)
              rwa [Int.natCast_add] at this
            have p2 := L.bit_lt xb i
            have q2 := L.bit_lt xb (64 + i)
            have s1 := L.to_step (b := l2) (j := i) (k := 64 - (i + 1)) xb
            have s2 := L.to_step (b := l2) (j := 64 + i) (k := 64 - (i + 1)) xb
            rw [show 64 - (i + 1) + 1 = 64 - i by omega] at s1 s2
            rw [← hI.out.1] at s1
            rw [show 64 + i + 1 = 64 + (i + 1) by omega, ← hI.out.2] at s2
            have p63 : 2 ^ (64 - (i + 1)) ≤ 9223372036854775808 := by
              have := Nat.pow_le_pow_right (n := 2) (by omega) (show 64 - (i + 1) ≤ 63 by omega); omega
            have x63 : x < 9223372036854775808 := by rw [hI.out.1]; exact Nat.lt_of_lt_of_le (Nat.mod_lt _ (Nat.two_pow_pos _)) p63
            have y63 : y < 9223372036854775808 := by rw [hI.out.2]; exact Nat.lt_of_lt_of_le (Nat.mod_lt _ (Nat.two_pow_pos _)) p63
            generalize L.bit l2 i = p at *
            generalize L.bit l2 (64 + i) = q at *
            have NX := Lib.hid (show x * 2 + p = L.nat (l2.drop i) % 2 ^ (64 - i) ∧ y * 2 + q = L.nat (l2.drop (64 + i)) % 2 ^ (64 - i) from ⟨s1.symm, s2.symm⟩)
            have i0 : (0 : Int) ≤ (i : Int) := by omega
            have i1 : (i : Int) < 64 := by omega
            clear s1 s2 p63 hI
            go_wp2_with fail
            refine (cA _ hrr).mono ?_; rintro e w' ⟨rfl, rfl⟩
            go_wp2_with fail
            refine (cB _ hrr).mono ?_; rintro e w' ⟨rfl, rfl⟩
            go_wp2_with fail
            exact ⟨⟨i, x * 2 + p, y * 2 + q, rfl, vint (by simp), vint (by simp), by omega, NX⟩, by simp [intOf]⟩
      · have o := Bool.eq_false_iff.2 o
        have b0 : L.bit l2 127 = 0 := by have := M.ok_no o; have := HZ.out; have := L.bit_lt xb 127; omega
        have E := Lib.hid (M.no_of o)
        have O := Lib.hid o
        rw [b0] at cb
        clear o T1 T2 hbit b0 l129
        go_wp2_with fail
        refine cb.mono ?_; rintro e w' ⟨rfl, rfl⟩
        go_wp2_with fail
        exact bodyPost_ret (v := .tuple #[.agg #[.int .i64 0, .int .u64 0], .bool false]) (by simp [results, Try.results82, go_sem, d1'', d2'']) rfl ⟨retpb E.out.1.symm E.out.2.symm O.out.symm, (K3.setCell (by dsimp only; omega) _).setCell (by dsimp only; omega) _⟩
  · have nd : decide (z < 0) = false := decide_eq_false n
    rw [nd] at hr kW ⊢
    by_cases big : 127 < l.length
    · have o : M.ok z = false := by
        rw [Bool.eq_false_iff]; intro o; rw [M.ok_iff] at o
        have := L.can_ge hC (by intro e; rw [e] at big; simp at big)
        have := Nat.pow_le_pow_right (n := 2) (by omega) (show 127 ≤ l.length - 1 by omega)
        omega
      have E := Lib.hid (M.no_of o)
      have O := Lib.hid o
      have bi : (127 : Int) < (l.length : Int) := by omega
      clear o hz hC h hr kW nd n big
      go_enter Try.func82, Try.ntmps82
      go_wp2
      exact bodyPost_ret (v := .tuple #[.agg #[.int .i64 0, .int .u64 0], .bool false]) (by simp [results, Try.results82, go_sem]) rfl ⟨retpb E.out.1.symm E.out.2.symm O.out.symm, ((Below.refl _ w).alloc (Nat.le_refl _) _).alloc (by simp) _⟩
    · have lt127 : L.nat l < 2 ^ 127 := Nat.lt_of_lt_of_le (L.nat_lt hC.1) (Nat.pow_le_pow_right (by omega) (by omega))
      have o : M.ok z = true := by rw [M.ok_iff]; omega
      have O := Lib.hid o
      have bi : ¬ (127 : Int) < (l.length : Int) := by omega
      have FIN := Lib.hid (M.to_fin (T := L.nat l) o (by omega) (Or.inl (show (L.nat l : Int) = z by omega)))
      have xb := hC.1
      have hl9 : l.length ≤ 1000 := by omega
      have hrr := hr
      clear o hz hC h hr kW nd n big lt127
      go_enter Try.func82, Try.ntmps82
      go_wp2
      go_loop [5, 6, 7] (fun lo hi i => ∃ (j x y : Nat), i = .int .i64 ((j : Int) - 1) ∧ lo = .int .u64 (x : Nat) ∧ hi = .int .u64 (y : Nat) ∧ j ≤ 64 ∧ Hid (x = L.nat (l.drop j) % 2 ^ (64 - j) ∧ y = L.nat (l.drop (64 + j)) % 2 ^ (64 - j))) (fun _ _ i => (intOf i + 1).toNat)
      case atStart => exact ⟨64, 0, 0, rfl, rfl, rfl, Nat.le_refl _, Lib.hid ⟨by simp [Nat.mod_one], by simp [Nat.mod_one]⟩⟩
      case round =>
        obtain ⟨j, x, y, rfl, rfl, rfl, hj, hI⟩ := hrel
        rcases Nat.eq_zero_or_pos j with z0 | z0
        · subst z0
          have F := Lib.hid (FIN.out x y (by simpa using hI.out.1) (by have := hI.out.2; rw [Nat.sub_zero, Nat.add_zero] at this; rw [this]; exact L.to_end xb))
          clear hI
          go_wp2
          exact bodyPost_ret (v := .tuple #[.agg #[.int .i64 (wrap64 (y : Int)), .int .u64 (x : Int)], .bool true]) (by simp [results, Try.results82, go_sem]) rfl ⟨retpb (by rw [w64_is]; exact F.out.1.symm) F.out.2.symm O.out.symm, ((Below.refl _ w).alloc (Nat.le_refl _) _).alloc (by simp) _⟩
        · obtain ⟨i, rfl⟩ : ∃ i, j = i + 1 := ⟨j - 1, by omega⟩
          have ei : (((i + 1 : Nat) : Int) - 1) = (i : Int) := by omega
          rw [ei]
          have cA := fun w' hw' => bit_any A c l i w' w'.heap.size hw' hl9 (by omega)
          have cB : ∀ w', Reads w' w'.heap.size 1 A l.length (cells l) → Calls Try.prog 91 #[.slice A l.length c, .int .i64 (64 + (i : Int))] w' fun e w'' => e = .returned (.int .u8 (L.bit l (64 + i))) ∧ w' = w'' := fun w' hw' => by
            have := bit_any A c l (64 + i) w' w'.heap.size hw' hl9 (by omega)
            rwa [Int.natCast_add] at this
          have p2 := L.bit_lt xb i
          have q2 := L.bit_lt xb (64 + i)
          have s1 := L.to_step (b := l) (j := i) (k := 64 - (i + 1)) xb
          have s2 := L.to_step (b := l) (j := 64 + i) (k := 64 - (i + 1)) xb
          rw [show 64 - (i + 1) + 1 = 64 - i by omega] at s1 s2
          rw [← hI.out.1] at s1
          rw [show 64 + i + 1 = 64 + (i + 1) by omega, ← hI.out.2] at s2
          have p63 : 2 ^ (64 - (i + 1)) ≤ 9223372036854775808 := by
            have := Nat.pow_le_pow_right (n := 2) (by omega) (show 64 - (i + 1) ≤ 63 by omega); omega
          have x63 : x < 9223372036854775808 := by rw [hI.out.1]; exact Nat.lt_of_lt_of_le (Nat.mod_lt _ (Nat.two_pow_pos _)) p63
          have y63 : y < 9223372036854775808 := by rw [hI.out.2]; exact Nat.lt_of_lt_of_le (Nat.mod_lt _ (Nat.two_pow_pos _)) p63
          generalize L.bit l i = p at *
          generalize L.bit l (64 + i) = q at *
          have NX := Lib.hid (show x * 2 + p = L.nat (l.drop i) % 2 ^ (64 - i) ∧ y * 2 + q = L.nat (l.drop (64 + i)) % 2 ^ (64 - i) from ⟨s1.symm, s2.symm⟩)
          have i0 : (0 : Int) ≤ (i : Int) := by omega
          have i1 : (i : Int) < 64 := by omega
          clear s1 s2 p63 hI
          go_wp2_with fail
          refine (cA _ hrr).mono ?_; rintro e w' ⟨rfl, rfl⟩
          go_wp2_with fail
          refine (cB _ hrr).mono ?_; rintro e w' ⟨rfl, rfl⟩
          go_wp2_with fail
          exact ⟨⟨i, x * 2 + p, y * 2 + q, rfl, vint (by simp), vint (by simp), by omega, NX⟩, by simp [intOf]⟩
end Go.Proofs.Ytdkppkdoconfhaa
namespace Go.Proofs.Ytdkppkdoconfhaa
open Go.ChangeShapes Go.WideShapes Go.ChangeAt Go.RowKit
set_option linter.unusedVariables false

theorem L.nat_app : ∀ (a b : List Nat), L.nat (a ++ b) = L.nat a + 2 ^ a.length * L.nat b
  | [], b => by simp [L.nat]
  | x :: a, b => by
    show x + 2 * L.nat (a ++ b) = x + 2 * L.nat a + 2 ^ (a.length + 1) * L.nat b
    rw [L.nat_app a b, Nat.pow_succ, Nat.mul_add, Nat.mul_comm (2 ^ a.length) 2, Nat.mul_assoc]; omega
theorem L.Bits.app {a b : List Nat} (ha : L.Bits a) (hb : L.Bits b) : L.Bits (a ++ b) := by
  intro x hx
  rw [List.mem_append] at hx
  rcases hx with hx | hx
  · exact ha x hx
  · exact hb x hx
theorem cells_app (a b : List Nat) : cells (a ++ b) = cells a ++ cells b := by simp [cells]
theorem own_form {w : World} {base n : Nat} {v : Value} {l : List Nat} (h : w.ownsRow base 5 1 v n (cells l)) (hn : n = l.length) : ∃ A c, v = .slice A l.length c ∧ Reads w w.heap.size 1 A l.length (cells l) := by
  subst hn
  rcases h.2 with ⟨rfl, hz⟩ | ⟨g, cap, cur, rfl, _⟩
  · have : l = [] := List.eq_nil_of_length_eq_zero hz
    subst this
    exact ⟨none, 0, rfl, Reads.none_⟩
  · exact ⟨some ⟨g, 0, none⟩, cap, rfl, Reads.of_own h⟩
/-- The products so far. -/
def L.ProdI (a b o : List Nat) (i : Nat) : Prop := L.Bits o ∧ L.nat o = L.nat (a.take i) * L.nat b
theorem L.prod_skip {a b o : List Nat} {i : Nat} (h : L.ProdI a b o i) (hi : i < a.length) (e : L.bit a i = 0) : L.ProdI a b o (i + 1) := by
  refine ⟨h.1, ?_⟩
  rw [L.take_succ_nat hi, e, Nat.mul_zero, Nat.add_zero]; exact h.2
theorem L.prod_take {a b o o' : List Nat} {i : Nat} (h : L.ProdI a b o i) (hi : i < a.length) (e : L.bit a i = 1) (h1 : L.Bits o') (h2 : L.nat o' = L.nat o + 2 ^ i * L.nat b) : L.ProdI a b o' (i + 1) := by
  refine ⟨h1, ?_⟩
  rw [L.take_succ_nat hi, e, Nat.mul_one, h2, h.2, Nat.add_mul]
set_option maxRecDepth 100000 in
set_option maxHeartbeats 1000000 in
theorem prod_any (am bm : Bool) (A B : Option Addr) (c d : Nat) (a b : List Nat) (w : World) (ha : Reads w w.heap.size 1 A a.length (cells a)) (hb : Reads w w.heap.size 1 B b.length (cells b))
    (xa : L.Bits a) (xb : L.Bits b) (na : a.length ≤ 400) (nb : b.length ≤ 400) :
    Calls Try.prog 86 #[.agg #[.bool am, .slice A a.length c], .agg #[.bool bm, .slice B b.length d]] w (RetNum w (M.sg am (L.nat a) * M.sg bm (L.nat b))) := by
  have K0 : Below w.heap.size w (((w.alloc (.cells #[.bool am, .slice A a.length c] 112)).alloc (.cells #[.bool bm, .slice B b.length d] 112)).alloc (.cells #[.bool false, .slice none 0 0] 112)) := ((((Below.refl _ w).alloc (Nat.le_refl _) _).alloc (by simp) _).alloc (by simp; omega) _)
  have ha0 := ha.up K0
  have hb0 := hb.up K0
  have n1 := three_cells w (.bool am) (.slice A a.length c) (.bool bm) (.slice B b.length d) (.cells #[.bool false, .slice none 0 0] 112) _ rfl
  have n0 := three_new w (.bool am) (.slice A a.length c) (.bool bm) (.slice B b.length d) (.bool false) (.slice none 0 0)
  have f0 := three_frozen w (.bool am) (.slice A a.length c) (.bool bm) (.slice B b.length d) (.bool false) (.slice none 0 0)
  have hs : w.heap.size + 1 + 1 < ((((w.alloc (.cells #[.bool am, .slice A a.length c] 112)).alloc (.cells #[.bool bm, .slice B b.length d] 112)).alloc (.cells #[.bool false, .slice none 0 0] 112))).heap.size := by simp
  obtain ⟨c1, c2, c3, c4, _, _⟩ := n1
  obtain ⟨i0, hi0, hz0, hz1, hz2⟩ := info_parts u8_info
  clear ha hb
  go_enter Try.func86, Try.ntmps86
  go_wp2
  generalize (((w.alloc (.cells #[.bool am, .slice A a.length c] 112)).alloc (.cells #[.bool bm, .slice B b.length d] 112)).alloc (.cells #[.bool false, .slice none 0 0] 112)) = W1 at *
  go_loopw [5, 6] (fun v i wr => ∃ (A0 : Option Addr) (c0 : Nat) (o : List Nat) (k : Nat), v = .slice A0 o.length c0 ∧ i = .int .i64 (k : Nat) ∧ Reads wr wr.heap.size 1 A0 o.length (cells o) ∧ Hid (L.ProdI a b o k) ∧ o.length ≤ k + b.length ∧ k ≤ a.length ∧ Below W1.heap.size W1 wr) (fun _ i _ => a.length - (intOf i).toNat)
  case atStart => exact ⟨none, 0, [], 0, rfl, rfl, Reads.none_, Lib.hid ⟨L.Bits.nil, by simp [L.nat]⟩, by simp, by omega, Below.refl _ _⟩
  case round =>
    obtain ⟨A0, c0, o, k, rfl, rfl, hr, hI, ho, hk, hB⟩ := hrel
    have d1 := (hB.cell (p := ⟨w.heap.size, 0, none⟩) (by dsimp only; omega)).trans c1
    have d2 := (hB.cell (p := ⟨w.heap.size, 1, none⟩) (by dsimp only; omega)).trans c2
    have d3 := (hB.cell (p := ⟨w.heap.size + 1, 0, none⟩) (by dsimp only; omega)).trans c3
    have d4 := (hB.cell (p := ⟨w.heap.size + 1, 1, none⟩) (by dsimp only; omega)).trans c4
    by_cases q : k < a.length
    · have ha' := ha0.up hB
      have hb' := hb0.up hB
      obtain ⟨ad, u, rfl, _, hx, hcell⟩ := ha'.at_ q
      rw [cells_at q] at hx
      obtain rfl := Option.some.inj hx
      have q1 : (k : Int) < (a.length : Int) := by omega
      have q2 : (0 : Int) ≤ (k : Int) := by omega
      have q3 : (a.length : Int) ≤ 400 := by omega
      have hz := hB.size
      have p2 := L.bit_lt xa k
      by_cases e : L.bit a k = 0
      · have N := Lib.hid (L.prod_skip hI.out q e)
        rw [e] at hcell
        have E0 : ((0 : Nat) : Int) = 0 := rfl
        clear c1 c2 c3 c4 n0 f0 hI ha' hb' hx e p2
        go_wp2_with fail
        exact ⟨⟨A0, c0, o, k + 1, rfl, vint (by simp), hr, N, by omega, by omega, hB⟩, by simp [intOf]; omega⟩
      · have e1 : L.bit a k = 1 := by omega
        rw [e1] at hcell
        have E1 : ((1 : Nat) : Int) = 1 := rfl
        obtain ⟨ZR, hZR, hmk⟩ := make_run k (by omega)
        have LZ := Lib.hid (show L.Bits (List.replicate k 0) ∧ L.nat (List.replicate k 0) = 0 ∧ (List.replicate k 0).length = k from ⟨L.bits_rep _, L.nat_rep _, by simp⟩)
        have hown : ((wr.alloc (.cells ZR 5)).drew).ownsRow wr.heap.size 5 1 (.slice (some ⟨wr.heap.size, 0, none⟩) k k) k (cells (List.replicate k 0)) := make_own (x := wr) (base := wr.heap.size) hZR (by omega) (Nat.le_refl _)
        have kB : Below wr.heap.size wr ((wr.alloc (.cells ZR 5)).drew) := ((Below.refl _ wr).alloc (Nat.le_refl _) _).drew
        have hbm : Reads ((wr.alloc (.cells ZR 5)).drew) ((wr.alloc (.cells ZR 5)).drew).heap.size 1 B b.length (cells b) := hb'.up kB
        have h63 : k + b.length ≤ maxLen := by simp only [maxLen]; omega
        have hby : (k + b.length) * 1 ≤ 140737488355328 := by omega
        have hbs : wr.heap.size ≤ ((wr.alloc (.cells ZR 5)).drew).heap.size := by simp
        have HN := Lib.hid (fun o' h1 h2 => L.prod_take (o' := o') hI.out q e1 h1 h2)
        have d4z : w.heap.size + 1 < wr.heap.size := by omega
        clear hZR c1 c2 c3 c4 n0 f0 ha' hx e p2 e1
        generalize List.replicate k 0 = Z0 at *
        have LL := Lib.hid (show L.Bits (Z0 ++ b) ∧ L.nat (Z0 ++ b) = 2 ^ k * L.nat b ∧ (Z0 ++ b).length = k + b.length ∧ cells (Z0 ++ b) = cells Z0 ++ cells b from ⟨LZ.out.1.app xb, by rw [L.nat_app, LZ.out.2.1, LZ.out.2.2, Nat.zero_add], by rw [List.length_append, LZ.out.2.2], cells_app _ _⟩)
        generalize Z0 ++ b = Lz at LL
        go_wp2_with fail
        go_region_held3 (fun w' => w'.cell? ⟨w.heap.size + 1, 1, none⟩ = some (.slice B b.length d) ∧ w.heap.size + 1 < w'.heap.size)
              (first | exact ⟨(hb3.cell (p := ⟨w.heap.size + 1, 1, none⟩) (by dsimp only; have := hgx.size; omega)).trans ((hgx.cell (p := ⟨w.heap.size + 1, 1, none⟩) (by dsimp only; omega)).trans d4), by have := hgx.size; have := hb3.size; omega⟩ | exact ⟨(hgx.cell (p := ⟨w.heap.size + 1, 1, none⟩) (by dsimp only; omega)).trans d4, by have := hgx.size; omega⟩ | exact ⟨(kB.cell (p := ⟨w.heap.size + 1, 1, none⟩) d4z).trans d4, by have := kB.size; omega⟩ | exact ⟨d4, d4z⟩ | go_keep)
              ((first
                | (refine step_append_any _ (by rfl) _ _ _ (by rfl) wr.heap.size 5 i0 (.int .u8 0) 1 1 Try.underlying110 hi0 hz0 hz1 hz2 rfl (by omega) _ k _ (by rfl) hown _ B b.length d (cells b) (by rfl) hbm (cells_one b) h63 hby hbs ?_; intro v1 w1 hown1 hg1 hat1; have hgx := kB.grown hg1 hbs (own_ge hown); obtain ⟨A1, c1', rfl, hr1⟩ := own_form (l := Lz) (by rw [LL.out.2.2.2]; exact hown1) LL.out.2.2.1.symm)
                | (go_at_call 90; refine ((more_any A0 A1 c0 c1' o Lz w1 (hr.up hgx) hr1 hI.out.1 LL.out.1 (by omega) (by have := LL.out.2.2.1; omega)).mono fun _ _ h => sl_of h).mono ?_; rintro e w3 ⟨A2, c2', o', rfl, hr2, hP, hb3⟩)))
        go_wp2_with fail
        have hlen := LL.out.2.2.1
        have N := Lib.hid (HN.out o' hP.1 (by rw [hP.2.1, LL.out.2.1]))
        have hl2 : o'.length ≤ k + 1 + b.length := by have := hP.2.2; omega
        have K3 := hB.trans ((hgx.trans (hb3.mono hgx.size)).mono hB.size)
        exact ⟨⟨A2, c2', o', k + 1, rfl, vint (by simp), hr2, N, hl2, by omega, K3⟩, by simp [intOf]; omega⟩
    · have ek : k = a.length := by omega
      have q1 : ¬ (k : Int) < (a.length : Int) := by omega
      obtain ⟨m, hm⟩ : ∃ m, (!(am == bm)) = m := ⟨_, rfl⟩
      have hV : M.sg m (L.nat o : Int) = M.sg am (L.nat a) * M.sg bm (L.nat b) := by
        have h2 := hI.out.2
        rw [ek, List.take_length] at h2
        rw [← hm, h2, Int.natCast_mul]
        cases am <;> cases bm <;> simp [M.sg, Int.neg_mul, Int.mul_neg]
      have ct := trim_any m A0 c0 o wr hr hI.out.1 (by omega)
      rw [hV] at ct
      have K := K0.trans (hB.mono K0.size)
      have r1 := (hB.cell (p := ⟨w.heap.size + 1 + 1, 0, none⟩) hs).trans n0.1
      have r2 := (hB.cell (p := ⟨w.heap.size + 1 + 1, 1, none⟩) hs).trans n0.2
      have r3 := (hB.frozen (p := ⟨w.heap.size + 1 + 1, 0, none⟩) hs).trans (f0 0)
      have r4 := (hB.frozen (p := ⟨w.heap.size + 1 + 1, 1, none⟩) hs).trans (f0 1)
      have hs' : w.heap.size + 1 + 1 < wr.heap.size := Nat.lt_of_lt_of_le hs hB.size
      generalize M.sg am (L.nat a : Int) * M.sg bm (L.nat b) = z at *
      clear c1 c2 c3 c4 n0 f0 hI hV hB hr ek q
      go_wp2_with fail
      refine ct.mono ?_
      rintro e w5 ⟨A', c', l', rfl, hr', hC, hz', hA, hb⟩
      have E := Lib.hid (end_num (w := w) (R := w.heap.size + 1 + 1) (c := c') hr' hC hz' (fun ad e => by have := hA ad e; omega) (by omega) (K.trans (hb.mono K.size)))
      have p1 := (hb.cell (p := ⟨w.heap.size + 1 + 1, 0, none⟩) hs').trans r1
      have p2 := (hb.cell (p := ⟨w.heap.size + 1 + 1, 1, none⟩) hs').trans r2
      have p3 := (hb.frozen (p := ⟨w.heap.size + 1 + 1, 0, none⟩) hs').trans r3
      have p4 := (hb.frozen (p := ⟨w.heap.size + 1 + 1, 1, none⟩) hs').trans r4
      clear hA hz' hC hr' hb r1 r2 r3 r4 d1 d2 d3 d4
      go_wp2_with fail
      exact bodyPost_ret (v := .agg #[.bool (decide (z < 0)), .slice A' l'.length c']) (by simp [results, Try.results86, go_sem, p1, p2]) rfl E.out
end Go.Proofs.Ytdkppkdoconfhaa
namespace Go.Proofs.Ytdkppkdoconfhaa
open Go.ChangeShapes Go.WideShapes Go.ChangeAt Go.RowKit
set_option linter.unusedVariables false

/-- A number that lies in memory. -/
def NumR (w : World) (z : Int) (A : Option Addr) (l : List Nat) : Prop := Reads w w.heap.size 1 A l.length (cells l) ∧ L.Can l ∧ L.nat l = z.natAbs
theorem NumR.up {w w' : World} {z : Int} {A : Option Addr} {l : List Nat} (h : NumR w z A l) (hb : Below w.heap.size w w') : NumR w' z A l := ⟨h.1.up hb, h.2⟩
theorem NumR.drew {w : World} {z : Int} {A : Option Addr} {l : List Nat} (h : NumR w z A l) : NumR w.drew z A l := ⟨h.1.drew, h.2⟩
theorem NumR.len {w : World} {z : Int} {A : Option Addr} {l : List Nat} (h : NumR w z A l) (k : Nat) (hz : z.natAbs < 2 ^ k) : l.length ≤ k := L.can_len h.2.1 (by rw [h.2.2]; exact hz)
theorem natAbs_lt {z : Int} (o : M.ok z = true) : z.natAbs < 2 ^ 128 := by rw [M.ok_iff] at o; omega
theorem turnZ {w : World} {z : Int} {A : Option Addr} {l : List Nat} (c : Nat) (h : NumR w z A l) (hl : l.length ≤ 400) : Calls Try.prog 89 #[.agg #[.bool (decide (z < 0)), .slice A l.length c]] w (RetNum w (-z)) := by
  have := turn_any (decide (z < 0)) A c l w h.1 h.2.1.1 (by omega)
  rwa [sg_dec h.2.2] at this
theorem sumZ {w : World} {z y : Int} {A B : Option Addr} {l m : List Nat} (c d : Nat) (h : NumR w z A l) (g : NumR w y B m) (hl : l.length ≤ 400) (hm : m.length ≤ 400) :
    Calls Try.prog 80 #[.agg #[.bool (decide (z < 0)), .slice A l.length c], .agg #[.bool (decide (y < 0)), .slice B m.length d]] w (RetNum w (z + y)) := by
  have := sum_any (decide (z < 0)) (decide (y < 0)) A B c d l m w h.1 g.1 h.2.1.1 g.2.1.1 (by omega) (by omega)
  rwa [sg_dec h.2.2, sg_dec g.2.2] at this
theorem prodZ {w : World} {z y : Int} {A B : Option Addr} {l m : List Nat} (c d : Nat) (h : NumR w z A l) (g : NumR w y B m) (hl : l.length ≤ 400) (hm : m.length ≤ 400) :
    Calls Try.prog 86 #[.agg #[.bool (decide (z < 0)), .slice A l.length c], .agg #[.bool (decide (y < 0)), .slice B m.length d]] w (RetNum w (z * y)) := by
  have := prod_any (decide (z < 0)) (decide (y < 0)) A B c d l m w h.1 g.1 h.2.1.1 g.2.1.1 hl hm
  rwa [sg_dec h.2.2, sg_dec g.2.2] at this
theorem toZ {w : World} {z : Int} {A : Option Addr} {l : List Nat} (c : Nat) (h : NumR w z A l) (hl : l.length ≤ 900) :
    Calls Try.prog 82 #[.agg #[.bool (decide (z < 0)), .slice A l.length c]] w fun e w' => e = .returned (.tuple #[.agg #[.int .i64 (M.oh z), .int .u64 (M.ol z)], .bool (M.ok z)]) ∧ Below w.heap.size w w' :=
  to_any z A c l w h.1 h.2.1 h.2.2 hl
/-- The result's variable of one struct parameter. -/
theorem two_new (w : World) (a b x y : Value) (t : TypeId) : ((w.alloc (.cells #[a, b] t)).alloc (.cells #[x, y] 80)).cell? ⟨w.heap.size + 1, 0, none⟩ = some x ∧ ((w.alloc (.cells #[a, b] t)).alloc (.cells #[x, y] 80)).cell? ⟨w.heap.size + 1, 1, none⟩ = some y ∧
    ((w.alloc (.cells #[a, b] t)).alloc (.cells #[x, y] 80)).frozen? ⟨w.heap.size + 1, 0, none⟩ = false ∧ ((w.alloc (.cells #[a, b] t)).alloc (.cells #[x, y] 80)).frozen? ⟨w.heap.size + 1, 1, none⟩ = false :=
  ⟨by simp, by simp, World.frozen?_alloc2_new _ _ _ _, World.frozen?_alloc2_new _ _ _ _⟩
end Go.Proofs.Ytdkppkdoconfhaa
namespace Go.Proofs.Ytdkppkdoconfhaa
open Go.ChangeShapes Go.WideShapes Go.ChangeAt Go.RowKit
set_option linter.unusedVariables false

theorem three24 (w : World) (a b c d x y : Value) : (((w.alloc (.cells #[a, b] 80)).alloc (.cells #[c, d] 80)).alloc (.cells #[x, y] 80)).cell? ⟨w.heap.size + 1 + 1, 0, none⟩ = some x ∧ (((w.alloc (.cells #[a, b] 80)).alloc (.cells #[c, d] 80)).alloc (.cells #[x, y] 80)).cell? ⟨w.heap.size + 1 + 1, 1, none⟩ = some y ∧
    (((w.alloc (.cells #[a, b] 80)).alloc (.cells #[c, d] 80)).alloc (.cells #[x, y] 80)).frozen? ⟨w.heap.size + 1 + 1, 0, none⟩ = false ∧ (((w.alloc (.cells #[a, b] 80)).alloc (.cells #[c, d] 80)).alloc (.cells #[x, y] 80)).frozen? ⟨w.heap.size + 1 + 1, 1, none⟩ = false := by
  have h0 := World.cell?_alloc_new ((w.alloc (.cells #[a, b] 80)).alloc (.cells #[c, d] 80)) #[x, y] 80 0
  have h1 := World.cell?_alloc_new ((w.alloc (.cells #[a, b] 80)).alloc (.cells #[c, d] 80)) #[x, y] 80 1
  have f0 := World.frozen?_alloc_new ((w.alloc (.cells #[a, b] 80)).alloc (.cells #[c, d] 80)) #[x, y] 80 0
  have f1 := World.frozen?_alloc_new ((w.alloc (.cells #[a, b] 80)).alloc (.cells #[c, d] 80)) #[x, y] 80 1
  rw [World.size_alloc, World.size_alloc] at h0 h1 f0 f1
  exact ⟨h0, h1, f0, f1⟩
end Go.Proofs.Ytdkppkdoconfhaa
namespace Go.Proofs.Ytdkppkdoconfhaa
open Go.ChangeShapes Go.WideShapes Go.ChangeAt Go.RowKit
set_option linter.unusedVariables false

theorem mul_size {x d : Int} (hx : x.natAbs < 2 ^ 128) (hd : d.natAbs < 2 ^ 128) : (x * d).natAbs < 2 ^ 256 := by
  rw [Int.natAbs_mul]
  have h1 := Nat.mul_lt_mul_of_lt_of_le hx (Nat.le_of_lt hd) (by omega)
  calc x.natAbs * d.natAbs < 2 ^ 128 * 2 ^ 128 := h1
    _ = 2 ^ 256 := by decide
end Go.Proofs.Ytdkppkdoconfhaa
namespace Go.Proofs.Ytdkppkdoconfhaa
open Go.ChangeShapes Go.WideShapes Go.ChangeAt Go.RowKit
set_option linter.unusedVariables false
set_option linter.unusedSimpArgs false

theorem own_one (x : World) {base : Nat} {v : Value} (h : base ≤ x.heap.size) : (x.alloc (.cells #[v] 5)).ownsRow base 5 1 (.slice (some ⟨x.heap.size, 0, none⟩) 1 1) 1 [v] :=
  ⟨by simp, .inr ⟨x.heap.size, 1, #[v], rfl, h, heap_alloc_new x _, by omega, by simp [maxLen], rfl, rfl⟩⟩
def RetNat (w : World) (x : Nat) (e : Ending) (w' : World) : Prop :=
  ∃ A c l, e = .returned (.agg #[.bool false, .slice A l.length c]) ∧ Reads w' w'.heap.size 1 A l.length (cells l) ∧ L.Can l ∧ L.nat l = x ∧ (∀ ad, A = some ad → w.heap.size ≤ ad.block) ∧ Below w.heap.size w w'
theorem trimN (A : Option Addr) (c : Nat) (l : List Nat) (x : Nat) (w : World) (h : Reads w w.heap.size 1 A l.length (cells l)) (hl : L.Bits l) (hn : l.length ≤ 950) (hx : L.nat l = x) : Calls Try.prog 84 #[.agg #[.bool false, .slice A l.length c]] w (RetNat w x) := by
  subst hx
  refine (trim_any false A c l w h hl hn).mono ?_
  rintro e w' ⟨A', c', l', he, h1, h2, h3, h4, h5⟩
  have e1 : M.sg false (L.nat l : Int) = (L.nat l : Int) := rfl
  rw [e1] at he h3
  exact ⟨A', c', l', by rw [he, decide_eq_false (by omega)], h1, h2, by rw [h3]; simp, h4, h5⟩
/-- A number without a sign in a variable of the call's own. -/
structure NumV (w : World) (g B : Nat) (A : Option Addr) (c : Nat) (l : List Nat) : Prop where
  c0 : w.cell? ⟨g, 0, none⟩ = some (.bool false)
  c1 : w.cell? ⟨g, 1, none⟩ = some (.slice A l.length c)
  f0 : w.frozen? ⟨g, 0, none⟩ = false
  f1 : w.frozen? ⟨g, 1, none⟩ = false
  rd : Reads w w.heap.size 1 A l.length (cells l)
  far : ∀ ad, A = some ad → B < ad.block
section
variable {w w' : World} {g B : Nat} {A : Option Addr} {c : Nat} {l : List Nat}
theorem NumV.below (h : NumV w g B A c l) (hg : g < w.heap.size) (hb : Below w.heap.size w w') : NumV w' g B A c l :=
  ⟨(hb.cell (p := ⟨g, 0, none⟩) hg).trans h.c0, (hb.cell (p := ⟨g, 1, none⟩) hg).trans h.c1, (hb.frozen (p := ⟨g, 0, none⟩) hg).trans h.f0, (hb.frozen (p := ⟨g, 1, none⟩) hg).trans h.f1, h.rd.up hb, h.far⟩
theorem NumV.drew (h : NumV w g B A c l) : NumV w.drew g B A c l := ⟨h.c0, h.c1, h.f0, h.f1, h.rd.drew, h.far⟩
/-- A store elsewhere. -/
theorem NumV.other (h : NumV w g B A c l) {p : Addr} (hp : p.block ≠ g) (hB : p.block ≤ B) (u : Value) : NumV (w.setCell p u) g B A c l :=
  ⟨(World.cell?_setCell_other w p _ u (fun e => hp (by rw [e]))).trans h.c0, (World.cell?_setCell_other w p _ u (fun e => hp (by rw [e]))).trans h.c1, (World.frozen?_setCell _ _ _ _).trans h.f0, (World.frozen?_setCell _ _ _ _).trans h.f1, by
    have := reads_set h.rd (p := p) (fun ad e => Nat.lt_of_le_of_lt hB (h.far ad e)) u
    simpa [World.setCell] using this, h.far⟩
/-- A store of the list. -/
theorem NumV.put (h : NumV w g B A c l) (hB : g ≤ B) {A' : Option Addr} {c' : Nat} {l' : List Nat} (rd : Reads w w.heap.size 1 A' l'.length (cells l')) (far : ∀ ad, A' = some ad → B < ad.block) : NumV (w.setCell ⟨g, 1, none⟩ (.slice A' l'.length c')) g B A' c' l' :=
  ⟨(World.cell?_setCell_other w _ _ _ (by simp)).trans h.c0, World.cell?_setCell_same w _ _ h.c1, (World.frozen?_setCell _ _ _ _).trans h.f0, (World.frozen?_setCell _ _ _ _).trans h.f1, by
    have := reads_set rd (p := ⟨g, 1, none⟩) (fun ad e => Nat.lt_of_le_of_lt hB (far ad e)) (.slice A' l'.length c')
    simpa [World.setCell] using this, far⟩
/-- A store of the whole number. -/
theorem NumV.put2 (h : NumV w g B A c l) (hB : g ≤ B) {A' : Option Addr} {c' : Nat} {l' : List Nat} (rd : Reads w w.heap.size 1 A' l'.length (cells l')) (far : ∀ ad, A' = some ad → B < ad.block) : NumV ((w.setCell ⟨g, 0, none⟩ (.bool false)).setCell ⟨g, 1, none⟩ (.slice A' l'.length c')) g B A' c' l' := by
  have h1 : NumV (w.setCell ⟨g, 0, none⟩ (.bool false)) g B A c l :=
    ⟨World.cell?_setCell_same w _ _ h.c0, (World.cell?_setCell_other w _ _ _ (by simp)).trans h.c1, (World.frozen?_setCell _ _ _ _).trans h.f0, (World.frozen?_setCell _ _ _ _).trans h.f1, by
      have := reads_set h.rd (p := ⟨g, 0, none⟩) (fun ad e => Nat.lt_of_le_of_lt hB (h.far ad e)) (.bool false)
      simpa [World.setCell] using this, h.far⟩
  refine h1.put hB ?_ far
  have := reads_set rd (p := ⟨g, 0, none⟩) (fun ad e => Nat.lt_of_le_of_lt hB (far ad e)) (.bool false)
  simpa [World.setCell] using this
end
/-- Both variables, and the rest as it was. -/
structure St (W1 w : World) (gq gr : Nat) (Ar : Option Addr) (cr : Nat) (lr : List Nat) (Aq : Option Addr) (cq : Nat) (lq : List Nat) : Prop where
  r : NumV w gr gr Ar cr lr
  q : NumV w gq gr Aq cq lq
  b : Below gq W1 w
  s : gr < w.heap.size
  lt : gq < gr
section
variable {W1 w w' : World} {gq gr : Nat} {Ar : Option Addr} {cr : Nat} {lr : List Nat} {Aq : Option Addr} {cq : Nat} {lq : List Nat}
theorem St.below (h : St W1 w gq gr Ar cr lr Aq cq lq) (hb : Below w.heap.size w w') : St W1 w' gq gr Ar cr lr Aq cq lq :=
  ⟨h.r.below h.s hb, h.q.below (Nat.lt_trans h.lt h.s) hb, h.b.trans (hb.mono (Nat.le_of_lt (Nat.lt_trans h.lt h.s))), Nat.lt_of_lt_of_le h.s hb.size, h.lt⟩
theorem St.drew (h : St W1 w gq gr Ar cr lr Aq cq lq) : St W1 w.drew gq gr Ar cr lr Aq cq lq := ⟨h.r.drew, h.q.drew, h.b.drew, h.s, h.lt⟩
theorem St.new (h : St W1 w gq gr Ar cr lr Aq cq lq) (o : Obj) : St W1 (w.alloc o) gq gr Ar cr lr Aq cq lq := h.below ((Below.refl _ w).alloc (Nat.le_refl _) o)
theorem St.setR (h : St W1 w gq gr Ar cr lr Aq cq lq) {A' : Option Addr} {c' : Nat} {l' : List Nat} (rd : Reads w w.heap.size 1 A' l'.length (cells l')) (far : ∀ ad, A' = some ad → gr < ad.block) :
    St W1 ((w.setCell ⟨gr, 0, none⟩ (.bool false)).setCell ⟨gr, 1, none⟩ (.slice A' l'.length c')) gq gr A' c' l' Aq cq lq :=
  have lt := h.lt
  ⟨h.r.put2 (Nat.le_refl _) rd far, (h.q.other (p := ⟨gr, 0, none⟩) (by dsimp only; omega) (Nat.le_refl _) _).other (p := ⟨gr, 1, none⟩) (by dsimp only; omega) (Nat.le_refl _) _, (h.b.setCell (by dsimp only; omega) _).setCell (by dsimp only; omega) _, by simpa [World.setCell] using h.s, lt⟩
theorem St.setQ (h : St W1 w gq gr Ar cr lr Aq cq lq) {A' : Option Addr} {c' : Nat} {l' : List Nat} (rd : Reads w w.heap.size 1 A' l'.length (cells l')) (far : ∀ ad, A' = some ad → gr < ad.block) :
    St W1 (w.setCell ⟨gq, 1, none⟩ (.slice A' l'.length c')) gq gr Ar cr lr A' c' l' :=
  have lt := h.lt
  ⟨h.r.other (p := ⟨gq, 1, none⟩) (by dsimp only; omega) (by dsimp only; omega) _, h.q.put (by omega) rd far, h.b.setCell (Nat.le_refl _) _, by simpa [World.setCell] using h.s, lt⟩
theorem St.setQ2 (h : St W1 w gq gr Ar cr lr Aq cq lq) {A' : Option Addr} {c' : Nat} {l' : List Nat} (rd : Reads w w.heap.size 1 A' l'.length (cells l')) (far : ∀ ad, A' = some ad → gr < ad.block) :
    St W1 ((w.setCell ⟨gq, 0, none⟩ (.bool false)).setCell ⟨gq, 1, none⟩ (.slice A' l'.length c')) gq gr Ar cr lr A' c' l' :=
  have lt := h.lt
  ⟨(h.r.other (p := ⟨gq, 0, none⟩) (by dsimp only; omega) (by dsimp only; omega) _).other (p := ⟨gq, 1, none⟩) (by dsimp only; omega) (by dsimp only; omega) _, h.q.put2 (by omega) rd far, (h.b.setCell (Nat.le_refl _) _).setCell (Nat.le_refl _) _, by simpa [World.setCell] using h.s, lt⟩
end
/-- The world once all variables are made. -/
def W6 (w : World) (x y : Value) (x' y' : Value) : World := (((((w.alloc (.cells #[x, y] 112)).alloc (.cells #[x', y'] 112)).alloc (.cells #[.bool false, .slice none 0 0] 112)).alloc (.cells #[.bool false, .slice none 0 0] 112)).alloc (.cells #[.bool false, .slice none 0 0] 112)).alloc (.cells #[.bool false, .slice none 0 0] 112)
/-- A block that was laid as the k-th. -/
theorem laid_at (w : World) (x y : Value) (t : TypeId) (rest : List Obj) : ((rest.foldl (fun v o => v.alloc o) (w.alloc (.cells #[x, y] t)))).cell? ⟨w.heap.size, 0, none⟩ = some x ∧ (rest.foldl (fun v o => v.alloc o) (w.alloc (.cells #[x, y] t))).cell? ⟨w.heap.size, 1, none⟩ = some y ∧
    (rest.foldl (fun v o => v.alloc o) (w.alloc (.cells #[x, y] t))).frozen? ⟨w.heap.size, 0, none⟩ = false ∧ (rest.foldl (fun v o => v.alloc o) (w.alloc (.cells #[x, y] t))).frozen? ⟨w.heap.size, 1, none⟩ = false ∧
    Below (w.alloc (.cells #[x, y] t)).heap.size (w.alloc (.cells #[x, y] t)) (rest.foldl (fun v o => v.alloc o) (w.alloc (.cells #[x, y] t))) := by
  have K : ∀ (rest : List Obj) (u : World), Below u.heap.size u (rest.foldl (fun v o => v.alloc o) u) := by
    intro rest
    induction rest with
    | nil => intro u; exact Below.refl _ _
    | cons o rest ih => intro u; exact ((Below.refl _ u).alloc (Nat.le_refl _) o).trans ((ih (u.alloc o)).mono (by simp))
  have k := K rest (w.alloc (.cells #[x, y] t))
  refine ⟨(k.cell (p := ⟨w.heap.size, 0, none⟩) (by simp)).trans (by simp), (k.cell (p := ⟨w.heap.size, 1, none⟩) (by simp)).trans (by simp), (k.frozen (p := ⟨w.heap.size, 0, none⟩) (by simp)).trans (World.frozen?_alloc_new _ _ _ _), (k.frozen (p := ⟨w.heap.size, 1, none⟩) (by simp)).trans (World.frozen?_alloc_new _ _ _ _), k⟩
structure Laid (w W1 : World) (n1 n2 n3 gq gr : Nat) (x y x' y' : Value) : Prop where
  a0 : W1.cell? ⟨w.heap.size, 0, none⟩ = some x
  a1 : W1.cell? ⟨w.heap.size, 1, none⟩ = some y
  d0 : W1.cell? ⟨n1, 0, none⟩ = some x'
  d1 : W1.cell? ⟨n1, 1, none⟩ = some y'
  q0 : W1.cell? ⟨n2, 0, none⟩ = some (.bool false)
  q1 : W1.cell? ⟨n2, 1, none⟩ = some (.slice none 0 0)
  qf : W1.frozen? ⟨n2, 0, none⟩ = false ∧ W1.frozen? ⟨n2, 1, none⟩ = false
  r0 : W1.cell? ⟨n3, 0, none⟩ = some (.bool false)
  r1 : W1.cell? ⟨n3, 1, none⟩ = some (.slice none 0 0)
  rf : W1.frozen? ⟨n3, 0, none⟩ = false ∧ W1.frozen? ⟨n3, 1, none⟩ = false
  st : St W1 W1 gq gr none 0 [] none 0 []
  b : Below w.heap.size w W1
  ord : w.heap.size < n1 ∧ n1 < n2 ∧ n2 < n3 ∧ n3 < gq
theorem laid_6 (w : World) (x y x' y' : Value) : Laid w (W6 w x y x' y') (w.heap.size + 1) (w.heap.size + 1 + 1) (w.heap.size + 1 + 1 + 1) (w.heap.size + 1 + 1 + 1 + 1) (w.heap.size + 1 + 1 + 1 + 1 + 1) x y x' y' := by
  have z : Obj := .cells #[.bool false, .slice none 0 0] 50
  have l0 := laid_at w x y 112 [.cells #[x', y'] 112, .cells #[.bool false, .slice none 0 0] 112, .cells #[.bool false, .slice none 0 0] 112, .cells #[.bool false, .slice none 0 0] 112, .cells #[.bool false, .slice none 0 0] 112]
  have l1 := laid_at (w.alloc (.cells #[x, y] 112)) x' y' 112 [.cells #[.bool false, .slice none 0 0] 112, .cells #[.bool false, .slice none 0 0] 112, .cells #[.bool false, .slice none 0 0] 112, .cells #[.bool false, .slice none 0 0] 112]
  have l2 := laid_at ((w.alloc (.cells #[x, y] 112)).alloc (.cells #[x', y'] 112)) (.bool false) (.slice none 0 0) 112 [.cells #[.bool false, .slice none 0 0] 112, .cells #[.bool false, .slice none 0 0] 112, .cells #[.bool false, .slice none 0 0] 112]
  have l3 := laid_at (((w.alloc (.cells #[x, y] 112)).alloc (.cells #[x', y'] 112)).alloc (.cells #[.bool false, .slice none 0 0] 112)) (.bool false) (.slice none 0 0) 112 [.cells #[.bool false, .slice none 0 0] 112, .cells #[.bool false, .slice none 0 0] 112]
  have l4 := laid_at ((((w.alloc (.cells #[x, y] 112)).alloc (.cells #[x', y'] 112)).alloc (.cells #[.bool false, .slice none 0 0] 112)).alloc (.cells #[.bool false, .slice none 0 0] 112)) (.bool false) (.slice none 0 0) 112 [.cells #[.bool false, .slice none 0 0] 112]
  have l5 := laid_at (((((w.alloc (.cells #[x, y] 112)).alloc (.cells #[x', y'] 112)).alloc (.cells #[.bool false, .slice none 0 0] 112)).alloc (.cells #[.bool false, .slice none 0 0] 112)).alloc (.cells #[.bool false, .slice none 0 0] 112)) (.bool false) (.slice none 0 0) 112 []
  simp only [List.foldl, World.size_alloc] at l0 l1 l2 l3 l4 l5
  unfold W6
  exact ⟨l0.1, l0.2.1, l1.1, l1.2.1, l2.1, l2.2.1, l2.2.2.1 |> fun h => ⟨h, l2.2.2.2.1⟩, l3.1, l3.2.1, ⟨l3.2.2.1, l3.2.2.2.1⟩,
    ⟨⟨l5.1, l5.2.1, l5.2.2.1, l5.2.2.2.1, Reads.none_, fun ad e => by cases e⟩, ⟨l4.1, l4.2.1, l4.2.2.1, l4.2.2.2.1, Reads.none_, fun ad e => by cases e⟩, Below.refl _ _, by simp, by omega⟩,
    ((Below.refl _ w).alloc (Nat.le_refl _) _).trans (l0.2.2.2.2.mono (by omega)), by omega⟩
end Go.Proofs.Ytdkppkdoconfhaa
namespace Go.Proofs.Ytdkppkdoconfhaa
open Go.ChangeShapes Go.WideShapes Go.ChangeAt Go.RowKit
set_option linter.unusedVariables false
set_option linter.unusedSimpArgs false

/-- A call hands back two numbers. -/
def RetTwo (w : World) (zq zr : Int) (e : Ending) (w' : World) : Prop :=
  ∃ Aq cq lq Ar cr lr, e = .returned (.tuple #[.agg #[.bool (decide (zq < 0)), .slice Aq (List.length lq) cq], .agg #[.bool (decide (zr < 0)), .slice Ar (List.length lr) cr]]) ∧ NumR w' zq Aq lq ∧ NumR w' zr Ar lr ∧ Below w.heap.size w w'
/-- What the loads of a round read. -/
abbrev FloorS (w : World) (N gr k : Nat) (ad : Addr) (n c : Nat) (x : Int) (Ar : Option Addr) (m cr : Nat) : Prop :=
  w.cell? ⟨N, 1, none⟩ = some (.slice (some ad) n c) ∧ w.cell? (ad.add k) = some (.int .u8 x) ∧ w.cell? ⟨gr, 0, none⟩ = some (.bool false) ∧ w.cell? ⟨gr, 1, none⟩ = some (.slice Ar m cr) ∧ w.frozen? ⟨gr, 0, none⟩ = false ∧ w.frozen? ⟨gr, 1, none⟩ = false
theorem floorS_up {w w' : World} {N gr k n c m cr : Nat} {ad : Addr} {x : Int} {Ar : Option Addr} (h : FloorS w N gr k ad n c x Ar m cr) (hb : Below w.heap.size w w') (h1 : N < w.heap.size) (h2 : gr < w.heap.size) (h3 : ad.block < w.heap.size) : FloorS w' N gr k ad n c x Ar m cr :=
  ⟨(hb.cell (p := ⟨N, 1, none⟩) h1).trans h.1, (hb.cell (by rw [block_of_add]; exact h3)).trans h.2.1, (hb.cell (p := ⟨gr, 0, none⟩) h2).trans h.2.2.1, (hb.cell (p := ⟨gr, 1, none⟩) h2).trans h.2.2.2.1, (hb.frozen (p := ⟨gr, 0, none⟩) h2).trans h.2.2.2.2.1, (hb.frozen (p := ⟨gr, 1, none⟩) h2).trans h.2.2.2.2.2⟩
theorem far_own {A : Option Addr} {n c g h gr : Nat} (hat : (Value.slice A n c).ownBlock = (Value.slice (some ⟨g, 0, none⟩) 1 1).ownBlock ∨ (Value.slice A n c).ownBlock = some h) (h1 : gr < g) (h2 : gr < h) : ∀ ad, A = some ad → gr < ad.block := by
  intro ad e
  subst e
  rcases hat with e | e
  · have : ad.block = g := by simpa [Value.ownBlock] using e
    omega
  · have : ad.block = h := by simpa [Value.ownBlock] using e
    omega
theorem turnN {w : World} {z : Int} {A : Option Addr} {l : List Nat} (c : Nat) (h : NumR w z A l) (h0 : 0 ≤ z) (hl : l.length ≤ 402) : Calls Try.prog 89 #[.agg #[.bool false, .slice A l.length c]] w (RetNum w (-z)) := by
  have := turn_any false A c l w h.1 h.2.1.1 (by omega)
  have e : M.sg false (L.nat l : Int) = z := by have := h.2.2; show (L.nat l : Int) = z; omega
  rwa [e] at this
theorem sumN {w : World} {z y : Int} {A B : Option Addr} {l m : List Nat} (c d : Nat) (h : NumR w z A l) (g : NumR w y B m) (h0 : 0 ≤ z) (hl : l.length ≤ 402) (hm : m.length ≤ 402) :
    Calls Try.prog 80 #[.agg #[.bool false, .slice A l.length c], .agg #[.bool (decide (y < 0)), .slice B m.length d]] w (RetNum w (z + y)) := by
  have := sum_any false (decide (y < 0)) A B c d l m w h.1 g.1 h.2.1.1 g.2.1.1 (by omega) (by omega)
  have e : M.sg false (L.nat l : Int) = z := by have := h.2.2; show (L.nat l : Int) = z; omega
  rwa [e, sg_dec g.2.2] at this
theorem four_cells {x : World} {a b : Nat} {v0 v1 v2 v3 : Value} (u0 u1 u2 u3 : Value) (hab : a ≠ b) (h0 : x.cell? ⟨a, 0, none⟩ = some v0) (h1 : x.cell? ⟨a, 1, none⟩ = some v1) (h2 : x.cell? ⟨b, 0, none⟩ = some v2) (h3 : x.cell? ⟨b, 1, none⟩ = some v3) :
    ((((x.setCell ⟨a, 0, none⟩ u0).setCell ⟨a, 1, none⟩ u1).setCell ⟨b, 0, none⟩ u2).setCell ⟨b, 1, none⟩ u3).cell? ⟨a, 0, none⟩ = some u0 ∧ ((((x.setCell ⟨a, 0, none⟩ u0).setCell ⟨a, 1, none⟩ u1).setCell ⟨b, 0, none⟩ u2).setCell ⟨b, 1, none⟩ u3).cell? ⟨a, 1, none⟩ = some u1 ∧
    ((((x.setCell ⟨a, 0, none⟩ u0).setCell ⟨a, 1, none⟩ u1).setCell ⟨b, 0, none⟩ u2).setCell ⟨b, 1, none⟩ u3).cell? ⟨b, 0, none⟩ = some u2 ∧ ((((x.setCell ⟨a, 0, none⟩ u0).setCell ⟨a, 1, none⟩ u1).setCell ⟨b, 0, none⟩ u2).setCell ⟨b, 1, none⟩ u3).cell? ⟨b, 1, none⟩ = some u3 := by
  have n : ∀ i j : Nat, (⟨b, i, none⟩ : Addr) ≠ ⟨a, j, none⟩ := fun i j e => hab (by injection e with e; exact e.symm)
  have m : ∀ i j : Nat, (⟨a, i, none⟩ : Addr) ≠ ⟨b, j, none⟩ := fun i j e => hab (by injection e)
  have k : ∀ c : Nat, (⟨c, 0, none⟩ : Addr) ≠ ⟨c, 1, none⟩ := fun c e => by simp at e
  have k' : ∀ c : Nat, (⟨c, 1, none⟩ : Addr) ≠ ⟨c, 0, none⟩ := fun c e => by simp at e
  refine ⟨?_, ?_, ?_, ?_⟩
  · rw [World.cell?_setCell_other _ _ _ _ (n 1 0), World.cell?_setCell_other _ _ _ _ (n 0 0), World.cell?_setCell_other _ _ _ _ (k' a)]; exact World.cell?_setCell_same _ _ _ h0
  · rw [World.cell?_setCell_other _ _ _ _ (n 1 1), World.cell?_setCell_other _ _ _ _ (n 0 1)]
    exact World.cell?_setCell_same _ _ _ ((World.cell?_setCell_other _ _ _ _ (k a)).trans h1)
  · rw [World.cell?_setCell_other _ _ _ _ (k' b)]
    exact World.cell?_setCell_same _ _ _ ((World.cell?_setCell_other _ _ _ _ (m 1 0)).trans ((World.cell?_setCell_other _ _ _ _ (m 0 0)).trans h2))
  · exact World.cell?_setCell_same _ _ _ ((World.cell?_setCell_other _ _ _ _ (k b)).trans ((World.cell?_setCell_other _ _ _ _ (m 1 1)).trans ((World.cell?_setCell_other _ _ _ _ (m 0 1)).trans h3)))
theorem cells_up {x y : World} {a b : Nat} {v0 v1 v2 v3 : Value} (hb : Below x.heap.size x y) (h0 : x.cell? ⟨a, 0, none⟩ = some v0) (h1 : x.cell? ⟨a, 1, none⟩ = some v1) (h2 : x.cell? ⟨b, 0, none⟩ = some v2) (h3 : x.cell? ⟨b, 1, none⟩ = some v3)
    (f0 : x.frozen? ⟨a, 0, none⟩ = false) (f1 : x.frozen? ⟨a, 1, none⟩ = false) (f2 : x.frozen? ⟨b, 0, none⟩ = false) (f3 : x.frozen? ⟨b, 1, none⟩ = false) (ha : a < x.heap.size) (hb' : b < x.heap.size) :
    y.cell? ⟨a, 0, none⟩ = some v0 ∧ y.cell? ⟨a, 1, none⟩ = some v1 ∧ y.cell? ⟨b, 0, none⟩ = some v2 ∧ y.cell? ⟨b, 1, none⟩ = some v3 ∧ y.frozen? ⟨a, 0, none⟩ = false ∧ y.frozen? ⟨a, 1, none⟩ = false ∧ y.frozen? ⟨b, 0, none⟩ = false ∧ y.frozen? ⟨b, 1, none⟩ = false :=
  ⟨(hb.cell (p := ⟨a, 0, none⟩) ha).trans h0, (hb.cell (p := ⟨a, 1, none⟩) ha).trans h1, (hb.cell (p := ⟨b, 0, none⟩) hb').trans h2, (hb.cell (p := ⟨b, 1, none⟩) hb').trans h3, (hb.frozen (p := ⟨a, 0, none⟩) ha).trans f0, (hb.frozen (p := ⟨a, 1, none⟩) ha).trans f1, (hb.frozen (p := ⟨b, 0, none⟩) hb').trans f2, (hb.frozen (p := ⟨b, 1, none⟩) hb').trans f3⟩
theorem ret_drew {w x : World} {zq zr : Int} {e : Ending} (h : RetTwo w zq zr e x) : RetTwo w zq zr e x.drew := by
  obtain ⟨Aq, cq, lq, Ar, cr, lr, he, h1, h2, h3⟩ := h
  exact ⟨Aq, cq, lq, Ar, cr, lr, he, h1.drew, h2.drew, h3.drew⟩
/-- Three variables of two cells. -/
abbrev Held3 (x : World) (a b c : Nat) (v u v' u' v2 u2 : Value) : Prop := x.cell? ⟨a, 0, none⟩ = some v ∧ x.cell? ⟨a, 1, none⟩ = some u ∧ x.cell? ⟨b, 0, none⟩ = some v' ∧ x.cell? ⟨b, 1, none⟩ = some u' ∧ x.cell? ⟨c, 0, none⟩ = some v2 ∧ x.cell? ⟨c, 1, none⟩ = some u2 ∧ a < x.heap.size ∧ b < x.heap.size ∧ c < x.heap.size
theorem held3_up {x y : World} {a b c : Nat} {v u v' u' v2 u2 : Value} (hb : Below x.heap.size x y) (h : Held3 x a b c v u v' u' v2 u2) : Held3 y a b c v u v' u' v2 u2 := by
  obtain ⟨h1, h2, h3, h4, h5, h6, h7, h8, h9⟩ := h
  exact ⟨(hb.cell (p := ⟨a, 0, none⟩) h7).trans h1, (hb.cell (p := ⟨a, 1, none⟩) h7).trans h2, (hb.cell (p := ⟨b, 0, none⟩) h8).trans h3, (hb.cell (p := ⟨b, 1, none⟩) h8).trans h4, (hb.cell (p := ⟨c, 0, none⟩) h9).trans h5, (hb.cell (p := ⟨c, 1, none⟩) h9).trans h6, Nat.lt_of_lt_of_le h7 hb.size, Nat.lt_of_lt_of_le h8 hb.size, Nat.lt_of_lt_of_le h9 hb.size⟩
theorem held3_drew {x : World} {a b c : Nat} {v u v' u' v2 u2 : Value} (h : Held3 x a b c v u v' u' v2 u2) : Held3 x.drew a b c v u v' u' v2 u2 := h
theorem held3_set {x : World} {a b c : Nat} {v u v' u' v2 u2 z : Value} {p : Addr} (h1 : p.block ≠ a) (h2 : p.block ≠ b) (h3 : p.block ≠ c) (h : Held3 x a b c v u v' u' v2 u2) : Held3 (x.setCell p z) a b c v u v' u' v2 u2 := by
  obtain ⟨g1, g2, g3, g4, g5, g6, g7, g8, g9⟩ := h
  have s : ∀ (k i : Nat), p.block ≠ k → (x.setCell p z).cell? ⟨k, i, none⟩ = x.cell? ⟨k, i, none⟩ := fun k i hk => World.cell?_setCell_other x p _ z (fun e => hk (by rw [e]))
  exact ⟨(s a 0 h1).trans g1, (s a 1 h1).trans g2, (s b 0 h2).trans g3, (s b 1 h2).trans g4, (s c 0 h3).trans g5, (s c 1 h3).trans g6, by simpa [World.setCell] using g7, by simpa [World.setCell] using g8, by simpa [World.setCell] using g9⟩
/-- Two numbers, laid into the results' variables. -/
theorem floor_end {w wx : World} {n2 n3 : Nat} {zq zr : Int} {Aq Ar : Option Addr} {lq lr : List Nat} (cq cr : Nat) (hq : NumR wx zq Aq lq) (hr : NumR wx zr Ar lr) (fq : ∀ ad, Aq = some ad → n2 < ad.block ∧ n3 < ad.block) (fr : ∀ ad, Ar = some ad → n2 < ad.block ∧ n3 < ad.block)
    (hb : Below w.heap.size w wx) (h2 : w.heap.size ≤ n2) (h3 : w.heap.size ≤ n3) :
    RetTwo w zq zr (.returned (.tuple #[.agg #[.bool (decide (zq < 0)), .slice Aq lq.length cq], .agg #[.bool (decide (zr < 0)), .slice Ar lr.length cr]]))
      ((((wx.setCell ⟨n2, 0, none⟩ (.bool (decide (zq < 0)))).setCell ⟨n2, 1, none⟩ (.slice Aq lq.length cq)).setCell ⟨n3, 0, none⟩ (.bool (decide (zr < 0)))).setCell ⟨n3, 1, none⟩ (.slice Ar lr.length cr)) := by
  refine ⟨Aq, cq, lq, Ar, cr, lr, rfl, ⟨?_, hq.2⟩, ⟨?_, hr.2⟩, (((hb.setCell h2 _).setCell h2 _).setCell h3 _).setCell h3 _⟩
  · have := reads_set (reads_set (reads_set (reads_set hq.1 (p := ⟨n2, 0, none⟩) (fun ad e => (fq ad e).1) (.bool (decide (zq < 0)))) (p := ⟨n2, 1, none⟩) (fun ad e => (fq ad e).1) (.slice Aq lq.length cq)) (p := ⟨n3, 0, none⟩) (fun ad e => (fq ad e).2) (.bool (decide (zr < 0)))) (p := ⟨n3, 1, none⟩) (fun ad e => (fq ad e).2) (.slice Ar lr.length cr)
    simpa [World.setCell] using this
  · have := reads_set (reads_set (reads_set (reads_set hr.1 (p := ⟨n2, 0, none⟩) (fun ad e => (fr ad e).1) (.bool (decide (zq < 0)))) (p := ⟨n2, 1, none⟩) (fun ad e => (fr ad e).1) (.slice Aq lq.length cq)) (p := ⟨n3, 0, none⟩) (fun ad e => (fr ad e).2) (.bool (decide (zr < 0)))) (p := ⟨n3, 1, none⟩) (fun ad e => (fr ad e).2) (.slice Ar lr.length cr)
    simpa [World.setCell] using this
theorem held_drew {x : World} {a b : Nat} {v u v' u' : Value} (h : x.cell? ⟨a, 0, none⟩ = some v ∧ x.cell? ⟨a, 1, none⟩ = some u ∧ x.cell? ⟨b, 0, none⟩ = some v' ∧ x.cell? ⟨b, 1, none⟩ = some u' ∧ a < x.heap.size ∧ b < x.heap.size) :
    x.drew.cell? ⟨a, 0, none⟩ = some v ∧ x.drew.cell? ⟨a, 1, none⟩ = some u ∧ x.drew.cell? ⟨b, 0, none⟩ = some v' ∧ x.drew.cell? ⟨b, 1, none⟩ = some u' ∧ a < x.drew.heap.size ∧ b < x.drew.heap.size := h
theorem held_set {x : World} {a b : Nat} {v u v' u' z : Value} {p : Addr} (h1 : p.block ≠ a) (h2 : p.block ≠ b) (h : x.cell? ⟨a, 0, none⟩ = some v ∧ x.cell? ⟨a, 1, none⟩ = some u ∧ x.cell? ⟨b, 0, none⟩ = some v' ∧ x.cell? ⟨b, 1, none⟩ = some u' ∧ a < x.heap.size ∧ b < x.heap.size) :
    (x.setCell p z).cell? ⟨a, 0, none⟩ = some v ∧ (x.setCell p z).cell? ⟨a, 1, none⟩ = some u ∧ (x.setCell p z).cell? ⟨b, 0, none⟩ = some v' ∧ (x.setCell p z).cell? ⟨b, 1, none⟩ = some u' ∧ a < (x.setCell p z).heap.size ∧ b < (x.setCell p z).heap.size := by
  obtain ⟨g1, g2, g3, g4, g5, g6⟩ := h
  exact ⟨(World.cell?_setCell_other x p _ z (fun e => h1 (by rw [e]))).trans g1, (World.cell?_setCell_other x p _ z (fun e => h1 (by rw [e]))).trans g2, (World.cell?_setCell_other x p _ z (fun e => h2 (by rw [e]))).trans g3, (World.cell?_setCell_other x p _ z (fun e => h2 (by rw [e]))).trans g4, by simpa [World.setCell] using g5, by simpa [World.setCell] using g6⟩
/-- The four cells that hold both variables, over a call. -/
theorem held22 {x y : World} {a b : Nat} {v u v' u' : Value} (hb : Below x.heap.size x y) (h : x.cell? ⟨a, 0, none⟩ = some v ∧ x.cell? ⟨a, 1, none⟩ = some u ∧ x.cell? ⟨b, 0, none⟩ = some v' ∧ x.cell? ⟨b, 1, none⟩ = some u' ∧ a < x.heap.size ∧ b < x.heap.size) :
    y.cell? ⟨a, 0, none⟩ = some v ∧ y.cell? ⟨a, 1, none⟩ = some u ∧ y.cell? ⟨b, 0, none⟩ = some v' ∧ y.cell? ⟨b, 1, none⟩ = some u' ∧ a < y.heap.size ∧ b < y.heap.size := by
  obtain ⟨h1, h2, h3, h4, h5, h6⟩ := h
  exact ⟨(hb.cell (p := ⟨a, 0, none⟩) h5).trans h1, (hb.cell (p := ⟨a, 1, none⟩) h5).trans h2, (hb.cell (p := ⟨b, 0, none⟩) h6).trans h3, (hb.cell (p := ⟨b, 1, none⟩) h6).trans h4, Nat.lt_of_lt_of_le h5 hb.size, Nat.lt_of_lt_of_le h6 hb.size⟩
set_option maxRecDepth 100000 in
set_option maxHeartbeats 40000000 in
theorem floor_core (am : Bool) (A B : Option Addr) (c d : Nat) (la ld : List Nat) (D : Nat) (w : World) (ha : Reads w w.heap.size 1 A la.length (cells la)) (xa : L.Bits la) (na : la.length ≤ 400)
    (hb : Reads w w.heap.size 1 B ld.length (cells ld)) (xb : L.Can ld) (hD : L.nat ld = D) (pD : 0 < D) (nb : ld.length ≤ 400) :
    Calls Try.prog 79 #[.agg #[.bool am, .slice A la.length c], .agg #[.bool false, .slice B ld.length d]] w (RetTwo w (M.sg am (L.nat la) / (D : Int)) (M.sg am (L.nat la) % (D : Int))) := by
  obtain ⟨i0, hi0, hz0, hz1, hz2⟩ := info_parts u8_info
  go_enter Try.func79, Try.ntmps79
  go_wp2_with fail
  have LD := laid_6 w (.bool am) (.slice A la.length c) (.bool false) (.slice B ld.length d)
  unfold W6 at LD
  generalize ((((((w.alloc (Obj.cells #[Value.bool am, Value.slice A la.length c] 112)).alloc (Obj.cells #[Value.bool false, Value.slice B ld.length d] 112)).alloc (Obj.cells #[Value.bool false, Value.slice none 0 0] 112)).alloc (Obj.cells #[Value.bool false, Value.slice none 0 0] 112)).alloc (Obj.cells #[Value.bool false, Value.slice none 0 0] 112)).alloc (Obj.cells #[Value.bool false, Value.slice none 0 0] 112)) = W1 at *
  generalize w.heap.size + 1 + 1 + 1 + 1 + 1 = gr at *
  generalize w.heap.size + 1 + 1 + 1 + 1 = gq at *
  generalize w.heap.size + 1 + 1 + 1 = n3 at *
  generalize w.heap.size + 1 + 1 = n2 at *
  generalize w.heap.size + 1 = n1 at *
  have ORD := LD.ord
  go_loopw [8] (fun t wr => ∃ (i : Nat) (Ar Aq : Option Addr) (cr cq : Nat) (lr lq : List Nat), t = .int .i64 ((i : Int) - 1) ∧ i ≤ la.length ∧ Hid (L.DivI la D i lq (L.nat lr)) ∧ L.Can lr ∧ Hid (St W1 wr gq gr Ar cr lr Aq cq lq)) (fun t _ => (intOf t + 1).toNat)
  case atStart => exact ⟨la.length, none, none, 0, 0, [], [], rfl, Nat.le_refl _, Lib.hid (L.div_start la D pD), ⟨L.Bits.nil, fun h => absurd rfl h⟩, Lib.hid LD.st⟩
  case round =>
    obtain ⟨i, Ar, Aq, cr, cq, lr, lq, rfl, hi, hI, hC, hS⟩ := hrel
    rcases Nat.eq_zero_or_pos i with z | z
    · subst z
      obtain ⟨eq1, er1⟩ := L.div_end hI.out
      have lql : lq.length ≤ 400 := by have := hI.out.2.1; omega
      have TRq := trimN Aq cq lq (L.nat la / D) wr hS.out.q.rd hI.out.1 (by omega) eq1
      have rl : lr.length ≤ ld.length := L.can_len hC (by have h1 := hI.out.2.2.1; have h2 := L.nat_lt xb.1; omega)
      have c0 := hS.out.q.c0
      have c1 := hS.out.q.c1
      have f0 := hS.out.q.f0
      have f1 := hS.out.q.f1
      obtain ⟨Q, hQ⟩ : ∃ Q, L.nat la / D = Q := ⟨_, rfl⟩
      obtain ⟨Rm, hRm⟩ : ∃ R, L.nat la % D = R := ⟨_, rfl⟩
      have FP := L.floor_pos (L.nat la) D
      have FN := L.floor_neg (A := L.nat la) pD
      rw [hQ] at TRq FP FN
      rw [hRm] at er1 FP FN
      have HFP := Lib.hid FP
      have HFN := Lib.hid FN
      have HER := Lib.hid er1
      clear eq1 er1 hQ hRm FP FN
      go_wp2_with fail
      refine TRq.mono ?_
      rintro e w1 ⟨A1, c1', l1, rfl, rd1, C1, e1, far1, hb1⟩
      have S1 := hS.out.below hb1
      have lt1 := S1.lt
      have S2 := S1.setQ2 (c' := c1') rd1 (fun ad' e' => by have := far1 ad' e'; have := hS.out.s; omega)
      have g0 := S1.q.c0
      have g1 := S1.q.c1
      have h0 := S1.q.f0
      have h1 := S1.q.f1
      have zz1 : w1.heap.size = ((w1.setCell ⟨gq, 0, none⟩ (.bool false)).setCell ⟨gq, 1, none⟩ (.slice A1 l1.length c1')).heap.size := by simp [World.setCell]
      have HE1 := Lib.hid e1
      have HZ1 := Lib.hid zz1
      have HS2 := Lib.hid S2
      clear c0 c1 f0 f1 TRq e1 S1 S2 zz1
      go_upto_region 13 with fail
      generalize (w1.setCell ⟨gq, 0, none⟩ (.bool false)).setCell ⟨gq, 1, none⟩ (.slice A1 l1.length c1') = w2 at *
      clear g0 g1 h0 h1 rd1 far1 hb1
      have a0 : w2.cell? ⟨w.heap.size, 0, none⟩ = some (.bool am) := (HS2.out.b.cell (p := ⟨w.heap.size, 0, none⟩) (by dsimp only; omega)).trans LD.a0
      have s2 := HS2.out.s
      have HF : Hid (w2.cell? ⟨gq, 0, none⟩ = some (.bool false) ∧ w2.cell? ⟨gq, 1, none⟩ = some (.slice A1 l1.length c1') ∧ w2.cell? ⟨gr, 0, none⟩ = some (.bool false) ∧ w2.cell? ⟨gr, 1, none⟩ = some (.slice Ar lr.length cr) ∧ gq < w2.heap.size ∧ gr < w2.heap.size) := Lib.hid ⟨HS2.out.q.c0, HS2.out.q.c1, HS2.out.r.c0, HS2.out.r.c1, by omega, s2⟩
      have p20 := (HS2.out.b.cell (p := ⟨n2, 0, none⟩) (by dsimp only; omega)).trans LD.q0
      have p21 := (HS2.out.b.cell (p := ⟨n2, 1, none⟩) (by dsimp only; omega)).trans LD.q1
      have p30 := (HS2.out.b.cell (p := ⟨n3, 0, none⟩) (by dsimp only; omega)).trans LD.r0
      have p31 := (HS2.out.b.cell (p := ⟨n3, 1, none⟩) (by dsimp only; omega)).trans LD.r1
      have q20 := (HS2.out.b.frozen (p := ⟨n2, 0, none⟩) (by dsimp only; omega)).trans LD.qf.1
      have q21 := (HS2.out.b.frozen (p := ⟨n2, 1, none⟩) (by dsimp only; omega)).trans LD.qf.2
      have q30 := (HS2.out.b.frozen (p := ⟨n3, 0, none⟩) (by dsimp only; omega)).trans LD.rf.1
      have q31 := (HS2.out.b.frozen (p := ⟨n3, 1, none⟩) (by dsimp only; omega)).trans LD.rf.2
      have KB := LD.b.trans (HS2.out.b.mono (by omega))
      have NQ : NumR w2 (Q : Int) A1 l1 := ⟨HS2.out.q.rd, C1, by rw [HE1.out]; omega⟩
      have NR : NumR w2 (Rm : Int) Ar lr := ⟨HS2.out.r.rd, hC, by rw [HER.out]; omega⟩
      have FQ := HS2.out.q.far
      have FR := HS2.out.r.far
      cases am
      · have F := HFP.out
        have HV : Hid (M.sg false (L.nat la : Int) / (D : Int) = (Q : Int) ∧ M.sg false (L.nat la : Int) % (D : Int) = (Rm : Int)) := Lib.hid ⟨F.1.symm, F.2.symm⟩
        have FE := fun (wx : World) (hb : Below w2.heap.size w2 wx) => floor_end (w := w) (n2 := n2) (n3 := n3) c1' cr (NQ.up hb) (NR.up hb) (fun ad e => by have := FQ ad e; omega) (fun ad e => by have := FR ad e; omega) (KB.trans (hb.mono (by omega))) (by omega) (by omega)
        have z0 : decide ((Q : Int) < 0) = false := decide_eq_false (by omega)
        have z1 : decide ((Rm : Int) < 0) = false := decide_eq_false (by omega)
        rw [z0, z1] at FE
        have HFE := Lib.hid FE
        clear FE F z0 z1
        go_wp2_with fail
        go_region_held3 (fun w' => w'.cell? ⟨gq, 0, none⟩ = some (.bool false) ∧ w'.cell? ⟨gq, 1, none⟩ = some (.slice A1 l1.length c1') ∧ w'.cell? ⟨gr, 0, none⟩ = some (.bool false) ∧ w'.cell? ⟨gr, 1, none⟩ = some (.slice Ar lr.length cr) ∧ gq < w'.heap.size ∧ gr < w'.heap.size)
          (first | with_reducible exact held_drew (held_set (by dsimp only; omega) (by dsimp only; omega) (held_set (by dsimp only; omega) (by dsimp only; omega) (HF.out))) | with_reducible exact held_drew (held_set (by dsimp only; omega) (by dsimp only; omega) (held_set (by dsimp only; omega) (by dsimp only; omega) (held_set (by dsimp only; omega) (by dsimp only; omega) (held_set (by dsimp only; omega) (by dsimp only; omega) (HF.out))))) | exact HF.out | go_keep)
          (fail)
        all_goals go_wp2_with fail
        have FC := four_cells (.bool false) (.slice A1 l1.length c1') (.bool false) (.slice Ar lr.length cr) (show n2 ≠ n3 by omega) p20 p21 p30 p31
        obtain ⟨k0, k1, k2, k3⟩ := FC
        clear p20 p21 p30 p31 q20 q21 q30 q31
        exact bodyPost_ret (v := .tuple #[.agg #[.bool false, .slice A1 l1.length c1'], .agg #[.bool false, .slice Ar lr.length cr]]) (by simp [results, Try.results79, go_sem, k0, k1, k2, k3]) rfl (by rw [HV.out.1, HV.out.2]; exact ret_drew (HFE.out w2 (Below.refl _ _)))
      · have en : M.sg true (L.nat la : Int) = -(L.nat la : Int) := rfl
        have cr1 := HS2.out.r.c1
        have l1l : l1.length ≤ 400 := by
          have hq := NQ.2.2
          have h1 := L.nat_lt xa
          have h2 : Q ≤ L.nat la := by
            have := HFP.out.1
            have h3 := Int.ediv_le_self (a := (L.nat la : Int)) (D : Int) (by omega)
            omega
          have := L.can_len C1 (k := la.length) (by omega)
          omega
        by_cases lz : lr.length = 0
        · have rz : Rm = 0 := by
            have hl : lr = [] := List.eq_nil_of_length_eq_zero lz
            have := NR.2.2
            rw [hl] at this
            simp [L.nat] at this
            omega
          have FN := HFN.out.1 rz
          have HV : Hid (M.sg true (L.nat la : Int) / (D : Int) = -(Q : Int) ∧ M.sg true (L.nat la : Int) % (D : Int) = 0) := Lib.hid ⟨FN.1.symm, FN.2.symm⟩
          subst rz
          have tq := turnN (w := w2.drew) c1' NQ.drew (by omega) (by omega)
          have lz' : ((lr.length : Int) == 0) = true := by simp [lz]
          have HLZ := Lib.hid lz
          obtain ⟨y, hy⟩ : ∃ y, -(Q : Int) = y := ⟨_, rfl⟩
          rw [hy] at tq
          have HY := Lib.hid hy
          clear FN lz hy en
          go_wp2_with fail
          go_region_held3 (fun w' => w'.cell? ⟨gq, 0, none⟩ = some (.bool false) ∧ w'.cell? ⟨gq, 1, none⟩ = some (.slice A1 l1.length c1') ∧ w'.cell? ⟨gr, 0, none⟩ = some (.bool false) ∧ w'.cell? ⟨gr, 1, none⟩ = some (.slice Ar lr.length cr) ∧ gq < w'.heap.size ∧ gr < w'.heap.size)
            (first | with_reducible exact held_drew (held_set (by dsimp only; omega) (by dsimp only; omega) (held_set (by dsimp only; omega) (by dsimp only; omega) (by assumption))) | with_reducible exact held_set (by dsimp only; omega) (by dsimp only; omega) (held_set (by dsimp only; omega) (by dsimp only; omega) (by assumption)) | exact held22 hbA (by assumption) | exact HF.out | go_keep)
            ((go_at_call 89; refine tq.mono ?_; rintro e wA ⟨AA, cA, lA, rfl, rdA, CA, eA, farA, hbA⟩; have pA := cells_up hbA p20 p21 p30 p31 q20 q21 q30 q31 (by omega) (by omega); obtain ⟨pA0, pA1, pA2, pA3, fA0, fA1, fA2, fA3⟩ := pA))
          all_goals go_wp2_with fail
          have NA : NumR wA y AA lA := ⟨rdA, CA, eA⟩
          have NR2 : NumR wA 0 Ar lr := NR.drew.up hbA
          have FC := four_cells (.bool (decide (y < 0))) (.slice AA lA.length cA) (.bool false) (.slice Ar lr.length cr) (show n2 ≠ n3 by omega) pA0 pA1 pA2 pA3
          obtain ⟨k0, k1, k2, k3⟩ := FC
          have FE := floor_end (w := w) (n2 := n2) (n3 := n3) cA cr NA NR2 (fun ad e => by have h' : w2.heap.size ≤ ad.block := farA ad e; omega) (fun ad e => by have := FR ad e; omega) ((KB.trans ((Below.refl w2.heap.size w2).drew.mono (by omega))).trans (hbA.mono (show w.heap.size ≤ w2.heap.size by omega))) (by omega) (by omega)
          have z1 : decide ((0 : Int) < 0) = false := rfl
          rw [z1] at FE
          clear p20 p21 p30 p31 q20 q21 q30 q31 pA0 pA1 pA2 pA3 fA0 fA1 fA2 fA3
          exact bodyPost_ret (v := .tuple #[.agg #[.bool (decide (y < 0)), .slice AA lA.length cA], .agg #[.bool false, .slice Ar lr.length cr]]) (by simp [results, Try.results79, go_sem, k0, k1, k2, k3]) rfl (by rw [HV.out.1, HV.out.2, HY.out]; exact FE)
        · have rz : Rm ≠ 0 := by
            intro h
            have := (L.can_zero hC).1 (by have := NR.2.2; omega)
            exact lz (by rw [this]; rfl)
          have FN := HFN.out.2 rz
          have HV : Hid (M.sg true (L.nat la : Int) / (D : Int) = -((Q : Int) + 1) ∧ M.sg true (L.nat la : Int) % (D : Int) = (D : Int) + -(Rm : Int)) := Lib.hid ⟨FN.1.symm, FN.2.symm⟩
          have lz' : ((lr.length : Int) == 0) = false := by simp [lz]
          have cd0 := (HS2.out.b.cell (p := ⟨n1, 0, none⟩) (by dsimp only; omega)).trans LD.d0
          have cd1 := (HS2.out.b.cell (p := ⟨n1, 1, none⟩) (by dsimp only; omega)).trans LD.d1
          have ND : NumR w2 (D : Int) B ld := ⟨((hb.below LD.b).below (HS2.out.b.mono (by omega))).more (by omega), xb, by rw [hD]; omega⟩
          have H3 : Held3 w2 gq gr n1 (.bool false) (.slice A1 l1.length c1') (.bool false) (.slice Ar lr.length cr) (.bool false) (.slice B ld.length d) := ⟨HF.out.1, HF.out.2.1, HF.out.2.2.1, HF.out.2.2.2.1, cd0, cd1, by omega, by omega, by omega⟩
          have hQl : Q + 1 < 2 ^ (la.length + 1) := by
            have h1 := L.nat_lt xa
            have h2 : Q ≤ L.nat la := by
              have := HFP.out.1
              have h3 := Int.ediv_le_self (a := (L.nat la : Int)) (D : Int) (by omega)
              omega
            have h3 := Nat.pow_succ 2 la.length
            have h4 := Nat.two_pow_pos la.length
            omega
          have HQL := Lib.hid hQl
          have KW : Below w2.heap.size w2 (w2.alloc (.cells #[.int .u8 1] 5)).drew := ((Below.refl _ w2).alloc (Nat.le_refl _) _).drew
          have N1 : NumR (w2.alloc (.cells #[.int .u8 1] 5)).drew 1 (some ⟨w2.heap.size, 0, none⟩) [1] := ⟨Reads.of_own (own_one w2 (base := w2.heap.size) (v := .int .u8 1) (Nat.le_refl _)), ⟨L.Bits.nil.cons (by omega), fun _ => rfl⟩, rfl⟩
          have t1 := sumN (y := 1) c1' 1 (NQ.up KW) N1 (by omega) (by omega) (by simp)
          have e1 : decide ((1 : Int) < 0) = false := rfl
          have e2 : ([1] : List Nat).length = 1 := rfl
          rw [e1, e2] at t1
          obtain ⟨y1, hy1⟩ : ∃ y, (Q : Int) + 1 = y := ⟨_, rfl⟩
          obtain ⟨y2, hy2⟩ : ∃ y, -y1 = y := ⟨_, rfl⟩
          obtain ⟨y3, hy3⟩ : ∃ y, -(Rm : Int) = y := ⟨_, rfl⟩
          obtain ⟨y4, hy4⟩ : ∃ y, (D : Int) + y3 = y := ⟨_, rfl⟩
          rw [hy1] at t1
          have turn1 : ∀ (wx : World) (A : Option Addr) (l : List Nat) (c : Nat), NumR wx y1 A l → l.length ≤ 402 → Calls Try.prog 89 #[.agg #[.bool (decide (y1 < 0)), .slice A l.length c]] wx (RetNum wx y2) := by
            intro wx A l c h hl
            have := turn_any (decide (y1 < 0)) A c l wx h.1 h.2.1.1 (by omega)
            rw [sg_dec h.2.2, hy2] at this
            exact this
          have turn2 : ∀ (wx : World), Below w2.heap.size w2 wx → Calls Try.prog 89 #[.agg #[.bool false, .slice Ar lr.length cr]] wx (RetNum wx y3) := by
            intro wx h
            have := turnN cr (NR.up h) (by omega) (by omega)
            rwa [hy3] at this
          have sum2 : ∀ (wx : World) (A : Option Addr) (l : List Nat) (c : Nat), Below w2.heap.size w2 wx → NumR wx y3 A l → l.length ≤ 402 → Calls Try.prog 80 #[.agg #[.bool false, .slice B ld.length d], .agg #[.bool (decide (y3 < 0)), .slice A l.length c]] wx (RetNum wx y4) := by
            intro wx A l c h g hl
            have := sumN d c (ND.up h) g (by omega) (by omega) hl
            rwa [hy4] at this
          have HY1 := Lib.hid hy1
          have HY2 := Lib.hid hy2
          have HY3 := Lib.hid hy3
          have HY4 := Lib.hid hy4
          have HT1 := Lib.hid turn1
          have HT2 := Lib.hid turn2
          have HT3 := Lib.hid sum2
          have HH3 := Lib.hid H3
          have RN := NR.2.2
          have RNH := Lib.hid RN
          have hC3 := NR.2.1
          clear e1 e2
          clear FN lz hy1 hy2 hy3 hy4 en turn1 turn2 sum2 H3 cd0 cd1 hQl RN
          go_wp2_with fail
          go_region_held3 (fun w' => Held3 w' gq gr n1 (.bool false) (.slice A1 l1.length c1') (.bool false) (.slice Ar lr.length cr) (.bool false) (.slice B ld.length d))
            (first | with_reducible exact held3_drew (held3_set (by dsimp only; omega) (by dsimp only; omega) (by dsimp only; omega) (held3_set (by dsimp only; omega) (by dsimp only; omega) (by dsimp only; omega) (by assumption))) | with_reducible exact held3_set (by dsimp only; omega) (by dsimp only; omega) (by dsimp only; omega) (held3_set (by dsimp only; omega) (by dsimp only; omega) (by dsimp only; omega) (by assumption)) | exact held3_up hbD (by assumption) | exact held3_up hbC (by assumption) | exact held3_up hbB (by assumption) | exact held3_up hbA (by assumption) | exact held3_up KW HH3.out | exact HH3.out | go_keep)
            ((first
              | (go_at_call_of 80 (Value.agg #[Value.bool false, Value.slice A1 l1.length c1']); refine t1.mono ?_; rintro e wA ⟨AA, cA, lA, rfl, rdA, CA, eA, farA, hbA⟩; have NA : NumR wA y1 AA lA := ⟨rdA, CA, eA⟩; have LA : lA.length ≤ 401 := Nat.le_trans (L.can_len CA (k := la.length + 1) (by have := HQL.out; have := HY1.out; omega)) (by omega); have KA := KW.trans (hbA.mono (by simp)); clear rdA CA eA farA)
              | (go_at_call_of 89 (Value.agg #[Value.bool (decide (y1 < 0)), Value.slice AA lA.length cA]); refine (HT1.out _ _ _ cA NA (by omega)).mono ?_; rintro e wB ⟨AB, cB, lB, rfl, rdB, CB, eB, farB, hbB⟩; have NB : NumR wB y2 AB lB := ⟨rdB, CB, eB⟩; have KB2 := KA.trans (hbB.mono KA.size); clear rdB CB eB)
              | (go_at_call_of 89 (Value.agg #[Value.bool false, Value.slice Ar lr.length cr]); refine (HT2.out _ KB2).mono ?_; rintro e wC ⟨AC, cC, lC, rfl, rdC, CC, eC, farC, hbC⟩; have NC : NumR wC y3 AC lC := ⟨rdC, CC, eC⟩; have LC : lC.length ≤ 402 := Nat.le_trans (L.can_len CC (k := lr.length) (by rw [eC, ← HY3.out, Int.natAbs_neg, ← RNH.out]; exact L.nat_lt hC3.1)) (by omega); have KC := KB2.trans (hbC.mono KB2.size); clear rdC CC eC farC)
              | (go_at_call_of 80 (Value.agg #[Value.bool false, Value.slice B ld.length d]); refine (HT3.out _ _ _ cC KC NC LC).mono ?_; rintro e wD ⟨AD, cD, lD, rfl, rdD, CD, eD, farD, hbD⟩; have ND2 : NumR wD y4 AD lD := ⟨rdD, CD, eD⟩; have KD := KC.trans (hbD.mono KC.size); have pD := cells_up KD p20 p21 p30 p31 q20 q21 q30 q31 (by omega) (by omega); obtain ⟨pD0, pD1, pD2, pD3, fD0, fD1, fD2, fD3⟩ := pD)))
          all_goals go_wp2_with fail
          have NB2 : NumR wD y2 AB lB := (NB.up hbC).up hbD
          have FC := four_cells (.bool (decide (y2 < 0))) (.slice AB lB.length cB) (.bool (decide (y4 < 0))) (.slice AD lD.length cD) (show n2 ≠ n3 by omega) pD0 pD1 pD2 pD3
          obtain ⟨k0, k1, k2, k3⟩ := FC
          have FE := floor_end (w := w) (n2 := n2) (n3 := n3) cB cD NB2 ND2 (fun ad e => by have := farB ad e; have := KA.size; omega) (fun ad e => by have := farD ad e; have := KC.size; omega) (KB.trans (KD.mono (by omega))) (by omega) (by omega)
          clear p20 p21 p30 p31 q20 q21 q30 q31 pD0 pD1 pD2 pD3 fD0 fD1 fD2 fD3
          exact bodyPost_ret (v := .tuple #[.agg #[.bool (decide (y2 < 0)), .slice AB lB.length cB], .agg #[.bool (decide (y4 < 0)), .slice AD lD.length cD]]) (by simp [results, Try.results79, go_sem, k0, k1, k2, k3]) rfl (by rw [HV.out.1, HV.out.2, HY1.out, HY2.out, HY3.out, HY4.out]; exact FE)
    · obtain ⟨k, rfl⟩ : ∃ k, i = k + 1 := ⟨i - 1, by omega⟩
      have ei : (((k + 1 : Nat) : Int) - 1) = (k : Int) := by omega
      rw [ei]
      have hk : k < la.length := by omega
      have s0 := hS.out.s
      have lt0 := hS.out.lt
      have rA : Reads wr w.heap.size 1 A la.length (cells la) := (ha.below LD.b).below (hS.out.b.mono (by omega))
      obtain ⟨ad, u, hAd, hadb, hx, hcx⟩ := rA.at_ hk
      subst hAd
      rw [cells_at hk] at hx
      obtain rfl := Option.some.inj hx
      have F0 : FloorS wr w.heap.size gr k ad la.length c (L.bit la k : Int) Ar lr.length cr := ⟨(hS.out.b.cell (p := ⟨w.heap.size, 1, none⟩) (by dsimp only; omega)).trans LD.a1, hcx, hS.out.r.c0, hS.out.r.c1, hS.out.r.f0, hS.out.r.f1⟩
      have FS : ∀ wx, Below wr.heap.size wr wx → FloorS wx w.heap.size gr k ad la.length c (L.bit la k : Int) Ar lr.length cr := fun wx hb => floorS_up F0 hb (by omega) s0 (by omega)
      have HFS := Lib.hid FS
      have bl := L.bit_lt xa k
      have rl : lr.length ≤ ld.length := L.can_len hC (by have h1 := hI.out.2.2.1; have h2 := L.nat_lt xb.1; omega)
      have HI := hI
      clear F0 FS rA hcx hx
      obtain ⟨x, hx⟩ : ∃ x, L.bit la k = x := ⟨_, rfl⟩
      rw [hx] at HFS bl
      have q0 : (0 : Int) ≤ (k : Int) := by omega
      have q1 : (k : Int) < (la.length : Int) := by omega
      have q2 : (la.length : Int) ≤ 400 := by omega
      have K1 : Below wr.heap.size wr (wr.alloc (.cells #[.int .u8 (x : Nat)] 5)).drew := ((Below.refl _ wr).alloc (Nat.le_refl _) _).drew
      have own1 : (wr.alloc (.cells #[.int .u8 (x : Nat)] 5)).drew.ownsRow wr.heap.size 5 1 (.slice (some ⟨wr.heap.size, 0, none⟩) 1 1) 1 (cells [x]) := own_one wr (Nat.le_refl _)
      have src1 : Reads (wr.alloc (.cells #[.int .u8 (x : Nat)] 5)).drew (wr.alloc (.cells #[.int .u8 (x : Nat)] 5)).drew.heap.size 1 Ar lr.length (cells lr) := hS.out.r.rd.up K1
      have HX := Lib.hid hx
      have HO1 := Lib.hid own1
      clear hx own1
      go_wp2_with fail
      refine region_L (fun w' => FloorS w' w.heap.size gr k ad la.length c (x : Int) Ar lr.length cr) 11 (by kernel_rfl) ?_
      refine takeL (i := 0) (v := .pointer (some ⟨w.heap.size, 1, none⟩)) rfl (by kernel_rfl) (by kernel_rfl) (by kernel_rfl) (by kernel_rfl) (fun _ _ _ h => h) (by rfl) (fun w' hS => ?_) (HFS.out _ (Below.refl _ wr).drew) ?_
      · obtain ⟨s0, s1, s2, s3, s4, s5⟩ := hS
        go_simp
      try simp only [Act.put, List.setIfInBounds_toArray, List.set_cons_zero, List.set_cons_succ]
      refine takeL (i := 1) (v := .slice (some ad) la.length c) rfl (by kernel_rfl) (by kernel_rfl) (by kernel_rfl) (by kernel_rfl) (fun _ _ _ h => h) (by rfl) (fun w' hS => ?_) (HFS.out _ (Below.refl _ wr).drew) ?_
      · obtain ⟨s0, s1, s2, s3, s4, s5⟩ := hS
        go_simp
      try simp only [Act.put, List.setIfInBounds_toArray, List.set_cons_zero, List.set_cons_succ]
      refine takeL (i := 2) (v := .int .i64 (k : Nat)) rfl (by kernel_rfl) (by kernel_rfl) (by kernel_rfl) (by kernel_rfl) (fun _ _ _ h => h) (by rfl) (fun w' hS => ?_) (HFS.out _ (Below.refl _ wr).drew) ?_
      · obtain ⟨s0, s1, s2, s3, s4, s5⟩ := hS
        go_simp
      try simp only [Act.put, List.setIfInBounds_toArray, List.set_cons_zero, List.set_cons_succ]
      refine takeL (i := 3) (v := .pointer (some (ad.add k))) rfl (by kernel_rfl) (by kernel_rfl) (by kernel_rfl) (by kernel_rfl) (fun _ _ _ h => h) (by rfl) (fun w' hS => ?_) (HFS.out _ (Below.refl _ wr).drew) ?_
      · obtain ⟨s0, s1, s2, s3, s4, s5⟩ := hS
        go_simp
      try simp only [Act.put, List.setIfInBounds_toArray, List.set_cons_zero, List.set_cons_succ]
      refine takeL (i := 4) (v := .int .u8 (x : Nat)) rfl (by kernel_rfl) (by kernel_rfl) (by kernel_rfl) (by kernel_rfl) (fun _ _ _ h => h) (by rfl) (fun w' hS => ?_) (HFS.out _ (Below.refl _ wr).drew) ?_
      · obtain ⟨s0, s1, s2, s3, s4, s5⟩ := hS
        go_simp
      try simp only [Act.put, List.setIfInBounds_toArray, List.set_cons_zero, List.set_cons_succ]
      refine takeL (i := 6) (v := .pointer (some ⟨gr, 1, none⟩)) rfl (by kernel_rfl) (by kernel_rfl) (by kernel_rfl) (by kernel_rfl) (fun _ _ _ h => h) (by rfl) (fun w' hS => ?_) (HFS.out _ (Below.refl _ wr).drew) ?_
      · obtain ⟨s0, s1, s2, s3, s4, s5⟩ := hS
        go_simp
      try simp only [Act.put, List.setIfInBounds_toArray, List.set_cons_zero, List.set_cons_succ]
      refine takeL (i := 7) (v := .slice Ar lr.length cr) rfl (by kernel_rfl) (by kernel_rfl) (by kernel_rfl) (by kernel_rfl) (fun _ _ _ h => h) (by rfl) (fun w' hS => ?_) (HFS.out _ (Below.refl _ wr).drew) ?_
      · obtain ⟨s0, s1, s2, s3, s4, s5⟩ := hS
        go_simp
      try simp only [Act.put, List.setIfInBounds_toArray, List.set_cons_zero, List.set_cons_succ]
      refine nextL (i := 5) (by kernel_rfl) rfl (fun K hK => ?_)
      go_simp
      refine hK _ _ (fun _ => HFS.out _ K1) ?_
      clear hK K
      try simp only [Act.put, List.setIfInBounds_toArray, List.set_cons_zero, List.set_cons_succ]
      refine nextL (i := 8) (by kernel_rfl) rfl (fun K hK => ?_)
      refine step_append_any _ (by rfl) _ _ _ (by rfl) wr.heap.size 5 i0 (.int .u8 0) 1 1 Try.underlying110 hi0 hz0 hz1 hz2 rfl (by omega) (.slice (some ⟨wr.heap.size, 0, none⟩) 1 1) 1 (cells [x]) (by rfl) HO1.out _ Ar lr.length cr (cells lr) (by rfl) src1 (cells_one lr) (by simp only [maxLen]; omega) (by omega) (by simp) ?_
      intro v2 w2 hown2 hg2 hat2
      have K2 : Below wr.heap.size wr w2 := K1.grown hg2 (by simp) (fun j hj => by simp [Value.ownBlock] at hj; omega)
      obtain ⟨A2, c2, rfl, rd2⟩ := own_form (l := x :: lr) (by have := cells_app [x] lr; rw [← this] at hown2; exact hown2) (by simp; omega)
      refine hK _ _ (fun _ => HFS.out _ K2) ?_
      clear hK K hown2 hg2 hat2 HO1 src1
      try simp only [Act.put, List.setIfInBounds_toArray, List.set_cons_zero, List.set_cons_succ]
      refine takeL (i := 9) (v := .agg #[.bool false, .slice A2 (x :: lr).length c2]) rfl (by kernel_rfl) (by kernel_rfl) (by kernel_rfl) (by kernel_rfl) (fun _ _ _ h => h) (by rfl) (fun w' hS => ?_) (HFS.out _ K2) ?_
      · obtain ⟨s0, s1, s2, s3, s4, s5⟩ := hS
        go_simp
      try simp only [Act.put, List.setIfInBounds_toArray, List.set_cons_zero, List.set_cons_succ]
      have TR := trimN A2 c2 (x :: lr) (x + 2 * L.nat lr) w2 rd2 (hC.1.cons bl) (by simp; omega) rfl
      refine nextL (i := 10) (by kernel_rfl) rfl (fun K hK => ?_)
      go_simp
      refine TR.mono ?_
      rintro e w3 ⟨A3, c3, l3, rfl, rd3, C3, e3, far3, hb3⟩
      have K3 : Below wr.heap.size wr w3 := K2.trans (hb3.mono K2.size)
      try dsimp only
      refine hK _ _ (fun _ => HFS.out _ K3) ?_
      clear hK K TR
      try simp only [Act.put, List.setIfInBounds_toArray, List.set_cons_zero, List.set_cons_succ]
      have F3 := HFS.out _ K3
      obtain ⟨s0', s1', s2', s3', s4', s5'⟩ := F3
      refine nextL (i := 11) (by kernel_rfl) rfl (fun K hK => ?_)
      go_simp
      refine hK _ _ (fun h => absurd rfl h) ?_
      clear hK K
      refine doneL (by kernel_rfl) ?_
      have S3 := (hS.out.below K3).setR (c' := c3) rd3 (fun ad' e' => by have := far3 ad' e'; have := K2.size; omega)
      have Z3 : ((w3.setCell ⟨gr, 0, none⟩ (.bool false)).setCell ⟨gr, 1, none⟩ (.slice A3 l3.length c3)).heap.size = w3.heap.size := by simp [World.setCell]
      generalize (w3.setCell ⟨gr, 0, none⟩ (.bool false)).setCell ⟨gr, 1, none⟩ (.slice A3 l3.length c3) = w4 at *
      have l3l : l3.length ≤ 401 := by
        have h2 := L.nat_lt (hC.1.cons bl : L.Bits (x :: lr))
        have h3 : L.nat (x :: lr) = x + 2 * L.nat lr := rfl
        have := L.can_len C3 (k := (x :: lr).length) (by rw [e3, ← h3]; exact h2)
        simp at this; omega
      have rB4 : Reads w4 w4.heap.size 1 B ld.length (cells ld) := ((hb.below LD.b).below (S3.b.mono (by omega))).more (by have := S3.s; omega)
      have cAb := above_any A3 B c3 d l3 ld w4 S3.r.rd rB4 C3.1 xb.1 (by omega) (by omega)
      rw [e3, hD] at cAb
      have SG : M.sgn ((x + 2 * L.nat lr : Nat) : Int) (D : Int) < 0 ∨ 0 ≤ M.sgn ((x + 2 * L.nat lr : Nat) : Int) (D : Int) := by omega
      have SGlt := fun h : x + 2 * L.nat lr < D => M.sgn_lt (m := ((x + 2 * L.nat lr : Nat) : Int)) (n := (D : Int)) (by omega)
      have SGge : D ≤ x + 2 * L.nat lr → 0 ≤ M.sgn ((x + 2 * L.nat lr : Nat) : Int) (D : Int) := by
        intro h
        rcases Nat.eq_or_lt_of_le h with h | h
        · rw [← M.sgn_eq (by omega) (by omega)]; omega
        · rw [← M.sgn_gt (by omega)]; omega
      have HD1 := Lib.hid (fun g => L.div_one HI.out hk (by rw [HX.out]; exact g) (by rw [HX.out]; exact bl))
      have HD0 := Lib.hid (fun g => L.div_nought HI.out hk (by rw [HX.out]; exact g))
      rw [HX.out] at HD1 HD0
      have E3 := Lib.hid e3
      have d4 : w4.cell? ⟨n1, 1, none⟩ = some (.slice B ld.length d) := (S3.b.cell (p := ⟨n1, 1, none⟩) (by dsimp only; omega)).trans LD.d1
      have r4 := S3.r.c1
      have HS3 := Lib.hid S3
      clear e3 s0' s1' s2' s3' s4' s5' S3 SG
      obtain ⟨sg, hsg⟩ : ∃ s, M.sgn ((x + 2 * L.nat lr : Nat) : Int) (D : Int) = s := ⟨_, rfl⟩
      rw [hsg] at cAb SGge SGlt
      clear hsg
      rcases Nat.lt_or_ge (x + 2 * L.nat lr) D with g | g
      · have g1 : sg < 0 := by have := SGlt g; omega
        have gb : decide (0 ≤ sg) = false := decide_eq_false (by omega)
        have HDN := Lib.hid (HD0.out g)
        clear SGge SGlt g1 HD0 HD1
        go_wp2_with fail
        refine cAb.mono ?_
        rintro e w5 ⟨rfl, hb5⟩
        have S5 := HS3.out.below hb5
        have q5 := S5.q.c1
        have f5 := S5.q.f1
        have lt5 := S5.lt
        have z5 := S5.s
        have own9 : (w5.alloc (.cells #[.int .u8 0] 5)).ownsRow w5.heap.size 5 1 (.slice (some ⟨w5.heap.size, 0, none⟩) 1 1) 1 (cells [0]) := own_one w5 (Nat.le_refl _)
        have N9 := S5.new (.cells #[.int .u8 0] 5)
        have src9 := N9.q.rd
        have q9n := N9.q.c1
        have HO9 := Lib.hid own9
        have HN9 := Lib.hid N9
        have lql : lq.length ≤ 400 := by have := HI.out.2.1; omega
        clear own9 N9
        go_wp2_with (at_builtin; refine wpList_append_any _ rfl _ _ 110 (by rfl) w5.heap.size 5 i0 (.int .u8 0) 1 1 Try.underlying110 hi0 hz0 hz1 hz2 rfl (by omega) (.slice (some ⟨w5.heap.size, 0, none⟩) 1 1) 1 (cells [0]) (by rfl) HO9.out _ Aq lq.length cq (cells lq) (by rfl) src9 (cells_one lq) (by simp only [maxLen]; omega) (by omega) (by simp) ?_; intro v9 w9 hown9 hg9 hat9; obtain ⟨A9, c9, rfl, rd9⟩ := own_form (l := 0 :: lq) (by have := cells_app [0] lq; rw [← this] at hown9; exact hown9) (by simp; omega); have K9 : Below w5.heap.size w5 w9 := ((Below.refl _ w5).alloc (Nat.le_refl _) _).grown hg9 (by simp) (fun j hj => by simp [Value.ownBlock] at hj; omega); have S9 := S5.below K9; have q9 := S9.q.c1; have f9 := S9.q.f1)
        clear q5 f5 q9n src9
        have S10 := S9.setQ (c' := c9) rd9 (far_own hat9 (by omega) (by simp; omega))
        exact ⟨⟨k, A3, A9, c3, c9, l3, 0 :: lq, rfl, by omega, Lib.hid (by rw [E3.out]; exact HDN.out), C3, Lib.hid S10⟩, by simp [intOf]⟩
      · have g1 : 0 ≤ sg := SGge g
        have gb : decide (0 ≤ sg) = true := decide_eq_true g1
        have HDN := Lib.hid (HD1.out g)
        clear SGge SGlt g1 HD0 HD1
        go_wp2_with fail
        refine cAb.mono ?_
        rintro e w5 ⟨rfl, hb5⟩
        have S5 := HS3.out.below hb5
        have r5 := S5.r.c1
        have d5 := (hb5.cell (p := ⟨n1, 1, none⟩) (by have := HS3.out.s; dsimp only; omega)).trans d4
        have rB5 : Reads w5 w5.heap.size 1 B ld.length (cells ld) := rB4.up hb5
        have cLs := (less_any A3 B c3 d l3 ld w5 S5.r.rd rB5 C3.1 xb.1 (by omega) (by omega) (by rw [hD, E3.out]; exact g)).mono fun _ _ h => sl_of h
        clear r4 d4 rB4 cAb
        go_wp2_with fail
        refine cLs.mono ?_
        rintro e w6 ⟨A6, c6, l6, rfl, rd6, P6, hb6⟩
        have TR6 := trimN A6 c6 l6 (x + 2 * L.nat lr - D) w6 rd6 P6.1 (by have := P6.2.2; omega) (by rw [P6.2.1, E3.out, hD])
        clear r5 d5 rB5 cLs P6
        go_wp2_with fail
        refine TR6.mono ?_
        rintro e w7 ⟨A7, c7, l7, rfl, rd7, C7, e7, far7, hb7⟩
        have S7 := (S5.below hb6).below hb7
        have s7 := S7.s
        have cc0 := S7.r.c0
        have cc1 := S7.r.c1
        have ff0 := S7.r.f0
        have ff1 := S7.r.f1
        have E7 := Lib.hid e7
        have S8 := S7.setR (c' := c7) rd7 (fun ad' e' => by have := far7 ad' e'; have := S5.s; have := hb6.size; omega)
        have HS8 := Lib.hid S8
        clear TR6 e7 S7 S8
        go_upto_region 10 with fail
        generalize (w7.setCell ⟨gr, 0, none⟩ (.bool false)).setCell ⟨gr, 1, none⟩ (.slice A7 l7.length c7) = w8 at *
        clear cc0 cc1 ff0 ff1
        have S8 := HS8.out
        have q8 := S8.q.c1
        have f8 := S8.q.f1
        have lt8 := S8.lt
        have z8 := S8.s
        have own9 : (w8.alloc (.cells #[.int .u8 1] 5)).ownsRow w8.heap.size 5 1 (.slice (some ⟨w8.heap.size, 0, none⟩) 1 1) 1 (cells [1]) := own_one w8 (Nat.le_refl _)
        have N9 := S8.new (.cells #[.int .u8 1] 5)
        have src9 := N9.q.rd
        have q9n := N9.q.c1
        have HO9 := Lib.hid own9
        have HN9 := Lib.hid N9
        have lql : lq.length ≤ 400 := by have := HI.out.2.1; omega
        clear own9 N9
        go_wp2_with (at_builtin; refine wpList_append_any _ rfl _ _ 110 (by rfl) w8.heap.size 5 i0 (.int .u8 0) 1 1 Try.underlying110 hi0 hz0 hz1 hz2 rfl (by omega) (.slice (some ⟨w8.heap.size, 0, none⟩) 1 1) 1 (cells [1]) (by rfl) HO9.out _ Aq lq.length cq (cells lq) (by rfl) src9 (cells_one lq) (by simp only [maxLen]; omega) (by omega) (by simp) ?_; intro v9 w9 hown9 hg9 hat9; obtain ⟨A9, c9, rfl, rd9⟩ := own_form (l := 1 :: lq) (by have := cells_app [1] lq; rw [← this] at hown9; exact hown9) (by simp; omega); have K9 : Below w8.heap.size w8 w9 := ((Below.refl _ w8).alloc (Nat.le_refl _) _).grown hg9 (by simp) (fun j hj => by simp [Value.ownBlock] at hj; omega); have S9 := S8.below K9; have q9 := S9.q.c1; have f9 := S9.q.f1)
        clear q8 f8 q9n src9
        have S10 := S9.setQ (c' := c9) rd9 (far_own hat9 (by omega) (by simp; omega))
        exact ⟨⟨k, A7, A9, c7, c9, l7, 1 :: lq, rfl, by omega, Lib.hid (by rw [E7.out]; exact HDN.out), C7, Lib.hid S10⟩, by simp [intOf]⟩
end Go.Proofs.Ytdkppkdoconfhaa
namespace Go.Proofs.Ytdkppkdoconfhaa
open Go.ChangeShapes Go.WideShapes Go.ChangeAt Go.RowKit
set_option linter.unusedVariables false
set_option linter.unusedSimpArgs false

theorem floorZ {w : World} {z d : Int} {A B : Option Addr} {la ld : List Nat} (c e : Nat) (h : NumR w z A la) (g : NumR w d B ld) (d1 : 1 ≤ d) (hl : la.length ≤ 400) (hm : ld.length ≤ 400) :
    Calls Try.prog 79 #[.agg #[.bool (decide (z < 0)), .slice A la.length c], .agg #[.bool (decide (d < 0)), .slice B ld.length e]] w (RetTwo w (z / d) (z % d)) := by
  obtain ⟨D, rfl⟩ := Int.eq_ofNat_of_zero_le (show 0 ≤ d by omega)
  have := floor_core (decide (z < 0)) A B c e la ld D w h.1 h.2.1.1 hl g.1 g.2.1 (by have := g.2.2; omega) (by omega) hm
  have e1 : decide ((D : Int) < 0) = false := decide_eq_false (by omega)
  rw [sg_dec h.2.2] at this
  rw [e1]
  exact this
theorem one_new24 (w : World) (x y : Value) : (w.alloc (.cells #[x, y] 80)).cell? ⟨w.heap.size, 0, none⟩ = some x ∧ (w.alloc (.cells #[x, y] 80)).cell? ⟨w.heap.size, 1, none⟩ = some y ∧ (w.alloc (.cells #[x, y] 80)).frozen? ⟨w.heap.size, 0, none⟩ = false ∧ (w.alloc (.cells #[x, y] 80)).frozen? ⟨w.heap.size, 1, none⟩ = false :=
  ⟨by simp, by simp, World.frozen?_alloc_new _ _ _ _, World.frozen?_alloc_new _ _ _ _⟩
set_option maxHeartbeats 2000000 in
theorem rmul_any (m n : Int) (m1 : -9223372036854775808 ≤ m) (m2 : m < 9223372036854775808) (n1 : -9223372036854775808 ≤ n) (n2 : n < 9223372036854775808) (w : World) :
    Calls Try.prog 78 #[.int .i64 m, .int .i64 n] w fun e w' => e = .returned (.agg #[.int .i64 (M.oh (m * n)), .int .u64 (M.ol (m * n))]) ∧ Below w.heap.size w w' := by
  have cM := fun w => num_any m m1 m2 w
  have cN := fun w => num_any n n1 n2 w
  have om : m.natAbs < 2 ^ 128 := by omega
  have on : n.natAbs < 2 ^ 128 := by omega
  have oz := mul_size om on
  have HT := Lib.hid (one_new24 w (.int .i64 0) (.int .u64 0))
  have hs : w.heap.size < (w.alloc (.cells #[.int .i64 0, .int .u64 0] 80)).heap.size := by simp
  have K : Below w.heap.size w (w.alloc (.cells #[.int .i64 0, .int .u64 0] 80)) := (Below.refl _ w).alloc (Nat.le_refl _) _
  have O1 := Lib.hid om
  have O2 := Lib.hid on
  have O3 := Lib.hid oz
  clear om on oz m1 m2 n1 n2
  go_enter Try.func78, Try.ntmps78
  go_wp2_with fail
  refine (cM _).mono ?_
  rintro e w1 ⟨A, c, la, rfl, hr, hC, hz, _, hb⟩
  have NA : NumR w1 m A la := ⟨hr, hC, hz⟩
  have LA := NA.len 128 O1.out
  have G := hb
  clear hb hr hC hz
  go_wp2_with fail
  refine (cN _).mono ?_
  rintro e w2 ⟨B, d, lb, rfl, hr, hC, hz, _, hb⟩
  have NB : NumR w2 n B lb := ⟨hr, hC, hz⟩
  have LB := NB.len 128 O2.out
  have NA2 := NA.up hb
  replace G := G.trans (hb.mono G.size)
  clear hb hr hC hz NA
  go_wp2_with fail
  refine (prodZ c d NA2 NB (by omega) (by omega)).mono ?_
  rintro e w3 ⟨A2, c2, l2, rfl, hr, hC, hz, _, hb⟩
  have NC : NumR w3 (m * n) A2 l2 := ⟨hr, hC, hz⟩
  have LC := NC.len 256 O3.out
  replace G := G.trans (hb.mono G.size)
  clear hb hr hC hz NA2 NB
  go_wp2_with fail
  refine (toZ c2 NC (by omega)).mono ?_
  rintro e w4 ⟨rfl, hb⟩
  replace G := G.trans (hb.mono G.size)
  have p1 := (G.cell (p := ⟨w.heap.size, 0, none⟩) hs).trans HT.out.1
  have p2 := (G.cell (p := ⟨w.heap.size, 1, none⟩) hs).trans HT.out.2.1
  have p3 := (G.frozen (p := ⟨w.heap.size, 0, none⟩) hs).trans HT.out.2.2.1
  have p4 := (G.frozen (p := ⟨w.heap.size, 1, none⟩) hs).trans HT.out.2.2.2
  have K3 := K.trans (G.mono K.size)
  have z4 : w.heap.size < w4.heap.size := Nat.lt_of_lt_of_le hs G.size
  obtain ⟨x, hx⟩ : ∃ x, M.oh (m * n) = x := ⟨_, rfl⟩
  obtain ⟨y, hy⟩ : ∃ y, M.ol (m * n) = y := ⟨_, rfl⟩
  have HX := Lib.hid hx
  have HY := Lib.hid hy
  obtain ⟨s0, s1, sz, KS⟩ := set2 (v := .int .i64 x) (u := .int .u64 y) K3 (Nat.le_refl _) p1 p2 z4
  have a0 : (((w4.setCell ⟨w.heap.size, 0, none⟩ (.int .i64 x)).setCell ⟨w.heap.size, 1, none⟩ (.int .u64 y)).alloc (.cells #[.int .i64 x, .int .u64 y] 80)).cell? ⟨w.heap.size, 0, none⟩ = some (.int .i64 x) := (World.cell?_alloc_lt _ _ ⟨w.heap.size, 0, none⟩ sz).trans s0
  have a1 : (((w4.setCell ⟨w.heap.size, 0, none⟩ (.int .i64 x)).setCell ⟨w.heap.size, 1, none⟩ (.int .u64 y)).alloc (.cells #[.int .i64 x, .int .u64 y] 80)).cell? ⟨w.heap.size, 1, none⟩ = some (.int .u64 y) := (World.cell?_alloc_lt _ _ ⟨w.heap.size, 1, none⟩ sz).trans s1
  clear hb G s0 s1
  go_wp2_with fail
  clear p1 p2
  exact bodyPost_ret (v := .agg #[.int .i64 x, .int .u64 y]) (by simp [results, Try.results78, go_sem, a0, a1]) rfl ⟨by rw [HX.out, HY.out], KS.alloc (Nat.le_of_lt sz) _⟩
theorem rdiv_keep {x : World} {a b g : Nat} {v u y p q : Value} (ha : g ≠ a) (hb : g ≠ b) (h : x.cell? ⟨a, 0, none⟩ = some v ∧ x.cell? ⟨a, 1, none⟩ = some u ∧ x.cell? ⟨b, 1, none⟩ = some y) :
    ((x.setCell ⟨g, 0, none⟩ p).setCell ⟨g, 1, none⟩ q).drew.cell? ⟨a, 0, none⟩ = some v ∧ ((x.setCell ⟨g, 0, none⟩ p).setCell ⟨g, 1, none⟩ q).drew.cell? ⟨a, 1, none⟩ = some u ∧ ((x.setCell ⟨g, 0, none⟩ p).setCell ⟨g, 1, none⟩ q).drew.cell? ⟨b, 1, none⟩ = some y := by
  have s : ∀ (k i : Nat), g ≠ k → ((x.setCell ⟨g, 0, none⟩ p).setCell ⟨g, 1, none⟩ q).cell? ⟨k, i, none⟩ = x.cell? ⟨k, i, none⟩ := fun k i hk =>
    (World.cell?_setCell_other _ _ _ _ (fun e => hk (by injection e))).trans (World.cell?_setCell_other _ _ _ _ (fun e => hk (by injection e)))
  exact ⟨(s a 0 ha).trans h.1, (s a 1 ha).trans h.2.1, (s b 1 hb).trans h.2.2⟩
end Go.Proofs.Ytdkppkdoconfhaa
