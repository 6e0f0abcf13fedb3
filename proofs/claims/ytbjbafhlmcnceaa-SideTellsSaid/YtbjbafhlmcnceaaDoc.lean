/- Contracts of the document's sums of bits: bit, more, less, above. -/
import Derived.Test.YtbjbafhlmcnceaaMul
import Derived.Test.YtbjbafhlmcnceaaWords
import Derived.Test.YtbjbafhlmcnceaaDocM
import Derived.WalkKit
import Derived.ProofKit
import Derived.OpenShut
import Derived.Outline
import Derived.WalkLawsBesides
import Derived.Lib.Hide
import Derived.BigQuiet
import Derived.LoopTactic
import Derived.Deep.QuietTactic
import Derived.Deep.RegionHeld3
import Derived.Deep.DeepCutAuto
namespace Go.Proofs.Ytbjbafhlmcnceaa
open Go.ChangeShapes Go.WideShapes Go.ChangeAt Go.RowKit
set_option linter.unusedVariables false

def cells (l : List Nat) : List Value := l.map fun (b : Nat) => Value.int .u8 (b : Int)
theorem cells_one (l : List Nat) : ∀ u ∈ cells l, u.oneCell' = true := by
  intro u hu
  unfold cells at hu
  rw [List.mem_map] at hu
  obtain ⟨b, _, rfl⟩ := hu
  rfl
theorem cells_snoc (l : List Nat) (b : Nat) : cells (l ++ [b]) = cells l ++ [.int .u8 (b : Int)] := by simp [cells]
theorem cells_at {l : List Nat} {i : Nat} (h : i < l.length) : (cells l)[i]? = some (.int .u8 (L.bit l i : Int)) := by
  unfold cells; rw [List.getElem?_map, L.bit_in h]; rfl
theorem u8_info : (Try.prog.info? 5).map (fun i => (i.zero, i.size, i.bytes)) = some (some (.int .u8 0), 1, 1) := by kernel_rfl

theorem own_ge {w : World} {base : Nat} {e : TypeId} {size n : Nat} {v : Value} {xs : List Value} (h : w.ownsRow base e size v n xs) : ∀ k, v.ownBlock = some k → base ≤ k := by
  intro k hk
  rcases h.2 with ⟨rfl, _⟩ | ⟨g, cap, cur, rfl, hg, _⟩
  · simp [Value.ownBlock] at hk
  · simp [Value.ownBlock] at hk; omega
theorem new_one {w : World} {x : Value} {t : TypeId} : ∀ (j : Nat) (u : Value), [x][j]? = some u → (w.alloc (.cells #[x] t)).cell? ((⟨w.heap.size, 0, none⟩ : Addr).add j) = some u := by
  intro j u hu
  have : j = 0 := by
    rcases Nat.eq_zero_or_pos j with h | h
    · exact h
    · rw [List.getElem?_eq_none (by simp; omega)] at hu; cases hu
  subst this
  simp at hu
  subst hu
  simp [Addr.add, World.cell?_alloc_new]
theorem quiet_left {P : Program} {f : FuncId} {args : Array Value} {w : World} {n : Nat} {v : Value}
    (h : Calls P f args (w.drewN n) fun e w' => e = .returned v ∧ w.drewN n = w') : Calls P f args (w.drewN n) fun e w'' => e = .returned v ∧ ∃ m, w'' = w.drewN m :=
  h.mono fun _ _ ⟨he, hm⟩ => ⟨he, n, hm.symm⟩
/-- A call hands back a new row of bits. -/
def RetList (w : World) (P : List Nat → Prop) (e : Ending) (w' : World) : Prop :=
  ∃ v l, e = .returned v ∧ w'.ownsRow w.heap.size 5 1 v l.length (cells l) ∧ P l ∧ Below w.heap.size w w'
theorem bit_any (A : Option Addr) (c : Nat) (l : List Nat) (i : Nat) (w : World) (B : Nat) (h : Reads w B 1 A l.length (cells l)) (hn : l.length ≤ 1000) (hi : i ≤ 2000) :
    Calls Try.prog 43 #[.slice A l.length c, .int .i64 i] w fun e w' => e = .returned (.int .u8 (L.bit l i)) ∧ w = w' := by
  by_cases k : i < l.length
  · obtain ⟨ad, v, rfl, _, hx, hc⟩ := h.at_ k
    rw [cells_at k] at hx
    obtain rfl := Option.some.inj hx
    have k1 : (i : Int) < (l.length : Int) := by omega
    have k2 : (0 : Int) ≤ (i : Int) := by omega
    clear h hx
    generalize L.bit l i = x at *
    generalize l.length = n at *
    go_enter Try.func43, Try.ntmps43
    go_wp2
    go_ret
    exact ⟨rfl, rfl⟩
  · rw [L.bit_out (by omega)]
    have k1 : ¬ (i : Int) < (l.length : Int) := by omega
    clear h
    generalize l.length = n at *
    go_enter Try.func43, Try.ntmps43
    go_wp2
    go_ret
    exact ⟨rfl, rfl⟩
set_option maxHeartbeats 1000000 in
theorem more_any (A B : Option Addr) (c d : Nat) (a b : List Nat) (w : World) (ha : Reads w w.heap.size 1 A a.length (cells a)) (hb : Reads w w.heap.size 1 B b.length (cells b)) (xa : L.Bits a) (xb : L.Bits b) (na : a.length ≤ 900) (nb : b.length ≤ 900) :
    Calls Try.prog 42 #[.slice A a.length c, .slice B b.length d] w (RetList w fun l => L.Bits l ∧ L.nat l = L.nat a + L.nat b ∧ l.length ≤ max a.length b.length + 1) := by
  obtain ⟨i0, hi0, hz0, hz1, hz2⟩ := info_parts u8_info
  go_enter Try.func42, Try.ntmps42
  go_wp2
  go_loopw [5, 6, 7] (fun o c i wr => ∃ (l : List Nat) (x : Nat), i = .int .i64 (l.length : Nat) ∧ c = .int .u8 (x : Nat) ∧ wr.ownsRow w.heap.size 5 1 o l.length (cells l) ∧ L.MoreI a b l x ∧ Below w.heap.size w wr) (fun _ c i _ => (max a.length b.length + 1 - (intOf i).toNat))
  case atStart => exact ⟨[], 0, rfl, rfl, ⟨rfl, .inl ⟨rfl, rfl⟩⟩, L.more_start a b, Below.refl _ _⟩
  case round =>
    obtain ⟨l, x, rfl, rfl, hown, hI, hB⟩ := hrel
    have HI := Lib.hid hI
    have x2 := hI.2.1
    have hll : l.length ≤ max a.length b.length + 1 := by have := hI.2.2.2; omega
    clear hI
    have ha' := ha.below hB
    have hb' := hb.below hB
    have hz := hB.size
    by_cases hc : l.length < a.length ∨ l.length < b.length ∨ 0 < x
    · have cA := bit_any A c a l.length wr w.heap.size ha' (by omega) (by omega)
      have cB := bit_any B d b l.length wr w.heap.size hb' (by omega) (by omega)
      have p2 := L.bit_lt xa l.length
      have q2 := L.bit_lt xb l.length
      have N := Lib.hid (L.more_step xa xb HI.out hc)
      have hm : l.length < max a.length b.length + 1 := by
        have := HI.out.2.2.2; omega
      clear ha' hb'
      generalize L.bit a l.length = p at *
      generalize L.bit b l.length = q at *
      obtain ⟨y, hy⟩ : ∃ y, (p + q + x) % 2 = y := ⟨_, rfl⟩
      obtain ⟨z, hz'⟩ : ∃ z, (p + q + x) / 2 = z := ⟨_, rfl⟩
      rw [hy, hz'] at N
      have hy' : ((p : Int) + q + x) % 2 = (y : Int) := by omega
      have hz'' : ((p : Int) + q + x) / 2 = (z : Int) := by omega
      clear hy hz'
      have g1 : (l.length : Int) < a.length ∨ ((¬ (l.length : Int) < a.length) ∧ (l.length : Int) < b.length) ∨ ((¬ (l.length : Int) < a.length) ∧ (¬ (l.length : Int) < b.length) ∧ (0 : Int) < x) := by omega
      clear hc
      rcases g1 with g1 | ⟨g1, g2⟩ | ⟨g1, g2, g3⟩
      all_goals
        go_wp2_with fail
        refine cA.mono ?_; rintro e w' ⟨rfl, rfl⟩
        go_wp2_with fail
        refine cB.mono ?_; rintro e w' ⟨rfl, rfl⟩
        go_wp2_with (at_builtin; refine wpList_append_own _ rfl _ _ 48 rfl w.heap.size 5 i0 (.int .u8 0) 1 1 Try.underlying48 hi0 hz0 hz1 hz2 rfl (by decide) _ _ _ rfl (hown.alloc _) ⟨wr.heap.size, 0, none⟩ 1 1 [.int .u8 (y : Int)] rfl rfl new_one (by simp [Value.oneCell']) (by simp only [maxLen]; omega) (by omega) (by simp; omega) ?_; intro v' w1 hown1 hgrow _)
        exact ⟨⟨l ++ [y], z, vint (by simp), by first | rfl | exact vint hz'', by rw [cells_snoc, List.length_append]; exact hown1, N.out, (hB.alloc hz _).grown hgrow (by simp; omega) (fun k hk => own_ge hown k hk)⟩, by simp [intOf]; omega⟩
    · obtain ⟨e1, e2, e3⟩ := L.more_end HI.out hc
      have g1 : ¬ (l.length : Int) < a.length := by omega
      have g2 : ¬ (l.length : Int) < b.length := by omega
      have g3 : ¬ (0 : Int) < x := by omega
      have E1 := Lib.hid e1
      have E2 := Lib.hid e2
      have E3 := Lib.hid e3
      clear e1 e2 e3 hc ha' hb'
      go_wp2
      go_ret
      exact ⟨u5, l, rfl, hown, ⟨E1.out, E2.out, E3.out⟩, hB⟩
set_option maxHeartbeats 1000000 in
theorem less_any (A B : Option Addr) (c d : Nat) (a b : List Nat) (w : World) (ha : Reads w w.heap.size 1 A a.length (cells a)) (hb : Reads w w.heap.size 1 B b.length (cells b)) (xa : L.Bits a) (xb : L.Bits b) (na : a.length ≤ 900) (nb : b.length ≤ 900) (hab : L.nat b ≤ L.nat a) :
    Calls Try.prog 37 #[.slice A a.length c, .slice B b.length d] w (RetList w fun l => L.Bits l ∧ L.nat l = L.nat a - L.nat b ∧ l.length = a.length) := by
  obtain ⟨i0, hi0, hz0, hz1, hz2⟩ := info_parts u8_info
  have HAB := Lib.hid hab
  clear hab
  go_enter Try.func37, Try.ntmps37
  go_wp2
  go_loopw [5, 6, 7] (fun o c i wr => ∃ (l : List Nat) (x : Nat), i = .int .i64 (l.length : Nat) ∧ c = .int .u8 (x : Nat) ∧ wr.ownsRow w.heap.size 5 1 o l.length (cells l) ∧ L.LessI a b l x ∧ Below w.heap.size w wr) (fun _ c i _ => (a.length - (intOf i).toNat))
  case atStart => exact ⟨[], 0, rfl, rfl, ⟨rfl, .inl ⟨rfl, rfl⟩⟩, L.less_start a b, Below.refl _ _⟩
  case round =>
    obtain ⟨l, x, rfl, rfl, hown, hI, hB⟩ := hrel
    have HI := Lib.hid hI
    have x2 := hI.2.1
    have hll : l.length ≤ a.length := hI.2.2.1
    clear hI
    have ha' := ha.below hB
    have hb' := hb.below hB
    have hz := hB.size
    by_cases hc : l.length < a.length
    · have cB := fun k => bit_any B d b l.length (wr.drewN k) w.heap.size (hb'.drewN k) (by omega) (by omega)
      have p2 := L.bit_lt xa l.length
      have q2 := L.bit_lt xb l.length
      have N := Lib.hid (L.less_step xa xb HI.out hc)
      obtain ⟨ad, v, rfl, _, hx, hcell⟩ := ha'.at_ hc
      rw [cells_at hc] at hx
      obtain rfl := Option.some.inj hx
      clear ha' hb' hx
      generalize L.bit a l.length = p at *
      generalize L.bit b l.length = q at *
      obtain ⟨t, ht⟩ : ∃ t, 2 + p - q - x = t := ⟨_, rfl⟩
      obtain ⟨y, hy⟩ : ∃ y, t % 2 = y := ⟨_, rfl⟩
      obtain ⟨z, hz'⟩ : ∃ z, 1 - t / 2 = z := ⟨_, rfl⟩
      rw [ht, hy, hz'] at N
      have g1 : (l.length : Int) < a.length := by omega
      have g2 : (0 : Int) ≤ (l.length : Int) := by omega
      have w1 : IntKind.u8.wrap (2 + (p : Int)) = 2 + (p : Int) := by rw [IntKind.wrap_u8]; omega
      have w2 : IntKind.u8.wrap (2 + (p : Int) - (q : Int)) = 2 + (p : Int) - (q : Int) := by rw [IntKind.wrap_u8]; omega
      have w3 : IntKind.u8.wrap (2 + (p : Int) - (q : Int) - (x : Int)) = (t : Int) := by rw [IntKind.wrap_u8]; omega
      have t4 : t < 4 := by omega
      clear hc ht
      go_wp2_with fail
      go_quiet ((go_at_call 43; exact quiet_left (cB _)))
      have hy' : (t : Int) % 2 = (y : Int) := by omega
      have hz'' : (1 : Int) - (t : Int) / 2 = (z : Int) := by omega
      have hownq : (wr.drewN nq).ownsRow w.heap.size 5 1 u5 l.length (cells l) := hown
      have hBq := bdrewN hB nq
      have hzq : w.heap.size ≤ (wr.drewN nq).heap.size := hz
      clear hy hz' w1 w2 w3 hcell
      generalize wr.drewN nq = ws at *
      go_wp2_with (at_builtin; refine wpList_append_own _ rfl _ _ 48 rfl w.heap.size 5 i0 (.int .u8 0) 1 1 Try.underlying48 hi0 hz0 hz1 hz2 rfl (by decide) _ _ _ rfl (hownq.alloc _) ⟨ws.heap.size, 0, none⟩ 1 1 [.int .u8 (y : Int)] rfl rfl new_one (by simp [Value.oneCell']) (by simp only [maxLen]; omega) (by omega) (by simp; omega) ?_; intro v' w4 hown1 hgrow _)
      exact ⟨⟨l ++ [y], z, vint (by simp), by first | rfl | exact vint hz'', by rw [cells_snoc, List.length_append]; exact hown1, N.out, (hBq.alloc hzq _).grown hgrow (by simp; omega) (fun k hk => own_ge hownq k hk)⟩, by simp [intOf]; omega⟩
    · have hl : l.length = a.length := by omega
      obtain ⟨e1, e2⟩ := L.less_end xa xb HI.out hl HAB.out
      have g1 : ¬ (l.length : Int) < a.length := by omega
      have E1 := Lib.hid e1
      have E2 := Lib.hid e2
      have E3 := Lib.hid hl
      clear e1 e2 hl hc ha' hb'
      go_wp2
      go_ret
      exact ⟨u5, l, rfl, hown, ⟨E1.out, E2.out, E3.out⟩, hB⟩
theorem L.sgn_of {a b : List Nat} : M.sgn (L.nat a) (L.nat b) = if L.nat a < L.nat b then -1 else if L.nat b < L.nat a then 1 else 0 := by
  unfold M.sgn
  by_cases h : L.nat a < L.nat b
  · rw [if_pos (by omega), if_pos h]
  · rw [if_neg (by omega), if_neg h]
    by_cases g : L.nat b < L.nat a
    · rw [if_pos (by omega), if_pos g]
    · rw [if_neg (by omega), if_neg g]
set_option maxHeartbeats 1000000 in
theorem above_any (A B : Option Addr) (c d : Nat) (a b : List Nat) (w : World) (ha : Reads w w.heap.size 1 A a.length (cells a)) (hb : Reads w w.heap.size 1 B b.length (cells b)) (xa : L.Bits a) (xb : L.Bits b) (na : a.length ≤ 900) (nb : b.length ≤ 900) :
    Calls Try.prog 40 #[.slice A a.length c, .slice B b.length d] w fun e w' => e = .returned (.int .i64 (M.sgn (L.nat a) (L.nat b))) ∧ Below w.heap.size w w' := by
  have fin : ∀ p q : Nat, p < 2 → q < 2 → (p < q → L.nat a < L.nat b) → (q < p → L.nat b < L.nat a) → p ≠ q → (p : Int) - (q : Int) = M.sgn (L.nat a) (L.nat b) := by
    intro p q h1 h2 h3 h4 h5
    rw [L.sgn_of]
    rcases Nat.lt_or_gt_of_ne h5 with g | g
    · rw [if_pos (h3 g)]; omega
    · rw [if_neg (by have := h4 g; omega), if_pos (h4 g)]; omega
  have FIN := Lib.hid fin
  clear fin
  go_enter Try.func40, Try.ntmps40
  go_wp2
  all_goals
    go_loop [5] (fun i => ∃ j : Nat, i = .int .i64 ((j : Int) - 1) ∧ j ≤ max a.length b.length ∧ Hid (L.nat (a.drop j) = L.nat (b.drop j))) (fun i => (intOf i + 1).toNat)
    case atStart =>
      first
        | exact ⟨a.length, rfl, by omega, Lib.hid (by rw [L.nat_drop_out (Nat.le_refl _), L.nat_drop_out (by omega)])⟩
        | exact ⟨b.length, rfl, by omega, Lib.hid (by rw [L.nat_drop_out (by omega), L.nat_drop_out (Nat.le_refl _)])⟩
    case round =>
      obtain ⟨j, rfl, hj, hd⟩ := hrel
      rcases Nat.eq_zero_or_pos j with z | z
      · subst z
        have e : 0 = M.sgn (L.nat a) (L.nat b) := M.sgn_eq (by have := hd.out; simp at this; omega) (by have := hd.out; simp at this; omega)
        have E := Lib.hid e
        clear e
        go_wp2
        go_ret
        exact ⟨ret1 E.out, Below.refl _ _⟩
      · obtain ⟨i, rfl⟩ : ∃ i, j = i + 1 := ⟨j - 1, by omega⟩
        have ei : (((i + 1 : Nat) : Int) - 1) = (i : Int) := by omega
        rw [ei]
        have cA := bit_any A c a i w w.heap.size ha (by omega) (by omega)
        have cB := bit_any B d b i w w.heap.size hb (by omega) (by omega)
        have p2 := L.bit_lt xa i
        have q2 := L.bit_lt xb i
        have S := fun e : L.bit a i = L.bit b i => L.above_step hd.out e
        have T1 := fun e : L.bit a i < L.bit b i => L.above_ne xa xb hd.out e
        have T2 := fun e : L.bit b i < L.bit a i => L.above_ne xb xa hd.out.symm e
        generalize L.bit a i = p at *
        generalize L.bit b i = q at *
        have i0 : (0 : Int) ≤ (i : Int) := by omega
        by_cases pq : p = q
        · have S' := Lib.hid (S pq)
          subst pq
          clear S T1 T2
          go_wp2_with fail
          refine cA.mono ?_; rintro e w' ⟨rfl, rfl⟩
          go_wp2_with fail
          refine cB.mono ?_; rintro e w' ⟨rfl, rfl⟩
          go_wp2_with fail
          exact ⟨⟨i, rfl, by omega, S'⟩, by simp [intOf]⟩
        · have F := Lib.hid (FIN.out p q p2 q2 T1 T2 pq)
          have k : ((p : Int) != (q : Int)) = true := by simp; omega
          clear S T1 T2 pq
          go_wp2_with fail
          refine cA.mono ?_; rintro e w' ⟨rfl, rfl⟩
          go_wp2_with fail
          refine cB.mono ?_; rintro e w' ⟨rfl, rfl⟩
          go_wp2_with fail
          refine cA.mono ?_; rintro e w' ⟨rfl, rfl⟩
          go_wp2_with fail
          refine cB.mono ?_; rintro e w' ⟨rfl, rfl⟩
          go_wp2_with fail
          go_ret
          exact ⟨ret1 F.out, Below.refl _ _⟩
end Go.Proofs.Ytbjbafhlmcnceaa
