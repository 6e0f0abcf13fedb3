/-
  For every slice of ints and every int the law GuardEach returns true: Each does its function of 0, 1 and so on till one gives up with an error that is not OK, and tells its number. No condition.
-/
import Derived.Test.YtlggclehakcdaaaRow
import Derived.Test.YtlggclehakcdaaaEach
import Derived.Deep.DeepCutAuto
namespace Go.Proofs.Ytlggclehakcdaaa.guardEach
open Go.ChangeShapes Go.WideShapes Go.ChangeAt Go.RowKit
set_option linter.unusedVariables false

theorem own : ownKnob Try.prog.godebug = none := by kernel_rfl
theorem cells3 : Try.prog.cellsOf 3 = 1 := by kernel_rfl
/-- A slice of ints that came in. -/
theorem open24 {H : Type} {enc : TypeId × Value → H} {w : World} {r : Reach} {b0 : Nat} {v : Value} {d : DataW H} {p : List MemPlace}
    (hv : Value.okWide Try.prog w r b0 24 v) (h : DataW.Trod enc Try.prog w 0 (fun _ => true) true 24 v d p) (hlt : ∀ x ∈ p, x.block < w.heap.size) :
    ∃ A len cap z, v = .slice A len cap ∧ RowAt w A len z ∧ len ≤ 9223372036854775807 := by
  obtain ⟨A, len, cap, rfl⟩ := okWide_slice Try.underlying24 hv
  obtain ⟨fuel, hf⟩ := h
  refine ⟨A, len, cap, ?_⟩
  rcases open_ints Try.underlying24 Try.underlying3 cells3 hf with ⟨hcs, hx⟩ | ⟨a, len', cap', zs, hcs, _, hl, hm, hz, hx, hcell, hwz⟩
  · simp [Value.cells] at hcs
    obtain ⟨rfl, rfl, rfl⟩ := hcs
    exact ⟨fun _ => 0, rfl, fun i hi => absurd hi (by omega), by omega⟩
  · simp [Value.cells] at hcs
    obtain ⟨rfl, rfl, rfl⟩ := hcs
    simp only [Prod.mk.injEq] at hx
    obtain ⟨rfl, rfl⟩ := hx
    simp only [if_true] at hz
    refine ⟨fun i => zs.getD i 0, rfl, fun i hi => ⟨a, rfl, ?_, hcell i (by omega)⟩, by unfold maxLen at hm; omega⟩
    obtain ⟨b, off, spot⟩ := a
    exact hlt (.cell b off) (MemPlace.mem_row.2 ⟨0, by omega, by simp⟩)
/-- How far the first numbers are 0. -/
def first (z : Nat → Int) : Nat → Nat → Nat
  | 0, k => k
  | n + 1, k => if z k = 0 then first z n (k + 1) else k
theorem first_of (z : Nat → Int) : ∀ n k, k ≤ first z n k ∧ first z n k ≤ k + n ∧ (∀ i, k ≤ i → i < first z n k → z i = 0) ∧ (first z n k < k + n → z (first z n k) ≠ 0)
  | 0, k => ⟨Nat.le_refl _, Nat.le_refl _, fun i h1 h2 => absurd h2 (by unfold first; omega), fun h => absurd h (by unfold first; omega)⟩
  | n + 1, k => by
    by_cases h : z k = 0
    · have e : first z (n + 1) k = first z n (k + 1) := by rw [first, if_pos h]
      obtain ⟨h1, h2, h3, h4⟩ := first_of z n (k + 1)
      rw [e]
      refine ⟨by omega, by omega, fun i a b => ?_, fun b => h4 (by omega)⟩
      rcases Nat.eq_or_lt_of_le a with q | q
      · rw [← q]; exact h
      · exact h3 i q b
    · have e : first z (n + 1) k = k := by rw [first, if_neg h]
      rw [e]
      exact ⟨by omega, by omega, fun i a b => absurd b (by omega), fun _ => h⟩

set_option maxRecDepth 100000 in
set_option maxHeartbeats 4000000 in
theorem walk (A : Option Addr) (len cap : Nat) (z : Nat → Int) (n : Int) (r1 : -9223372036854775808 ≤ n) (s1 : n < 9223372036854775808) (hlen : len ≤ 9223372036854775807) (w : World) (hr : RowAt w A len z) :
    Calls Try.prog 5 #[.slice A len cap, .int .i64 n] w fun e w' => e = .returned (.bool true) ∧ Below w.heap.size w w' := by
  have aw := awake_any
  have hmf : ∀ (fn : Fn) (first cap : Array Value) (w : World), (Instr.makeFunc fn first cap).run Try.prog w = .ok (.func fn first cap) w := fun _ _ _ _ => rfl
  have K0 : Below w.heap.size w (w.alloc (.cells #[.slice A len cap] 24)) := (Below.refl _ w).alloc (Nat.le_refl _) _
  have C0 : (w.alloc (.cells #[.slice A len cap] 24)).cell? ⟨w.heap.size, 0, none⟩ = some (.slice A len cap) := by simp
  have HC := Lib.hid C0
  have S0 : w.heap.size < (w.alloc (.cells #[.slice A len cap] 24)).heap.size := by simp
  have R0 : RowAt (w.alloc (.cells #[.slice A len cap] 24)) A len z := hr.below ((Below.refl _ w).alloc (Nat.le_refl _) _)
  have HA : ∀ ad, A = some ad → 0 < len → ad.block < w.heap.size := by
    intro ad e h
    obtain ⟨ad', e', hb, _⟩ := hr 0 h
    rw [e] at e'
    cases e'
    exact hb
  clear C0 hr
  by_cases big : 60 < len
  · have b1 : (60 : Int) < (len : Int) := by omega
    go_enter Try.func5, Try.ntmps5
    go_wp2_with fail
    refine (aw _).mono ?_
    rintro e w1 ⟨rfl, hb⟩
    go_wp2_with fail
    go_ret
    exact ⟨rfl, K0.trans (hb.mono K0.size)⟩
  have b1 : ¬ (60 : Int) < (len : Int) := by omega
  have b2 : (len : Int) ≤ 60 := by omega
  obtain ⟨f0, f1, f2, f3⟩ := first_of z len 0
  obtain ⟨s, hs⟩ : ∃ s, first z len 0 = s := ⟨_, rfl⟩
  rw [hs] at f0 f1 f2 f3
  clear hs
  have HF := Lib.hid (And.intro f2 f3)
  have b3 : (len : Nat) ≤ 60 := by omega
  have b4 : s ≤ len := by omega
  clear f0 f1 f2 f3 big
  go_enter Try.func5, Try.ntmps5
  go_wp2_with fail
  refine (aw _).mono ?_
  rintro e w1 ⟨rfl, hb⟩
  have c1 := (hb.cell (p := ⟨w.heap.size, 0, none⟩) (by simp)).trans HC.out
  have R1 := R0.below hb
  have K1 := K0.trans (hb.mono K0.size)
  have S1 : w.heap.size < w1.heap.size := Nat.lt_of_lt_of_le S0 hb.size
  clear hb R0
  have W2c : (w1.alloc (.cells #[.int .i64 0] 3)).cell? ⟨w.heap.size, 0, none⟩ = some (.slice A len cap) := (World.cell?_alloc_lt w1 _ ⟨w.heap.size, 0, none⟩ S1).trans c1
  have R2 : RowAt (w1.alloc (.cells #[.int .i64 0] 3)) A len z := R1.below ((Below.refl _ w1).alloc (Nat.le_refl _) _)
  have D : ∀ i, i < len → Does 15 #[.pointer (some ⟨w1.heap.size, 0, none⟩), .pointer (some ⟨w.heap.size, 0, none⟩)] w1.heap.size (fun i => some (z i)) (fun i => i) (w1.alloc (.cells #[.int .i64 0] 3)) i := fun i hi =>
    c15 w1.heap.size w.heap.size A len cap z _ i (by omega) hi (by simp; omega) (by omega) W2c R2 (fun ad e => by have := HA ad e (by omega); omega)
  have K2 : Below w.heap.size w (w1.alloc (.cells #[.int .i64 0] 3)) := K1.alloc K1.size _
  have hcf : ∀ (k : Nat) (_ : k = 15 ∨ k = 17) (w : World) (args : Array Value), (callFunc k args).run Try.prog w = .ok (.enter k args) w := by
    rintro k (rfl | rfl) _ _ <;> kernel_rfl
  have EA : ∀ E kl, (s = len ∧ E = 0 ∧ (len : Int) = kl) ∨ (s < len ∧ z s = E ∧ E ≠ 0 ∧ ((s + 1 : Nat) : Int) = kl) → Calls Try.prog 14 #[.int .i64 len, .func (.func 15) #[] #[.pointer (some ⟨w1.heap.size, 0, none⟩), .pointer (some ⟨w.heap.size, 0, none⟩)]] (w1.alloc (.cells #[.int .i64 0] 3)) (EachEnds (w1.alloc (.cells #[.int .i64 0] 3)) w1.heap.size s E kl) :=
    fun E kl h => each_any 15 _ (hcf 15 (.inl rfl)) w1.heap.size len (fun i => some (z i)) (fun i => i) s E _ (by omega) (by simp) (by simp) (by simp) (fun i hi _ => D i hi) (fun i hi => HF.out.1 i (Nat.zero_le _) hi) kl h
  have NN := fun (m : Int) (h : m ≤ 0) (h' : -9223372036854775808 ≤ m) (w : World) => each_none 17 #[.pointer (some ⟨w1.heap.size, 0, none⟩)] m w h h'
  have b5 : (0 : Int) ≤ (len : Int) := by omega
  have fin : ∀ (E kl : Int) (w2 w3 : World), EachEnds (w1.alloc (.cells #[.int .i64 0] 3)) w1.heap.size s E kl (.returned (.tuple #[.int .i64 s, .int .i64 E])) w2 → Below w2.heap.size w2 w3 →
      w3.cell? ⟨w.heap.size, 0, none⟩ = some (.slice A len cap) ∧ w3.cell? ⟨w1.heap.size, 0, none⟩ = some (.int .i64 kl) ∧ RowAt w3 A len z ∧ Below w.heap.size w w3 := by
    rintro E kl w2 w3 ⟨_, g, c⟩ hb
    have z2 : w1.heap.size < w2.heap.size := Nat.lt_of_lt_of_le (by simp) g.size
    refine ⟨(hb.cell (p := ⟨w.heap.size, 0, none⟩) (by dsimp only; omega)).trans ((one_cell g (by simp; omega) (by dsimp only; omega)).trans W2c), (hb.cell (p := ⟨w1.heap.size, 0, none⟩) z2).trans c, ?_, ?_⟩
    · by_cases h : 0 < len
      · exact (R2.one g (fun ad e => by have := HA ad e h; omega)).below hb
      · intro i hi; omega
    · exact (K2.trans (one_below g K2.size (by omega))).trans (hb.mono (Nat.le_trans (by omega) (Nat.le_of_lt z2)))
  have FIN := Lib.hid fin
  have HD := Lib.hid D
  clear fin D W2c R2
  go_wp2_with fail
  go_loop [5] (fun v => ∃ i : Nat, i ≤ s ∧ v = .int .i64 i) (fun v => len - (intOf v).toNat)
  case atStart => exact ⟨0, by omega, rfl⟩
  case round =>
    obtain ⟨i, hi, rfl⟩ := hrel
    have i0 : (0 : Int) ≤ (i : Int) := by omega
    by_cases his : i < s
    · obtain ⟨ad, rfl, hab, hcl⟩ := R1 i (by omega)
      rw [HF.out.1 i (Nat.zero_le _) his] at hcl
      have q1 : (i : Int) < (len : Int) := by omega
      clear EA NN FIN HD HF
      go_wp2
      go_round
      case rel => exact ⟨i + 1, by omega, rfl⟩
      case measure => simp [intOf]; omega
    · obtain rfl : i = s := by omega
      rcases Nat.eq_or_lt_of_le b4 with q | q
      · subst q
        have T := EA 0 i (.inl ⟨rfl, rfl, rfl⟩)
        have q1 : ¬ (i : Int) < (i : Int) := by omega
        clear EA HF HD his hi
        rcases Int.lt_or_le 0 n with g | g
        all_goals
          go_wp2_with fail
          refine T.mono ?_
          rintro e w2 he
          have FF := FIN.out 0 i w2
          obtain ⟨rfl, gg, cc⟩ := he
          replace FF := fun w3 hb => FF w3 ⟨rfl, gg, cc⟩ hb
          have H2 := Lib.hid FF
          clear gg cc FF
          go_wp2_with fail
        · refine (NN 0 (by omega) (by omega) _).mono ?_
          rintro e w3 ⟨rfl, hb⟩
          obtain ⟨e1, e2, e3, K3⟩ := H2.out w3 hb
          clear hb
          go_wp2_with fail
          go_ret
          exact ⟨rfl, K3⟩
        · refine (NN n g r1 _).mono ?_
          rintro e w3 ⟨rfl, hb⟩
          obtain ⟨e1, e2, e3, K3⟩ := H2.out w3 hb
          clear hb
          go_wp2_with fail
          go_ret
          exact ⟨rfl, K3⟩
      · have hz := HF.out.2 (by omega)
        have T := EA (z i) ((i + 1 : Nat) : Int) (.inr ⟨q, rfl, hz, rfl⟩)
        have q1 : (i : Int) < (len : Int) := by omega
        have q2 : (z i == 0) = false := by simp [hz]
        have q3 : ((i : Int) == (len : Int)) = false := by simp; omega
        obtain ⟨ad, hA0, hab, hcl⟩ := R1 i q
        clear EA HF HD his hi hz
        subst hA0
        rcases Int.lt_or_le 0 n with g | g
        all_goals
          go_wp2_with fail
          refine T.mono ?_
          rintro e w2 he
          have FF := FIN.out (z i) ((i + 1 : Nat) : Int) w2
          obtain ⟨rfl, gg, cc⟩ := he
          replace FF := fun w3 hb => FF w3 ⟨rfl, gg, cc⟩ hb
          have H2 := Lib.hid FF
          clear gg cc FF
          go_wp2_with fail
        · refine (NN 0 (by omega) (by omega) _).mono ?_
          rintro e w3 ⟨rfl, hb⟩
          obtain ⟨e1, e2, e3, K3⟩ := H2.out w3 hb
          obtain ⟨ad', hA', _, hcl'⟩ := e3 i q
          cases hA'
          clear hb
          go_wp2_with fail
          go_ret
          exact ⟨rfl, K3⟩
        · refine (NN n g r1 _).mono ?_
          rintro e w3 ⟨rfl, hb⟩
          obtain ⟨e1, e2, e3, K3⟩ := H2.out w3 hb
          obtain ⟨ad', hA', _, hcl'⟩ := e3 i q
          cases hA'
          clear hb
          go_wp2_with fail
          go_ret
          exact ⟨rfl, K3⟩

theorem readable : ∀ t ∈ Try.f5.params.toList, Try.prog.readableRec t = true ∧ t < Try.prog.types.size := by
  intro t ht
  rw [Try.params5] at ht
  simp only [List.mem_cons, List.not_mem_nil, or_false] at ht
  repeat (first | (rcases ht with rfl | ht; exact ⟨by kernel_rfl, of_decide_eq_true (by kernel_rfl)⟩) | (subst ht; exact ⟨by kernel_rfl, of_decide_eq_true (by kernel_rfl)⟩))
set_option maxRecDepth 100000 in
theorem lifted (os : Os) (started : os.Started) (H : Type) (enc : TypeId × Value → H) :
    ReturnsInHanded {} Try.checked os 5 .any (Rows.guardEachSpec.pre6 enc Try.prog Try.f5 Rows.guardEachRow.domain false) (Rows.guardEachSpec.post enc Try.prog Try.f5 false true false false) := by
  refine returnsInHanded_of_change (C := Try.checked) own started (by kernel_rfl) Try.func5
    (ChangeSpec.witness6 (enc := enc) (C := Try.checked) false ⟨#[], #[.slice none 0 0, .int .i64 0], []⟩ 8 (by kernel_rfl) (by kernel_rfl) (by kernel_rfl) (by kernel_rfl)) ?_
  intro W base args ds gs before hval0 hW hcnd _
  have hval : ∀ (j : Nat) t v, Try.f5.params[j]? = some t → args[j]? = some v → Value.okWide Try.prog W .any base t v := hval0
  have hW' := hW
  obtain ⟨p, q, hA0, hV, rfl, hfz, hnd⟩ := hW
  have hA : DataW.TrodAll enc Try.prog W 0 (fun _ => true) true Try.f5.params.toList args.toList ds p := hA0
  rw [Try.params5] at hA hval
  have hlt : ∀ x ∈ p ++ q, x.block < W.heap.size := fun x hx => hW'.lt x hx
  obtain ⟨v0, v1, d0, d1, p0, p1, rfl, rfl, rfl, h0, h1⟩ := trodAll_two hA
  obtain ⟨rfl, rfl⟩ := trodVars_none hV
  obtain ⟨A, len, cap, z, rfl, hr, hlen⟩ := open24 (hval 0 24 v0 rfl rfl) h0 (fun x hx => hlt x (by simp [hx]))
  obtain ⟨n, rfl, rfl, rfl, x1⟩ := open_int Try.underlying3 (hval 1 3 v1 rfl rfl) h1
  clear hA0 hval0
  refine (walk A len cap z n (wf_rng x1).1 (wf_rng x1).2 hlen W hr).mono fun e W' ⟨he, hg⟩ => ?_
  subst he
  exact ⟨_, rfl, post_true (tb := 4) laid readable (by kernel_rfl) Try.underlying4 rfl (fun l hl => by
    match l, hl with
    | [_, _], _ => exact ⟨rfl, rfl, rfl⟩) hW' hg⟩

theorem over : Rows.guardEachRow.holds Try.pinned (OpenSpec.ofChange Rows.guardEachSpec) :=
  OpenClaim.holds_of_wide 5 Try.f5 rfl rfl rfl rfl rfl rfl rfl ⟨rfl, rfl, rfl, rfl, rfl⟩ rfl rfl rfl rfl rfl (by kernel_rfl) Try.func5 (by kernel_rfl)
    (of_decide_eq_true (by kernel_rfl)) (by unfold Func.isWrapper; first | (rw [if_pos (by decide +kernel)]; kernel_rfl) | (rw [if_neg (by decide +kernel)]; exact ⟨rfl, rfl⟩))
    (fun os started H enc _ => lifted os started H enc)

theorem proved : Rows.GuardEachSaid :=
  over
#print axioms proved
end Go.Proofs.Ytlggclehakcdaaa.guardEach
