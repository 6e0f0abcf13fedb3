/- Contract of Each over a function that touches one variable. -/
import Derived.Test.YtlggclehakcdaaaAwake
import Derived.Deep.DeepCutAuto
import Derived.LoopTactic
import Derived.OwnWalk
import Derived.Maps.AppendAt
namespace Go.Proofs.Ytlggclehakcdaaa
open Go.ChangeShapes Go.WideShapes Go.ChangeAt Go.RowKit
set_option linter.unusedVariables false

/-! ### One block turns, and what is new -/
section
variable {a w : World} {g : Nat}
theorem one_refl (w : World) (g : Nat) : w.grownBy w (some g) := ⟨rfl, rfl, rfl, Nat.le_refl _, fun _ _ _ => rfl⟩
theorem one_new (h : a.grownBy w (some g)) (o : Obj) : a.grownBy (w.alloc o) (some g) :=
  ⟨h.os, h.tape, h.output, Nat.le_trans h.size (by simp), fun i hi hne => (Below.heap_alloc w o i (Nat.lt_of_lt_of_le hi h.size)).trans (h.block i hi hne)⟩
theorem one_set (h : a.grownBy w (some g)) {p : Addr} (hp : p.block = g ∨ a.heap.size ≤ p.block) (u : Value) : a.grownBy (w.setCell p u) (some g) :=
  ⟨h.os, h.tape, h.output, by simpa [World.setCell] using h.size, fun i hi hne => (Below.heap_setCell w p u i (by
    rintro rfl
    rcases hp with hp | hp
    · exact hne (by rw [hp])
    · omega)).trans (h.block i hi hne)⟩
theorem one_cell (h : a.grownBy w (some g)) {p : Addr} (hp : p.block < a.heap.size) (hne : p.block ≠ g) : w.cell? p = a.cell? p :=
  World.cell?_of_block (h.block p.block hp (fun e => hne (Option.some.inj e)))
theorem one_frozen (h : a.grownBy w (some g)) {p : Addr} (hp : p.block < a.heap.size) (hne : p.block ≠ g) : w.frozen? p = a.frozen? p :=
  World.frozen?_of_block (h.block p.block hp (fun e => hne (Option.some.inj e)))
theorem one_below (h : a.grownBy w (some g)) {B : Nat} (hB : B ≤ a.heap.size) (hg : B ≤ g) : Below B a w :=
  ⟨h.os, h.tape, h.output, h.size, fun i hi => h.block i (Nat.lt_of_lt_of_le hi hB) (fun e => by have := Option.some.inj e; omega)⟩
end

/-- The closure that Each makes for one number. -/
theorem c22 (f : FuncId) (cap : Array Value) (p3 p6 : Addr) (i : Int) (o : Option Int) (w : World) (R : World → Prop) (h3 : w.cell? p3 = some (.func (.func f) #[] cap)) (h6 : w.cell? p6 = some (.int .i64 i))
    (hcf : ∀ (w : World) (args : Array Value), (callFunc f args).run Try.prog w = .ok (.enter f args) w)
    (h : Calls Try.prog f (#[.int .i64 i] ++ cap) w fun e w' => e = Ends o ∧ R w') :
    Calls Try.prog 22 #[.pointer (some p3), .pointer (some p6)] w fun e w' => e = Ends o ∧ R w' := by
  rcases o with _ | n
  · go_enter Try.func22, Try.ntmps22
    go_wp2_with fail
    refine h.mono ?_
    rintro e w1 ⟨he, hR⟩
    have he : e = .returned (.tuple #[]) := he
    subst he
    go_wp2_with fail
    first | go_end0 | refine bodyPost_ret (results_none rfl _ _ _) rfl ?_
    exact ⟨rfl, hR⟩
  · go_enter Try.func22, Try.ntmps22
    go_wp2_with fail
    refine h.mono ?_
    rintro e w1 ⟨he, hR⟩
    have he : e = .panicked [{ v := .iface 40 (.int .i64 n), recovered := false }] := he
    subst he
    go_wp2_with fail
    exact ⟨rfl, rfl, hR⟩
/-- A function's i-th doing: it turns one variable from k i to k (i + 1), and ends as o i says. -/
def Does (f : FuncId) (cap : Array Value) (bn : Nat) (o : Nat → Option Int) (k : Nat → Int) (w : World) (i : Nat) : Prop :=
  ∀ wr : World, w.grownBy wr (some bn) → wr.cell? ⟨bn, 0, none⟩ = some (.int .i64 (k i)) → wr.frozen? ⟨bn, 0, none⟩ = false →
    Calls Try.prog f (#[.int .i64 i] ++ cap) wr fun e w' => e = Ends (o i) ∧ wr.grownBy w' (some bn) ∧ w'.cell? ⟨bn, 0, none⟩ = some (.int .i64 (k (i + 1))) ∧ w'.frozen? ⟨bn, 0, none⟩ = false
/-- One Try of Each. -/
theorem each_try (f : FuncId) (cap : Array Value) (hcf : ∀ (w : World) (args : Array Value), (callFunc f args).run Try.prog w = .ok (.enter f args) w) (bn : Nat) (o : Nat → Option Int) (k : Nat → Int) (w wr : World) (p3 : Addr) (i : Nat)
    (hbn : bn < w.heap.size) (hD : Does f cap bn o k w i) (hg : w.grownBy wr (some bn)) (hc : wr.cell? ⟨bn, 0, none⟩ = some (.int .i64 (k i))) (hz : wr.frozen? ⟨bn, 0, none⟩ = false) (h3 : wr.cell? p3 = some (.func (.func f) #[] cap)) (hp3 : p3.block < wr.heap.size) :
    Calls Try.prog 7 #[.func (.func 22) #[] #[.pointer (some p3), .pointer (some ⟨wr.heap.size, 0, none⟩)]] (wr.alloc (.cells #[.int .i64 i] 3)) fun e w' =>
      e = .returned (.int .i64 (errno (o i))) ∧ wr.grownBy w' (some bn) ∧ w'.cell? ⟨bn, 0, none⟩ = some (.int .i64 (k (i + 1))) ∧ w'.frozen? ⟨bn, 0, none⟩ = false ∧ w'.cell? ⟨wr.heap.size, 0, none⟩ = some (.int .i64 i) := by
  have hb2 : bn < wr.heap.size := Nat.lt_of_lt_of_le hbn hg.size
  have W2s : ((wr.alloc (.cells #[.int .i64 i] 3)).alloc (.cells #[.int .i64 0] 25)).heap.size = wr.heap.size + 1 + 1 := by simp
  have g2 : w.grownBy ((wr.alloc (.cells #[.int .i64 i] 3)).alloc (.cells #[.int .i64 0] 25)) (some bn) := one_new (one_new hg _) _
  have old : ∀ p : Addr, p.block < wr.heap.size → ((wr.alloc (.cells #[.int .i64 i] 3)).alloc (.cells #[.int .i64 0] 25)).cell? p = wr.cell? p := fun p hp =>
    (World.cell?_alloc_lt _ _ p (by simp; omega)).trans (World.cell?_alloc_lt wr _ p hp)
  have oldf : ((wr.alloc (.cells #[.int .i64 i] 3)).alloc (.cells #[.int .i64 0] 25)).frozen? ⟨bn, 0, none⟩ = false := by
    have h1 : ((wr.alloc (.cells #[.int .i64 i] 3)).alloc (.cells #[.int .i64 0] 25)).heap[bn]? = wr.heap[bn]? := (Below.heap_alloc _ _ bn (by simp; omega)).trans (Below.heap_alloc wr _ bn hb2)
    exact (World.frozen?_of_block (a := ⟨bn, 0, none⟩) h1).trans hz
  refine (try_any 22 _ (o i) _ (fun w1 => ((wr.alloc (.cells #[.int .i64 i] 3)).alloc (.cells #[.int .i64 0] 25)).grownBy w1 (some bn) ∧ w1.cell? ⟨bn, 0, none⟩ = some (.int .i64 (k (i + 1))) ∧ w1.frozen? ⟨bn, 0, none⟩ = false) (fun _ => by kernel_rfl)
    (c22 f cap p3 ⟨wr.heap.size, 0, none⟩ i (o i) _ _ ((old p3 hp3).trans h3) (by simp) hcf ((hD _ g2 ((old ⟨bn, 0, none⟩ hb2).trans hc) oldf).mono ?_))).mono ?_
  · rintro e w1 ⟨he, h1, h2, h4⟩
    refine ⟨he, ?_, ?_, h1, h2, h4⟩
    · exact (one_cell h1 (by simp <;> omega) (by simp <;> omega)).trans (by simp)
    · exact (one_frozen h1 (by simp <;> omega) (by simp <;> omega)).trans (by simp)
  · rintro e w1 ⟨he, w2, ⟨h1, h2, h4⟩, rfl⟩
    have n1 : (⟨(wr.alloc (.cells #[.int .i64 i] 3)).heap.size, 0, none⟩ : Addr) ≠ ⟨bn, 0, none⟩ := by simp <;> omega
    refine ⟨he, one_set ((one_new (one_new (one_refl wr bn) _) _).trans h1) (.inr (by simp <;> omega)) _, (World.cell?_setCell_other _ _ _ _ n1).trans h2, (World.frozen?_setCell _ _ _ _).trans h4, ?_⟩
    exact (World.cell?_setCell_other _ _ _ _ (by simp <;> omega)).trans ((one_cell h1 (by simp <;> omega) (by simp <;> omega)).trans (by simp))
/-- Each hands back how far it came, and why it stopped. -/
def EachEnds (w : World) (bn stop : Nat) (E kk : Int) (e : Ending) (w' : World) : Prop :=
  e = .returned (.tuple #[.int .i64 stop, .int .i64 E]) ∧ w.grownBy w' (some bn) ∧ w'.cell? ⟨bn, 0, none⟩ = some (.int .i64 kk)
set_option maxHeartbeats 1000000 in
theorem each_any (f : FuncId) (cap : Array Value) (hcf : ∀ (w : World) (args : Array Value), (callFunc f args).run Try.prog w = .ok (.enter f args) w) (bn N : Nat) (o : Nat → Option Int) (k : Nat → Int) (stop : Nat) (E : Int) (w : World)
    (hN : N ≤ 1000) (hbn : bn < w.heap.size) (h0 : w.cell? ⟨bn, 0, none⟩ = some (.int .i64 (k 0))) (f0 : w.frozen? ⟨bn, 0, none⟩ = false) (hD : ∀ i, i < N → i ≤ stop → Does f cap bn o k w i)
    (hz : ∀ i, i < stop → errno (o i) = 0) (kl : Int) (hs : (stop = N ∧ E = 0 ∧ k N = kl) ∨ (stop < N ∧ errno (o stop) = E ∧ E ≠ 0 ∧ k (stop + 1) = kl)) :
    Calls Try.prog 14 #[.int .i64 N, .func (.func f) #[] cap] w (EachEnds w bn stop E kl) := by
  have hmf : ∀ (fn : Fn) (first cap : Array Value) (w : World), (Instr.makeFunc fn first cap).run Try.prog w = .ok (.func fn first cap) w := fun _ _ _ _ => rfl
  have HS := Lib.hid hs
  have hsN : stop ≤ N := by omega
  have G1 : (w.alloc (.cells #[.func (.func f) #[] cap] 38)).cell? ⟨w.heap.size, 0, none⟩ = some (.func (.func f) #[] cap) := by simp
  have HG := Lib.hid G1
  have c0 : (w.alloc (.cells #[.func (.func f) #[] cap] 38)).cell? ⟨bn, 0, none⟩ = some (.int .i64 (k 0)) := (World.cell?_alloc_lt w _ ⟨bn, 0, none⟩ hbn).trans h0
  have e0 : (w.alloc (.cells #[.func (.func f) #[] cap] 38)).frozen? ⟨bn, 0, none⟩ = false := (World.frozen?_of_block (a := ⟨bn, 0, none⟩) (Below.heap_alloc w _ bn hbn)).trans f0
  have S1 : w.heap.size < (w.alloc (.cells #[.func (.func f) #[] cap] 38)).heap.size := by simp
  have B1 : w.grownBy (w.alloc (.cells #[.func (.func f) #[] cap] 38)) (some bn) := one_new (one_refl w bn) _
  have HC := Lib.hid (And.intro c0 e0)
  clear hs G1 h0 f0 c0 e0
  go_enter Try.func14, Try.ntmps14
  go_wp2
  generalize w.alloc (.cells #[.func (.func f) #[] cap] 38) = W1 at *
  go_loopw [9] (fun v wr => ∃ i : Nat, v = .int .i64 i ∧ i ≤ stop ∧ W1.grownBy wr (some bn) ∧ Hid (wr.cell? ⟨bn, 0, none⟩ = some (.int .i64 (k i)) ∧ wr.frozen? ⟨bn, 0, none⟩ = false)) (fun v _ => N - (intOf v).toNat)
  case atStart => exact ⟨0, rfl, by omega, one_refl _ _, HC⟩
  case round =>
    obtain ⟨i, rfl, hi, hg, hc⟩ := hrel
    have sz : W1.heap.size ≤ wr.heap.size := hg.size
    by_cases q : i < N
    · have T := each_try f cap hcf bn o k w wr ⟨w.heap.size, 0, none⟩ i hbn (hD i q hi) (B1.trans hg) hc.out.1 hc.out.2 ((one_cell hg (by simp <;> omega) (by simp <;> omega)).trans HG.out) (by simp <;> omega)
      have Z := Lib.hid (hz i)
      generalize hx : errno (o i) = x at *
      have HX := Lib.hid hx
      clear hx
      generalize hk : k (i + 1) = kk at *
      have HK := Lib.hid hk
      clear hk
      have q1 : (i : Int) < (N : Int) := by omega
      have q2 : (0 : Int) ≤ (i : Int) := by omega
      have q3 : (N : Int) ≤ 1000 := by omega
      clear hz hD
      by_cases x0 : x = 0
      · subst x0
        have hlt : i < stop := by
          rcases HS.out with ⟨h, _, _⟩ | ⟨h1, h2, h3, h4⟩
          · omega
          · rcases Nat.lt_or_ge i stop with h | h
            · exact h
            · have : i = stop := by omega
              subst this
              exact absurd (h2.symm.trans HX.out) h3
        go_wp2_with fail
        refine T.mono ?_
        rintro e w2 ⟨rfl, g2, c2, z2, ci⟩
        clear T
        have C2 := Lib.hid (And.intro c2 z2)
        clear c2 z2
        go_wp2_with fail
        exact ⟨⟨i + 1, rfl, by omega, hg.trans g2, by rw [HK.out]; exact C2⟩, by simp [intOf]; omega⟩
      · have x1 : (x != 0) = true := by simp [x0]
        have hst : i = stop := by
          rcases Nat.lt_or_ge i stop with h | h
          · exact absurd (Z.out h) x0
          · omega
        have HE : Hid (E = x ∧ kk = kl) := Lib.hid (by
          rcases HS.out with ⟨h, _, _⟩ | ⟨h1, h2, h3, h4⟩
          · omega
          · refine ⟨?_, ?_⟩
            · rw [← h2, ← hst]; exact HX.out
            · rw [← h4, ← hst]; exact HK.out.symm)
        have HST := Lib.hid hst
        clear x0 hst
        go_wp2_with fail
        refine T.mono ?_
        rintro e w2 ⟨rfl, g2, c2, z2, ci⟩
        clear T
        have C2 := Lib.hid c2
        clear c2 z2
        go_wp2_with fail
        go_ret2
        exact ⟨by rw [HE.out.1, ← HST.out]; rfl, B1.trans (hg.trans g2), by rw [← HE.out.2]; exact C2.out⟩
    · have hiN : i = N := by omega
      have hst : stop = N := by omega
      have HE : Hid (E = 0 ∧ k N = kl) := Lib.hid (by
        rcases HS.out with ⟨_, h⟩ | ⟨h1, h2, h3, h4⟩
        · exact h
        · omega)
      subst hst
      subst hiN
      have q1 : ¬ (i : Int) < (i : Int) := by omega
      have q2 : (0 : Int) ≤ (i : Int) := by omega
      have q3 : ¬ (i : Int) < 0 := by omega
      clear q hz hD
      have HG2 := Lib.hid (B1.trans hg)
      go_wp2_with fail
      go_ret2
      exact ⟨by rw [HE.out.1]; rfl, HG2.out, by rw [← HE.out.2]; exact hc.out.1⟩
theorem each_none (f : FuncId) (cap : Array Value) (n : Int) (w : World) (h0 : n ≤ 0) (h1 : -9223372036854775808 ≤ n) :
    Calls Try.prog 14 #[.int .i64 n, .func (.func f) #[] cap] w fun e w' => e = .returned (.tuple #[.int .i64 0, .int .i64 0]) ∧ Below w.heap.size w w' := by
  have hlt : ¬ (0 : Int) < n := by omega
  have K : Below w.heap.size w (w.alloc (.cells #[.func (.func f) #[] cap] 38)) := (Below.refl _ w).alloc (Nat.le_refl _) _
  go_enter Try.func14, Try.ntmps14
  go_wp2
  generalize w.alloc (.cells #[.func (.func f) #[] cap] 38) = W1 at *
  go_loopw [9] (fun v wr => v = .int .i64 0 ∧ W1 = wr) (fun v _ => 0)
  case atStart => exact ⟨rfl, rfl⟩
  case round =>
    obtain ⟨rfl, rfl⟩ := hrel
    rcases Int.lt_or_eq_of_le h0 with q | q
    · have q1 : n < 0 := q
      clear h0 q
      go_wp2_with fail
      go_ret2
      exact ⟨rfl, K⟩
    · subst q
      clear h0
      go_wp2_with fail
      go_ret2
      exact ⟨rfl, K⟩
/-! ### The law's own function -/
/-- A slice of numbers, at an address that is a letter, in old memory. -/
def RowAt (w : World) (A : Option Addr) (n : Nat) (z : Nat → Int) : Prop := ∀ i, i < n → ∃ ad, A = some ad ∧ ad.block < w.heap.size ∧ w.cell? (ad.add i) = some (.int .i64 (z i))
theorem block_add' (a : Addr) (n : Nat) : (a.add n).block = a.block := by unfold Addr.add; split <;> rfl
theorem RowAt.one {w wr : World} {A : Option Addr} {n g : Nat} {z : Nat → Int} (h : RowAt w A n z) (hg : w.grownBy wr (some g)) (hne : ∀ ad, A = some ad → ad.block ≠ g) : RowAt wr A n z := by
  intro i hi
  obtain ⟨ad, e, hb, hc⟩ := h i hi
  exact ⟨ad, e, Nat.lt_of_lt_of_le hb hg.size, (one_cell hg (by rw [block_add']; exact hb) (by rw [block_add']; exact hne ad e)).trans hc⟩
theorem RowAt.below {w wr : World} {A : Option Addr} {n : Nat} {z : Nat → Int} (h : RowAt w A n z) (hb : Below w.heap.size w wr) : RowAt wr A n z := by
  intro i hi
  obtain ⟨ad, e, hl, hc⟩ := h i hi
  exact ⟨ad, e, Nat.lt_of_lt_of_le hl hb.size, (hb.cell (by rw [block_add']; exact hl)).trans hc⟩
set_option maxHeartbeats 1000000 in
theorem c15 (bn bl : Nat) (A : Option Addr) (len cp : Nat) (z : Nat → Int) (w : World) (i : Nat) (hlen : len ≤ 1000) (hi : i < len) (hbl : bl < w.heap.size) (hne : bl ≠ bn) (hl : w.cell? ⟨bl, 0, none⟩ = some (.slice A len cp)) (hr : RowAt w A len z) (hA : ∀ ad, A = some ad → ad.block ≠ bn) :
    Does 15 #[.pointer (some ⟨bn, 0, none⟩), .pointer (some ⟨bl, 0, none⟩)] bn (fun i => some (z i)) (fun i => i) w i := by
  intro wr hg hc hz
  have l1 : wr.cell? ⟨bl, 0, none⟩ = some (.slice A len cp) := (one_cell hg hbl hne).trans hl
  obtain ⟨ad, rfl, hb, hx⟩ := (hr.one hg hA) i hi
  have hx2 : (wr.setCell ⟨bn, 0, none⟩ (.int .i64 ((i : Int) + 1))).cell? (ad.add i) = some (.int .i64 (z i)) := (World.cell?_setCell_other _ _ _ _ (fun e => hA ad rfl (by have := congrArg Addr.block e; rw [block_add'] at this; exact this.symm))).trans hx
  have l2 : (wr.setCell ⟨bn, 0, none⟩ (.int .i64 ((i : Int) + 1))).cell? ⟨bl, 0, none⟩ = some (.slice (some ad) len cp) := (World.cell?_setCell_other _ _ _ _ (by simp <;> omega)).trans l1
  have S1 := World.cell?_setCell_same wr ⟨bn, 0, none⟩ (.int .i64 ((i : Int) + 1)) hc
  have S2 : (wr.setCell ⟨bn, 0, none⟩ (.int .i64 ((i : Int) + 1))).frozen? ⟨bn, 0, none⟩ = false := (World.frozen?_setCell _ _ _ _).trans hz
  have HS := Lib.hid (And.intro S1 S2)
  have G := Lib.hid (one_set (one_refl wr bn) (p := ⟨bn, 0, none⟩) (.inl rfl) (.int .i64 ((i : Int) + 1)))
  have q1 : (i : Int) < (len : Int) := by omega
  have q2 : (0 : Int) ≤ (i : Int) := by omega
  have q3 : (len : Int) ≤ 1000 := by omega
  have H := Lib.hid hg
  clear S1 S2 hr hA hl hx hg
  obtain ⟨x, hx0⟩ : ∃ x, z i = x := ⟨_, rfl⟩
  rw [hx0] at hx2
  have HX := Lib.hid hx0
  clear hx0
  show Calls Try.prog 15 #[.int .i64 i, .pointer (some ⟨bn, 0, none⟩), .pointer (some ⟨bl, 0, none⟩)] wr _
  go_enter Try.func15, Try.ntmps15
  go_wp2_with fail
  refine (fail_any x _).mono ?_
  rintro e w1 ⟨rfl, rfl⟩
  go_wp2_with fail
  exact ⟨rfl, (by show _ = Ends (some (z i)); rw [HX.out]; rfl), G.out, HS.out.1, HS.out.2⟩
end Go.Proofs.Ytlggclehakcdaaa
