/- Contract of the document's trim. -/
import Derived.Test.YtbjbafhlmcnceaaDoc
import Derived.WalkSpells
namespace Go.Proofs.Ytbjbafhlmcnceaa
open Go.ChangeShapes Go.WideShapes Go.ChangeAt Go.RowKit
set_option linter.unusedVariables false

/-- A call hands back a number, told by its value. -/
def RetNum (w : World) (z : Int) (e : Ending) (w' : World) : Prop :=
  ∃ A c l, e = .returned (.agg #[.bool (decide (z < 0)), .slice A l.length c]) ∧ Reads w' w'.heap.size 1 A l.length (cells l) ∧ L.Can l ∧ L.nat l = z.natAbs ∧ (∀ ad, A = some ad → w.heap.size ≤ ad.block) ∧ Below w.heap.size w w'

theorem own_empty (x : World) {base : Nat} (h : base ≤ x.heap.size) : (x.alloc (.cells #[] 5)).ownsRow base 5 1 (.slice (some ⟨x.heap.size, 0, none⟩) 0 0) 0 [] :=
  ⟨by simp, .inr ⟨x.heap.size, 0, #[], rfl, h, heap_alloc_new x _, by omega, by simp [maxLen], rfl, rfl⟩⟩
theorem add0 (g j : Nat) : (⟨g, 0, none⟩ : Addr).add j = ⟨g, j, none⟩ := by unfold Addr.add; split <;> simp_all
theorem three_cells (w : World) (a b c d : Value) (o : Obj) (W : World) (hW : W = ((w.alloc (.cells #[a, b] 50)).alloc (.cells #[c, d] 50)).alloc o) :
    W.cell? ⟨w.heap.size, 0, none⟩ = some a ∧ W.cell? ⟨w.heap.size, 1, none⟩ = some b ∧ W.cell? ⟨w.heap.size + 1, 0, none⟩ = some c ∧ W.cell? ⟨w.heap.size + 1, 1, none⟩ = some d ∧
      W.frozen? ⟨w.heap.size + 1, 0, none⟩ = false ∧ W.frozen? ⟨w.heap.size + 1, 1, none⟩ = false := by
  subst hW
  refine ⟨?_, ?_, ?_, ?_, ?_, ?_⟩
  · rw [World.cell?_alloc_lt _ _ _ (by simp; omega), World.cell?_alloc_lt _ _ _ (by simp)]; simp [World.cell?_alloc_new]
  · rw [World.cell?_alloc_lt _ _ _ (by simp; omega), World.cell?_alloc_lt _ _ _ (by simp)]; simp [World.cell?_alloc_new]
  · rw [World.cell?_alloc_lt _ _ _ (by simp)]
    simp
  · rw [World.cell?_alloc_lt _ _ _ (by simp)]
    simp
  · rw [World.frozen?_alloc_old _ _ _ (by simp)]; exact World.frozen?_alloc2_new _ _ _ _
  · rw [World.frozen?_alloc_old _ _ _ (by simp)]; exact World.frozen?_alloc2_new _ _ _ _
theorem ret_mk {w w' : World} {m : Bool} {l : List Nat} {k g cap : Nat} {b : Bool} (hl : L.Bits l) (hk : k ≤ l.length) (hv : L.nat (l.take k) = L.nat l) (hC : L.Can (l.take k))
    (hb : b = (m && decide (0 < k))) (hgw : w.heap.size ≤ g) (hg : g < w'.heap.size) (hcell : ∀ j, j < l.length → w'.cell? ⟨g, j, none⟩ = some (.int .u8 (L.bit l j : Int))) (hB : Below w.heap.size w w') :
    RetNum w (M.sg m (L.nat l)) (.returned (.agg #[.bool b, .slice (some ⟨g, 0, none⟩) k cap])) w' := by
  have hlen : (l.take k).length = k := by rw [List.length_take]; omega
  have hp := L.can_pos hC
  rw [hlen, hv] at hp
  refine ⟨some ⟨g, 0, none⟩, cap, l.take k, ?_, ⟨by simp [cells], fun hn => ⟨⟨g, 0, none⟩, rfl, hg, fun j u hu => ?_⟩⟩, hC, ?_, fun ad he => by cases he; exact hgw, hB⟩
  · have e : b = decide (M.sg m (L.nat l : Int) < 0) := by
      rw [hb]
      cases m with
      | true =>
        rw [Bool.true_and]
        show decide (0 < k) = decide (-(L.nat l : Int) < 0)
        by_cases h : 0 < k
        · have := hp.1 h; rw [decide_eq_true h, decide_eq_true (by omega)]
        · have : ¬ 0 < L.nat l := fun g => h (hp.2 g)
          rw [decide_eq_false h, decide_eq_false (by omega)]
      | false =>
        rw [Bool.false_and]
        show false = decide ((L.nat l : Int) < 0)
        rw [decide_eq_false (by omega)]
    rw [e, hlen]
  · have hj : j < k := by
      rcases Nat.lt_or_ge j k with h | h
      · exact h
      · rw [List.getElem?_eq_none (by simp [cells]; omega)] at hu; cases hu
    rw [cells_at (by rw [hlen]; exact hj)] at hu
    obtain rfl := Option.some.inj hu
    rw [add0, hcell j (by omega)]
    have : L.bit (l.take k) j = L.bit l j := by unfold L.bit; rw [List.getElem?_take_of_lt hj]
    rw [this]
  · rw [hv]; cases m <;> simp [M.sg]
set_option maxHeartbeats 1000000 in
theorem trim_any (m : Bool) (A : Option Addr) (c : Nat) (l : List Nat) (w : World) (h : Reads w w.heap.size 1 A l.length (cells l)) (hl : L.Bits l) (hn : l.length ≤ 950) :
    Calls Try.prog 36 #[.agg #[.bool m, .slice A l.length c]] w (RetNum w (M.sg m (L.nat l))) := by
  obtain ⟨i0, hi0, hz0, hz1, hz2⟩ := info_parts u8_info
  have hcl : (cells l).length = l.length := by simp [cells]
  have hr : Reads (((w.alloc (.cells #[.bool m, .slice A l.length c] 50)).alloc (.cells #[.bool false, .slice none 0 0] 50)).alloc (.cells #[] 5)) w.heap.size 1 A l.length (cells l) :=
    ((h.alloc (Nat.le_refl _) _).alloc (by simp) _).alloc (by simp; omega) _
  have ho : (((w.alloc (.cells #[.bool m, .slice A l.length c] 50)).alloc (.cells #[.bool false, .slice none 0 0] 50)).alloc (.cells #[] 5)).ownsRow w.heap.size 5 1 (.slice (some ⟨w.heap.size + 1 + 1, 0, none⟩) 0 0) 0 [] := by
    have := own_empty ((w.alloc (.cells #[.bool m, .slice A l.length c] 50)).alloc (.cells #[.bool false, .slice none 0 0] 50)) (base := w.heap.size) (by simp; omega)
    simpa using this
  have hs : w.heap.size ≤ (((w.alloc (.cells #[.bool m, .slice A l.length c] 50)).alloc (.cells #[.bool false, .slice none 0 0] 50)).alloc (.cells #[] 5)).heap.size := by simp; omega
  have hm1 : 0 + l.length ≤ maxLen := by simp only [maxLen]; omega
  have hm2 : (0 + l.length) * 1 ≤ 140737488355328 := by omega
  have HCL := Lib.hid hcl
  clear hcl
  go_enter Try.func36, Try.ntmps36
  go_wp2_with (at_builtin; go_must (refine wpList_append_any _ rfl (.tmp 4) (.tmp 6) _ rfl w.heap.size 5 i0 _ 1 1 Try.underlying48 hi0 hz0 hz1 hz2 rfl (by omega) (.slice (some ⟨w.heap.size + 1 + 1, 0, none⟩) 0 0) 0 [] rfl ho w.heap.size A l.length c (cells l) rfl hr (cells_one l) hm1 hm2 hs ?_); intro v1 w1 hown1 hg1 hat1)
  have K : Below w.heap.size w w1 := ((((Below.refl _ w).alloc (Nat.le_refl _) _).alloc (by simp) _).alloc (by simp; omega) _).grown hg1 (by simp; omega) (own_ge ho)
  obtain ⟨g, cap, cur, rfl, hgB, hblk, hkc, hcm, hcs, htk⟩ : ∃ g cap cur, v1 = .slice (some ⟨g, 0, none⟩) l.length cap ∧ w.heap.size ≤ g ∧ w1.heap[g]? = some (.cells cur 5 (0, 0)) ∧ l.length ≤ cap ∧ cap ≤ maxLen ∧ cur.size = cap * 1 ∧ cur.toList.take (l.length * 1) = cells l := by
    rcases hown1.2 with ⟨rfl, _⟩ | ⟨g, cap, cur, e, h1, h2, h3, h4, h5, h6⟩
    · exfalso
      rcases hat1 with e | e <;> simp [Value.ownBlock] at e
    · simp only [Nat.zero_add, List.nil_append] at e h3 h6
      exact ⟨g, cap, cur, e, h1, h2, h3, h4, h5, h6⟩
  have hcell : ∀ j, j < l.length → w1.cell? ⟨g, j, none⟩ = some (.int .u8 (L.bit l j : Int)) := by
    intro j hj
    have := hown1.cells (g := g) rfl
    simp only [List.nil_append] at this
    have := this j _ (cells_at hj)
    rw [add0] at this
    exact this
  obtain ⟨b0, b1, b2, b3, f2, f3⟩ := three_cells w _ _ _ _ _ _ rfl
  have hgs : w.heap.size + 1 < w1.heap.size := by have := hg1.size; simp at this; omega
  have hn0 : ∀ k, k < w.heap.size + 1 + 1 → some k ≠ (Value.slice (some ⟨w.heap.size + 1 + 1, 0, none⟩) 0 0).ownBlock := by intro k hk; simp [Value.ownBlock]; omega
  have d0 := (hg1.cell_far ⟨w.heap.size, 0, none⟩ (by simp; omega) (hn0 _ (by simp; omega))).trans b0
  have d2 := (hg1.cell_far ⟨w.heap.size + 1, 0, none⟩ (by simp) (hn0 _ (by simp))).trans b2
  have d3 := (hg1.cell_far ⟨w.heap.size + 1, 1, none⟩ (by simp) (hn0 _ (by simp))).trans b3
  have e2 := (hg1.frozen_far ⟨w.heap.size + 1, 0, none⟩ (by simp) (hn0 _ (by simp))).trans f2
  have e3 := (hg1.frozen_far ⟨w.heap.size + 1, 1, none⟩ (by simp) (hn0 _ (by simp))).trans f3
  have hg2 : w.heap.size + 1 < g := by
    rcases hat1 with e | e <;> simp [Value.ownBlock] at e <;> omega
  have hgs2 : g < w1.heap.size := by
    rcases Nat.lt_or_ge g w1.heap.size with q | q
    · exact q
    · rw [Array.getElem?_eq_none q] at hblk; cases hblk
  clear b0 b1 b2 b3 f2 f3 hn0 hg1 hat1 hown1 hr ho hs htk hcs
  have hlen := hn
  go_wp2_with fail
  go_loop [3] (fun v => ∃ k : Nat, v = .slice (some ⟨g, 0, none⟩) k cap ∧ k ≤ l.length ∧ Hid (L.nat (l.take k) = L.nat l)) (fun v => match v with | .slice _ k _ => k | _ => 0)
  case atStart => exact ⟨l.length, rfl, Nat.le_refl _, Lib.hid (by rw [List.take_length])⟩
  case round =>
    obtain ⟨k, rfl, hk, hv⟩ := hrel
    have fin : ∀ (k : Nat) (b : Bool), k ≤ l.length → L.nat (l.take k) = L.nat l → L.Can (l.take k) → b = (m && decide (0 < k)) →
        RetNum w (M.sg m (L.nat l)) (.returned (.agg #[.bool b, .slice (some ⟨g, 0, none⟩) k cap])) ((w1.setCell ⟨w.heap.size + 1, 0, none⟩ (.bool b)).setCell ⟨w.heap.size + 1, 1, none⟩ (.slice (some ⟨g, 0, none⟩) k cap)) := by
      intro k b h1 h2 h3 h4
      refine ret_mk hl h1 h2 h3 h4 hgB (by simp [World.setCell]; exact hgs2) (fun j hj => ?_) ((K.setCell (by simp) _).setCell (by simp) _)
      rw [World.cell?_setCell_other _ _ _ _ (by first | (simp; done) | (simp; omega)), World.cell?_setCell_other _ _ _ _ (by first | (simp; done) | (simp; omega))]
      exact hcell j hj
    have F := Lib.hid fin
    clear fin
    rcases Nat.eq_zero_or_pos k with z | z
    · subst z
      have C : L.Can (l.take 0) := ⟨L.Bits.nil, fun h => absurd rfl h⟩
      have R := Lib.hid (F.out 0 false hk hv.out C (by simp))
      clear hcell F hv C
      cases m with
      | true =>
        go_wp2_with fail
        exact bodyPost_ret (v := .agg #[.bool false, .slice (some ⟨g, 0, none⟩) 0 cap]) (by simp [results, Try.results36, go_sem, hgs, d2, d3]) rfl R.out
      | false =>
        go_wp2_with fail
        exact bodyPost_ret (v := .agg #[.bool false, .slice (some ⟨g, 0, none⟩) 0 cap]) (by simp [results, Try.results36, go_sem, hgs, d2, d3]) rfl R.out
    · obtain ⟨j, rfl⟩ : ∃ j, k = j + 1 := ⟨k - 1, by omega⟩
      have hj := hcell j (by omega)
      have k1 : (0 : Int) ≤ (j : Int) := by omega
      have k2 : (j : Int) ≤ (cap : Int) := by omega
      have k3 : (j : Int) < ((j + 1 : Nat) : Int) := by omega
      have k4 : ((j + 1 : Nat) : Int) ≤ (cap : Int) := by omega
      have k5 : (0 : Int) < ((j + 1 : Nat) : Int) := by omega
      have k6 : ((j + 1 : Nat) : Int) - 1 = (j : Int) := by omega
      have k7 : ((j + 1 : Nat) : Int) ≤ 950 := by omega
      by_cases b : L.bit l j = 0
      · have hv' := Lib.hid (L.trim_step (by omega) b hv.out)
        rw [b] at hj
        clear hcell hv
        go_wp2_with fail
        exact ⟨⟨j, rfl, by omega, hv'⟩, Nat.lt_succ_self j⟩
      · have C := L.trim_end hl hk (fun _ => b)
        have R := Lib.hid (F.out (j + 1) m hk hv.out C (by simp))
        have kb : ((L.bit l j : Int) == 0) = false := by simp; omega
        clear hcell F hv C b
        cases m with
        | true =>
          go_wp2_with fail
          exact bodyPost_ret (v := .agg #[.bool true, .slice (some ⟨g, 0, none⟩) (j + 1) cap]) (by simp [results, Try.results36, go_sem, hgs, d2, d3]) rfl R.out
        | false =>
          go_wp2_with fail
          exact bodyPost_ret (v := .agg #[.bool false, .slice (some ⟨g, 0, none⟩) (j + 1) cap]) (by simp [results, Try.results36, go_sem, hgs, d2, d3]) rfl R.out
end Go.Proofs.Ytbjbafhlmcnceaa
