/- Contract of the document's Put. -/
import Derived.Test.YtaegekmfndcflaaPut
namespace Go.Proofs.Ytaegekmfndcflaa
open Go.ChangeShapes Go.WideShapes Go.ChangeAt Go.RowKit
set_option linter.unusedVariables false
set_option linter.unusedSimpArgs false

set_option maxRecDepth 100000 in
set_option maxHeartbeats 4000000 in
theorem put_doc (A : Option Addr) (l : List P.Rec) (c : Nat) (w : World) (hA : RecsAt w w.heap.size A l) (hl : l.length ≤ 4096) :
    Calls Try.prog 18 #[.slice A l.length c] w (RetPut w (P.put l)) := by
  obtain ⟨i0, hi0, hz0, hz1, hz2⟩ := info_parts int_info
  have b0 : (l.length : Int) ≤ 4096 := by omega
  have bf : decide ((4096 : Int) < (l.length : Int)) = false := decide_eq_false (by omega)
  go_enter Try.func18, Try.ntmps18
  go_wp2_with fail
  go_loopw [4, 5] (fun u v wr => ∃ k : Nat, v = .int .i64 k ∧ k ≤ l.length ∧ Hid (∀ r ∈ l.take k, ¬ P.bad r) ∧ wr.ownsRow w.heap.size 3 1 u (P.flat (l.take k)).length (ints (P.flat (l.take k))) ∧ Below w.heap.size w wr) (fun _ v _ => l.length - (intOf v).toNat)
  case atStart => exact ⟨0, rfl, by omega, Lib.hid (by simp), ⟨rfl, .inl ⟨rfl, rfl⟩⟩, Below.refl _ _⟩
  case round =>
    obtain ⟨k, rfl, hk, hG, hown, hB⟩ := hrel
    have q0 : (0 : Int) ≤ (k : Int) := by omega
    by_cases hlt : k < l.length
    · have q1 : (k : Int) < (l.length : Int) := by omega
      obtain ⟨ad, A', c', rfl, lt1, c1, c2, r1⟩ := (hA.below hB).at_ hlt
      have fl := flat_le hG.out
      have ft := flat_take hlt
      have gt := fun (h : ¬ P.bad l[k]) => good_take hlt hG.out h
      have pb := fun (h : P.bad l[k]) => P.put_bad hlt hG.out h
      have pn := fun (h : ¬ P.bad l[k]) => P.bad_not h
      have bd : P.bad l[k] ↔ P.right l[k].1 l[k].2 ≠ 0 ∧ P.right l[k].1 l[k].2 ≠ 4 := Iff.rfl
      rw [add_off] at c2
      generalize l[k].1 = op at *
      generalize l[k].2 = a at *
      have HA := Lib.hid hA
      have T := right_doc op a A' c' wr (r1.more hB.size)
      clear hA
      go_wp2_with fail
      refine T.mono ?_
      rintro e w3 ⟨rfl, hb3⟩
      clear T
      have hB3 := hB.trans (hb3.mono hB.size)
      have pblk : (ad.add (k * 2)).block < w.heap.size := by rw [block_of_add]; exact lt1
      have m0 := (hb3.cell (p := ad.add (k * 2)) (Nat.lt_of_lt_of_le pblk hB.size)).trans c1
      have m1 := (hb3.cell (p := ⟨(ad.add (k * 2)).block, (ad.add (k * 2)).off + 1, none⟩) (Nat.lt_of_lt_of_le pblk hB.size)).trans c2
      have lt := own_lt2 hown
      have own3 := own_below hown hb3
      have r3 := r1.below (hb3.mono hB.size)
      clear c1 c2 r1 hown hb3
      generalize P.right op a = R at *
      by_cases hbad : P.bad l[k]
      · have hR := bd.1 hbad
        have x1 : (R != 0) = true := by simp [hR.1]
        have x2 : (R != 4) = true := by simp [hR.2]
        have E := Lib.hid (put_none (pb hbad) hB3)
        clear pb gt pn bd ft own3 r3 m0 m1 hR
        go_wp2_with fail
        go_ret2
        exact E.out
      · obtain ⟨b, ht, hbl⟩ := pn hbad
        have ha := P.tab_len ht
        rw [hbl] at ha
        have G2 := Lib.hid (gt hbad)
        have FT := Lib.hid ft
        have hR : R = 0 ∨ R = 4 := by
          have hx : ¬ (R ≠ 0 ∧ R ≠ 4) := fun h => hbad (bd.2 h)
          omega
        clear pb gt pn bd ht hbl hbad ft
        generalize P.flat (l.take k) = s at *
        have hs : s.length ≤ 69632 := by omega
        have own4 : ((w3.alloc (.cells #[.int .i64 op] 3)).drew).ownsRow w.heap.size 3 1 u4 s.length (ints s) := (own3.alloc _).drew
        have KK : Below w3.heap.size w3 ((w3.alloc (.cells #[.int .i64 op] 3)).drew) := ((Below.refl _ w3).alloc (Nat.le_refl _) _).drew
        have K4 : Below w.heap.size w ((w3.alloc (.cells #[.int .i64 op] 3)).drew) := (hB3.alloc hB3.size _).drew
        have src : Reads ((w3.alloc (.cells #[.int .i64 op] 3)).drew) (w3.heap.size + 1) 1 (some ⟨w3.heap.size, 0, none⟩) 1 (ints [op]) := ⟨rfl, fun _ => ⟨_, rfl, by simp, fun j z hz => by
          rw [add_zero_block]
          exact (new_cell (W := w3) rfl _ 3 j).trans (by simpa [ints] using hz)⟩⟩
        have h63 : s.length + 1 ≤ maxLen := by simp only [maxLen]; omega
        have hby : (s.length + 1) * 8 ≤ 140737488355328 := by omega
        have k63 : s.length + 1 + a.length ≤ maxLen := by simp only [maxLen]; omega
        have kby : (s.length + 1 + a.length) * 8 ≤ 140737488355328 := by omega
        have HS0 := Lib.hid (And.intro m0 m1)
        have K1 : Below w3.heap.size w3 (w3.alloc (.cells #[.int .i64 op] 3)) := (Below.refl _ w3).alloc (Nat.le_refl _) _
        have pb3 := Nat.lt_of_lt_of_le pblk hB3.size
        have HS1 := Lib.hid (And.intro ((K1.cell (p := ad.add (k * 2)) pb3).trans m0) ((K1.cell (p := ⟨(ad.add (k * 2)).block, (ad.add (k * 2)).off + 1, none⟩) pb3).trans m1))
        have HK5 : Hid (∀ w5, ((w3.alloc (.cells #[.int .i64 op] 3)).drew).grownBy w5 u4.ownBlock → Below w.heap.size w w5) := Lib.hid fun w5 hg => K4.grown hg K4.size (fun j hj => (lt j hj).1)
        have HM6 : Hid (∀ w5, Below w.heap.size w w5 → w5.cell? (ad.add (k * 2)) = some (.int .i64 op) ∧ w5.cell? ⟨(ad.add (k * 2)).block, (ad.add (k * 2)).off + 1, none⟩ = some (.slice A' a.length c')) := Lib.hid fun w5 h5 => by
          have e0 := (hB3.cell (p := ad.add (k * 2)) pblk).symm.trans HS0.out.1
          have e1 := (hB3.cell (p := ⟨(ad.add (k * 2)).block, (ad.add (k * 2)).off + 1, none⟩) pblk).symm.trans HS0.out.2
          exact ⟨(h5.cell pblk).trans e0, (h5.cell (p := ⟨(ad.add (k * 2)).block, (ad.add (k * 2)).off + 1, none⟩) pblk).trans e1⟩
        have HM5 : Hid (∀ w5, ((w3.alloc (.cells #[.int .i64 op] 3)).drew).grownBy w5 u4.ownBlock → w5.cell? (ad.add (k * 2)) = some (.int .i64 op) ∧ w5.cell? ⟨(ad.add (k * 2)).block, (ad.add (k * 2)).off + 1, none⟩ = some (.slice A' a.length c')) := Lib.hid fun w5 hg => HM6.out w5 (HK5.out w5 hg)
        have HR5 : Hid (∀ w5, ((w3.alloc (.cells #[.int .i64 op] 3)).drew).grownBy w5 u4.ownBlock → Reads w5 w.heap.size 1 A' a.length (ints a)) := Lib.hid fun w5 hg => r3.below ((KK.mono hB3.size).grown hg K4.size (fun j hj => (lt j hj).1))
        clear own3 r3 m0 m1 KK K1
        rcases hR with rfl | rfl
        all_goals
          go_upto_region 10 with (fail)
          refine region_L (fun w' => w'.cell? (ad.add (k * 2)) = some (.int .i64 op) ∧ w'.cell? ⟨(ad.add (k * 2)).block, (ad.add (k * 2)).off + 1, none⟩ = some (.slice A' a.length c')) 14 (by kernel_rfl) ?_
          refine takeL (i := 0) (v := u4) rfl (by kernel_rfl) (by kernel_rfl) (by kernel_rfl) (by kernel_rfl) (fun _ _ _ h => h) (by rfl) (fun w' hS => ?_) HS0.out ?_
          · obtain ⟨s0, s1⟩ := hS
            go_simp
          try simp only [Act.put, List.setIfInBounds_toArray, List.set_cons_zero, List.set_cons_succ]
          refine takeL (i := 1) (v := .slice (some ad) l.length c) rfl (by kernel_rfl) (by kernel_rfl) (by kernel_rfl) (by kernel_rfl) (fun _ _ _ h => h) (by rfl) (fun w' hS => ?_) HS0.out ?_
          · obtain ⟨s0, s1⟩ := hS
            go_simp
          try simp only [Act.put, List.setIfInBounds_toArray, List.set_cons_zero, List.set_cons_succ]
          refine takeL (i := 2) (v := .int .i64 k) rfl (by kernel_rfl) (by kernel_rfl) (by kernel_rfl) (by kernel_rfl) (fun _ _ _ h => h) (by rfl) (fun w' hS => ?_) HS0.out ?_
          · obtain ⟨s0, s1⟩ := hS
            go_simp
          try simp only [Act.put, List.setIfInBounds_toArray, List.set_cons_zero, List.set_cons_succ]
          refine takeL (i := 3) (v := .pointer (some (ad.add (k * 2)))) rfl (by kernel_rfl) (by kernel_rfl) (by kernel_rfl) (by kernel_rfl) (fun _ _ _ h => h) (by rfl) (fun w' hS => ?_) HS0.out ?_
          · obtain ⟨s0, s1⟩ := hS
            go_simp
          try simp only [Act.put, List.setIfInBounds_toArray, List.set_cons_zero, List.set_cons_succ]
          refine takeL (i := 4) (v := .pointer (some (ad.add (k * 2)))) rfl (by kernel_rfl) (by kernel_rfl) (by kernel_rfl) (by kernel_rfl) (fun _ _ _ h => h) (by rfl) (fun w' hS => ?_) HS0.out ?_
          · obtain ⟨s0, s1⟩ := hS
            go_simp
          try simp only [Act.put, List.setIfInBounds_toArray, List.set_cons_zero, List.set_cons_succ]
          refine takeL (i := 5) (v := .int .i64 op) rfl (by kernel_rfl) (by kernel_rfl) (by kernel_rfl) (by kernel_rfl) (fun _ _ _ h => h) (by rfl) (fun w' hS => ?_) HS0.out ?_
          · obtain ⟨s0, s1⟩ := hS
            go_simp
          try simp only [Act.put, List.setIfInBounds_toArray, List.set_cons_zero, List.set_cons_succ]
          refine takeL (i := 8) (v := .slice (some ad) l.length c) rfl (by kernel_rfl) (by kernel_rfl) (by kernel_rfl) (by kernel_rfl) (fun _ _ _ h => h) (by rfl) (fun w' hS => ?_) HS0.out ?_
          · obtain ⟨s0, s1⟩ := hS
            go_simp
          try simp only [Act.put, List.setIfInBounds_toArray, List.set_cons_zero, List.set_cons_succ]
          refine takeL (i := 9) (v := .int .i64 k) rfl (by kernel_rfl) (by kernel_rfl) (by kernel_rfl) (by kernel_rfl) (fun _ _ _ h => h) (by rfl) (fun w' hS => ?_) HS0.out ?_
          · obtain ⟨s0, s1⟩ := hS
            go_simp
          try simp only [Act.put, List.setIfInBounds_toArray, List.set_cons_zero, List.set_cons_succ]
          refine takeL (i := 10) (v := .pointer (some (ad.add (k * 2)))) rfl (by kernel_rfl) (by kernel_rfl) (by kernel_rfl) (by kernel_rfl) (fun _ _ _ h => h) (by rfl) (fun w' hS => ?_) HS0.out ?_
          · obtain ⟨s0, s1⟩ := hS
            go_simp
          try simp only [Act.put, List.setIfInBounds_toArray, List.set_cons_zero, List.set_cons_succ]
          refine takeL (i := 11) (v := .pointer (some ⟨(ad.add (k * 2)).block, (ad.add (k * 2)).off + 1, none⟩)) rfl (by kernel_rfl) (by kernel_rfl) (by kernel_rfl) (by kernel_rfl) (fun _ _ _ h => h) (by rfl) (fun w' hS => ?_) HS0.out ?_
          · obtain ⟨s0, s1⟩ := hS
            go_simp
          try simp only [Act.put, List.setIfInBounds_toArray, List.set_cons_zero, List.set_cons_succ]
          refine takeL (i := 12) (v := .slice A' a.length c') rfl (by kernel_rfl) (by kernel_rfl) (by kernel_rfl) (by kernel_rfl) (fun _ _ _ h => h) (by rfl) (fun w' hS => ?_) HS0.out ?_
          · obtain ⟨s0, s1⟩ := hS
            go_simp
          try simp only [Act.put, List.setIfInBounds_toArray, List.set_cons_zero, List.set_cons_succ]
          refine nextL (i := 6) (by kernel_rfl) rfl (fun K hK => ?_)
          go_simp
          refine hK _ _ (fun _ => HS1.out) ?_
          clear hK K
          try simp only [Act.put, List.setIfInBounds_toArray, List.set_cons_zero, List.set_cons_succ]
          refine nextL (i := 7) (by kernel_rfl) rfl (fun K hK => ?_)
          refine step_append_any _ (by rfl) _ _ _ (by rfl) w.heap.size 3 i0 (.int .i64 0) 1 8 Try.underlying28 hi0 hz0 hz1 hz2 rfl (by omega) u4 s.length (ints s) (by rfl) own4 (w3.heap.size + 1) (some ⟨w3.heap.size, 0, none⟩) 1 1 (ints [op]) (by rfl) src (ints_one _) h63 hby K4.size ?_
          intro v5 w5 hown5 hg5 hat5
          have K5 := HK5.out w5 hg5
          have m5 := HM5.out w5 hg5
          have r5 := HR5.out w5 hg5
          refine hK _ _ (fun _ => m5) ?_
          clear hK K
          try simp only [Act.put, List.setIfInBounds_toArray, List.set_cons_zero, List.set_cons_succ]
          refine nextL (i := 13) (by kernel_rfl) rfl (fun K hK => ?_)
          refine step_append_any _ (by rfl) _ _ _ (by rfl) w.heap.size 3 i0 (.int .i64 0) 1 8 Try.underlying28 hi0 hz0 hz1 hz2 rfl (by omega) v5 (s.length + 1) (ints s ++ ints [op]) (by rfl) hown5 w.heap.size A' a.length c' (ints a) (by rfl) r5 (ints_one _) k63 kby K5.size ?_
          intro v6 w6 hown6 hg6 hat6
          have K6 : Below w.heap.size w w6 := K5.grown hg6 K5.size (fun j hj => (own_lt2 hown5 j hj).1)
          have m6 := HM6.out w6 K6
          refine hK _ _ (fun _ => m6) ?_
          clear hK K
          try simp only [Act.put, List.setIfInBounds_toArray, List.set_cons_zero, List.set_cons_succ]
          refine nextL (i := 14) (by kernel_rfl) rfl (fun K hK => ?_)
          go_simp
          refine hK _ _ (fun h => absurd rfl h) ?_
          clear hK K
          try simp only [Act.put, List.setIfInBounds_toArray, List.set_cons_zero, List.set_cons_succ]
          refine doneL (by kernel_rfl) ?_
          have on : w6.ownsRow w.heap.size 3 1 v6 (P.flat (l.take (k + 1))).length (ints (P.flat (l.take (k + 1)))) := by
            rw [FT.out, show (s ++ op :: a).length = s.length + 1 + a.length by simp; omega, show s ++ op :: a = s ++ [op] ++ a by simp, ints_app, ints_app]
            exact hown6
          clear m5 m6 r5 hown5 hown6 hg5 hg6 hat5 hat6
          go_wp2_with fail
          exact ⟨⟨k + 1, rfl, by omega, G2, on, K6⟩, by simp [intOf]; omega⟩
    · have q1 : ¬ (k : Int) < (l.length : Int) := by omega
      have hkl : l.take k = l := List.take_of_length_le (by omega)
      rw [hkl] at hG hown
      have E := Lib.hid (P.put_ok hG.out)
      have R := Lib.hid (put_own E.out hown hB)
      clear hkl hG hown hA
      go_wp2_with fail
      go_ret2
      exact R.out
end Go.Proofs.Ytaegekmfndcflaa
