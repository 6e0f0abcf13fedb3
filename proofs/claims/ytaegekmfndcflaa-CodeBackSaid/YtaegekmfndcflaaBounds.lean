/- Contract of the document's bounds. -/
import Derived.Test.YtaegekmfndcflaaTable
import Derived.Test.YtaegekmfndcflaaLast
import Derived.LoopTactic
import Derived.Deep.DeepCutAuto
import Derived.Deep.RegionHeld3
import Derived.Maps.AppendAt
import Derived.OwnWalk
namespace Go.Proofs.Ytaegekmfndcflaa
open Go.ChangeShapes Go.WideShapes Go.ChangeAt Go.RowKit
set_option linter.unusedVariables false
set_option linter.unusedSimpArgs false

/-- The table, at an address that is a letter. -/
def TableT (w : World) (B : Nat) (t : Addr) : Prop := t.block < B ∧ ∀ i (h : i < P.table.length), ∃ ad : Addr, w.cell? (t.add i) = some (.slice (some ad) P.table[i].length P.table[i].length) ∧ ad.block < B ∧ ∀ j (h' : j < P.table[i].length), w.cell? (ad.add j) = some (.int .i64 P.table[i][j])
theorem rows_t (w : World) : Calls Try.prog 28 #[] w fun e w' => ∃ t, e = .returned (.slice (some t) 32 32) ∧ TableT w' w'.heap.size t ∧ Below w.heap.size w w' := by
  refine (rows_any w).mono ?_
  rintro e w' ⟨g, rfl, h, hb⟩
  refine ⟨⟨g, 0, none⟩, rfl, ⟨h.1, fun i hi => ?_⟩, hb⟩
  obtain ⟨ad, h1, h2, h3⟩ := h.2 i hi
  exact ⟨ad, by rw [add_zero_block]; exact h1, h2, h3⟩
theorem pair_info : (Try.prog.info? 52).map (fun i => (i.zero, i.size, i.bytes)) = some (some (.agg #[.int .i64 0, .int .i64 0]), 2, 16) := by kernel_rfl
theorem table_len : P.table.length = 32 := by decide
theorem add_succ (a : Addr) (k : Nat) : a.add (k + 1) = ⟨a.block, a.off + (k + 1), none⟩ := by simp [Addr.add]
theorem own_form2 {w : World} {base n sz : Nat} {e : TypeId} {v : Value} {xs : List Value} (h : w.ownsRow base e sz v n xs) : ∃ A c, v = .slice A n c ∧ Reads w w.heap.size sz A n xs := by
  rcases h.2 with ⟨rfl, hz⟩ | ⟨g, cap, cur, rfl, _⟩
  · subst hz
    have := List.eq_nil_of_length_eq_zero (by simpa using h.1)
    subst this
    exact ⟨none, 0, rfl, Reads.none_⟩
  · exact ⟨some ⟨g, 0, none⟩, cap, rfl, Reads.of_own h⟩
theorem own_lt2 {w : World} {B n sz : Nat} {e : TypeId} {u : Value} {xs : List Value} (h : w.ownsRow B e sz u n xs) : ∀ k, u.ownBlock = some k → B ≤ k ∧ k < w.heap.size := by
  intro k hk
  rcases h.2 with ⟨rfl, _⟩ | ⟨g, cp, cur, rfl, hg, hgg, _⟩
  · simp [Value.ownBlock] at hk
  · simp [Value.ownBlock] at hk
    subst hk
    exact ⟨hg, (Array.getElem?_eq_some_iff.1 hgg).1⟩
theorem tab_own {w w' : World} {op : Int} {A : Option Addr} {c : Nat} {b : List (Int × Int)} (h : P.tab op = some b) (hr : Reads w' w'.heap.size 2 A b.length (pairs b)) (hb : Below w.heap.size w w') :
    RetTab w (P.tab op) (.returned (.tuple #[.slice A b.length c, .bool true])) w' := by
  rw [h]
  exact ⟨_, _, rfl, hr, hb⟩
set_option maxRecDepth 100000 in
set_option maxHeartbeats 2000000 in
theorem bounds_any (op : Int) (w : World) : Calls Try.prog 23 #[.int .i64 op] w (RetTab w (P.tab op)) := by
  obtain ⟨i0, hi0, hz0, hz1, hz2⟩ := info_parts pair_info
  go_enter Try.func23, Try.ntmps23
  go_wp2_with fail
  refine (rows_t _).mono ?_
  rintro e W1 ⟨t, rfl, hT, hB0⟩
  go_wp2_with fail
  go_loopw [4, 6] (fun u v wr => u = .slice none 0 0 ∧ (∃ i : Nat, v = .int .i64 i ∧ i ≤ 32 ∧ Hid (P.tab op = P.find op (P.table.drop i))) ∧ W1 = wr) (fun _ v _ => 32 - (intOf v).toNat)
  case atStart => exact ⟨rfl, ⟨0, rfl, by omega, Lib.hid (by rw [List.drop_zero]; rfl)⟩, rfl⟩
  case round =>
    obtain ⟨rfl, ⟨i, rfl, hi, hF⟩, rfl⟩ := hrel
    have q0 : (0 : Int) ≤ (i : Int) := by omega
    by_cases hlt : i < 32
    · have hl : i < P.table.length := by rw [table_len]; exact hlt
      obtain ⟨ad, c0, hb, hc⟩ := hT.2 i hl
      have G := P.table_at hl
      have F := P.find_at (op := op) hl
      have FL := P.find_len (op := op) (l := []) hl
      obtain ⟨r, hr⟩ : ∃ r, P.table[i] = r := ⟨_, rfl⟩
      rw [hr] at G F FL c0
      have hc' : ∀ j (h' : j < r.length), W1.cell? (ad.add j) = some (.int .i64 r[j]) := by subst hr; exact hc
      have g0 : 0 < r.length := by have := G.1; omega
      have c1 : W1.cell? ad = some (.int .i64 r[0]) := by have := hc' 0 g0; simpa [Addr.add] using this
      rw [P.headD_get g0] at F
      have q : (i : Int) < 32 := by omega
      have HC := Lib.hid hc'
      have HF := Lib.hid F
      have HR := Lib.hid hr
      clear hr F hc hc'
      by_cases hop : r[0] = op
      · have b1 : (r[0] != op) = false := by simp [hop]
        have E : Hid (P.tab op = some (P.expand r.tail)) := Lib.hid (by rw [hF.out, HF.out, if_pos hop])
        have q1 : (0 : Int) < (r.length : Int) := by omega
        have q2 : (r.length : Int) ≤ 10 := by have := G.2.1; omega
        clear HF hF
        generalize r[0] = x at *
        clear hop
        go_wp2_with fail
        have HG := Lib.hid G
        clear c1 b1 G
        go_loopw [4, 7] (fun u v wr => ∃ (k : Nat) (pre : List (Int × Int)), v = .int .i64 k ∧ Hid (P.Read r pre k) ∧ wr.ownsRow W1.heap.size 52 2 u pre.length (pairs pre) ∧ Below W1.heap.size W1 wr) (fun _ v _ => 20 - (intOf v).toNat)
        case atStart => exact ⟨1, [], rfl, Lib.hid (P.read_1 HG.out), ⟨rfl, .inl ⟨rfl, rfl⟩⟩, Below.refl _ _⟩
        case round =>
          obtain ⟨k, pre, rfl, hRd, hown, hB⟩ := hrel
          have d0 := (hB.cell (p := t.add i) (by rw [block_of_add]; exact hT.1)).trans c0
          have q3 : (0 : Int) ≤ (k : Int) := by omega
          obtain ⟨wo, rfl⟩ : ∃ wo : World, wo = wr := ⟨_, rfl⟩
          by_cases hk : k < r.length
          · have q4 : (k : Int) < (r.length : Int) := by omega
            have hk2 := P.read_group HG.out hRd.out hk
            have rg := P.read_rng HG.out hRd.out hk
            have N := P.read_next HG.out hRd.out hk2
            have NL := P.read_len N
            have hx0 := HC.out k hk
            have hx1 := HC.out (k + 1) (by omega)
            have hx2 := HC.out (k + 2) (by omega)
            rw [add_succ] at hx1 hx2
            have e0 := (hB.cell (p := ad.add k) (by rw [block_of_add]; exact hb)).trans (HC.out k hk)
            have e1 := (hB.cell (p := ad.add (k + 1)) (by rw [block_of_add]; exact hb)).trans (HC.out (k + 1) (by omega))
            have e2 := (hB.cell (p := ad.add (k + 2)) (by rw [block_of_add]; exact hb)).trans (HC.out (k + 2) (by omega))
            have q5 : (k : Int) + 1 < (r.length : Int) := by omega
            have q6 : (k : Int) + 2 < (r.length : Int) := by omega
            obtain ⟨cn, hcn⟩ : ∃ cn : Nat, r[k] = (cn : Int) := ⟨r[k].toNat, by omega⟩
            rw [hcn] at e0 N NL rg hx0
            rw [Int.toNat_natCast] at N NL
            have nl : pre.length + cn ≤ 16 := by rw [List.length_append, List.length_replicate] at NL; omega
            generalize r[k + 1] = x1 at *
            generalize r[k + 2] = x2 at *
            have HN := Lib.hid N
            have qc : (cn : Int) ≤ 16 := by omega
            clear N NL hcn rg
            go_wp2_with fail
            have X0 := Lib.hid hx0
            have Y1 := Lib.hid hx1
            have Y2 := Lib.hid hx2
            clear e0 e1 e2 d0 hx0 hx1 hx2
            go_loopw [4, 8] (fun u v wr => ∃ n : Nat, v = .int .i64 n ∧ n ≤ cn ∧ wr.ownsRow W1.heap.size 52 2 u (pre.length + n) (pairs (pre ++ List.replicate n (x1, x2))) ∧ Below W1.heap.size W1 wr) (fun _ v _ => cn - (intOf v).toNat)
            case atStart => exact ⟨0, rfl, by omega, by simpa using hown, hB⟩
            case round =>
              obtain ⟨n, rfl, hn, hown3, hB3⟩ := hrel
              have d0 := (hB3.cell (p := t.add i) (by rw [block_of_add]; exact hT.1)).trans c0
              have e0 := (hB3.cell (p := ad.add k) (by rw [block_of_add]; exact hb)).trans X0.out
              have q7 : (0 : Int) ≤ (n : Int) := by omega
              by_cases hnc : n < cn
              · have q8 : (n : Int) < (cn : Int) := by omega
                have e1 := (hB3.cell (p := ⟨ad.block, ad.off + (k + 1), none⟩) hb).trans Y1.out
                have e2 := (hB3.cell (p := ⟨ad.block, ad.off + (k + 2), none⟩) hb).trans Y2.out
                have bt : (t.add i).block < wr.heap.size := by rw [block_of_add]; exact Nat.lt_of_lt_of_le hT.1 hB3.size
                have ba : ad.block < wr.heap.size := Nat.lt_of_lt_of_le hb hB3.size
                have K1 : Below wr.heap.size wr (wr.alloc (.cells #[.int .i64 x1, .int .i64 x2] 52)) := (Below.refl _ wr).alloc (Nat.le_refl _) _
                have HS0 := Lib.hid (And.intro d0 (And.intro e1 e2))
                have HS1 := Lib.hid (And.intro ((K1.cell bt).trans d0) (And.intro ((K1.cell (p := ⟨ad.block, ad.off + (k + 1), none⟩) ba).trans e1) ((K1.cell (p := ⟨ad.block, ad.off + (k + 2), none⟩) ba).trans e2)))
                have lt := own_lt2 hown3
                have own2 : ((wr.alloc (.cells #[.int .i64 x1, .int .i64 x2] 52)).drew).ownsRow W1.heap.size 52 2 u4 (pre.length + n) (pairs (pre ++ List.replicate n (x1, x2))) := (hown3.alloc _).drew
                have K2 : Below W1.heap.size W1 ((wr.alloc (.cells #[.int .i64 x1, .int .i64 x2] 52)).drew) := (hB3.alloc hB3.size _).drew
                have HBK : Hid (∀ w1, ((wr.alloc (.cells #[.int .i64 x1, .int .i64 x2] 52)).drew).grownBy w1 u4.ownBlock → Below W1.heap.size W1 w1) := Lib.hid fun w1 hg => K2.grown hg K2.size (fun j hj => (lt j hj).1)
                have HSK : Hid (∀ w1, ((wr.alloc (.cells #[.int .i64 x1, .int .i64 x2] 52)).drew).grownBy w1 u4.ownBlock → w1.cell? (t.add i) = some (.slice (some ad) r.length r.length) ∧ w1.cell? ⟨ad.block, ad.off + (k + 1), none⟩ = some (.int .i64 x1) ∧ w1.cell? ⟨ad.block, ad.off + (k + 2), none⟩ = some (.int .i64 x2)) := Lib.hid fun w1 hg =>
                  have hb1 := HBK.out w1 hg
                  ⟨(hb1.cell (p := t.add i) (by rw [block_of_add]; exact hT.1)).trans c0, (hb1.cell (p := ⟨ad.block, ad.off + (k + 1), none⟩) hb).trans Y1.out, (hb1.cell (p := ⟨ad.block, ad.off + (k + 2), none⟩) hb).trans Y2.out⟩
                have src : Hid (Reads ((wr.alloc (.cells #[.int .i64 x1, .int .i64 x2] 52)).drew) (wr.heap.size + 1) 2 (some ⟨wr.heap.size, 0, none⟩) 1 (pairs [(x1, x2)])) := Lib.hid ⟨rfl, fun _ => ⟨_, rfl, by simp, fun j z hz => by
                  rw [add_zero_block]
                  exact (new_cell (W := wr) rfl _ 52 j).trans (by simpa [pairs] using hz)⟩⟩
                have h63 : pre.length + n + 1 ≤ maxLen := by simp only [maxLen]; omega
                have hby : (pre.length + n + 1) * 16 ≤ 140737488355328 := by omega
                have hbs : W1.heap.size ≤ ((wr.alloc (.cells #[.int .i64 x1, .int .i64 x2] 52)).drew).heap.size := K2.size
                have w1e : IntKind.i64.wrap ((k : Int) + 1) = (k : Int) + 1 := IntWalk.i64_in _ (by omega)
                have w2e : IntKind.i64.wrap ((k : Int) + 2) = (k : Int) + 2 := IntWalk.i64_in _ (by omega)
                have t1 : ((k : Int) + 1).toNat = k + 1 := by omega
                have t2 : ((k : Int) + 2).toNat = k + 2 := by omega
                have q9 : (0 : Int) ≤ (k : Int) + 1 := by omega
                have q10 : (0 : Int) ≤ (k : Int) + 2 := by omega
                clear e1 e2 K1
                go_upto_region 13 with (fail)
                clear d0 e0
                refine region_L (fun w' => w'.cell? (t.add i) = some (.slice (some ad) r.length r.length) ∧ w'.cell? ⟨ad.block, ad.off + (k + 1), none⟩ = some (.int .i64 x1) ∧ w'.cell? ⟨ad.block, ad.off + (k + 2), none⟩ = some (.int .i64 x2)) 20 (by kernel_rfl) ?_
                refine takeL (i := 0) (v := u4) rfl (by kernel_rfl) (by kernel_rfl) (by kernel_rfl) (by kernel_rfl) (fun _ _ _ h => h) (by rfl) (fun w' hS => ?_) HS0.out ?_
                · obtain ⟨s0, s1, s2⟩ := hS
                  go_simp
                try simp only [Act.put, List.setIfInBounds_toArray, List.set_cons_zero, List.set_cons_succ]
                refine takeL (i := 1) (v := .slice (some t) 32 32) rfl (by kernel_rfl) (by kernel_rfl) (by kernel_rfl) (by kernel_rfl) (fun _ _ _ h => h) (by rfl) (fun w' hS => ?_) HS0.out ?_
                · obtain ⟨s0, s1, s2⟩ := hS
                  go_simp
                try simp only [Act.put, List.setIfInBounds_toArray, List.set_cons_zero, List.set_cons_succ]
                refine takeL (i := 2) (v := .int .i64 i) rfl (by kernel_rfl) (by kernel_rfl) (by kernel_rfl) (by kernel_rfl) (fun _ _ _ h => h) (by rfl) (fun w' hS => ?_) HS0.out ?_
                · obtain ⟨s0, s1, s2⟩ := hS
                  go_simp
                try simp only [Act.put, List.setIfInBounds_toArray, List.set_cons_zero, List.set_cons_succ]
                refine takeL (i := 3) (v := .pointer (some (t.add i))) rfl (by kernel_rfl) (by kernel_rfl) (by kernel_rfl) (by kernel_rfl) (fun _ _ _ h => h) (by rfl) (fun w' hS => ?_) HS0.out ?_
                · obtain ⟨s0, s1, s2⟩ := hS
                  go_simp
                try simp only [Act.put, List.setIfInBounds_toArray, List.set_cons_zero, List.set_cons_succ]
                refine takeL (i := 4) (v := .slice (some ad) r.length r.length) rfl (by kernel_rfl) (by kernel_rfl) (by kernel_rfl) (by kernel_rfl) (fun _ _ _ h => h) (by rfl) (fun w' hS => ?_) HS0.out ?_
                · obtain ⟨s0, s1, s2⟩ := hS
                  go_simp
                try simp only [Act.put, List.setIfInBounds_toArray, List.set_cons_zero, List.set_cons_succ]
                refine takeL (i := 5) (v := .int .i64 k) rfl (by kernel_rfl) (by kernel_rfl) (by kernel_rfl) (by kernel_rfl) (fun _ _ _ h => h) (by rfl) (fun w' hS => ?_) HS0.out ?_
                · obtain ⟨s0, s1, s2⟩ := hS
                  go_simp
                try simp only [Act.put, List.setIfInBounds_toArray, List.set_cons_zero, List.set_cons_succ]
                refine takeL (i := 6) (v := .int .i64 ((k : Int) + 1)) rfl (by kernel_rfl) (by kernel_rfl) (by kernel_rfl) (by kernel_rfl) (fun _ _ _ h => h) (by rfl) (fun w' hS => ?_) HS0.out ?_
                · obtain ⟨s0, s1, s2⟩ := hS
                  go_simp
                try simp only [Act.put, List.setIfInBounds_toArray, List.set_cons_zero, List.set_cons_succ]
                refine takeL (i := 7) (v := .pointer (some (ad.add (k + 1)))) rfl (by kernel_rfl) (by kernel_rfl) (by kernel_rfl) (by kernel_rfl) (fun _ _ _ h => h) (by rfl) (fun w' hS => ?_) HS0.out ?_
                · obtain ⟨s0, s1, s2⟩ := hS
                  go_simp
                try simp only [Act.put, List.setIfInBounds_toArray, List.set_cons_zero, List.set_cons_succ]
                refine takeL (i := 8) (v := .int .i64 x1) rfl (by kernel_rfl) (by kernel_rfl) (by kernel_rfl) (by kernel_rfl) (fun _ _ _ h => h) (by rfl) (fun w' hS => ?_) HS0.out ?_
                · obtain ⟨s0, s1, s2⟩ := hS
                  go_simp
                try simp only [Act.put, List.setIfInBounds_toArray, List.set_cons_zero, List.set_cons_succ]
                refine takeL (i := 9) (v := .slice (some t) 32 32) rfl (by kernel_rfl) (by kernel_rfl) (by kernel_rfl) (by kernel_rfl) (fun _ _ _ h => h) (by rfl) (fun w' hS => ?_) HS0.out ?_
                · obtain ⟨s0, s1, s2⟩ := hS
                  go_simp
                try simp only [Act.put, List.setIfInBounds_toArray, List.set_cons_zero, List.set_cons_succ]
                refine takeL (i := 10) (v := .int .i64 i) rfl (by kernel_rfl) (by kernel_rfl) (by kernel_rfl) (by kernel_rfl) (fun _ _ _ h => h) (by rfl) (fun w' hS => ?_) HS0.out ?_
                · obtain ⟨s0, s1, s2⟩ := hS
                  go_simp
                try simp only [Act.put, List.setIfInBounds_toArray, List.set_cons_zero, List.set_cons_succ]
                refine takeL (i := 11) (v := .pointer (some (t.add i))) rfl (by kernel_rfl) (by kernel_rfl) (by kernel_rfl) (by kernel_rfl) (fun _ _ _ h => h) (by rfl) (fun w' hS => ?_) HS0.out ?_
                · obtain ⟨s0, s1, s2⟩ := hS
                  go_simp
                try simp only [Act.put, List.setIfInBounds_toArray, List.set_cons_zero, List.set_cons_succ]
                refine takeL (i := 12) (v := .slice (some ad) r.length r.length) rfl (by kernel_rfl) (by kernel_rfl) (by kernel_rfl) (by kernel_rfl) (fun _ _ _ h => h) (by rfl) (fun w' hS => ?_) HS0.out ?_
                · obtain ⟨s0, s1, s2⟩ := hS
                  go_simp
                try simp only [Act.put, List.setIfInBounds_toArray, List.set_cons_zero, List.set_cons_succ]
                refine takeL (i := 13) (v := .int .i64 k) rfl (by kernel_rfl) (by kernel_rfl) (by kernel_rfl) (by kernel_rfl) (fun _ _ _ h => h) (by rfl) (fun w' hS => ?_) HS0.out ?_
                · obtain ⟨s0, s1, s2⟩ := hS
                  go_simp
                try simp only [Act.put, List.setIfInBounds_toArray, List.set_cons_zero, List.set_cons_succ]
                refine takeL (i := 14) (v := .int .i64 ((k : Int) + 2)) rfl (by kernel_rfl) (by kernel_rfl) (by kernel_rfl) (by kernel_rfl) (fun _ _ _ h => h) (by rfl) (fun w' hS => ?_) HS0.out ?_
                · obtain ⟨s0, s1, s2⟩ := hS
                  go_simp
                try simp only [Act.put, List.setIfInBounds_toArray, List.set_cons_zero, List.set_cons_succ]
                refine takeL (i := 15) (v := .pointer (some (ad.add (k + 2)))) rfl (by kernel_rfl) (by kernel_rfl) (by kernel_rfl) (by kernel_rfl) (fun _ _ _ h => h) (by rfl) (fun w' hS => ?_) HS0.out ?_
                · obtain ⟨s0, s1, s2⟩ := hS
                  go_simp
                try simp only [Act.put, List.setIfInBounds_toArray, List.set_cons_zero, List.set_cons_succ]
                refine takeL (i := 16) (v := .int .i64 x2) rfl (by kernel_rfl) (by kernel_rfl) (by kernel_rfl) (by kernel_rfl) (fun _ _ _ h => h) (by rfl) (fun w' hS => ?_) HS0.out ?_
                · obtain ⟨s0, s1, s2⟩ := hS
                  go_simp
                try simp only [Act.put, List.setIfInBounds_toArray, List.set_cons_zero, List.set_cons_succ]
                refine takeL (i := 17) (v := .agg #[.int .i64 x1, .int .i64 x2]) rfl (by kernel_rfl) (by kernel_rfl) (by kernel_rfl) (by kernel_rfl) (fun _ _ _ h => h) (by rfl) (fun w' hS => ?_) HS0.out ?_
                · obtain ⟨s0, s1, s2⟩ := hS
                  go_simp
                try simp only [Act.put, List.setIfInBounds_toArray, List.set_cons_zero, List.set_cons_succ]
                refine nextL (i := 18) (by kernel_rfl) rfl (fun K hK => ?_)
                go_simp
                refine hK _ _ (fun _ => HS1.out) ?_
                clear hK K
                try simp only [Act.put, List.setIfInBounds_toArray, List.set_cons_zero, List.set_cons_succ]
                refine nextL (i := 19) (by kernel_rfl) rfl (fun K hK => ?_)
                refine step_append_any _ (by rfl) _ _ _ (by rfl) W1.heap.size 52 i0 (.agg #[.int .i64 0, .int .i64 0]) 2 16 Try.underlying47 hi0 hz0 hz1 hz2 rfl (by omega) u4 (pre.length + n) (pairs (pre ++ List.replicate n (x1, x2))) (by rfl) own2 (wr.heap.size + 1) (some ⟨wr.heap.size, 0, none⟩) 1 1 (pairs [(x1, x2)]) (by rfl) src.out (pairs_one _) h63 hby hbs ?_
                intro v1 w1 hown1 hg1 hat1
                have HS2 := HSK.out w1 hg1
                refine hK _ _ (fun _ => HS2) ?_
                clear hK K
                try simp only [Act.put, List.setIfInBounds_toArray, List.set_cons_zero, List.set_cons_succ]
                refine nextL (i := 20) (by kernel_rfl) rfl (fun K hK => ?_)
                go_simp
                refine hK _ _ (fun h => absurd rfl h) ?_
                clear hK K
                try simp only [Act.put, List.setIfInBounds_toArray, List.set_cons_zero, List.set_cons_succ]
                refine doneL (by kernel_rfl) ?_
                have hB1 := HBK.out w1 hg1
                have hown2 : w1.ownsRow W1.heap.size 52 2 v1 (pre.length + (n + 1)) (pairs (pre ++ List.replicate (n + 1) (x1, x2))) := by
                  rw [rep_add, ← List.append_assoc, pairs_app, ← Nat.add_assoc]; exact hown1
                clear HS2 hown1 hg1 hat1
                go_wp2_with fail

                exact ⟨⟨n + 1, rfl, by omega, hown2, hB1⟩, by simp [intOf]; omega⟩
              · have hnn : n = cn := by omega
                subst hnn
                have q8 : ¬ (n : Int) < (n : Int) := by omega
                go_wp2_with fail
                exact ⟨⟨k + 3, pre ++ List.replicate n (x1, x2), vint (by omega), HN, by simpa using hown3, hB3⟩, by simp [intOf]; omega⟩
          · have q4 : ¬ (k : Int) < (r.length : Int) := by omega
            have X := P.read_end hRd.out (by omega)
            have E2 : Hid (P.tab op = some pre) := Lib.hid (by rw [E.out, X])
            obtain ⟨A, c, rfl, hr⟩ := own_form2 hown
            have K := hB0.trans (hB.mono hB0.size)
            clear X hown
            go_wp2_with fail
            go_ret2
            exact tab_own E2.out hr K
      · have b1 : (r[0] != op) = true := by simp [hop]
        have E : Hid (P.tab op = P.find op (P.table.drop (i + 1))) := Lib.hid (by rw [hF.out, HF.out, if_neg hop])
        generalize r[0] = x at *
        clear hop
        go_wp2_with fail
        exact ⟨⟨rfl, ⟨i + 1, rfl, by omega, E⟩, trivial⟩, by simp [intOf]; omega⟩
    · have hi2 : i = 32 := by omega
      subst hi2
      have E : Hid (P.tab op = none) := Lib.hid (by rw [hF.out, List.drop_eq_nil_of_le (by rw [table_len]; exact Nat.le_refl _)]; rfl)
      clear hF
      have HT := Lib.hid hT
      clear hT
      go_wp2_with fail
      go_ret2
      exact tab_none E.out hB0
end Go.Proofs.Ytaegekmfndcflaa
