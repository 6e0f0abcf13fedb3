/- Contract: the document's own. -/
import Derived.Test.YthcieapfpgejdaaW11
namespace Go.Proofs.Ythcieapfpgejdaa
open Go.ChangeShapes Go.WideShapes Go.ChangeAt Go.RowKit
set_option linter.unusedVariables false
set_option linter.unusedSimpArgs false

section
variable {w0 w w' w3 : World} {bs bs2 : List (Nat × TypeId × List Value)} {ls : List Ent}
/-- A row that was made since then, as a block. -/
theorem OwnL.row (O : OwnL w0 w bs ls) (hb : Below w.heap.size w w3) {v : Value} {n : Nat} {xs : List Value} (ho : w3.ownsRow w.heap.size 27 16 v n xs) (hn : 0 < n) :
    ∃ g c cs, v = .slice (some ⟨g, 0, none⟩) n c ∧ OwnL w0 w3 ((g, 27, cs) :: bs) ls ∧ cs.take (n * 16) = xs ∧ cs.length = c * 16 ∧ n ≤ c ∧ c ≤ maxLen ∧ w.heap.size ≤ g := by
  rcases ho.2 with ⟨_, h0⟩ | ⟨g, c, cur, rfl, hg, hblk, hle, hmax, hsz, htake⟩
  · omega
  · refine ⟨g, c, cur.toList, rfl, ⟨⟨(O.call hb).1.1, ?_, ?_⟩, ?_⟩, htake, by simpa using hsz, hle, hmax, hg⟩
    · simp only [List.map_cons, List.nodup_cons]
      refine ⟨fun hm => ?_, O.1.2.1⟩
      obtain ⟨x, hx, he⟩ := List.mem_map.1 hm
      have := O.1.lt hx
      omega
    · intro x hx
      rcases List.mem_cons.1 hx with rfl | hx
      · exact ⟨Nat.le_trans O.1.1.size hg, by simpa using hblk⟩
      · exact (O.call hb).1.2.2 x hx
    · intro x hx
      refine (O.2 x hx).turn hb.size (fun b hbb _ => hb.block b hbb) (fun b hbb hn hm => ?_)
      rcases List.mem_cons.1 hm with h | h
      · have h2 : b = g := h
        omega
      · exact hn h
/-- Blocks that a call hands back. -/
theorem OwnL.join (O : OwnL w0 w bs ls) (h : Own w w' bs2) : OwnL w0 w' (bs2 ++ bs) ls := by
  have hb := h.1
  refine ⟨⟨(O.call hb).1.1, ?_, ?_⟩, ?_⟩
  · rw [List.map_append, List.nodup_append]
    refine ⟨h.2.1, O.1.2.1, fun a ha b hbm e => ?_⟩
    subst e
    obtain ⟨x, hx, hxe⟩ := List.mem_map.1 ha
    obtain ⟨y, hy, hye⟩ := List.mem_map.1 hbm
    have h1 := (h.2.2 x hx).1
    have h2 := O.1.lt hy
    omega
  · intro x hx
    rcases List.mem_append.1 hx with hx | hx
    · exact ⟨Nat.le_trans O.1.1.size (h.2.2 x hx).1, (h.2.2 x hx).2⟩
    · exact (O.call hb).1.2.2 x hx
  · intro x hx
    refine (O.2 x hx).turn hb.size (fun b hbb _ => hb.block b hbb) (fun b hbb hn hm => ?_)
    rw [List.map_append] at hm
    rcases List.mem_append.1 hm with hm | hm
    · obtain ⟨y, hy, hye⟩ := List.mem_map.1 hm
      have := (h.2.2 y hy).1
      omega
    · exact hn hm
end
/-- Two rows, each in a block of its own. -/
def rowsB (G : Nat → Nat) (C : Nat → List Value) : List (Nat × TypeId × List Value) := [(G 0, 27, C 0), (G 1, 27, C 1)]
def rowE (w : World) (G c : Nat → Nat) (L : Nat → Ent) (i : Nat) : Ent := ⟨w.heap.size, some ⟨G i, 0, none⟩, c i, (L i).l⟩
structure RowC (cs : List Value) (c : Nat) (l : List (Nat → Int)) : Prop where
  take : cs.take (l.length * 16) = M.cells l
  len : cs.length = c * 16
  le : l.length ≤ c
  max : c ≤ maxLen
def RetRows (w : World) (m : Int) (L : Nat → Ent) (e : Ending) (w' : World) : Prop :=
  ∃ (G : Nat → Nat) (C : Nat → List Value) (c : Nat → Nat), e = .returned (.agg (sv m (rowE w G c L)).toArray) ∧ Own w w' (rowsB G C) ∧ ∀ i, i < 2 → RowC (C i) (c i) (L i).l
theorem RowC.cells {cs : List Value} {c : Nat} {l : List (Nat → Int)} (h : RowC cs c l) {j : Nat} {u : Value} (hu : (M.cells l)[j]? = some u) : cs[j]? = some u := by
  have hj : j < (M.cells l).length := (List.getElem?_eq_some_iff.1 hu).1
  rw [M.cells_len] at hj
  rw [← h.take, List.getElem?_take, if_pos hj] at hu
  exact hu
/-- A block as a list. -/
theorem blk_lies {w0 w : World} {bs : List (Nat × TypeId × List Value)} {ls : List Ent} (O : OwnL w0 w bs ls) (k : Nat) {g : Nat} {cs : List Value} (hk : bs[k]? = some (g, 27, cs)) {c lo : Nat} {l : List (Nat → Int)} (hc : RowC cs c l) (hlo : lo ≤ g) : Lies w [] ⟨lo, some ⟨g, 0, none⟩, c, l⟩ :=
  ⟨hc.le, fun _ => ⟨_, rfl, hlo, O.1.lt (Own.mem hk), List.not_mem_nil, fun j u hu => by
    have ha : (⟨g, 0, none⟩ : Addr).add j = ⟨g, j, none⟩ := by unfold Addr.add; split <;> simp_all
    rw [ha]
    exact O.cell k hk (hc.cells hu)⟩⟩
section
variable {ops : Array Oper} {Q : Exit → Act → World → Prop} {a : Act} {w w0 : World} {rest : List Oper} {bs : List (Nat × TypeId × List Value)} {ls : List Ent} {dst : Option Tmp} {ty : TypeId} {pos : String} {after : Array Edge} {K : Act → World → Prop}
/-- An empty slice literal. -/
theorem wpList_lit0_ls {gd : Option (Nat × Bool)} (hw : Region.wanted ⟨dst, .buildSlice 22 0 #[], ty, pos, after, gd⟩ (yielded ops a.tmps) = true) (O : OwnL w0 w bs ls)
    (h : ∀ g w1, (∃ wc, OwnL w0 wc bs ls ∧ Below wc.heap.size wc w1 ∧ w1.ownsRow wc.heap.size 27 16 (.slice (some ⟨g, 0, none⟩) 0 0) 0 []) → wpList Try.prog ops Q rest (a.put dst (.slice (some ⟨g, 0, none⟩) 0 0)) w1) : wpList Try.prog ops Q (⟨dst, .buildSlice 22 0 #[], ty, pos, after, gd⟩ :: rest) a w :=
  wpList_step fun K hK => by
    rw [if_pos hw]
    obtain ⟨ie, hie, hz, hs, hb⟩ := mat_parts
    have hr : (Instr.buildSlice 22 0 #[]).run Try.prog w = .ok (.slice (some ⟨w.heap.size, 0, none⟩) 0 0) (w.alloc (.cells #[] 27)) := by
      simp [Instr.buildSlice, run_underlying Try.underlying22, sizeOf27, Instr.fill, newRow]
      exact congrArg (fun c => w.alloc (Obj.cells c 27)) (Array.eq_empty_of_size_eq_zero (by simp))
    unfold Oper.wp execOp
    simp only [Array.map_empty, Sem.run_bind, hr, Result.andThen_ok]
    exact hK _ _ (h _ _ ⟨w, O, (Below.refl _ w).alloc (Nat.le_refl _) _, World.ownsRow_made w #[] 0 (Nat.le_refl _) (by decide) rfl⟩)
end
set_option maxRecDepth 100000 in
set_option maxHeartbeats 8000000 in
theorem rows_any (m : Int) (L : Nat → Ent) (w : World) (hL : ∀ i, i < 2 → Lies w [] (L i)) (hs : ∀ i, i < 2 → 1 ≤ (L i).l.length ∧ (L i).l.length ≤ 100) : Calls Try.prog 33 #[.agg (sv m L).toArray] w (RetRows w m L) := by
  have O := OwnL.start w [L 0, L 1] (two_all hL)
  have hu2 := Try.underlying25
  obtain ⟨ie, hie, hz, hsz, hby⟩ := mat_parts
  have HS := Lib.hid hs
  have hmx : maxLen = 9223372036854775807 := rfl
  have HM := Lib.hid hmx
  clear hL hs hmx
  go_enter Try.func33, Try.ntmps33
  go_wp2_with (first | ((with_reducible refine at_box 1 ?_); refine wpList_box_ls O (sv m L) rfl ?_; clear O; intro g1 w1 O) | ((with_reducible refine at_alloc 2 ?_); refine wpList_alloc_ls O (sv 0 (noL 0)) zero25 ?_; clear O; intro g2 w2 O))
  go_loopw [3] (fun u wr => ∃ k : Nat, k ≤ 2 ∧ u = .int .i64 k ∧ ∃ (G : Nat → Nat) (C : Nat → List Value) (c : Nat → Nat), OwnL w wr (((List.range k).reverse.map fun i => (G i, 27, C i)) ++ [(g2, 25, sv 0 (noL 0)), (g1, 25, sv m (fun i => if i < k then rowE w G c L i else L i))]) [L 0, L 1] ∧ ∀ i, i < k → RowC (C i) (c i) (L i).l) (fun u _ => 2 - (intOf u).toNat)
  case atStart => exact ⟨0, by omega, rfl, fun _ => 0, fun _ => [], fun _ => 0, O, fun i hi => absurd hi (by omega)⟩
  case round =>
    clear O
    obtain ⟨k, hk, rfl, G, C, c, O, hall⟩ := hrel
    have HA := Lib.hid hall
    clear hall
    have q0 : (0 : Int) ≤ k := by omega
    by_cases hlt : k < 2
    · have q1 : (k : Int) < 2 := by omega
      obtain ⟨hs1, hs2⟩ := HS.out k hlt
      have hl63 : (L k).l.length ≤ maxLen := by have := HM.out; omega
      obtain ⟨fr, hfr⟩ : ∃ fr, fr = ((List.range k).reverse.map fun i => ((G i, 27, C i) : Nat × TypeId × List Value)) := ⟨_, rfl⟩
      have hfl : fr.length = k := by rw [hfr]; simp
      rw [← hfr] at O
      have hbox : (fr ++ [(g2, 25, sv 0 (noL 0)), (g1, 25, sv m (fun i => if i < k then rowE w G c L i else L i))])[k + 1]? = some (g1, 25, sv m (fun i => if i < k then rowE w G c L i else L i)) := by
        rw [List.getElem?_append_right (by omega), hfl]
        simp
      have hv1 : (sv m (fun i => if i < k then rowE w G c L i else L i))[1 + k]? = some (L k).val := by
        rw [sv_at _ _ hlt]
        simp
      have hln := twoL_at L [] hlt
      have HF := Lib.hid hfr
      have HFL := Lib.hid hfl
      clear hfr hfl hs1 hs2
      go_wp2_with (first | ((with_reducible refine at_lit 9 ?_); refine wpList_lit0_ls rfl O ?_; clear O; intro gz wz HO; obtain ⟨wc, Oc, Hc, Ho⟩ := HO) | ((with_reducible refine at_index 12 ?_); refine wpList_in_ls rfl Try.underlying23 sizeOf22 (by decide) (k) rfl rfl (rfl) (hlt) ?_) | ((with_reducible refine at_load 13 ?_); refine wpList_cell_ls rfl (Oc.call Hc) (k + 1) hbox hv1 rfl agg22 rfl ?_) | (((refine wpList_append_any _ rfl (.tmp 9) (.tmp 13) 22 rfl _ 27 ie (arr 16 M.zero) 16 128 Try.underlying22 hie hz hsz hby arr_cells (by decide) _ 0 [] rfl Ho _ (L k).A (L k).l.length (L k).c (M.cells (L k).l) rfl ((Oc.call Hc).ret k hln).reads (M.cells_one _) (by omega) (by have := (HS.out k hlt).2; omega) Hc.size ?_); intro v w8 o1 gr b1; rw [Nat.zero_add, List.nil_append] at o1; obtain ⟨g7, c7, C7, rfl, O, h7a, h7b, h7c, h7d, h7e⟩ := OwnL.row Oc (Below.rowGrown Hc Ho gr) o1 (by have := (HS.out k hlt).1; omega); clear o1 gr b1 Oc Hc Ho)) | ((with_reducible refine at_index 16 ?_); refine wpList_in_ls rfl Try.underlying23 sizeOf22 (by decide) (k) rfl rfl (rfl) (hlt) ?_) | ((with_reducible refine at_store 16 ?_); refine wpList_set_ls O (k + 2) (Ent.val ⟨w.heap.size, some ⟨g7, 0, none⟩, c7, (L k).l⟩) hbox (by simp only [sv, List.length_cons, List.length_nil]; omega) rfl rfl size22 rfl rfl ?_; clear O; intro w9 O))
      go_roundw
      case rel =>
        refine ⟨k + 1, by omega, by go_num, fun i => if i = k then g7 else G i, fun i => if i = k then C7 else C i, fun i => if i = k then c7 else c i, ?_, fun i hi => ?_⟩
        · rw [sv_set _ _ hlt] at O
          have e1 : ((List.range (k + 1)).reverse.map fun i => (((if i = k then g7 else G i), 27, (if i = k then C7 else C i)) : Nat × TypeId × List Value)) = (g7, 27, C7) :: fr := by
            rw [HF.out, List.range_succ, List.reverse_append]
            simp only [List.reverse_cons, List.reverse_nil, List.nil_append, List.cons_append, List.map_cons, if_true]
            congr 1
            apply List.map_congr_left
            intro i hi
            have : i < k := by simpa using hi
            simp [show i ≠ k by omega]
          have e2 : (putL (fun i => if i < k then rowE w G c L i else L i) k ⟨w.heap.size, some ⟨g7, 0, none⟩, c7, (L k).l⟩) = (fun i => if i < k + 1 then rowE w (fun i => if i = k then g7 else G i) (fun i => if i = k then c7 else c i) L i else L i) := by
            funext i
            by_cases h : i = k
            · subst h
              simp [putL, rowE]
            · by_cases h2 : i < k
              · simp [putL, rowE, h, h2, show i < k + 1 by omega]
              · simp [putL, h, h2, show ¬ i < k + 1 by omega]
          rw [e2] at O
          rw [e1]
          have e3 : ∀ y, (((g7, 27, C7) : Nat × TypeId × List Value) :: (fr ++ [(g2, 25, sv 0 (noL 0)), (g1, 25, sv m (fun i => if i < k then rowE w G c L i else L i))])).set (k + 2) (g1, 25, y) = (g7, 27, C7) :: (fr ++ [(g2, 25, sv 0 (noL 0)), (g1, 25, y)]) := by
            intro y
            rw [List.set_cons_succ, List.set_append_right _ _ (by have := HFL.out; omega), HFL.out]
            simp
          rw [e3] at O
          exact O
        · by_cases e : i = k
          · subst e
            simp only [if_true]
            exact ⟨h7a, h7b, h7c, h7d⟩
          · simp only [if_neg e]
            exact HA.out i (by omega)
      case measure => simp [intOf]; omega
    · have q1 : ¬ (k : Int) < 2 := by omega
      obtain rfl : k = 2 := by omega
      have e1 : ((List.range 2).reverse.map fun i => ((G i, 27, C i) : Nat × TypeId × List Value)) = [(G 1, 27, C 1), (G 0, 27, C 0)] := rfl
      rw [e1] at O
      have e2 : sv m (fun i => if i < 2 then rowE w G c L i else L i) = sv m (rowE w G c L) := rfl
      rw [e2] at O
      simp only [List.cons_append, List.nil_append] at O
      go_wp2_with (first | ((with_reducible refine at_load 17 ?_); refine wpList_rowg_ls rfl O 3 rfl rfl Try.underlying25 rfl (s25 _ _) ?_) | ((with_reducible refine at_store 2 ?_); refine wpList_put_ls O 2 (sv (m) (rowE w G c L)) rfl rfl rfl (s25 _ _) (sv_len _ _ _ _) (sv_one _ _) ?_; clear O; intro w5 O))
      refine bodyPost_ret (v := .agg (sv m (rowE w G c L)).toArray) (res_ls rfl O 2 rfl rfl Try.underlying25 rfl (s25 _ _)) rfl ⟨G, C, c, rfl, ⟨O.below, ?_, fun x hx => ?_⟩, HA.out⟩
      · have := O.1.2.1
        simp only [List.map_cons, List.nodup_cons, List.set_cons_succ, List.set_cons_zero, List.mem_cons] at this
        simp only [rowsB, List.map_cons, List.map_nil, List.nodup_cons, List.mem_cons, List.not_mem_nil, or_false, not_false_eq_true, List.nodup_nil, and_true]
        exact fun e => this.1 (.inl e.symm)
      · simp only [rowsB, List.mem_cons, List.not_mem_nil, or_false] at hx
        rcases hx with rfl | rfl
        · exact O.1.2.2 _ (by simp)
        · exact O.1.2.2 _ (by simp)
end Go.Proofs.Ythcieapfpgejdaa
