/- Contracts of the program: sides, Has. -/
import Derived.Test.YtndaijcgjhmiaaaJt
namespace Go.Proofs.Ytndaijcgjhmiaaa
open Go.ChangeShapes Go.WideShapes Go.ChangeAt Go.RowKit
set_option linter.unusedVariables false
set_option linter.unusedSimpArgs false

/-- Sides in memory. -/
def dC_ (l : List (Nat → Int)) : List Value := l.flatMap (fun f => M.mat 4 f)
theorem dC_len (l : List (Nat → Int)) : (dC_ l).length = l.length * 4 := flat_len _ 4 (fun f => M.mat_len 4 f) l
theorem dC_at {l : List (Nat → Int)} {i : Nat} {x : Nat → Int} (h : l[i]? = some x) : ∀ j v, (M.mat 4 x)[j]? = some v → (dC_ l)[i * 4 + j]? = some v := flat_at (fun f => M.mat 4 f) 4 (fun f => M.mat_len 4 f) h
def dE_ (lo : Nat) (A : Option Addr) (c : Nat) (l : List (Nat → Int)) : Ent := ⟨lo, A, l.length, c, 4, dC_ l⟩
def RetD (w : World) (l : List (Nat → Int)) (e : Ending) (w' : World) : Prop := ∃ A c, e = .returned (.slice A l.length c) ∧ Lies w' free (dE_ w.heap.size A c l) ∧ Below w.heap.size w w'
theorem retD_nil {w w' : World} (hb : Below w.heap.size w w') : RetD w [] (.returned (.slice none 0 0)) w' := ⟨none, 0, rfl, Lies.nil, hb⟩
set_option maxRecDepth 100000 in
set_option maxHeartbeats 16000000 in
theorem psides20 (a b c : Nat → Int) (ha : TR.May a) (hb : TR.May b) (hc : TR.May c) (w : World) : Calls Try.prog 22 #[arr 7 a, arr 7 b, arr 7 c] w (RetD w (TR.sds a b c)) := by
  have O := Own.start w
  have CA := fun w => parea20_any a b c ha hb hc w
  have HE : TR.sds a b c = if TR.ar a b c < 0 then [TR.side a c, TR.side c b, TR.side b a] else if TR.ar a b c = 0 then [] else [TR.side a b, TR.side b c, TR.side c a] := rfl
  by_cases hneg : TR.ar a b c < 0
  · rw [if_pos hneg] at HE
    generalize TR.ar a b c = n at *
    have K1 : decide (n < 0) = true := decide_eq_true hneg
    have K2 : (n == 0) = false := by simp; omega
    clear hneg
    have C1 := fun w => pbetw20 a c ha hc w
    have C2 := fun w => pbetw20 c b hc hb w
    have C3 := fun w => pbetw20 b a hb ha w
    generalize TR.side a c = d1 at *
    generalize TR.side c b = d2 at *
    generalize TR.side b a = d3 at *
    replace HE := Lib.hid HE
    clear ha hb hc
    go_enter Try.func22, Try.ntmps22
    go_wp2_with (first | ((with_reducible refine at_box 3 ?_); refine wpList_box_own O (M.mat 7 (a)) rfl ?_; clear O; intro g3 w1 O) | ((with_reducible refine at_box 4 ?_); refine wpList_box_own O (M.mat 7 (b)) rfl ?_; clear O; intro g4 w2 O) | ((with_reducible refine at_box 5 ?_); refine wpList_box_own O (M.mat 7 (c)) rfl ?_; clear O; intro g5 w3 O) | ((with_reducible refine at_load 8 ?_); refine wpList_whole rfl O 2 rfl rfl Try.underlying34 rfl (sW _) ?_) | ((with_reducible refine at_load 9 ?_); refine wpList_whole rfl O 1 rfl rfl Try.underlying34 rfl (sW _) ?_) | ((with_reducible refine at_load 10 ?_); refine wpList_whole rfl O 0 rfl rfl Try.underlying34 rfl (sW _) ?_) | (go_at_call 15; refine (CA _).mono ?_; rintro e w4 ⟨rfl, hb⟩; replace O := O.call hb; clear hb) | ((with_reducible refine at_load 16 ?_); refine wpList_whole rfl O 0 rfl rfl Try.underlying34 rfl (sW _) ?_) | ((with_reducible refine at_load 17 ?_); refine wpList_whole rfl O 1 rfl rfl Try.underlying34 rfl (sW _) ?_) | ((with_reducible refine at_store 4 ?_); refine wpList_put_own O 1 (M.mat 7 (c)) rfl rfl rfl (sW _) (M.mat_len2 _ _ _) (M.mat_one _ _) ?_; clear O; intro w5 O) | ((with_reducible refine at_store 5 ?_); refine wpList_put_own O 0 (M.mat 7 (b)) rfl rfl rfl (sW _) (M.mat_len2 _ _ _) (M.mat_one _ _) ?_; clear O; intro w6 O))
    have O9 := Own.as O (l' := [(g5, 34, M.mat 7 b), (g4, 34, M.mat 7 c), (g3, 34, M.mat 7 a)]) rfl
    clear O
    have O := O9
    clear O9
    refine region_T (fun w2 => Own w w2 [(g5, 34, M.mat 7 b), (g4, 34, M.mat 7 c), (g3, 34, M.mat 7 a)]) [0, 1, 2, 3, 4, 5, 6, 7, 8] 12 [some 18, some 19, some 20, some 21, some 22, some 23, some 24, some 25, some 26] [arr 7 a, arr 7 c, arr 4 d1, arr 7 c, arr 7 b, arr 4 d2, arr 7 b, arr 7 a, arr 4 d3] 2 (by kernel_rfl) (by rfl) (by kernel_rfl) (by rfl) (by rfl) (O.drew) (fun F hF => ?_)
    simp only [fillD, Act.put, List.setIfInBounds_toArray, List.set_cons_zero, List.set_cons_succ] at hF
    subst hF
    refine ⟨⟨does_want rfl (by rfl) (fun w' O K hK => ?_), does_want rfl (by rfl) (fun w' O K hK => ?_), does_want rfl (by rfl) (fun w' O K hK => ?_), does_want rfl (by rfl) (fun w' O K hK => ?_), does_want rfl (by rfl) (fun w' O K hK => ?_), does_want rfl (by rfl) (fun w' O K hK => ?_), does_want rfl (by rfl) (fun w' O K hK => ?_), does_want rfl (by rfl) (fun w' O K hK => ?_), does_want rfl (by rfl) (fun w' O K hK => ?_), trivial⟩, fun w' O => ?_⟩
    · exact wp_whole O 2 rfl rfl Try.underlying34 rfl (sW _) (hK _ O)
    · exact wp_whole O 1 rfl rfl Try.underlying34 rfl (sW _) (hK _ O)
    · go_simp
      go_at_call 28
      refine (C1 _).mono ?_
      rintro e w2 ⟨rfl, hb⟩
      exact hK _ (O.call hb)
    · exact wp_whole O 1 rfl rfl Try.underlying34 rfl (sW _) (hK _ O)
    · exact wp_whole O 0 rfl rfl Try.underlying34 rfl (sW _) (hK _ O)
    · go_simp
      go_at_call 28
      refine (C2 _).mono ?_
      rintro e w2 ⟨rfl, hb⟩
      exact hK _ (O.call hb)
    · exact wp_whole O 0 rfl rfl Try.underlying34 rfl (sW _) (hK _ O)
    · exact wp_whole O 2 rfl rfl Try.underlying34 rfl (sW _) (hK _ O)
    · go_simp
      go_at_call 28
      refine (C3 _).mono ?_
      rintro e w2 ⟨rfl, hb⟩
      exact hK _ (O.call hb)
    refine wpAny_want (i := 9) (by kernel_rfl) rfl (by rfl) (fun K hK => ?_)
    refine wp_lit_h O.held 4 (.agg (M.mat 4 M.zero).toArray) infoD20 Try.underlying55 [(0, arr 4 d1), (1, arr 4 d2), (2, arr 4 d3)] (dC_ [d1, d2, d3]) rfl (dC_len _) (by decide) (by decide) (by kernel_rfl) fun g89 u5 O5 => hK _ _ ?_
    clear O
    have O := O5
    clear O5
    clear hK K
    try simp only [Act.put, List.setIfInBounds_toArray, List.set_cons_zero, List.set_cons_succ]
    refine wpAny_one (i := 10) (by kernel_rfl) rfl (fun K hK => ?_)
    go_simp
    refine hK _ _ ?_
    clear hK K
    try simp only [Act.put, List.setIfInBounds_toArray, List.set_cons_zero, List.set_cons_succ]
    refine wpAny_done (by kernel_rfl) ?_ _
    go_wp2_with fail
    go_ret
    exact ⟨some ⟨g89, 0, none⟩, 3, by rw [HE.out]; rfl, by rw [HE.out]; exact O.arg List.mem_cons_self, O.1.below⟩
  · rw [if_neg hneg] at HE
    by_cases hz : TR.ar a b c = 0
    · rw [if_pos hz] at HE
      rw [HE]
      clear HE ha hb hc
      generalize TR.ar a b c = n at *
      have K2 : (n == 0) = true := by simpa using hz
      clear hneg hz
      go_enter Try.func22, Try.ntmps22
      go_wp2_with (first | ((with_reducible refine at_box 3 ?_); refine wpList_box_own O (M.mat 7 (a)) rfl ?_; clear O; intro g3 w1 O) | ((with_reducible refine at_box 4 ?_); refine wpList_box_own O (M.mat 7 (b)) rfl ?_; clear O; intro g4 w2 O) | ((with_reducible refine at_box 5 ?_); refine wpList_box_own O (M.mat 7 (c)) rfl ?_; clear O; intro g5 w3 O) | ((with_reducible refine at_load 8 ?_); refine wpList_whole rfl O 2 rfl rfl Try.underlying34 rfl (sW _) ?_) | ((with_reducible refine at_load 9 ?_); refine wpList_whole rfl O 1 rfl rfl Try.underlying34 rfl (sW _) ?_) | ((with_reducible refine at_load 10 ?_); refine wpList_whole rfl O 0 rfl rfl Try.underlying34 rfl (sW _) ?_) | (go_at_call 15; refine (CA _).mono ?_; rintro e w4 ⟨rfl, hb⟩; replace O := O.call hb; clear hb))
      go_ret
      exact retD_nil O.below
    · rw [if_neg hz] at HE
      generalize TR.ar a b c = n at *
      have K1 : decide (n < 0) = false := decide_eq_false hneg
      have K2 : (n == 0) = false := by simpa using hz
      clear hneg hz
      have C1 := fun w => pbetw20 a b ha hb w
      have C2 := fun w => pbetw20 b c hb hc w
      have C3 := fun w => pbetw20 c a hc ha w
      generalize TR.side a b = d1 at *
      generalize TR.side b c = d2 at *
      generalize TR.side c a = d3 at *
      replace HE := Lib.hid HE
      clear ha hb hc
      go_enter Try.func22, Try.ntmps22
      go_wp2_with (first | ((with_reducible refine at_box 3 ?_); refine wpList_box_own O (M.mat 7 (a)) rfl ?_; clear O; intro g3 w1 O) | ((with_reducible refine at_box 4 ?_); refine wpList_box_own O (M.mat 7 (b)) rfl ?_; clear O; intro g4 w2 O) | ((with_reducible refine at_box 5 ?_); refine wpList_box_own O (M.mat 7 (c)) rfl ?_; clear O; intro g5 w3 O) | ((with_reducible refine at_load 8 ?_); refine wpList_whole rfl O 2 rfl rfl Try.underlying34 rfl (sW _) ?_) | ((with_reducible refine at_load 9 ?_); refine wpList_whole rfl O 1 rfl rfl Try.underlying34 rfl (sW _) ?_) | ((with_reducible refine at_load 10 ?_); refine wpList_whole rfl O 0 rfl rfl Try.underlying34 rfl (sW _) ?_) | (go_at_call 15; refine (CA _).mono ?_; rintro e w4 ⟨rfl, hb⟩; replace O := O.call hb; clear hb))
      refine region_T (fun w2 => Own w w2 [(g5, 34, M.mat 7 c), (g4, 34, M.mat 7 b), (g3, 34, M.mat 7 a)]) [0, 1, 2, 3, 4, 5, 6, 7, 8] 12 [some 18, some 19, some 20, some 21, some 22, some 23, some 24, some 25, some 26] [arr 7 a, arr 7 b, arr 4 d1, arr 7 b, arr 7 c, arr 4 d2, arr 7 c, arr 7 a, arr 4 d3] 2 (by kernel_rfl) (by rfl) (by kernel_rfl) (by rfl) (by rfl) (O.drew) (fun F hF => ?_)
      simp only [fillD, Act.put, List.setIfInBounds_toArray, List.set_cons_zero, List.set_cons_succ] at hF
      subst hF
      refine ⟨⟨does_want rfl (by rfl) (fun w' O K hK => ?_), does_want rfl (by rfl) (fun w' O K hK => ?_), does_want rfl (by rfl) (fun w' O K hK => ?_), does_want rfl (by rfl) (fun w' O K hK => ?_), does_want rfl (by rfl) (fun w' O K hK => ?_), does_want rfl (by rfl) (fun w' O K hK => ?_), does_want rfl (by rfl) (fun w' O K hK => ?_), does_want rfl (by rfl) (fun w' O K hK => ?_), does_want rfl (by rfl) (fun w' O K hK => ?_), trivial⟩, fun w' O => ?_⟩
      · exact wp_whole O 2 rfl rfl Try.underlying34 rfl (sW _) (hK _ O)
      · exact wp_whole O 1 rfl rfl Try.underlying34 rfl (sW _) (hK _ O)
      · go_simp
        go_at_call 28
        refine (C1 _).mono ?_
        rintro e w2 ⟨rfl, hb⟩
        exact hK _ (O.call hb)
      · exact wp_whole O 1 rfl rfl Try.underlying34 rfl (sW _) (hK _ O)
      · exact wp_whole O 0 rfl rfl Try.underlying34 rfl (sW _) (hK _ O)
      · go_simp
        go_at_call 28
        refine (C2 _).mono ?_
        rintro e w2 ⟨rfl, hb⟩
        exact hK _ (O.call hb)
      · exact wp_whole O 0 rfl rfl Try.underlying34 rfl (sW _) (hK _ O)
      · exact wp_whole O 2 rfl rfl Try.underlying34 rfl (sW _) (hK _ O)
      · go_simp
        go_at_call 28
        refine (C3 _).mono ?_
        rintro e w2 ⟨rfl, hb⟩
        exact hK _ (O.call hb)
      refine wpAny_want (i := 9) (by kernel_rfl) rfl (by rfl) (fun K hK => ?_)
      refine wp_lit_h O.held 4 (.agg (M.mat 4 M.zero).toArray) infoD20 Try.underlying55 [(0, arr 4 d1), (1, arr 4 d2), (2, arr 4 d3)] (dC_ [d1, d2, d3]) rfl (dC_len _) (by decide) (by decide) (by kernel_rfl) fun g89 u5 O5 => hK _ _ ?_
      clear O
      have O := O5
      clear O5
      clear hK K
      try simp only [Act.put, List.setIfInBounds_toArray, List.set_cons_zero, List.set_cons_succ]
      refine wpAny_one (i := 10) (by kernel_rfl) rfl (fun K hK => ?_)
      go_simp
      refine hK _ _ ?_
      clear hK K
      try simp only [Act.put, List.setIfInBounds_toArray, List.set_cons_zero, List.set_cons_succ]
      refine wpAny_done (by kernel_rfl) ?_ _
      go_wp2_with fail
      go_ret
      exact ⟨some ⟨g89, 0, none⟩, 3, by rw [HE.out]; rfl, by rw [HE.out]; exact O.arg List.mem_cons_self, O.1.below⟩
theorem TR.all_no {l : List (Nat → Int)} {f : (Nat → Int) → Bool} {k : Nat} {x : Nat → Int} (h : l[k]? = some x) (hf : f x = false) : (l.all f && decide (0 < l.length)) = false := by
  have : l.all f = false := by
    rw [List.all_eq_false]
    exact ⟨x, List.mem_of_getElem? h, by rw [hf]; decide⟩
  rw [this, Bool.false_and]
theorem TR.all_yes {l : List (Nat → Int)} {f : (Nat → Int) → Bool} (h : ∀ k x, k < l.length → l[k]? = some x → f x = true) : l.all f = true := by
  rw [List.all_eq_true]
  intro x hx
  obtain ⟨k, hk⟩ := List.getElem?_of_mem hx
  exact h k x (List.getElem?_eq_some_iff.1 hk).1 hk
set_option maxRecDepth 100000 in
set_option maxHeartbeats 16000000 in
theorem phas20_any (a b c : Nat → Int) (ha : TR.May a) (hb : TR.May b) (hc : TR.May c) (x y : Int) (hx : -4194304 ≤ x ∧ x ≤ 4194304) (hy : -4194304 ≤ y ∧ y ≤ 4194304) (w : World) : Calls Try.prog 19 #[arr 7 a, arr 7 b, arr 7 c, .int .i64 x, .int .i64 y] w fun e w' => e = .returned (.bool (TR.has a b c x y)) ∧ Below w.heap.size w w' := by
  have O := Held.start w [] (by simp)
  have CS := fun w => psides20 a b c ha hb hc w
  have HE := TR.has_sds a b c x y
  have HL := TR.sds_len a b c
  have CK := Lib.hid (fun s (hs : s ∈ TR.sds a b c) w => pkeeps20 s x y (TR.sds_sd ha hb hc s hs) hx hy w)
  generalize TR.sds a b c = l at *
  rw [HE]
  have HN := Lib.hid (fun k s (h : l[k]? = some s) (hf : TR.keeps s x y = false) => TR.all_no (f := fun s => TR.keeps s x y) h hf)
  have HY := Lib.hid (fun h => @TR.all_yes l (fun s => TR.keeps s x y) h)
  obtain ⟨z, hz⟩ : ∃ z, (l.all (fun s => TR.keeps s x y) && decide (0 < l.length)) = z := ⟨_, rfl⟩
  rw [hz] at HN ⊢
  have HZ := Lib.hid hz
  have HLL := Lib.hid HL
  clear HE HL hz ha hb hc hx hy
  go_enter Try.func19, Try.ntmps19
  go_wp2_with (first | ((with_reducible refine at_box 5 ?_); refine wpList_box_h O (M.mat 7 (a)) rfl ?_; clear O; intro g5 w1 O) | ((with_reducible refine at_box 6 ?_); refine wpList_box_h O (M.mat 7 (b)) rfl ?_; clear O; intro g6 w2 O) | ((with_reducible refine at_box 7 ?_); refine wpList_box_h O (M.mat 7 (c)) rfl ?_; clear O; intro g7 w3 O) | ((with_reducible refine at_load 14 ?_); refine wpList_rowg_h rfl O 2 rfl rfl Try.underlying34 rfl (sW _) ?_) | ((with_reducible refine at_load 15 ?_); refine wpList_rowg_h rfl O 1 rfl rfl Try.underlying34 rfl (sW _) ?_) | ((with_reducible refine at_load 16 ?_); refine wpList_rowg_h rfl O 0 rfl rfl Try.underlying34 rfl (sW _) ?_) | (go_at_call 22; refine (CS _).mono ?_; rintro e w4 ⟨A, cc, rfl, hL, hb⟩; have O2 : Held w w4 [(g7, 34, M.mat 7 c), (g6, 34, M.mat 7 b), (g5, 34, M.mat 7 a)] nilRow [dE_ w.heap.size A cc l] := O.gain hb hL; clear O hL hb; have O := O2; clear O2))
  go_loopw [20] (fun u wr => ∃ (k : Nat) (I : Int), k ≤ l.length ∧ (k : Int) = I ∧ (∀ j s, j < k → l[j]? = some s → TR.keeps s x y = true) ∧ u = .int .i64 I ∧ Held w wr [(g7, 34, M.mat 7 c), (g6, 34, M.mat 7 b), (g5, 34, M.mat 7 a)] nilRow [dE_ w.heap.size A cc l]) (fun t_ _ => ((l.length : Int) - intOf t_).toNat)
  case atStart => exact ⟨0, 0, Nat.zero_le _, rfl, fun j s h => absurd h (Nat.not_lt_zero _), rfl, O⟩
  case round =>
    clear O
    obtain ⟨k, I, hk, hI, hall, rfl, O⟩ := hrel
    by_cases hlt : k < l.length
    · have q0 : (0 : Int) ≤ I := by omega
      have q1 : I < l.length := by omega
      have W1 : wrap64 (I + 1) = I + 1 := IntWalk.wrap64_in _ (by have := HLL.out; omega)
      obtain ⟨s, hs⟩ : ∃ s, l[k]? = some s := ⟨_, List.getElem?_eq_getElem hlt⟩
      have CKs := CK.out s (List.mem_of_getElem? hs)
      have HX := Lib.hid hs
      have HA := Lib.hid hall
      have HK := Lib.hid (And.intro hlt hI)
      cases hf : TR.keeps s x y
      · have HF := Lib.hid (HN.out k s hs hf)
        rw [hf] at CKs
        clear hs hall hf hlt hk
        go_wp2_with (first | ((with_reducible refine at_index_ 22 ?_); refine wpList_at_h rfl Try.underlying55 sizeOfD20 _ (O.mem List.mem_cons_self) rfl k rfl (HK.out.2.symm) (HK.out.1) rfl ?_) | ((with_reducible refine at_load 23 ?_); refine wpList_elem_h rfl _ (O.mem List.mem_cons_self) (k * 4) (M.mat 4 s) (dC_at HX.out) (by rw [M.mat_len]; decide) rfl Try.underlying60 rfl (sD20 _) ?_) | ((with_reducible refine at_alloc 13 ?_); refine wpList_alloc_h O (M.mat 4 M.zero) zeroD20 ?_; clear O; intro g13 w6 O) | ((with_reducible refine at_store 13 ?_); refine wpList_put_h O 0 (M.mat 4 (s)) rfl rfl rfl (sD20 _) (M.mat_len2 _ _ _) (M.mat_one _ _) ?_; clear O; intro w7 O) | ((with_reducible refine at_load 24 ?_); refine wpList_rowg_h rfl O 0 rfl rfl Try.underlying60 rfl (sD20 _) ?_) | (go_at_call 27; refine (CKs _).mono ?_; rintro e w8 ⟨rfl, hb⟩; replace O := O.call hb; clear hb))
        go_ret
        exact ⟨by rw [HF.out]; rfl, O.below⟩
      · have HA2 := Lib.hid (show ∀ j t, j < k + 1 → l[j]? = some t → TR.keeps t x y = true from fun j t hj ht => by
          rcases (by omega : j < k ∨ j = k) with g | rfl
          · exact hall j t g ht
          · rw [hs] at ht
            injection ht with e
            rw [← e]
            exact hf)
        rw [hf] at CKs
        clear hs hall hf hlt hk
        go_wp2_with (first | ((with_reducible refine at_index_ 22 ?_); refine wpList_at_h rfl Try.underlying55 sizeOfD20 _ (O.mem List.mem_cons_self) rfl k rfl (HK.out.2.symm) (HK.out.1) rfl ?_) | ((with_reducible refine at_load 23 ?_); refine wpList_elem_h rfl _ (O.mem List.mem_cons_self) (k * 4) (M.mat 4 s) (dC_at HX.out) (by rw [M.mat_len]; decide) rfl Try.underlying60 rfl (sD20 _) ?_) | ((with_reducible refine at_alloc 13 ?_); refine wpList_alloc_h O (M.mat 4 M.zero) zeroD20 ?_; clear O; intro g13 w6 O) | ((with_reducible refine at_store 13 ?_); refine wpList_put_h O 0 (M.mat 4 (s)) rfl rfl rfl (sD20 _) (M.mat_len2 _ _ _) (M.mat_one _ _) ?_; clear O; intro w7 O) | ((with_reducible refine at_load 24 ?_); refine wpList_rowg_h rfl O 0 rfl rfl Try.underlying60 rfl (sD20 _) ?_) | (go_at_call 27; refine (CKs _).mono ?_; rintro e w8 ⟨rfl, hb⟩; replace O := O.call hb; clear hb))
        go_roundw
        case rel => first | exact ⟨k + 1, I + 1, HK.out.1, by have := HK.out.2; omega, HA2.out, by first | rfl | exact congrArg (Value.int IntKind.i64) W1, O.tail⟩ | ((repeat apply Exists.intro); exact ⟨⟨k + 1, I + 1, HK.out.1, by have := HK.out.2; omega, HA2.out, by first | rfl | exact congrArg (Value.int IntKind.i64) W1, O.tail⟩, rfl⟩)
        case measure => first | (rw [W1]; simp only [intOf]; omega) | (simp only [intOf]; omega)
    · obtain rfl : k = l.length := by omega
      have q1 : ¬ I < l.length := by omega
      have HF := Lib.hid (HY.out fun j s hj hs => hall j s hj hs)
      have HE2 : Hid (z = decide (0 < l.length)) := Lib.hid (by rw [← HZ.out, HF.out, Bool.true_and])
      clear hall hk
      cases hz2 : decide (0 < l.length)
      · have KN : decide ((l.length : Int) > 0) = false := by simp at hz2 ⊢; omega
        have KN2 : decide ((0 : Int) < l.length) = false := by simp at hz2 ⊢; omega
        rw [hz2] at HE2
        have HZ2 := Lib.hid hz2
        clear hz2 hI
        go_wp2_with fail
        go_ret
        exact ⟨by rw [HE2.out]; exact congrArg (fun z => Ending.returned (Value.bool z)) HZ2.out, O.below⟩
      · have KN : decide ((l.length : Int) > 0) = true := by simp at hz2 ⊢; omega
        have KN2 : decide ((0 : Int) < l.length) = true := by simp at hz2 ⊢; omega
        rw [hz2] at HE2
        have HZ2 := Lib.hid hz2
        clear hz2 hI
        go_wp2_with fail
        go_ret
        exact ⟨by rw [HE2.out]; exact congrArg (fun z => Ending.returned (Value.bool z)) HZ2.out, O.below⟩
end Go.Proofs.Ytndaijcgjhmiaaa
