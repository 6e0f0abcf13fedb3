/- Contract: Prims. -/
import Derived.Test.YtadpejblhkcjgaaC7
namespace Go.Proofs.Ytadpejblhkcjgaa
open Go.ChangeShapes Go.WideShapes Go.ChangeAt Go.RowKit
set_option linter.unusedVariables false
set_option linter.unusedSimpArgs false

set_option maxRecDepth 100000 in
set_option maxHeartbeats 4000000 in
theorem prims_bad (m : Int) (A' : Option Addr) (n c' : Nat) (first : Bool) (hm : m < 0 ∨ 9 < m) (w : World) : Calls Try.prog 9 #[.int .i64 m, .slice A' n c', .bool first] w (RetP w [] 1) := by
  have O := Held.start w [] (by simp)
  go_enter Try.func9, Try.ntmps9
  go_wp2_with (first | (go_at_call 14; refine (shapeOf_out m hm _).mono ?_; rintro e w3 ⟨rfl, hb⟩; replace O := O.call hb; clear hb) | ((with_reducible refine at_alloc 8 ?_); refine wpList_alloc_h O (sc P.zshp (nilE 2)) zero43 ?_; clear O; intro g8 w1 O) | ((with_reducible refine at_store 8 ?_); refine wpList_put_h O 0 (sc P.zshp (nilE 2)) rfl rfl rfl size43 (rfl) (sc_one _ _) ?_; clear O; intro w4 O))
  go_ret2
  exact retP_nil O.below
set_option maxRecDepth 100000 in
set_option maxHeartbeats 4000000 in
theorem prims_full (m : Nat) (A' : Option Addr) (n c' : Nat) (first : Bool) (hm : m ≤ 9) (hn : 256 < n) (w : World) : Calls Try.prog 9 #[.int .i64 m, .slice A' n c', .bool first] w (RetP w [] 8) := by
  have O := Held.start w [] (by simp)
  have q1 : (256 : Int) < n := by omega
  go_enter Try.func9, Try.ntmps9
  go_wp2_with (first | (go_at_call 14; refine (shapeOf_in m hm _).mono ?_; rintro e w3 hr; obtain ⟨A, c, rfl, O2⟩ := shp_at O hr; clear O hr; have O := O2; clear O2) | ((with_reducible refine at_alloc 8 ?_); refine wpList_alloc_h O (sc P.zshp (nilE 2)) zero43 ?_; clear O; intro g8 w1 O) | ((with_reducible refine at_store 8 ?_); refine wpList_put_h O 0 (sc (P.shp m) (cE w.heap.size A c (P.shp m).cs)) rfl rfl rfl size43 (rfl) (sc_one _ _) ?_; clear O; intro w4 O))
  go_ret2
  exact retP_nil O.below
set_option maxRecDepth 100000 in
set_option maxHeartbeats 8000000 in
theorem prims_in (m : Nat) (fl : List Bool) {lo : Nat} {A' : Option Addr} {c' : Nat} (first : Bool) (hm : m ≤ 9) (hn : fl.length ≤ 256) (w : World) (hf : Lies w free (bE lo A' c' fl)) : Calls Try.prog 9 #[.int .i64 m, .slice A' fl.length c', .bool first] w (RetP w (P.list (P.shp m) fl first) 0) := by
  have O := Held.start w [bE lo A' c' fl] (by simpa using hf)
  have q1 : ¬ (256 : Int) < fl.length := by omega
  have hk256 := P.cnt_le hm hn
  have HP : Hid (P.list (P.shp m) fl first = (List.range (P.cnt (P.shp m) fl.length)).map (P.prim (P.shp m) fl first)) := by show _ = _; rfl
  obtain ⟨N, hN⟩ : ∃ N, P.cnt (P.shp m) fl.length = N := ⟨_, rfl⟩
  rw [hN] at HP hk256
  have HN := Lib.hid hN
  clear hN hf
  go_enter Try.func9, Try.ntmps9
  go_wp2_with (first | (go_at_call 14; refine (shapeOf_in m hm _).mono ?_; rintro e w3 hr; obtain ⟨A, c, rfl, O2⟩ := shp_at O hr; clear O hr; have O := O2; clear O2) | ((with_reducible refine at_alloc 8 ?_); refine wpList_alloc_h O (sc P.zshp (nilE 2)) zero43 ?_; clear O; intro g8 w1 O) | ((with_reducible refine at_store 8 ?_); refine wpList_put_h O 0 (sc (P.shp m) (cE w.heap.size A c (P.shp m).cs)) rfl rfl rfl size43 (rfl) (sc_one _ _) ?_; clear O; intro w4 O) | ((with_reducible refine at_load 25 ?_); refine wpList_rowg_h rfl O 0 rfl rfl Try.underlying43 rfl size43 ?_) | (go_at_call 15; refine (cnt_any m hm (cE w.heap.size A c (P.shp m).cs) fl.length hn _).mono ?_; rw [HN.out]; rintro e w5 ⟨rfl, hb⟩; replace O := O.call hb; clear hb))
  replace O := O.fresh 35 3
  go_loopw [11, 28] (fun u t wr => ∃ (k : Nat) (l : List PA), k ≤ N ∧ t = .int .i64 k ∧ l.length = k ∧ l.map (·.1) = (List.range k).map (P.prim (P.shp m) fl first) ∧ Held w wr [(g8, 43, sc (P.shp m) (cE w.heap.size A c (P.shp m).cs))] ⟨u, 35, 3, k, pmcs l⟩ (ents w.heap.size l ++ [cE w.heap.size A c (P.shp m).cs, bE lo A' c' fl])) (fun _ t _ => N - (intOf t).toNat)
  case atStart => exact ⟨0, [], Nat.zero_le _, rfl, rfl, rfl, O⟩
  case round =>
    clear O
    obtain ⟨k, l, hk, rfl, hkl, hl, O⟩ := hrel
    have q0 : (0 : Int) ≤ k := by omega
    have HL := Lib.hid hl
    have HKL := Lib.hid hkl
    clear hl hkl
    by_cases hlt : k < N
    · have q2 : (k : Int) < N := by omega
      have hn0 : 0 < fl.length := P.cnt_pos hm (by rw [HN.out]; omega)
      have hki : k ≤ 256 := by omega
      have HV : Hid (P.prim (P.shp m) fl first k = ⟨P.verts (P.shp m) k fl.length, P.sides (P.shp m) (P.verts (P.shp m) k fl.length) fl, P.num (P.prov (P.shp m) first) k fl.length⟩) := by show _ = _; rfl
      have HVL := Lib.hid (P.verts_len hm (i := k) hn)
      have HVM := Lib.hid (P.verts_lt hm (i := k) hn0)
      obtain ⟨V, hV⟩ : ∃ V, P.verts (P.shp m) k fl.length = V := ⟨_, rfl⟩
      obtain ⟨E, hE⟩ : ∃ E, P.sides (P.shp m) V fl = E := ⟨_, rfl⟩
      obtain ⟨p, hp⟩ : ∃ p, P.num (P.prov (P.shp m) first) k fl.length = p := ⟨_, rfl⟩
      rw [hV] at HV HVL HVM
      rw [hE, hp] at HV
      have HV1 := Lib.hid hV
      have HE1 := Lib.hid hE
      have HP1 := Lib.hid hp
      clear hV hE hp
      go_wp2_with (first | ((with_reducible refine at_load 31 ?_); refine wpList_rowg_h rfl O 0 rfl rfl Try.underlying43 rfl size43 ?_) | (go_at_call 16; refine (verts_any (P.shp m) k fl.length _ (O.arg (x := cE w.heap.size A c (P.shp m).cs) (by simp)) hki hn0 hn (P.cs_le hm) (P.cs_tu hm) (P.cs_four hm)).mono ?_; rw [HV1.out]; rintro e w6 ⟨VA, Vc, rfl, hv, hb⟩; replace O := O.gain hb hv; clear hb hv))
      refine region_S (fun st w2 => PrS w [(g8, 43, sc (P.shp m) (cE w.heap.size A c (P.shp m).cs))] (iE w.heap.size VA Vc V :: (ents w.heap.size l ++ [cE w.heap.size A c (P.shp m).cs, bE lo A' c' fl])) k (pmcs l) u11 ⟨V, E, p⟩ VA Vc (st 5) (st 12) (st 13) (st 14) w2) [5, 12, 13, 14] 12 15 [some 35, some 36, some 37, some 38, some 39, some 40, some 41, some 42, some 43, some 44, some 45, some 46, some 47, some 48, some 49] (fun g => [u11, .slice VA V.length Vc, .agg (sc (P.shp m) (cE w.heap.size A c (P.shp m).cs)).toArray, .slice VA V.length Vc, .slice A' fl.length c', g 5, .agg (sc (P.shp m) (cE w.heap.size A c (P.shp m).cs)).toArray, .bool first, .agg (pc (P.prov (P.shp m) first)).toArray, .int .i64 k, .int .i64 fl.length, .int .i64 p, g 12, g 13, g 14]) 1 (by kernel_rfl) (by kernel_rfl) (by rfl) (by rfl) (fun _ => rfl) (by decide) ?_ (PrS.start O.drew) (fun F hF => ?_)
      · intro i hi
        simp only [List.mem_cons, List.not_mem_nil, or_false] at hi
        rcases hi with rfl | rfl | rfl | rfl
        · exact ⟨fun _ => rfl, [0, 1, 2, 3, 4, 6, 7, 8, 9, 10, 11, 12, 13, 14], by kernel_rfl, fun g v => ⟨rfl, rfl, rfl, rfl, rfl, rfl, rfl, rfl, rfl, rfl, rfl, rfl, rfl, rfl, trivial⟩⟩
        · exact ⟨fun _ => rfl, [0, 1, 2, 3, 4, 5, 6, 7, 8, 9, 10, 11, 13, 14], by kernel_rfl, fun g v => ⟨rfl, rfl, rfl, rfl, rfl, rfl, rfl, rfl, rfl, rfl, rfl, rfl, rfl, rfl, trivial⟩⟩
        · exact ⟨fun _ => rfl, [0, 1, 2, 3, 4, 5, 6, 7, 8, 9, 10, 11, 12, 14], by kernel_rfl, fun g v => ⟨rfl, rfl, rfl, rfl, rfl, rfl, rfl, rfl, rfl, rfl, rfl, rfl, rfl, rfl, trivial⟩⟩
        · exact ⟨fun _ => rfl, [0, 1, 2, 3, 4, 5, 6, 7, 8, 9, 10, 11, 12, 13], by kernel_rfl, fun g v => ⟨rfl, rfl, rfl, rfl, rfl, rfl, rfl, rfl, rfl, rfl, rfl, rfl, rfl, rfl, trivial⟩⟩
      simp only [fillD, Act.put, List.setIfInBounds_toArray, List.set_cons_zero, List.set_cons_succ] at hF
      have hF2 := funext hF
      clear hF
      subst hF2
      refine ⟨⟨doesN_want (by decide) rfl (fun g => rfl) (fun st w' hS hp K hK => ?_), doesN_want (by decide) rfl (fun g => rfl) (fun st w' hS hp K hK => ?_), doesN_want (by decide) rfl (fun g => rfl) (fun st w' hS hp K hK => ?_), doesN_want (by decide) rfl (fun g => rfl) (fun st w' hS hp K hK => ?_), doesN_want (by decide) rfl (fun g => rfl) (fun st w' hS hp K hK => ?_), doesC_want (by decide) rfl (fun g => rfl) (fun st w' hS hn hp K hK => ?_), doesN_want (by decide) rfl (fun g => rfl) (fun st w' hS hp K hK => ?_), doesN_want (by decide) rfl (fun g => rfl) (fun st w' hS hp K hK => ?_), doesN_want (by decide) rfl (fun g => rfl) (fun st w' hS hp K hK => ?_), doesN_want (by decide) rfl (fun g => rfl) (fun st w' hS hp K hK => ?_), doesN_want (by decide) rfl (fun g => rfl) (fun st w' hS hp K hK => ?_), doesN_want (by decide) rfl (fun g => rfl) (fun st w' hS hp K hK => ?_), doesC_want (by decide) rfl (fun g => rfl) (fun st w' hS hn hp K hK => ?_), doesC_want (by decide) rfl (fun g => rfl) (fun st w' hS hn hp K hK => ?_), doesC_want (by decide) rfl (fun g => rfl) (fun st w' hS hn hp K hK => ?_), trivial⟩, fun st w' hS hall => ?_⟩
      · try dsimp only
        go_simp
        exact hK _ hS
      · try dsimp only
        go_simp
        exact hK _ hS
      · try dsimp only
        obtain ⟨R2, es2, O2⟩ := hS.held
        exact wp_row_h O2 0 rfl rfl Try.underlying43 rfl size43 (hK _ hS)
      · try dsimp only
        go_simp
        exact hK _ hS
      · try dsimp only
        go_simp
        exact hK _ hS
      · try dsimp only
        have hS2 : PrS w [(g8, 43, sc (P.shp m) (cE w.heap.size A c (P.shp m).cs))] (iE w.heap.size VA Vc V :: (ents w.heap.size l ++ [cE w.heap.size A c (P.shp m).cs, bE lo A' c' fl])) k (pmcs l) u11 ⟨V, E, p⟩ VA Vc (none) (st 12) (st 13) (st 14) w' := by rw [← hn]; exact hS
        obtain ⟨-, -, -, O⟩ := hS2.early
        go_simp
        go_at_call 17
        refine (sides_any (P.shp m) (cE w.heap.size A c (P.shp m).cs) V fl _ (O.arg (x := iE w.heap.size VA Vc V) (by simp)) (O.arg (x := bE lo A' c' fl) (by simp)) HVL.out HVM.out (P.ed_le hm)).mono ?_
        rw [HE1.out]
        rintro e w7 hr
        obtain ⟨EA, Ec, rfl, hv2, hb2⟩ := hr
        have h := hS2.got (q := ⟨V, E, p⟩) ⟨EA, Ec, rfl, hv2, hb2⟩
        refine hK _ w7 ?_
        show PrS w _ _ _ _ _ _ _ _ (upd st 5 _ 5) (upd st 5 _ 12) (upd st 5 _ 13) (upd st 5 _ 14) _
        rw [upd_same, upd_other _ _ (by decide), upd_other _ _ (by decide), upd_other _ _ (by decide)]
        exact h
      · try dsimp only
        obtain ⟨R2, es2, O2⟩ := hS.held
        exact wp_row_h O2 0 rfl rfl Try.underlying43 rfl size43 (hK _ hS)
      · try dsimp only
        go_simp
        exact hK _ hS
      · try dsimp only
        go_simp
        go_at_call 18
        refine (provoker_any (P.shp m) _ first _).mono ?_
        rintro e w7 ⟨rfl, hb⟩
        exact hK _ (hS.call hb)
      · try dsimp only
        go_simp
        exact hK _ hS
      · try dsimp only
        go_simp
        exact hK _ hS
      · try dsimp only
        go_simp
        go_at_call 19
        refine (number_any (P.prov (P.shp m) first).1 (P.prov (P.shp m) first).2 k fl.length (P.prov_le hm first).1 (P.prov_le hm first).2 hki hn0 hn _).mono ?_
        rw [show P.num ((P.prov (P.shp m) first).1, (P.prov (P.shp m) first).2) k fl.length = p from HP1.out]
        rintro e w7 ⟨rfl, hb⟩
        exact hK _ (hS.call hb)
      · try dsimp only
        have hS2 : PrS w [(g8, 43, sc (P.shp m) (cE w.heap.size A c (P.shp m).cs))] (iE w.heap.size VA Vc V :: (ents w.heap.size l ++ [cE w.heap.size A c (P.shp m).cs, bE lo A' c' fl])) k (pmcs l) u11 ⟨V, E, p⟩ VA Vc (st 5) (none) (st 13) (st 14) w' := by rw [← hn]; exact hS
        refine hS2.built (hp 5 (by decide) (by kernel_rfl)) rfl rfl rfl (fun v h => hK v _ ?_)
        show PrS w _ _ _ _ _ _ _ _ (upd st 12 _ 5) (upd st 12 _ 12) (upd st 12 _ 13) (upd st 12 _ 14) _
        rw [upd_other _ _ (by decide), upd_same, upd_other _ _ (by decide), upd_other _ _ (by decide)]
        exact h
      · try dsimp only
        have hS2 : PrS w [(g8, 43, sc (P.shp m) (cE w.heap.size A c (P.shp m).cs))] (iE w.heap.size VA Vc V :: (ents w.heap.size l ++ [cE w.heap.size A c (P.shp m).cs, bE lo A' c' fl])) k (pmcs l) u11 ⟨V, E, p⟩ VA Vc (st 5) (st 12) (none) (st 14) w' := by rw [← hn]; exact hS
        refine hS2.lit (hp 5 (by decide) (by kernel_rfl)) (hp 12 (by decide) (by kernel_rfl)) rfl Try.underlying24 (fun v w8 h => hK v w8 ?_)
        show PrS w _ _ _ _ _ _ _ _ (upd st 13 _ 5) (upd st 13 _ 12) (upd st 13 _ 13) (upd st 13 _ 14) _
        rw [upd_other _ _ (by decide), upd_other _ _ (by decide), upd_same, upd_other _ _ (by decide)]
        exact h
      · try dsimp only
        have hS2 : PrS w [(g8, 43, sc (P.shp m) (cE w.heap.size A c (P.shp m).cs))] (iE w.heap.size VA Vc V :: (ents w.heap.size l ++ [cE w.heap.size A c (P.shp m).cs, bE lo A' c' fl])) k (pmcs l) u11 ⟨V, E, p⟩ VA Vc (st 5) (st 12) (st 13) (none) w' := by rw [← hn]; exact hS
        refine hS2.app (hp 5 (by decide) (by kernel_rfl)) (hp 13 (by decide) (by kernel_rfl)) rfl rfl Try.underlying24 (by omega) (fun v w8 h => hK v w8 ?_)
        show PrS w _ _ _ _ _ _ _ _ (upd st 14 _ 5) (upd st 14 _ 12) (upd st 14 _ 13) (upd st 14 _ 14) _
        rw [upd_other _ _ (by decide), upd_other _ _ (by decide), upd_other _ _ (by decide), upd_same]
        exact h
      try dsimp only
      obtain ⟨EA, Ec, v9, h9, O9⟩ := hS.done (hall 14 (by decide))
      have es9 : seen st 14 = v9 := by simp [seen, h9]
      simp only [es9]
      clear es9 h9 hS hall O
      have O := O9
      clear O9
      refine wpAny_one (i := 15) (by kernel_rfl) rfl (fun K hK => ?_)
      go_simp
      refine hK _ _ ?_
      clear hK K
      try simp only [Act.put, List.setIfInBounds_toArray, List.set_cons_zero, List.set_cons_succ]
      refine wpAny_done (by kernel_rfl) ?_ _
      go_wp2_with fail
      go_roundw
      case rel =>
        refine ⟨k + 1, l ++ [(⟨V, E, p⟩, ⟨VA, Vc, EA, Ec⟩)], by omega, by go_num, by rw [List.length_append, HKL.out]; rfl, ?_, ?_⟩
        · rw [List.map_append, HL.out, List.range_succ, List.map_append]
          simp only [List.map_cons, List.map_nil]
          rw [HV.out]
        · rw [pmcs_snoc, ents_snoc]
          refine O.pick (fun x hx => ?_)
          simp only [List.mem_append, List.mem_cons, List.not_mem_nil, or_false] at hx ⊢
          rcases hx with (hx | rfl | rfl) | hx
          · exact .inr (.inr (.inl hx))
          · exact .inr (.inl rfl)
          · exact .inl rfl
          · exact .inr (.inr (.inr hx))
      case measure => simp [intOf]; omega
    · have q2 : ¬ (k : Int) < N := by omega
      obtain rfl : k = N := by omega
      go_wp2_with fail
      go_ret2
      rw [HP.out, ← HL.out]
      obtain rfl := HKL.out
      exact retP_done O
end Go.Proofs.Ytadpejblhkcjgaa
