/- Contract: vertices. -/
import Derived.Test.YtadpejblhkcjgaaC3
namespace Go.Proofs.Ytadpejblhkcjgaa
open Go.ChangeShapes Go.WideShapes Go.ChangeAt Go.RowKit
set_option linter.unusedVariables false
set_option linter.unusedSimpArgs false

set_option maxRecDepth 100000 in
set_option maxHeartbeats 4000000 in
theorem verts_any (s : Shp) {lo : Nat} {A : Option Addr} {c : Nat} (i n : Nat) (w : World) (hE : Lies w free (cE lo A c s.cs)) (hi : i ≤ 256) (hn0 : 0 < n) (hn : n ≤ 256) (hcs : ∀ x ∈ s.cs, x.1 ≤ 4 ∧ x.2 ≤ 4) (htu : s.tu = true → 2 ≤ s.cs.length) (h4 : s.cs.length ≤ 4) :
    Calls Try.prog 16 #[.agg (sc s (cE lo A c s.cs)).toArray, .int .i64 i, .int .i64 n] w (RetI w (P.verts s i n)) := by
  obtain ⟨need, more, cs, tu, cl, wh, ed, fi, la⟩ := s
  dsimp only at hE hcs htu h4 ⊢
  have O := Held.start w [cE lo A c cs] (by simpa using hE)
  have HC := Lib.hid hcs
  clear hE hcs
  cases wh
  case true =>
    have HE : Hid (P.verts ⟨need, more, cs, tu, cl, true, ed, fi, la⟩ i n = List.range n) := by show _ = _; rfl
    clear htu HC
    go_enter Try.func16, Try.ntmps16
    go_wp2_with (first | ((with_reducible refine at_box 3 ?_); refine wpList_box_h O (sc ⟨need, more, cs, tu, cl, true, ed, fi, la⟩ (cE lo A c cs)) rfl ?_; clear O; intro g3 w1 O) | ((with_reducible refine at_load 12 ?_); refine wpList_cell_h  rfl O 0 rfl (rfl) rfl agg4 rfl ?_))
    replace O := O.fresh 3 1
    go_loopw [7, 14] (fun u t wr => ∃ k : Nat, k ≤ n ∧ t = .int .i64 k ∧ Held w wr [(g3, 43, sc ⟨need, more, cs, tu, cl, true, ed, fi, la⟩ (cE lo A c cs))] ⟨u, 3, 1, k, ints (List.range k)⟩ [cE lo A c cs]) (fun _ t _ => n - (intOf t).toNat)
    case atStart => exact ⟨0, Nat.zero_le _, rfl, O⟩
    case round =>
      clear O
      obtain ⟨k, hk, rfl, O⟩ := hrel
      have q0 : (0 : Int) ≤ k := by omega
      by_cases hlt : k < n
      · have q1 : (k : Int) < n := by omega
        go_wp2_with (first | ((with_reducible refine at_lit 19 ?_); refine wpList_lit_h rfl O 1 (.int .i64 0) info3 Try.underlying33 ([(0, .int .i64 k)]) ([.int .i64 k]) rfl (by simp [nilE]) (by decide) (by decide) (by kernel_rfl) ?_; clear O; intro g9 w2 O) | ((with_reducible refine at_app 20 ?_); refine wpList_app_h rfl O (.int .i64 0) 8 info3b rfl (Nat.succ_pos _) Try.underlying33 rfl (_) (O.mem (List.mem_cons_self)) rfl rfl (by simp [Value.oneCell']) (by dsimp only; omega) (by decide) ?_; clear O; intro u9 w3 O))
        have O2 := O.pick (es' := [cE lo A c cs]) (fun y hy => List.mem_cons_of_mem _ hy)
        clear O
        dsimp only at O2
        rw [range_snoc] at O2
        go_roundw
        case rel => exact ⟨k + 1, by omega, by go_num, O2⟩
        case measure => simp [intOf]; omega
      · have q1 : ¬ (k : Int) < n := by omega
        obtain rfl : k = n := by omega
        go_wp2_with fail
        go_ret
        rw [HE.out]
        exact doneI O
  case false =>
    obtain ⟨f, hf⟩ : ∃ f : Nat × Nat → Nat, (fun x => P.num x i n) = f := ⟨_, rfl⟩
    have HF := Lib.hid hf
    have HV1 : Hid ((tu && i % 2 == 1) = false → P.verts ⟨need, more, cs, tu, cl, false, ed, fi, la⟩ i n = cs.map f) := by
      show _ → _
      intro h
      rw [← hf]
      show (if (tu && i % 2 == 1) = true then _ else _) = _
      rw [h]
      rfl
    have HV2 : Hid ((tu && i % 2 == 1) = true → P.verts ⟨need, more, cs, tu, cl, false, ed, fi, la⟩ i n = P.swap (cs.map f)) := by
      show _ → _
      intro h
      rw [← hf]
      show (if (tu && i % 2 == 1) = true then _ else _) = _
      rw [h]
      rfl
    clear hf
    go_enter Try.func16, Try.ntmps16
    go_wp2_with (first | ((with_reducible refine at_box 3 ?_); refine wpList_box_h O (sc ⟨need, more, cs, tu, cl, false, ed, fi, la⟩ (cE lo A c cs)) rfl ?_; clear O; intro g3 w1 O) | ((with_reducible refine at_load 12 ?_); refine wpList_cell_h  rfl O 0 rfl (rfl) rfl agg4 rfl ?_) | ((with_reducible refine at_load 24 ?_); refine wpList_cell_h (v := .slice A cs.length c) rfl O 0 rfl (rfl) rfl agg39 rfl ?_))
    replace O := O.fresh 3 1
    go_loopw [7, 26] (fun u t wr => ∃ k : Nat, k ≤ cs.length ∧ t = .int .i64 k ∧ Held w wr [(g3, 43, sc ⟨need, more, cs, tu, cl, false, ed, fi, la⟩ (cE lo A c cs))] ⟨u, 3, 1, k, ints ((cs.take k).map f)⟩ [cE lo A c cs]) (fun _ t _ => cs.length - (intOf t).toNat)
    case atStart => exact ⟨0, Nat.zero_le _, rfl, O⟩
    case round =>
      clear O
      obtain ⟨k, hk, rfl, O⟩ := hrel
      have q0 : (0 : Int) ≤ k := by omega
      by_cases hlt : k < cs.length
      · have q1 : (k : Int) < cs.length := by omega
        obtain ⟨x, hx⟩ : ∃ x, cs[k]? = some x := ⟨_, List.getElem?_eq_getElem hlt⟩
        obtain ⟨hx1, hx2⟩ := HC.out x (List.mem_of_getElem? hx)
        have HR : Hid (ints ((cs.take k).map f) ++ [.int .i64 (P.num x i n : Nat)] = ints ((cs.take (k + 1)).map f)) := by
          show _ = _
          refine row_int hx ?_
          rw [← HF.out]
        have HX := Lib.hid hx
        clear hx htu
        go_wp2_with (first | ((with_reducible refine at_index_ 28 ?_); refine wpList_at_h rfl Try.underlying39 sizeOf41 _ (O.mem (x := cE lo A c cs) (by simp)) rfl (k) rfl (rfl) (hlt) (rfl) ?_) | ((with_reducible refine at_load 29 ?_); refine wpList_elem_h rfl _ (O.mem (x := cE lo A c cs) (by simp)) (k * 2) (pc x) (cc_at HX.out) (Nat.succ_pos _) rfl Try.underlying41 rfl size41 ?_) | ((with_reducible refine at_alloc 10 ?_); refine wpList_alloc_h O (pc (0, 0)) zero41 ?_; clear O; intro g10 w4 O) | ((with_reducible refine at_store 10 ?_); refine wpList_put_h O 0 (pc x) rfl rfl rfl size41 (rfl) (pc_one _) ?_; clear O; intro w6 O) | ((with_reducible refine at_load 31 ?_); refine wpList_rowg_h rfl O 0 rfl rfl Try.underlying41 rfl size41 ?_) | (go_at_call 19; refine (number_any x.1 x.2 i n hx1 hx2 hi hn0 hn _).mono ?_; rintro e w5 ⟨rfl, hb⟩; replace O := O.call hb; clear hb) | ((with_reducible refine at_lit 35 ?_); refine wpList_lit_h rfl O 1 (.int .i64 0) info3 Try.underlying33 ([(0, .int .i64 (P.num x i n : Nat))]) ([.int .i64 (P.num x i n : Nat)]) rfl (by simp [nilE]) (by decide) (by decide) (by kernel_rfl) ?_; clear O; intro g9 w2 O) | ((with_reducible refine at_app 36 ?_); refine wpList_app_h rfl O (.int .i64 0) 8 info3b rfl (Nat.succ_pos _) Try.underlying33 rfl (_) (O.mem (List.mem_cons_self)) rfl rfl (by simp [Value.oneCell']) (by dsimp only; omega) (by decide) ?_; clear O; intro u9 w3 O))
        have O2 := O.tail.pick (es' := [cE lo A c cs]) (fun y hy => List.mem_cons_of_mem _ hy)
        clear O
        dsimp only at O2
        rw [HR.out] at O2
        go_roundw
        case rel => exact ⟨k + 1, by omega, by go_num, O2⟩
        case measure => simp [intOf]; omega
      · have q1 : ¬ (k : Int) < cs.length := by omega
        obtain rfl : k = cs.length := by omega
        rw [take_all] at O
        cases tu
        · go_wp2_with ((with_reducible refine at_load 39 ?_); refine wpList_cell_h  rfl O 0 rfl (rfl) rfl agg4 rfl ?_)
          go_ret
          rw [HV1.out rfl]
          exact doneI O
        · by_cases hodd : i % 2 = 1
          · have hb : ((i % 2 : Nat) : Int) = 1 := by omega
            have e2 : Int.tmod (i : Int) 2 = 1 := by rw [pm2, hb]
            have hl := htu rfl
            clear htu
            obtain ⟨x, hx⟩ : ∃ x, (cs.map f)[0]? = some x := ⟨_, List.getElem?_eq_getElem (by simpa using (by omega : 0 < cs.length))⟩
            obtain ⟨y, hy⟩ : ∃ y, (cs.map f)[1]? = some y := ⟨_, List.getElem?_eq_getElem (by simpa using (by omega : 1 < cs.length))⟩
            obtain ⟨gg, cp, ds, hv, hnc, hdl, hdt, O2⟩ := O.open_ (by dsimp only; omega)
            dsimp only at hv hnc hdl hdt O2
            obtain rfl : u7 = .slice (some ⟨gg, 0, none⟩) cs.length cp := hv
            clear O
            rw [Nat.mul_one] at hdl hdt
            have hd0 : ds[0]? = some (.int .i64 x) := by
              have := congrArg (·[0]?) hdt
              simp only [List.getElem?_take, ints_at hx] at this
              rwa [if_pos (by omega)] at this
            have hd1 : ds[1]? = some (.int .i64 y) := by
              have := congrArg (·[1]?) hdt
              simp only [List.getElem?_take, ints_at hy] at this
              rwa [if_pos (by omega)] at this
            have HSW : Hid (((ds.set 0 (.int .i64 y)).set 1 (.int .i64 x)).take (cs.length * 1) = ints (P.swap (cs.map f))) := by
              show _ = _
              rw [Nat.mul_one]
              exact ints_swap hx hy hdt
            have HD0 := Lib.hid hd0
            have HD1 := Lib.hid hd1
            have HDL := Lib.hid hdl
            have h2 : 2 ≤ ds.length := by omega
            clear hd0 hd1 hdl hdt hx hy
            have O := O2
            clear O2
            go_wp2_with ((with_reducible refine at_load 39 ?_); refine wpList_cell_h  rfl O 1 rfl (rfl) rfl agg4 rfl ?_)
            refine region_S (fun st w2 => SwS w [(g3, 43, sc ⟨need, more, cs, true, cl, false, ed, fi, la⟩ (cE lo A c cs))] [cE lo A c cs] gg ds (.int .i64 x) (.int .i64 y) (st 4) (st 7) (st 9) (st 11) w2) [4, 7, 9, 11] 12 12 [some 45, some 46, some 47, some 48, some 49, some 50, some 51, some 52, some 53, none, some 54, none] (fun g => [.slice (some ⟨gg, 0, none⟩) cs.length cp, .slice (some ⟨gg, 0, none⟩) cs.length cp, .slice (some ⟨gg, 0, none⟩) cs.length cp, .pointer (some ⟨gg, 1, none⟩), g 4, .slice (some ⟨gg, 0, none⟩) cs.length cp, .pointer (some ⟨gg, 0, none⟩), g 7, .pointer (some ⟨gg, 0, none⟩), g 9, .pointer (some ⟨gg, 1, none⟩), g 11]) 0 (by kernel_rfl) (by kernel_rfl) (by rfl) (by rfl) (fun _ => rfl) (by decide) ?_ (SwS.start O.drew) (fun F hF => ?_)
            · intro i hi
              simp only [List.mem_cons, List.not_mem_nil, or_false] at hi
              rcases hi with rfl | rfl | rfl | rfl
              · exact ⟨fun _ => rfl, [0, 1, 2, 3, 5, 6, 7, 8, 9, 10, 11], by kernel_rfl, fun g v => ⟨rfl, rfl, rfl, rfl, rfl, rfl, rfl, rfl, rfl, rfl, rfl, trivial⟩⟩
              · exact ⟨fun _ => rfl, [0, 1, 2, 3, 4, 5, 6, 8, 9, 10, 11], by kernel_rfl, fun g v => ⟨rfl, rfl, rfl, rfl, rfl, rfl, rfl, rfl, rfl, rfl, rfl, trivial⟩⟩
              · exact ⟨fun _ => rfl, [0, 1, 2, 3, 4, 5, 6, 7, 8, 10, 11], by kernel_rfl, fun g v => ⟨rfl, rfl, rfl, rfl, rfl, rfl, rfl, rfl, rfl, rfl, rfl, trivial⟩⟩
              · exact ⟨fun _ => rfl, [0, 1, 2, 3, 4, 5, 6, 7, 8, 9, 10], by kernel_rfl, fun g v => ⟨rfl, rfl, rfl, rfl, rfl, rfl, rfl, rfl, rfl, rfl, rfl, trivial⟩⟩
            simp only [fillD, Act.put, List.setIfInBounds_toArray, List.set_cons_zero, List.set_cons_succ] at hF
            have hF2 := funext hF
            clear hF
            subst hF2
            refine ⟨⟨doesN_want (by decide) rfl (fun g => rfl) (fun st w' hS hp K hK => ?_), doesN_want (by decide) rfl (fun g => rfl) (fun st w' hS hp K hK => ?_), doesN_want (by decide) rfl (fun g => rfl) (fun st w' hS hp K hK => ?_), doesN_want (by decide) rfl (fun g => rfl) (fun st w' hS hp K hK => ?_), doesC_want (by decide) rfl (fun g => rfl) (fun st w' hS hn hp K hK => ?_), doesN_want (by decide) rfl (fun g => rfl) (fun st w' hS hp K hK => ?_), doesN_want (by decide) rfl (fun g => rfl) (fun st w' hS hp K hK => ?_), doesC_want (by decide) rfl (fun g => rfl) (fun st w' hS hn hp K hK => ?_), doesN_want (by decide) rfl (fun g => rfl) (fun st w' hS hp K hK => ?_), doesC_want (by decide) rfl (fun g => rfl) (fun st w' hS hn hp K hK => ?_), doesN_want (by decide) rfl (fun g => rfl) (fun st w' hS hp K hK => ?_), doesC_want (by decide) rfl (fun g => rfl) (fun st w' hS hn hp K hK => ?_), trivial⟩, fun st w' hS hall => ?_⟩
            · try dsimp only
              go_simp
              exact hK _ hS
            · try dsimp only
              go_simp
              exact hK _ hS
            · try dsimp only
              go_simp
              exact hK _ hS
            · try dsimp only
              exact wp_at_g Try.underlying33 sizeOf3 rfl 1 rfl rfl hl (hK _ hS)
            · try dsimp only
              have hS2 : SwS w [(g3, 43, sc ⟨need, more, cs, true, cl, false, ed, fi, la⟩ (cE lo A c cs))] [cE lo A c cs] gg ds (.int .i64 x) (.int .i64 y) (none) (st 7) (st 9) (st 11) w' := by rw [← hn]; exact hS
              refine hS2.load1 HD1.out rfl rfl (fun h => hK _ _ ?_)
              show SwS w _ _ _ _ _ _ (upd st 4 _ 4) (upd st 4 _ 7) (upd st 4 _ 9) (upd st 4 _ 11) _
              rw [upd_same, upd_other _ _ (by decide), upd_other _ _ (by decide), upd_other _ _ (by decide)]
              exact h
            · try dsimp only
              go_simp
              exact hK _ hS
            · try dsimp only
              exact wp_at_g Try.underlying33 sizeOf3 rfl 0 rfl rfl (by omega) (hK _ hS)
            · try dsimp only
              have hS2 : SwS w [(g3, 43, sc ⟨need, more, cs, true, cl, false, ed, fi, la⟩ (cE lo A c cs))] [cE lo A c cs] gg ds (.int .i64 x) (.int .i64 y) (st 4) (none) (st 9) (st 11) w' := by rw [← hn]; exact hS
              refine hS2.load0 HD0.out rfl rfl (fun h => hK _ _ ?_)
              show SwS w _ _ _ _ _ _ (upd st 7 _ 4) (upd st 7 _ 7) (upd st 7 _ 9) (upd st 7 _ 11) _
              rw [upd_other _ _ (by decide), upd_same, upd_other _ _ (by decide), upd_other _ _ (by decide)]
              exact h
            · try dsimp only
              exact wp_at_g Try.underlying33 sizeOf3 rfl 0 rfl rfl (by omega) (hK _ hS)
            · try dsimp only
              have hS2 : SwS w [(g3, 43, sc ⟨need, more, cs, true, cl, false, ed, fi, la⟩ (cE lo A c cs))] [cE lo A c cs] gg ds (.int .i64 x) (.int .i64 y) (st 4) (st 7) (none) (st 11) w' := by rw [← hn]; exact hS
              refine hS2.put0 (hp 4 (by decide) (by kernel_rfl)) (hp 7 (by decide) (by kernel_rfl)) h2 rfl rfl rfl rfl (fun w1 h => hK _ _ ?_)
              show SwS w _ _ _ _ _ _ (upd st 9 _ 4) (upd st 9 _ 7) (upd st 9 _ 9) (upd st 9 _ 11) _
              rw [upd_other _ _ (by decide), upd_other _ _ (by decide), upd_same, upd_other _ _ (by decide)]
              exact h
            · try dsimp only
              exact wp_at_g Try.underlying33 sizeOf3 rfl 1 rfl rfl hl (hK _ hS)
            · try dsimp only
              have hS2 : SwS w [(g3, 43, sc ⟨need, more, cs, true, cl, false, ed, fi, la⟩ (cE lo A c cs))] [cE lo A c cs] gg ds (.int .i64 x) (.int .i64 y) (st 4) (st 7) (st 9) (none) w' := by rw [← hn]; exact hS
              refine hS2.put1 (hp 9 (by decide) (by kernel_rfl)) (hp 7 (by decide) (by kernel_rfl)) h2 rfl rfl rfl rfl (fun w1 h => hK _ _ ?_)
              show SwS w _ _ _ _ _ _ (upd st 11 _ 4) (upd st 11 _ 7) (upd st 11 _ 9) (upd st 11 _ 11) _
              rw [upd_other _ _ (by decide), upd_other _ _ (by decide), upd_other _ _ (by decide), upd_same]
              exact h
            try dsimp only
            have O2 := hS.done (hall 11 (by decide))
            clear O
            have O := O2
            clear O2
            refine wpAny_done (by kernel_rfl) ?_ _
            go_wp2_with fail
            go_ret
            rw [HV2.out (by simp [hodd])]
            refine ⟨some ⟨gg, 0, none⟩, cp, ?_, ?_, O.below⟩
            · have : (P.swap (cs.map f)).length = cs.length := by simp [P.swap]
              rw [this]
              rfl
            · have h9 := O.shut 0 rfl hnc (by rw [List.length_set, List.length_set, HDL.out, Nat.mul_one]) HSW.out
              have : (P.swap (cs.map f)).length = cs.length := by simp [P.swap]
              unfold iE
              rw [this]
              exact h9
          · have hb : ¬ ((i % 2 : Nat) : Int) = 1 := by omega
            have e2 : Int.tmod (i : Int) 2 = ((i % 2 : Nat) : Int) := pm2 i
            generalize hz : i % 2 = z at *
            go_wp2_with ((with_reducible refine at_load 39 ?_); refine wpList_cell_h  rfl O 0 rfl (rfl) rfl agg4 rfl ?_)
            go_ret
            rw [HV1.out (by simp [hodd])]
            exact doneI O
end Go.Proofs.Ytadpejblhkcjgaa
