/- Contract: the program's Trim. -/
import Derived.Test.YtimfdimpifpclaaE1
import Derived.Test.YtimfdimpifpclaaDu
import Derived.Test.YtimfdimpifpclaaL7
namespace Go.Proofs.Ytimfdimpifpclaa
open Go.ChangeShapes Go.WideShapes Go.ChangeAt Go.RowKit
set_option linter.unusedVariables false
set_option linter.unusedSimpArgs false

/-- How two vertices, and whether anything is left, are handed back. -/
def RetTrim (w : World) (r : (Nat → Int) × (Nat → Int) × Bool) (e : Ending) (w' : World) : Prop := e = .returned (.tuple #[arr 8 r.1, arr 8 r.2.1, .bool r.2.2]) ∧ Below w.heap.size w w'
theorem D.not3_step {a b : Nat → Int} {l : List (Nat → Int)} {k : Nat} {s : Nat → Int} (h : ∀ s ∈ l.take k, (D.partOf s a b).1 ≠ 3) (hs : l[k]? = some s) (h3 : (D.partOf s a b).1 ≠ 3) : ∀ s ∈ l.take (k + 1), (D.partOf s a b).1 ≠ 3 := by
  intro u hu
  rw [D.take_one hs] at hu
  rcases List.mem_append.1 hu with hu | hu
  · exact h u hu
  · obtain rfl : u = s := by simpa using hu
    exact h3
theorem D.cuts_take_fair {j : Int} (hj : j = 1 ∨ j = 2) {a b : Nat → Int} {l : List (Nat → Int)} {k : Nat} : ∀ y ∈ D.cuts j a b (l.take k), y.fair := fun y hy => D.cuts_fair hj hy
set_option maxRecDepth 100000 in
set_option maxHeartbeats 8000000 in
theorem ptrim_any (a b : Nat → Int) (l : List (Nat → Int)) {lo : Nat} {A : Option Addr} {c : Nat} (ha : D.fits a = true) (hb : D.fits b = true) (hl : ∀ s ∈ l, D.right s = true) (h9 : l.length ≤ 100) (w : World) (hL : Lies w free (sE lo A c l)) :
    Calls Try.prog 12 #[arr 8 a, arr 8 b, .slice A l.length c] w (RetTrim w (D.trim a b l)) := by
  have O := Held.start w [sE lo A c l] (by simpa using hL)
  clear hL
  have CP := Lib.hid (fun s (h : D.right s = true) w => part_any s a b h ha hb w)
  have PR := Lib.hid (fun s (h : D.right s = true) => D.part_rng h ha hb)
  have CS := Lib.hid (fun x h1 h2 w => stand_any x a b ha hb h1 h2 w)
  have HR := Lib.hid hl
  clear ha hb hl
  go_enter Try.func12, Try.ntmps12
  go_wp2_with (first | ((with_reducible refine at_box 3 ?_); refine wpList_box_h O (M.mat 8 (a)) rfl ?_; clear O; intro g3 w1 O) | ((with_reducible refine at_box 4 ?_); refine wpList_box_h O (M.mat 8 (b)) rfl ?_; clear O; intro g4 w2 O) | ((with_reducible refine at_alloc 6 ?_); refine wpList_alloc_h O (M.mat 8 M.zero) zero27 ?_; clear O; intro g6 w3 O) | ((with_reducible refine at_alloc 7 ?_); refine wpList_alloc_h O (M.mat 8 M.zero) zero27 ?_; clear O; intro g7 w4 O) | ((with_reducible refine at_build 17 ?_); refine wpList_build_g rfl ([(0, .int .i64 0), (1, .int .i64 1)]) ((D.pr D.c01).toArray) ?_ (built40 0 1) ?_; (focus (simp only [List.map_toArray, List.map_cons, List.map_nil]; rfl))) | ((with_reducible refine at_build 18 ?_); refine wpList_build_g rfl ([(0, .int .i64 1), (1, .int .i64 1)]) ((D.pr D.c11).toArray) ?_ (built40 1 1) ?_; (focus (simp only [List.map_toArray, List.map_cons, List.map_nil]; rfl))) | ((with_reducible refine at_alloc 9 ?_); refine wpList_alloc_h O [.int .i64 0, .int .i64 0] zero40 ?_; clear O; intro g9 w5 O) | ((with_reducible refine at_alloc 10 ?_); refine wpList_alloc_h O [.int .i64 0, .int .i64 0] zero40 ?_; clear O; intro g10 w6 O) | ((with_reducible refine at_store 9 ?_); refine wpList_put_h O 1 (D.pr (D.c01)) rfl rfl rfl size40 rfl (pr_one _) ?_; clear O; intro w7 O) | ((with_reducible refine at_store 10 ?_); refine wpList_put_h O 0 (D.pr (D.c11)) rfl rfl rfl size40 rfl (pr_one _) ?_; clear O; intro w8 O))
  go_loopw [21] (fun t wr => ∃ (k : Nat) (x y : D.Cut), k ≤ l.length ∧ t = .int .i64 k ∧ (∀ s ∈ l.take k, (D.partOf s a b).1 ≠ 3) ∧ D.TopZ (D.cuts 1 a b (l.take k)) x ∧ D.LowZ (D.cuts 2 a b (l.take k)) y ∧ x.low ∧ y.low ∧ Held w wr [(g10, 40, D.pr y), (g9, 40, D.pr x), (g7, 27, M.mat 8 M.zero), (g6, 27, M.mat 8 M.zero), (g4, 27, M.mat 8 b), (g3, 27, M.mat 8 a)] nilRow [sE lo A c l]) (fun t _ => l.length - (intOf t).toNat)
  case atStart => exact ⟨0, D.c01, D.c11, Nat.zero_le _, rfl, fun s hs => absurd hs (by simp), D.topZ_nil, D.lowZ_nil, D.c01_low, D.c11_low, O⟩
  case round =>
    clear O
    obtain ⟨k, x, y, hk, rfl, h3, hx, hy, xl, yl, O⟩ := hrel
    have H3 := Lib.hid h3
    have HX := Lib.hid hx
    have HY := Lib.hid hy
    have XL := Lib.hid xl
    have YL := Lib.hid yl
    clear h3 hx hy xl yl
    have q0 : (0 : Int) ≤ k := by omega
    by_cases hlt : k < l.length
    · have q1 : (k : Int) < l.length := by omega
      obtain ⟨s, hs⟩ : ∃ s, l[k]? = some s := ⟨_, List.getElem?_eq_getElem hlt⟩
      have hr := HR.out s (List.mem_of_getElem? hs)
      have cp := CP.out s hr
      have pl := PR.out s hr
      have jk := D.part_kinds s a b
      have pf := fun h => D.part_fair (s := s) (a := a) (b := b) h
      have HS := Lib.hid hs
      clear hr hs
      obtain ⟨⟨j, n, d⟩, hp⟩ : ∃ r, D.partOf s a b = r := ⟨_, rfl⟩
      unfold RetPart at cp
      rw [hp] at cp jk pf pl
      dsimp only at cp jk pf pl
      have HP := Lib.hid hp
      have PL := Lib.hid (show D.Cut.low (n, d) from pl)
      have PF := Lib.hid pf
      clear hp pl pf
      rcases jk with rfl | rfl | rfl | rfl
      · go_wp2_with (first | ((with_reducible refine at_index_ 23 ?_); refine wpList_at_h rfl Try.underlying29 sizeOf24 _ (O.mem List.mem_cons_self) rfl (k) rfl rfl (by omega) rfl ?_) | ((with_reducible refine at_load 24 ?_); refine wpList_elem_h rfl _ (O.mem List.mem_cons_self) (k * 5) (M.mat 5 s) (ss_at HS.out) (by rw [M.mat_len]; decide) rfl Try.underlying24 rfl (s24 _) ?_) | ((with_reducible refine at_alloc 12 ?_); refine wpList_alloc_h O (M.mat 5 M.zero) zero24 ?_; clear O; intro g12 v1 O) | ((with_reducible refine at_store 12 ?_); refine wpList_put_h O 0 (M.mat 5 (s)) rfl rfl rfl (s24 _) (M.mat_len2 _ _ _) (M.mat_one _ _) ?_; clear O; intro v2 O) | ((with_reducible refine at_load 26 ?_); refine wpList_rowg_h rfl O 0 rfl rfl Try.underlying24 rfl (s24 _) ?_) | ((with_reducible refine at_load 27 ?_); refine wpList_rowg_h rfl O 6 rfl rfl Try.underlying27 rfl (s27 _) ?_) | ((with_reducible refine at_load 28 ?_); refine wpList_rowg_h rfl O 5 rfl rfl Try.underlying27 rfl (s27 _) ?_) | (go_at_call 10; refine (cp _).mono ?_; rintro e v3 ⟨rfl, hb⟩; replace O := O.call hb; clear hb) | ((with_reducible refine at_build 35 ?_); refine wpList_build_g rfl ([(0, .int .i64 n), (1, .int .i64 d)]) ((D.pr (n, d)).toArray) ?_ (built40 n d) ?_; (focus (simp only [List.map_toArray, List.map_cons, List.map_nil]; rfl))) | ((with_reducible refine at_alloc 16 ?_); refine wpList_alloc_h O [.int .i64 0, .int .i64 0] zero40 ?_; clear O; intro g16 v4 O) | ((with_reducible refine at_store 16 ?_); refine wpList_put_h O 0 (D.pr ((n, d))) rfl rfl rfl size40 rfl (pr_one _) ?_; clear O; intro v5 O))
        have O2 := O.tail.tail
        clear O
        go_roundw
        case rel => exact ⟨k + 1, x, y, by omega, by go_num, D.not3_step H3.out HS.out (by rw [HP.out]; exact (by decide : (0:Int) ≠ 3)), by rw [D.cuts_not HS.out (by rw [HP.out]; exact (by decide : (0:Int) ≠ 1))]; exact HX.out, by rw [D.cuts_not HS.out (by rw [HP.out]; exact (by decide : (0:Int) ≠ 2))]; exact HY.out, XL.out, YL.out, O2⟩
        case measure => simp [intOf]; omega
      · have fp : D.Cut.fair (n, d) := PF.out (.inl rfl)
        have FP := Lib.hid fp
        clear fp
        have cl := fun w => pless_any x (n, d) XL.out PL.out w
        cases hab : D.above (n, d) x
        all_goals
          rw [hab] at cl
          have HAB := Lib.hid hab
          clear hab
        · go_wp2_with (first | ((with_reducible refine at_index_ 23 ?_); refine wpList_at_h rfl Try.underlying29 sizeOf24 _ (O.mem List.mem_cons_self) rfl (k) rfl rfl (by omega) rfl ?_) | ((with_reducible refine at_load 24 ?_); refine wpList_elem_h rfl _ (O.mem List.mem_cons_self) (k * 5) (M.mat 5 s) (ss_at HS.out) (by rw [M.mat_len]; decide) rfl Try.underlying24 rfl (s24 _) ?_) | ((with_reducible refine at_alloc 12 ?_); refine wpList_alloc_h O (M.mat 5 M.zero) zero24 ?_; clear O; intro g12 v1 O) | ((with_reducible refine at_store 12 ?_); refine wpList_put_h O 0 (M.mat 5 (s)) rfl rfl rfl (s24 _) (M.mat_len2 _ _ _) (M.mat_one _ _) ?_; clear O; intro v2 O) | ((with_reducible refine at_load 26 ?_); refine wpList_rowg_h rfl O 0 rfl rfl Try.underlying24 rfl (s24 _) ?_) | ((with_reducible refine at_load 27 ?_); refine wpList_rowg_h rfl O 6 rfl rfl Try.underlying27 rfl (s27 _) ?_) | ((with_reducible refine at_load 28 ?_); refine wpList_rowg_h rfl O 5 rfl rfl Try.underlying27 rfl (s27 _) ?_) | (go_at_call 10; refine (cp _).mono ?_; rintro e v3 ⟨rfl, hb⟩; replace O := O.call hb; clear hb) | ((with_reducible refine at_build 35 ?_); refine wpList_build_g rfl ([(0, .int .i64 n), (1, .int .i64 d)]) ((D.pr (n, d)).toArray) ?_ (built40 n d) ?_; (focus (simp only [List.map_toArray, List.map_cons, List.map_nil]; rfl))) | ((with_reducible refine at_alloc 16 ?_); refine wpList_alloc_h O [.int .i64 0, .int .i64 0] zero40 ?_; clear O; intro g16 v4 O) | ((with_reducible refine at_store 16 ?_); refine wpList_put_h O 0 (D.pr ((n, d))) rfl rfl rfl size40 rfl (pr_one _) ?_; clear O; intro v5 O) | ((with_reducible refine at_load 39 ?_); refine wpList_rowg_h rfl O 3 rfl rfl Try.underlying40 rfl size40 ?_) | ((with_reducible refine at_load 40 ?_); refine wpList_rowg_h rfl O 0 rfl rfl Try.underlying40 rfl size40 ?_) | (go_at_call 18; refine (cl _).mono ?_; rintro e v6 ⟨rfl, hb⟩; replace O := O.call hb; clear hb) | ((with_reducible refine at_load 42 ?_); refine wpList_rowg_h rfl O 0 rfl rfl Try.underlying40 rfl size40 ?_) | ((with_reducible refine at_store 9 ?_); refine wpList_put_h O 3 (D.pr ((n, d))) rfl rfl rfl size40 rfl (pr_one _) ?_; clear O; intro v7 O))
          have O2 := O.tail.tail
          clear O
          go_roundw
          case rel => exact ⟨k + 1, x, y, by omega, by go_num, D.not3_step H3.out HS.out (by rw [HP.out]; exact (by decide : (1:Int) ≠ 3)), by rw [D.cuts_yes HS.out (by rw [HP.out]), HP.out]; exact D.topZ_no HX.out HAB.out, by rw [D.cuts_not HS.out (by rw [HP.out]; exact (by decide : (1:Int) ≠ 2))]; exact HY.out, XL.out, YL.out, O2⟩
          case measure => simp [intOf]; omega
        · go_wp2_with (first | ((with_reducible refine at_index_ 23 ?_); refine wpList_at_h rfl Try.underlying29 sizeOf24 _ (O.mem List.mem_cons_self) rfl (k) rfl rfl (by omega) rfl ?_) | ((with_reducible refine at_load 24 ?_); refine wpList_elem_h rfl _ (O.mem List.mem_cons_self) (k * 5) (M.mat 5 s) (ss_at HS.out) (by rw [M.mat_len]; decide) rfl Try.underlying24 rfl (s24 _) ?_) | ((with_reducible refine at_alloc 12 ?_); refine wpList_alloc_h O (M.mat 5 M.zero) zero24 ?_; clear O; intro g12 v1 O) | ((with_reducible refine at_store 12 ?_); refine wpList_put_h O 0 (M.mat 5 (s)) rfl rfl rfl (s24 _) (M.mat_len2 _ _ _) (M.mat_one _ _) ?_; clear O; intro v2 O) | ((with_reducible refine at_load 26 ?_); refine wpList_rowg_h rfl O 0 rfl rfl Try.underlying24 rfl (s24 _) ?_) | ((with_reducible refine at_load 27 ?_); refine wpList_rowg_h rfl O 6 rfl rfl Try.underlying27 rfl (s27 _) ?_) | ((with_reducible refine at_load 28 ?_); refine wpList_rowg_h rfl O 5 rfl rfl Try.underlying27 rfl (s27 _) ?_) | (go_at_call 10; refine (cp _).mono ?_; rintro e v3 ⟨rfl, hb⟩; replace O := O.call hb; clear hb) | ((with_reducible refine at_build 35 ?_); refine wpList_build_g rfl ([(0, .int .i64 n), (1, .int .i64 d)]) ((D.pr (n, d)).toArray) ?_ (built40 n d) ?_; (focus (simp only [List.map_toArray, List.map_cons, List.map_nil]; rfl))) | ((with_reducible refine at_alloc 16 ?_); refine wpList_alloc_h O [.int .i64 0, .int .i64 0] zero40 ?_; clear O; intro g16 v4 O) | ((with_reducible refine at_store 16 ?_); refine wpList_put_h O 0 (D.pr ((n, d))) rfl rfl rfl size40 rfl (pr_one _) ?_; clear O; intro v5 O) | ((with_reducible refine at_load 39 ?_); refine wpList_rowg_h rfl O 3 rfl rfl Try.underlying40 rfl size40 ?_) | ((with_reducible refine at_load 40 ?_); refine wpList_rowg_h rfl O 0 rfl rfl Try.underlying40 rfl size40 ?_) | (go_at_call 18; refine (cl _).mono ?_; rintro e v6 ⟨rfl, hb⟩; replace O := O.call hb; clear hb) | ((with_reducible refine at_load 42 ?_); refine wpList_rowg_h rfl O 0 rfl rfl Try.underlying40 rfl size40 ?_) | ((with_reducible refine at_store 9 ?_); refine wpList_put_h O 3 (D.pr ((n, d))) rfl rfl rfl size40 rfl (pr_one _) ?_; clear O; intro v7 O))
          have O2 := O.tail.tail
          clear O
          go_roundw
          case rel => exact ⟨k + 1, (n, d), y, by omega, by go_num, D.not3_step H3.out HS.out (by rw [HP.out]; exact (by decide : (1:Int) ≠ 3)), by rw [D.cuts_yes HS.out (by rw [HP.out]), HP.out]; exact D.topZ_yes (D.cuts_take_fair (.inl rfl)) FP.out HX.out HAB.out, by rw [D.cuts_not HS.out (by rw [HP.out]; exact (by decide : (1:Int) ≠ 2))]; exact HY.out, PL.out, YL.out, O2⟩
          case measure => simp [intOf]; omega
      · have fp : D.Cut.fair (n, d) := PF.out (.inr rfl)
        have FP := Lib.hid fp
        clear fp
        have cl := fun w => pless_any (n, d) y PL.out YL.out w
        cases hab : D.above y (n, d)
        all_goals
          rw [hab] at cl
          have HAB := Lib.hid hab
          clear hab
        · go_wp2_with (first | ((with_reducible refine at_index_ 23 ?_); refine wpList_at_h rfl Try.underlying29 sizeOf24 _ (O.mem List.mem_cons_self) rfl (k) rfl rfl (by omega) rfl ?_) | ((with_reducible refine at_load 24 ?_); refine wpList_elem_h rfl _ (O.mem List.mem_cons_self) (k * 5) (M.mat 5 s) (ss_at HS.out) (by rw [M.mat_len]; decide) rfl Try.underlying24 rfl (s24 _) ?_) | ((with_reducible refine at_alloc 12 ?_); refine wpList_alloc_h O (M.mat 5 M.zero) zero24 ?_; clear O; intro g12 v1 O) | ((with_reducible refine at_store 12 ?_); refine wpList_put_h O 0 (M.mat 5 (s)) rfl rfl rfl (s24 _) (M.mat_len2 _ _ _) (M.mat_one _ _) ?_; clear O; intro v2 O) | ((with_reducible refine at_load 26 ?_); refine wpList_rowg_h rfl O 0 rfl rfl Try.underlying24 rfl (s24 _) ?_) | ((with_reducible refine at_load 27 ?_); refine wpList_rowg_h rfl O 6 rfl rfl Try.underlying27 rfl (s27 _) ?_) | ((with_reducible refine at_load 28 ?_); refine wpList_rowg_h rfl O 5 rfl rfl Try.underlying27 rfl (s27 _) ?_) | (go_at_call 10; refine (cp _).mono ?_; rintro e v3 ⟨rfl, hb⟩; replace O := O.call hb; clear hb) | ((with_reducible refine at_build 35 ?_); refine wpList_build_g rfl ([(0, .int .i64 n), (1, .int .i64 d)]) ((D.pr (n, d)).toArray) ?_ (built40 n d) ?_; (focus (simp only [List.map_toArray, List.map_cons, List.map_nil]; rfl))) | ((with_reducible refine at_alloc 16 ?_); refine wpList_alloc_h O [.int .i64 0, .int .i64 0] zero40 ?_; clear O; intro g16 v4 O) | ((with_reducible refine at_store 16 ?_); refine wpList_put_h O 0 (D.pr ((n, d))) rfl rfl rfl size40 rfl (pr_one _) ?_; clear O; intro v5 O) | ((with_reducible refine at_load 45 ?_); refine wpList_rowg_h rfl O 0 rfl rfl Try.underlying40 rfl size40 ?_) | ((with_reducible refine at_load 46 ?_); refine wpList_rowg_h rfl O 2 rfl rfl Try.underlying40 rfl size40 ?_) | (go_at_call 18; refine (cl _).mono ?_; rintro e v6 ⟨rfl, hb⟩; replace O := O.call hb; clear hb) | ((with_reducible refine at_load 48 ?_); refine wpList_rowg_h rfl O 0 rfl rfl Try.underlying40 rfl size40 ?_) | ((with_reducible refine at_store 10 ?_); refine wpList_put_h O 2 (D.pr ((n, d))) rfl rfl rfl size40 rfl (pr_one _) ?_; clear O; intro v7 O))
          have O2 := O.tail.tail
          clear O
          go_roundw
          case rel => exact ⟨k + 1, x, y, by omega, by go_num, D.not3_step H3.out HS.out (by rw [HP.out]; exact (by decide : (2:Int) ≠ 3)), by rw [D.cuts_not HS.out (by rw [HP.out]; exact (by decide : (2:Int) ≠ 1))]; exact HX.out, by rw [D.cuts_yes HS.out (by rw [HP.out]), HP.out]; exact D.lowZ_no HY.out HAB.out, XL.out, YL.out, O2⟩
          case measure => simp [intOf]; omega
        · go_wp2_with (first | ((with_reducible refine at_index_ 23 ?_); refine wpList_at_h rfl Try.underlying29 sizeOf24 _ (O.mem List.mem_cons_self) rfl (k) rfl rfl (by omega) rfl ?_) | ((with_reducible refine at_load 24 ?_); refine wpList_elem_h rfl _ (O.mem List.mem_cons_self) (k * 5) (M.mat 5 s) (ss_at HS.out) (by rw [M.mat_len]; decide) rfl Try.underlying24 rfl (s24 _) ?_) | ((with_reducible refine at_alloc 12 ?_); refine wpList_alloc_h O (M.mat 5 M.zero) zero24 ?_; clear O; intro g12 v1 O) | ((with_reducible refine at_store 12 ?_); refine wpList_put_h O 0 (M.mat 5 (s)) rfl rfl rfl (s24 _) (M.mat_len2 _ _ _) (M.mat_one _ _) ?_; clear O; intro v2 O) | ((with_reducible refine at_load 26 ?_); refine wpList_rowg_h rfl O 0 rfl rfl Try.underlying24 rfl (s24 _) ?_) | ((with_reducible refine at_load 27 ?_); refine wpList_rowg_h rfl O 6 rfl rfl Try.underlying27 rfl (s27 _) ?_) | ((with_reducible refine at_load 28 ?_); refine wpList_rowg_h rfl O 5 rfl rfl Try.underlying27 rfl (s27 _) ?_) | (go_at_call 10; refine (cp _).mono ?_; rintro e v3 ⟨rfl, hb⟩; replace O := O.call hb; clear hb) | ((with_reducible refine at_build 35 ?_); refine wpList_build_g rfl ([(0, .int .i64 n), (1, .int .i64 d)]) ((D.pr (n, d)).toArray) ?_ (built40 n d) ?_; (focus (simp only [List.map_toArray, List.map_cons, List.map_nil]; rfl))) | ((with_reducible refine at_alloc 16 ?_); refine wpList_alloc_h O [.int .i64 0, .int .i64 0] zero40 ?_; clear O; intro g16 v4 O) | ((with_reducible refine at_store 16 ?_); refine wpList_put_h O 0 (D.pr ((n, d))) rfl rfl rfl size40 rfl (pr_one _) ?_; clear O; intro v5 O) | ((with_reducible refine at_load 45 ?_); refine wpList_rowg_h rfl O 0 rfl rfl Try.underlying40 rfl size40 ?_) | ((with_reducible refine at_load 46 ?_); refine wpList_rowg_h rfl O 2 rfl rfl Try.underlying40 rfl size40 ?_) | (go_at_call 18; refine (cl _).mono ?_; rintro e v6 ⟨rfl, hb⟩; replace O := O.call hb; clear hb) | ((with_reducible refine at_load 48 ?_); refine wpList_rowg_h rfl O 0 rfl rfl Try.underlying40 rfl size40 ?_) | ((with_reducible refine at_store 10 ?_); refine wpList_put_h O 2 (D.pr ((n, d))) rfl rfl rfl size40 rfl (pr_one _) ?_; clear O; intro v7 O))
          have O2 := O.tail.tail
          clear O
          go_roundw
          case rel => exact ⟨k + 1, x, (n, d), by omega, by go_num, D.not3_step H3.out HS.out (by rw [HP.out]; exact (by decide : (2:Int) ≠ 3)), by rw [D.cuts_not HS.out (by rw [HP.out]; exact (by decide : (2:Int) ≠ 1))]; exact HX.out, by rw [D.cuts_yes HS.out (by rw [HP.out]), HP.out]; exact D.lowZ_yes (D.cuts_take_fair (.inr rfl)) FP.out HY.out HAB.out, XL.out, PL.out, O2⟩
          case measure => simp [intOf]; omega
      · have HE := Lib.hid (D.trim_out HS.out (by rw [HP.out]))
        go_wp2_with (first | ((with_reducible refine at_index_ 23 ?_); refine wpList_at_h rfl Try.underlying29 sizeOf24 _ (O.mem List.mem_cons_self) rfl (k) rfl rfl (by omega) rfl ?_) | ((with_reducible refine at_load 24 ?_); refine wpList_elem_h rfl _ (O.mem List.mem_cons_self) (k * 5) (M.mat 5 s) (ss_at HS.out) (by rw [M.mat_len]; decide) rfl Try.underlying24 rfl (s24 _) ?_) | ((with_reducible refine at_alloc 12 ?_); refine wpList_alloc_h O (M.mat 5 M.zero) zero24 ?_; clear O; intro g12 v1 O) | ((with_reducible refine at_store 12 ?_); refine wpList_put_h O 0 (M.mat 5 (s)) rfl rfl rfl (s24 _) (M.mat_len2 _ _ _) (M.mat_one _ _) ?_; clear O; intro v2 O) | ((with_reducible refine at_load 26 ?_); refine wpList_rowg_h rfl O 0 rfl rfl Try.underlying24 rfl (s24 _) ?_) | ((with_reducible refine at_load 27 ?_); refine wpList_rowg_h rfl O 6 rfl rfl Try.underlying27 rfl (s27 _) ?_) | ((with_reducible refine at_load 28 ?_); refine wpList_rowg_h rfl O 5 rfl rfl Try.underlying27 rfl (s27 _) ?_) | (go_at_call 10; refine (cp _).mono ?_; rintro e v3 ⟨rfl, hb⟩; replace O := O.call hb; clear hb) | ((with_reducible refine at_build 35 ?_); refine wpList_build_g rfl ([(0, .int .i64 n), (1, .int .i64 d)]) ((D.pr (n, d)).toArray) ?_ (built40 n d) ?_; (focus (simp only [List.map_toArray, List.map_cons, List.map_nil]; rfl))) | ((with_reducible refine at_alloc 16 ?_); refine wpList_alloc_h O [.int .i64 0, .int .i64 0] zero40 ?_; clear O; intro g16 v4 O) | ((with_reducible refine at_store 16 ?_); refine wpList_put_h O 0 (D.pr ((n, d))) rfl rfl rfl size40 rfl (pr_one _) ?_; clear O; intro v5 O) | ((with_reducible refine at_build 51 ?_); refine wpList_build_g rfl ([]) ((M.mat 8 M.zero).toArray) ?_ (built27z) ?_; (focus (simp only [List.map_toArray, List.map_cons, List.map_nil]; rfl))) | ((with_reducible refine at_build 52 ?_); refine wpList_build_g rfl ([]) ((M.mat 8 M.zero).toArray) ?_ (built27z) ?_; (focus (simp only [List.map_toArray, List.map_cons, List.map_nil]; rfl))) | ((with_reducible refine at_store 6 ?_); refine wpList_put_h O 5 (M.mat 8 (M.zero)) rfl rfl rfl (s27 _) (M.mat_len2 _ _ _) (M.mat_one _ _) ?_; clear O; intro v8 O) | ((with_reducible refine at_store 7 ?_); refine wpList_put_h O 4 (M.mat 8 (M.zero)) rfl rfl rfl (s27 _) (M.mat_len2 _ _ _) (M.mat_one _ _) ?_; clear O; intro v9 O))
        exact bodyPost_ret (v := .tuple #[arr 8 M.zero, arr 8 M.zero, .bool false]) (res_h3 rfl O 5 4 rfl rfl rfl rfl Try.underlying27 rfl (s27 _) Try.underlying27 rfl (s27 _) rfl) rfl ⟨by rw [HE.out], O.below⟩
    · have q1 : ¬ (k : Int) < l.length := by omega
      obtain rfl : k = l.length := by omega
      have hh3 := H3.out
      have hhx := HX.out
      have hhy := HY.out
      rw [List.take_of_length_le (Nat.le_refl _)] at hh3 hhx hhy
      have cl := fun w => pless_any y x YL.out XL.out w
      cases hab : D.above x y
      all_goals rw [hab] at cl
      · have HE := Lib.hid (D.trim_yes hh3 hhx hhy hab)
        have c1 := fun w => CS.out x hhx.1 XL.out w
        have c2 := fun w => CS.out y hhy.1 YL.out w
        clear hh3 hhx hhy hab H3 HX HY XL YL CS CP PR HR
        generalize D.way a b x.1 x.2 = f1 at *
        generalize D.way a b y.1 y.2 = f2 at *
        go_wp2_with (first | ((with_reducible refine at_load 54 ?_); refine wpList_rowg_h rfl O 0 rfl rfl Try.underlying40 rfl size40 ?_) | ((with_reducible refine at_load 55 ?_); refine wpList_rowg_h rfl O 1 rfl rfl Try.underlying40 rfl size40 ?_) | (go_at_call 18; refine (cl _).mono ?_; rintro e v1 ⟨rfl, hb⟩; replace O := O.call hb; clear hb))
        refine region_T ((fun w2 => Held w w2 [(g10, 40, D.pr y), (g9, 40, D.pr x), (g7, 27, M.mat 8 M.zero), (g6, 27, M.mat 8 M.zero), (g4, 27, M.mat 8 b), (g3, 27, M.mat 8 a)] nilRow [sE lo A c l])) [0, 1, 2, 3, 4, 5, 6, 7] 12 [some 59, some 60, some 61, some 62, some 63, some 64, some 65, some 66] [.agg (D.pr x).toArray, arr 8 a, arr 8 b, arr 8 f1, .agg (D.pr y).toArray, arr 8 a, arr 8 b, arr 8 f2] 3 (by kernel_rfl) (by rfl) (by kernel_rfl) (by rfl) (by rfl) (O.drew) (fun F hF => ?_)
        simp only [fillD, Act.put, List.setIfInBounds_toArray, List.set_cons_zero, List.set_cons_succ] at hF
        subst hF
        refine ⟨⟨does_want rfl (by rfl) (fun w' O K hK => ?_), does_want rfl (by rfl) (fun w' O K hK => ?_), does_want rfl (by rfl) (fun w' O K hK => ?_), does_want rfl (by rfl) (fun w' O K hK => ?_), does_want rfl (by rfl) (fun w' O K hK => ?_), does_want rfl (by rfl) (fun w' O K hK => ?_), does_want rfl (by rfl) (fun w' O K hK => ?_), does_want rfl (by rfl) (fun w' O K hK => ?_), trivial⟩, fun w' O => ?_⟩
        · exact wp_row_h O 1 rfl rfl Try.underlying40 rfl size40 (hK _ O)
        · exact wp_row_h O 5 rfl rfl Try.underlying27 rfl (s27 _) (hK _ O)
        · exact wp_row_h O 4 rfl rfl Try.underlying27 rfl (s27 _) (hK _ O)
        · go_simp
          go_at_call 19
          refine (c1 _).mono ?_
          rintro e w2 ⟨rfl, hb⟩
          exact hK _ (O.call hb)
        · exact wp_row_h O 0 rfl rfl Try.underlying40 rfl size40 (hK _ O)
        · exact wp_row_h O 5 rfl rfl Try.underlying27 rfl (s27 _) (hK _ O)
        · exact wp_row_h O 4 rfl rfl Try.underlying27 rfl (s27 _) (hK _ O)
        · go_simp
          go_at_call 19
          refine (c2 _).mono ?_
          rintro e w2 ⟨rfl, hb⟩
          exact hK _ (O.call hb)
        refine wpAny_want (i := 8) (by kernel_rfl) rfl (by rfl) (fun K hK => ?_)
        refine wp_put_h O 3 (M.mat 8 f1) rfl rfl rfl (s27 _) (M.mat_len2 _ _ _) (M.mat_one _ _) fun w9 O9 => hK _ _ ?_
        clear O
        have O := O9
        clear O9
        clear hK K
        try simp only [Act.put, List.setIfInBounds_toArray, List.set_cons_zero, List.set_cons_succ]
        refine wpAny_want (i := 9) (by kernel_rfl) rfl (by rfl) (fun K hK => ?_)
        refine wp_put_h O 2 (M.mat 8 f2) rfl rfl rfl (s27 _) (M.mat_len2 _ _ _) (M.mat_one _ _) fun w9 O9 => hK _ _ ?_
        clear O
        have O := O9
        clear O9
        clear hK K
        try simp only [Act.put, List.setIfInBounds_toArray, List.set_cons_zero, List.set_cons_succ]
        refine wpAny_one (i := 10) (by kernel_rfl) rfl (fun K hK => ?_)
        go_simp
        refine hK _ _ ?_
        clear hK K
        try simp only [Act.put, List.setIfInBounds_toArray, List.set_cons_zero, List.set_cons_succ]
        refine wpAny_done (by kernel_rfl) ?_ _
        go_wp2_with fail
        exact bodyPost_ret (v := .tuple #[arr 8 f1, arr 8 f2, .bool true]) (res_h3 rfl O 3 2 rfl rfl rfl rfl Try.underlying27 rfl (s27 _) Try.underlying27 rfl (s27 _) rfl) rfl ⟨by rw [HE.out], O.below⟩
      · have HE := Lib.hid (D.trim_no hh3 hhx hhy hab)
        clear hh3 hhx hhy hab
        go_wp2_with (first | ((with_reducible refine at_load 54 ?_); refine wpList_rowg_h rfl O 0 rfl rfl Try.underlying40 rfl size40 ?_) | ((with_reducible refine at_load 55 ?_); refine wpList_rowg_h rfl O 1 rfl rfl Try.underlying40 rfl size40 ?_) | (go_at_call 18; refine (cl _).mono ?_; rintro e v1 ⟨rfl, hb⟩; replace O := O.call hb; clear hb) | ((with_reducible refine at_build 57 ?_); refine wpList_build_g rfl ([]) ((M.mat 8 M.zero).toArray) ?_ (built27z) ?_; (focus (simp only [List.map_toArray, List.map_cons, List.map_nil]; rfl))) | ((with_reducible refine at_build 58 ?_); refine wpList_build_g rfl ([]) ((M.mat 8 M.zero).toArray) ?_ (built27z) ?_; (focus (simp only [List.map_toArray, List.map_cons, List.map_nil]; rfl))) | ((with_reducible refine at_store 6 ?_); refine wpList_put_h O 3 (M.mat 8 (M.zero)) rfl rfl rfl (s27 _) (M.mat_len2 _ _ _) (M.mat_one _ _) ?_; clear O; intro v8 O) | ((with_reducible refine at_store 7 ?_); refine wpList_put_h O 2 (M.mat 8 (M.zero)) rfl rfl rfl (s27 _) (M.mat_len2 _ _ _) (M.mat_one _ _) ?_; clear O; intro v9 O))
        exact bodyPost_ret (v := .tuple #[arr 8 M.zero, arr 8 M.zero, .bool false]) (res_h3 rfl O 3 2 rfl rfl rfl rfl Try.underlying27 rfl (s27 _) Try.underlying27 rfl (s27 _) rfl) rfl ⟨by rw [HE.out], O.below⟩
end Go.Proofs.Ytimfdimpifpclaa
