/- Contract: the document's Carve. -/
import Derived.Test.YtbpignicffkaoaaFf
import Derived.Test.YtbpignicffkaoaaFg
namespace Go.Proofs.Ytbpignicffkaoaa
open Go.ChangeShapes Go.WideShapes Go.ChangeAt Go.RowKit
set_option linter.unusedVariables false
set_option linter.unusedSimpArgs false

theorem zip_un : ∀ P : List C.PV, (C.vs P).zip (C.fs P) = P
  | [] => rfl
  | x :: P => by
    have := zip_un P
    simp only [C.vs, C.fs, List.map_cons, List.zip_cons_cons] at this ⊢
    rw [this]
theorem C.may_no {l : List (Nat → Int)} {n : Nat} {s : List (Nat → Int)} (h : C.okP l n = false ∨ C.okS s = false) : C.may l n s = false := by
  rcases h with h | h <;> simp [C.may, h]
theorem res_no {l : List (Nat → Int)} {e : List Bool} {s : List (Nat → Int)} (h : C.okP l e.length = false ∨ C.okS s = false) : C.res l e s = [] ∧ C.err l e s = 1 := by
  have := C.may_no h
  simp [C.res, C.err, this]
theorem res_yes {l : List (Nat → Int)} {e : List Bool} {s : List (Nat → Int)} (h : C.okP l e.length = true) (g : C.okS s = true) : C.res l e s = C.carve s (l.zip e) ∧ C.err l e s = 0 := by
  simp [C.res, C.err, C.may, h, g]
section
variable {w0 w : World} {bs : List (Nat × TypeId × List Value)} {es : List Ent}
theorem doneV_ {l : List (Nat → Int)} {v : Value} (O : Held w0 w bs ⟨v, 39, 8, 0 + l.length, [] ++ vC l⟩ es) : ∃ A c, v = .slice A l.length c ∧ Held w0 w bs nilRow (vE w0.heap.size A c l :: es) := by
  obtain ⟨A, c, hv, h⟩ := O.done
  dsimp only at hv h
  rw [Nat.zero_add] at hv h
  exact ⟨A, c, hv, h⟩
theorem doneB_ {l : List Bool} {v : Value} (O : Held w0 w bs ⟨v, 4, 1, 0 + l.length, [] ++ bC l⟩ es) : ∃ A c, v = .slice A l.length c ∧ Held w0 w bs nilRow (bE w0.heap.size A c l :: es) := by
  obtain ⟨A, c, hv, h⟩ := O.done
  dsimp only at hv h
  rw [Nat.zero_add] at hv h
  exact ⟨A, c, hv, h⟩
end
theorem size39 : (Try.prog.info? 39).map (·.size) = some 8 := by kernel_rfl
theorem size4_ : (Try.prog.info? 4).map (·.size) = some 1 := by kernel_rfl
set_option maxRecDepth 100000 in
set_option maxHeartbeats 8000000 in
theorem rcarve_any (l : List (Nat → Int)) (e : List Bool) (s : List (Nat → Int)) {lo lo2 lo3 : Nat} {A B D_ : Option Addr} {c d g : Nat} (w : World) (hL : Lies w free (vE lo A c l)) (hM : Lies w free (bE lo2 B d e)) (hS : Lies w free (sE lo3 D_ g s)) :
    Calls Try.prog 11 #[.slice A l.length c, .slice B e.length d, .slice D_ s.length g] w (RetVFE w (C.vs (C.res l e s)) (C.fs (C.res l e s)) (C.err l e s)) := by
  have O := Held.start w [bE lo2 B d e, vE lo A c l, sE lo3 D_ g s] (by
    intro x hx
    simp only [List.mem_cons, List.not_mem_nil, or_false] at hx
    rcases hx with rfl | rfl | rfl
    · exact hM
    · exact hL
    · exact hS)
  clear hL hM hS
  by_cases h1 : l.length < 3
  · have q : (l.length : Int) < 3 := by omega
    obtain ⟨e1, e2⟩ := res_no (l := l) (e := e) (s := s) (.inl (C.okP_no (.inl h1)))
    have H1 := Lib.hid e1
    have H2 := Lib.hid e2
    clear e1 e2 h1
    go_enter Try.func11, Try.ntmps11
    go_wp2_with fail
    go_ret3
    rw [H1.out, H2.out]
    exact retVFE_nil O.below
  have k1 : ¬ (l.length : Int) < 3 := by omega
  by_cases h2 : 256 < l.length
  · have q : (256 : Int) < l.length := by omega
    obtain ⟨e1, e2⟩ := res_no (l := l) (e := e) (s := s) (.inl (C.okP_no (.inr (.inl h2))))
    have H1 := Lib.hid e1
    have H2 := Lib.hid e2
    clear e1 e2 h1 h2
    go_enter Try.func11, Try.ntmps11
    go_wp2_with fail
    go_ret3
    rw [H1.out, H2.out]
    exact retVFE_nil O.below
  have k2 : ¬ (256 : Int) < l.length := by omega
  by_cases h3 : e.length = l.length
  case neg =>
    have q : ((e.length : Int) != (l.length : Int)) = true := by simp; omega
    obtain ⟨e1, e2⟩ := res_no (l := l) (e := e) (s := s) (.inl (C.okP_no (.inr (.inr (.inl h3)))))
    have H1 := Lib.hid e1
    have H2 := Lib.hid e2
    clear e1 e2 h1 h2 h3
    go_enter Try.func11, Try.ntmps11
    go_wp2_with fail
    go_ret3
    rw [H1.out, H2.out]
    exact retVFE_nil O.below
  have k3 : ((e.length : Int) != (l.length : Int)) = false := by simp; omega
  by_cases h4 : 9 < s.length
  · have q : (9 : Int) < s.length := by omega
    obtain ⟨e1, e2⟩ := res_no (l := l) (e := e) (s := s) (.inr (C.okS_no (.inl h4)))
    have H1 := Lib.hid e1
    have H2 := Lib.hid e2
    clear e1 e2 h1 h2 h3 h4
    go_enter Try.func11, Try.ntmps11
    go_wp2_with fail
    go_ret3
    rw [H1.out, H2.out]
    exact retVFE_nil O.below
  have k4 : ¬ (9 : Int) < s.length := by omega
  have n0 : l.length ≤ 256 := by omega
  have n9 : s.length ≤ 9 := by omega
  have YES := Lib.hid (fun hf hr => And.intro (C.okP_iff (l := l) (n := e.length).2 ⟨by omega, by omega, h3, hf⟩) (C.okS_iff (l := s).2 ⟨by omega, hr⟩))
  have HLE := Lib.hid h3
  clear h1 h2 h3 h4
  go_enter Try.func11, Try.ntmps11
  go_wp2_with fail
  clear k1 k2 k3 k4
  go_loopw [9] (fun t wr => ∃ k : Nat, k ≤ l.length ∧ t = .int .i64 k ∧ (∀ y ∈ l.take k, D.fits y = true) ∧ Held w wr [] nilRow [bE lo2 B d e, vE lo A c l, sE lo3 D_ g s]) (fun t _ => l.length - (intOf t).toNat)
  case atStart => exact ⟨0, Nat.zero_le _, rfl, fun s hs => absurd hs (by simp), O⟩
  case round =>
    clear O
    obtain ⟨k, hk, rfl, hall, O⟩ := hrel
    have HA := Lib.hid hall
    clear hall
    have q0 : (0 : Int) ≤ k := by omega
    by_cases hlt : k < l.length
    · have q1 : (k : Int) < l.length := by omega
      obtain ⟨x, hx⟩ : ∃ x, l[k]? = some x := ⟨_, List.getElem?_eq_getElem hlt⟩
      have HX := Lib.hid hx
      clear hx
      cases hr : D.fits x
      · obtain ⟨e1, e2⟩ := res_no (l := l) (e := e) (s := s) (.inl (C.okP_no (.inr (.inr (.inr ⟨x, List.mem_of_getElem? HX.out, hr⟩)))))
        have H1 := Lib.hid e1
        have H2 := Lib.hid e2
        clear e1 e2
        go_wp2_with (first | ((with_reducible refine at_index_ 42 ?_); refine wpList_at_h rfl Try.underlying22 sizeOf27 _ (O.mem (List.mem_cons_of_mem _ List.mem_cons_self)) rfl (k) rfl (rfl) (by omega) rfl ?_) | ((with_reducible refine at_load 43 ?_); refine wpList_elem_h rfl _ (O.mem (List.mem_cons_of_mem _ List.mem_cons_self)) (k * 8) (M.mat 8 (x)) (vC_at HX.out) (by rw [M.mat_len]; decide) rfl Try.underlying39 rfl (s27 _) ?_) | (go_at_call 21; refine (rfits_any _ _).mono ?_; rintro e v3 ⟨rfl, hb⟩; replace O := O.call hb; clear hb))
        go_ret3
        rw [H1.out, H2.out]
        exact retVFE_nil O.below
      · have HR := Lib.hid hr
        go_wp2_with (first | ((with_reducible refine at_index_ 42 ?_); refine wpList_at_h rfl Try.underlying22 sizeOf27 _ (O.mem (List.mem_cons_of_mem _ List.mem_cons_self)) rfl (k) rfl (rfl) (by omega) rfl ?_) | ((with_reducible refine at_load 43 ?_); refine wpList_elem_h rfl _ (O.mem (List.mem_cons_of_mem _ List.mem_cons_self)) (k * 8) (M.mat 8 (x)) (vC_at HX.out) (by rw [M.mat_len]; decide) rfl Try.underlying39 rfl (s27 _) ?_) | (go_at_call 21; refine (rfits_any _ _).mono ?_; rintro e v3 ⟨rfl, hb⟩; replace O := O.call hb; clear hb))
        go_roundw
        case rel => exact ⟨k + 1, by omega, by go_num, fun u hu => by
          rw [C.take_one HX.out] at hu
          rcases List.mem_append.1 hu with hu | hu
          · exact HA.out u hu
          · obtain rfl : u = x := by simpa using hu
            exact HR.out, O⟩
        case measure => simp [intOf]; omega
    · have q1 : ¬ (k : Int) < l.length := by omega
      obtain rfl : k = l.length := by omega
      have hA := HA.out
      rw [List.take_of_length_le (Nat.le_refl _)] at hA
      have HF := Lib.hid hA
      clear hA HA
      go_wp2_with fail
      go_loopw [10] (fun t wr => ∃ k : Nat, k ≤ s.length ∧ t = .int .i64 k ∧ (∀ y ∈ s.take k, D.right y = true) ∧ Held w wr [] nilRow [bE lo2 B d e, vE lo A c l, sE lo3 D_ g s]) (fun t _ => s.length - (intOf t).toNat)
      case atStart => exact ⟨0, Nat.zero_le _, rfl, fun s hs => absurd hs (by simp), O⟩
      case round =>
        clear O
        obtain ⟨k, hk, rfl, hall, O⟩ := hrel
        have HA := Lib.hid hall
        clear hall
        have q0 : (0 : Int) ≤ k := by omega
        by_cases hlt : k < s.length
        · have q1 : (k : Int) < s.length := by omega
          obtain ⟨x, hx⟩ : ∃ x, s[k]? = some x := ⟨_, List.getElem?_eq_getElem hlt⟩
          have HX := Lib.hid hx
          clear hx
          cases hr : D.right x
          · obtain ⟨e1, e2⟩ := res_no (l := l) (e := e) (s := s) (.inr (C.okS_no (.inr ⟨x, List.mem_of_getElem? HX.out, hr⟩)))
            have H1 := Lib.hid e1
            have H2 := Lib.hid e2
            clear e1 e2
            go_wp2_with (first | ((with_reducible refine at_index_ 54 ?_); refine wpList_at_h rfl Try.underlying24 sizeOf24 _ (O.mem (List.mem_cons_of_mem _ (List.mem_cons_of_mem _ List.mem_cons_self))) rfl (k) rfl (rfl) (by omega) rfl ?_) | ((with_reducible refine at_load 55 ?_); refine wpList_elem_h rfl _ (O.mem (List.mem_cons_of_mem _ (List.mem_cons_of_mem _ List.mem_cons_self))) (k * 5) (M.mat 5 (x)) (ss_at HX.out) (by rw [M.mat_len]; decide) rfl Try.underlying35 rfl (s24 _) ?_) | (go_at_call 22; refine (rright_any _ _).mono ?_; rintro e v3 ⟨rfl, hb⟩; replace O := O.call hb; clear hb))
            go_ret3
            rw [H1.out, H2.out]
            exact retVFE_nil O.below
          · have HR := Lib.hid hr
            go_wp2_with (first | ((with_reducible refine at_index_ 54 ?_); refine wpList_at_h rfl Try.underlying24 sizeOf24 _ (O.mem (List.mem_cons_of_mem _ (List.mem_cons_of_mem _ List.mem_cons_self))) rfl (k) rfl (rfl) (by omega) rfl ?_) | ((with_reducible refine at_load 55 ?_); refine wpList_elem_h rfl _ (O.mem (List.mem_cons_of_mem _ (List.mem_cons_of_mem _ List.mem_cons_self))) (k * 5) (M.mat 5 (x)) (ss_at HX.out) (by rw [M.mat_len]; decide) rfl Try.underlying35 rfl (s24 _) ?_) | (go_at_call 22; refine (rright_any _ _).mono ?_; rintro e v3 ⟨rfl, hb⟩; replace O := O.call hb; clear hb))
            go_roundw
            case rel => exact ⟨k + 1, by omega, by go_num, fun u hu => by
              rw [C.take_one HX.out] at hu
              rcases List.mem_append.1 hu with hu | hu
              · exact HA.out u hu
              · obtain rfl : u = x := by simpa using hu
                exact HR.out, O⟩
            case measure => simp [intOf]; omega
        · have q1 : ¬ (k : Int) < s.length := by omega
          obtain rfl : k = s.length := by omega
          have hA := HA.out
          rw [List.take_of_length_le (Nat.le_refl _)] at hA
          have HB := Lib.hid hA
          clear hA HA
          obtain ⟨y1, y2⟩ := YES.out HF.out HB.out
          obtain ⟨r1, r2⟩ := res_yes (l := l) (e := e) (s := s) y1 y2
          clear YES y1 y2
          have z1 := C.zip_vs (l := l) (e := e) HLE.out.symm
          have z2 := C.zip_fs (l := l) (e := e) HLE.out.symm
          have m0 : (l.zip e).length ≤ 256 := by rw [List.length_zip]; omega
          have f0 : C.Fit (l.zip e) := zip_fit HF.out
          generalize l.zip e = P at *
          have HN : Hid (∀ k, k ≤ s.length → (C.carve (s.take k) P).length ≤ 200000) := Lib.hid fun k hk => by
            have h1 := C.carve_len (s.take k) P
            have h2 : (2 : Nat) ^ (s.take k).length ≤ 2 ^ 9 := Nat.pow_le_pow_right (by decide) (by rw [List.length_take]; omega)
            have h3 := Nat.mul_le_mul h2 m0
            exact Nat.le_trans h1 (Nat.le_trans h3 (by decide))
          have CC := Lib.hid fun k (hk : k ≤ s.length) x (hx : x ∈ s) w lo A c lo2 B d (h1 : Lies w free (vE lo A c (C.vs (C.carve (s.take k) P)))) (h2 : Lies w free (bE lo2 B d (C.fs (C.carve (s.take k) P)))) => by
            have := rcut_any (C.vs (C.carve (s.take k) P)) (C.fs (C.carve (s.take k) P)) x (by rw [vs_len, fs_len]) (by rw [vs_len]; exact HN.out k hk) (HB.out x hx) (fun u hu => by
              obtain ⟨v, hv, rfl⟩ := List.mem_map.1 hu
              exact C.carve_fit f0 v hv) w h1 h2
            rw [zip_un] at this
            exact this
          have Z1 := Lib.hid z1
          have Z2 := Lib.hid z2
          have R1 := Lib.hid r1
          have R2 := Lib.hid r2
          clear z1 z2 r1 r2 m0 f0 HN HLE HF HB
          have ne : e.length ≤ 256 := by first | omega | (have := congrArg List.length Z2.out; rw [fs_len] at this; have := congrArg List.length Z1.out; rw [vs_len] at this; omega)
          go_wp2_with (first | ((with_reducible refine at_lit 58 ?_); refine wpList_none_h rfl O 8 size39 Try.underlying22 ?_; clear O; intro vn un O; obtain ⟨NA_, Nc_, hv⟩ := O.row_val; dsimp only at hv; subst hv) | ((with_reducible refine at_app 60 ?_); refine wpList_app_big rfl O (.agg (M.mat 8 M.zero).toArray) 64 info27b rfl (Nat.succ_pos _) Try.underlying22 rfl (vE lo A c l) (O.mem (List.mem_cons_of_mem _ List.mem_cons_self)) rfl rfl (vC_one _) (by dsimp only [vE, bE]; omega) (by decide) ?_; clear O; intro va ua O; obtain ⟨VA, vc, e1, O2⟩ := doneV_ O; subst e1; clear O; have O := O2; clear O2) | ((with_reducible refine at_lit 61 ?_); refine wpList_none_h rfl O 1 size4_ Try.underlying23 ?_; clear O; intro vn un O; obtain ⟨NA_, Nc_, hv⟩ := O.row_val; dsimp only at hv; subst hv) | ((with_reducible refine at_app 63 ?_); refine wpList_app_big rfl O (.bool false) 1 info4b rfl (Nat.succ_pos _) Try.underlying23 rfl (bE lo2 B d e) (O.mem (List.mem_cons_of_mem _ List.mem_cons_self)) rfl rfl (bC_one _) (by dsimp only [vE, bE]; omega) (by decide) ?_; clear O; intro va ua O; obtain ⟨WA, wc, e1, O2⟩ := doneB_ O; subst e1; clear O; have O := O2; clear O2))
          go_loopw [11, 12, 13] (fun u v t wr => ∃ (k : Nat) (L : List (Nat → Int)) (N : List Bool) (RA : Option Addr) (Rc : Nat) (SA : Option Addr) (Sc : Nat), k ≤ s.length ∧ t = .int .i64 k ∧ u = .slice RA L.length Rc ∧ v = .slice SA N.length Sc ∧ C.vs (C.carve (s.take k) P) = L ∧ C.fs (C.carve (s.take k) P) = N ∧ Held w wr [] nilRow (vE w.heap.size RA Rc L :: bE w.heap.size SA Sc N :: [bE lo2 B d e, vE lo A c l, sE lo3 D_ g s])) (fun _ _ t _ => s.length - (intOf t).toNat)
          case atStart => exact ⟨0, l, e, VA, vc, WA, wc, Nat.zero_le _, rfl, rfl, rfl, Z1.out, Z2.out, O.pick (fun y hy => by
            rcases List.mem_cons.1 hy with rfl | hy
            · exact List.mem_cons_of_mem _ List.mem_cons_self
            · rcases List.mem_cons.1 hy with rfl | hy
              · exact List.mem_cons_self
              · exact List.mem_cons_of_mem _ (List.mem_cons_of_mem _ hy))⟩
          case round =>
            clear O
            obtain ⟨k, L, N, RA, Rc, SA, Sc, hk, rfl, rfl, rfl, hL1, hN1, O⟩ := hrel
            have q0 : (0 : Int) ≤ k := by omega
            by_cases hlt : k < s.length
            · have q1 : (k : Int) < s.length := by omega
              obtain ⟨x, hx⟩ : ∃ x, s[k]? = some x := ⟨_, List.getElem?_eq_getElem hlt⟩
              have cc := CC.out k hk x (List.mem_of_getElem? hx)
              have HU : Hid (C.carve (s.take (k + 1)) P = C.cut x (C.carve (s.take k) P)) := Lib.hid (C.carve_one hx)
              rw [hL1, hN1] at cc
              have HX := Lib.hid hx
              clear hx hL1 hN1
              go_wp2_with (first | ((with_reducible refine at_index_ 75 ?_); refine wpList_at_h rfl Try.underlying24 sizeOf24 _ (O.mem (List.mem_cons_of_mem _ (List.mem_cons_of_mem _ (List.mem_cons_of_mem _ (List.mem_cons_of_mem _ List.mem_cons_self))))) rfl (k) rfl (rfl) (by omega) rfl ?_) | ((with_reducible refine at_load 76 ?_); refine wpList_elem_h rfl _ (O.mem (List.mem_cons_of_mem _ (List.mem_cons_of_mem _ (List.mem_cons_of_mem _ (List.mem_cons_of_mem _ List.mem_cons_self))))) (k * 5) (M.mat 5 (x)) (ss_at HX.out) (by rw [M.mat_len]; decide) rfl Try.underlying35 rfl (s24 _) ?_) | (go_at_call 14; refine (cc _ _ _ _ _ _ _ (O.arg List.mem_cons_self) (O.arg (List.mem_cons_of_mem _ List.mem_cons_self))).mono ?_; rintro r w5 ⟨VB, vb, WB, wb, rfl, hV, hW, hb⟩; have O2 := O.gains hb (ns := [vE _ VB vb _, bE _ WB wb _]) (two_lies hV hW); clear O cc; have O := O2; clear O2))
              have O2 : Held w w5 [] nilRow (vE w.heap.size VB vb (C.vs (C.cut x (C.carve (s.take k) P))) :: bE w.heap.size WB wb (C.fs (C.cut x (C.carve (s.take k) P))) :: [bE lo2 B d e, vE lo A c l, sE lo3 D_ g s]) := O.pick (fun y hy => by
                rcases List.mem_cons.1 hy with rfl | hy
                · exact List.mem_cons_self
                · rcases List.mem_cons.1 hy with rfl | hy
                  · exact List.mem_cons_of_mem _ List.mem_cons_self
                  · exact List.mem_cons_of_mem _ (List.mem_cons_of_mem _ (List.mem_cons_of_mem _ (List.mem_cons_of_mem _ hy))))
              clear O
              go_roundw
              case rel => exact ⟨k + 1, _, _, VB, vb, WB, wb, by omega, by go_num, rfl, rfl, by rw [HU.out], by rw [HU.out], O2⟩
              case measure => simp [intOf]; omega
            · have q1 : ¬ (k : Int) < s.length := by omega
              obtain rfl : k = s.length := by omega
              rw [List.take_of_length_le (Nat.le_refl _)] at hL1 hN1
              rw [← R1.out] at hL1 hN1
              have HE1 := Lib.hid hL1
              have HE2 := Lib.hid hN1
              clear hL1 hN1
              go_wp2_with fail
              go_ret3
              rw [HE1.out, HE2.out, R2.out]
              exact ⟨RA, Rc, SA, Sc, rfl, O.arg List.mem_cons_self, O.arg (List.mem_cons_of_mem _ List.mem_cons_self), O.below⟩
end Go.Proofs.Ytbpignicffkaoaa
