/- Contracts: Cut, Carve. -/
import Derived.Test.YtbpignicffkaoaaFd
import Derived.Test.YtbpignicffkaoaaFe
import Derived.OwnWalk
namespace Go.Proofs.Ytbpignicffkaoaa
open Go.ChangeShapes Go.WideShapes Go.ChangeAt Go.RowKit
set_option linter.unusedVariables false
set_option linter.unusedSimpArgs false

theorem two_lies {w : World} {n : Nat} {x y : Ent} (hx : Lies w free x) (hy : Lies w free y) (h1 : x.lo = n := by rfl) (h2 : y.lo = n := by rfl) : ∀ z ∈ [x, y], z.lo = n ∧ Lies w free z := by
  intro z hz
  simp only [List.mem_cons, List.not_mem_nil, or_false] at hz
  rcases hz with rfl | rfl
  · exact ⟨h1, hx⟩
  · exact ⟨h2, hy⟩
def ex (k : Nat) : Value → Value
  | .tuple a => a[k]?.getD undef
  | _ => undef
/-- How far a region has come that makes corners, cuts them, and puts them apart. -/
def CtS (w0 : World) (bs : List (Nat × TypeId × List Value)) (es : List Ent) (P R : List C.PV) (a b c : Option Value) (w : World) : Prop :=
  (a = none ∧ b = none ∧ c = none ∧ Held w0 w bs nilRow es) ∨
  (∃ A n, a = some (.slice A P.length n) ∧ b = none ∧ c = none ∧ Held w0 w bs nilRow (cnE w0.heap.size A n P :: es)) ∨
  (∃ v A n, a = some v ∧ b = some (.slice A R.length n) ∧ c = none ∧ Held w0 w bs nilRow (cnE w0.heap.size A n R :: es)) ∨
  (∃ v u A n B m, a = some v ∧ b = some u ∧ c = some (.tuple #[.slice A (C.vs R).length n, .slice B (C.fs R).length m]) ∧ Held w0 w bs nilRow (vE w0.heap.size A n (C.vs R) :: bE w0.heap.size B m (C.fs R) :: es))
theorem CtS.held {w0 w : World} {bs : List (Nat × TypeId × List Value)} {es : List Ent} {P R : List C.PV} {a b c : Option Value} (h : CtS w0 bs es P R a b c w) : ∃ es2, Held w0 w bs nilRow es2 := by
  rcases h with ⟨_, _, _, h⟩ | ⟨A2, n2, _, _, _, h⟩ | ⟨v, A2, n2, _, _, _, h⟩ | ⟨v, v2, A2, n2, B2, m2, _, _, _, h⟩ <;> exact ⟨_, h⟩
theorem CtS.tup {w0 w : World} {bs : List (Nat × TypeId × List Value)} {es : List Ent} {P R : List C.PV} {a b c : Option Value} (h : CtS w0 bs es P R a b c w) (hc : c.isSome = true) : ∃ v u A n B m, a = some v ∧ b = some u ∧ c = some (.tuple #[.slice A (C.vs R).length n, .slice B (C.fs R).length m]) ∧ Held w0 w bs nilRow (vE w0.heap.size A n (C.vs R) :: bE w0.heap.size B m (C.fs R) :: es) := by
  rcases h with ⟨_, _, h, _⟩ | ⟨A2, n2, _, _, h, _⟩ | ⟨v, A2, n2, _, _, h, _⟩ | h
  · rw [h] at hc; cases hc
  · rw [h] at hc; cases hc
  · rw [h] at hc; cases hc
  · exact h
def C.res (l : List (Nat → Int)) (e : List Bool) (s : List (Nat → Int)) : List C.PV := if C.may l e.length s then C.carve s (l.zip e) else []
def C.err (l : List (Nat → Int)) (e : List Bool) (s : List (Nat → Int)) : Int := if C.may l e.length s then 0 else 1
theorem zip_fit {l : List (Nat → Int)} {e : List Bool} (h : ∀ x ∈ l, D.fits x = true) : C.Fit (l.zip e) := fun x hx => h x.1 (List.of_mem_zip (a := x.1) (b := x.2) hx).1
set_option maxRecDepth 100000 in
set_option maxHeartbeats 4000000 in
theorem pcutx_any (l : List (Nat → Int)) (e : List Bool) (s : Nat → Int) (hle : l.length = e.length) (h9 : l.length ≤ 200000) (hs : D.right s = true) (hf : ∀ x ∈ l, D.fits x = true) {lo lo2 : Nat} {A B : Option Addr} {c d : Nat} (w : World) (hL : Lies w free (vE lo A c l)) (hM : Lies w free (bE lo2 B d e)) :
    Calls Try.prog 13 #[.slice A l.length c, .slice B e.length d, arr 5 s] w (RetVF w (C.vs (C.cut s (l.zip e))) (C.fs (C.cut s (l.zip e)))) := by
  have O := Held.start w [bE lo2 B d e, vE lo A c l] (by
    intro x hx
    simp only [List.mem_cons, List.not_mem_nil, or_false] at hx
    rcases hx with rfl | rfl
    · exact hM
    · exact hL)
  clear hL hM
  have CT := fun w (h1 : Lies w free (vE lo A c l)) (h2 : Lies w free (bE lo2 B d e)) => ptog_any l e hle h9 w h1 h2
  have n0 : (l.zip e).length ≤ 200000 := by rw [List.length_zip]; omega
  have n1 := C.cut_len s (l.zip e)
  have CC := fun w lo A c (h : Lies w free (cnE lo A c (l.zip e))) => pcut_any (l.zip e) s hs (zip_fit hf) n0 w h
  generalize l.zip e = P at *
  have CA := fun w lo A c (h : Lies w free (cnE lo A c (C.cut s P))) => papart_any (C.cut s P) (by omega) w h
  generalize C.cut s P = R at *
  have HN := Lib.hid n0
  have HN1 := Lib.hid n1
  have q : ((e.length : Int) != (l.length : Int)) = false := by simp; omega
  clear hle h9 hs hf n0 n1
  go_enter Try.func13, Try.ntmps13
  go_wp2_with ((with_reducible refine at_box 5 ?_); refine wpList_box_h O (M.mat 5 (s)) rfl ?_; clear O; intro g5 w1 O)
  refine region_S (fun st w2 => CtS w [(g5, 35, M.mat 5 s)] [bE lo2 B d e, vE lo A c l] P R (st 2) (st 4) (st 5) w2) [2, 4, 5] 12 8 [some 13, some 14, some 15, some 16, some 17, some 18, some 19, some 20] (fun g => [.slice A l.length c, .slice B e.length d, g 2, arr 5 s, g 4, g 5, ex 0 (g 5), ex 1 (g 5)]) 2 (by kernel_rfl) (by kernel_rfl) (by rfl) (by rfl) (fun _ => rfl) (by decide) ?_ (.inl ⟨rfl, rfl, rfl, O.drew⟩) (fun F hF => ?_)
  · intro i hi
    simp only [List.mem_cons, List.not_mem_nil, or_false] at hi
    rcases hi with rfl | rfl | rfl
    · exact ⟨fun _ => rfl, [0, 1, 3, 4, 5, 6, 7], by kernel_rfl, fun g v => ⟨rfl, rfl, rfl, rfl, rfl, rfl, rfl, trivial⟩⟩
    · exact ⟨fun _ => rfl, [0, 1, 2, 3, 5, 6, 7], by kernel_rfl, fun g v => ⟨rfl, rfl, rfl, rfl, rfl, rfl, rfl, trivial⟩⟩
    · exact ⟨fun _ => rfl, [0, 1, 2, 3, 4], by kernel_rfl, fun g v => ⟨rfl, rfl, rfl, rfl, rfl, trivial⟩⟩
  simp only [fillD, Act.put, List.setIfInBounds_toArray, List.set_cons_zero, List.set_cons_succ] at hF
  have hF2 := funext hF
  clear hF
  subst hF2
  refine ⟨⟨doesN_want (by decide) rfl (fun g => rfl) (fun st w' hS hp K hK => ?_), doesN_want (by decide) rfl (fun g => rfl) (fun st w' hS hp K hK => ?_), doesC_want (by decide) rfl (fun g => rfl) (fun st w' hS hn hp K hK => ?_), doesN_want (by decide) rfl (fun g => rfl) (fun st w' hS hp K hK => ?_), doesC_want (by decide) rfl (fun g => rfl) (fun st w' hS hn hp K hK => ?_), doesC_want (by decide) rfl (fun g => rfl) (fun st w' hS hn hp K hK => ?_), doesN_want (by decide) rfl (fun g => rfl) (fun st w' hS hp K hK => ?_), doesN_want (by decide) rfl (fun g => rfl) (fun st w' hS hp K hK => ?_), trivial⟩, fun st w' hS hall => ?_⟩
  · try dsimp only
    go_simp
    exact hK _ hS
  · try dsimp only
    go_simp
    exact hK _ hS
  · try dsimp only
    rcases hS with ⟨h1, h2, h3, hS⟩ | ⟨A2, n2, h1, h2, h3, hS⟩ | ⟨v, A2, n2, h1, h2, h3, hS⟩ | ⟨v, v2, A2, n2, B2, m2, h1, h2, h3, hS⟩
    · go_simp
      go_at_call 18
      refine (CT _ (hS.arg (List.mem_cons_of_mem _ List.mem_cons_self)) (hS.arg List.mem_cons_self)).mono ?_
      rintro r w6 ⟨TA, tc, rfl, hT, hb⟩
      refine hK _ w6 ?_
      show CtS w _ _ P R (upd st 2 _ 2) (upd st 2 _ 4) (upd st 2 _ 5) w6
      simp only [upd_same, upd_other st _ (show (4 : Nat) ≠ 2 by decide), upd_other st _ (show (5 : Nat) ≠ 2 by decide)]
      exact .inr (.inl ⟨TA, tc, rfl, h2, h3, hS.gain hb hT⟩)
    · rw [h1] at hn; cases hn
    · rw [h1] at hn; cases hn
    · rw [h1] at hn; cases hn
  · try dsimp only
    obtain ⟨es2, O2⟩ := hS.held
    exact wp_row_h O2 0 rfl rfl Try.underlying35 rfl (s24 _) (hK _ hS)
  · try dsimp only
    have hp2 := hp 2 (by decide) (by kernel_rfl)
    rcases hS with ⟨h1, h2, h3, hS⟩ | ⟨A2, n2, h1, h2, h3, hS⟩ | ⟨v, A2, n2, h1, h2, h3, hS⟩ | ⟨v, v2, A2, n2, B2, m2, h1, h2, h3, hS⟩
    · rw [h1] at hp2; cases hp2
    · have e1 : seen st 2 = .slice A2 P.length n2 := by simp [seen, h1]
      simp only [e1] at hK ⊢
      go_simp
      go_at_call 19
      refine (CC _ _ _ _ (hS.arg List.mem_cons_self)).mono ?_
      rintro r w6 ⟨TA, tc, rfl, hT, hb⟩
      refine hK _ w6 ?_
      show CtS w _ _ P R (upd st 4 _ 2) (upd st 4 _ 4) (upd st 4 _ 5) w6
      simp only [upd_same, upd_other st _ (show (2 : Nat) ≠ 4 by decide), upd_other st _ (show (5 : Nat) ≠ 4 by decide)]
      exact .inr (.inr (.inl ⟨_, TA, tc, h1, rfl, h3, (hS.gain hb hT).pick (fun y hy => by
        rcases List.mem_cons.1 hy with rfl | hy
        · exact List.mem_cons_self
        · exact List.mem_cons_of_mem _ (List.mem_cons_of_mem _ hy))⟩))
    · rw [h2] at hn; cases hn
    · rw [h2] at hn; cases hn
  · try dsimp only
    have hp2 := hp 4 (by decide) (by kernel_rfl)
    rcases hS with ⟨h1, h2, h3, hS⟩ | ⟨A2, n2, h1, h2, h3, hS⟩ | ⟨v, A2, n2, h1, h2, h3, hS⟩ | ⟨v, v2, A2, n2, B2, m2, h1, h2, h3, hS⟩
    · rw [h2] at hp2; cases hp2
    · rw [h2] at hp2; cases hp2
    · have e1 : seen st 4 = .slice A2 R.length n2 := by simp [seen, h2]
      simp only [e1] at hK ⊢
      go_simp
      go_at_call 20
      refine (CA _ _ _ _ (hS.arg List.mem_cons_self)).mono ?_
      rintro r w6 ⟨VA, vc, WA, wc, rfl, hV, hW, hb⟩
      refine hK _ w6 ?_
      show CtS w _ _ P R (upd st 5 _ 2) (upd st 5 _ 4) (upd st 5 _ 5) w6
      simp only [upd_same, upd_other st _ (show (2 : Nat) ≠ 5 by decide), upd_other st _ (show (4 : Nat) ≠ 5 by decide)]
      exact .inr (.inr (.inr ⟨_, _, VA, vc, WA, wc, h1, h2, rfl, (hS.gains hb (ns := [vE _ VA vc (C.vs R), bE _ WA wc (C.fs R)]) (fun x hx => by
        simp only [List.mem_cons, List.not_mem_nil, or_false] at hx
        rcases hx with rfl | rfl
        · exact ⟨rfl, hV⟩
        · exact ⟨rfl, hW⟩)).pick (fun y hy => by
        rcases List.mem_cons.1 hy with rfl | hy
        · exact List.mem_cons_self
        · rcases List.mem_cons.1 hy with rfl | hy
          · exact List.mem_cons_of_mem _ List.mem_cons_self
          · exact List.mem_cons_of_mem _ (List.mem_cons_of_mem _ (List.mem_cons_of_mem _ hy)))⟩))
    · rw [h3] at hn; cases hn
  · try dsimp only
    obtain ⟨v4, v5, A2, n2, B2, m2, h1, h2, h3, hS2⟩ := hS.tup (hp 5 (by decide) (by kernel_rfl))
    have e1 : seen st 5 = .tuple #[.slice A2 (C.vs R).length n2, .slice B2 (C.fs R).length m2] := by simp [seen, h3]
    simp only [e1] at hK ⊢
    go_simp
    exact hK _ hS
  · try dsimp only
    obtain ⟨v4, v5, A2, n2, B2, m2, h1, h2, h3, hS2⟩ := hS.tup (hp 5 (by decide) (by kernel_rfl))
    have e1 : seen st 5 = .tuple #[.slice A2 (C.vs R).length n2, .slice B2 (C.fs R).length m2] := by simp [seen, h3]
    simp only [e1] at hK ⊢
    go_simp
    exact hK _ hS
  try dsimp only
  obtain ⟨v4, v5, A2, n2, B2, m2, h1, h2, h3, O3⟩ := hS.tup (hall 5 (by decide))
  clear hS O
  have O := O3
  clear O3
  simp only [seen, h1, h2, h3, Option.getD_some]
  clear hall h1 h2 h3
  refine wpAny_one (i := 8) (by kernel_rfl) rfl (fun K hK => ?_)
  go_simp
  refine hK _ _ ?_
  clear hK K
  try simp only [Act.put, List.setIfInBounds_toArray, List.set_cons_zero, List.set_cons_succ]
  refine wpAny_one (i := 9) (by kernel_rfl) rfl (fun K hK => ?_)
  go_simp
  refine hK _ _ ?_
  clear hK K
  try simp only [Act.put, List.setIfInBounds_toArray, List.set_cons_zero, List.set_cons_succ]
  refine wpAny_done (by kernel_rfl) ?_ _
  go_wp2_with fail
  go_ret2
  exact ⟨A2, n2, B2, m2, rfl, O.arg (x := vE w.heap.size A2 n2 (C.vs R)) List.mem_cons_self, O.arg (x := bE w.heap.size B2 m2 (C.fs R)) (List.mem_cons_of_mem _ List.mem_cons_self), O.below⟩
set_option maxRecDepth 100000 in
set_option maxHeartbeats 8000000 in
theorem pcarve_any (l : List (Nat → Int)) (e : List Bool) (s : List (Nat → Int)) {lo lo2 lo3 : Nat} {A B D_ : Option Addr} {c d g : Nat} (w : World) (hL : Lies w free (vE lo A c l)) (hM : Lies w free (bE lo2 B d e)) (hS : Lies w free (sE lo3 D_ g s)) :
    Calls Try.prog 10 #[.slice A l.length c, .slice B e.length d, .slice D_ s.length g] w (RetVFE w (C.vs (C.res l e s)) (C.fs (C.res l e s)) (C.err l e s)) := by
  have O := Held.start w [bE lo2 B d e, vE lo A c l, sE lo3 D_ g s] (by
    intro x hx
    simp only [List.mem_cons, List.not_mem_nil, or_false] at hx
    rcases hx with rfl | rfl | rfl
    · exact hM
    · exact hL
    · exact hS)
  clear hL hM hS
  have CP := fun w (h1 : Lies w free (vE lo A c l)) (h2 : Lies w free (bE lo2 B d e)) => ppoly_any l e w h1 h2
  have CS := fun w (h1 : Lies w free (sE lo3 D_ g s)) => psides_any s w h1
  cases hp : C.okP l e.length
  · have H1 : Hid (C.res l e s = []) := Lib.hid (by simp [C.res, C.may, hp])
    have H2 : Hid (C.err l e s = 1) := Lib.hid (by simp [C.err, C.may, hp])
    rw [hp] at CP
    clear hp CS
    go_enter Try.func10, Try.ntmps10
    go_wp2_with (go_at_call 16; refine (CP _ (O.arg (List.mem_cons_of_mem _ List.mem_cons_self)) (O.arg List.mem_cons_self)).mono ?_; rintro e w2 ⟨rfl, hb⟩; replace O := O.call hb; clear hb)
    go_ret3
    rw [H1.out, H2.out]
    exact retVFE_nil O.below
  cases hs : C.okS s
  · have H1 : Hid (C.res l e s = []) := Lib.hid (by simp [C.res, C.may, hs])
    have H2 : Hid (C.err l e s = 1) := Lib.hid (by simp [C.err, C.may, hs])
    rw [hs] at CS
    rw [hp] at CP
    clear hp hs
    go_enter Try.func10, Try.ntmps10
    go_wp2_with (first | (go_at_call 16; refine (CP _ (O.arg (List.mem_cons_of_mem _ List.mem_cons_self)) (O.arg List.mem_cons_self)).mono ?_; rintro e w2 ⟨rfl, hb⟩; replace O := O.call hb; clear hb) | (go_at_call 17; refine (CS _ (O.arg (List.mem_cons_of_mem _ (List.mem_cons_of_mem _ List.mem_cons_self)))).mono ?_; rintro e w3 ⟨rfl, hb⟩; replace O := O.call hb; clear hb))
    go_ret3
    rw [H1.out, H2.out]
    exact retVFE_nil O.below
  have H1 : Hid (C.res l e s = C.carve s (l.zip e)) := Lib.hid (by simp [C.res, C.may, hs, hp])
  have H2 : Hid (C.err l e s = 0) := Lib.hid (by simp [C.err, C.may, hs, hp])
  rw [hs] at CS
  rw [hp] at CP
  obtain ⟨p1, p2, p3, p4⟩ := C.okP_iff.1 hp
  obtain ⟨s1, s2⟩ := C.okS_iff.1 hs
  have n0 : (l.zip e).length ≤ 256 := by rw [List.length_zip]; omega
  have f0 : C.Fit (l.zip e) := zip_fit p4
  have CT := fun w (h1 : Lies w free (vE lo A c l)) (h2 : Lies w free (bE lo2 B d e)) => ptog_any l e p3.symm (by omega) w h1 h2
  generalize l.zip e = P at *
  have HN : Hid (∀ k, k ≤ s.length → (C.carve (s.take k) P).length ≤ 200000) := Lib.hid fun k hk => by
    have h1 := C.carve_len (s.take k) P
    have h2 : (2 : Nat) ^ (s.take k).length ≤ 2 ^ 9 := Nat.pow_le_pow_right (by decide) (by rw [List.length_take]; omega)
    have h3 := Nat.mul_le_mul h2 n0
    exact Nat.le_trans h1 (Nat.le_trans h3 (by decide))
  have CC := Lib.hid fun k (hk : k ≤ s.length) x (hx : x ∈ s) w lo A c (h : Lies w free (cnE lo A c (C.carve (s.take k) P))) => pcut_any (C.carve (s.take k) P) x (s2 x hx) (C.carve_fit f0) (HN.out k hk) w h
  have CA := Lib.hid fun w lo A c (h : Lies w free (cnE lo A c (C.carve s P))) => papart_any (C.carve s P) (by have := HN.out s.length (Nat.le_refl _); rw [List.take_of_length_le (Nat.le_refl _)] at this; omega) w h
  have s9 : s.length ≤ 9 := s1
  clear hs hp p1 p2 p3 p4 s1 s2 n0 f0
  go_enter Try.func10, Try.ntmps10
  go_wp2_with (first | (go_at_call 16; refine (CP _ (O.arg (List.mem_cons_of_mem _ List.mem_cons_self)) (O.arg List.mem_cons_self)).mono ?_; rintro e w2 ⟨rfl, hb⟩; replace O := O.call hb; clear hb) | (go_at_call 17; refine (CS _ (O.arg (List.mem_cons_of_mem _ (List.mem_cons_of_mem _ List.mem_cons_self)))).mono ?_; rintro e w3 ⟨rfl, hb⟩; replace O := O.call hb; clear hb) | (go_at_call 18; refine (CT _ (O.arg (List.mem_cons_of_mem _ List.mem_cons_self)) (O.arg List.mem_cons_self)).mono ?_; rintro r w4 ⟨TA, tc, rfl, hT, hb⟩; have O2 := O.gain hb hT; clear O CT; have O := O2; clear O2))
  clear CP CS
  go_loopw [9, 28] (fun u t wr => ∃ (k : Nat) (L : List C.PV) (RA : Option Addr) (Rc : Nat), k ≤ s.length ∧ t = .int .i64 k ∧ u = .slice RA L.length Rc ∧ C.carve (s.take k) P = L ∧ Held w wr [] nilRow (cnE w.heap.size RA Rc L :: [bE lo2 B d e, vE lo A c l, sE lo3 D_ g s])) (fun _ t _ => s.length - (intOf t).toNat)
  case atStart => exact ⟨0, P, TA, tc, Nat.zero_le _, rfl, rfl, rfl, O⟩
  case round =>
    clear O
    obtain ⟨k, L, RA, Rc, hk, rfl, rfl, hT, O⟩ := hrel
    have HT := Lib.hid hT
    clear hT
    have q0 : (0 : Int) ≤ k := by omega
    by_cases hlt : k < s.length
    · have q1 : (k : Int) < s.length := by omega
      obtain ⟨x, hx⟩ : ∃ x, s[k]? = some x := ⟨_, List.getElem?_eq_getElem hlt⟩
      have cc := CC.out k hk x (List.mem_of_getElem? hx)
      have HU : Hid (C.carve (s.take (k + 1)) P = C.cut x L) := Lib.hid (by rw [C.carve_one hx, HT.out])
      rw [HT.out] at cc
      have HX := Lib.hid hx
      clear hx
      go_wp2_with (first | ((with_reducible refine at_index_ 30 ?_); refine wpList_at_h rfl Try.underlying24 sizeOf24 _ (O.mem (List.mem_cons_of_mem _ (List.mem_cons_of_mem _ (List.mem_cons_of_mem _ List.mem_cons_self)))) rfl (k) rfl (rfl) (by omega) rfl ?_) | ((with_reducible refine at_load 31 ?_); refine wpList_elem_h rfl _ (O.mem (List.mem_cons_of_mem _ (List.mem_cons_of_mem _ (List.mem_cons_of_mem _ List.mem_cons_self)))) (k * 5) (M.mat 5 (x)) (ss_at HX.out) (by rw [M.mat_len]; decide) rfl Try.underlying35 rfl (s24 _) ?_) | ((with_reducible refine at_alloc 11 ?_); refine wpList_alloc_h O (M.mat 5 M.zero) zero24 ?_; clear O; intro g6 v1 O) | ((with_reducible refine at_store 11 ?_); refine wpList_put_h O 0 (M.mat 5 (x)) rfl rfl rfl (s24 _) (M.mat_len2 _ _ _) (M.mat_one _ _) ?_; clear O; intro v2 O) | ((with_reducible refine at_load 33 ?_); refine wpList_rowg_h rfl O 0 rfl rfl Try.underlying35 rfl (s24 _) ?_) | (go_at_call 19; refine (cc _ _ _ _ (O.arg List.mem_cons_self)).mono ?_; rintro r w5 ⟨UA, uc, rfl, hU, hb⟩; have O2 := O.gain hb hU; clear O cc; have O := O2; clear O2))
      have O2 : Held w w5 [] nilRow (cnE w.heap.size UA uc (C.cut x L) :: [bE lo2 B d e, vE lo A c l, sE lo3 D_ g s]) := O.tail.pick (fun y hy => by
        rcases List.mem_cons.1 hy with rfl | hy
        · exact List.mem_cons_self
        · exact List.mem_cons_of_mem _ (List.mem_cons_of_mem _ hy))
      clear O
      go_roundw
      case rel => exact ⟨k + 1, C.cut x L, UA, uc, by omega, by go_num, rfl, HU.out, O2⟩
      case measure => simp [intOf]; omega
    · have q1 : ¬ (k : Int) < s.length := by omega
      obtain rfl : k = s.length := by omega
      have hT := HT.out
      rw [List.take_of_length_le (Nat.le_refl _)] at hT
      rw [← H1.out] at hT
      have ca := CA.out
      rw [← H1.out, hT] at ca
      have HE := Lib.hid hT
      clear hT HT CA CC HN
      go_wp2_with (go_at_call 20; refine (ca _ _ _ _ (O.arg List.mem_cons_self)).mono ?_; rintro r w6 ⟨VA, vc, WA, wc, rfl, hV, hW, hb⟩; have O2 := O.gains hb (ns := [vE _ VA vc (C.vs L), bE _ WA wc (C.fs L)]) (two_lies hV hW); clear O ca; have O := O2; clear O2)
      go_ret3
      rw [HE.out, H2.out]
      exact ⟨VA, vc, WA, wc, rfl, O.arg (x := vE w.heap.size VA vc (C.vs L)) List.mem_cons_self, O.arg (x := bE w.heap.size WA wc (C.fs L)) (List.mem_cons_of_mem _ List.mem_cons_self), O.below⟩
end Go.Proofs.Ytbpignicffkaoaa
