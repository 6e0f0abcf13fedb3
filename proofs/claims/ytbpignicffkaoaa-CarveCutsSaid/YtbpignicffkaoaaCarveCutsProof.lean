/-
  For every list of vertices, of flags and of sides the law CarveCuts returns true: what one side leaves is the document's; a row of sides is one behind the other. No condition.
-/
import Derived.Test.YtbpignicffkaoaaFj
import Derived.Deep.DeepCutAuto
namespace Go.Proofs.Ytbpignicffkaoaa.carveCuts
open Go.ChangeShapes Go.WideShapes Go.ChangeAt Go.RowKit
set_option linter.unusedVariables false
set_option linter.unusedSimpArgs false

theorem own : ownKnob Try.prog.godebug = none := by kernel_rfl

set_option maxRecDepth 100000 in
set_option maxHeartbeats 16000000 in
theorem walk (w : World) (l : List (Nat → Int)) (e : List Bool) (s : List (Nat → Int)) {A : Option Addr} {c : Nat} {B : Option Addr} {d : Nat} {D_ : Option Addr} {g : Nat} (hV : Lies w free (vE 0 A c l)) (hB : Lies w free (bE 0 B d e)) (hS : Lies w free (sE 0 D_ g s)) :
    Calls Try.prog 4 #[.slice A l.length c, .slice B e.length d, .slice D_ s.length g] w fun e w' => e = .returned (.bool true) ∧ Below w.heap.size w w' := by
  have O := Held.start w [bE 0 B d e, vE 0 A c l, sE 0 D_ g s] (by
    intro x hx
    simp only [List.mem_cons, List.not_mem_nil, or_false] at hx
    rcases hx with rfl | rfl | rfl
    · exact hB
    · exact hV
    · exact hS)
  clear hV hB hS
  have cf := fun w => few_any l.length e.length s.length (A := A) (B := B) (D_ := D_) (c := c) (d := d) (g := g) w
  cases hf : C.few l.length e.length s.length
  all_goals rw [hf] at cf
  · clear hf
    go_enter Try.func4, Try.ntmps4
    go_wp2_with (first | (go_at_call 8; refine (cf _).mono ?_; rintro r w1 ⟨rfl, rfl⟩) | (go_at_call 9; refine (awake_any _).mono ?_; rintro e w5 ⟨rfl, hb⟩; replace O := O.call hb; clear hb))
    go_ret
    exact ⟨rfl, O.below⟩
  · clear hf
    have c1 := fun w h1 h2 h3 => pcarve_any l e s (lo := 0) (lo2 := 0) (lo3 := 0) (A := A) (B := B) (D_ := D_) (c := c) (d := d) (g := g) w h1 h2 h3
    cases hm : C.may l e.length s
    · obtain ⟨r1, r2⟩ := res_not hm
      rw [r1, r2, show C.vs [] = [] from rfl, show C.fs [] = [] from rfl] at c1
      clear hm r1 r2
      go_enter Try.func4, Try.ntmps4
      go_wp2_with (first | (go_at_call 8; refine (cf _).mono ?_; rintro r w1 ⟨rfl, rfl⟩) | (go_at_call 10; refine (c1 _ (O.arg (List.mem_cons_of_mem _ List.mem_cons_self)) (O.arg List.mem_cons_self) (O.arg (List.mem_cons_of_mem _ (List.mem_cons_of_mem _ List.mem_cons_self)))).mono ?_; rintro r w2 ⟨VA, va, WA, wa, rfl, hV, hW, hb⟩; have O2 := O.gains hb (ns := [vE _ VA va _, bE _ WA wa _]) (two_lies hV hW); clear O hV hW hb; have O := O2; clear O2) | (go_at_call 9; refine (awake_any _).mono ?_; rintro e w4 ⟨rfl, hb⟩; replace O := O.call hb; clear hb))
      go_ret
      exact ⟨rfl, O.below⟩
    · obtain ⟨r1, r2⟩ := res_may hm
      obtain ⟨⟨p1, p2, p3, p4⟩, s1, s2⟩ := may_iff.1 hm
      rw [r1, r2] at c1
      have z1 := C.zip_vs (l := l) (e := e) p3.symm
      have z2 := C.zip_fs (l := l) (e := e) p3.symm
      have HN := Lib.hid (part_len (l := l) (e := e) (s := s) p2 s1)
      have f0 : C.Fit (l.zip e) := zip_fit p4
      generalize l.zip e = P at *
      have C1 := Lib.hid fun k x (hx : x ∈ s) w A c B d (h1 : Lies w free (vE 0 A c (C.vs (C.carve (s.take k) P)))) (h2 : Lies w free (bE 0 B d (C.fs (C.carve (s.take k) P)))) => by
        have := pcutx_any (C.vs (C.carve (s.take k) P)) (C.fs (C.carve (s.take k) P)) x (by rw [vs_len, fs_len]) (by rw [vs_len]; exact HN.out k) (s2 x hx) (vs_fit (C.carve_fit f0)) w h1 h2
        rw [zip_un] at this
        exact this
      have C2 := Lib.hid fun k x (hx : x ∈ s) w A c B d (h1 : Lies w free (vE 0 A c (C.vs (C.carve (s.take k) P)))) (h2 : Lies w free (bE 0 B d (C.fs (C.carve (s.take k) P)))) => by
        have := rcut_any (C.vs (C.carve (s.take k) P)) (C.fs (C.carve (s.take k) P)) x (by rw [vs_len, fs_len]) (by rw [vs_len]; exact HN.out k) (s2 x hx) (vs_fit (C.carve_fit f0)) w h1 h2
        rw [zip_un] at this
        exact this
      have Z1 := Lib.hid z1
      have Z2 := Lib.hid z2
      have hv9 : (C.vs (C.carve s P)).length ≤ 1000000 := by rw [vs_len]; have := HN.out s.length; rw [List.take_of_length_le (Nat.le_refl _)] at this; omega
      have hvl : (C.vs (C.carve s P)).length = (C.fs (C.carve s P)).length := by rw [vs_len, fs_len]
      have HV9 := Lib.hid hv9
      have HVL := Lib.hid hvl
      have s9 : s.length ≤ 9 := s1
      clear hm r1 r2 p1 p2 p3 p4 s1 s2 z1 z2 f0 hv9 hvl
      obtain ⟨Lv, hLv⟩ : ∃ L, C.vs (C.carve s P) = L := ⟨_, rfl⟩
      obtain ⟨Lf, hLf⟩ : ∃ L, C.fs (C.carve s P) = L := ⟨_, rfl⟩
      rw [hLv, hLf] at c1
      have HLV := Lib.hid hLv
      have HLF := Lib.hid hLf
      clear hLv hLf
      go_enter Try.func4, Try.ntmps4
      go_wp2_with (first | (go_at_call 8; refine (cf _).mono ?_; rintro r w1 ⟨rfl, rfl⟩) | (go_at_call 10; refine (c1 _ (O.arg (List.mem_cons_of_mem _ List.mem_cons_self)) (O.arg List.mem_cons_self) (O.arg (List.mem_cons_of_mem _ (List.mem_cons_of_mem _ List.mem_cons_self)))).mono ?_; rintro r w2 ⟨VA, va, WA, wa, rfl, hV, hW, hb⟩; have O2 := O.gains hb (ns := [vE _ VA va _, bE _ WA wa _]) (two_lies hV hW); clear O hV hW hb; have O := O2; clear O2))
      have O2 : Held w _ [] nilRow [vE 0 A c l, bE 0 B d e, vE w.heap.size VA va Lv, bE w.heap.size WA wa Lf, sE 0 D_ g s] := O.sub (fun y hy => by
        simp only [List.mem_cons, List.not_mem_nil, or_false] at hy
        rcases hy with rfl | rfl | rfl | rfl | rfl
        · exact ⟨_, (List.mem_cons_of_mem _ (List.mem_cons_of_mem _ (List.mem_cons_of_mem _ List.mem_cons_self))), rfl, rfl, rfl, rfl, rfl, by first | exact Nat.zero_le _ | exact Nat.le_refl _⟩
        · exact ⟨_, (List.mem_cons_of_mem _ (List.mem_cons_of_mem _ List.mem_cons_self)), rfl, rfl, rfl, rfl, rfl, by first | exact Nat.zero_le _ | exact Nat.le_refl _⟩
        · exact ⟨_, List.mem_cons_self, rfl, rfl, rfl, rfl, rfl, by first | exact Nat.zero_le _ | exact Nat.le_refl _⟩
        · exact ⟨_, (List.mem_cons_of_mem _ List.mem_cons_self), rfl, rfl, rfl, rfl, rfl, by first | exact Nat.zero_le _ | exact Nat.le_refl _⟩
        · exact ⟨_, (List.mem_cons_of_mem _ (List.mem_cons_of_mem _ (List.mem_cons_of_mem _ (List.mem_cons_of_mem _ List.mem_cons_self)))), rfl, rfl, rfl, rfl, rfl, by first | exact Nat.zero_le _ | exact Nat.le_refl _⟩)
      clear O c1
      have O := O2
      clear O2
      go_loopw [10, 11, 12] (fun u v t wr => ∃ (k : Nat) (L : List (Nat → Int)) (N : List Bool) (RA : Option Addr) (Rc : Nat) (SA : Option Addr) (Sc : Nat), k ≤ s.length ∧ t = .int .i64 k ∧ u = .slice RA L.length Rc ∧ v = .slice SA N.length Sc ∧ C.vs (C.carve (s.take k) P) = L ∧ C.fs (C.carve (s.take k) P) = N ∧ Held w wr [] nilRow [vE 0 RA Rc L, bE 0 SA Sc N, vE w.heap.size VA va Lv, bE w.heap.size WA wa Lf, sE 0 D_ g s]) (fun _ _ t _ => s.length - (intOf t).toNat)
      case atStart => exact ⟨0, l, e, A, c, B, d, Nat.zero_le _, rfl, rfl, rfl, Z1.out, Z2.out, O⟩
      case round =>
        clear O
        obtain ⟨k, L, N, RA, Rc, SA, Sc, hk, rfl, rfl, rfl, hL1, hN1, O⟩ := hrel
        have q0 : (0 : Int) ≤ k := by omega
        by_cases hlt : k < s.length
        · have q1 : (k : Int) < s.length := by omega
          obtain ⟨x, hx⟩ : ∃ x, s[k]? = some x := ⟨_, List.getElem?_eq_getElem hlt⟩
          have d1 := fun w h1 h2 => C1.out k x (List.mem_of_getElem? hx) w RA Rc SA Sc h1 h2
          have d2 := fun w h1 h2 => C2.out k x (List.mem_of_getElem? hx) w RA Rc SA Sc h1 h2
          have hU : C.carve (s.take (k + 1)) P = C.cut x (C.carve (s.take k) P) := C.carve_one hx
          have m9 := HN.out (k + 1)
          rw [hL1, hN1, ← hU] at d1 d2
          obtain ⟨L2, hL2⟩ : ∃ L, C.vs (C.carve (s.take (k + 1)) P) = L := ⟨_, rfl⟩
          obtain ⟨N2, hN2⟩ : ∃ L, C.fs (C.carve (s.take (k + 1)) P) = L := ⟨_, rfl⟩
          have h9 : L2.length ≤ 1000000 := by rw [← hL2, vs_len]; omega
          have hl : L2.length = N2.length := by rw [← hL2, ← hN2, vs_len, fs_len]
          rw [hL2, hN2] at d1 d2
          have cs := fun {lo1 lo2 lo3 lo4 : Nat} {A1 A2 A3 A4 : Option Addr} {c1 c2 c3 c4 : Nat} w h1 h2 h3 h4 => rsame_any L2 L2 N2 N2 (lo1 := lo1) (lo2 := lo2) (lo3 := lo3) (lo4 := lo4) (A1 := A1) (A2 := A2) (A3 := A3) (A4 := A4) (c1 := c1) (c2 := c2) (c3 := c3) (c4 := c4) h9 w h1 h2 h3 h4
          have HX := Lib.hid hx
          have H2 := Lib.hid hL2
          have H3 := Lib.hid hN2
          have HL := Lib.hid hl
          clear hx hU m9 hL2 hN2 hl h9 hL1 hN1
          go_wp2_with (first | ((with_reducible refine at_index_ 57 ?_); refine wpList_at_h rfl Try.underlying24 sizeOf24 _ (O.mem (List.mem_cons_of_mem _ (List.mem_cons_of_mem _ (List.mem_cons_of_mem _ (List.mem_cons_of_mem _ List.mem_cons_self))))) rfl (k) rfl (rfl) (by omega) rfl ?_) | ((with_reducible refine at_load 58 ?_); refine wpList_elem_h rfl _ (O.mem (List.mem_cons_of_mem _ (List.mem_cons_of_mem _ (List.mem_cons_of_mem _ (List.mem_cons_of_mem _ List.mem_cons_self))))) (k * 5) (M.mat 5 (x)) (ss_at HX.out) (by rw [M.mat_len]; decide) rfl Try.underlying35 rfl (s24 _) ?_) | (go_at_call 13; refine (d1 _ (O.arg List.mem_cons_self) (O.arg (List.mem_cons_of_mem _ List.mem_cons_self))).mono ?_; rintro r w3 ⟨VB, vb, WB, wb, rfl, hV, hW, hb⟩; have O2 := O.gains hb (ns := [vE _ VB vb _, bE _ WB wb _]) (two_lies hV hW); clear O hV hW hb; have O := O2; clear O2) | ((with_reducible refine at_index_ 67 ?_); refine wpList_at_h rfl Try.underlying24 sizeOf24 _ (O.mem (List.mem_cons_of_mem _ (List.mem_cons_of_mem _ (List.mem_cons_of_mem _ (List.mem_cons_of_mem _ (List.mem_cons_of_mem _ (List.mem_cons_of_mem _ List.mem_cons_self))))))) rfl (k) rfl (rfl) (by omega) rfl ?_) | ((with_reducible refine at_load 68 ?_); refine wpList_elem_h rfl _ (O.mem (List.mem_cons_of_mem _ (List.mem_cons_of_mem _ (List.mem_cons_of_mem _ (List.mem_cons_of_mem _ (List.mem_cons_of_mem _ (List.mem_cons_of_mem _ List.mem_cons_self))))))) (k * 5) (M.mat 5 (x)) (ss_at HX.out) (by rw [M.mat_len]; decide) rfl Try.underlying35 rfl (s24 _) ?_) | (go_at_call 14; refine (d2 _ (O.arg (List.mem_cons_of_mem _ (List.mem_cons_of_mem _ List.mem_cons_self))) (O.arg (List.mem_cons_of_mem _ (List.mem_cons_of_mem _ (List.mem_cons_of_mem _ List.mem_cons_self))))).mono ?_; rintro r w4 ⟨VC, v_c, WC, wc, rfl, hV, hW, hb⟩; have O2 := O.gains hb (ns := [vE _ VC v_c _, bE _ WC wc _]) (two_lies hV hW); clear O hV hW hb; have O := O2; clear O2) | (go_at_call 12; refine (cs _ (O.arg (List.mem_cons_of_mem _ (List.mem_cons_of_mem _ List.mem_cons_self))) (O.arg List.mem_cons_self) (O.arg (List.mem_cons_of_mem _ (List.mem_cons_of_mem _ (List.mem_cons_of_mem _ List.mem_cons_self)))) (O.arg (List.mem_cons_of_mem _ List.mem_cons_self))).mono ?_; rintro r w5 ⟨⟨zz, rfl, hz⟩, hb⟩; obtain rfl := hz rfl rfl HL.out; replace O := O.call hb; clear hb hz))
          have O2 : Held w _ [] nilRow [vE 0 VB vb L2, bE 0 WB wb N2, vE w.heap.size VA va Lv, bE w.heap.size WA wa Lf, sE 0 D_ g s] := O.sub (fun y hy => by
            simp only [List.mem_cons, List.not_mem_nil, or_false] at hy
            rcases hy with rfl | rfl | rfl | rfl | rfl
            · exact ⟨_, (List.mem_cons_of_mem _ (List.mem_cons_of_mem _ List.mem_cons_self)), rfl, rfl, rfl, rfl, rfl, by first | exact Nat.zero_le _ | exact Nat.le_refl _⟩
            · exact ⟨_, (List.mem_cons_of_mem _ (List.mem_cons_of_mem _ (List.mem_cons_of_mem _ List.mem_cons_self))), rfl, rfl, rfl, rfl, rfl, by first | exact Nat.zero_le _ | exact Nat.le_refl _⟩
            · exact ⟨_, (List.mem_cons_of_mem _ (List.mem_cons_of_mem _ (List.mem_cons_of_mem _ (List.mem_cons_of_mem _ (List.mem_cons_of_mem _ (List.mem_cons_of_mem _ List.mem_cons_self)))))), rfl, rfl, rfl, rfl, rfl, by first | exact Nat.zero_le _ | exact Nat.le_refl _⟩
            · exact ⟨_, (List.mem_cons_of_mem _ (List.mem_cons_of_mem _ (List.mem_cons_of_mem _ (List.mem_cons_of_mem _ (List.mem_cons_of_mem _ (List.mem_cons_of_mem _ (List.mem_cons_of_mem _ List.mem_cons_self))))))), rfl, rfl, rfl, rfl, rfl, by first | exact Nat.zero_le _ | exact Nat.le_refl _⟩
            · exact ⟨_, (List.mem_cons_of_mem _ (List.mem_cons_of_mem _ (List.mem_cons_of_mem _ (List.mem_cons_of_mem _ (List.mem_cons_of_mem _ (List.mem_cons_of_mem _ (List.mem_cons_of_mem _ (List.mem_cons_of_mem _ List.mem_cons_self)))))))), rfl, rfl, rfl, rfl, rfl, by first | exact Nat.zero_le _ | exact Nat.le_refl _⟩)
          clear O
          go_roundw
          case rel => exact ⟨k + 1, L2, N2, VB, vb, WB, wb, by omega, by go_num, rfl, rfl, H2.out, H3.out, O2⟩
          case measure => simp [intOf]; omega
        · have q1 : ¬ (k : Int) < s.length := by omega
          obtain rfl : k = s.length := by omega
          rw [List.take_of_length_le (Nat.le_refl _), HLV.out] at hL1
          rw [List.take_of_length_le (Nat.le_refl _), HLF.out] at hN1
          have h9 := HV9.out
          have hl := HVL.out
          rw [HLV.out] at h9 hl
          rw [HLF.out] at hl
          subst hL1 hN1
          have cs := fun {lo1 lo2 lo3 lo4 : Nat} {A1 A2 A3 A4 : Option Addr} {c1 c2 c3 c4 : Nat} w h1 h2 h3 h4 => rsame_any Lv Lv Lf Lf (lo1 := lo1) (lo2 := lo2) (lo3 := lo3) (lo4 := lo4) (A1 := A1) (A2 := A2) (A3 := A3) (A4 := A4) (c1 := c1) (c2 := c2) (c3 := c3) (c4 := c4) h9 w h1 h2 h3 h4
          have HL := Lib.hid hl
          clear hl h9
          go_wp2_with (first | (go_at_call 9; refine (awake_any _).mono ?_; rintro e w4 ⟨rfl, hb⟩; replace O := O.call hb; clear hb) | (go_at_call 12; refine (cs _ (O.arg (List.mem_cons_of_mem _ (List.mem_cons_of_mem _ List.mem_cons_self))) (O.arg List.mem_cons_self) (O.arg (List.mem_cons_of_mem _ (List.mem_cons_of_mem _ (List.mem_cons_of_mem _ List.mem_cons_self)))) (O.arg (List.mem_cons_of_mem _ List.mem_cons_self))).mono ?_; rintro r w5 ⟨⟨zz, rfl, hz⟩, hb⟩; obtain rfl := hz rfl rfl HL.out; replace O := O.call hb; clear hb hz))
          go_ret
          exact ⟨rfl, O.below⟩
theorem readable : ∀ t ∈ Try.f4.params.toList, Try.prog.readableRec t = true ∧ t < Try.prog.types.size := by
  intro t ht
  rw [Try.params4] at ht
  simp only [List.mem_cons, List.not_mem_nil, or_false] at ht
  repeat (first | (rcases ht with rfl | ht; exact ⟨by kernel_rfl, of_decide_eq_true (by kernel_rfl)⟩) | (subst ht; exact ⟨by kernel_rfl, of_decide_eq_true (by kernel_rfl)⟩))
set_option maxRecDepth 100000 in
theorem lifted (os : Os) (started : os.Started) (H : Type) (enc : TypeId × Value → H) :
    ReturnsInHanded {} Try.checked os 4 .any (Rows.carveCutsSpec.pre6 enc Try.prog Try.f4 Rows.carveCutsRow.domain false) (Rows.carveCutsSpec.post enc Try.prog Try.f4 false true false false) := by
  refine returnsInHanded_of_change (C := Try.checked) own started (by kernel_rfl) Try.func4
    (ChangeSpec.witness6 (enc := enc) (C := Try.checked) false ⟨#[], #[.slice none 0 0, .slice none 0 0, .slice none 0 0], []⟩ 8 (by kernel_rfl) (by kernel_rfl) (by kernel_rfl) (by kernel_rfl)) ?_
  intro W base args ds gs before hval0 hW hcnd _
  have hval : ∀ (j : Nat) t v, Try.f4.params[j]? = some t → args[j]? = some v → Value.okWide Try.prog W .any base t v := hval0
  have hW' := hW
  obtain ⟨p, q, hA0, hV, rfl, hfz, hnd⟩ := hW
  have hA : DataW.TrodAll enc Try.prog W 0 (fun _ => true) true Try.f4.params.toList args.toList ds p := hA0
  rw [Try.params4] at hA hval
  have hlt : ∀ x ∈ p ++ q, x.block < W.heap.size := fun x hx => hW'.lt x hx
  obtain ⟨v0, vs0, d0, ds0, p0, q0, hargs, rfl, rfl, h0, rr0⟩ := trodAll_cons hA
  obtain ⟨v1, vs1, d1, ds1, p1, q1, rfl, rfl, rfl, h1, rr1⟩ := trodAll_cons rr0
  obtain ⟨v2, vs2, d2, ds2, p2, q2, rfl, rfl, rfl, h2, rr2⟩ := trodAll_cons rr1
  obtain ⟨rfl, rfl, rfl⟩ := trodAll_nil rr2
  obtain rfl : args = #[v0, v1, v2] := by cases args; simp_all
  obtain ⟨rfl, rfl⟩ := trodVars_none hV
  obtain ⟨A0, n0, c0, rfl⟩ := okWide_slice Try.underlying22 (hval 0 22 v0 rfl rfl)
  obtain ⟨B0, k0, l0, e0, hF0⟩ := openVerts Try.underlying22 h0 (fun x hx => hlt x (by simp [hx]))
  obtain ⟨rfl, rfl, rfl⟩ := Value.slice.inj e0
  obtain ⟨A1, n1, c1, rfl⟩ := okWide_slice Try.underlying23 (hval 1 23 v1 rfl rfl)
  obtain ⟨B1, k1, l1, e1, hF1⟩ := openBools Try.underlying23 h1 (fun x hx => hlt x (by simp [hx]))
  obtain ⟨rfl, rfl, rfl⟩ := Value.slice.inj e1
  obtain ⟨A2, n2, c2, rfl⟩ := okWide_slice Try.underlying24 (hval 2 24 v2 rfl rfl)
  obtain ⟨B2, k2, l2, e2, hF2⟩ := openSides h2 (fun x hx => hlt x (by simp [hx]))
  obtain ⟨rfl, rfl, rfl⟩ := Value.slice.inj e2
  clear hA0 hval0
  refine (walk W _ _ _ hF0 hF1 hF2).mono fun e W' ⟨he, hg⟩ => ?_
  subst he
  exact ⟨_, rfl, post_true (tb := 4) laid readable (by kernel_rfl) Try.underlying4 rfl (fun l hl => by
    match l, hl with
    | [_, _, _], _ => exact ⟨rfl, rfl, rfl⟩) hW' hg⟩

theorem over : Rows.carveCutsRow.holds Try.pinned (OpenSpec.ofChange Rows.carveCutsSpec) :=
  OpenClaim.holds_of_wide 4 Try.f4 rfl rfl rfl rfl rfl rfl rfl ⟨rfl, rfl, rfl, rfl, rfl⟩ rfl rfl rfl rfl rfl (by kernel_rfl) Try.func4 (by kernel_rfl)
    (of_decide_eq_true (by kernel_rfl)) (by unfold Func.isWrapper; first | (rw [if_pos (by decide +kernel)]; kernel_rfl) | (rw [if_neg (by decide +kernel)]; exact ⟨rfl, rfl⟩))
    (fun os started H enc _ => lifted os started H enc)

theorem proved : Rows.CarveCutsSaid :=
  over
#print axioms proved
end Go.Proofs.Ytbpignicffkaoaa.carveCuts
