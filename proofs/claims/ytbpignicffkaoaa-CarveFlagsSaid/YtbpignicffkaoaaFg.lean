/- Contract: the document's Cut. -/
import Derived.Test.YtbpignicffkaoaaFc
namespace Go.Proofs.Ytbpignicffkaoaa
open Go.ChangeShapes Go.WideShapes Go.ChangeAt Go.RowKit
set_option linter.unusedVariables false
set_option linter.unusedSimpArgs false

/-- A new block of a vertex: laid, and written. -/
def wr8 (a b : Option Value) (q : List Value) : List (Nat × TypeId × List Value) :=
  match a with
  | some (.pointer (some ad)) => [(ad.block, 39, if b.isSome then q else M.mat 8 M.zero)]
  | _ => []
/-- Two new blocks, of which one is written. -/
def Nd (w0 : World) (bs : List (Nat × TypeId × List Value)) (R : RowD) (x : List Value) (es : List Ent) (a b d : Option Value) (w : World) : Prop :=
  (a = none → d = none) ∧ isP a ∧ isP b ∧ Held w0 w (wr8 a d x ++ (wr8 b none [] ++ bs)) R es
section
variable {w0 w : World} {bs : List (Nat × TypeId × List Value)} {R : RowD} {x : List Value} {es : List Ent} {a b d : Option Value}
theorem Nd.start (O : Held w0 w bs R es) : Nd w0 bs R x es none none none w := ⟨fun _ => rfl, isP_none, isP_none, O⟩
theorem Nd.own (h : Nd w0 bs R x es a b d w) : Held w0 w bs R es := Held.drop (Held.drop h.2.2.2)
variable {dst : Option Tmp} {ty : TypeId} {pos : String} {after : Array Edge} {K : Act → World → Prop} {p q : Operand} {ac : Act} {Q : Exit → Act → World → Prop} {gd : Option (Nat × Bool)}
theorem Nd.alloc_a (h : Nd w0 bs R x es none b d w) (hK : ∀ v w1, Nd w0 bs R x es (some v) b d w1 → K (ac.put dst v) w1) : Oper.wp Try.prog ⟨dst, .alloc 39, ty, pos, after, none⟩ ac w K Q := by
  obtain ⟨h1, h2, h3, O⟩ := h
  obtain rfl := h1 rfl
  exact wp_alloc_h O (M.mat 8 M.zero) zero27 fun g w1 O1 => hK _ _ ⟨by simp, isP_some g, h3, O1⟩
theorem Nd.alloc_b (h : Nd w0 bs R x es a none d w) (hK : ∀ v w1, Nd w0 bs R x es a (some v) d w1 → K (ac.put dst v) w1) : Oper.wp Try.prog ⟨dst, .alloc 39, ty, pos, after, none⟩ ac w K Q := by
  obtain ⟨h1, h2, h3, O⟩ := h
  exact wp_alloc_h O (M.mat 8 M.zero) zero27 fun g w1 O1 => hK _ _ ⟨h1, h2, isP_some g, O1.perm List.perm_middle.symm⟩
theorem Nd.put_a (h : Nd w0 bs R x es a b none w) (ha : a.isSome = true) (f : Nat → Int) (hx0 : x = M.mat 8 f) (hx : ac.eval p = a.getD undef) (hy : ac.eval q = arr 8 f) (hK : ∀ v w1, Nd w0 bs R x es a b (some v) w1 → K (ac.put dst v) w1) : Oper.wp Try.prog ⟨dst, .store 39 p q, ty, pos, after, gd⟩ ac w K Q := by
  obtain ⟨h1, h2, h3, O⟩ := h
  obtain ⟨v, rfl⟩ := Option.isSome_iff_exists.1 ha
  obtain ⟨g, rfl⟩ := h2 v rfl
  subst hx0
  exact wp_put_h O 0 (M.mat 8 f) rfl hx hy (s27 _) (M.mat_len2 _ _ _) (M.mat_one _ _) fun w1 O1 => hK _ _ ⟨by simp, h2, h3, O1⟩
theorem Nd.done (h : Nd w0 bs R x es a b d w) (ha : a.isSome = true) (hb : b.isSome = true) (hd : d.isSome = true) :
    ∃ g1 g2, a = some (.pointer (some ⟨g1, 0, none⟩)) ∧ b = some (.pointer (some ⟨g2, 0, none⟩)) ∧ Held w0 w ((g1, 39, x) :: (g2, 39, M.mat 8 M.zero) :: bs) R es := by
  obtain ⟨h1, h2, h3, O⟩ := h
  obtain ⟨v, rfl⟩ := Option.isSome_iff_exists.1 ha
  obtain ⟨v', rfl⟩ := Option.isSome_iff_exists.1 hb
  obtain ⟨v2, rfl⟩ := Option.isSome_iff_exists.1 hd
  obtain ⟨g1, rfl⟩ := h2 v rfl
  obtain ⟨g2, rfl⟩ := h3 v' rfl
  exact ⟨g1, g2, rfl, rfl, O⟩
end
theorem vs_app (l m : List C.PV) : C.vs (l ++ m) = C.vs l ++ C.vs m := by simp [C.vs]
theorem fs_app (l m : List C.PV) : C.fs (l ++ m) = C.fs l ++ C.fs m := by simp [C.fs]
set_option maxRecDepth 100000 in
set_option maxHeartbeats 16000000 in
theorem rcut_any (l : List (Nat → Int)) (e : List Bool) (s : Nat → Int) (hle : l.length = e.length) (h9 : l.length ≤ 200000) (hs : D.right s = true) (hf : ∀ x ∈ l, D.fits x = true) {lo lo2 : Nat} {A B : Option Addr} {c d : Nat} (w : World) (hL : Lies w free (vE lo A c l)) (hM : Lies w free (bE lo2 B d e)) :
    Calls Try.prog 14 #[.slice A l.length c, .slice B e.length d, arr 5 s] w (RetVF w (C.vs (C.cut s (l.zip e))) (C.fs (C.cut s (l.zip e)))) := by
  have O := Held.start w [bE lo2 B d e, vE lo A c l] (by
    intro x hx
    simp only [List.mem_cons, List.not_mem_nil, or_false] at hx
    rcases hx with rfl | rfl
    · exact hM
    · exact hL)
  clear hL hM
  have CD := Lib.hid (fun x (h : x ∈ l) w => rdist_any s x hs (hf x h) w)
  have DR := Lib.hid (fun x (h : x ∈ l) => D.dist_le hs (hf x h))
  have CA := Lib.hid (fun x z (hx : x ∈ l) (hz : z ∈ l) (n d : Int) (h1 : 1 ≤ d) (h2 : 0 ≤ n) (h3 : n ≤ d) (h4 : d < 9223372036854775808) w => by
    have := rat_any x z n d h4 w
    rw [D.at_yes (D.okAt_iff.2 ⟨hf x hx, hf z hz, h1, h2, h3⟩)] at this
    exact this)
  have HLE := Lib.hid hle
  obtain ⟨P, hP⟩ : ∃ P, l.zip e = P := ⟨_, rfl⟩
  have HPL : Hid (P.length = l.length) := Lib.hid (by rw [← hP, List.length_zip]; omega)
  have HPG : Hid (∀ (i : Nat) x y, l[i]? = some x → e[i]? = some y → P[i]? = some (x, y)) := Lib.hid (fun i x y hx hy => by rw [← hP, List.getElem?_zip_eq_some]; exact ⟨hx, hy⟩)
  rw [hP]
  clear hs hf hle hP
  go_enter Try.func14, Try.ntmps14
  go_wp2_with ((with_reducible refine at_box 5 ?_); refine wpList_box_h O (M.mat 5 (s)) rfl ?_; clear O; intro g5 w1 O)
  go_loopw [8, 9, 10] (fun u v t wr => ∃ (k : Nat) (L : List (Nat → Int)) (N : List Bool) (RA : Option Addr) (Rc : Nat) (SA : Option Addr) (Sc : Nat) (X : List (Nat × TypeId × List Value)), k ≤ l.length ∧ t = .int .i64 k ∧ u = .slice RA L.length Rc ∧ v = .slice SA N.length Sc ∧ C.vs (C.some_ s P k) = L ∧ C.fs (C.some_ s P k) = N ∧ Rest X (bR SA Sc N) ∧ Held w wr ([(g5, 35, M.mat 5 s)] ++ X) (vR RA Rc L) [bE lo2 B d e, vE lo A c l]) (fun _ _ t _ => l.length - (intOf t).toNat)
  case atStart => exact ⟨0, [], [], none, 0, none, 0, [], Nat.zero_le _, rfl, rfl, rfl, rfl, rfl, Rest.nil 4 1, O.fresh 39 8⟩
  case round =>
    clear O
    obtain ⟨k, L, N, RA, Rc, SA, Sc, X, hk, rfl, rfl, rfl, hL1, hN1, hX, O⟩ := hrel
    have n0 := C.some_len s P k
    rw [HPL.out] at n0
    have n1 : L.length ≤ 400000 := by rw [← hL1, vs_len]; omega
    have n2 : N.length ≤ 400000 := by rw [← hN1, fs_len]; omega
    have HL1 := Lib.hid hL1
    have HN1 := Lib.hid hN1
    have HX := Lib.hid hX
    clear hL1 hN1 hX n0
    have q0 : (0 : Int) ≤ k := by omega
    by_cases hlt : k < l.length
    · have q1 : (k : Int) < l.length := by omega
      obtain ⟨j, hj⟩ : ∃ j, (k + 1) % l.length = j := ⟨_, rfl⟩
      have q2 : j < l.length := by rw [← hj]; exact Nat.mod_lt _ (by omega)
      have q3 : k < e.length := by have := HLE.out; omega
      have CK := Lib.hid (show IntKind.i64.wrap ((k : Int) + 1) = (k : Int) + 1 from IntWalk.i64_in _ (by omega))
      have HM := Lib.hid (show Int.tmod ((k : Int) + 1) (l.length : Int) = (j : Int) by rw [← hj]; rfl)
      have HNE := Lib.hid (show l ≠ [] by intro h; rw [h] at hlt; simp at hlt)
      obtain ⟨x, hx⟩ : ∃ x, l[k]? = some x := ⟨_, List.getElem?_eq_getElem hlt⟩
      obtain ⟨y, hy⟩ : ∃ y, e[k]? = some y := ⟨_, List.getElem?_eq_getElem q3⟩
      obtain ⟨z, hz⟩ : ∃ z, l[j]? = some z := ⟨_, List.getElem?_eq_getElem q2⟩
      obtain ⟨zf, hzf⟩ : ∃ y, e[j]? = some y := ⟨_, List.getElem?_eq_getElem (by have := HLE.out; omega)⟩
      have HS : Hid (C.some_ s P (k + 1) = C.some_ s P k ++ C.step s ((x, y), (z, zf))) := Lib.hid (by
        rw [C.some_step (HPG.out k x y hx hy) (q := (z, zf)) (by rw [HPL.out, hj]; exact HPG.out j z zf hz hzf)])
      have c1 := CD.out x (List.mem_of_getElem? hx)
      have c2 := CD.out z (List.mem_of_getElem? hz)
      have rp := DR.out x (List.mem_of_getElem? hx)
      have rq := DR.out z (List.mem_of_getElem? hz)
      have ca := CA.out x z (List.mem_of_getElem? hx) (List.mem_of_getElem? hz)
      have cb := CA.out z x (List.mem_of_getElem? hz) (List.mem_of_getElem? hx)
      have HXE := Lib.hid hx
      have HYE := Lib.hid hy
      have HZE := Lib.hid hz
      clear hx hy hz hzf hj
      have SI := C.step_in (s := s) (p := (x, y)) (q := (z, zf))
      have SO := C.step_out (s := s) (p := (x, y)) (q := (z, zf))
      have SC := C.step_comes (s := s) (p := (x, y)) (q := (z, zf))
      have SG := C.step_goes (s := s) (p := (x, y)) (q := (z, zf))
      dsimp only at SI SO SC SG
      obtain ⟨a, ea⟩ : ∃ a, D.dist s x = a := ⟨_, rfl⟩
      obtain ⟨b, eb⟩ : ∃ b, D.dist s z = b := ⟨_, rfl⟩
      rw [ea] at c1 rp SI SO SC SG
      rw [eb] at c2 rq SI SO SC SG
      clear ea eb
      obtain ⟨rp1, rp2⟩ := rp
      obtain ⟨rq1, rq2⟩ := rq
      rcases (by omega : (0 ≤ a ∧ 0 ≤ b) ∨ (a < 0 ∧ b < 0) ∨ (a < 0 ∧ 0 ≤ b) ∨ (0 ≤ a ∧ b < 0)) with ⟨h1, h2⟩ | ⟨h1, h2⟩ | ⟨h1, h2⟩ | ⟨h1, h2⟩
      · have HE := Lib.hid (SI h1 h2)
        clear SI SO SC SG
        have k1 : decide (0 ≤ a) = true := by simp; omega
        have k2 : decide (0 ≤ b) = true := by simp; omega
        have k3 : decide (a < 0) = false := by simp; omega
        have k4 : decide (b < 0) = false := by simp; omega
        clear h1 h2 ca cb
        go_wp2_with fail
        refine region_S (fun st w2 => Nd w ([(g5, 35, M.mat 5 s)] ++ X) (vR RA Rc L) (M.mat 8 x) [bE lo2 B d e, vE lo A c l] (st 12) (st 13) (st 14) w2) [12, 13, 14] 12 15 [some 25, some 26, some 27, some 28, some 29, some 30, some 31, some 32, some 33, some 34, some 35, some 36, some 11, some 12, none] (fun g => [.slice A l.length c, .int .i64 k, .pointer (some ((adr A).add (k * 8))), arr 8 x, .slice A l.length c, .int .i64 k, .int .i64 (k + 1), .slice A l.length c, .int .i64 l.length, .int .i64 j, .pointer (some ((adr A).add (j * 8))), arr 8 z, g 12, g 13, g 14]) 1 (by kernel_rfl) (by kernel_rfl) (by rfl) (by rfl) (fun _ => rfl) (by decide) ?_ (Nd.start O.drew) (fun F hF => ?_)
        · intro i hi
          simp only [List.mem_cons, List.not_mem_nil, or_false] at hi
          rcases hi with rfl | rfl | rfl
          · exact ⟨fun _ => rfl, [0, 1, 2, 3, 4, 5, 6, 7, 8, 9, 10, 11, 13, 14], by kernel_rfl, fun g v => ⟨rfl, rfl, rfl, rfl, rfl, rfl, rfl, rfl, rfl, rfl, rfl, rfl, rfl, rfl, trivial⟩⟩
          · exact ⟨fun _ => rfl, [0, 1, 2, 3, 4, 5, 6, 7, 8, 9, 10, 11, 12, 14], by kernel_rfl, fun g v => ⟨rfl, rfl, rfl, rfl, rfl, rfl, rfl, rfl, rfl, rfl, rfl, rfl, rfl, rfl, trivial⟩⟩
          · exact ⟨fun _ => rfl, [0, 1, 2, 3, 4, 5, 6, 7, 8, 9, 10, 11, 12, 13], by kernel_rfl, fun g v => ⟨rfl, rfl, rfl, rfl, rfl, rfl, rfl, rfl, rfl, rfl, rfl, rfl, rfl, rfl, trivial⟩⟩
        simp only [fillD, Act.put, List.setIfInBounds_toArray, List.set_cons_zero, List.set_cons_succ] at hF
        have hF2 := funext hF
        clear hF
        subst hF2
        refine ⟨⟨doesN_want (by decide) rfl (fun g => rfl) (fun st w' hS hp K hK => ?_), doesN_want (by decide) rfl (fun g => rfl) (fun st w' hS hp K hK => ?_), doesN_want (by decide) rfl (fun g => rfl) (fun st w' hS hp K hK => ?_), doesN_want (by decide) rfl (fun g => rfl) (fun st w' hS hp K hK => ?_), doesN_want (by decide) rfl (fun g => rfl) (fun st w' hS hp K hK => ?_), doesN_want (by decide) rfl (fun g => rfl) (fun st w' hS hp K hK => ?_), doesN_want (by decide) rfl (fun g => rfl) (fun st w' hS hp K hK => ?_), doesN_want (by decide) rfl (fun g => rfl) (fun st w' hS hp K hK => ?_), doesN_want (by decide) rfl (fun g => rfl) (fun st w' hS hp K hK => ?_), doesN_want (by decide) rfl (fun g => rfl) (fun st w' hS hp K hK => ?_), doesN_want (by decide) rfl (fun g => rfl) (fun st w' hS hp K hK => ?_), doesN_want (by decide) rfl (fun g => rfl) (fun st w' hS hp K hK => ?_), doesC_want (by decide) rfl (fun g => rfl) (fun st w' hS hn hp K hK => ?_), doesC_want (by decide) rfl (fun g => rfl) (fun st w' hS hn hp K hK => ?_), doesC_want (by decide) rfl (fun g => rfl) (fun st w' hS hn hp K hK => ?_), trivial⟩, fun st w' hS hall => ?_⟩
        · try dsimp only
          go_simp
          exact hK _ hS
        · try dsimp only
          go_simp
          exact hK _ hS
        · try dsimp only
          have O := hS.own
          exact wp_at_h Try.underlying22 sizeOf27 _ (O.mem (List.mem_cons_of_mem _ List.mem_cons_self)) rfl (k) rfl rfl (by omega) rfl (hK _ hS)
        · try dsimp only
          have O := hS.own
          exact wp_elem_h _ (O.mem (List.mem_cons_of_mem _ List.mem_cons_self)) (k * 8) (M.mat 8 (x)) (vC_at HXE.out) (by rw [M.mat_len]; decide) rfl Try.underlying39 rfl (s27 _) (hK _ hS)
        · try dsimp only
          go_simp
          exact hK _ hS
        · try dsimp only
          go_simp
          exact hK _ hS
        · try dsimp only
          go_simp
          try rw [CK.out]
          exact hK _ hS
        · try dsimp only
          go_simp
          exact hK _ hS
        · try dsimp only
          go_simp
          exact hK _ hS
        · try dsimp only
          go_simp
          simp only [if_neg HNE.out, HM.out]
          exact hK _ hS
        · try dsimp only
          have O := hS.own
          exact wp_at_h Try.underlying22 sizeOf27 _ (O.mem (List.mem_cons_of_mem _ List.mem_cons_self)) rfl (j) rfl rfl (by omega) rfl (hK _ hS)
        · try dsimp only
          have O := hS.own
          exact wp_elem_h _ (O.mem (List.mem_cons_of_mem _ List.mem_cons_self)) (j * 8) (M.mat 8 (z)) (vC_at HZE.out) (by rw [M.mat_len]; decide) rfl Try.underlying39 rfl (s27 _) (hK _ hS)
        · try dsimp only
          rw [hn] at hS
          exact hS.alloc_a hK
        · try dsimp only
          rw [hn] at hS
          exact hS.alloc_b hK
        · try dsimp only
          rw [hn] at hS
          exact hS.put_a (hp 12 (by decide) (by kernel_rfl)) x rfl rfl rfl hK
        try dsimp only
        obtain ⟨g11, g12, e17, e18, O3⟩ := hS.done (hall 12 (by decide)) (hall 13 (by decide)) (hall 14 (by decide))
        clear hS O
        have O := O3
        clear O3
        simp only [seen, e17, e18, Option.getD_some]
        generalize (st 14).getD undef = u14
        clear hall e17 e18
        refine wpAny_want (i := 15) (by kernel_rfl) rfl (by rfl) (fun K hK => ?_)
        refine wp_put_h O 1 (M.mat 8 z) rfl rfl rfl (s27 _) (M.mat_len2 _ _ _) (M.mat_one _ _) fun w9 O9 => hK _ _ ?_
        clear O
        have O := O9
        clear O9
        clear hK K
        try simp only [Act.put, List.setIfInBounds_toArray, List.set_cons_zero, List.set_cons_succ]
        refine wpAny_done (by kernel_rfl) ?_ _
        go_wp2_with fail
        have OO := O
        clear O
        try clear O
        have O := OO
        clear OO
        refine region_T ((fun w2 => Held w w2 ([(g11, 39, M.mat 8 x), (g12, 39, M.mat 8 z), (g5, 35, M.mat 5 s)] ++ X) (vR RA Rc L) [bE lo2 B d e, vE lo A c l])) [0, 1, 2, 3, 4, 5, 6] 12 [some 37, some 38, some 39, some 40, some 41, some 42, some 13] [arr 5 s, arr 8 x, .int .i64 a, arr 5 s, arr 8 z, .int .i64 b, .int .i64 a] 1 (by kernel_rfl) (by rfl) (by kernel_rfl) (by rfl) (by rfl) (O.drew) (fun F hF => ?_)
        simp only [fillD, Act.put, List.setIfInBounds_toArray, List.set_cons_zero, List.set_cons_succ] at hF
        subst hF
        refine ⟨⟨does_want rfl (by rfl) (fun w' O K hK => ?_), does_want rfl (by rfl) (fun w' O K hK => ?_), does_want rfl (by rfl) (fun w' O K hK => ?_), does_want rfl (by rfl) (fun w' O K hK => ?_), does_want rfl (by rfl) (fun w' O K hK => ?_), does_want rfl (by rfl) (fun w' O K hK => ?_), does_want rfl (by rfl) (fun w' O K hK => ?_), trivial⟩, fun w' O => ?_⟩
        · exact wp_row_h O 2 rfl rfl Try.underlying35 rfl (s24 _) (hK _ O)
        · exact wp_row_h O 0 rfl rfl Try.underlying39 rfl (s27 _) (hK _ O)
        · go_simp
          go_at_call 15
          refine (c1 _).mono ?_
          rintro e w2 ⟨rfl, hb⟩
          exact hK _ (O.call hb)
        · exact wp_row_h O 2 rfl rfl Try.underlying35 rfl (s24 _) (hK _ O)
        · exact wp_row_h O 1 rfl rfl Try.underlying39 rfl (s27 _) (hK _ O)
        · go_simp
          go_at_call 15
          refine (c2 _).mono ?_
          rintro e w2 ⟨rfl, hb⟩
          exact hK _ (O.call hb)
        · go_simp
          exact hK _ O
        refine wpAny_one (i := 7) (by kernel_rfl) rfl (fun K hK => ?_)
        go_simp
        refine hK _ _ ?_
        clear hK K
        try simp only [Act.put, List.setIfInBounds_toArray, List.set_cons_zero, List.set_cons_succ]
        refine wpAny_done (by kernel_rfl) ?_ _
        go_wp2_with (first | ((with_reducible refine at_load 46 ?_); refine wpList_rowg_h rfl O 0 rfl rfl Try.underlying39 rfl (s27 _) ?_) | ((with_reducible refine at_lit 47 ?_); refine wpList_lit_h rfl O 8 (.agg (M.mat 8 M.zero).toArray) info27 Try.underlying22 ([(0, .agg (M.mat 8 (x)).toArray)]) (vC [x]) rfl (vC_len _) (by decide) (by decide) (by kernel_rfl) ?_; clear O; intro gl u5 O) | ((with_reducible refine at_app 48 ?_); refine wpList_app_big rfl O (.agg (M.mat 8 M.zero).toArray) 64 info27b rfl (Nat.succ_pos _) Try.underlying22 rfl _ (O.mem List.mem_cons_self) rfl rfl (vC_one _) (by dsimp only [vR]; omega) (by decide) ?_; clear O; intro va u6 O; obtain ⟨TA, Tc, e1, O2⟩ := vR_of (O.pick (es' := [bE lo2 B d e, vE lo A c l]) (fun y hy => List.mem_cons_of_mem _ hy)); subst e1; clear O; obtain ⟨Y, hY, O⟩ := Held.swapB (bs := [(g11, 39, M.mat 8 x), (g12, 39, M.mat 8 z), (g5, 35, M.mat 5 s)]) (X := X) O2 HX.out; clear O2; have HY := Lib.hid hY; clear hY) | ((with_reducible refine at_index_ 52 ?_); refine wpList_at_h rfl Try.underlying23 sizeOf4 _ (O.mem List.mem_cons_self) rfl (k) rfl rfl (by omega) rfl ?_) | ((with_reducible refine at_load 53 ?_); refine wpList_ecell_h rfl _ (O.mem List.mem_cons_self) (k * 1) (by rw [Nat.mul_one]; exact bC_at HYE.out) rfl agg4 rfl ?_) | ((with_reducible refine at_lit 54 ?_); refine wpList_lit_h rfl O 1 (.bool false) info4 Try.underlying23 ([(0, .bool y)]) (bC [y]) rfl (bC_len _) (by decide) (by decide) (by kernel_rfl) ?_; clear O; intro gl u5 O) | ((with_reducible refine at_app 55 ?_); refine wpList_app_big rfl O (.bool false) 1 info4b rfl (Nat.succ_pos _) Try.underlying23 rfl _ (O.mem List.mem_cons_self) rfl rfl (bC_one _) (by dsimp only [bR]; omega) (by decide) ?_; clear O; intro va u8 O; obtain ⟨UA, Uc, e1, O2⟩ := bR_of (O.pick (es' := [bE lo2 B d e, vE lo A c l]) (fun y hy => List.mem_cons_of_mem _ hy)); subst e1; clear O; obtain ⟨Z, hY, O⟩ := Held.swapB (bs := [(g11, 39, M.mat 8 x), (g12, 39, M.mat 8 z), (g5, 35, M.mat 5 s)]) (X := Y) O2 HY.out; clear O2; have HZ := Lib.hid hY; clear hY))
        have O2 : Held w _ ([(g5, 35, M.mat 5 s)] ++ Z) (vR TA Tc (L ++ [x])) [bE lo2 B d e, vE lo A c l] := Held.drop (l := [(g11, 39, M.mat 8 x), (g12, 39, M.mat 8 z)]) O
        clear O
        have O := O2
        clear O2
        go_roundw
        case rel => exact ⟨k + 1, L ++ [x], N ++ [y], TA, Tc, UA, Uc, Z, by omega, by go_num, by first | rfl | simp, by first | rfl | simp, by rw [HS.out, HE.out, vs_app, HL1.out]; simp [C.vs], by rw [HS.out, HE.out, fs_app, HN1.out]; simp [C.fs], HZ.out, O⟩
        case measure => simp [intOf]; omega
      · have HE := Lib.hid (SO h1 h2)
        clear SI SO SC SG
        have k1 : decide (0 ≤ a) = false := by simp; omega
        have k2 : decide (0 ≤ b) = false := by simp; omega
        have k3 : decide (a < 0) = true := by simp; omega
        have k4 : decide (b < 0) = true := by simp; omega
        clear h1 h2 ca cb
        go_wp2_with fail
        refine region_S (fun st w2 => Nd w ([(g5, 35, M.mat 5 s)] ++ X) (vR RA Rc L) (M.mat 8 x) [bE lo2 B d e, vE lo A c l] (st 12) (st 13) (st 14) w2) [12, 13, 14] 12 15 [some 25, some 26, some 27, some 28, some 29, some 30, some 31, some 32, some 33, some 34, some 35, some 36, some 11, some 12, none] (fun g => [.slice A l.length c, .int .i64 k, .pointer (some ((adr A).add (k * 8))), arr 8 x, .slice A l.length c, .int .i64 k, .int .i64 (k + 1), .slice A l.length c, .int .i64 l.length, .int .i64 j, .pointer (some ((adr A).add (j * 8))), arr 8 z, g 12, g 13, g 14]) 1 (by kernel_rfl) (by kernel_rfl) (by rfl) (by rfl) (fun _ => rfl) (by decide) ?_ (Nd.start O.drew) (fun F hF => ?_)
        · intro i hi
          simp only [List.mem_cons, List.not_mem_nil, or_false] at hi
          rcases hi with rfl | rfl | rfl
          · exact ⟨fun _ => rfl, [0, 1, 2, 3, 4, 5, 6, 7, 8, 9, 10, 11, 13, 14], by kernel_rfl, fun g v => ⟨rfl, rfl, rfl, rfl, rfl, rfl, rfl, rfl, rfl, rfl, rfl, rfl, rfl, rfl, trivial⟩⟩
          · exact ⟨fun _ => rfl, [0, 1, 2, 3, 4, 5, 6, 7, 8, 9, 10, 11, 12, 14], by kernel_rfl, fun g v => ⟨rfl, rfl, rfl, rfl, rfl, rfl, rfl, rfl, rfl, rfl, rfl, rfl, rfl, rfl, trivial⟩⟩
          · exact ⟨fun _ => rfl, [0, 1, 2, 3, 4, 5, 6, 7, 8, 9, 10, 11, 12, 13], by kernel_rfl, fun g v => ⟨rfl, rfl, rfl, rfl, rfl, rfl, rfl, rfl, rfl, rfl, rfl, rfl, rfl, rfl, trivial⟩⟩
        simp only [fillD, Act.put, List.setIfInBounds_toArray, List.set_cons_zero, List.set_cons_succ] at hF
        have hF2 := funext hF
        clear hF
        subst hF2
        refine ⟨⟨doesN_want (by decide) rfl (fun g => rfl) (fun st w' hS hp K hK => ?_), doesN_want (by decide) rfl (fun g => rfl) (fun st w' hS hp K hK => ?_), doesN_want (by decide) rfl (fun g => rfl) (fun st w' hS hp K hK => ?_), doesN_want (by decide) rfl (fun g => rfl) (fun st w' hS hp K hK => ?_), doesN_want (by decide) rfl (fun g => rfl) (fun st w' hS hp K hK => ?_), doesN_want (by decide) rfl (fun g => rfl) (fun st w' hS hp K hK => ?_), doesN_want (by decide) rfl (fun g => rfl) (fun st w' hS hp K hK => ?_), doesN_want (by decide) rfl (fun g => rfl) (fun st w' hS hp K hK => ?_), doesN_want (by decide) rfl (fun g => rfl) (fun st w' hS hp K hK => ?_), doesN_want (by decide) rfl (fun g => rfl) (fun st w' hS hp K hK => ?_), doesN_want (by decide) rfl (fun g => rfl) (fun st w' hS hp K hK => ?_), doesN_want (by decide) rfl (fun g => rfl) (fun st w' hS hp K hK => ?_), doesC_want (by decide) rfl (fun g => rfl) (fun st w' hS hn hp K hK => ?_), doesC_want (by decide) rfl (fun g => rfl) (fun st w' hS hn hp K hK => ?_), doesC_want (by decide) rfl (fun g => rfl) (fun st w' hS hn hp K hK => ?_), trivial⟩, fun st w' hS hall => ?_⟩
        · try dsimp only
          go_simp
          exact hK _ hS
        · try dsimp only
          go_simp
          exact hK _ hS
        · try dsimp only
          have O := hS.own
          exact wp_at_h Try.underlying22 sizeOf27 _ (O.mem (List.mem_cons_of_mem _ List.mem_cons_self)) rfl (k) rfl rfl (by omega) rfl (hK _ hS)
        · try dsimp only
          have O := hS.own
          exact wp_elem_h _ (O.mem (List.mem_cons_of_mem _ List.mem_cons_self)) (k * 8) (M.mat 8 (x)) (vC_at HXE.out) (by rw [M.mat_len]; decide) rfl Try.underlying39 rfl (s27 _) (hK _ hS)
        · try dsimp only
          go_simp
          exact hK _ hS
        · try dsimp only
          go_simp
          exact hK _ hS
        · try dsimp only
          go_simp
          try rw [CK.out]
          exact hK _ hS
        · try dsimp only
          go_simp
          exact hK _ hS
        · try dsimp only
          go_simp
          exact hK _ hS
        · try dsimp only
          go_simp
          simp only [if_neg HNE.out, HM.out]
          exact hK _ hS
        · try dsimp only
          have O := hS.own
          exact wp_at_h Try.underlying22 sizeOf27 _ (O.mem (List.mem_cons_of_mem _ List.mem_cons_self)) rfl (j) rfl rfl (by omega) rfl (hK _ hS)
        · try dsimp only
          have O := hS.own
          exact wp_elem_h _ (O.mem (List.mem_cons_of_mem _ List.mem_cons_self)) (j * 8) (M.mat 8 (z)) (vC_at HZE.out) (by rw [M.mat_len]; decide) rfl Try.underlying39 rfl (s27 _) (hK _ hS)
        · try dsimp only
          rw [hn] at hS
          exact hS.alloc_a hK
        · try dsimp only
          rw [hn] at hS
          exact hS.alloc_b hK
        · try dsimp only
          rw [hn] at hS
          exact hS.put_a (hp 12 (by decide) (by kernel_rfl)) x rfl rfl rfl hK
        try dsimp only
        obtain ⟨g11, g12, e17, e18, O3⟩ := hS.done (hall 12 (by decide)) (hall 13 (by decide)) (hall 14 (by decide))
        clear hS O
        have O := O3
        clear O3
        simp only [seen, e17, e18, Option.getD_some]
        generalize (st 14).getD undef = u14
        clear hall e17 e18
        refine wpAny_want (i := 15) (by kernel_rfl) rfl (by rfl) (fun K hK => ?_)
        refine wp_put_h O 1 (M.mat 8 z) rfl rfl rfl (s27 _) (M.mat_len2 _ _ _) (M.mat_one _ _) fun w9 O9 => hK _ _ ?_
        clear O
        have O := O9
        clear O9
        clear hK K
        try simp only [Act.put, List.setIfInBounds_toArray, List.set_cons_zero, List.set_cons_succ]
        refine wpAny_done (by kernel_rfl) ?_ _
        go_wp2_with fail
        have OO := O
        clear O
        try clear O
        have O := OO
        clear OO
        refine region_T ((fun w2 => Held w w2 ([(g11, 39, M.mat 8 x), (g12, 39, M.mat 8 z), (g5, 35, M.mat 5 s)] ++ X) (vR RA Rc L) [bE lo2 B d e, vE lo A c l])) [0, 1, 2, 3, 4, 5, 6] 12 [some 37, some 38, some 39, some 40, some 41, some 42, some 13] [arr 5 s, arr 8 x, .int .i64 a, arr 5 s, arr 8 z, .int .i64 b, .int .i64 a] 1 (by kernel_rfl) (by rfl) (by kernel_rfl) (by rfl) (by rfl) (O.drew) (fun F hF => ?_)
        simp only [fillD, Act.put, List.setIfInBounds_toArray, List.set_cons_zero, List.set_cons_succ] at hF
        subst hF
        refine ⟨⟨does_want rfl (by rfl) (fun w' O K hK => ?_), does_want rfl (by rfl) (fun w' O K hK => ?_), does_want rfl (by rfl) (fun w' O K hK => ?_), does_want rfl (by rfl) (fun w' O K hK => ?_), does_want rfl (by rfl) (fun w' O K hK => ?_), does_want rfl (by rfl) (fun w' O K hK => ?_), does_want rfl (by rfl) (fun w' O K hK => ?_), trivial⟩, fun w' O => ?_⟩
        · exact wp_row_h O 2 rfl rfl Try.underlying35 rfl (s24 _) (hK _ O)
        · exact wp_row_h O 0 rfl rfl Try.underlying39 rfl (s27 _) (hK _ O)
        · go_simp
          go_at_call 15
          refine (c1 _).mono ?_
          rintro e w2 ⟨rfl, hb⟩
          exact hK _ (O.call hb)
        · exact wp_row_h O 2 rfl rfl Try.underlying35 rfl (s24 _) (hK _ O)
        · exact wp_row_h O 1 rfl rfl Try.underlying39 rfl (s27 _) (hK _ O)
        · go_simp
          go_at_call 15
          refine (c2 _).mono ?_
          rintro e w2 ⟨rfl, hb⟩
          exact hK _ (O.call hb)
        · go_simp
          exact hK _ O
        refine wpAny_one (i := 7) (by kernel_rfl) rfl (fun K hK => ?_)
        go_simp
        refine hK _ _ ?_
        clear hK K
        try simp only [Act.put, List.setIfInBounds_toArray, List.set_cons_zero, List.set_cons_succ]
        refine wpAny_done (by kernel_rfl) ?_ _
        go_wp2_with fail
        have O2 : Held w _ ([(g5, 35, M.mat 5 s)] ++ X) (vR RA Rc (L)) [bE lo2 B d e, vE lo A c l] := Held.drop (l := [(g11, 39, M.mat 8 x), (g12, 39, M.mat 8 z)]) O
        clear O
        have O := O2
        clear O2
        go_roundw
        case rel => exact ⟨k + 1, L, N, RA, Rc, SA, Sc, X, by omega, by go_num, by first | rfl | simp, by first | rfl | simp, by rw [HS.out, HE.out, vs_app, HL1.out]; simp [C.vs], by rw [HS.out, HE.out, fs_app, HN1.out]; simp [C.fs], HX.out, O⟩
        case measure => simp [intOf]; omega
      · have HE := Lib.hid (SC h1 h2)
        clear SI SO SC SG
        have k1 : decide (0 ≤ a) = false := by simp; omega
        have k2 : decide (0 ≤ b) = true := by simp; omega
        have k3 : decide (a < 0) = true := by simp; omega
        have k4 : decide (b < 0) = false := by simp; omega
        replace cb := cb b (b - a) (by omega) h2 (by omega) (by omega)
        clear h1 h2 ca
        unfold RetAt at cb
        dsimp only at cb
        generalize D.way z x b (b - a) = f1 at *
        go_wp2_with fail
        refine region_S (fun st w2 => Nd w ([(g5, 35, M.mat 5 s)] ++ X) (vR RA Rc L) (M.mat 8 x) [bE lo2 B d e, vE lo A c l] (st 12) (st 13) (st 14) w2) [12, 13, 14] 12 15 [some 25, some 26, some 27, some 28, some 29, some 30, some 31, some 32, some 33, some 34, some 35, some 36, some 11, some 12, none] (fun g => [.slice A l.length c, .int .i64 k, .pointer (some ((adr A).add (k * 8))), arr 8 x, .slice A l.length c, .int .i64 k, .int .i64 (k + 1), .slice A l.length c, .int .i64 l.length, .int .i64 j, .pointer (some ((adr A).add (j * 8))), arr 8 z, g 12, g 13, g 14]) 1 (by kernel_rfl) (by kernel_rfl) (by rfl) (by rfl) (fun _ => rfl) (by decide) ?_ (Nd.start O.drew) (fun F hF => ?_)
        · intro i hi
          simp only [List.mem_cons, List.not_mem_nil, or_false] at hi
          rcases hi with rfl | rfl | rfl
          · exact ⟨fun _ => rfl, [0, 1, 2, 3, 4, 5, 6, 7, 8, 9, 10, 11, 13, 14], by kernel_rfl, fun g v => ⟨rfl, rfl, rfl, rfl, rfl, rfl, rfl, rfl, rfl, rfl, rfl, rfl, rfl, rfl, trivial⟩⟩
          · exact ⟨fun _ => rfl, [0, 1, 2, 3, 4, 5, 6, 7, 8, 9, 10, 11, 12, 14], by kernel_rfl, fun g v => ⟨rfl, rfl, rfl, rfl, rfl, rfl, rfl, rfl, rfl, rfl, rfl, rfl, rfl, rfl, trivial⟩⟩
          · exact ⟨fun _ => rfl, [0, 1, 2, 3, 4, 5, 6, 7, 8, 9, 10, 11, 12, 13], by kernel_rfl, fun g v => ⟨rfl, rfl, rfl, rfl, rfl, rfl, rfl, rfl, rfl, rfl, rfl, rfl, rfl, rfl, trivial⟩⟩
        simp only [fillD, Act.put, List.setIfInBounds_toArray, List.set_cons_zero, List.set_cons_succ] at hF
        have hF2 := funext hF
        clear hF
        subst hF2
        refine ⟨⟨doesN_want (by decide) rfl (fun g => rfl) (fun st w' hS hp K hK => ?_), doesN_want (by decide) rfl (fun g => rfl) (fun st w' hS hp K hK => ?_), doesN_want (by decide) rfl (fun g => rfl) (fun st w' hS hp K hK => ?_), doesN_want (by decide) rfl (fun g => rfl) (fun st w' hS hp K hK => ?_), doesN_want (by decide) rfl (fun g => rfl) (fun st w' hS hp K hK => ?_), doesN_want (by decide) rfl (fun g => rfl) (fun st w' hS hp K hK => ?_), doesN_want (by decide) rfl (fun g => rfl) (fun st w' hS hp K hK => ?_), doesN_want (by decide) rfl (fun g => rfl) (fun st w' hS hp K hK => ?_), doesN_want (by decide) rfl (fun g => rfl) (fun st w' hS hp K hK => ?_), doesN_want (by decide) rfl (fun g => rfl) (fun st w' hS hp K hK => ?_), doesN_want (by decide) rfl (fun g => rfl) (fun st w' hS hp K hK => ?_), doesN_want (by decide) rfl (fun g => rfl) (fun st w' hS hp K hK => ?_), doesC_want (by decide) rfl (fun g => rfl) (fun st w' hS hn hp K hK => ?_), doesC_want (by decide) rfl (fun g => rfl) (fun st w' hS hn hp K hK => ?_), doesC_want (by decide) rfl (fun g => rfl) (fun st w' hS hn hp K hK => ?_), trivial⟩, fun st w' hS hall => ?_⟩
        · try dsimp only
          go_simp
          exact hK _ hS
        · try dsimp only
          go_simp
          exact hK _ hS
        · try dsimp only
          have O := hS.own
          exact wp_at_h Try.underlying22 sizeOf27 _ (O.mem (List.mem_cons_of_mem _ List.mem_cons_self)) rfl (k) rfl rfl (by omega) rfl (hK _ hS)
        · try dsimp only
          have O := hS.own
          exact wp_elem_h _ (O.mem (List.mem_cons_of_mem _ List.mem_cons_self)) (k * 8) (M.mat 8 (x)) (vC_at HXE.out) (by rw [M.mat_len]; decide) rfl Try.underlying39 rfl (s27 _) (hK _ hS)
        · try dsimp only
          go_simp
          exact hK _ hS
        · try dsimp only
          go_simp
          exact hK _ hS
        · try dsimp only
          go_simp
          try rw [CK.out]
          exact hK _ hS
        · try dsimp only
          go_simp
          exact hK _ hS
        · try dsimp only
          go_simp
          exact hK _ hS
        · try dsimp only
          go_simp
          simp only [if_neg HNE.out, HM.out]
          exact hK _ hS
        · try dsimp only
          have O := hS.own
          exact wp_at_h Try.underlying22 sizeOf27 _ (O.mem (List.mem_cons_of_mem _ List.mem_cons_self)) rfl (j) rfl rfl (by omega) rfl (hK _ hS)
        · try dsimp only
          have O := hS.own
          exact wp_elem_h _ (O.mem (List.mem_cons_of_mem _ List.mem_cons_self)) (j * 8) (M.mat 8 (z)) (vC_at HZE.out) (by rw [M.mat_len]; decide) rfl Try.underlying39 rfl (s27 _) (hK _ hS)
        · try dsimp only
          rw [hn] at hS
          exact hS.alloc_a hK
        · try dsimp only
          rw [hn] at hS
          exact hS.alloc_b hK
        · try dsimp only
          rw [hn] at hS
          exact hS.put_a (hp 12 (by decide) (by kernel_rfl)) x rfl rfl rfl hK
        try dsimp only
        obtain ⟨g11, g12, e17, e18, O3⟩ := hS.done (hall 12 (by decide)) (hall 13 (by decide)) (hall 14 (by decide))
        clear hS O
        have O := O3
        clear O3
        simp only [seen, e17, e18, Option.getD_some]
        generalize (st 14).getD undef = u14
        clear hall e17 e18
        refine wpAny_want (i := 15) (by kernel_rfl) rfl (by rfl) (fun K hK => ?_)
        refine wp_put_h O 1 (M.mat 8 z) rfl rfl rfl (s27 _) (M.mat_len2 _ _ _) (M.mat_one _ _) fun w9 O9 => hK _ _ ?_
        clear O
        have O := O9
        clear O9
        clear hK K
        try simp only [Act.put, List.setIfInBounds_toArray, List.set_cons_zero, List.set_cons_succ]
        refine wpAny_done (by kernel_rfl) ?_ _
        go_wp2_with fail
        have OO := O
        clear O
        try clear O
        have O := OO
        clear OO
        refine region_T ((fun w2 => Held w w2 ([(g11, 39, M.mat 8 x), (g12, 39, M.mat 8 z), (g5, 35, M.mat 5 s)] ++ X) (vR RA Rc L) [bE lo2 B d e, vE lo A c l])) [0, 1, 2, 3, 4, 5, 6] 12 [some 37, some 38, some 39, some 40, some 41, some 42, some 13] [arr 5 s, arr 8 x, .int .i64 a, arr 5 s, arr 8 z, .int .i64 b, .int .i64 a] 1 (by kernel_rfl) (by rfl) (by kernel_rfl) (by rfl) (by rfl) (O.drew) (fun F hF => ?_)
        simp only [fillD, Act.put, List.setIfInBounds_toArray, List.set_cons_zero, List.set_cons_succ] at hF
        subst hF
        refine ⟨⟨does_want rfl (by rfl) (fun w' O K hK => ?_), does_want rfl (by rfl) (fun w' O K hK => ?_), does_want rfl (by rfl) (fun w' O K hK => ?_), does_want rfl (by rfl) (fun w' O K hK => ?_), does_want rfl (by rfl) (fun w' O K hK => ?_), does_want rfl (by rfl) (fun w' O K hK => ?_), does_want rfl (by rfl) (fun w' O K hK => ?_), trivial⟩, fun w' O => ?_⟩
        · exact wp_row_h O 2 rfl rfl Try.underlying35 rfl (s24 _) (hK _ O)
        · exact wp_row_h O 0 rfl rfl Try.underlying39 rfl (s27 _) (hK _ O)
        · go_simp
          go_at_call 15
          refine (c1 _).mono ?_
          rintro e w2 ⟨rfl, hb⟩
          exact hK _ (O.call hb)
        · exact wp_row_h O 2 rfl rfl Try.underlying35 rfl (s24 _) (hK _ O)
        · exact wp_row_h O 1 rfl rfl Try.underlying39 rfl (s27 _) (hK _ O)
        · go_simp
          go_at_call 15
          refine (c2 _).mono ?_
          rintro e w2 ⟨rfl, hb⟩
          exact hK _ (O.call hb)
        · go_simp
          exact hK _ O
        refine wpAny_one (i := 7) (by kernel_rfl) rfl (fun K hK => ?_)
        go_simp
        refine hK _ _ ?_
        clear hK K
        try simp only [Act.put, List.setIfInBounds_toArray, List.set_cons_zero, List.set_cons_succ]
        refine wpAny_done (by kernel_rfl) ?_ _
        go_wp2_with (first | ((with_reducible refine at_load 86 ?_); refine wpList_rowg_h rfl O 1 rfl rfl Try.underlying39 rfl (s27 _) ?_) | ((with_reducible refine at_load 87 ?_); refine wpList_rowg_h rfl O 0 rfl rfl Try.underlying39 rfl (s27 _) ?_) | (go_at_call 23; refine (cb _).mono ?_; rintro e u1 ⟨rfl, hb⟩; replace O := O.call hb; clear hb) | ((with_reducible refine at_alloc 17 ?_); refine wpList_alloc_h O (M.mat 8 M.zero) zero27 ?_; clear O; intro g17 u2 O) | ((with_reducible refine at_store 17 ?_); refine wpList_put_h O 0 (M.mat 8 (f1)) rfl rfl rfl (s27 _) (M.mat_len2 _ _ _) (M.mat_one _ _) ?_; clear O; intro u3 O) | ((with_reducible refine at_load 96 ?_); refine wpList_rowg_h rfl O 0 rfl rfl Try.underlying39 rfl (s27 _) ?_) | ((with_reducible refine at_lit 97 ?_); refine wpList_lit_h rfl O 8 (.agg (M.mat 8 M.zero).toArray) info27 Try.underlying22 ([(0, .agg (M.mat 8 (f1)).toArray)]) (vC [f1]) rfl (vC_len _) (by decide) (by decide) (by kernel_rfl) ?_; clear O; intro gl u5 O) | ((with_reducible refine at_app 98 ?_); refine wpList_app_big rfl O (.agg (M.mat 8 M.zero).toArray) 64 info27b rfl (Nat.succ_pos _) Try.underlying22 rfl _ (O.mem List.mem_cons_self) rfl rfl (vC_one _) (by dsimp only [vR]; omega) (by decide) ?_; clear O; intro va u6 O; obtain ⟨TA, Tc, e1, O2⟩ := vR_of (O.pick (es' := [bE lo2 B d e, vE lo A c l]) (fun y hy => List.mem_cons_of_mem _ hy)); subst e1; clear O; obtain ⟨Y, hY, O⟩ := Held.swapB (bs := [(g17, 39, M.mat 8 f1), (g11, 39, M.mat 8 x), (g12, 39, M.mat 8 z), (g5, 35, M.mat 5 s)]) (X := X) O2 HX.out; clear O2; have HY := Lib.hid hY; clear hY) | ((with_reducible refine at_index_ 102 ?_); refine wpList_at_h rfl Try.underlying23 sizeOf4 _ (O.mem List.mem_cons_self) rfl (k) rfl rfl (by omega) rfl ?_) | ((with_reducible refine at_load 103 ?_); refine wpList_ecell_h rfl _ (O.mem List.mem_cons_self) (k * 1) (by rw [Nat.mul_one]; exact bC_at HYE.out) rfl agg4 rfl ?_) | ((with_reducible refine at_lit 104 ?_); refine wpList_lit_h rfl O 1 (.bool false) info4 Try.underlying23 ([(0, .bool y)]) (bC [y]) rfl (bC_len _) (by decide) (by decide) (by kernel_rfl) ?_; clear O; intro gl u5 O) | ((with_reducible refine at_app 105 ?_); refine wpList_app_big rfl O (.bool false) 1 info4b rfl (Nat.succ_pos _) Try.underlying23 rfl _ (O.mem List.mem_cons_self) rfl rfl (bC_one _) (by dsimp only [bR]; omega) (by decide) ?_; clear O; intro va u8 O; obtain ⟨UA, Uc, e1, O2⟩ := bR_of (O.pick (es' := [bE lo2 B d e, vE lo A c l]) (fun y hy => List.mem_cons_of_mem _ hy)); subst e1; clear O; obtain ⟨Z, hY, O⟩ := Held.swapB (bs := [(g17, 39, M.mat 8 f1), (g11, 39, M.mat 8 x), (g12, 39, M.mat 8 z), (g5, 35, M.mat 5 s)]) (X := Y) O2 HY.out; clear O2; have HZ := Lib.hid hY; clear hY))
        have O2 : Held w _ ([(g5, 35, M.mat 5 s)] ++ Z) (vR TA Tc (L ++ [f1])) [bE lo2 B d e, vE lo A c l] := Held.drop (l := [(g17, 39, M.mat 8 f1), (g11, 39, M.mat 8 x), (g12, 39, M.mat 8 z)]) O
        clear O
        have O := O2
        clear O2
        go_roundw
        case rel => exact ⟨k + 1, L ++ [f1], N ++ [y], TA, Tc, UA, Uc, Z, by omega, by go_num, by first | rfl | simp, by first | rfl | simp, by rw [HS.out, HE.out, vs_app, HL1.out]; simp [C.vs], by rw [HS.out, HE.out, fs_app, HN1.out]; simp [C.fs], HZ.out, O⟩
        case measure => simp [intOf]; omega
      · have HE := Lib.hid (SG h1 h2)
        clear SI SO SC SG
        have k1 : decide (0 ≤ a) = true := by simp; omega
        have k2 : decide (0 ≤ b) = false := by simp; omega
        have k3 : decide (a < 0) = false := by simp; omega
        have k4 : decide (b < 0) = true := by simp; omega
        replace ca := ca a (a - b) (by omega) h1 (by omega) (by omega)
        clear h1 h2 cb
        unfold RetAt at ca
        dsimp only at ca
        generalize D.way x z a (a - b) = f1 at *
        go_wp2_with fail
        refine region_S (fun st w2 => Nd w ([(g5, 35, M.mat 5 s)] ++ X) (vR RA Rc L) (M.mat 8 x) [bE lo2 B d e, vE lo A c l] (st 12) (st 13) (st 14) w2) [12, 13, 14] 12 15 [some 25, some 26, some 27, some 28, some 29, some 30, some 31, some 32, some 33, some 34, some 35, some 36, some 11, some 12, none] (fun g => [.slice A l.length c, .int .i64 k, .pointer (some ((adr A).add (k * 8))), arr 8 x, .slice A l.length c, .int .i64 k, .int .i64 (k + 1), .slice A l.length c, .int .i64 l.length, .int .i64 j, .pointer (some ((adr A).add (j * 8))), arr 8 z, g 12, g 13, g 14]) 1 (by kernel_rfl) (by kernel_rfl) (by rfl) (by rfl) (fun _ => rfl) (by decide) ?_ (Nd.start O.drew) (fun F hF => ?_)
        · intro i hi
          simp only [List.mem_cons, List.not_mem_nil, or_false] at hi
          rcases hi with rfl | rfl | rfl
          · exact ⟨fun _ => rfl, [0, 1, 2, 3, 4, 5, 6, 7, 8, 9, 10, 11, 13, 14], by kernel_rfl, fun g v => ⟨rfl, rfl, rfl, rfl, rfl, rfl, rfl, rfl, rfl, rfl, rfl, rfl, rfl, rfl, trivial⟩⟩
          · exact ⟨fun _ => rfl, [0, 1, 2, 3, 4, 5, 6, 7, 8, 9, 10, 11, 12, 14], by kernel_rfl, fun g v => ⟨rfl, rfl, rfl, rfl, rfl, rfl, rfl, rfl, rfl, rfl, rfl, rfl, rfl, rfl, trivial⟩⟩
          · exact ⟨fun _ => rfl, [0, 1, 2, 3, 4, 5, 6, 7, 8, 9, 10, 11, 12, 13], by kernel_rfl, fun g v => ⟨rfl, rfl, rfl, rfl, rfl, rfl, rfl, rfl, rfl, rfl, rfl, rfl, rfl, rfl, trivial⟩⟩
        simp only [fillD, Act.put, List.setIfInBounds_toArray, List.set_cons_zero, List.set_cons_succ] at hF
        have hF2 := funext hF
        clear hF
        subst hF2
        refine ⟨⟨doesN_want (by decide) rfl (fun g => rfl) (fun st w' hS hp K hK => ?_), doesN_want (by decide) rfl (fun g => rfl) (fun st w' hS hp K hK => ?_), doesN_want (by decide) rfl (fun g => rfl) (fun st w' hS hp K hK => ?_), doesN_want (by decide) rfl (fun g => rfl) (fun st w' hS hp K hK => ?_), doesN_want (by decide) rfl (fun g => rfl) (fun st w' hS hp K hK => ?_), doesN_want (by decide) rfl (fun g => rfl) (fun st w' hS hp K hK => ?_), doesN_want (by decide) rfl (fun g => rfl) (fun st w' hS hp K hK => ?_), doesN_want (by decide) rfl (fun g => rfl) (fun st w' hS hp K hK => ?_), doesN_want (by decide) rfl (fun g => rfl) (fun st w' hS hp K hK => ?_), doesN_want (by decide) rfl (fun g => rfl) (fun st w' hS hp K hK => ?_), doesN_want (by decide) rfl (fun g => rfl) (fun st w' hS hp K hK => ?_), doesN_want (by decide) rfl (fun g => rfl) (fun st w' hS hp K hK => ?_), doesC_want (by decide) rfl (fun g => rfl) (fun st w' hS hn hp K hK => ?_), doesC_want (by decide) rfl (fun g => rfl) (fun st w' hS hn hp K hK => ?_), doesC_want (by decide) rfl (fun g => rfl) (fun st w' hS hn hp K hK => ?_), trivial⟩, fun st w' hS hall => ?_⟩
        · try dsimp only
          go_simp
          exact hK _ hS
        · try dsimp only
          go_simp
          exact hK _ hS
        · try dsimp only
          have O := hS.own
          exact wp_at_h Try.underlying22 sizeOf27 _ (O.mem (List.mem_cons_of_mem _ List.mem_cons_self)) rfl (k) rfl rfl (by omega) rfl (hK _ hS)
        · try dsimp only
          have O := hS.own
          exact wp_elem_h _ (O.mem (List.mem_cons_of_mem _ List.mem_cons_self)) (k * 8) (M.mat 8 (x)) (vC_at HXE.out) (by rw [M.mat_len]; decide) rfl Try.underlying39 rfl (s27 _) (hK _ hS)
        · try dsimp only
          go_simp
          exact hK _ hS
        · try dsimp only
          go_simp
          exact hK _ hS
        · try dsimp only
          go_simp
          try rw [CK.out]
          exact hK _ hS
        · try dsimp only
          go_simp
          exact hK _ hS
        · try dsimp only
          go_simp
          exact hK _ hS
        · try dsimp only
          go_simp
          simp only [if_neg HNE.out, HM.out]
          exact hK _ hS
        · try dsimp only
          have O := hS.own
          exact wp_at_h Try.underlying22 sizeOf27 _ (O.mem (List.mem_cons_of_mem _ List.mem_cons_self)) rfl (j) rfl rfl (by omega) rfl (hK _ hS)
        · try dsimp only
          have O := hS.own
          exact wp_elem_h _ (O.mem (List.mem_cons_of_mem _ List.mem_cons_self)) (j * 8) (M.mat 8 (z)) (vC_at HZE.out) (by rw [M.mat_len]; decide) rfl Try.underlying39 rfl (s27 _) (hK _ hS)
        · try dsimp only
          rw [hn] at hS
          exact hS.alloc_a hK
        · try dsimp only
          rw [hn] at hS
          exact hS.alloc_b hK
        · try dsimp only
          rw [hn] at hS
          exact hS.put_a (hp 12 (by decide) (by kernel_rfl)) x rfl rfl rfl hK
        try dsimp only
        obtain ⟨g11, g12, e17, e18, O3⟩ := hS.done (hall 12 (by decide)) (hall 13 (by decide)) (hall 14 (by decide))
        clear hS O
        have O := O3
        clear O3
        simp only [seen, e17, e18, Option.getD_some]
        generalize (st 14).getD undef = u14
        clear hall e17 e18
        refine wpAny_want (i := 15) (by kernel_rfl) rfl (by rfl) (fun K hK => ?_)
        refine wp_put_h O 1 (M.mat 8 z) rfl rfl rfl (s27 _) (M.mat_len2 _ _ _) (M.mat_one _ _) fun w9 O9 => hK _ _ ?_
        clear O
        have O := O9
        clear O9
        clear hK K
        try simp only [Act.put, List.setIfInBounds_toArray, List.set_cons_zero, List.set_cons_succ]
        refine wpAny_done (by kernel_rfl) ?_ _
        go_wp2_with fail
        have OO := O
        clear O
        try clear O
        have O := OO
        clear OO
        refine region_T ((fun w2 => Held w w2 ([(g11, 39, M.mat 8 x), (g12, 39, M.mat 8 z), (g5, 35, M.mat 5 s)] ++ X) (vR RA Rc L) [bE lo2 B d e, vE lo A c l])) [0, 1, 2, 3, 4, 5, 6] 12 [some 37, some 38, some 39, some 40, some 41, some 42, some 13] [arr 5 s, arr 8 x, .int .i64 a, arr 5 s, arr 8 z, .int .i64 b, .int .i64 a] 1 (by kernel_rfl) (by rfl) (by kernel_rfl) (by rfl) (by rfl) (O.drew) (fun F hF => ?_)
        simp only [fillD, Act.put, List.setIfInBounds_toArray, List.set_cons_zero, List.set_cons_succ] at hF
        subst hF
        refine ⟨⟨does_want rfl (by rfl) (fun w' O K hK => ?_), does_want rfl (by rfl) (fun w' O K hK => ?_), does_want rfl (by rfl) (fun w' O K hK => ?_), does_want rfl (by rfl) (fun w' O K hK => ?_), does_want rfl (by rfl) (fun w' O K hK => ?_), does_want rfl (by rfl) (fun w' O K hK => ?_), does_want rfl (by rfl) (fun w' O K hK => ?_), trivial⟩, fun w' O => ?_⟩
        · exact wp_row_h O 2 rfl rfl Try.underlying35 rfl (s24 _) (hK _ O)
        · exact wp_row_h O 0 rfl rfl Try.underlying39 rfl (s27 _) (hK _ O)
        · go_simp
          go_at_call 15
          refine (c1 _).mono ?_
          rintro e w2 ⟨rfl, hb⟩
          exact hK _ (O.call hb)
        · exact wp_row_h O 2 rfl rfl Try.underlying35 rfl (s24 _) (hK _ O)
        · exact wp_row_h O 1 rfl rfl Try.underlying39 rfl (s27 _) (hK _ O)
        · go_simp
          go_at_call 15
          refine (c2 _).mono ?_
          rintro e w2 ⟨rfl, hb⟩
          exact hK _ (O.call hb)
        · go_simp
          exact hK _ O
        refine wpAny_one (i := 7) (by kernel_rfl) rfl (fun K hK => ?_)
        go_simp
        refine hK _ _ ?_
        clear hK K
        try simp only [Act.put, List.setIfInBounds_toArray, List.set_cons_zero, List.set_cons_succ]
        refine wpAny_done (by kernel_rfl) ?_ _
        go_wp2_with (first | ((with_reducible refine at_load 46 ?_); refine wpList_rowg_h rfl O 0 rfl rfl Try.underlying39 rfl (s27 _) ?_) | ((with_reducible refine at_lit 47 ?_); refine wpList_lit_h rfl O 8 (.agg (M.mat 8 M.zero).toArray) info27 Try.underlying22 ([(0, .agg (M.mat 8 (x)).toArray)]) (vC [x]) rfl (vC_len _) (by decide) (by decide) (by kernel_rfl) ?_; clear O; intro gl u5 O) | ((with_reducible refine at_app 48 ?_); refine wpList_app_big rfl O (.agg (M.mat 8 M.zero).toArray) 64 info27b rfl (Nat.succ_pos _) Try.underlying22 rfl _ (O.mem List.mem_cons_self) rfl rfl (vC_one _) (by dsimp only [vR]; omega) (by decide) ?_; clear O; intro va u6 O; obtain ⟨TA, Tc, e1, O2⟩ := vR_of (O.pick (es' := [bE lo2 B d e, vE lo A c l]) (fun y hy => List.mem_cons_of_mem _ hy)); subst e1; clear O; obtain ⟨Y, hY, O⟩ := Held.swapB (bs := [(g11, 39, M.mat 8 x), (g12, 39, M.mat 8 z), (g5, 35, M.mat 5 s)]) (X := X) O2 HX.out; clear O2; have HY := Lib.hid hY; clear hY) | ((with_reducible refine at_index_ 52 ?_); refine wpList_at_h rfl Try.underlying23 sizeOf4 _ (O.mem List.mem_cons_self) rfl (k) rfl rfl (by omega) rfl ?_) | ((with_reducible refine at_load 53 ?_); refine wpList_ecell_h rfl _ (O.mem List.mem_cons_self) (k * 1) (by rw [Nat.mul_one]; exact bC_at HYE.out) rfl agg4 rfl ?_) | ((with_reducible refine at_lit 54 ?_); refine wpList_lit_h rfl O 1 (.bool false) info4 Try.underlying23 ([(0, .bool y)]) (bC [y]) rfl (bC_len _) (by decide) (by decide) (by kernel_rfl) ?_; clear O; intro gl u5 O) | ((with_reducible refine at_app 55 ?_); refine wpList_app_big rfl O (.bool false) 1 info4b rfl (Nat.succ_pos _) Try.underlying23 rfl _ (O.mem List.mem_cons_self) rfl rfl (bC_one _) (by dsimp only [bR]; omega) (by decide) ?_; clear O; intro va u8 O; obtain ⟨UA, Uc, e1, O2⟩ := bR_of (O.pick (es' := [bE lo2 B d e, vE lo A c l]) (fun y hy => List.mem_cons_of_mem _ hy)); subst e1; clear O; obtain ⟨Z, hY, O⟩ := Held.swapB (bs := [(g11, 39, M.mat 8 x), (g12, 39, M.mat 8 z), (g5, 35, M.mat 5 s)]) (X := Y) O2 HY.out; clear O2; have HZ := Lib.hid hY; clear hY) | ((with_reducible refine at_load 63 ?_); refine wpList_rowg_h rfl O 0 rfl rfl Try.underlying39 rfl (s27 _) ?_) | ((with_reducible refine at_load 64 ?_); refine wpList_rowg_h rfl O 1 rfl rfl Try.underlying39 rfl (s27 _) ?_) | (go_at_call 23; refine (ca _).mono ?_; rintro e u1 ⟨rfl, hb⟩; replace O := O.call hb; clear hb) | ((with_reducible refine at_alloc 15 ?_); refine wpList_alloc_h O (M.mat 8 M.zero) zero27 ?_; clear O; intro g15 u2 O) | ((with_reducible refine at_store 15 ?_); refine wpList_put_h O 0 (M.mat 8 (f1)) rfl rfl rfl (s27 _) (M.mat_len2 _ _ _) (M.mat_one _ _) ?_; clear O; intro u3 O) | ((with_reducible refine at_load 73 ?_); refine wpList_rowg_h rfl O 0 rfl rfl Try.underlying39 rfl (s27 _) ?_) | ((with_reducible refine at_lit 74 ?_); refine wpList_lit_h rfl O 8 (.agg (M.mat 8 M.zero).toArray) info27 Try.underlying22 ([(0, .agg (M.mat 8 (f1)).toArray)]) (vC [f1]) rfl (vC_len _) (by decide) (by decide) (by kernel_rfl) ?_; clear O; intro gl u5 O) | ((with_reducible refine at_app 75 ?_); refine wpList_app_big rfl O (.agg (M.mat 8 M.zero).toArray) 64 info27b rfl (Nat.succ_pos _) Try.underlying22 (show _ = Value.slice TA (L ++ [x]).length Tc by rw [List.length_append]; rfl) _ (O.mem List.mem_cons_self) rfl rfl (vC_one _) (by dsimp only [vR]; rw [List.length_append]; dsimp only [List.length_cons, List.length_nil]; omega) (by decide) ?_; clear O; intro va v6 O; obtain ⟨TB, Td, e1, O2⟩ := vR_of (O.pick (es' := [bE lo2 B d e, vE lo A c l]) (fun y hy => List.mem_cons_of_mem _ hy)); subst e1; clear O; obtain ⟨Y2, hY, O⟩ := Held.swapB (bs := [(g15, 39, M.mat 8 f1), (g11, 39, M.mat 8 x), (g12, 39, M.mat 8 z), (g5, 35, M.mat 5 s)]) (X := Z) O2 HZ.out; clear O2; have HY2 := Lib.hid hY; clear hY) | ((with_reducible refine at_lit 77 ?_); refine wpList_lit_h rfl O 1 (.bool false) info4 Try.underlying23 ([(0, .bool true)]) (bC [true]) rfl (bC_len _) (by decide) (by decide) (by kernel_rfl) ?_; clear O; intro gl u5 O) | ((with_reducible refine at_app 78 ?_); refine wpList_app_big rfl O (.bool false) 1 info4b rfl (Nat.succ_pos _) Try.underlying23 (show _ = Value.slice UA (N ++ [y]).length Uc by rw [List.length_append]; rfl) _ (O.mem List.mem_cons_self) rfl rfl (bC_one _) (by dsimp only [bR]; rw [List.length_append]; dsimp only [List.length_cons, List.length_nil]; omega) (by decide) ?_; clear O; intro va v8 O; obtain ⟨UB, Ud, e1, O2⟩ := bR_of (O.pick (es' := [bE lo2 B d e, vE lo A c l]) (fun y hy => List.mem_cons_of_mem _ hy)); subst e1; clear O; obtain ⟨Z2, hY, O⟩ := Held.swapB (bs := [(g15, 39, M.mat 8 f1), (g11, 39, M.mat 8 x), (g12, 39, M.mat 8 z), (g5, 35, M.mat 5 s)]) (X := Y2) O2 HY2.out; clear O2; have HZ2 := Lib.hid hY; clear hY))
        have O2 : Held w _ ([(g5, 35, M.mat 5 s)] ++ Z2) (vR TB Td ((L ++ [x]) ++ [f1])) [bE lo2 B d e, vE lo A c l] := Held.drop (l := [(g15, 39, M.mat 8 f1), (g11, 39, M.mat 8 x), (g12, 39, M.mat 8 z)]) O
        clear O
        have O := O2
        clear O2
        go_roundw
        case rel => exact ⟨k + 1, (L ++ [x]) ++ [f1], (N ++ [y]) ++ [true], TB, Td, UB, Ud, Z2, by omega, by go_num, by first | rfl | simp, by first | rfl | simp, by rw [HS.out, HE.out, vs_app, HL1.out]; simp [C.vs], by rw [HS.out, HE.out, fs_app, HN1.out]; simp [C.fs], HZ2.out, O⟩
        case measure => simp [intOf]; omega
    · have q1 : ¬ (k : Int) < l.length := by omega
      obtain rfl : k = l.length := by omega
      have hl := HL1.out
      have hn := HN1.out
      have he : C.some_ s P l.length = C.all s P := by rw [← HPL.out, C.some_end]
      rw [he] at hl hn
      have hm : (C.all s P).length = L.length := by rw [← hl, vs_len]
      by_cases h3 : L.length < 3
      · have q3 : (L.length : Int) < 3 := by omega
        have HE : Hid (C.cut s P = []) := Lib.hid (by rw [C.cut, C.three, if_pos (by omega)])
        clear hl hn he hm h3
        go_wp2_with fail
        go_ret2
        rw [HE.out]
        exact retVF_nil O.below
      · have q3 : ¬ (L.length : Int) < 3 := by omega
        have HE1 : Hid (C.vs (C.cut s P) = L) := Lib.hid (by rw [C.cut, C.three, if_neg (by omega), hl])
        have HE2 : Hid (C.fs (C.cut s P) = N) := Lib.hid (by rw [C.cut, C.three, if_neg (by omega), hn])
        clear hl hn he hm h3
        go_wp2_with fail
        go_ret2
        rw [HE1.out, HE2.out]
        exact retVF_done O HX.out
end Go.Proofs.Ytbpignicffkaoaa
