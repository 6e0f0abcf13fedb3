/-
  For every list of vertices, of flags and of sides the law CarveKeeps returns true: inside all sides the polygon stays; outside one and inside those ahead of it, it is gone. No condition.
-/
import Derived.Test.YtbpignicffkaoaaFj
import Derived.Deep.DeepCutAuto
namespace Go.Proofs.Ytbpignicffkaoaa.carveKeeps
open Go.ChangeShapes Go.WideShapes Go.ChangeAt Go.RowKit
set_option linter.unusedVariables false
set_option linter.unusedSimpArgs false

theorem own : ownKnob Try.prog.godebug = none := by kernel_rfl
def C.cnt (t : Nat → Int) (l : List (Nat → Int)) : Nat := (l.filter fun x => decide (0 ≤ D.dist t x)).length
theorem cnt_step {t x : Nat → Int} {l : List (Nat → Int)} {k : Nat} (h : l[k]? = some x) : C.cnt t (l.take (k + 1)) = C.cnt t (l.take k) + (if decide (0 ≤ D.dist t x) then 1 else 0) := by
  rw [C.cnt, C.take_one h, List.filter_append, List.length_append]
  unfold C.cnt
  by_cases h0 : 0 ≤ D.dist t x <;> simp [h0]
theorem cnt_le (t : Nat → Int) (l : List (Nat → Int)) : C.cnt t l ≤ l.length := List.length_filter_le _ _
theorem cnt_all {t : Nat → Int} {l : List (Nat → Int)} (h : C.cnt t l = l.length) : ∀ x ∈ l, 0 ≤ D.dist t x := by
  have := List.length_filter_eq_length_iff.1 h
  intro x hx
  simpa using this x hx
theorem cnt_none {t : Nat → Int} {l : List (Nat → Int)} (h : C.cnt t l = 0) : ∀ x ∈ l, D.dist t x < 0 := by
  have := List.filter_eq_nil_iff.1 (List.length_eq_zero_iff.1 h)
  intro x hx
  have := this x hx
  simp at this
  omega
def C.insd (s l : List (Nat → Int)) : Bool := s.all fun t => ((C.cnt t l : Nat) : Int) == (l.length : Int)
theorem insd_step {s l : List (Nat → Int)} {k : Nat} {t : Nat → Int} (h : s[k]? = some t) : C.insd (s.take (k + 1)) l = (C.insd (s.take k) l && (((C.cnt t l : Nat) : Int) == (l.length : Int))) := by
  rw [C.take_one h]
  simp [C.insd]
theorem insd_all {s l : List (Nat → Int)} (h : C.insd s l = true) : ∀ t ∈ s, ∀ x ∈ l, 0 ≤ D.dist t x := by
  intro t ht
  have := List.all_eq_true.1 h t ht
  refine cnt_all ?_
  have h2 : ((C.cnt t l : Nat) : Int) = (l.length : Int) := by simpa using this
  omega
def C.gn (s l : List (Nat → Int)) : Nat → Bool
  | 0 => false
  | k + 1 => C.gn s l k || (match s[k]? with
    | some t => (((C.cnt t l : Nat) : Int) == 0) && C.insd (s.take k) l
    | none => false)
theorem gn_step {s l : List (Nat → Int)} {k : Nat} {t : Nat → Int} (h : s[k]? = some t) : C.gn s l (k + 1) = (C.gn s l k || ((((C.cnt t l : Nat) : Int) == 0) && C.insd (s.take k) l)) := by rw [C.gn, h]
theorem gn_true {s l : List (Nat → Int)} : ∀ {k : Nat}, C.gn s l k = true → ∃ j t, s[j]? = some t ∧ C.cnt t l = 0 ∧ C.insd (s.take j) l = true
  | 0, h => by cases h
  | k + 1, h => by
    rw [C.gn, Bool.or_eq_true] at h
    rcases h with h | h
    · exact gn_true h
    · cases hs : s[k]? with
      | none => rw [hs] at h; cases h
      | some t =>
        rw [hs] at h
        dsimp only at h
        rw [Bool.and_eq_true] at h
        refine ⟨k, t, hs, ?_, h.2⟩
        have : ((C.cnt t l : Nat) : Int) = 0 := by simpa using h.1
        omega
theorem vs_in {P : List C.PV} {Q : (Nat → Int) → Prop} (h : ∀ x ∈ C.vs P, Q x) : ∀ x ∈ P, Q x.1 := fun x hx => h x.1 (List.mem_map.2 ⟨x, hx, rfl⟩)
theorem keeps_in {s : List (Nat → Int)} {P : List C.PV} (h3 : 3 ≤ (C.vs P).length) (h : C.insd s (C.vs P) = true) : C.carve s P = P :=
  C.carve_in (fun t ht => vs_in (insd_all h t ht)) (by rw [vs_len] at h3; exact h3)
theorem keeps_gone {s : List (Nat → Int)} {P : List C.PV} {k : Nat} (h3 : 3 ≤ (C.vs P).length) (h : C.gn s (C.vs P) k = true) : C.carve s P = [] := by
  obtain ⟨j, t, hs, hc, hi⟩ := gn_true h
  exact C.carve_gone hs (fun u hu => vs_in (insd_all hi u hu)) (vs_in (cnt_none hc)) (by rw [vs_len] at h3; exact h3)

set_option maxRecDepth 100000 in
set_option maxHeartbeats 16000000 in
theorem walk (w : World) (l : List (Nat → Int)) (e : List Bool) (s : List (Nat → Int)) {A : Option Addr} {c : Nat} {B : Option Addr} {d : Nat} {D_ : Option Addr} {g : Nat} (hV : Lies w free (vE 0 A c l)) (hB : Lies w free (bE 0 B d e)) (hS : Lies w free (sE 0 D_ g s)) :
    Calls Try.prog 5 #[.slice A l.length c, .slice B e.length d, .slice D_ s.length g] w fun e w' => e = .returned (.bool true) ∧ Below w.heap.size w w' := by
  have O := Held.start w [bE 0 B d e, vE 0 A c l, sE 0 D_ g s] (by
    intro x hx
    simp only [List.mem_cons, List.not_mem_nil, or_false] at hx
    rcases hx with rfl | rfl | rfl
    · exact hB
    · exact hV
    · exact hS)
  clear hV hB hS
  have cf := fun w => few_any l.length e.length s.length (A := A) (B := B) (D_ := D_) (c := c) (d := d) (g := g) w
  cases hf : C.few l.length e.length s.length
  all_goals rw [hf] at cf
  · clear hf
    go_enter Try.func5, Try.ntmps5
    go_wp2_with (first | (go_at_call 8; refine (cf _).mono ?_; rintro r w1 ⟨rfl, rfl⟩) | (go_at_call 9; refine (awake_any _).mono ?_; rintro e w5 ⟨rfl, hb⟩; replace O := O.call hb; clear hb))
    go_ret
    exact ⟨rfl, O.below⟩
  · clear hf
    have c1 := fun w h1 h2 h3 => pcarve_any l e s (lo := 0) (lo2 := 0) (lo3 := 0) (A := A) (B := B) (D_ := D_) (c := c) (d := d) (g := g) w h1 h2 h3
    cases hm : C.may l e.length s
    · obtain ⟨r1, r2⟩ := res_not hm
      rw [r1, r2, show C.vs [] = [] from rfl, show C.fs [] = [] from rfl] at c1
      clear hm r1 r2
      go_enter Try.func5, Try.ntmps5
      go_wp2_with (first | (go_at_call 8; refine (cf _).mono ?_; rintro r w1 ⟨rfl, rfl⟩) | (go_at_call 10; refine (c1 _ (O.arg (List.mem_cons_of_mem _ List.mem_cons_self)) (O.arg List.mem_cons_self) (O.arg (List.mem_cons_of_mem _ (List.mem_cons_of_mem _ List.mem_cons_self)))).mono ?_; rintro r w2 ⟨VA, va, WA, wa, rfl, hV, hW, hb⟩; have O2 := O.gains hb (ns := [vE _ VA va _, bE _ WA wa _]) (two_lies hV hW); clear O hV hW hb; have O := O2; clear O2) | (go_at_call 9; refine (awake_any _).mono ?_; rintro e w4 ⟨rfl, hb⟩; replace O := O.call hb; clear hb))
      go_ret
      exact ⟨rfl, O.below⟩
    · obtain ⟨r1, r2⟩ := res_may hm
      obtain ⟨⟨p1, p2, p3, p4⟩, s1, s2⟩ := may_iff.1 hm
      rw [r1, r2] at c1
      have z1 := C.zip_vs (l := l) (e := e) p3.symm
      have z2 := C.zip_fs (l := l) (e := e) p3.symm
      generalize l.zip e = P at *
      have CD := Lib.hid (fun t (ht : t ∈ s) x (hx : x ∈ l) w => rdist_any t x (s2 t ht) (p4 x hx) w)
      have KI : Hid (C.insd s l = true → C.vs (C.carve s P) = l ∧ C.fs (C.carve s P) = e) := Lib.hid (fun h => by
        rw [keeps_in (by rw [z1]; exact p1) (by rw [z1]; exact h)]
        exact ⟨z1, z2⟩)
      have KG : Hid (C.gn s l s.length = true → C.vs (C.carve s P) = [] ∧ C.fs (C.carve s P) = []) := Lib.hid (fun h => by
        rw [keeps_gone (k := s.length) (by rw [z1]; exact p1) (by rw [z1]; exact h)]
        exact ⟨rfl, rfl⟩)
      have HLE := Lib.hid p3
      have s9 : s.length ≤ 9 := s1
      have l3 : 3 ≤ l.length := p1
      have l9 : l.length ≤ 256 := p2
      clear hm r1 r2 p1 p2 p3 p4 s1 s2 z1 z2
      generalize C.vs (C.carve s P) = Lv at *
      generalize C.fs (C.carve s P) = Lf at *
      go_enter Try.func5, Try.ntmps5
      go_wp2_with (first | (go_at_call 8; refine (cf _).mono ?_; rintro r w1 ⟨rfl, rfl⟩) | (go_at_call 10; refine (c1 _ (O.arg (List.mem_cons_of_mem _ List.mem_cons_self)) (O.arg List.mem_cons_self) (O.arg (List.mem_cons_of_mem _ (List.mem_cons_of_mem _ List.mem_cons_self)))).mono ?_; rintro r w2 ⟨VA, va, WA, wa, rfl, hV, hW, hb⟩; have O2 := O.gains hb (ns := [vE _ VA va _, bE _ WA wa _]) (two_lies hV hW); clear O hV hW hb; have O := O2; clear O2))
      clear c1
      go_loopw [10, 11, 12] (fun u v t wr => ∃ i : Nat, i ≤ s.length ∧ t = .int .i64 i ∧ u = .bool (C.insd (s.take i) l) ∧ v = .bool (C.gn s l i) ∧ Held w wr [] nilRow [vE w.heap.size VA va Lv, bE w.heap.size WA wa Lf, bE 0 B d e, vE 0 A c l, sE 0 D_ g s]) (fun _ _ t _ => s.length - (intOf t).toNat)
      case atStart => exact ⟨0, Nat.zero_le _, rfl, rfl, rfl, O⟩
      case round =>
        clear O
        obtain ⟨i, hi, rfl, rfl, rfl, O⟩ := hrel
        have q0 : (0 : Int) ≤ i := by omega
        by_cases hlt : i < s.length
        · have q1 : (i : Int) < s.length := by omega
          obtain ⟨t, ht⟩ : ∃ x, s[i]? = some x := ⟨_, List.getElem?_eq_getElem hlt⟩
          have HG := Lib.hid (gn_step (l := l) ht)
          have HI := Lib.hid (insd_step (l := l) ht)
          have cd := Lib.hid (CD.out t (List.mem_of_getElem? ht))
          have HT := Lib.hid ht
          clear ht
          generalize C.insd (s.take i) l = ib at *
          generalize C.gn s l i = gb at *
          go_wp2_with fail
          go_loopw [13, 14] (fun u t_ wr => ∃ k : Nat, k ≤ l.length ∧ t_ = .int .i64 k ∧ u = .int .i64 (C.cnt t (l.take k) : Nat) ∧ Held w wr [] nilRow [vE w.heap.size VA va Lv, bE w.heap.size WA wa Lf, bE 0 B d e, vE 0 A c l, sE 0 D_ g s]) (fun _ t_ _ => l.length - (intOf t_).toNat)
          case atStart => exact ⟨0, Nat.zero_le _, rfl, rfl, O⟩
          case round =>
            clear O
            obtain ⟨k, hk, rfl, rfl, O⟩ := hrel
            have j0 : (0 : Int) ≤ k := by omega
            by_cases hkl : k < l.length
            · have j1 : (k : Int) < l.length := by omega
              obtain ⟨x, hx⟩ : ∃ x, l[k]? = some x := ⟨_, List.getElem?_eq_getElem hkl⟩
              have cx := cd.out x (List.mem_of_getElem? hx)
              have hc := cnt_step (t := t) hx
              have hn := cnt_le t (l.take k)
              rw [List.length_take] at hn
              have HX := Lib.hid hx
              clear hx
              generalize C.cnt t (l.take k) = n at *
              have hn2 : n ≤ 256 := by omega
              clear hn
              generalize D.dist t x = z at *
              cases hz : decide (0 ≤ z)
              all_goals
                rw [hz] at hc
                have HC := Lib.hid hc
                have HZ := Lib.hid hz
                clear hc hz
                go_wp2_with fail
              · refine region_T ((fun w2 => Held w w2 [] nilRow [vE w.heap.size VA va Lv, bE w.heap.size WA wa Lf, bE 0 B d e, vE 0 A c l, sE 0 D_ g s])) [0, 1, 2, 3, 4, 5, 6, 7, 8, 9] 12 [some 44, some 45, some 46, some 47, some 48, some 49, some 50, some 51, some 52, some 53] [.slice D_ s.length g, .int .i64 i, .pointer (some ((adr D_).add (i * 5))), arr 5 t, .slice A l.length c, .int .i64 k, .pointer (some ((adr A).add (k * 8))), arr 8 x, .int .i64 z, .bool false] 0 (by kernel_rfl) (by rfl) (by kernel_rfl) (by rfl) (by rfl) (O.drew) (fun F hF => ?_)
                simp only [fillD, Act.put, List.setIfInBounds_toArray, List.set_cons_zero, List.set_cons_succ] at hF
                subst hF
                refine ⟨⟨does_want rfl (by rfl) (fun w' O K hK => ?_), does_want rfl (by rfl) (fun w' O K hK => ?_), does_want rfl (by rfl) (fun w' O K hK => ?_), does_want rfl (by rfl) (fun w' O K hK => ?_), does_want rfl (by rfl) (fun w' O K hK => ?_), does_want rfl (by rfl) (fun w' O K hK => ?_), does_want rfl (by rfl) (fun w' O K hK => ?_), does_want rfl (by rfl) (fun w' O K hK => ?_), does_want rfl (by rfl) (fun w' O K hK => ?_), does_want rfl (by rfl) (fun w' O K hK => ?_), trivial⟩, fun w' O => ?_⟩
                · go_simp
                  exact hK _ O
                · go_simp
                  exact hK _ O
                · exact wp_at_h Try.underlying24 sizeOf24 _ (O.mem (List.mem_cons_of_mem _ (List.mem_cons_of_mem _ (List.mem_cons_of_mem _ (List.mem_cons_of_mem _ List.mem_cons_self))))) rfl (i) rfl rfl (by omega) rfl (hK _ O)
                · exact wp_elem_h _ (O.mem (List.mem_cons_of_mem _ (List.mem_cons_of_mem _ (List.mem_cons_of_mem _ (List.mem_cons_of_mem _ List.mem_cons_self))))) (i * 5) (M.mat 5 (t)) (ss_at HT.out) (by rw [M.mat_len]; decide) rfl Try.underlying35 rfl (s24 _) (hK _ O)
                · go_simp
                  exact hK _ O
                · go_simp
                  exact hK _ O
                · exact wp_at_h Try.underlying22 sizeOf27 _ (O.mem (List.mem_cons_of_mem _ (List.mem_cons_of_mem _ (List.mem_cons_of_mem _ List.mem_cons_self)))) rfl (k) rfl rfl (by omega) rfl (hK _ O)
                · exact wp_elem_h _ (O.mem (List.mem_cons_of_mem _ (List.mem_cons_of_mem _ (List.mem_cons_of_mem _ List.mem_cons_self)))) (k * 8) (M.mat 8 (x)) (vC_at HX.out) (by rw [M.mat_len]; decide) rfl Try.underlying39 rfl (s27 _) (hK _ O)
                · go_simp
                  go_at_call 15
                  refine (cx _).mono ?_
                  rintro e w2 ⟨rfl, hb⟩
                  exact hK _ (O.call hb)
                · go_simp
                  rw [HZ.out]
                  exact hK _ O
                refine wpAny_done (by kernel_rfl) ?_ _
                go_wp2_with fail
                go_roundw
                case rel => exact ⟨k + 1, by omega, by go_num, by rw [HC.out]; first | rfl | (simp; done) | go_num, O⟩
                case measure => simp [intOf]; omega
              · refine region_T ((fun w2 => Held w w2 [] nilRow [vE w.heap.size VA va Lv, bE w.heap.size WA wa Lf, bE 0 B d e, vE 0 A c l, sE 0 D_ g s])) [0, 1, 2, 3, 4, 5, 6, 7, 8, 9] 12 [some 44, some 45, some 46, some 47, some 48, some 49, some 50, some 51, some 52, some 53] [.slice D_ s.length g, .int .i64 i, .pointer (some ((adr D_).add (i * 5))), arr 5 t, .slice A l.length c, .int .i64 k, .pointer (some ((adr A).add (k * 8))), arr 8 x, .int .i64 z, .bool true] 0 (by kernel_rfl) (by rfl) (by kernel_rfl) (by rfl) (by rfl) (O.drew) (fun F hF => ?_)
                simp only [fillD, Act.put, List.setIfInBounds_toArray, List.set_cons_zero, List.set_cons_succ] at hF
                subst hF
                refine ⟨⟨does_want rfl (by rfl) (fun w' O K hK => ?_), does_want rfl (by rfl) (fun w' O K hK => ?_), does_want rfl (by rfl) (fun w' O K hK => ?_), does_want rfl (by rfl) (fun w' O K hK => ?_), does_want rfl (by rfl) (fun w' O K hK => ?_), does_want rfl (by rfl) (fun w' O K hK => ?_), does_want rfl (by rfl) (fun w' O K hK => ?_), does_want rfl (by rfl) (fun w' O K hK => ?_), does_want rfl (by rfl) (fun w' O K hK => ?_), does_want rfl (by rfl) (fun w' O K hK => ?_), trivial⟩, fun w' O => ?_⟩
                · go_simp
                  exact hK _ O
                · go_simp
                  exact hK _ O
                · exact wp_at_h Try.underlying24 sizeOf24 _ (O.mem (List.mem_cons_of_mem _ (List.mem_cons_of_mem _ (List.mem_cons_of_mem _ (List.mem_cons_of_mem _ List.mem_cons_self))))) rfl (i) rfl rfl (by omega) rfl (hK _ O)
                · exact wp_elem_h _ (O.mem (List.mem_cons_of_mem _ (List.mem_cons_of_mem _ (List.mem_cons_of_mem _ (List.mem_cons_of_mem _ List.mem_cons_self))))) (i * 5) (M.mat 5 (t)) (ss_at HT.out) (by rw [M.mat_len]; decide) rfl Try.underlying35 rfl (s24 _) (hK _ O)
                · go_simp
                  exact hK _ O
                · go_simp
                  exact hK _ O
                · exact wp_at_h Try.underlying22 sizeOf27 _ (O.mem (List.mem_cons_of_mem _ (List.mem_cons_of_mem _ (List.mem_cons_of_mem _ List.mem_cons_self)))) rfl (k) rfl rfl (by omega) rfl (hK _ O)
                · exact wp_elem_h _ (O.mem (List.mem_cons_of_mem _ (List.mem_cons_of_mem _ (List.mem_cons_of_mem _ List.mem_cons_self)))) (k * 8) (M.mat 8 (x)) (vC_at HX.out) (by rw [M.mat_len]; decide) rfl Try.underlying39 rfl (s27 _) (hK _ O)
                · go_simp
                  go_at_call 15
                  refine (cx _).mono ?_
                  rintro e w2 ⟨rfl, hb⟩
                  exact hK _ (O.call hb)
                · go_simp
                  rw [HZ.out]
                  exact hK _ O
                refine wpAny_done (by kernel_rfl) ?_ _
                go_wp2_with fail
                go_roundw
                case rel => exact ⟨k + 1, by omega, by go_num, by rw [HC.out]; first | rfl | (simp; done) | go_num, O⟩
                case measure => simp [intOf]; omega
            · have j1 : ¬ (k : Int) < l.length := by omega
              obtain rfl : k = l.length := by omega
              rw [List.take_of_length_le (Nat.le_refl _)]
              generalize C.cnt t l = n at *
              obtain ⟨zb, hzb⟩ : ∃ b, ((n : Int) == 0) = b := ⟨_, rfl⟩
              obtain ⟨lb, hlb⟩ : ∃ b, ((n : Int) == (l.length : Int)) = b := ⟨_, rfl⟩
              rw [hzb] at HG
              rw [hlb] at HI
              cases gb <;> cases ib <;> cases zb <;> cases lb
              all_goals
                go_wp2_with fail
                go_roundw
                case rel => exact ⟨i + 1, by omega, by go_num, by rw [HI.out]; rfl, by rw [HG.out]; rfl, O⟩
                case measure => simp [intOf]; omega
        · have q1 : ¬ (i : Int) < s.length := by omega
          obtain rfl : i = s.length := by omega
          rw [List.take_of_length_le (Nat.le_refl _)]
          clear CD
          cases hib : C.insd s l
          · cases hgb : C.gn s l s.length
            · clear KI KG hib hgb
              go_wp2_with (go_at_call 9; refine (awake_any _).mono ?_; rintro e w4 ⟨rfl, hb⟩; replace O := O.call hb; clear hb)
              go_ret
              exact ⟨rfl, O.below⟩
            · obtain ⟨e1, e2⟩ := KG.out hgb
              subst e1 e2
              clear KI KG hib hgb
              go_wp2_with (go_at_call 9; refine (awake_any _).mono ?_; rintro e w4 ⟨rfl, hb⟩; replace O := O.call hb; clear hb)
              go_ret
              exact ⟨rfl, O.below⟩
          · obtain ⟨e1, e2⟩ := KI.out hib
            cases hgb : C.gn s l s.length
            · clear KI KG hib hgb
              subst Lv Lf
              have cs := fun {lo1 lo2 lo3 lo4 : Nat} {A1 A2 A3 A4 : Option Addr} {c1 c2 c3 c4 : Nat} w h1 h2 h3 h4 => rsame_any l l e e (lo1 := lo1) (lo2 := lo2) (lo3 := lo3) (lo4 := lo4) (A1 := A1) (A2 := A2) (A3 := A3) (A4 := A4) (c1 := c1) (c2 := c2) (c3 := c3) (c4 := c4) (by omega) w h1 h2 h3 h4
              go_wp2_with (first | (go_at_call 12; refine (cs _ (O.arg List.mem_cons_self) (O.arg (List.mem_cons_of_mem _ (List.mem_cons_of_mem _ (List.mem_cons_of_mem _ List.mem_cons_self)))) (O.arg (List.mem_cons_of_mem _ List.mem_cons_self)) (O.arg (List.mem_cons_of_mem _ (List.mem_cons_of_mem _ List.mem_cons_self)))).mono ?_; rintro r w3 ⟨⟨zz, rfl, hz⟩, hb⟩; obtain rfl := hz rfl rfl HLE.out.symm; replace O := O.call hb; clear hb hz) | (go_at_call 9; refine (awake_any _).mono ?_; rintro e w4 ⟨rfl, hb⟩; replace O := O.call hb; clear hb))
              go_ret
              exact ⟨rfl, O.below⟩
            · obtain ⟨e3, -⟩ := KG.out hgb
              rw [e1] at e3
              rw [e3] at l3
              exact absurd l3 (by decide)
theorem readable : ∀ t ∈ Try.f5.params.toList, Try.prog.readableRec t = true ∧ t < Try.prog.types.size := by
  intro t ht
  rw [Try.params5] at ht
  simp only [List.mem_cons, List.not_mem_nil, or_false] at ht
  repeat (first | (rcases ht with rfl | ht; exact ⟨by kernel_rfl, of_decide_eq_true (by kernel_rfl)⟩) | (subst ht; exact ⟨by kernel_rfl, of_decide_eq_true (by kernel_rfl)⟩))
set_option maxRecDepth 100000 in
theorem lifted (os : Os) (started : os.Started) (H : Type) (enc : TypeId × Value → H) :
    ReturnsInHanded {} Try.checked os 5 .any (Rows.carveKeepsSpec.pre6 enc Try.prog Try.f5 Rows.carveKeepsRow.domain false) (Rows.carveKeepsSpec.post enc Try.prog Try.f5 false true false false) := by
  refine returnsInHanded_of_change (C := Try.checked) own started (by kernel_rfl) Try.func5
    (ChangeSpec.witness6 (enc := enc) (C := Try.checked) false ⟨#[], #[.slice none 0 0, .slice none 0 0, .slice none 0 0], []⟩ 8 (by kernel_rfl) (by kernel_rfl) (by kernel_rfl) (by kernel_rfl)) ?_
  intro W base args ds gs before hval0 hW hcnd _
  have hval : ∀ (j : Nat) t v, Try.f5.params[j]? = some t → args[j]? = some v → Value.okWide Try.prog W .any base t v := hval0
  have hW' := hW
  obtain ⟨p, q, hA0, hV, rfl, hfz, hnd⟩ := hW
  have hA : DataW.TrodAll enc Try.prog W 0 (fun _ => true) true Try.f5.params.toList args.toList ds p := hA0
  rw [Try.params5] at hA hval
  have hlt : ∀ x ∈ p ++ q, x.block < W.heap.size := fun x hx => hW'.lt x hx
  obtain ⟨v0, vs0, d0, ds0, p0, q0, hargs, rfl, rfl, h0, rr0⟩ := trodAll_cons hA
  obtain ⟨v1, vs1, d1, ds1, p1, q1, rfl, rfl, rfl, h1, rr1⟩ := trodAll_cons rr0
  obtain ⟨v2, vs2, d2, ds2, p2, q2, rfl, rfl, rfl, h2, rr2⟩ := trodAll_cons rr1
  obtain ⟨rfl, rfl, rfl⟩ := trodAll_nil rr2
  obtain rfl : args = #[v0, v1, v2] := by cases args; simp_all
  obtain ⟨rfl, rfl⟩ := trodVars_none hV
  obtain ⟨A0, n0, c0, rfl⟩ := okWide_slice Try.underlying22 (hval 0 22 v0 rfl rfl)
  obtain ⟨B0, k0, l0, e0, hF0⟩ := openVerts Try.underlying22 h0 (fun x hx => hlt x (by simp [hx]))
  obtain ⟨rfl, rfl, rfl⟩ := Value.slice.inj e0
  obtain ⟨A1, n1, c1, rfl⟩ := okWide_slice Try.underlying23 (hval 1 23 v1 rfl rfl)
  obtain ⟨B1, k1, l1, e1, hF1⟩ := openBools Try.underlying23 h1 (fun x hx => hlt x (by simp [hx]))
  obtain ⟨rfl, rfl, rfl⟩ := Value.slice.inj e1
  obtain ⟨A2, n2, c2, rfl⟩ := okWide_slice Try.underlying24 (hval 2 24 v2 rfl rfl)
  obtain ⟨B2, k2, l2, e2, hF2⟩ := openSides h2 (fun x hx => hlt x (by simp [hx]))
  obtain ⟨rfl, rfl, rfl⟩ := Value.slice.inj e2
  clear hA0 hval0
  refine (walk W _ _ _ hF0 hF1 hF2).mono fun e W' ⟨he, hg⟩ => ?_
  subst he
  exact ⟨_, rfl, post_true (tb := 4) laid readable (by kernel_rfl) Try.underlying4 rfl (fun l hl => by
    match l, hl with
    | [_, _, _], _ => exact ⟨rfl, rfl, rfl⟩) hW' hg⟩

theorem over : Rows.carveKeepsRow.holds Try.pinned (OpenSpec.ofChange Rows.carveKeepsSpec) :=
  OpenClaim.holds_of_wide 5 Try.f5 rfl rfl rfl rfl rfl rfl rfl ⟨rfl, rfl, rfl, rfl, rfl⟩ rfl rfl rfl rfl rfl (by kernel_rfl) Try.func5 (by kernel_rfl)
    (of_decide_eq_true (by kernel_rfl)) (by unfold Func.isWrapper; first | (rw [if_pos (by decide +kernel)]; kernel_rfl) | (rw [if_neg (by decide +kernel)]; exact ⟨rfl, rfl⟩))
    (fun os started H enc _ => lifted os started H enc)

theorem proved : Rows.CarveKeepsSaid :=
  over
#print axioms proved
end Go.Proofs.Ytbpignicffkaoaa.carveKeeps
