/-
  For every list of vertices and of sides the law CarveFlags returns true: where all sides are edges, they stay so; as many flags come as vertices, three at least, or none. No condition.
-/
import Derived.Test.YtbpignicffkaoaaFk
import Derived.Deep.DeepCutAuto
namespace Go.Proofs.Ytbpignicffkaoaa.carveFlags
open Go.ChangeShapes Go.WideShapes Go.ChangeAt Go.RowKit
set_option linter.unusedVariables false
set_option linter.unusedSimpArgs false

theorem own : ownKnob Try.prog.godebug = none := by kernel_rfl
theorem flags_on {l s : List (Nat → Int)} : ∀ (i : Nat) (y : Bool), (C.fs (C.res l (List.replicate l.length true) s))[i]? = some y → y = true := by
  intro i y hy
  obtain ⟨x, hx, rfl⟩ := List.mem_map.1 (List.mem_of_getElem? hy)
  unfold C.res at hx
  split at hx
  · refine C.carve_on (fun x hx => ?_) x hx
    have := (List.of_mem_zip (a := x.1) (b := x.2) hx).2
    exact (List.mem_replicate.1 this).2
  · cases hx
theorem flags_three (l : List (Nat → Int)) (e : List Bool) (s : List (Nat → Int)) : ((C.vs (C.res l e s)).length = 0 ∧ (C.err l e s = 0 ∨ C.err l e s = 1)) ∨ (3 ≤ (C.vs (C.res l e s)).length ∧ C.err l e s = 0) := by
  rw [vs_len]
  cases hm : C.may l e.length s
  · obtain ⟨h1, h2⟩ := res_not hm
    rw [h1, h2]
    exact .inl ⟨rfl, .inr rfl⟩
  · obtain ⟨h1, h2⟩ := res_may hm
    obtain ⟨⟨p1, p2, p3, p4⟩, s1, s2⟩ := may_iff.1 hm
    rw [h1, h2]
    have : 3 ≤ (l.zip e).length := by rw [List.length_zip]; omega
    rcases C.carve_three (sides := s) this with h | h
    · left
      rw [h]
      exact ⟨rfl, .inl rfl⟩
    · exact .inr ⟨h, rfl⟩

set_option maxRecDepth 100000 in
set_option maxHeartbeats 16000000 in
theorem walk (w : World) (l : List (Nat → Int)) (s : List (Nat → Int)) {A : Option Addr} {c : Nat} {D_ : Option Addr} {g : Nat} (hV : Lies w free (vE 0 A c l)) (hS : Lies w free (sE 0 D_ g s)) :
    Calls Try.prog 6 #[.slice A l.length c, .slice D_ s.length g] w fun e w' => e = .returned (.bool true) ∧ Below w.heap.size w w' := by
  have O := Held.start w [vE 0 A c l, sE 0 D_ g s] (by
    intro x hx
    simp only [List.mem_cons, List.not_mem_nil, or_false] at hx
    rcases hx with rfl | rfl
    · exact hV
    · exact hS)
  clear hV hS
  have cf := fun w => few_any l.length 0 s.length (A := A) (B := none) (D_ := D_) (c := c) (d := 0) (g := g) w
  cases hf : C.few l.length 0 s.length
  all_goals rw [hf] at cf
  · clear hf
    go_enter Try.func6, Try.ntmps6
    go_wp2_with (first | (go_at_call 8; refine (cf _).mono ?_; rintro r w1 ⟨rfl, rfl⟩) | (go_at_call 9; refine (awake_any _).mono ?_; rintro e w5 ⟨rfl, hb⟩; replace O := O.call hb; clear hb))
    go_ret
    exact ⟨rfl, O.below⟩
  · obtain ⟨f1, -, -⟩ := C.few_iff.1 hf
    clear hf
    have c1 := fun w B d h1 h2 h3 => pcarve_any l (List.replicate l.length true) s (lo := 0) (lo2 := 0) (lo3 := 0) (A := A) (B := B) (D_ := D_) (c := c) (d := d) (g := g) w h1 h2 h3
    have hl : (C.vs (C.res l (List.replicate l.length true) s)).length = (C.fs (C.res l (List.replicate l.length true) s)).length := by rw [vs_len, fs_len]
    have h9 : (C.vs (C.res l (List.replicate l.length true) s)).length ≤ 1000000 := by rw [vs_len]; have := res_len l (List.replicate l.length true) s; omega
    have hon : ∀ (i : Nat) (y : Bool), (C.fs (C.res l (List.replicate l.length true) s))[i]? = some y → y = true := flags_on
    have h3 := flags_three l (List.replicate l.length true) s
    unfold RetVFE at c1
    generalize C.vs (C.res l (List.replicate l.length true) s) = Lv at *
    generalize C.fs (C.res l (List.replicate l.length true) s) = Lf at *
    generalize C.err l (List.replicate l.length true) s = z at *
    rw [List.length_replicate] at c1
    obtain ⟨n, hn⟩ : ∃ n, Lv.length = n := ⟨_, rfl⟩
    rw [hn] at hl h9 h3
    have HON := Lib.hid hon
    have HVN := Lib.hid hn
    have HFN := Lib.hid hl.symm
    clear hon hn hl
    have q1 : ((n : Int) != (n : Int)) = false := by simp
    rcases h3 with ⟨hn0, hz⟩ | ⟨hn3, rfl⟩
    · have q3 : ¬ (0 : Int) < (n : Int) := by omega
      clear hn0
      rcases hz with rfl | rfl
      all_goals
        go_enter Try.func6, Try.ntmps6
        go_wp2_with (first | (go_at_call 8; refine (cf _).mono ?_; rintro r w1 ⟨rfl, rfl⟩) | ((with_reducible refine at_make_ 18 ?_); refine wpList_makerow_h rfl O (.bool false) 1 info4b rfl Try.underlying23 l.length rfl rfl (by omega) (by decide) ?_; clear O; intro RA Rc um O))
        clear cf
        have O2 : Held w um [] (fR RA Rc l.length (List.replicate l.length false)) [vE 0 A c l, sE 0 D_ g s] := by
          unfold fR
          rw [← bC_rep]
          exact O
        clear O
        go_loopw [6] (fun t wr => ∃ (k : Nat) (F : List Bool), k ≤ l.length ∧ t = .int .i64 k ∧ F.length = l.length ∧ (∀ i, i < k → F[i]? = some true) ∧ Held w wr [] (fR RA Rc l.length F) [vE 0 A c l, sE 0 D_ g s]) (fun t _ => l.length - (intOf t).toNat)
        case atStart => exact ⟨0, _, Nat.zero_le _, rfl, by simp, fun i hi => absurd hi (Nat.not_lt_zero i), O2⟩
        case round =>
          clear O2
          obtain ⟨k, F, hk, rfl, hF, hall, O⟩ := hrel
          have HF := Lib.hid hF
          have HA := Lib.hid hall
          clear hF hall
          have q0 : (0 : Int) ≤ k := by omega
          by_cases hlt : k < l.length
          · have q2 : (k : Int) < l.length := by omega
            have L := Held.rowLies (w0 := w) (e := 4) (s := 1) (n := l.length) (xs := bC F) O
            go_wp2_with (first | ((with_reducible refine at_index_ 27 ?_); refine wpList_at_h rfl Try.underlying23 sizeOf4 _ L rfl k rfl rfl (by omega) rfl ?_) | ((with_reducible refine at_store 27 ?_); refine wpList_rowset_h rfl O (k * 1) (.bool true) (by rw [bC_len, HF.out]; omega) rfl rfl size4_ rfl rfl ?_; clear O L; intro us O))
            have O3 : Held w us [] (fR RA Rc l.length (F.set k true)) [vE 0 A c l, sE 0 D_ g s] := by
              unfold fR
              rw [← bC_set, ← Nat.mul_one k]
              exact O
            clear O
            go_roundw
            case rel => exact ⟨k + 1, F.set k true, by omega, by go_num, by rw [List.length_set]; exact HF.out, fun i hi => by
              rw [List.getElem?_set]
              split
              · rw [if_pos (by have := HF.out; omega)]
              · exact HA.out i (by omega), O3⟩
            case measure => simp [intOf]; omega
          · have q2 : ¬ (k : Int) < l.length := by omega
            obtain rfl : k = l.length := by omega
            have hF := all_on HF.out HA.out
            subst hF
            obtain ⟨-, O3⟩ := Held.doneV O
            have O4 : Held w wr [] nilRow [bE w.heap.size RA Rc (List.replicate l.length true), vE 0 A c l, sE 0 D_ g s] := by
              have e : bE w.heap.size RA Rc (List.replicate l.length true) = ⟨w.heap.size, RA, l.length, Rc, 1, bC (List.replicate l.length true)⟩ := by unfold bE; rw [List.length_replicate]
              rw [e]
              exact O3
            clear O O3 HF HA
            have O := O4
            clear O4
            go_wp2_with (go_at_call 10; refine (c1 _ _ _ (O.arg (List.mem_cons_of_mem _ List.mem_cons_self)) (Lies.low (O.arg List.mem_cons_self) (Nat.zero_le _)) (O.arg (List.mem_cons_of_mem _ (List.mem_cons_of_mem _ List.mem_cons_self)))).mono ?_; rintro r w5 ⟨VB, vb, WB, wb, rfl, hV, hW, hb⟩; have O2 := O.gains hb (ns := [vE _ VB vb _, bE _ WB wb _]) (two_lies hV hW); clear O c1 hV hW hb; have O := O2; clear O2; rw [HVN.out, HFN.out])
            go_loopw [10] (fun t wr => ∃ i : Nat, i ≤ n ∧ t = .int .i64 i ∧ Held w wr [] nilRow [vE w.heap.size VB vb Lv, bE w.heap.size WB wb Lf, bE w.heap.size RA Rc (List.replicate l.length true), vE 0 A c l, sE 0 D_ g s]) (fun t _ => n - (intOf t).toNat)
            case atStart => exact ⟨0, Nat.zero_le _, rfl, O⟩
            case round =>
              clear O
              obtain ⟨i, hi, rfl, O⟩ := hrel
              have i0 : (0 : Int) ≤ i := by omega
              by_cases hin : i < n
              · have i1 : (i : Int) < n := by omega
                obtain ⟨y, hy⟩ : ∃ y, Lf[i]? = some y := ⟨_, List.getElem?_eq_getElem (by rw [HFN.out]; exact hin)⟩
                obtain rfl := HON.out i y hy
                have HY := Lib.hid hy
                clear hy
                go_wp2_with (first | ((with_reducible refine at_index_ 68 ?_); refine wpList_at_h rfl Try.underlying23 sizeOf4 (bE w.heap.size WB wb Lf) (O.mem (List.mem_cons_of_mem _ List.mem_cons_self)) rfl i rfl rfl (by omega) HFN.out.symm ?_) | ((with_reducible refine at_load 69 ?_); refine wpList_ecell_h rfl (bE w.heap.size WB wb Lf) (O.mem (List.mem_cons_of_mem _ List.mem_cons_self)) (i * 1) (by rw [Nat.mul_one]; exact bC_at HY.out) rfl agg4 rfl ?_))
                go_roundw
                case rel => exact ⟨i + 1, by omega, by go_num, O⟩
                case measure => simp [intOf]; omega
              · have i1 : ¬ (i : Int) < n := by omega
                go_wp2_with (go_at_call 9; refine (awake_any _).mono ?_; rintro e w6 ⟨rfl, hb⟩; replace O := O.call hb; clear hb)
                go_ret
                exact ⟨rfl, O.below⟩
    · have q3 : decide ((0 : Int) < (n : Int)) = true := by simp; omega
      have q4 : decide ((n : Int) < 3) = false := by simp; omega
      go_enter Try.func6, Try.ntmps6
      go_wp2_with (first | (go_at_call 8; refine (cf _).mono ?_; rintro r w1 ⟨rfl, rfl⟩) | ((with_reducible refine at_make_ 18 ?_); refine wpList_makerow_h rfl O (.bool false) 1 info4b rfl Try.underlying23 l.length rfl rfl (by omega) (by decide) ?_; clear O; intro RA Rc um O))
      clear cf
      have O2 : Held w um [] (fR RA Rc l.length (List.replicate l.length false)) [vE 0 A c l, sE 0 D_ g s] := by
        unfold fR
        rw [← bC_rep]
        exact O
      clear O
      go_loopw [6] (fun t wr => ∃ (k : Nat) (F : List Bool), k ≤ l.length ∧ t = .int .i64 k ∧ F.length = l.length ∧ (∀ i, i < k → F[i]? = some true) ∧ Held w wr [] (fR RA Rc l.length F) [vE 0 A c l, sE 0 D_ g s]) (fun t _ => l.length - (intOf t).toNat)
      case atStart => exact ⟨0, _, Nat.zero_le _, rfl, by simp, fun i hi => absurd hi (Nat.not_lt_zero i), O2⟩
      case round =>
        clear O2
        obtain ⟨k, F, hk, rfl, hF, hall, O⟩ := hrel
        have HF := Lib.hid hF
        have HA := Lib.hid hall
        clear hF hall
        have q0 : (0 : Int) ≤ k := by omega
        by_cases hlt : k < l.length
        · have q2 : (k : Int) < l.length := by omega
          have L := Held.rowLies (w0 := w) (e := 4) (s := 1) (n := l.length) (xs := bC F) O
          go_wp2_with (first | ((with_reducible refine at_index_ 27 ?_); refine wpList_at_h rfl Try.underlying23 sizeOf4 _ L rfl k rfl rfl (by omega) rfl ?_) | ((with_reducible refine at_store 27 ?_); refine wpList_rowset_h rfl O (k * 1) (.bool true) (by rw [bC_len, HF.out]; omega) rfl rfl size4_ rfl rfl ?_; clear O L; intro us O))
          have O3 : Held w us [] (fR RA Rc l.length (F.set k true)) [vE 0 A c l, sE 0 D_ g s] := by
            unfold fR
            rw [← bC_set, ← Nat.mul_one k]
            exact O
          clear O
          go_roundw
          case rel => exact ⟨k + 1, F.set k true, by omega, by go_num, by rw [List.length_set]; exact HF.out, fun i hi => by
            rw [List.getElem?_set]
            split
            · rw [if_pos (by have := HF.out; omega)]
            · exact HA.out i (by omega), O3⟩
          case measure => simp [intOf]; omega
        · have q2 : ¬ (k : Int) < l.length := by omega
          obtain rfl : k = l.length := by omega
          have hF := all_on HF.out HA.out
          subst hF
          obtain ⟨-, O3⟩ := Held.doneV O
          have O4 : Held w wr [] nilRow [bE w.heap.size RA Rc (List.replicate l.length true), vE 0 A c l, sE 0 D_ g s] := by
            have e : bE w.heap.size RA Rc (List.replicate l.length true) = ⟨w.heap.size, RA, l.length, Rc, 1, bC (List.replicate l.length true)⟩ := by unfold bE; rw [List.length_replicate]
            rw [e]
            exact O3
          clear O O3 HF HA
          have O := O4
          clear O4
          go_wp2_with (go_at_call 10; refine (c1 _ _ _ (O.arg (List.mem_cons_of_mem _ List.mem_cons_self)) (Lies.low (O.arg List.mem_cons_self) (Nat.zero_le _)) (O.arg (List.mem_cons_of_mem _ (List.mem_cons_of_mem _ List.mem_cons_self)))).mono ?_; rintro r w5 ⟨VB, vb, WB, wb, rfl, hV, hW, hb⟩; have O2 := O.gains hb (ns := [vE _ VB vb _, bE _ WB wb _]) (two_lies hV hW); clear O c1 hV hW hb; have O := O2; clear O2; rw [HVN.out, HFN.out])
          go_loopw [10] (fun t wr => ∃ i : Nat, i ≤ n ∧ t = .int .i64 i ∧ Held w wr [] nilRow [vE w.heap.size VB vb Lv, bE w.heap.size WB wb Lf, bE w.heap.size RA Rc (List.replicate l.length true), vE 0 A c l, sE 0 D_ g s]) (fun t _ => n - (intOf t).toNat)
          case atStart => exact ⟨0, Nat.zero_le _, rfl, O⟩
          case round =>
            clear O
            obtain ⟨i, hi, rfl, O⟩ := hrel
            have i0 : (0 : Int) ≤ i := by omega
            by_cases hin : i < n
            · have i1 : (i : Int) < n := by omega
              obtain ⟨y, hy⟩ : ∃ y, Lf[i]? = some y := ⟨_, List.getElem?_eq_getElem (by rw [HFN.out]; exact hin)⟩
              obtain rfl := HON.out i y hy
              have HY := Lib.hid hy
              clear hy
              go_wp2_with (first | ((with_reducible refine at_index_ 68 ?_); refine wpList_at_h rfl Try.underlying23 sizeOf4 (bE w.heap.size WB wb Lf) (O.mem (List.mem_cons_of_mem _ List.mem_cons_self)) rfl i rfl rfl (by omega) HFN.out.symm ?_) | ((with_reducible refine at_load 69 ?_); refine wpList_ecell_h rfl (bE w.heap.size WB wb Lf) (O.mem (List.mem_cons_of_mem _ List.mem_cons_self)) (i * 1) (by rw [Nat.mul_one]; exact bC_at HY.out) rfl agg4 rfl ?_))
              go_roundw
              case rel => exact ⟨i + 1, by omega, by go_num, O⟩
              case measure => simp [intOf]; omega
            · have i1 : ¬ (i : Int) < n := by omega
              go_wp2_with (go_at_call 9; refine (awake_any _).mono ?_; rintro e w6 ⟨rfl, hb⟩; replace O := O.call hb; clear hb)
              go_ret
              exact ⟨rfl, O.below⟩
theorem readable : ∀ t ∈ Try.f6.params.toList, Try.prog.readableRec t = true ∧ t < Try.prog.types.size := by
  intro t ht
  rw [Try.params6] at ht
  simp only [List.mem_cons, List.not_mem_nil, or_false] at ht
  repeat (first | (rcases ht with rfl | ht; exact ⟨by kernel_rfl, of_decide_eq_true (by kernel_rfl)⟩) | (subst ht; exact ⟨by kernel_rfl, of_decide_eq_true (by kernel_rfl)⟩))
set_option maxRecDepth 100000 in
theorem lifted (os : Os) (started : os.Started) (H : Type) (enc : TypeId × Value → H) :
    ReturnsInHanded {} Try.checked os 6 .any (Rows.carveFlagsSpec.pre6 enc Try.prog Try.f6 Rows.carveFlagsRow.domain false) (Rows.carveFlagsSpec.post enc Try.prog Try.f6 false true false false) := by
  refine returnsInHanded_of_change (C := Try.checked) own started (by kernel_rfl) Try.func6
    (ChangeSpec.witness6 (enc := enc) (C := Try.checked) false ⟨#[], #[.slice none 0 0, .slice none 0 0], []⟩ 8 (by kernel_rfl) (by kernel_rfl) (by kernel_rfl) (by kernel_rfl)) ?_
  intro W base args ds gs before hval0 hW hcnd _
  have hval : ∀ (j : Nat) t v, Try.f6.params[j]? = some t → args[j]? = some v → Value.okWide Try.prog W .any base t v := hval0
  have hW' := hW
  obtain ⟨p, q, hA0, hV, rfl, hfz, hnd⟩ := hW
  have hA : DataW.TrodAll enc Try.prog W 0 (fun _ => true) true Try.f6.params.toList args.toList ds p := hA0
  rw [Try.params6] at hA hval
  have hlt : ∀ x ∈ p ++ q, x.block < W.heap.size := fun x hx => hW'.lt x hx
  obtain ⟨v0, vs0, d0, ds0, p0, q0, hargs, rfl, rfl, h0, rr0⟩ := trodAll_cons hA
  obtain ⟨v1, vs1, d1, ds1, p1, q1, rfl, rfl, rfl, h1, rr1⟩ := trodAll_cons rr0
  obtain ⟨rfl, rfl, rfl⟩ := trodAll_nil rr1
  obtain rfl : args = #[v0, v1] := by cases args; simp_all
  obtain ⟨rfl, rfl⟩ := trodVars_none hV
  obtain ⟨A0, n0, c0, rfl⟩ := okWide_slice Try.underlying22 (hval 0 22 v0 rfl rfl)
  obtain ⟨B0, k0, l0, e0, hF0⟩ := openVerts Try.underlying22 h0 (fun x hx => hlt x (by simp [hx]))
  obtain ⟨rfl, rfl, rfl⟩ := Value.slice.inj e0
  obtain ⟨A1, n1, c1, rfl⟩ := okWide_slice Try.underlying24 (hval 1 24 v1 rfl rfl)
  obtain ⟨B1, k1, l1, e1, hF1⟩ := openSides h1 (fun x hx => hlt x (by simp [hx]))
  obtain ⟨rfl, rfl, rfl⟩ := Value.slice.inj e1
  clear hA0 hval0
  refine (walk W _ _ hF0 hF1).mono fun e W' ⟨he, hg⟩ => ?_
  subst he
  exact ⟨_, rfl, post_true (tb := 4) laid readable (by kernel_rfl) Try.underlying4 rfl (fun l hl => by
    match l, hl with
    | [_, _], _ => exact ⟨rfl, rfl, rfl⟩) hW' hg⟩

theorem over : Rows.carveFlagsRow.holds Try.pinned (OpenSpec.ofChange Rows.carveFlagsSpec) :=
  OpenClaim.holds_of_wide 6 Try.f6 rfl rfl rfl rfl rfl rfl rfl ⟨rfl, rfl, rfl, rfl, rfl⟩ rfl rfl rfl rfl rfl (by kernel_rfl) Try.func6 (by kernel_rfl)
    (of_decide_eq_true (by kernel_rfl)) (by unfold Func.isWrapper; first | (rw [if_pos (by decide +kernel)]; kernel_rfl) | (rw [if_neg (by decide +kernel)]; exact ⟨rfl, rfl⟩))
    (fun os started H enc _ => lifted os started H enc)

theorem proved : Rows.CarveFlagsSaid :=
  over
#print axioms proved
end Go.Proofs.Ytbpignicffkaoaa.carveFlags
