/-
  For every byte and row of flags the law BuildProvokes returns true: each primitive is provoked by one of its vertices, no two by one, whichever way; both ways have the same vertices. No condition.
-/
import Derived.Test.YtadpejblhkcjgaaRow
import Derived.Test.YtadpejblhkcjgaaG
import Derived.Deep.DeepCutAuto
namespace Go.Proofs.Ytadpejblhkcjgaa.buildProvokes
open Go.ChangeShapes Go.WideShapes Go.ChangeAt Go.RowKit
set_option linter.unusedVariables false
set_option linter.unusedSimpArgs false

theorem own : ownKnob Try.prog.godebug = none := by kernel_rfl
theorem len_of {l : List PA} {ps : List Pm} (h : l.map (·.1) = ps) {n : Nat} (hp : ps.length = n) : l.length = n := by rw [← hp, ← h, List.length_map]
theorem beq_cast (a b : Nat) : ((a : Int) == (b : Int)) = (a == b) := by
  by_cases h : a = b
  · subst h; simp
  · have : ¬ (a : Int) = b := by omega
    rw [beq_eq_false_iff_ne.2 this, beq_eq_false_iff_ne.2 h]

set_option maxRecDepth 100000 in
set_option maxHeartbeats 16000000 in
theorem walk (w : World) (u : Nat) (A0 : Option Addr) (c0 : Nat) (fl : List Bool) (hu : u ≤ 255) (hF : Lies w free (bE 0 A0 c0 fl)) :
    Calls Try.prog 5 #[.int .u8 u, .slice A0 fl.length c0] w fun e w' => e = .returned (.bool true) ∧ Below w.heap.size w w' := by
  have O := Held.start w [bE 0 A0 c0 fl] (by simpa using hF)
  clear hF
  by_cases h100 : 100 < fl.length
  · have q1 : (100 : Int) < fl.length := by omega
    go_enter Try.func5, Try.ntmps5
    go_wp2_with (go_at_call 8; refine (awake_any _).mono ?_; rintro e w6 ⟨rfl, hb⟩; replace O := O.call hb; clear hb)
    go_ret
    exact ⟨rfl, O.below⟩
  have q1 : ¬ (100 : Int) < fl.length := by omega
  have hn : fl.length ≤ 256 := by omega
  have hn100 : fl.length ≤ 100 := by omega
  obtain ⟨m, hm⟩ : ∃ m, u % 10 = m := ⟨_, rfl⟩
  have hm9 : m ≤ 9 := by omega
  have e1 : Int.tmod (u : Int) 10 = ((m : Nat) : Int) := by rw [← hm]; rfl
  have e2 : IntKind.u8.wrap ((m : Nat) : Int) = ((m : Nat) : Int) := by rw [IntKind.wrap_u8]; omega
  have e3 : IntKind.i64.wrap ((m : Nat) : Int) = ((m : Nat) : Int) := IntWalk.i64_in _ (by omega)
  have HP1 := Lib.hid (P.prims_in hm9 hn true)
  have HP2 := Lib.hid (P.prims_in hm9 hn false)
  have HN1 : Hid ((P.list (P.shp m) fl true).length = P.cnt (P.shp m) fl.length) := by show _ = _; simp [P.list]
  have HN2 : Hid ((P.list (P.shp m) fl false).length = P.cnt (P.shp m) fl.length) := by show _ = _; simp [P.list]
  clear h100 hm
  have tok : True := trivial
  go_enter Try.func5, Try.ntmps5
  go_wp2_with (first | (first | (go_at_call 9; clear tok; have hpr := prims_any m fl true _ (O.arg (x := bE 0 A0 c0 fl) (by simp)); rw [HP1.out] at hpr; refine hpr.mono ?_; clear hpr; rintro e w3 hr; obtain ⟨A1, c1, l1, hl, rfl, O2⟩ := O.gainP hr; clear O hr; have O := O2; clear O2; dsimp only at hl; have HL1 := Lib.hid hl; clear hl) | (go_at_call 9; have hpr := prims_any m fl false _ (O.arg (x := bE 0 A0 c0 fl) (by simp)); rw [HP2.out] at hpr; refine hpr.mono ?_; clear hpr; rintro e w4 hr; obtain ⟨A2, c2, l2, hl, rfl, O2⟩ := O.gainP hr; clear O hr; have O := O2; clear O2; dsimp only at hl; have HL2 := Lib.hid hl; clear hl; have HB := Lib.hid ((len_of HL2.out HN2.out).trans (len_of HL1.out HN1.out).symm); rw [HB.out])) | ((with_reducible refine at_alloc 10 ?_); refine wpList_alloc_h O (M.mat 256 fun _ => 0) zero32 ?_; clear O; intro g10 w5 O) | ((with_reducible refine at_alloc 11 ?_); refine wpList_alloc_h O (M.mat 256 fun _ => 0) zero32 ?_; clear O; intro g11 w6 O))
  clear e1 e2 e3
  obtain ⟨es, O2, MA2, hME2, hM⟩ := O.hide
  have MA1 : pE w.heap.size A1 c1 l1 ∈ es := hM _ List.mem_cons_self
  have ME1 : Hid (∀ y ∈ ents w.heap.size l1, y ∈ es) := by show _; intro y hy; exact hM _ (mem_one (List.mem_append_left _ hy))
  have ME2 := Lib.hid hME2
  clear hME2 hM O
  have hln : l1.length = P.cnt (P.shp m) fl.length := len_of HL1.out HN1.out
  have hll : l1.length ≤ 256 := by rw [hln]; exact P.cnt_le hm9 hn
  obtain ⟨f1, hf1⟩ : ∃ f1 : Nat → Nat, (fun i => (P.prim (P.shp m) fl true i).p) = f1 := ⟨_, rfl⟩
  obtain ⟨f2, hf2⟩ : ∃ f2 : Nat → Nat, (fun i => (P.prim (P.shp m) fl false i).p) = f2 := ⟨_, rfl⟩
  have HO1 : Hid (∀ k, k ≤ l1.length → ∀ j, cP f1 k j ≤ 1) := by show _; refine cP_one (fun i j hi hj he => ?_); rw [← hf1] at he; rw [hln] at hi hj; exact P.p_inj hm9 hn hi hj he
  have HO2 : Hid (∀ k, k ≤ l1.length → ∀ j, cP f2 k j ≤ 1) := by show _; refine cP_one (fun i j hi hj he => ?_); rw [← hf2] at he; rw [hln] at hi hj; exact P.p_inj hm9 hn hi hj he
  have HF1 := Lib.hid hf1
  have HF2 := Lib.hid hf2
  have HLN := Lib.hid hln
  clear hf1 hf2 hln
  have O : Held w w6 [(g11, 32, M.mat 256 fun j => (cP f2 0 j : Int)), (g10, 32, M.mat 256 fun j => (cP f1 0 j : Int))] nilRow es := by
    have z : ∀ f : Nat → Nat, (M.mat 256 fun j => (cP f 0 j : Int)) = M.mat 256 fun _ => 0 := fun f => M.mat_ext fun j _ => rfl
    rw [z, z]
    exact O2
  clear O2
  go_loopw [12] (fun t wr => ∃ k : Nat, k ≤ l1.length ∧ t = .int .i64 k ∧ Held w wr [(g11, 32, M.mat 256 fun j => (cP f2 k j : Int)), (g10, 32, M.mat 256 fun j => (cP f1 k j : Int))] nilRow es) (fun t _ => l1.length - (intOf t).toNat)
  case atStart => exact ⟨0, Nat.zero_le _, rfl, O⟩
  case round =>
    clear O
    obtain ⟨k, hk, rfl, O⟩ := hrel
    have q0 : (0 : Int) ≤ k := by omega
    by_cases hlt : k < l1.length
    · have q2 : (k : Int) < l1.length := by omega
      obtain ⟨⟨⟨V, E, p1⟩, ax⟩, hx⟩ : ∃ x, l1[k]? = some x := ⟨_, List.getElem?_eq_getElem hlt⟩
      obtain ⟨⟨⟨V', E', p2⟩, ay⟩, hy⟩ : ∃ x, l2[k]? = some x := ⟨_, List.getElem?_eq_getElem (by rw [HB.out]; exact hlt)⟩
      obtain ⟨hxc, hqx⟩ := P.list_at (at_of HL1.out hx)
      obtain ⟨hyc, hqy⟩ := P.list_at (at_of HL2.out hy)
      have hVV : V = V' := by have h1 := congrArg Pm.V hqx; have h2 := congrArg Pm.V hqy; exact h1.trans h2.symm
      have hm1 : p1 ∈ V := by have := P.p_mem hm9 (fl := fl) (first := true) hxc; rw [← hqx] at this; exact this
      have hm2 : p2 ∈ V := by have := P.p_mem hm9 (fl := fl) (first := false) hyc; rw [← hqy] at this; rw [hVV]; exact this
      have hp1 : p1 < fl.length := by have := P.p_lt hm9 (fl := fl) (first := true) hxc; rw [← hqx] at this; exact this
      have hp2 : p2 < fl.length := by have := P.p_lt hm9 (fl := fl) (first := false) hyc; rw [← hqy] at this; exact this
      have hk1 : f1 k = p1 := by rw [← HF1.out]; exact (congrArg Pm.p hqx).symm
      have hk2 : f2 k = p2 := by rw [← HF2.out]; exact (congrArg Pm.p hqy).symm
      have hV4 : V.length ≤ 256 := (P.list_le hm9 hn true _ (List.mem_of_getElem? (at_of HL1.out hx))).1
      obtain rfl := hVV
      have MV1 := ME1.out _ (ents_v hx)
      have MV2 := ME2.out _ (ents_v hy)
      have HX := Lib.hid hx
      have HY := Lib.hid hy
      have HK1 := Lib.hid hk1
      have HK2 := Lib.hid hk2
      have HI1 := Lib.hid (isin_of hm1)
      have HI2 := Lib.hid (isin_of hm2)
      clear hx hy hqx hqy hk1 hk2 hm1 hm2 hxc hyc
      go_wp2_with fail
      go_loopw [13, 14, 15] (fun b1 b2 t wr => ∃ j : Nat, j ≤ V.length ∧ t = .int .i64 j ∧ b1 = .bool (isin p1 (V.take j)) ∧ b2 = .bool (isin p2 (V.take j)) ∧ Held w wr [(g11, 32, M.mat 256 fun j => (cP f2 k j : Int)), (g10, 32, M.mat 256 fun j => (cP f1 k j : Int))] nilRow es) (fun _ _ t _ => V.length - (intOf t).toNat)
      case atStart => exact ⟨0, Nat.zero_le _, rfl, rfl, rfl, O⟩
      case round =>
        clear O
        obtain ⟨j, hj, rfl, rfl, rfl, O⟩ := hrel
        have q3 : (0 : Int) ≤ j := by omega
        by_cases hjl : j < V.length
        · have q4 : (j : Int) < V.length := by omega
          obtain ⟨v, hv⟩ : ∃ v, V[j]? = some v := ⟨_, List.getElem?_eq_getElem hjl⟩
          have hs1 := isin_snoc p1 V hv
          have hs2 := isin_snoc p2 V hv
          have HV := Lib.hid hv
          clear hv
          obtain ⟨i1, hi1⟩ : ∃ i1, isin p1 (V.take j) = i1 := ⟨_, rfl⟩
          obtain ⟨i2, hi2⟩ : ∃ i2, isin p2 (V.take j) = i2 := ⟨_, rfl⟩
          rw [hi1] at hs1
          rw [hi2] at hs2
          rw [hi1, hi2]
          obtain ⟨r1, hr1⟩ : ∃ r1, (v == p1) = r1 := ⟨_, rfl⟩
          obtain ⟨r2, hr2⟩ : ∃ r2, (v == p2) = r2 := ⟨_, rfl⟩
          rw [hr1] at hs1
          rw [hr2] at hs2
          have g1 : ((v : Int) == (p1 : Int)) = r1 := by rw [← hr1]; exact beq_cast v p1
          have g2 : ((v : Int) == (p2 : Int)) = r2 := by rw [← hr2]; exact beq_cast v p2
          have HS1 := Lib.hid hs1
          have HS2 := Lib.hid hs2
          clear hi1 hi2 hs1 hs2
          cases i1
          · cases i2
            · have HT1 : Hid (isin p1 (V.take (j + 1)) = r1) := by show _ = _; rw [HS1.out]; rfl
              have HT2 : Hid (isin p2 (V.take (j + 1)) = r2) := by show _ = _; rw [HS2.out]; rfl
              go_wp2_with (first | ((with_reducible refine at_index_ 58 ?_); refine wpList_at_h rfl Try.underlying24 sizeOf35 (pE w.heap.size A1 c1 l1) (O.mem MA1) rfl (k) rfl rfl hlt rfl ?_) | ((with_reducible refine at_fld 59 ?_); refine wpList_fld_h rfl (f35_0 _) rfl ?_; rw [add_add']) | ((with_reducible refine at_load 60 ?_); refine wpList_ecell_h rfl (pE w.heap.size A1 c1 l1) (O.mem MA1) ((k) * 3 + 0) (pmcs_at HX.out 0 _ rfl) rfl agg33 rfl ?_) | ((with_reducible refine at_index_ 67 ?_); refine wpList_at_h rfl Try.underlying24 sizeOf35 (pE w.heap.size A2 c2 l2) (O.mem MA2) rfl (k) rfl rfl hlt HB.out.symm ?_) | ((with_reducible refine at_fld 68 ?_); refine wpList_fld_h rfl (f35_0 _) rfl ?_; rw [add_add']) | ((with_reducible refine at_load 69 ?_); refine wpList_ecell_h rfl (pE w.heap.size A2 c2 l2) (O.mem MA2) ((k) * 3 + 0) (pmcs_at HY.out 0 _ rfl) rfl agg33 rfl ?_))
              refine region_T (fun w2 => Held w w2 [(g11, 32, M.mat 256 fun j => (cP f2 k j : Int)), (g10, 32, M.mat 256 fun j => (cP f1 k j : Int))] nilRow es) [0, 1, 2, 3, 4, 5, 6, 7, 8, 9, 10, 11, 12, 13, 14, 15, 16] 12 [some 75, some 76, some 77, some 78, some 79, some 80, some 81, some 82, some 83, some 84, some 85, some 86, some 87, some 88, some 89, some 90, some 91] [.slice A1 l1.length c1, .int .i64 k, .pointer (some ((adr A1).add ((k) * 3))), .pointer (some ((adr A1).add ((k) * 3))), .slice ax.VA V.length ax.Vc, .int .i64 j, .pointer (some ((adr ax.VA).add (j))), .int .i64 v, .slice A2 l1.length c2, .int .i64 k, .pointer (some ((adr A2).add ((k) * 3))), .pointer (some ((adr A2).add ((k) * 3))), .slice ay.VA V.length ay.Vc, .int .i64 j, .pointer (some ((adr ay.VA).add (j))), .int .i64 v, .bool false] 0 (by kernel_rfl) (by rfl) (by kernel_rfl) (by rfl) (by rfl) (O.drew) (fun F hF => ?_)
              simp only [fillD, Act.put, List.setIfInBounds_toArray, List.set_cons_zero, List.set_cons_succ] at hF
              subst hF
              refine ⟨⟨does_want rfl (by rfl) (fun w' O K hK => ?_), does_want rfl (by rfl) (fun w' O K hK => ?_), does_want rfl (by rfl) (fun w' O K hK => ?_), does_want rfl (by rfl) (fun w' O K hK => ?_), does_want rfl (by rfl) (fun w' O K hK => ?_), does_want rfl (by rfl) (fun w' O K hK => ?_), does_want rfl (by rfl) (fun w' O K hK => ?_), does_want rfl (by rfl) (fun w' O K hK => ?_), does_want rfl (by rfl) (fun w' O K hK => ?_), does_want rfl (by rfl) (fun w' O K hK => ?_), does_want rfl (by rfl) (fun w' O K hK => ?_), does_want rfl (by rfl) (fun w' O K hK => ?_), does_want rfl (by rfl) (fun w' O K hK => ?_), does_want rfl (by rfl) (fun w' O K hK => ?_), does_want rfl (by rfl) (fun w' O K hK => ?_), does_want rfl (by rfl) (fun w' O K hK => ?_), does_want rfl (by rfl) (fun w' O K hK => ?_), trivial⟩, fun w' O => ?_⟩
              · go_simp
                exact hK _ O
              · go_simp
                exact hK _ O
              · exact wp_at_h Try.underlying24 sizeOf35 (pE w.heap.size A1 c1 l1) (O.mem MA1) rfl (k) rfl rfl hlt rfl (hK _ O)
              · refine wp_fld_h (f35_0 _) rfl ?_
                rw [add_add']
                exact hK _ O
              · exact wp_ecell_h (pE w.heap.size A1 c1 l1) (O.mem MA1) ((k) * 3 + 0) (pmcs_at HX.out 0 _ rfl) rfl agg33 rfl (hK _ O)
              · go_simp
                exact hK _ O
              · refine wp_at_h Try.underlying33 sizeOf3 (vOf w.heap.size ((⟨V, E, p1⟩, ax) : PA)) (O.mem MV1) rfl (j) rfl rfl hjl rfl ?_
                rw [Nat.mul_one]
                exact hK _ O
              · exact wp_ecell_h (vOf w.heap.size ((⟨V, E, p1⟩, ax) : PA)) (O.mem MV1) (j) (ints_at HV.out) rfl agg3 rfl (hK _ O)
              · go_simp
                exact hK _ O
              · go_simp
                exact hK _ O
              · exact wp_at_h Try.underlying24 sizeOf35 (pE w.heap.size A2 c2 l2) (O.mem MA2) rfl (k) rfl rfl hlt HB.out.symm (hK _ O)
              · refine wp_fld_h (f35_0 _) rfl ?_
                rw [add_add']
                exact hK _ O
              · exact wp_ecell_h (pE w.heap.size A2 c2 l2) (O.mem MA2) ((k) * 3 + 0) (pmcs_at HY.out 0 _ rfl) rfl agg33 rfl (hK _ O)
              · go_simp
                exact hK _ O
              · refine wp_at_h Try.underlying33 sizeOf3 (vOf w.heap.size ((⟨V, E', p2⟩, ay) : PA)) (O.mem MV2) rfl (j) rfl rfl hjl rfl ?_
                rw [Nat.mul_one]
                exact hK _ O
              · exact wp_ecell_h (vOf w.heap.size ((⟨V, E', p2⟩, ay) : PA)) (O.mem MV2) (j) (ints_at HV.out) rfl agg3 rfl (hK _ O)
              · have gn : ((v : Int) != (v : Int)) = false := by simp
                go_simp
                exact hK _ O
              refine wpAny_done (by kernel_rfl) ?_ _
              go_wp2_with fail
              refine region_T (fun w2 => Held w w2 [(g11, 32, M.mat 256 fun j => (cP f2 k j : Int)), (g10, 32, M.mat 256 fun j => (cP f1 k j : Int))] nilRow es) [0, 1, 2, 3, 4, 5, 6, 7, 8, 9, 10, 11, 12, 13, 14, 15, 16] 12 [some 92, some 93, some 94, some 95, some 96, some 97, some 98, some 99, some 100, some 101, some 102, some 103, some 104, some 105, some 106, some 107, some 108] [.bool false, .bool false, .slice A1 l1.length c1, .int .i64 k, .pointer (some ((adr A1).add ((k) * 3))), .pointer (some ((adr A1).add ((k) * 3))), .slice ax.VA V.length ax.Vc, .int .i64 j, .pointer (some ((adr ax.VA).add (j))), .int .i64 v, .slice A1 l1.length c1, .int .i64 k, .pointer (some ((adr A1).add ((k) * 3))), .pointer (some ((adr A1).add ((k) * 3 + 2))), .int .i64 p1, .bool r1, .bool r1] 1 (by kernel_rfl) (by rfl) (by kernel_rfl) (by rfl) (by rfl) (O.drew) (fun F hF => ?_)
              simp only [fillD, Act.put, List.setIfInBounds_toArray, List.set_cons_zero, List.set_cons_succ] at hF
              subst hF
              refine ⟨⟨does_want rfl (by rfl) (fun w' O K hK => ?_), does_want rfl (by rfl) (fun w' O K hK => ?_), does_want rfl (by rfl) (fun w' O K hK => ?_), does_want rfl (by rfl) (fun w' O K hK => ?_), does_want rfl (by rfl) (fun w' O K hK => ?_), does_want rfl (by rfl) (fun w' O K hK => ?_), does_want rfl (by rfl) (fun w' O K hK => ?_), does_want rfl (by rfl) (fun w' O K hK => ?_), does_want rfl (by rfl) (fun w' O K hK => ?_), does_want rfl (by rfl) (fun w' O K hK => ?_), does_want rfl (by rfl) (fun w' O K hK => ?_), does_want rfl (by rfl) (fun w' O K hK => ?_), does_want rfl (by rfl) (fun w' O K hK => ?_), does_want rfl (by rfl) (fun w' O K hK => ?_), does_want rfl (by rfl) (fun w' O K hK => ?_), does_want rfl (by rfl) (fun w' O K hK => ?_), does_want rfl (by rfl) (fun w' O K hK => ?_), trivial⟩, fun w' O => ?_⟩
              · go_simp
                exact hK _ O
              · go_simp
                exact hK _ O
              · go_simp
                exact hK _ O
              · go_simp
                exact hK _ O
              · exact wp_at_h Try.underlying24 sizeOf35 (pE w.heap.size A1 c1 l1) (O.mem MA1) rfl (k) rfl rfl hlt rfl (hK _ O)
              · refine wp_fld_h (f35_0 _) rfl ?_
                rw [add_add']
                exact hK _ O
              · exact wp_ecell_h (pE w.heap.size A1 c1 l1) (O.mem MA1) ((k) * 3 + 0) (pmcs_at HX.out 0 _ rfl) rfl agg33 rfl (hK _ O)
              · go_simp
                exact hK _ O
              · refine wp_at_h Try.underlying33 sizeOf3 (vOf w.heap.size ((⟨V, E, p1⟩, ax) : PA)) (O.mem MV1) rfl (j) rfl rfl hjl rfl ?_
                rw [Nat.mul_one]
                exact hK _ O
              · exact wp_ecell_h (vOf w.heap.size ((⟨V, E, p1⟩, ax) : PA)) (O.mem MV1) (j) (ints_at HV.out) rfl agg3 rfl (hK _ O)
              · go_simp
                exact hK _ O
              · go_simp
                exact hK _ O
              · exact wp_at_h Try.underlying24 sizeOf35 (pE w.heap.size A1 c1 l1) (O.mem MA1) rfl (k) rfl rfl hlt rfl (hK _ O)
              · refine wp_fld_h (f35_2 _) rfl ?_
                rw [add_add']
                exact hK _ O
              · exact wp_ecell_h (pE w.heap.size A1 c1 l1) (O.mem MA1) ((k) * 3 + 2) (pmcs_at HX.out 2 _ rfl) rfl agg3 rfl (hK _ O)
              · go_simp
                try simp only [g1n]
                exact hK _ O
              · go_simp
                exact hK _ O
              refine wpAny_one (i := 17) (by kernel_rfl) rfl (fun K hK => ?_)
              go_simp
              refine hK _ _ ?_
              clear hK K
              try simp only [Act.put, List.setIfInBounds_toArray, List.set_cons_zero, List.set_cons_succ]
              refine wpAny_done (by kernel_rfl) ?_ _
              go_wp2_with fail
              refine region_T (fun w2 => Held w w2 [(g11, 32, M.mat 256 fun j => (cP f2 k j : Int)), (g10, 32, M.mat 256 fun j => (cP f1 k j : Int))] nilRow es) [0, 1, 2, 3, 4, 5, 6, 7, 8, 9, 10, 11, 12, 13, 14, 15, 16] 12 [some 109, some 110, some 111, some 112, some 113, some 114, some 115, some 116, some 117, some 118, some 119, some 120, some 121, some 122, some 123, some 124, some 125] [.bool false, .bool false, .slice A2 l1.length c2, .int .i64 k, .pointer (some ((adr A2).add ((k) * 3))), .pointer (some ((adr A2).add ((k) * 3))), .slice ay.VA V.length ay.Vc, .int .i64 j, .pointer (some ((adr ay.VA).add (j))), .int .i64 v, .slice A2 l1.length c2, .int .i64 k, .pointer (some ((adr A2).add ((k) * 3))), .pointer (some ((adr A2).add ((k) * 3 + 2))), .int .i64 p2, .bool r2, .bool r2] 1 (by kernel_rfl) (by rfl) (by kernel_rfl) (by rfl) (by rfl) (O.drew) (fun F hF => ?_)
              simp only [fillD, Act.put, List.setIfInBounds_toArray, List.set_cons_zero, List.set_cons_succ] at hF
              subst hF
              refine ⟨⟨does_want rfl (by rfl) (fun w' O K hK => ?_), does_want rfl (by rfl) (fun w' O K hK => ?_), does_want rfl (by rfl) (fun w' O K hK => ?_), does_want rfl (by rfl) (fun w' O K hK => ?_), does_want rfl (by rfl) (fun w' O K hK => ?_), does_want rfl (by rfl) (fun w' O K hK => ?_), does_want rfl (by rfl) (fun w' O K hK => ?_), does_want rfl (by rfl) (fun w' O K hK => ?_), does_want rfl (by rfl) (fun w' O K hK => ?_), does_want rfl (by rfl) (fun w' O K hK => ?_), does_want rfl (by rfl) (fun w' O K hK => ?_), does_want rfl (by rfl) (fun w' O K hK => ?_), does_want rfl (by rfl) (fun w' O K hK => ?_), does_want rfl (by rfl) (fun w' O K hK => ?_), does_want rfl (by rfl) (fun w' O K hK => ?_), does_want rfl (by rfl) (fun w' O K hK => ?_), does_want rfl (by rfl) (fun w' O K hK => ?_), trivial⟩, fun w' O => ?_⟩
              · go_simp
                exact hK _ O
              · go_simp
                exact hK _ O
              · go_simp
                exact hK _ O
              · go_simp
                exact hK _ O
              · exact wp_at_h Try.underlying24 sizeOf35 (pE w.heap.size A2 c2 l2) (O.mem MA2) rfl (k) rfl rfl hlt HB.out.symm (hK _ O)
              · refine wp_fld_h (f35_0 _) rfl ?_
                rw [add_add']
                exact hK _ O
              · exact wp_ecell_h (pE w.heap.size A2 c2 l2) (O.mem MA2) ((k) * 3 + 0) (pmcs_at HY.out 0 _ rfl) rfl agg33 rfl (hK _ O)
              · go_simp
                exact hK _ O
              · refine wp_at_h Try.underlying33 sizeOf3 (vOf w.heap.size ((⟨V, E', p2⟩, ay) : PA)) (O.mem MV2) rfl (j) rfl rfl hjl rfl ?_
                rw [Nat.mul_one]
                exact hK _ O
              · exact wp_ecell_h (vOf w.heap.size ((⟨V, E', p2⟩, ay) : PA)) (O.mem MV2) (j) (ints_at HV.out) rfl agg3 rfl (hK _ O)
              · go_simp
                exact hK _ O
              · go_simp
                exact hK _ O
              · exact wp_at_h Try.underlying24 sizeOf35 (pE w.heap.size A2 c2 l2) (O.mem MA2) rfl (k) rfl rfl hlt HB.out.symm (hK _ O)
              · refine wp_fld_h (f35_2 _) rfl ?_
                rw [add_add']
                exact hK _ O
              · exact wp_ecell_h (pE w.heap.size A2 c2 l2) (O.mem MA2) ((k) * 3 + 2) (pmcs_at HY.out 2 _ rfl) rfl agg3 rfl (hK _ O)
              · go_simp
                try simp only [g2n]
                exact hK _ O
              · go_simp
                exact hK _ O
              refine wpAny_one (i := 17) (by kernel_rfl) rfl (fun K hK => ?_)
              go_simp
              refine hK _ _ ?_
              clear hK K
              try simp only [Act.put, List.setIfInBounds_toArray, List.set_cons_zero, List.set_cons_succ]
              refine wpAny_done (by kernel_rfl) ?_ _
              go_wp2_with fail
              go_roundw
              case rel => first | exact ⟨j + 1, by omega, by go_num, by rw [HT1.out], by rw [HT2.out], O⟩ | ((repeat apply Exists.intro); exact ⟨⟨j + 1, by omega, by go_num, by rw [HT1.out], by rw [HT2.out], O⟩, rfl⟩)
              case measure => simp [intOf]; omega
            · have HT1 : Hid (isin p1 (V.take (j + 1)) = r1) := by show _ = _; rw [HS1.out]; rfl
              have HT2 : Hid (isin p2 (V.take (j + 1)) = true) := by show _ = _; rw [HS2.out]; rfl
              go_wp2_with (first | ((with_reducible refine at_index_ 58 ?_); refine wpList_at_h rfl Try.underlying24 sizeOf35 (pE w.heap.size A1 c1 l1) (O.mem MA1) rfl (k) rfl rfl hlt rfl ?_) | ((with_reducible refine at_fld 59 ?_); refine wpList_fld_h rfl (f35_0 _) rfl ?_; rw [add_add']) | ((with_reducible refine at_load 60 ?_); refine wpList_ecell_h rfl (pE w.heap.size A1 c1 l1) (O.mem MA1) ((k) * 3 + 0) (pmcs_at HX.out 0 _ rfl) rfl agg33 rfl ?_) | ((with_reducible refine at_index_ 67 ?_); refine wpList_at_h rfl Try.underlying24 sizeOf35 (pE w.heap.size A2 c2 l2) (O.mem MA2) rfl (k) rfl rfl hlt HB.out.symm ?_) | ((with_reducible refine at_fld 68 ?_); refine wpList_fld_h rfl (f35_0 _) rfl ?_; rw [add_add']) | ((with_reducible refine at_load 69 ?_); refine wpList_ecell_h rfl (pE w.heap.size A2 c2 l2) (O.mem MA2) ((k) * 3 + 0) (pmcs_at HY.out 0 _ rfl) rfl agg33 rfl ?_))
              refine region_T (fun w2 => Held w w2 [(g11, 32, M.mat 256 fun j => (cP f2 k j : Int)), (g10, 32, M.mat 256 fun j => (cP f1 k j : Int))] nilRow es) [0, 1, 2, 3, 4, 5, 6, 7, 8, 9, 10, 11, 12, 13, 14, 15, 16] 12 [some 75, some 76, some 77, some 78, some 79, some 80, some 81, some 82, some 83, some 84, some 85, some 86, some 87, some 88, some 89, some 90, some 91] [.slice A1 l1.length c1, .int .i64 k, .pointer (some ((adr A1).add ((k) * 3))), .pointer (some ((adr A1).add ((k) * 3))), .slice ax.VA V.length ax.Vc, .int .i64 j, .pointer (some ((adr ax.VA).add (j))), .int .i64 v, .slice A2 l1.length c2, .int .i64 k, .pointer (some ((adr A2).add ((k) * 3))), .pointer (some ((adr A2).add ((k) * 3))), .slice ay.VA V.length ay.Vc, .int .i64 j, .pointer (some ((adr ay.VA).add (j))), .int .i64 v, .bool false] 0 (by kernel_rfl) (by rfl) (by kernel_rfl) (by rfl) (by rfl) (O.drew) (fun F hF => ?_)
              simp only [fillD, Act.put, List.setIfInBounds_toArray, List.set_cons_zero, List.set_cons_succ] at hF
              subst hF
              refine ⟨⟨does_want rfl (by rfl) (fun w' O K hK => ?_), does_want rfl (by rfl) (fun w' O K hK => ?_), does_want rfl (by rfl) (fun w' O K hK => ?_), does_want rfl (by rfl) (fun w' O K hK => ?_), does_want rfl (by rfl) (fun w' O K hK => ?_), does_want rfl (by rfl) (fun w' O K hK => ?_), does_want rfl (by rfl) (fun w' O K hK => ?_), does_want rfl (by rfl) (fun w' O K hK => ?_), does_want rfl (by rfl) (fun w' O K hK => ?_), does_want rfl (by rfl) (fun w' O K hK => ?_), does_want rfl (by rfl) (fun w' O K hK => ?_), does_want rfl (by rfl) (fun w' O K hK => ?_), does_want rfl (by rfl) (fun w' O K hK => ?_), does_want rfl (by rfl) (fun w' O K hK => ?_), does_want rfl (by rfl) (fun w' O K hK => ?_), does_want rfl (by rfl) (fun w' O K hK => ?_), does_want rfl (by rfl) (fun w' O K hK => ?_), trivial⟩, fun w' O => ?_⟩
              · go_simp
                exact hK _ O
              · go_simp
                exact hK _ O
              · exact wp_at_h Try.underlying24 sizeOf35 (pE w.heap.size A1 c1 l1) (O.mem MA1) rfl (k) rfl rfl hlt rfl (hK _ O)
              · refine wp_fld_h (f35_0 _) rfl ?_
                rw [add_add']
                exact hK _ O
              · exact wp_ecell_h (pE w.heap.size A1 c1 l1) (O.mem MA1) ((k) * 3 + 0) (pmcs_at HX.out 0 _ rfl) rfl agg33 rfl (hK _ O)
              · go_simp
                exact hK _ O
              · refine wp_at_h Try.underlying33 sizeOf3 (vOf w.heap.size ((⟨V, E, p1⟩, ax) : PA)) (O.mem MV1) rfl (j) rfl rfl hjl rfl ?_
                rw [Nat.mul_one]
                exact hK _ O
              · exact wp_ecell_h (vOf w.heap.size ((⟨V, E, p1⟩, ax) : PA)) (O.mem MV1) (j) (ints_at HV.out) rfl agg3 rfl (hK _ O)
              · go_simp
                exact hK _ O
              · go_simp
                exact hK _ O
              · exact wp_at_h Try.underlying24 sizeOf35 (pE w.heap.size A2 c2 l2) (O.mem MA2) rfl (k) rfl rfl hlt HB.out.symm (hK _ O)
              · refine wp_fld_h (f35_0 _) rfl ?_
                rw [add_add']
                exact hK _ O
              · exact wp_ecell_h (pE w.heap.size A2 c2 l2) (O.mem MA2) ((k) * 3 + 0) (pmcs_at HY.out 0 _ rfl) rfl agg33 rfl (hK _ O)
              · go_simp
                exact hK _ O
              · refine wp_at_h Try.underlying33 sizeOf3 (vOf w.heap.size ((⟨V, E', p2⟩, ay) : PA)) (O.mem MV2) rfl (j) rfl rfl hjl rfl ?_
                rw [Nat.mul_one]
                exact hK _ O
              · exact wp_ecell_h (vOf w.heap.size ((⟨V, E', p2⟩, ay) : PA)) (O.mem MV2) (j) (ints_at HV.out) rfl agg3 rfl (hK _ O)
              · have gn : ((v : Int) != (v : Int)) = false := by simp
                go_simp
                exact hK _ O
              refine wpAny_done (by kernel_rfl) ?_ _
              go_wp2_with fail
              refine region_T (fun w2 => Held w w2 [(g11, 32, M.mat 256 fun j => (cP f2 k j : Int)), (g10, 32, M.mat 256 fun j => (cP f1 k j : Int))] nilRow es) [0, 1, 2, 3, 4, 5, 6, 7, 8, 9, 10, 11, 12, 13, 14, 15, 16] 12 [some 92, some 93, some 94, some 95, some 96, some 97, some 98, some 99, some 100, some 101, some 102, some 103, some 104, some 105, some 106, some 107, some 108] [.bool false, .bool false, .slice A1 l1.length c1, .int .i64 k, .pointer (some ((adr A1).add ((k) * 3))), .pointer (some ((adr A1).add ((k) * 3))), .slice ax.VA V.length ax.Vc, .int .i64 j, .pointer (some ((adr ax.VA).add (j))), .int .i64 v, .slice A1 l1.length c1, .int .i64 k, .pointer (some ((adr A1).add ((k) * 3))), .pointer (some ((adr A1).add ((k) * 3 + 2))), .int .i64 p1, .bool r1, .bool r1] 1 (by kernel_rfl) (by rfl) (by kernel_rfl) (by rfl) (by rfl) (O.drew) (fun F hF => ?_)
              simp only [fillD, Act.put, List.setIfInBounds_toArray, List.set_cons_zero, List.set_cons_succ] at hF
              subst hF
              refine ⟨⟨does_want rfl (by rfl) (fun w' O K hK => ?_), does_want rfl (by rfl) (fun w' O K hK => ?_), does_want rfl (by rfl) (fun w' O K hK => ?_), does_want rfl (by rfl) (fun w' O K hK => ?_), does_want rfl (by rfl) (fun w' O K hK => ?_), does_want rfl (by rfl) (fun w' O K hK => ?_), does_want rfl (by rfl) (fun w' O K hK => ?_), does_want rfl (by rfl) (fun w' O K hK => ?_), does_want rfl (by rfl) (fun w' O K hK => ?_), does_want rfl (by rfl) (fun w' O K hK => ?_), does_want rfl (by rfl) (fun w' O K hK => ?_), does_want rfl (by rfl) (fun w' O K hK => ?_), does_want rfl (by rfl) (fun w' O K hK => ?_), does_want rfl (by rfl) (fun w' O K hK => ?_), does_want rfl (by rfl) (fun w' O K hK => ?_), does_want rfl (by rfl) (fun w' O K hK => ?_), does_want rfl (by rfl) (fun w' O K hK => ?_), trivial⟩, fun w' O => ?_⟩
              · go_simp
                exact hK _ O
              · go_simp
                exact hK _ O
              · go_simp
                exact hK _ O
              · go_simp
                exact hK _ O
              · exact wp_at_h Try.underlying24 sizeOf35 (pE w.heap.size A1 c1 l1) (O.mem MA1) rfl (k) rfl rfl hlt rfl (hK _ O)
              · refine wp_fld_h (f35_0 _) rfl ?_
                rw [add_add']
                exact hK _ O
              · exact wp_ecell_h (pE w.heap.size A1 c1 l1) (O.mem MA1) ((k) * 3 + 0) (pmcs_at HX.out 0 _ rfl) rfl agg33 rfl (hK _ O)
              · go_simp
                exact hK _ O
              · refine wp_at_h Try.underlying33 sizeOf3 (vOf w.heap.size ((⟨V, E, p1⟩, ax) : PA)) (O.mem MV1) rfl (j) rfl rfl hjl rfl ?_
                rw [Nat.mul_one]
                exact hK _ O
              · exact wp_ecell_h (vOf w.heap.size ((⟨V, E, p1⟩, ax) : PA)) (O.mem MV1) (j) (ints_at HV.out) rfl agg3 rfl (hK _ O)
              · go_simp
                exact hK _ O
              · go_simp
                exact hK _ O
              · exact wp_at_h Try.underlying24 sizeOf35 (pE w.heap.size A1 c1 l1) (O.mem MA1) rfl (k) rfl rfl hlt rfl (hK _ O)
              · refine wp_fld_h (f35_2 _) rfl ?_
                rw [add_add']
                exact hK _ O
              · exact wp_ecell_h (pE w.heap.size A1 c1 l1) (O.mem MA1) ((k) * 3 + 2) (pmcs_at HX.out 2 _ rfl) rfl agg3 rfl (hK _ O)
              · go_simp
                try simp only [g1n]
                exact hK _ O
              · go_simp
                exact hK _ O
              refine wpAny_one (i := 17) (by kernel_rfl) rfl (fun K hK => ?_)
              go_simp
              refine hK _ _ ?_
              clear hK K
              try simp only [Act.put, List.setIfInBounds_toArray, List.set_cons_zero, List.set_cons_succ]
              refine wpAny_done (by kernel_rfl) ?_ _
              go_wp2_with fail
              refine region_T (fun w2 => Held w w2 [(g11, 32, M.mat 256 fun j => (cP f2 k j : Int)), (g10, 32, M.mat 256 fun j => (cP f1 k j : Int))] nilRow es) [0, 1, 2, 3, 4, 5, 6, 7, 8, 9, 10, 11, 12, 13, 14, 15, 16] 12 [some 109, some 110, some 111, some 112, some 113, some 114, some 115, some 116, some 117, some 118, some 119, some 120, some 121, some 122, some 123, some 124, some 125] [.bool true, .bool true, undef, undef, undef, undef, undef, undef, undef, undef, undef, undef, undef, undef, undef, undef, .bool true] 1 (by kernel_rfl) (by rfl) (by kernel_rfl) (by rfl) (by rfl) (O.drew) (fun F hF => ?_)
              simp only [fillD, Act.put, List.setIfInBounds_toArray, List.set_cons_zero, List.set_cons_succ] at hF
              subst hF
              refine ⟨⟨does_want rfl (by rfl) (fun w' O K hK => ?_), does_want rfl (by rfl) (fun w' O K hK => ?_), does_skip rfl (by rfl), does_skip rfl (by rfl), does_skip rfl (by rfl), does_skip rfl (by rfl), does_skip rfl (by rfl), does_skip rfl (by rfl), does_skip rfl (by rfl), does_skip rfl (by rfl), does_skip rfl (by rfl), does_skip rfl (by rfl), does_skip rfl (by rfl), does_skip rfl (by rfl), does_skip rfl (by rfl), does_skip rfl (by rfl), does_want rfl (by rfl) (fun w' O K hK => ?_), trivial⟩, fun w' O => ?_⟩
              · go_simp
                exact hK _ O
              · go_simp
                exact hK _ O
              · go_simp
                exact hK _ O
              refine wpAny_one (i := 17) (by kernel_rfl) rfl (fun K hK => ?_)
              go_simp
              refine hK _ _ ?_
              clear hK K
              try simp only [Act.put, List.setIfInBounds_toArray, List.set_cons_zero, List.set_cons_succ]
              refine wpAny_done (by kernel_rfl) ?_ _
              go_wp2_with fail
              go_roundw
              case rel => first | exact ⟨j + 1, by omega, by go_num, by rw [HT1.out], by rw [HT2.out], O⟩ | ((repeat apply Exists.intro); exact ⟨⟨j + 1, by omega, by go_num, by rw [HT1.out], by rw [HT2.out], O⟩, rfl⟩)
              case measure => simp [intOf]; omega
          · cases i2
            · have HT1 : Hid (isin p1 (V.take (j + 1)) = true) := by show _ = _; rw [HS1.out]; rfl
              have HT2 : Hid (isin p2 (V.take (j + 1)) = r2) := by show _ = _; rw [HS2.out]; rfl
              go_wp2_with (first | ((with_reducible refine at_index_ 58 ?_); refine wpList_at_h rfl Try.underlying24 sizeOf35 (pE w.heap.size A1 c1 l1) (O.mem MA1) rfl (k) rfl rfl hlt rfl ?_) | ((with_reducible refine at_fld 59 ?_); refine wpList_fld_h rfl (f35_0 _) rfl ?_; rw [add_add']) | ((with_reducible refine at_load 60 ?_); refine wpList_ecell_h rfl (pE w.heap.size A1 c1 l1) (O.mem MA1) ((k) * 3 + 0) (pmcs_at HX.out 0 _ rfl) rfl agg33 rfl ?_) | ((with_reducible refine at_index_ 67 ?_); refine wpList_at_h rfl Try.underlying24 sizeOf35 (pE w.heap.size A2 c2 l2) (O.mem MA2) rfl (k) rfl rfl hlt HB.out.symm ?_) | ((with_reducible refine at_fld 68 ?_); refine wpList_fld_h rfl (f35_0 _) rfl ?_; rw [add_add']) | ((with_reducible refine at_load 69 ?_); refine wpList_ecell_h rfl (pE w.heap.size A2 c2 l2) (O.mem MA2) ((k) * 3 + 0) (pmcs_at HY.out 0 _ rfl) rfl agg33 rfl ?_))
              refine region_T (fun w2 => Held w w2 [(g11, 32, M.mat 256 fun j => (cP f2 k j : Int)), (g10, 32, M.mat 256 fun j => (cP f1 k j : Int))] nilRow es) [0, 1, 2, 3, 4, 5, 6, 7, 8, 9, 10, 11, 12, 13, 14, 15, 16] 12 [some 75, some 76, some 77, some 78, some 79, some 80, some 81, some 82, some 83, some 84, some 85, some 86, some 87, some 88, some 89, some 90, some 91] [.slice A1 l1.length c1, .int .i64 k, .pointer (some ((adr A1).add ((k) * 3))), .pointer (some ((adr A1).add ((k) * 3))), .slice ax.VA V.length ax.Vc, .int .i64 j, .pointer (some ((adr ax.VA).add (j))), .int .i64 v, .slice A2 l1.length c2, .int .i64 k, .pointer (some ((adr A2).add ((k) * 3))), .pointer (some ((adr A2).add ((k) * 3))), .slice ay.VA V.length ay.Vc, .int .i64 j, .pointer (some ((adr ay.VA).add (j))), .int .i64 v, .bool false] 0 (by kernel_rfl) (by rfl) (by kernel_rfl) (by rfl) (by rfl) (O.drew) (fun F hF => ?_)
              simp only [fillD, Act.put, List.setIfInBounds_toArray, List.set_cons_zero, List.set_cons_succ] at hF
              subst hF
              refine ⟨⟨does_want rfl (by rfl) (fun w' O K hK => ?_), does_want rfl (by rfl) (fun w' O K hK => ?_), does_want rfl (by rfl) (fun w' O K hK => ?_), does_want rfl (by rfl) (fun w' O K hK => ?_), does_want rfl (by rfl) (fun w' O K hK => ?_), does_want rfl (by rfl) (fun w' O K hK => ?_), does_want rfl (by rfl) (fun w' O K hK => ?_), does_want rfl (by rfl) (fun w' O K hK => ?_), does_want rfl (by rfl) (fun w' O K hK => ?_), does_want rfl (by rfl) (fun w' O K hK => ?_), does_want rfl (by rfl) (fun w' O K hK => ?_), does_want rfl (by rfl) (fun w' O K hK => ?_), does_want rfl (by rfl) (fun w' O K hK => ?_), does_want rfl (by rfl) (fun w' O K hK => ?_), does_want rfl (by rfl) (fun w' O K hK => ?_), does_want rfl (by rfl) (fun w' O K hK => ?_), does_want rfl (by rfl) (fun w' O K hK => ?_), trivial⟩, fun w' O => ?_⟩
              · go_simp
                exact hK _ O
              · go_simp
                exact hK _ O
              · exact wp_at_h Try.underlying24 sizeOf35 (pE w.heap.size A1 c1 l1) (O.mem MA1) rfl (k) rfl rfl hlt rfl (hK _ O)
              · refine wp_fld_h (f35_0 _) rfl ?_
                rw [add_add']
                exact hK _ O
              · exact wp_ecell_h (pE w.heap.size A1 c1 l1) (O.mem MA1) ((k) * 3 + 0) (pmcs_at HX.out 0 _ rfl) rfl agg33 rfl (hK _ O)
              · go_simp
                exact hK _ O
              · refine wp_at_h Try.underlying33 sizeOf3 (vOf w.heap.size ((⟨V, E, p1⟩, ax) : PA)) (O.mem MV1) rfl (j) rfl rfl hjl rfl ?_
                rw [Nat.mul_one]
                exact hK _ O
              · exact wp_ecell_h (vOf w.heap.size ((⟨V, E, p1⟩, ax) : PA)) (O.mem MV1) (j) (ints_at HV.out) rfl agg3 rfl (hK _ O)
              · go_simp
                exact hK _ O
              · go_simp
                exact hK _ O
              · exact wp_at_h Try.underlying24 sizeOf35 (pE w.heap.size A2 c2 l2) (O.mem MA2) rfl (k) rfl rfl hlt HB.out.symm (hK _ O)
              · refine wp_fld_h (f35_0 _) rfl ?_
                rw [add_add']
                exact hK _ O
              · exact wp_ecell_h (pE w.heap.size A2 c2 l2) (O.mem MA2) ((k) * 3 + 0) (pmcs_at HY.out 0 _ rfl) rfl agg33 rfl (hK _ O)
              · go_simp
                exact hK _ O
              · refine wp_at_h Try.underlying33 sizeOf3 (vOf w.heap.size ((⟨V, E', p2⟩, ay) : PA)) (O.mem MV2) rfl (j) rfl rfl hjl rfl ?_
                rw [Nat.mul_one]
                exact hK _ O
              · exact wp_ecell_h (vOf w.heap.size ((⟨V, E', p2⟩, ay) : PA)) (O.mem MV2) (j) (ints_at HV.out) rfl agg3 rfl (hK _ O)
              · have gn : ((v : Int) != (v : Int)) = false := by simp
                go_simp
                exact hK _ O
              refine wpAny_done (by kernel_rfl) ?_ _
              go_wp2_with fail
              refine region_T (fun w2 => Held w w2 [(g11, 32, M.mat 256 fun j => (cP f2 k j : Int)), (g10, 32, M.mat 256 fun j => (cP f1 k j : Int))] nilRow es) [0, 1, 2, 3, 4, 5, 6, 7, 8, 9, 10, 11, 12, 13, 14, 15, 16] 12 [some 92, some 93, some 94, some 95, some 96, some 97, some 98, some 99, some 100, some 101, some 102, some 103, some 104, some 105, some 106, some 107, some 108] [.bool true, .bool true, undef, undef, undef, undef, undef, undef, undef, undef, undef, undef, undef, undef, undef, undef, .bool true] 1 (by kernel_rfl) (by rfl) (by kernel_rfl) (by rfl) (by rfl) (O.drew) (fun F hF => ?_)
              simp only [fillD, Act.put, List.setIfInBounds_toArray, List.set_cons_zero, List.set_cons_succ] at hF
              subst hF
              refine ⟨⟨does_want rfl (by rfl) (fun w' O K hK => ?_), does_want rfl (by rfl) (fun w' O K hK => ?_), does_skip rfl (by rfl), does_skip rfl (by rfl), does_skip rfl (by rfl), does_skip rfl (by rfl), does_skip rfl (by rfl), does_skip rfl (by rfl), does_skip rfl (by rfl), does_skip rfl (by rfl), does_skip rfl (by rfl), does_skip rfl (by rfl), does_skip rfl (by rfl), does_skip rfl (by rfl), does_skip rfl (by rfl), does_skip rfl (by rfl), does_want rfl (by rfl) (fun w' O K hK => ?_), trivial⟩, fun w' O => ?_⟩
              · go_simp
                exact hK _ O
              · go_simp
                exact hK _ O
              · go_simp
                exact hK _ O
              refine wpAny_one (i := 17) (by kernel_rfl) rfl (fun K hK => ?_)
              go_simp
              refine hK _ _ ?_
              clear hK K
              try simp only [Act.put, List.setIfInBounds_toArray, List.set_cons_zero, List.set_cons_succ]
              refine wpAny_done (by kernel_rfl) ?_ _
              go_wp2_with fail
              refine region_T (fun w2 => Held w w2 [(g11, 32, M.mat 256 fun j => (cP f2 k j : Int)), (g10, 32, M.mat 256 fun j => (cP f1 k j : Int))] nilRow es) [0, 1, 2, 3, 4, 5, 6, 7, 8, 9, 10, 11, 12, 13, 14, 15, 16] 12 [some 109, some 110, some 111, some 112, some 113, some 114, some 115, some 116, some 117, some 118, some 119, some 120, some 121, some 122, some 123, some 124, some 125] [.bool false, .bool false, .slice A2 l1.length c2, .int .i64 k, .pointer (some ((adr A2).add ((k) * 3))), .pointer (some ((adr A2).add ((k) * 3))), .slice ay.VA V.length ay.Vc, .int .i64 j, .pointer (some ((adr ay.VA).add (j))), .int .i64 v, .slice A2 l1.length c2, .int .i64 k, .pointer (some ((adr A2).add ((k) * 3))), .pointer (some ((adr A2).add ((k) * 3 + 2))), .int .i64 p2, .bool r2, .bool r2] 1 (by kernel_rfl) (by rfl) (by kernel_rfl) (by rfl) (by rfl) (O.drew) (fun F hF => ?_)
              simp only [fillD, Act.put, List.setIfInBounds_toArray, List.set_cons_zero, List.set_cons_succ] at hF
              subst hF
              refine ⟨⟨does_want rfl (by rfl) (fun w' O K hK => ?_), does_want rfl (by rfl) (fun w' O K hK => ?_), does_want rfl (by rfl) (fun w' O K hK => ?_), does_want rfl (by rfl) (fun w' O K hK => ?_), does_want rfl (by rfl) (fun w' O K hK => ?_), does_want rfl (by rfl) (fun w' O K hK => ?_), does_want rfl (by rfl) (fun w' O K hK => ?_), does_want rfl (by rfl) (fun w' O K hK => ?_), does_want rfl (by rfl) (fun w' O K hK => ?_), does_want rfl (by rfl) (fun w' O K hK => ?_), does_want rfl (by rfl) (fun w' O K hK => ?_), does_want rfl (by rfl) (fun w' O K hK => ?_), does_want rfl (by rfl) (fun w' O K hK => ?_), does_want rfl (by rfl) (fun w' O K hK => ?_), does_want rfl (by rfl) (fun w' O K hK => ?_), does_want rfl (by rfl) (fun w' O K hK => ?_), does_want rfl (by rfl) (fun w' O K hK => ?_), trivial⟩, fun w' O => ?_⟩
              · go_simp
                exact hK _ O
              · go_simp
                exact hK _ O
              · go_simp
                exact hK _ O
              · go_simp
                exact hK _ O
              · exact wp_at_h Try.underlying24 sizeOf35 (pE w.heap.size A2 c2 l2) (O.mem MA2) rfl (k) rfl rfl hlt HB.out.symm (hK _ O)
              · refine wp_fld_h (f35_0 _) rfl ?_
                rw [add_add']
                exact hK _ O
              · exact wp_ecell_h (pE w.heap.size A2 c2 l2) (O.mem MA2) ((k) * 3 + 0) (pmcs_at HY.out 0 _ rfl) rfl agg33 rfl (hK _ O)
              · go_simp
                exact hK _ O
              · refine wp_at_h Try.underlying33 sizeOf3 (vOf w.heap.size ((⟨V, E', p2⟩, ay) : PA)) (O.mem MV2) rfl (j) rfl rfl hjl rfl ?_
                rw [Nat.mul_one]
                exact hK _ O
              · exact wp_ecell_h (vOf w.heap.size ((⟨V, E', p2⟩, ay) : PA)) (O.mem MV2) (j) (ints_at HV.out) rfl agg3 rfl (hK _ O)
              · go_simp
                exact hK _ O
              · go_simp
                exact hK _ O
              · exact wp_at_h Try.underlying24 sizeOf35 (pE w.heap.size A2 c2 l2) (O.mem MA2) rfl (k) rfl rfl hlt HB.out.symm (hK _ O)
              · refine wp_fld_h (f35_2 _) rfl ?_
                rw [add_add']
                exact hK _ O
              · exact wp_ecell_h (pE w.heap.size A2 c2 l2) (O.mem MA2) ((k) * 3 + 2) (pmcs_at HY.out 2 _ rfl) rfl agg3 rfl (hK _ O)
              · go_simp
                try simp only [g2n]
                exact hK _ O
              · go_simp
                exact hK _ O
              refine wpAny_one (i := 17) (by kernel_rfl) rfl (fun K hK => ?_)
              go_simp
              refine hK _ _ ?_
              clear hK K
              try simp only [Act.put, List.setIfInBounds_toArray, List.set_cons_zero, List.set_cons_succ]
              refine wpAny_done (by kernel_rfl) ?_ _
              go_wp2_with fail
              go_roundw
              case rel => first | exact ⟨j + 1, by omega, by go_num, by rw [HT1.out], by rw [HT2.out], O⟩ | ((repeat apply Exists.intro); exact ⟨⟨j + 1, by omega, by go_num, by rw [HT1.out], by rw [HT2.out], O⟩, rfl⟩)
              case measure => simp [intOf]; omega
            · have HT1 : Hid (isin p1 (V.take (j + 1)) = true) := by show _ = _; rw [HS1.out]; rfl
              have HT2 : Hid (isin p2 (V.take (j + 1)) = true) := by show _ = _; rw [HS2.out]; rfl
              go_wp2_with (first | ((with_reducible refine at_index_ 58 ?_); refine wpList_at_h rfl Try.underlying24 sizeOf35 (pE w.heap.size A1 c1 l1) (O.mem MA1) rfl (k) rfl rfl hlt rfl ?_) | ((with_reducible refine at_fld 59 ?_); refine wpList_fld_h rfl (f35_0 _) rfl ?_; rw [add_add']) | ((with_reducible refine at_load 60 ?_); refine wpList_ecell_h rfl (pE w.heap.size A1 c1 l1) (O.mem MA1) ((k) * 3 + 0) (pmcs_at HX.out 0 _ rfl) rfl agg33 rfl ?_) | ((with_reducible refine at_index_ 67 ?_); refine wpList_at_h rfl Try.underlying24 sizeOf35 (pE w.heap.size A2 c2 l2) (O.mem MA2) rfl (k) rfl rfl hlt HB.out.symm ?_) | ((with_reducible refine at_fld 68 ?_); refine wpList_fld_h rfl (f35_0 _) rfl ?_; rw [add_add']) | ((with_reducible refine at_load 69 ?_); refine wpList_ecell_h rfl (pE w.heap.size A2 c2 l2) (O.mem MA2) ((k) * 3 + 0) (pmcs_at HY.out 0 _ rfl) rfl agg33 rfl ?_))
              refine region_T (fun w2 => Held w w2 [(g11, 32, M.mat 256 fun j => (cP f2 k j : Int)), (g10, 32, M.mat 256 fun j => (cP f1 k j : Int))] nilRow es) [0, 1, 2, 3, 4, 5, 6, 7, 8, 9, 10, 11, 12, 13, 14, 15, 16] 12 [some 75, some 76, some 77, some 78, some 79, some 80, some 81, some 82, some 83, some 84, some 85, some 86, some 87, some 88, some 89, some 90, some 91] [.slice A1 l1.length c1, .int .i64 k, .pointer (some ((adr A1).add ((k) * 3))), .pointer (some ((adr A1).add ((k) * 3))), .slice ax.VA V.length ax.Vc, .int .i64 j, .pointer (some ((adr ax.VA).add (j))), .int .i64 v, .slice A2 l1.length c2, .int .i64 k, .pointer (some ((adr A2).add ((k) * 3))), .pointer (some ((adr A2).add ((k) * 3))), .slice ay.VA V.length ay.Vc, .int .i64 j, .pointer (some ((adr ay.VA).add (j))), .int .i64 v, .bool false] 0 (by kernel_rfl) (by rfl) (by kernel_rfl) (by rfl) (by rfl) (O.drew) (fun F hF => ?_)
              simp only [fillD, Act.put, List.setIfInBounds_toArray, List.set_cons_zero, List.set_cons_succ] at hF
              subst hF
              refine ⟨⟨does_want rfl (by rfl) (fun w' O K hK => ?_), does_want rfl (by rfl) (fun w' O K hK => ?_), does_want rfl (by rfl) (fun w' O K hK => ?_), does_want rfl (by rfl) (fun w' O K hK => ?_), does_want rfl (by rfl) (fun w' O K hK => ?_), does_want rfl (by rfl) (fun w' O K hK => ?_), does_want rfl (by rfl) (fun w' O K hK => ?_), does_want rfl (by rfl) (fun w' O K hK => ?_), does_want rfl (by rfl) (fun w' O K hK => ?_), does_want rfl (by rfl) (fun w' O K hK => ?_), does_want rfl (by rfl) (fun w' O K hK => ?_), does_want rfl (by rfl) (fun w' O K hK => ?_), does_want rfl (by rfl) (fun w' O K hK => ?_), does_want rfl (by rfl) (fun w' O K hK => ?_), does_want rfl (by rfl) (fun w' O K hK => ?_), does_want rfl (by rfl) (fun w' O K hK => ?_), does_want rfl (by rfl) (fun w' O K hK => ?_), trivial⟩, fun w' O => ?_⟩
              · go_simp
                exact hK _ O
              · go_simp
                exact hK _ O
              · exact wp_at_h Try.underlying24 sizeOf35 (pE w.heap.size A1 c1 l1) (O.mem MA1) rfl (k) rfl rfl hlt rfl (hK _ O)
              · refine wp_fld_h (f35_0 _) rfl ?_
                rw [add_add']
                exact hK _ O
              · exact wp_ecell_h (pE w.heap.size A1 c1 l1) (O.mem MA1) ((k) * 3 + 0) (pmcs_at HX.out 0 _ rfl) rfl agg33 rfl (hK _ O)
              · go_simp
                exact hK _ O
              · refine wp_at_h Try.underlying33 sizeOf3 (vOf w.heap.size ((⟨V, E, p1⟩, ax) : PA)) (O.mem MV1) rfl (j) rfl rfl hjl rfl ?_
                rw [Nat.mul_one]
                exact hK _ O
              · exact wp_ecell_h (vOf w.heap.size ((⟨V, E, p1⟩, ax) : PA)) (O.mem MV1) (j) (ints_at HV.out) rfl agg3 rfl (hK _ O)
              · go_simp
                exact hK _ O
              · go_simp
                exact hK _ O
              · exact wp_at_h Try.underlying24 sizeOf35 (pE w.heap.size A2 c2 l2) (O.mem MA2) rfl (k) rfl rfl hlt HB.out.symm (hK _ O)
              · refine wp_fld_h (f35_0 _) rfl ?_
                rw [add_add']
                exact hK _ O
              · exact wp_ecell_h (pE w.heap.size A2 c2 l2) (O.mem MA2) ((k) * 3 + 0) (pmcs_at HY.out 0 _ rfl) rfl agg33 rfl (hK _ O)
              · go_simp
                exact hK _ O
              · refine wp_at_h Try.underlying33 sizeOf3 (vOf w.heap.size ((⟨V, E', p2⟩, ay) : PA)) (O.mem MV2) rfl (j) rfl rfl hjl rfl ?_
                rw [Nat.mul_one]
                exact hK _ O
              · exact wp_ecell_h (vOf w.heap.size ((⟨V, E', p2⟩, ay) : PA)) (O.mem MV2) (j) (ints_at HV.out) rfl agg3 rfl (hK _ O)
              · have gn : ((v : Int) != (v : Int)) = false := by simp
                go_simp
                exact hK _ O
              refine wpAny_done (by kernel_rfl) ?_ _
              go_wp2_with fail
              refine region_T (fun w2 => Held w w2 [(g11, 32, M.mat 256 fun j => (cP f2 k j : Int)), (g10, 32, M.mat 256 fun j => (cP f1 k j : Int))] nilRow es) [0, 1, 2, 3, 4, 5, 6, 7, 8, 9, 10, 11, 12, 13, 14, 15, 16] 12 [some 92, some 93, some 94, some 95, some 96, some 97, some 98, some 99, some 100, some 101, some 102, some 103, some 104, some 105, some 106, some 107, some 108] [.bool true, .bool true, undef, undef, undef, undef, undef, undef, undef, undef, undef, undef, undef, undef, undef, undef, .bool true] 1 (by kernel_rfl) (by rfl) (by kernel_rfl) (by rfl) (by rfl) (O.drew) (fun F hF => ?_)
              simp only [fillD, Act.put, List.setIfInBounds_toArray, List.set_cons_zero, List.set_cons_succ] at hF
              subst hF
              refine ⟨⟨does_want rfl (by rfl) (fun w' O K hK => ?_), does_want rfl (by rfl) (fun w' O K hK => ?_), does_skip rfl (by rfl), does_skip rfl (by rfl), does_skip rfl (by rfl), does_skip rfl (by rfl), does_skip rfl (by rfl), does_skip rfl (by rfl), does_skip rfl (by rfl), does_skip rfl (by rfl), does_skip rfl (by rfl), does_skip rfl (by rfl), does_skip rfl (by rfl), does_skip rfl (by rfl), does_skip rfl (by rfl), does_skip rfl (by rfl), does_want rfl (by rfl) (fun w' O K hK => ?_), trivial⟩, fun w' O => ?_⟩
              · go_simp
                exact hK _ O
              · go_simp
                exact hK _ O
              · go_simp
                exact hK _ O
              refine wpAny_one (i := 17) (by kernel_rfl) rfl (fun K hK => ?_)
              go_simp
              refine hK _ _ ?_
              clear hK K
              try simp only [Act.put, List.setIfInBounds_toArray, List.set_cons_zero, List.set_cons_succ]
              refine wpAny_done (by kernel_rfl) ?_ _
              go_wp2_with fail
              refine region_T (fun w2 => Held w w2 [(g11, 32, M.mat 256 fun j => (cP f2 k j : Int)), (g10, 32, M.mat 256 fun j => (cP f1 k j : Int))] nilRow es) [0, 1, 2, 3, 4, 5, 6, 7, 8, 9, 10, 11, 12, 13, 14, 15, 16] 12 [some 109, some 110, some 111, some 112, some 113, some 114, some 115, some 116, some 117, some 118, some 119, some 120, some 121, some 122, some 123, some 124, some 125] [.bool true, .bool true, undef, undef, undef, undef, undef, undef, undef, undef, undef, undef, undef, undef, undef, undef, .bool true] 1 (by kernel_rfl) (by rfl) (by kernel_rfl) (by rfl) (by rfl) (O.drew) (fun F hF => ?_)
              simp only [fillD, Act.put, List.setIfInBounds_toArray, List.set_cons_zero, List.set_cons_succ] at hF
              subst hF
              refine ⟨⟨does_want rfl (by rfl) (fun w' O K hK => ?_), does_want rfl (by rfl) (fun w' O K hK => ?_), does_skip rfl (by rfl), does_skip rfl (by rfl), does_skip rfl (by rfl), does_skip rfl (by rfl), does_skip rfl (by rfl), does_skip rfl (by rfl), does_skip rfl (by rfl), does_skip rfl (by rfl), does_skip rfl (by rfl), does_skip rfl (by rfl), does_skip rfl (by rfl), does_skip rfl (by rfl), does_skip rfl (by rfl), does_skip rfl (by rfl), does_want rfl (by rfl) (fun w' O K hK => ?_), trivial⟩, fun w' O => ?_⟩
              · go_simp
                exact hK _ O
              · go_simp
                exact hK _ O
              · go_simp
                exact hK _ O
              refine wpAny_one (i := 17) (by kernel_rfl) rfl (fun K hK => ?_)
              go_simp
              refine hK _ _ ?_
              clear hK K
              try simp only [Act.put, List.setIfInBounds_toArray, List.set_cons_zero, List.set_cons_succ]
              refine wpAny_done (by kernel_rfl) ?_ _
              go_wp2_with fail
              go_roundw
              case rel => first | exact ⟨j + 1, by omega, by go_num, by rw [HT1.out], by rw [HT2.out], O⟩ | ((repeat apply Exists.intro); exact ⟨⟨j + 1, by omega, by go_num, by rw [HT1.out], by rw [HT2.out], O⟩, rfl⟩)
              case measure => simp [intOf]; omega
        · have q4 : ¬ (j : Int) < V.length := by omega
          obtain rfl : j = V.length := by omega
          rw [take_all, HI1.out, HI2.out]
          have h1p : p1 < 256 := by omega
          have h2p : p2 < 256 := by omega
          have q5 : decide ((p1 : Int) < 0) = false := by simp
          have q6 : decide ((255 : Int) < p1) = false := by simp; omega
          have q7 : decide ((p2 : Int) < 0) = false := by simp
          have q8 : decide ((255 : Int) < p2) = false := by simp; omega
          have hc1 := cP_le f1 k p1
          have hc2 := cP_le f2 k p2
          go_wp2_with (first | ((with_reducible refine at_index_ 58 ?_); refine wpList_at_h rfl Try.underlying24 sizeOf35 (pE w.heap.size A1 c1 l1) (O.mem MA1) rfl (k) rfl rfl hlt rfl ?_) | ((with_reducible refine at_fld 59 ?_); refine wpList_fld_h rfl (f35_0 _) rfl ?_; rw [add_add']) | ((with_reducible refine at_load 60 ?_); refine wpList_ecell_h rfl (pE w.heap.size A1 c1 l1) (O.mem MA1) ((k) * 3 + 0) (pmcs_at HX.out 0 _ rfl) rfl agg33 rfl ?_) | ((with_reducible refine at_index_ 67 ?_); refine wpList_at_h rfl Try.underlying24 sizeOf35 (pE w.heap.size A2 c2 l2) (O.mem MA2) rfl (k) rfl rfl hlt HB.out.symm ?_) | ((with_reducible refine at_fld 68 ?_); refine wpList_fld_h rfl (f35_0 _) rfl ?_; rw [add_add']) | ((with_reducible refine at_load 69 ?_); refine wpList_ecell_h rfl (pE w.heap.size A2 c2 l2) (O.mem MA2) ((k) * 3 + 0) (pmcs_at HY.out 0 _ rfl) rfl agg33 rfl ?_) | ((with_reducible refine at_index_ 135 ?_); refine wpList_at_h rfl Try.underlying24 sizeOf35 (pE w.heap.size A1 c1 l1) (O.mem MA1) rfl (k) rfl rfl hlt rfl ?_) | ((with_reducible refine at_fld 136 ?_); refine wpList_fld_h rfl (f35_2 _) rfl ?_; rw [add_add']) | ((with_reducible refine at_load 137 ?_); refine wpList_ecell_h rfl (pE w.heap.size A1 c1 l1) (O.mem MA1) ((k) * 3 + 2) (pmcs_at HX.out 2 _ rfl) rfl agg3 rfl ?_) | ((with_reducible refine at_index_ 143 ?_); refine wpList_at_h rfl Try.underlying24 sizeOf35 (pE w.heap.size A1 c1 l1) (O.mem MA1) rfl (k) rfl rfl hlt rfl ?_) | ((with_reducible refine at_fld 144 ?_); refine wpList_fld_h rfl (f35_2 _) rfl ?_; rw [add_add']) | ((with_reducible refine at_load 145 ?_); refine wpList_ecell_h rfl (pE w.heap.size A1 c1 l1) (O.mem MA1) ((k) * 3 + 2) (pmcs_at HX.out 2 _ rfl) rfl agg3 rfl ?_) | ((with_reducible refine at_index_ 151 ?_); refine wpList_at_h rfl Try.underlying24 sizeOf35 (pE w.heap.size A2 c2 l2) (O.mem MA2) rfl (k) rfl rfl hlt HB.out.symm ?_) | ((with_reducible refine at_fld 152 ?_); refine wpList_fld_h rfl (f35_2 _) rfl ?_; rw [add_add']) | ((with_reducible refine at_load 153 ?_); refine wpList_ecell_h rfl (pE w.heap.size A2 c2 l2) (O.mem MA2) ((k) * 3 + 2) (pmcs_at HY.out 2 _ rfl) rfl agg3 rfl ?_) | ((with_reducible refine at_index_ 159 ?_); refine wpList_at_h rfl Try.underlying24 sizeOf35 (pE w.heap.size A2 c2 l2) (O.mem MA2) rfl (k) rfl rfl hlt HB.out.symm ?_) | ((with_reducible refine at_fld 160 ?_); refine wpList_fld_h rfl (f35_2 _) rfl ?_; rw [add_add']) | ((with_reducible refine at_load 161 ?_); refine wpList_ecell_h rfl (pE w.heap.size A2 c2 l2) (O.mem MA2) ((k) * 3 + 2) (pmcs_at HY.out 2 _ rfl) rfl agg3 rfl ?_) | ((with_reducible refine at_index_ 166 ?_); refine wpList_at_h rfl Try.underlying24 sizeOf35 (pE w.heap.size A1 c1 l1) (O.mem MA1) rfl (k) rfl rfl hlt rfl ?_) | ((with_reducible refine at_fld 167 ?_); refine wpList_fld_h rfl (f35_2 _) rfl ?_; rw [add_add']) | ((with_reducible refine at_load 168 ?_); refine wpList_ecell_h rfl (pE w.heap.size A1 c1 l1) (O.mem MA1) ((k) * 3 + 2) (pmcs_at HX.out 2 _ rfl) rfl agg3 rfl ?_) | ((with_reducible refine at_index_ 169 ?_); refine wpList_in_h rfl Try.underlying32 sizeOf3 (by decide) (p1) rfl rfl rfl h1p ?_) | ((with_reducible refine at_load 170 ?_); refine wpList_cell_h (i := p1) (v := .int .i64 (cP f1 k p1 : Nat)) rfl O 1 rfl (M.mat_get h1p) rfl agg3 rfl ?_) | ((with_reducible refine at_index_ 172 ?_); refine wpList_in_h rfl Try.underlying32 sizeOf3 (by decide) (p1) rfl rfl rfl h1p ?_) | ((with_reducible refine at_store 172 ?_); refine wpList_set_h (i := p1) O 1 (.int .i64 ((cP f1 k p1 : Int) + 1)) rfl (by rw [M.mat_len]; exact h1p) rfl rfl size3 rfl rfl ?_; clear O; intro w8 O; simp only [List.set_cons_zero, List.set_cons_succ] at O) | ((with_reducible refine at_index_ 175 ?_); refine wpList_at_h rfl Try.underlying24 sizeOf35 (pE w.heap.size A2 c2 l2) (O.mem MA2) rfl (k) rfl rfl hlt HB.out.symm ?_) | ((with_reducible refine at_fld 176 ?_); refine wpList_fld_h rfl (f35_2 _) rfl ?_; rw [add_add']) | ((with_reducible refine at_load 177 ?_); refine wpList_ecell_h rfl (pE w.heap.size A2 c2 l2) (O.mem MA2) ((k) * 3 + 2) (pmcs_at HY.out 2 _ rfl) rfl agg3 rfl ?_) | ((with_reducible refine at_index_ 178 ?_); refine wpList_in_h rfl Try.underlying32 sizeOf3 (by decide) (p2) rfl rfl rfl h2p ?_) | ((with_reducible refine at_load 179 ?_); refine wpList_cell_h (i := p2) (v := .int .i64 (cP f2 k p2 : Nat)) rfl O 0 rfl (M.mat_get h2p) rfl agg3 rfl ?_) | ((with_reducible refine at_index_ 181 ?_); refine wpList_in_h rfl Try.underlying32 sizeOf3 (by decide) (p2) rfl rfl rfl h2p ?_) | ((with_reducible refine at_store 181 ?_); refine wpList_set_h (i := p2) O 0 (.int .i64 ((cP f2 k p2 : Int) + 1)) rfl (by rw [M.mat_len]; exact h2p) rfl rfl size3 rfl rfl ?_; clear O; intro w9 O; simp only [List.set_cons_zero, List.set_cons_succ] at O))
          rw [cP_set f1 h1p HK1.out, cP_set f2 h2p HK2.out] at O
          go_roundw
          case rel => first | exact ⟨k + 1, by omega, by go_num, O⟩ | ((repeat apply Exists.intro); exact ⟨⟨k + 1, by omega, by go_num, O⟩, rfl⟩)
          case measure => simp [intOf]; omega
    · have q2 : ¬ (k : Int) < l1.length := by omega
      obtain rfl : k = l1.length := by omega
      go_wp2_with fail
      go_loopw [16] (fun t wr => ∃ j : Nat, j ≤ 256 ∧ t = .int .i64 j ∧ Held w wr [(g11, 32, M.mat 256 fun j => (cP f2 l1.length j : Int)), (g10, 32, M.mat 256 fun j => (cP f1 l1.length j : Int))] nilRow es) (fun t _ => 256 - (intOf t).toNat)
      case atStart => exact ⟨0, Nat.zero_le _, rfl, O⟩
      case round =>
        clear O
        obtain ⟨j, hj, rfl, O⟩ := hrel
        have q3 : (0 : Int) ≤ j := by omega
        by_cases hj6 : j < 256
        · have q4 : (j : Int) < 256 := by omega
          have h1 := HO1.out _ (Nat.le_refl _) j
          have h2 := HO2.out _ (Nat.le_refl _) j
          have q5 : decide ((1 : Int) < (cP f1 l1.length j : Nat)) = false := by simp; omega
          have q6 : decide ((1 : Int) < (cP f2 l1.length j : Nat)) = false := by simp; omega
          clear h1 h2
          go_wp2_with (first | ((with_reducible refine at_index_ 187 ?_); refine wpList_in_h rfl Try.underlying32 sizeOf3 (by decide) (j) rfl rfl rfl hj6 ?_) | ((with_reducible refine at_load 188 ?_); refine wpList_cell_h (i := j) (v := .int .i64 (cP f1 l1.length j : Nat)) rfl O 1 rfl (M.mat_get hj6) rfl agg3 rfl ?_) | ((with_reducible refine at_index_ 192 ?_); refine wpList_in_h rfl Try.underlying32 sizeOf3 (by decide) (j) rfl rfl rfl hj6 ?_) | ((with_reducible refine at_load 193 ?_); refine wpList_cell_h (i := j) (v := .int .i64 (cP f2 l1.length j : Nat)) rfl O 0 rfl (M.mat_get hj6) rfl agg3 rfl ?_))
          go_roundw
          case rel => first | exact ⟨j + 1, by omega, by go_num, O⟩ | ((repeat apply Exists.intro); exact ⟨⟨j + 1, by omega, by go_num, O⟩, rfl⟩)
          case measure => simp [intOf]; omega
        · have q4 : ¬ (j : Int) < 256 := by omega
          go_wp2_with (go_at_call 8; refine (awake_any _).mono ?_; rintro e w6 ⟨rfl, hb⟩; replace O := O.call hb; clear hb)
          go_ret
          exact ⟨rfl, O.below⟩

theorem readable : ∀ t ∈ Try.f5.params.toList, Try.prog.readableRec t = true ∧ t < Try.prog.types.size := by
  intro t ht
  rw [Try.params5] at ht
  simp only [List.mem_cons, List.not_mem_nil, or_false] at ht
  repeat (first | (rcases ht with rfl | ht; exact ⟨by kernel_rfl, of_decide_eq_true (by kernel_rfl)⟩) | (subst ht; exact ⟨by kernel_rfl, of_decide_eq_true (by kernel_rfl)⟩))
set_option maxRecDepth 100000 in
theorem lifted (os : Os) (started : os.Started) (H : Type) (enc : TypeId × Value → H) :
    ReturnsInHanded {} Try.checked os 5 .any (Rows.buildProvokesSpec.pre6 enc Try.prog Try.f5 Rows.buildProvokesRow.domain false) (Rows.buildProvokesSpec.post enc Try.prog Try.f5 false true false false) := by
  refine returnsInHanded_of_change (C := Try.checked) own started (by kernel_rfl) Try.func5
    (ChangeSpec.witness6 (enc := enc) (C := Try.checked) false ⟨#[], #[.int .u8 0, .slice none 0 0], []⟩ 8 (by kernel_rfl) (by kernel_rfl) (by kernel_rfl) (by kernel_rfl)) ?_
  intro W base args ds gs before hval0 hW hcnd _
  have hval : ∀ (j : Nat) t v, Try.f5.params[j]? = some t → args[j]? = some v → Value.okWide Try.prog W .any base t v := hval0
  have hW' := hW
  obtain ⟨p, q, hA0, hV, rfl, hfz, hnd⟩ := hW
  have hA : DataW.TrodAll enc Try.prog W 0 (fun _ => true) true Try.f5.params.toList args.toList ds p := hA0
  rw [Try.params5] at hA hval
  have hlt : ∀ x ∈ p ++ q, x.block < W.heap.size := fun x hx => hW'.lt x hx
  obtain ⟨v0, vs0, d0, ds0, p0, q0, hargs, rfl, rfl, h0, rr0⟩ := trodAll_cons hA
  obtain ⟨v1, vs1, d1, ds1, p1, q1, rfl, rfl, rfl, h1, rr1⟩ := trodAll_cons rr0
  obtain ⟨rfl, rfl, rfl⟩ := trodAll_nil rr1
  obtain rfl : args = #[v0, v1] := by cases args; simp_all
  obtain ⟨rfl, rfl⟩ := trodVars_none hV
  obtain ⟨i0, rfl, rfl, rfl, x0⟩ := open_int Try.underlying5 (hval 0 5 v0 rfl rfl) h0
  obtain ⟨u, rfl, hu⟩ := wf_u8 x0
  obtain ⟨A1, n1, c1, rfl⟩ := okWide_slice Try.underlying22 (hval 1 22 v1 rfl rfl)
  obtain ⟨B1, k1, fl, e1, hF⟩ := openFlags h1 (fun x hx => hlt x (by simp [hx]))
  obtain ⟨rfl, rfl, rfl⟩ := Value.slice.inj e1
  clear hA0 hval0
  refine (walk W u A1 c1 fl hu hF).mono fun e W' ⟨he, hg⟩ => ?_
  subst he
  exact ⟨_, rfl, post_true (tb := 4) laid readable (by kernel_rfl) Try.underlying4 rfl (fun l hl => by
    match l, hl with
    | [_, _], _ => exact ⟨rfl, rfl, rfl⟩) hW' hg⟩

theorem over : Rows.buildProvokesRow.holds Try.pinned (OpenSpec.ofChange Rows.buildProvokesSpec) :=
  OpenClaim.holds_of_wide 5 Try.f5 rfl rfl rfl rfl rfl rfl rfl ⟨rfl, rfl, rfl, rfl, rfl⟩ rfl rfl rfl rfl rfl (by kernel_rfl) Try.func5 (by kernel_rfl)
    (of_decide_eq_true (by kernel_rfl)) (by unfold Func.isWrapper; first | (rw [if_pos (by decide +kernel)]; kernel_rfl) | (rw [if_neg (by decide +kernel)]; exact ⟨rfl, rfl⟩))
    (fun os started H enc _ => lifted os started H enc)

theorem proved : Rows.BuildProvokesSaid :=
  over
#print axioms proved
end Go.Proofs.Ytadpejblhkcjgaa.buildProvokes
