/- Contract of the document's Same, of lists that are the same. -/
import Derived.Test.YtaegekmfndcflaaCut
namespace Go.Proofs.Ytaegekmfndcflaa
open Go.ChangeShapes Go.WideShapes Go.ChangeAt Go.RowKit
set_option linter.unusedVariables false
set_option linter.unusedSimpArgs false

set_option maxRecDepth 100000 in
set_option maxHeartbeats 2000000 in
theorem same_recs (A B : Option Addr) (c d : Nat) (out : List P.Rec) (w : World) (hA : RecsAt w w.heap.size A out) (hB : RecsAt w w.heap.size B out) (hl : out.length ≤ 5000) (hm : ∀ r ∈ out, r.2.length ≤ 5000) :
    Calls Try.prog 21 #[.slice A out.length c, .slice B out.length d] w fun e w' => e = .returned (.bool true) ∧ Below w.heap.size w w' := by
  have b0 : (out.length : Int) ≤ 5000 := by omega
  go_enter Try.func21, Try.ntmps21
  go_wp2_with fail
  go_loopw [5] (fun v wr => ∃ i : Nat, v = .int .i64 i ∧ i ≤ out.length ∧ Below w.heap.size w wr) (fun v _ => out.length - (intOf v).toNat)
  case atStart => exact ⟨0, rfl, by omega, Below.refl _ _⟩
  case round =>
    obtain ⟨i, rfl, hi, hT⟩ := hrel
    have q0 : (0 : Int) ≤ (i : Int) := by omega
    by_cases hlt : i < out.length
    · obtain ⟨ad, A', c', rfl, lt1, c1, c2, r1⟩ := (hA.below hT).at_ hlt
      obtain ⟨bd, B', d', rfl, lt2, c3, c4, r2⟩ := (hB.below hT).at_ hlt
      have hml := hm _ (List.getElem_mem hlt)
      have q : (i : Int) < (out.length : Int) := by omega
      rw [add_off] at c2 c4
      generalize out[i].1 = op at *
      generalize out[i].2 = l at *
      have b1 : (op != op) = false := by simp
      have b2 : ((l.length : Int) != (l.length : Int)) = false := by simp
      have HA := Lib.hid hA
      have HB := Lib.hid hB
      clear hA hB
      go_wp2_with fail
      go_quiet (fail)
      go_wp2_with fail
      have K1 : Below w.heap.size w (wr.drewN nq) := bdrewN hT nq
      have e2 : (wr.drewN nq).cell? ⟨(ad.add (i * 2)).block, (ad.add (i * 2)).off + 1, none⟩ = some (.slice A' l.length c') := c2
      have e4 : (wr.drewN nq).cell? ⟨(bd.add (i * 2)).block, (bd.add (i * 2)).off + 1, none⟩ = some (.slice B' l.length d') := c4
      have s1 : Reads (wr.drewN nq) w.heap.size 1 A' l.length (ints l) := r1.drewN nq
      have s2 : Reads (wr.drewN nq) w.heap.size 1 B' l.length (ints l) := r2.drewN nq
      clear c1 c2 c3 c4 r1 r2 b1 b2
      generalize wr.drewN nq = wd at *
      have ba : (ad.add (i * 2)).block < w.heap.size := by rw [block_of_add]; exact lt1
      have bb : (bd.add (i * 2)).block < w.heap.size := by rw [block_of_add]; exact lt2
      have E2 := Lib.hid e2
      have E4 := Lib.hid e4
      clear e2 e4
      have b3 : (l.length : Int) ≤ 5000 := by omega
      go_loopw [6] (fun v wx => ∃ k : Nat, v = .int .i64 k ∧ k ≤ l.length ∧ Below w.heap.size wd wx) (fun v _ => l.length - (intOf v).toNat)
      case atStart => exact ⟨0, rfl, by omega, Below.refl _ _⟩
      case round =>
        obtain ⟨k, rfl, hk, hI⟩ := hrel
        have q2 : (0 : Int) ≤ (k : Int) := by omega
        have f2 := (hI.cell (p := ⟨(ad.add (i * 2)).block, (ad.add (i * 2)).off + 1, none⟩) ba).trans E2.out
        have f4 := (hI.cell (p := ⟨(bd.add (i * 2)).block, (bd.add (i * 2)).off + 1, none⟩) bb).trans E4.out
        by_cases hlk : k < l.length
        · obtain ⟨xd, u, rfl, _, hx, hcx⟩ := (s1.below hI).at_ hlk
          obtain ⟨yd, v, rfl, _, hy, hcy⟩ := (s2.below hI).at_ hlk
          rw [ints_get hlk] at hx hy
          cases hx
          cases hy
          have q3 : (k : Int) < (l.length : Int) := by omega
          generalize l[k] = z at *
          have b4 : (z != z) = false := by simp
          clear s1 s2
          go_wp2_with fail
          go_quiet (fail)
          go_wp2_with fail
          exact ⟨⟨k + 1, rfl, by omega, bdrewN hI _⟩, by simp [intOf]; omega⟩
        · have q3 : ¬ (k : Int) < (l.length : Int) := by omega
          have hkl : k = l.length := by omega
          clear s1 s2 hkl
          go_wp2_with fail
          exact ⟨⟨i + 1, rfl, by omega, K1.trans hI⟩, by simp [intOf]; omega⟩
    · have q : ¬ (i : Int) < (out.length : Int) := by omega
      clear hA hB
      go_wp2_with fail
      go_ret
      exact ⟨rfl, hT⟩
end Go.Proofs.Ytaegekmfndcflaa
