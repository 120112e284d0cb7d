/-
  The contract of surety.Run, for every program.
-/
import Derived.Test.YtkihfcdmdofjhaaGreatDoorRunW
import Derived.Test.YtkihfcdmdofjhaaGreatDoorMath
namespace Go.Proofs.YtkihfcdmdofjhaaGreatDoor
open Go.RowKit
theorem right_all {l : List I5} (h : rightR l = (0, 0)) : AllFit l := by
  unfold rightR at h
  by_cases hl : l.length = 0 ∨ 64 < l.length
  · rw [if_pos hl] at h; simp at h
  · rw [if_neg hl] at h
    refine ⟨by omega, by omega, fun i hi => ?_⟩
    cases hb : badFrom l l.length with
    | some j => rw [hb] at h; simp at h
    | none =>
      unfold badFrom at hb
      rw [List.findIdx?_eq_none_iff] at hb
      have := hb l[i] (List.getElem_mem hi)
      simpa using this
def runOE (l : List I5) (r : Nat → Int) (f : Int) : O4 := if rightR l = (0, 0) then runO l r f else O4.zero
def runVE (l : List I5) (r : Nat → Int) (f : Int) : List V9 := if rightR l = (0, 0) then runV l r f else []
set_option maxHeartbeats 1000000 in
set_option maxRecDepth 100000 in
theorem Run_any (l : List I5) (v : Value) (r : Nat → Int) (f : Int) (w : World) (hs : Shapes w) (h : Slc w v l) :
    Calls Tryz.prog 9 #[v, regsV r, .int .i64 f] w fun e w' => e = .returned (.tuple #[(runOE l r f).val, .int .i64 (rightR l).1]) ∧ Below w.heap.size w w' := by
  have HSL := hide h
  clear h
  have HRV : Hid (regsV r = .agg #[.int .i64 (r 0), .int .i64 (r 1), .int .i64 (r 2), .int .i64 (r 3), .int .i64 (r 4), .int .i64 (r 5), .int .i64 (r 6), .int .i64 (r 7)]) := hide rfl
  obtain ⟨O, hO⟩ : ∃ O, O = runOE l r f := ⟨_, rfl⟩
  rw [← hO]
  have HO := hide hO
  clear hO
  obtain ⟨E, hE⟩ : ∃ E, E = (rightR l).1 := ⟨_, rfl⟩
  rw [← hE]
  have HE := hide hE
  clear hE
  rw [HRV.out]
  go_enter Tryz.func9, Tryz.ntmps9
  go_wp2_with fail
  rw [← HRV.out]
  generalize hW : (w.alloc (.cells #[.int .i64 (r 0), .int .i64 (r 1), .int .i64 (r 2), .int .i64 (r 3), .int .i64 (r 4), .int .i64 (r 5), .int .i64 (r 6), .int .i64 (r 7)] 41)).alloc (.cells #[.int .i64 0, .int .i64 0, .int .i64 0, .int .i64 0] 46) = w1
  have hH : w1.heap[w.heap.size + 1]? = some (.cells #[.int .i64 0, .int .i64 0, .int .i64 0, .int .i64 0] 46 (0, 0)) := by
    rw [← hW]
    have := heap_alloc_new (w.alloc (.cells #[.int .i64 (r 0), .int .i64 (r 1), .int .i64 (r 2), .int .i64 (r 3), .int .i64 (r 4), .int .i64 (r 5), .int .i64 (r 6), .int .i64 (r 7)] 41)) (.cells #[.int .i64 0, .int .i64 0, .int .i64 0, .int .i64 0] 46)
    simpa using this
  have hR : w1.heap[w.heap.size]? = some (.cells #[.int .i64 (r 0), .int .i64 (r 1), .int .i64 (r 2), .int .i64 (r 3), .int .i64 (r 4), .int .i64 (r 5), .int .i64 (r 6), .int .i64 (r 7)] 41 (0, 0)) := by
    rw [← hW, Below.heap_alloc _ _ _ (by simp)]
    exact heap_alloc_new _ _
  have hb1 : Below w.heap.size w w1 := by rw [← hW]; exact ((belA _ _).alloc (by simp) _)
  have hs1 := HSL.out.below hb1 (Nat.le_refl _)
  have hsh := hs.below hb1 hs.1
  have hlt := lt_of_block hH
  have HH := hide hH
  have HRR := hide hR
  have HB1 := hide hb1
  clear hW hH hb1 HSL hR hs
  refine (codeRight_any l v w1 hsh hs1).mono ?_
  rintro e w2 ⟨rfl, hb2⟩
  have hs2 := hide (hs1.below hb2 (Nat.le_refl _))
  obtain ⟨z0, z1, z2, z3, f0, f1, f2, f3⟩ := four_of ((hb2.block _ hlt).trans HH.out)
  obtain ⟨r0, r1, r2, r3, r4, r5, r6, r7⟩ := rbox ((hb2.block _ (by omega)).trans HRR.out)
  have HB2 := hide (HB1.out.trans (hb2.mono HB1.out.size))
  have HH2 := hide ((hb2.block _ hlt).trans HH.out)
  have hsz2 := hb2.size
  clear hb2 hs1
  rcases rightR_or l with hr | hr
  · have hO2 := HO.out
    unfold runOE at hO2
    rw [if_pos hr] at hO2
    have HO2 := hide hO2
    have HE2 := HE.out
    rw [hr] at HE2
    simp only at HE2
    subst HE2
    have HAF := hide (right_all hr)
    rw [hr]
    clear hO2 hr
    go_wp2_with fail
    rw [← HRV.out]
    refine (runM_any l v r f w2 hs2.out HAF.out).mono ?_
    rintro e w3 ⟨rfl, hb3⟩
    rw [← HO2.out]
    unfold O4.val
    obtain ⟨y0, y1, y2, y3, k0, k1, k2, k3⟩ := four_of ((hb3.block _ (by omega)).trans HH2.out)
    have HB3 := hide (HB2.out.trans (hb3.mono HB2.out.size))
    clear hb3
    go_wp2
    exact bodyPost_ret (v := .tuple #[O.val, .int .i64 0]) (by simp [results, Tryz.results9, go_sem, y0, y1, y2, y3, O4.val]) rfl ⟨rfl, below_set4 HB3.out (by omega) _ _ _ _ _ _ _ _⟩
  · have hO2 := HO.out
    unfold runOE at hO2
    rw [if_neg (by intro h; rw [h] at hr; simp at hr)] at hO2
    have HO2 := hide hO2
    have HE2 := HE.out
    rw [hr] at HE2
    subst HE2
    rw [hr]
    clear hO2 hr
    go_wp2
    exact bodyPost_ret (v := .tuple #[O.val, .int .i64 1]) (by simp [results, Tryz.results9, go_sem, z0, z1, z2, z3, HO2.out, O4.val, O4.zero]) rfl ⟨rfl, below_set4 HB2.out (by omega) _ _ _ _ _ _ _ _⟩
end Go.Proofs.YtkihfcdmdofjhaaGreatDoor
