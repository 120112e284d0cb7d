/-
  The contract of (machine.Program).Run.
-/
import Derived.Test.YtamiichlbmllcaaGreatDoorRunM
namespace Go.Proofs.YtamiichlbmllcaaGreatDoor
open Go.RowKit
theorem Over.out {W wr : World} {g pb cap : Nat} {l : List I5} {F : Nat} {o : O4} (h : Over W wr g pb cap l F o) : wr.cell? ⟨g, 28, none⟩ = some (.int .i64 o.kind) ∧ wr.cell? ⟨g, 29, none⟩ = some (.int .i64 o.place) ∧ wr.cell? ⟨g, 30, none⟩ = some (.int .i64 o.value) ∧ wr.cell? ⟨g, 31, none⟩ = some (.int .i64 o.steps) := by
  obtain ⟨⟨s, hr⟩, _⟩ := h
  exact hr.fields.2.2.2.2
theorem below_set4 {B : Nat} {w0 w : World} {g : Nat} (h : Below B w0 w) (hB : B ≤ g) (o0 o1 o2 o3 : Nat) (u0 u1 u2 u3 : Value) :
    Below B w0 ((((w.setCell ⟨g, o0, none⟩ u0).setCell ⟨g, o1, none⟩ u1).setCell ⟨g, o2, none⟩ u2).setCell ⟨g, o3, none⟩ u3) :=
  (((h.setCell (by simpa using hB) _).setCell (by simpa using hB) _).setCell (by simpa using hB) _).setCell (by simpa using hB) _
/-- four cells of the result's own block -/
theorem four_of {w : World} {N : Nat} {A B C D : Value} {T : TypeId} (hH : w.heap[N]? = some (.cells #[A, B, C, D] T (0, 0))) : w.cell? ⟨N, 0, none⟩ = some A ∧ w.cell? ⟨N, 1, none⟩ = some B ∧ w.cell? ⟨N, 2, none⟩ = some C ∧ w.cell? ⟨N, 3, none⟩ = some D ∧ w.frozen? ⟨N, 0, none⟩ = false ∧ w.frozen? ⟨N, 1, none⟩ = false ∧ w.frozen? ⟨N, 2, none⟩ = false ∧ w.frozen? ⟨N, 3, none⟩ = false := by
  refine ⟨?_, ?_, ?_, ?_, ?_, ?_, ?_, ?_⟩ <;> first | (rw [cell_of_row _ _ _ _ _ _ hH]; rfl) | simp [World.frozen?, hH]
def RunI (vf : I5 → Value) (Can : MS → Prop) (W wr : World) (g pb cap : Nat) (l : List I5) (F : Nat) (o : O4) (k : Nat) : Prop := (∃ k' s vs, k = k' + 1 ∧ Live vf Can W wr g pb cap l F (vs, o) k' s) ∨ (k = 0 ∧ Over W wr g pb cap l F o)
set_option maxHeartbeats 1000000 in
set_option maxRecDepth 100000 in
theorem runM_any {vf : I5 → Value} {Can : MS → Prop} (l : List I5) (hN : Runner vf l Can) (pb cap : Nat) (r : Nat → Int) (hcan : Can (startS r)) (f : Int) (w : World) (h : ProgAt w pb vf l) :
    Calls Tryz.prog 44 #[.slice (some ⟨pb, 0, none⟩) l.length cap, regsV r, .int .i64 f] w fun e w' => e = .returned (runO l r f).val ∧ Below w.heap.size w w' := by
  have HSL := hide h
  clear h
  obtain ⟨O, hO⟩ : ∃ O, O = runO l r f := ⟨_, rfl⟩
  rw [← hO]
  have HO := hide hO
  clear hO
  have HRV : Hid (regsV r = .agg #[.int .i64 (r 0), .int .i64 (r 1), .int .i64 (r 2), .int .i64 (r 3), .int .i64 (r 4), .int .i64 (r 5), .int .i64 (r 6), .int .i64 (r 7)]) := hide rfl
  rw [HRV.out]
  go_enter Tryz.func44, Tryz.ntmps44
  go_wp2_with fail
  rw [← HRV.out]
  generalize hW : (w.alloc (.cells #[.int .i64 (r 0), .int .i64 (r 1), .int .i64 (r 2), .int .i64 (r 3), .int .i64 (r 4), .int .i64 (r 5), .int .i64 (r 6), .int .i64 (r 7)] 42)).alloc (.cells #[.int .i64 0, .int .i64 0, .int .i64 0, .int .i64 0] 53) = w1
  have hH : w1.heap[w.heap.size + 1]? = some (.cells #[.int .i64 0, .int .i64 0, .int .i64 0, .int .i64 0] 53 (0, 0)) := by
    rw [← hW]
    have := heap_alloc_new (w.alloc (.cells #[.int .i64 (r 0), .int .i64 (r 1), .int .i64 (r 2), .int .i64 (r 3), .int .i64 (r 4), .int .i64 (r 5), .int .i64 (r 6), .int .i64 (r 7)] 42)) (.cells #[.int .i64 0, .int .i64 0, .int .i64 0, .int .i64 0] 53)
    simpa using this
  have hb1 : Below w.heap.size w w1 := by rw [← hW]; exact ((belA _ _).alloc (by simp) _)
  have hs1 := HSL.out.bel hb1 HSL.out.1
  have hlt := lt_of_block hH
  have HH := hide hH
  have HB1 := hide hb1
  clear hW hH hb1 HSL
  refine (start_any l.length pb cap r f w1).mono ?_
  rintro e w2 hst
  obtain ⟨g, rfl, hg, hne, hlive⟩ := start_live hst hs1 hcan
  have HL := hide hlive
  have HAL := hide hN
  have HR : Hid (runO l r f = (runR l (fuelI f).toNat (startS r)).2) := hide rfl
  obtain ⟨F, hF⟩ : ∃ F, F = (fuelI f).toNat := ⟨_, rfl⟩
  have hF2 : F ≤ 10000 := by have := fuelI_bd f; omega
  rw [← hF] at HL HR
  obtain ⟨res, hres⟩ : ∃ res, res = runR l F (startS r) := ⟨_, rfl⟩
  rw [← hres] at HL HR
  clear hst hlive hN hs1 hF hres hcan
  rw [← HO.out] at HR
  go_wp2_with fail
  go_loopg [] (F + 1) (fun k wr => RunI vf Can w1 wr g pb cap l F O k)
  case atStart => exact Or.inl ⟨F, _, res.1, rfl, by rw [HR.out]; exact HL.out⟩
  case round =>
    rcases hrel with ⟨k', s, vs, hk, hlive⟩ | ⟨hk, hov⟩
    · rcases hlive.ready hg with ⟨k2, hk2, hpc, hcall⟩ | ⟨_, hcall⟩
      · have HC := hide hcall
        clear hcall
        have HK := hide (And.intro hk hk2)
        clear hk hk2 hlive
        go_wp2_with fail
        refine HC.out.mono ?_
        rintro e w3 ⟨rfl, hl3, _⟩
        have hl3' := hl3
        rw [HK.out.2] at hl3'
        have HC2 := hide (hl3'.step hg hne HAL.out hF2 hpc)
        clear hl3 hl3' HC
        go_wp2_with fail
        refine HC2.out.mono ?_
        rintro e w4 ⟨rfl, hst, _⟩
        have HST := hide hst
        clear hst HC2
        go_wp2
        rcases HST.out with ⟨s', vs', _, hl'⟩ | ⟨_, hov⟩
        · go_roundg (k2 + 1)
          case measure => have := HK.out; omega
          case rel => exact Or.inl ⟨k2, s', vs', rfl, hl'⟩
        · go_roundg 0
          case measure => have := HK.out; omega
          case rel => exact Or.inr ⟨rfl, hov⟩
      · have HC := hide hcall
        clear hcall hlive hk
        go_wp2_with fail
        refine HC.out.mono ?_
        rintro e w3 ⟨rfl, hov, _⟩
        obtain ⟨c0, c1, c2, c3⟩ := hov.out
        obtain ⟨z0, z1, z2, z3, f0, f1, f2, f3⟩ := four_of ((hov.bel.block _ hlt).trans HH.out)
        have HBO := hide (HB1.out.trans (hov.bel.mono (HB1.out.size)))
        clear hov HC HL
        go_wp2
        exact bodyPost_ret (v := O.val) (by simp [results, Tryz.results44, go_sem, z0, z1, z2, z3, O4.val]) rfl ⟨rfl, below_set4 HBO.out (by omega) _ _ _ _ _ _ _ _⟩
    · have HC := hide hov.ready
      clear hov hk
      go_wp2_with fail
      refine HC.out.mono ?_
      rintro e w3 ⟨rfl, hov, _⟩
      obtain ⟨c0, c1, c2, c3⟩ := hov.out
      obtain ⟨z0, z1, z2, z3, f0, f1, f2, f3⟩ := four_of ((hov.bel.block _ hlt).trans HH.out)
      have HBO := hide (HB1.out.trans (hov.bel.mono (HB1.out.size)))
      clear hov HC HL
      go_wp2
      exact bodyPost_ret (v := O.val) (by simp [results, Tryz.results44, go_sem, z0, z1, z2, z3, O4.val]) rfl ⟨rfl, below_set4 HBO.out (by omega) _ _ _ _ _ _ _ _⟩
end Go.Proofs.YtamiichlbmllcaaGreatDoor
