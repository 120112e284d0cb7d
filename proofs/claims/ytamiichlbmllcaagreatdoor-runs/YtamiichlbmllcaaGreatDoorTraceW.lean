/-
  The contract of machine.Trace, for every right program.
-/
import Derived.Test.YtamiichlbmllcaaGreatDoorRunX
import Derived.Test.YtamiichlbmllcaaGreatDoorKeepD
namespace Go.Proofs.YtamiichlbmllcaaGreatDoor
open Go.RowKit
def V9.cells (x : V9) : List Value := [.int .i64 x.pc, .int .i64 (x.r 0), .int .i64 (x.r 1), .int .i64 (x.r 2), .int .i64 (x.r 3), .int .i64 (x.r 4), .int .i64 (x.r 5), .int .i64 (x.r 6), .int .i64 (x.r 7)]
/-- a list of visits of the call's own -/
def OwnV (w : World) (base : Nat) (v : Value) (l : List V9) : Prop := w.ownsRow base 64 9 v l.length (l.flatMap V9.cells)
theorem Tryz.infoVis : (Tryz.prog.info? 64).map (fun i => (i.zero, i.size, i.bytes)) = some (some (.agg #[.int .i64 0, .int .i64 0, .int .i64 0, .int .i64 0, .int .i64 0, .int .i64 0, .int .i64 0, .int .i64 0, .int .i64 0]), 9, 72) := by kernel_rfl
theorem OwnV.push {w : World} {base n : Nat} {v : Value} {l : List V9} {x : V9} (h : w.ownsRow base 64 9 v n (l.flatMap V9.cells ++ x.cells)) (hn : n = l.length + 1) : OwnV w base v (l ++ [x]) := by
  subst hn; unfold OwnV; rw [List.length_append, List.flatMap_append]; simpa using h
theorem OwnV.but {w w' : World} {base g : Nat} {v : Value} {l : List V9} (h : OwnV w base v l) (hb : But g w w') (hg : g < base) : OwnV w' base v l := by
  refine ⟨h.1, ?_⟩
  rcases h.2 with h2 | ⟨g2, cap, cur, h3, h4, hh, r⟩
  · exact Or.inl h2
  · exact Or.inr ⟨g2, cap, cur, h3, h4, by rw [hb.block g2 (lt_of_block hh) (by omega)]; exact hh, r⟩
theorem nine_new (w : World) (x : V9) (t : TypeId) (g : Nat) (hg : g = w.heap.size) : ∀ j u, x.cells[j]? = some u → (w.alloc (.cells #[.int .i64 x.pc, .int .i64 (x.r 0), .int .i64 (x.r 1), .int .i64 (x.r 2), .int .i64 (x.r 3), .int .i64 (x.r 4), .int .i64 (x.r 5), .int .i64 (x.r 6), .int .i64 (x.r 7)] t)).cell? ((⟨g, 0, none⟩ : Addr).add j) = some u := by
  subst hg
  intro j u hj
  have hadd : (⟨w.heap.size, 0, none⟩ : Addr).add j = ⟨w.heap.size, j, none⟩ := by unfold Addr.add; split <;> simp_all
  rw [hadd, cell_of_row _ _ _ _ _ _ (heap_alloc_new w _)]
  simpa [V9.cells] using hj
theorem nine_one (x : V9) : ∀ u ∈ x.cells, u.oneCell' = true := by
  intro u hu
  simp [V9.cells] at hu
  rcases hu with rfl | rfl | rfl | rfl | rfl | rfl | rfl | rfl | rfl <;> rfl
/-- what holds at the head of the loop -/
def TraI (vf : I5 → Value) (Can : MS → Prop) (W wr : World) (B g pb cap : Nat) (l : List I5) (F : Nat) (full : List V9) (u : Value) (k : Nat) : Prop :=
  ∃ vs, OwnV wr B u vs ∧ vs.length ≤ 100 ∧ B ≤ wr.heap.size ∧ ((∃ k' s vs2 o, k = k' + 1 ∧ Live vf Can W wr g pb cap l F (vs2, o) k' s ∧ full = vs ++ vs2) ∨ (k = 0 ∧ (∃ o, Over W wr g pb cap l F o) ∧ full = vs))
theorem MRow.eight {w : World} {g : Nat} {pv : Value} {s : MS} {F : Int} {o : O4} (h : MRow w g pv s F o) : w.cell? ⟨g, 1, none⟩ = some (.int .i64 (s.r 0)) ∧ w.cell? ⟨g, 2, none⟩ = some (.int .i64 (s.r 1)) ∧ w.cell? ⟨g, 3, none⟩ = some (.int .i64 (s.r 2)) ∧ w.cell? ⟨g, 4, none⟩ = some (.int .i64 (s.r 3)) ∧ w.cell? ⟨g, 5, none⟩ = some (.int .i64 (s.r 4)) ∧ w.cell? ⟨g, 6, none⟩ = some (.int .i64 (s.r 5)) ∧ w.cell? ⟨g, 7, none⟩ = some (.int .i64 (s.r 6)) ∧ w.cell? ⟨g, 8, none⟩ = some (.int .i64 (s.r 7)) :=
  ⟨(h.reg 0 (by omega)).1, (h.reg 1 (by omega)).1, (h.reg 2 (by omega)).1, (h.reg 3 (by omega)).1, (h.reg 4 (by omega)).1, (h.reg 5 (by omega)).1, (h.reg 6 (by omega)).1, (h.reg 7 (by omega)).1⟩
theorem own_any_len {w : World} {B e size n : Nat} {v : Value} {xs : List Value} (h : w.ownsRow B e size v n xs) : ∃ a c, v = .slice a n c := by
  rcases h.2 with ⟨h1, h2⟩ | ⟨g, cap, cur, h1, _⟩
  · exact ⟨none, 0, by rw [h1, h2]⟩
  · exact ⟨_, _, h1⟩
set_option maxHeartbeats 2000000 in
set_option maxRecDepth 100000 in
theorem traM_any {vf : I5 → Value} {Can : MS → Prop} (l : List I5) (hN : Runner vf l Can) (pb cap : Nat) (r : Nat → Int) (hcan : Can (startS r)) (f : Int) (w : World) (h : ProgAt w pb vf l) :
    Calls Tryz.prog 46 #[.slice (some ⟨pb, 0, none⟩) l.length cap, regsV r, .int .i64 f] w fun e w' => ∃ u, e = .returned u ∧ OwnV w' w.heap.size u (runV l r f) ∧ Below w.heap.size w w' := by
  obtain ⟨i0, hii, hz0, hzs, hz2⟩ := info_three Tryz.infoVis
  have HSL := hide h
  clear h
  obtain ⟨V, hV⟩ : ∃ V, V = runV l r f := ⟨_, rfl⟩
  rw [← hV]
  have HV := hide hV
  clear hV
  have HRV : Hid (regsV r = .agg #[.int .i64 (r 0), .int .i64 (r 1), .int .i64 (r 2), .int .i64 (r 3), .int .i64 (r 4), .int .i64 (r 5), .int .i64 (r 6), .int .i64 (r 7)]) := hide rfl
  rw [HRV.out]
  go_enter Tryz.func46, Tryz.ntmps46
  go_wp2_with fail
  rw [← HRV.out]
  generalize hW : w.alloc (.cells #[.int .i64 (r 0), .int .i64 (r 1), .int .i64 (r 2), .int .i64 (r 3), .int .i64 (r 4), .int .i64 (r 5), .int .i64 (r 6), .int .i64 (r 7)] 42) = w1
  have hb1 : Below w.heap.size w w1 := by rw [← hW]; exact (belA _ _)
  have hs1 := HSL.out.bel hb1 HSL.out.1
  have HB1 := hide hb1
  have hsz1 := hb1.size
  clear hW hb1 HSL
  refine (start_any l.length pb cap r f w1).mono ?_
  rintro e w2 hst
  obtain ⟨g, rfl, hg, hne, hlive⟩ := start_live hst hs1 hcan
  have hgl := RowF.lt hlive.row
  have hpl := hlive.prog.1
  have hW2 := hlive.bel.size
  have HL := hide hlive
  have HAL := hide hN
  have HR : Hid (runV l r f = (runR l (fuelI f).toNat (startS r)).1.take 100) := hide rfl
  obtain ⟨F, hF⟩ : ∃ F, F = (fuelI f).toNat := ⟨_, rfl⟩
  have hF2 : F ≤ 10000 := by have := fuelI_bd f; omega
  rw [← hF] at HL HR
  obtain ⟨res, hres⟩ : ∃ res, res = runR l F (startS r) := ⟨_, rfl⟩
  rw [← hres] at HL HR
  clear hst hlive hN hs1 hF hres hcan
  rw [← HV.out] at HR
  obtain ⟨full, hfull⟩ : ∃ full, full = res.1 := ⟨_, rfl⟩
  rw [← hfull] at HR
  have HFU := hide hfull
  clear hfull
  go_wp2_with fail
  go_loopg [8] (F + 1) (fun k u wr => TraI vf Can w1 wr w2.heap.size g pb cap l F full u k)
  case atStart => exact ⟨[], World.ownsRow_nil _ _ _ _, by simp, Nat.le_refl _, Or.inl ⟨F, _, res.1, res.2, rfl, HL.out, by rw [HFU.out]; rfl⟩⟩
  case round =>
    obtain ⟨vs, hown, hvl, hBs, hinv⟩ := hrel
    have HOW := hide hown
    obtain ⟨au, cu, rfl⟩ := own_any_len hown
    clear hown
    by_cases h100 : vs.length < 100
    · rcases hinv with ⟨k', s, vs2, o, hk, hlive, hfu⟩ | ⟨hk, ⟨o, hov⟩, hfu⟩
      · rcases hlive.ready hg with ⟨k2, hk2, hpc, hcall⟩ | ⟨hnil, hcall⟩
        · have HC := hide hcall
          clear hcall
          have HK := hide (And.intro hk hk2)
          have HFV := hide hfu
          clear hk hk2 hlive hfu
          go_wp2_with (go_at_call 69; refine HC.out.mono ?_; rintro e w3 ⟨rfl, hl3, hbt3⟩)
          have own3 := HOW.out.but hbt3 hgl
          have hBs3 : w2.heap.size ≤ w3.heap.size := Nat.le_trans hBs hbt3.size
          obtain ⟨e0, e1, e2, e3, e4, e5, e6, e7⟩ := hl3.row.eight
          have e25 := hl3.row.fields.2.1
          have HL3 := hide hl3
          have HOW3 := hide own3
          clear hl3 own3 hbt3 HC HOW
          go_region_held3 (fun w' => w'.cell? ⟨g, 25, none⟩ = some (.int .i64 s.pc) ∧ w'.cell? ⟨g, 1, none⟩ = some (.int .i64 (s.r 0)) ∧ w'.cell? ⟨g, 2, none⟩ = some (.int .i64 (s.r 1)) ∧ w'.cell? ⟨g, 3, none⟩ = some (.int .i64 (s.r 2)) ∧ w'.cell? ⟨g, 4, none⟩ = some (.int .i64 (s.r 3)) ∧ w'.cell? ⟨g, 5, none⟩ = some (.int .i64 (s.r 4)) ∧ w'.cell? ⟨g, 6, none⟩ = some (.int .i64 (s.r 5)) ∧ w'.cell? ⟨g, 7, none⟩ = some (.int .i64 (s.r 6)) ∧ w'.cell? ⟨g, 8, none⟩ = some (.int .i64 (s.r 7))) (go_keep) (first
            | (refine step_append_own rfl (.tmp 20) (.tmp 30) 58 rfl w2.heap.size 64 i0 _ 9 72 Tryz.underlying58 hii hz0 hzs hz2 rfl (by decide) (.slice au vs.length cu) vs.length (vs.flatMap V9.cells) (by simp [Act.eval]) (World.ownsRow.alloc HOW3.out _) ⟨w3.heap.size, 0, none⟩ 1 1 (V9.mk s.pc s.r).cells (by simp [Act.eval]) rfl (nine_new _ (V9.mk s.pc s.r) _ _ rfl) (nine_one _) (by unfold maxLen; omega) (by omega) (by simp; omega) ?_; intro v4 w4 hown4 hgrow4; have hb34 : Below w2.heap.size w3 w4 := Below.grown ((Below.refl _ _).drew.alloc hBs3 _) hgrow4 (by simp; omega) (fun k hk => (World.ownsRow.lt HOW3.out k hk).1); have hl4 := HL3.out.keep hb34 hgl hpl hW2; obtain ⟨y0, y1, y2, y3, y4, y5, y6, y7⟩ := hl4.row.eight; have y25 := hl4.row.fields.2.1; have HL4 := hide hl4; have HOW4 := hide (OwnV.push hown4 rfl); have hBs4 := Nat.le_trans hBs3 hb34.size; clear hown4 hgrow4 hl4 hb34))
          clear e0 e1 e2 e3 e4 e5 e6 e7 e25 y0 y1 y2 y3 y4 y5 y6 y7 y25 HL3 HOW3
          have hl4' := HL4.out
          rw [HK.out.2] at hl4'
          have HC2 := hide (hl4'.step hg hne HAL.out hF2 hpc)
          clear hl4' HL4
          go_wp2_with (go_at_call 70; refine HC2.out.mono ?_; rintro e w5 ⟨rfl, hst, hbt5⟩; have HST := hide hst; have HBT := hide hbt5; clear hst hbt5)
          have own5 := HOW4.out.but HBT.out hgl
          have hBs5 := Nat.le_trans hBs4 HBT.out.size
          have hfu := HFV.out
          rcases HST.out with ⟨s', vs', hre, hl'⟩ | ⟨hre, hov⟩
          · have h2 : vs2 = ⟨s.pc, s.r⟩ :: vs' := congrArg Prod.fst hre
            go_roundg (k2 + 1)
            case measure => have := HK.out; omega
            case rel => exact ⟨vs ++ [⟨s.pc, s.r⟩], own5, by simp; omega, hBs5, Or.inl ⟨k2, s', vs', o, rfl, hl', by rw [hfu, h2]; simp⟩⟩
          · have h2 : vs2 = [⟨s.pc, s.r⟩] := hre
            go_roundg 0
            case measure => have := HK.out; omega
            case rel => exact ⟨vs ++ [⟨s.pc, s.r⟩], own5, by simp; omega, hBs5, Or.inr ⟨rfl, ⟨o, hov⟩, by rw [hfu, h2]⟩⟩
        · have HC := hide hcall
          have HVS : Hid (V = vs) := hide (by rw [HR.out, hfu, show vs2 = [] from hnil, List.append_nil]; exact List.take_of_length_le hvl)
          clear hcall hlive hk hfu hnil HL
          go_wp2_with (go_at_call 69; refine HC.out.mono ?_; rintro e w3 ⟨rfl, hov, hbt3⟩; have HFI := hide (And.intro (own_low (HOW.out.but hbt3 hgl) (show w.heap.size ≤ w2.heap.size by omega)) (HB1.out.trans (hov.bel.mono hsz1))); clear hov hbt3)
          go_ret
          exact ⟨_, rfl, by rw [HVS.out]; exact HFI.out.1, HFI.out.2⟩
      · have HC := hide hov.ready
        have HVS : Hid (V = vs) := hide (by rw [HR.out, hfu]; exact List.take_of_length_le hvl)
        clear hov hk hfu HL
        go_wp2_with (go_at_call 69; refine HC.out.mono ?_; rintro e w3 ⟨rfl, hov, hbt3⟩; have HFI := hide (And.intro (own_low (HOW.out.but hbt3 hgl) (show w.heap.size ≤ w2.heap.size by omega)) (HB1.out.trans (hov.bel.mono hsz1))); clear hov hbt3)
        go_ret
        exact ⟨_, rfl, by rw [HVS.out]; exact HFI.out.1, HFI.out.2⟩
    · have hl100 : vs.length = 100 := by omega
      have HBW : Hid (Below w.heap.size w wr) := hide (by
        rcases hinv with ⟨k', s, vs2, o, hk, hlive, hfu⟩ | ⟨hk, ⟨o, hov⟩, hfu⟩
        · exact HB1.out.trans (hlive.bel.mono hsz1)
        · exact HB1.out.trans (hov.bel.mono hsz1))
      have HVS : Hid (V = vs) := hide (by
        rw [HR.out]
        rcases hinv with ⟨k', s, vs2, o, hk, hlive, hfu⟩ | ⟨hk, ⟨o, hov⟩, hfu⟩
        · rw [hfu, ← hl100]; exact List.take_left
        · rw [hfu]; exact List.take_of_length_le hvl)
      have HFI := hide (own_low HOW.out (show w.heap.size ≤ w2.heap.size by omega))
      have HL100 := hide hl100
      have hd : decide ((vs.length : Int) < 100) = false := by simp; omega
      clear hl100 hinv HL
      go_wp2
      go_ret
      exact ⟨_, rfl, by rw [HVS.out]; exact HFI.out, HBW.out⟩
end Go.Proofs.YtamiichlbmllcaaGreatDoor
