import Derived.Test.YtamiichlbmllcaaGreatDoorTTkn
import Derived.Test.YtamiichlbmllcaaGreatDoorTRowF
import Derived.Test.YtamiichlbmllcaaGreatDoorTRefA
import Derived.Deep.CutRange
import Derived.Deep.DeepCutAuto
/-
  The contract of machine.Trace, for every right program.
-/
namespace Go.Proofs.YtamiichlbmllcaaGreatDoor
open Go.RowKit
def V9.cells (x : V9) : List Value := [.int .i64 x.pc, .int .i64 (x.r 0), .int .i64 (x.r 1), .int .i64 (x.r 2), .int .i64 (x.r 3), .int .i64 (x.r 4), .int .i64 (x.r 5), .int .i64 (x.r 6), .int .i64 (x.r 7)]
/-- a list of visits of the call's own -/
def OwnV (w : World) (base : Nat) (v : Value) (l : List V9) : Prop := w.ownsRow base 64 9 v l.length (l.flatMap V9.cells)
theorem Tryz.infoVis : (Tryz.prog.info? 64).map (fun i => (i.zero, i.size, i.bytes)) = some (some (.agg #[.int .i64 0, .int .i64 0, .int .i64 0, .int .i64 0, .int .i64 0, .int .i64 0, .int .i64 0, .int .i64 0, .int .i64 0]), 9, 72) := by kernel_rfl
theorem OwnV.push {w : World} {base n : Nat} {v : Value} {l : List V9} {x : V9} (h : w.ownsRow base 64 9 v n (l.flatMap V9.cells ++ x.cells)) (hn : n = l.length + 1) : OwnV w base v (l ++ [x]) := by
  subst hn; unfold OwnV; rw [List.length_append, List.flatMap_append]; simpa using h
theorem OwnV.but {w w' : World} {base g : Nat} {v : Value} {l : List V9} (h : OwnV w base v l) (hb : But g w w') (hg : g < base) : OwnV w' base v l := by
  refine ⟨h.1, ?_⟩
  rcases h.2 with h2 | ⟨g2, cap, cur, h3, h4, hh, r⟩
  · exact Or.inl h2
  · exact Or.inr ⟨g2, cap, cur, h3, h4, by rw [hb.block g2 (lt_of_block hh) (by omega)]; exact hh, r⟩
theorem nine_new (w : World) (x : V9) (t : TypeId) (g : Nat) (hg : g = w.heap.size) : ∀ j u, x.cells[j]? = some u → (w.alloc (.cells #[.int .i64 x.pc, .int .i64 (x.r 0), .int .i64 (x.r 1), .int .i64 (x.r 2), .int .i64 (x.r 3), .int .i64 (x.r 4), .int .i64 (x.r 5), .int .i64 (x.r 6), .int .i64 (x.r 7)] t)).cell? ((⟨g, 0, none⟩ : Addr).add j) = some u := by
  subst hg
  intro j u hj
  have hadd : (⟨w.heap.size, 0, none⟩ : Addr).add j = ⟨w.heap.size, j, none⟩ := by unfold Addr.add; split <;> simp_all
  rw [hadd, cell_of_row _ _ _ _ _ _ (heap_alloc_new w _)]
  simpa [V9.cells] using hj
theorem nine_one (x : V9) : ∀ u ∈ x.cells, u.oneCell' = true := by
  intro u hu
  simp [V9.cells] at hu
  rcases hu with rfl | rfl | rfl | rfl | rfl | rfl | rfl | rfl | rfl <;> rfl
/-- what holds at the head of the loop -/
def TraI (vf : I5 → Value) (Can : MS → Prop) (W wr : World) (B g pb cap : Nat) (l : List I5) (F : Nat) (full : List V9) (u : Value) (k : Nat) : Prop :=
  ∃ vs, OwnV wr B u vs ∧ vs.length ≤ 100 ∧ B ≤ wr.heap.size ∧ ((∃ k' s vs2 o, k = k' + 1 ∧ Live vf Can W wr g pb cap l F (vs2, o) k' s ∧ full = vs ++ vs2) ∨ (k = 0 ∧ (∃ o, Over W wr g pb cap l F o) ∧ full = vs))
theorem MRow.eight {w : World} {g : Nat} {pv : Value} {s : MS} {F : Int} {o : O4} (h : MRow w g pv s F o) : w.cell? ⟨g, 1, none⟩ = some (.int .i64 (s.r 0)) ∧ w.cell? ⟨g, 2, none⟩ = some (.int .i64 (s.r 1)) ∧ w.cell? ⟨g, 3, none⟩ = some (.int .i64 (s.r 2)) ∧ w.cell? ⟨g, 4, none⟩ = some (.int .i64 (s.r 3)) ∧ w.cell? ⟨g, 5, none⟩ = some (.int .i64 (s.r 4)) ∧ w.cell? ⟨g, 6, none⟩ = some (.int .i64 (s.r 5)) ∧ w.cell? ⟨g, 7, none⟩ = some (.int .i64 (s.r 6)) ∧ w.cell? ⟨g, 8, none⟩ = some (.int .i64 (s.r 7)) :=
  ⟨(h.reg 0 (by omega)).1, (h.reg 1 (by omega)).1, (h.reg 2 (by omega)).1, (h.reg 3 (by omega)).1, (h.reg 4 (by omega)).1, (h.reg 5 (by omega)).1, (h.reg 6 (by omega)).1, (h.reg 7 (by omega)).1⟩
theorem own_any_len {w : World} {B e size n : Nat} {v : Value} {xs : List Value} (h : w.ownsRow B e size v n xs) : ∃ a c, v = .slice a n c := by
  rcases h.2 with ⟨h1, h2⟩ | ⟨g, cap, cur, h1, _⟩
  · exact ⟨none, 0, by rw [h1, h2]⟩
  · exact ⟨_, _, h1⟩
set_option maxHeartbeats 8000000 in
set_option maxRecDepth 100000 in
theorem traM_any {vf : I5 → Value} {Can : MS → Prop} (l : List I5) (hN : Runner vf l Can) (pb cap : Nat) (r : Nat → Int) (hcan : Can (startS r)) (f : Int) (w : World) (h : ProgAt w pb vf l) :
    Calls Tryz.prog 46 #[.slice (some ⟨pb, 0, none⟩) l.length cap, regsV r, .int .i64 f] w fun e w' => ∃ u, e = .returned u ∧ OwnV w' w.heap.size u (runV l r f) ∧ Below w.heap.size w w' := by
  obtain ⟨i0, hii, hz0, hzs, hz2⟩ := info_three Tryz.infoVis
  have HSL := hide h
  clear h
  obtain ⟨V, hV⟩ : ∃ V, V = runV l r f := ⟨_, rfl⟩
  rw [← hV]
  have HV := hide hV
  clear hV
  have HRV : Hid (regsV r = .agg #[.int .i64 (r 0), .int .i64 (r 1), .int .i64 (r 2), .int .i64 (r 3), .int .i64 (r 4), .int .i64 (r 5), .int .i64 (r 6), .int .i64 (r 7)]) := hide rfl
  rw [HRV.out]
  go_enter Tryz.func46, Tryz.ntmps46
  go_wp2_with fail
  rw [← HRV.out]
  generalize hW : w.alloc (.cells #[.int .i64 (r 0), .int .i64 (r 1), .int .i64 (r 2), .int .i64 (r 3), .int .i64 (r 4), .int .i64 (r 5), .int .i64 (r 6), .int .i64 (r 7)] 42) = w1
  have hb1 : Below w.heap.size w w1 := by rw [← hW]; exact (belA _ _)
  have hs1 := HSL.out.bel hb1 HSL.out.1
  have HB1 := hide hb1
  have hsz1 := hb1.size
  clear hW hb1 HSL
  refine (start_any l.length pb cap r f w1).mono ?_
  rintro e w2 hst
  obtain ⟨g, rfl, hg, hne, hlive⟩ := start_live hst hs1 hcan
  have hgl := RowF.lt hlive.row
  have hpl := hlive.prog.1
  have hW2 := hlive.bel.size
  have HL := hide hlive
  have HAL := hide hN
  have HR : Hid (runV l r f = (runR l (fuelI f).toNat (startS r)).1.take 100) := hide rfl
  obtain ⟨F, hF⟩ : ∃ F, F = (fuelI f).toNat := ⟨_, rfl⟩
  have hF2 : F ≤ 10000 := by have := fuelI_bd f; omega
  rw [← hF] at HL HR
  obtain ⟨res, hres⟩ : ∃ res, res = runR l F (startS r) := ⟨_, rfl⟩
  rw [← hres] at HL HR
  clear hst hlive hN hs1 hF hres hcan
  rw [← HV.out] at HR
  obtain ⟨full, hfull⟩ : ∃ full, full = res.1 := ⟨_, rfl⟩
  rw [← hfull] at HR
  have HFU := hide hfull
  clear hfull
  go_wp2_with fail
  go_loopg [8] (F + 1) (fun k u wr => TraI vf Can w1 wr w2.heap.size g pb cap l F full u k)
  case atStart => exact ⟨[], World.ownsRow_nil _ _ _ _, by simp, Nat.le_refl _, Or.inl ⟨F, _, res.1, res.2, rfl, HL.out, by rw [HFU.out]; rfl⟩⟩
  case round =>
    obtain ⟨vs, hown, hvl, hBs, hinv⟩ := hrel
    have HOW := hide hown
    obtain ⟨au, cu, rfl⟩ := own_any_len hown
    clear hown
    by_cases h100 : vs.length < 100
    · rcases hinv with ⟨k', s, vs2, o, hk, hlive, hfu⟩ | ⟨hk, ⟨o, hov⟩, hfu⟩
      · rcases hlive.ready hg with ⟨k2, hk2, hpc, hcall⟩ | ⟨hnil, hcall⟩
        · have HC := hide hcall
          clear hcall
          have HK := hide (And.intro hk hk2)
          have HFV := hide hfu
          clear hk hk2 hlive hfu
          go_wp2_with (go_at_call 69; refine HC.out.mono ?_; rintro e w3 ⟨rfl, hl3, hbt3⟩)
          have own3 := HOW.out.but hbt3 hgl
          have hBs3 : w2.heap.size ≤ w3.heap.size := Nat.le_trans hBs hbt3.size
          obtain ⟨e0, e1, e2, e3, e4, e5, e6, e7⟩ := hl3.row.eight
          have e25 := hl3.row.fields.2.1
          have HL3 := hide hl3
          have HOW3 := hide own3
          clear hl3 own3 hbt3 HC HOW
          go_region_held3 (fun w' => w'.cell? ⟨g, 25, none⟩ = some (.int .i64 s.pc) ∧ w'.cell? ⟨g, 1, none⟩ = some (.int .i64 (s.r 0)) ∧ w'.cell? ⟨g, 2, none⟩ = some (.int .i64 (s.r 1)) ∧ w'.cell? ⟨g, 3, none⟩ = some (.int .i64 (s.r 2)) ∧ w'.cell? ⟨g, 4, none⟩ = some (.int .i64 (s.r 3)) ∧ w'.cell? ⟨g, 5, none⟩ = some (.int .i64 (s.r 4)) ∧ w'.cell? ⟨g, 6, none⟩ = some (.int .i64 (s.r 5)) ∧ w'.cell? ⟨g, 7, none⟩ = some (.int .i64 (s.r 6)) ∧ w'.cell? ⟨g, 8, none⟩ = some (.int .i64 (s.r 7))) (go_keep) (first
            | (refine step_append_own rfl (.tmp 20) (.tmp 30) 58 rfl w2.heap.size 64 i0 _ 9 72 Tryz.underlying58 hii hz0 hzs hz2 rfl (by decide) (.slice au vs.length cu) vs.length (vs.flatMap V9.cells) (by simp [Act.eval]) (World.ownsRow.alloc HOW3.out _) ⟨w3.heap.size, 0, none⟩ 1 1 (V9.mk s.pc s.r).cells (by simp [Act.eval]) rfl (nine_new _ (V9.mk s.pc s.r) _ _ rfl) (nine_one _) (by unfold maxLen; omega) (by omega) (by simp; omega) ?_; intro v4 w4 hown4 hgrow4; have hb34 : Below w2.heap.size w3 w4 := Below.grown ((Below.refl _ _).drew.alloc hBs3 _) hgrow4 (by simp; omega) (fun k hk => (World.ownsRow.lt HOW3.out k hk).1); have hl4 := HL3.out.keep hb34 hgl hpl hW2; obtain ⟨y0, y1, y2, y3, y4, y5, y6, y7⟩ := hl4.row.eight; have y25 := hl4.row.fields.2.1; have HL4 := hide hl4; have HOW4 := hide (OwnV.push hown4 rfl); have hBs4 := Nat.le_trans hBs3 hb34.size; clear hown4 hgrow4 hl4 hb34))
          clear e0 e1 e2 e3 e4 e5 e6 e7 e25 y0 y1 y2 y3 y4 y5 y6 y7 y25 HL3 HOW3
          have hl4' := HL4.out
          rw [HK.out.2] at hl4'
          have HC2 := hide (hl4'.step hg hne HAL.out hF2 hpc)
          clear hl4' HL4
          go_wp2_with (go_at_call 70; refine HC2.out.mono ?_; rintro e w5 ⟨rfl, hst, hbt5⟩; have HST := hide hst; have HBT := hide hbt5; clear hst hbt5)
          have own5 := HOW4.out.but HBT.out hgl
          have hBs5 := Nat.le_trans hBs4 HBT.out.size
          have hfu := HFV.out
          rcases HST.out with ⟨s', vs', hre, hl'⟩ | ⟨hre, hov⟩
          · have h2 : vs2 = ⟨s.pc, s.r⟩ :: vs' := congrArg Prod.fst hre
            go_roundg (k2 + 1)
            case measure => have := HK.out; omega
            case rel => exact ⟨vs ++ [⟨s.pc, s.r⟩], own5, by simp; omega, hBs5, Or.inl ⟨k2, s', vs', o, rfl, hl', by rw [hfu, h2]; simp⟩⟩
          · have h2 : vs2 = [⟨s.pc, s.r⟩] := hre
            go_roundg 0
            case measure => have := HK.out; omega
            case rel => exact ⟨vs ++ [⟨s.pc, s.r⟩], own5, by simp; omega, hBs5, Or.inr ⟨rfl, ⟨o, hov⟩, by rw [hfu, h2]⟩⟩
        · have HC := hide hcall
          have HVS : Hid (V = vs) := hide (by rw [HR.out, hfu, show vs2 = [] from hnil, List.append_nil]; exact List.take_of_length_le hvl)
          clear hcall hlive hk hfu hnil HL
          go_wp2_with (go_at_call 69; refine HC.out.mono ?_; rintro e w3 ⟨rfl, hov, hbt3⟩; have HFI := hide (And.intro (own_low (HOW.out.but hbt3 hgl) (show w.heap.size ≤ w2.heap.size by omega)) (HB1.out.trans (hov.bel.mono hsz1))); clear hov hbt3)
          go_ret
          exact ⟨_, rfl, by rw [HVS.out]; exact HFI.out.1, HFI.out.2⟩
      · have HC := hide hov.ready
        have HVS : Hid (V = vs) := hide (by rw [HR.out, hfu]; exact List.take_of_length_le hvl)
        clear hov hk hfu HL
        go_wp2_with (go_at_call 69; refine HC.out.mono ?_; rintro e w3 ⟨rfl, hov, hbt3⟩; have HFI := hide (And.intro (own_low (HOW.out.but hbt3 hgl) (show w.heap.size ≤ w2.heap.size by omega)) (HB1.out.trans (hov.bel.mono hsz1))); clear hov hbt3)
        go_ret
        exact ⟨_, rfl, by rw [HVS.out]; exact HFI.out.1, HFI.out.2⟩
    · have hl100 : vs.length = 100 := by omega
      have HBW : Hid (Below w.heap.size w wr) := hide (by
        rcases hinv with ⟨k', s, vs2, o, hk, hlive, hfu⟩ | ⟨hk, ⟨o, hov⟩, hfu⟩
        · exact HB1.out.trans (hlive.bel.mono hsz1)
        · exact HB1.out.trans (hov.bel.mono hsz1))
      have HVS : Hid (V = vs) := hide (by
        rw [HR.out]
        rcases hinv with ⟨k', s, vs2, o, hk, hlive, hfu⟩ | ⟨hk, ⟨o, hov⟩, hfu⟩
        · rw [hfu, ← hl100]; exact List.take_left
        · rw [hfu]; exact List.take_of_length_le hvl)
      have HFI := hide (own_low HOW.out (show w.heap.size ≤ w2.heap.size by omega))
      have HL100 := hide hl100
      have hd : decide ((vs.length : Int) < 100) = false := by simp; omega
      clear hl100 hinv HL
      go_wp2
      go_ret
      exact ⟨_, rfl, by rw [HVS.out]; exact HFI.out, HBW.out⟩
end Go.Proofs.YtamiichlbmllcaaGreatDoor
/-
  The contract of surety.Trace, for every program.
-/
namespace Go.Proofs.YtamiichlbmllcaaGreatDoor
open Go.RowKit
set_option maxHeartbeats 4000000 in
set_option maxRecDepth 100000 in
theorem Trace_any (l : List I5) (v : Value) (r : Nat → Int) (f : Int) (w : World) (hs : Shapes w) (h : Slc w v l) :
    Calls Tryz.prog 25 #[v, regsV r, .int .i64 f] w fun e w' => ∃ u, e = .returned (.tuple #[u, .int .i64 (rightR l).1]) ∧ OwnV w' w.heap.size u (runVE l r f) ∧ Below w.heap.size w w' := by
  have hk := Kn.nil [] w
  have HS := hide hs
  have HV := hide h
  clear hs h
  rcases rightR_or l with hr | hr
  · have e1 : runVE l r f = runV l r f := by unfold runVE; rw [if_pos hr]
    rw [e1]
    have HAF := hide (right_all hr)
    have e2 : (rightR l).1 = 0 := by rw [hr]
    rw [e2]
    clear e1
    unfold regsV
    go_enter Tryz.func25, Tryz.ntmps25
    go_wp2_with (first | (go_at_call 41; refine (codeRight_any l v _ (HS.out.below hk.mod.below HS.out.1) (HV.out.below hk.mod.below (Nat.le_refl _))).mono ?_; rintro e w1 ⟨rfl, hb⟩; replace hk := hk.call hb; clear hb; rw [hr]) | ((with_reducible show wpList _ _ _ _ _ _); (first | (refine wS hk ?_; simp only [Act.put, pw]) | (refine wN hk ?_; clear hk; intro w1 hk; simp only [Act.put, pw]) | (refine wT hk ?_; clear hk; intro w1 hk; simp only [Act.put]))))
    (refine wp_regK hk (.op 0 (.op 2 (.op 3 (.op 1 (.op 4 (.op 5 (.op 6 .nil))))))) (fun i => decide (i < 7)) mixT (by decide) (by kernel_rfl) (by kernel_rfl) ?_; clear hk; intro w1 hk)
    (repeat (refine sS hk ?_; simp only [Act.put, pw]))
    (refine sCall ?_; intro K hK; go_step; refine (progOf_at l v _ (HV.out.below hk.mod.below (Nat.le_refl _)) HAF.out.1 HAF.out.2.1).mono ?_; rintro e w1 ⟨pb, cap, rfl, hp, hpb, hb⟩; replace hk := hk.call hb; clear hb; refine hK _ _ (fun _ => hk) ?_; clear hK K)
    have hz1 := hk.mod.size
    (refine sCall ?_; intro K hK; go_step; refine (traM_any l (runner_plain HAF.out) pb cap r trivial f _ hp).mono ?_; rintro e w1 ⟨u, rfl, ho, hb⟩; replace hk := hk.call hb; clear hb; obtain ⟨ua, uc, rfl⟩ := own_any_len ho; have HO := hide (own_low ho hz1); clear ho; refine hK _ _ (fun _ => hk) ?_; clear hK K)
    (repeat (refine sS hk ?_; simp only [Act.put, pw]))
    refine tNil ?_
    go_wp2_with (first | ((with_reducible show wpList _ _ _ _ _ _); (first | (refine wS hk ?_; simp only [Act.put, pw]) | (refine wN hk ?_; clear hk; intro w1 hk; simp only [Act.put, pw]) | (refine wT hk ?_; clear hk; intro w1 hk; simp only [Act.put]))))
    go_ret2
    exact ⟨_, rfl, HO.out, hk.mod.below⟩
  · have e1 : runVE l r f = [] := by unfold runVE; rw [if_neg (by intro h; rw [h] at hr; simp at hr)]
    rw [e1, hr]
    clear e1
    unfold regsV
    go_enter Tryz.func25, Tryz.ntmps25
    go_wp2_with (first | (go_at_call 41; refine (codeRight_any l v _ (HS.out.below hk.mod.below HS.out.1) (HV.out.below hk.mod.below (Nat.le_refl _))).mono ?_; rintro e w1 ⟨rfl, hb⟩; replace hk := hk.call hb; clear hb; rw [hr]) | ((with_reducible show wpList _ _ _ _ _ _); (first | (refine wS hk ?_; simp only [Act.put, pw]) | (refine wN hk ?_; clear hk; intro w1 hk; simp only [Act.put, pw]) | (refine wT hk ?_; clear hk; intro w1 hk; simp only [Act.put]))))
    go_ret2
    exact ⟨_, rfl, World.ownsRow_nil _ _ _ _, hk.mod.below⟩
end Go.Proofs.YtamiichlbmllcaaGreatDoor
/-
  The document's answer: what holds while suretyref.Run runs.
-/
namespace Go.Proofs.YtamiichlbmllcaaGreatDoor
open Go.RowKit
def RegR (w : World) (b : Nat) (r : Nat → Int) : Prop := RowF w b 42 8 (fun j => .int .i64 (r j))
def WordR (w : World) (b : Nat) (m : Nat → Int) : Prop := RowF w b 128 16 (fun j => .int .i64 (m j))
theorem RegR.set {w : World} {b : Nat} {r : Nat → Int} (h : RegR w b r) (a : Nat) (v : Int) : RegR (w.setCell ⟨b, a, none⟩ (.int .i64 v)) b (upd r a v) := by
  refine (RowF.set h a (.int .i64 v)).congr fun j _ => ?_
  unfold upd
  by_cases e : j = a
  · rw [if_pos e, if_pos e]
  · rw [if_neg e, if_neg e]
theorem WordR.set {w : World} {b : Nat} {r : Nat → Int} (h : WordR w b r) (a : Nat) (v : Int) : WordR (w.setCell ⟨b, a, none⟩ (.int .i64 v)) b (upd r a v) := by
  refine (RowF.set h a (.int .i64 v)).congr fun j _ => ?_
  unfold upd
  by_cases e : j = a
  · rw [if_pos e, if_pos e]
  · rw [if_neg e, if_neg e]
theorem regR_of {w : World} {N : Nat} {r : Nat → Int} (hH : w.heap[N]? = some (.cells #[.int .i64 (r 0), .int .i64 (r 1), .int .i64 (r 2), .int .i64 (r 3), .int .i64 (r 4), .int .i64 (r 5), .int .i64 (r 6), .int .i64 (r 7)] 42 (0, 0))) : RegR w N r := by
  refine ⟨_, hH, rfl, fun j hj => ?_⟩
  match j, hj with
  | 0, _ => rfl
  | 1, _ => rfl
  | 2, _ => rfl
  | 3, _ => rfl
  | 4, _ => rfl
  | 5, _ => rfl
  | 6, _ => rfl
  | 7, _ => rfl
  | j + 8, h => omega
theorem wordR_of {w : World} {N : Nat} (hH : w.heap[N]? = some (.cells #[.int .i64 0, .int .i64 0, .int .i64 0, .int .i64 0, .int .i64 0, .int .i64 0, .int .i64 0, .int .i64 0, .int .i64 0, .int .i64 0, .int .i64 0, .int .i64 0, .int .i64 0, .int .i64 0, .int .i64 0, .int .i64 0] 128 (0, 0))) : WordR w N zeroW := by
  refine ⟨_, hH, rfl, fun j hj => ?_⟩
  match j, hj with
  | 0, _ => rfl
  | 1, _ => rfl
  | 2, _ => rfl
  | 3, _ => rfl
  | 4, _ => rfl
  | 5, _ => rfl
  | 6, _ => rfl
  | 7, _ => rfl
  | 8, _ => rfl
  | 9, _ => rfl
  | 10, _ => rfl
  | 11, _ => rfl
  | 12, _ => rfl
  | 13, _ => rfl
  | 14, _ => rfl
  | 15, _ => rfl
  | j + 16, h => omega
theorem own_set4 {w : World} {B g : Nat} {v : Value} {l : List V9} (h : OwnV w B v l) (hg : g < B) (o0 o1 o2 o3 : Nat) (u0 u1 u2 u3 : Value) : OwnV ((((w.setCell ⟨g, o0, none⟩ u0).setCell ⟨g, o1, none⟩ u1).setCell ⟨g, o2, none⟩ u2).setCell ⟨g, o3, none⟩ u3) B v l :=
  (((h.but (But.set g _ _ _) hg).but (But.set g _ _ _) hg).but (But.set g _ _ _) hg).but (But.set g _ _ _) hg
/-- what holds at the head of the document's loop: N: the registers' block, N + 1 the result's, W the words' -/
structure RefSt (w wr : World) (N W : Nat) (l : List I5) (F : Nat) (full : List V9) (o : O4) (k : Nat) (s : MS) (u : Value) (vs : List V9) (u13 u14 : Value) : Prop where
  pc : u13 = .int .i64 s.pc
  st : u14 = .int .i64 s.n
  regs : RegR wr N s.r
  words : WordR wr W s.m
  res : wr.heap[N + 1]? = some (.cells #[.int .i64 0, .int .i64 0, .int .i64 0, .int .i64 0] 53 (0, 0))
  own : OwnV wr (W + 1) u vs
  bel : Below N w wr
  sz : W + 1 ≤ wr.heap.size
  hpc : s.pc ≤ l.length
  hk : s.n + k = F
  hv : ∃ pre, full = pre ++ (runR l k s).1 ∧ vs = pre.take 100
  ho : (runR l k s).2 = o
theorem RefSt.stop {w wr : World} {N W : Nat} {l : List I5} {F : Nat} {full : List V9} {o : O4} {k : Nat} {s : MS} {u : Value} {vs : List V9} {u13 u14 : Value} (h : RefSt w wr N W l F full o k s u vs u13 u14) {o' : O4} (hr : runR l k s = ([], o')) : full.take 100 = vs ∧ o = o' := by
  obtain ⟨pre, h1, h2⟩ := h.hv
  have h3 := h.ho
  rw [hr] at h1 h3
  simp only [List.append_nil] at h1
  exact ⟨by rw [h1, h2], h3.symm⟩
/-- behind what is come to -/
structure RefMid (w wr : World) (N W : Nat) (l : List I5) (F : Nat) (full : List V9) (o : O4) (k : Nat) (s : MS) (u : Value) (vs : List V9) : Prop where
  regs : RegR wr N s.r
  words : WordR wr W s.m
  res : wr.heap[N + 1]? = some (.cells #[.int .i64 0, .int .i64 0, .int .i64 0, .int .i64 0] 53 (0, 0))
  own : OwnV wr (W + 1) u vs
  bel : Below N w wr
  sz : W + 1 ≤ wr.heap.size
  hpc : s.pc < l.length
  hk : s.n + (k + 1) = F
  hv : ∃ pre, full = pre ++ (runR l (k + 1) s).1 ∧ vs = (pre ++ [V9.mk s.pc s.r]).take 100
  ho : (runR l (k + 1) s).2 = o
theorem RefSt.mid {w wr w' : World} {N W : Nat} {l : List I5} {F : Nat} {full : List V9} {o : O4} {k : Nat} {s : MS} {u u' : Value} {vs : List V9} {u13 u14 : Value} (h : RefSt w wr N W l F full o (k + 1) s u vs u13 u14) (hpc : s.pc < l.length) (hb : Below (W + 1) wr w') (hN : N + 1 < W) (ho : vs.length < 100 ∧ OwnV w' (W + 1) u' (vs ++ [V9.mk s.pc s.r]) ∨ ¬ vs.length < 100 ∧ OwnV w' (W + 1) u' vs) :
    ∃ vs', RefMid w w' N W l F full o k s u' vs' ∧ vs'.length ≤ 100 := by
  obtain ⟨pre, h1, h2⟩ := h.hv
  have hlen : (pre.take 100).length = min 100 pre.length := List.length_take
  rcases ho with ⟨hlt, ho⟩ | ⟨hge, ho⟩
  · refine ⟨vs ++ [V9.mk s.pc s.r], ⟨RowF.block h.regs (hb.block _ (by omega)), RowF.block h.words (hb.block _ (by omega)), (hb.block _ (by omega)).trans h.res, ho, h.bel.trans (hb.mono (by omega)), Nat.le_trans h.sz hb.size, hpc, h.hk, ⟨pre, h1, ?_⟩, h.ho⟩, by simp; omega⟩
    rw [h2] at hlt ⊢
    have : pre.take 100 = pre := List.take_of_length_le (by omega)
    rw [this, List.take_of_length_le]
    simp; omega
  · refine ⟨_, ⟨RowF.block h.regs (hb.block _ (by omega)), RowF.block h.words (hb.block _ (by omega)), (hb.block _ (by omega)).trans h.res, ho, h.bel.trans (hb.mono (by omega)), Nat.le_trans h.sz hb.size, hpc, h.hk, ⟨pre, h1, ?_⟩, h.ho⟩, by rw [h2]; simp; omega⟩
    rw [h2] at hge ⊢
    rw [List.take_append_of_le_length (by omega)]
theorem RefSt.regCells {w : World} {b : Nat} {r : Nat → Int} (h : RegR w b r) : w.cell? ⟨b, 0, none⟩ = some (.int .i64 (r 0)) ∧ w.cell? ⟨b, 1, none⟩ = some (.int .i64 (r 1)) ∧ w.cell? ⟨b, 2, none⟩ = some (.int .i64 (r 2)) ∧ w.cell? ⟨b, 3, none⟩ = some (.int .i64 (r 3)) ∧ w.cell? ⟨b, 4, none⟩ = some (.int .i64 (r 4)) ∧ w.cell? ⟨b, 5, none⟩ = some (.int .i64 (r 5)) ∧ w.cell? ⟨b, 6, none⟩ = some (.int .i64 (r 6)) ∧ w.cell? ⟨b, 7, none⟩ = some (.int .i64 (r 7)) :=
  ⟨(h.cell 0 (by omega)).1, (h.cell 1 (by omega)).1, (h.cell 2 (by omega)).1, (h.cell 3 (by omega)).1, (h.cell 4 (by omega)).1, (h.cell 5 (by omega)).1, (h.cell 6 (by omega)).1, (h.cell 7 (by omega)).1⟩
structure But2 (N W : Nat) (w w' : World) : Prop where
  os : w'.os = w.os
  tape : w'.tape = w.tape
  output : w'.output = w.output
  size : w.heap.size ≤ w'.heap.size
  block : ∀ k, k < w.heap.size → k ≠ N → k ≠ W → w'.heap[k]? = w.heap[k]?
theorem But2.refl (N W : Nat) (w : World) : But2 N W w w := ⟨rfl, rfl, rfl, Nat.le_refl _, fun _ _ _ _ => rfl⟩
theorem But2.set1 (N W : Nat) (w : World) (off : Nat) (u : Value) : But2 N W w (w.setCell ⟨N, off, none⟩ u) := ⟨rfl, rfl, rfl, by simp, fun k _ hn _ => Below.heap_setCell _ _ _ _ hn⟩
theorem But2.set2 (N W : Nat) (w : World) (off : Nat) (u : Value) : But2 N W w (w.setCell ⟨W, off, none⟩ u) := ⟨rfl, rfl, rfl, by simp, fun k _ _ hn => Below.heap_setCell _ _ _ _ hn⟩
theorem RefMid.next {w wr : World} {N W : Nat} {l : List I5} {F : Nat} {full : List V9} {o : O4} {k : Nat} {s : MS} {u : Value} {vs : List V9} (h : RefMid w wr N W l F full o k s u vs) {s' : MS} (hd : doAt l s = (0, s')) {w1 w' : World} (b1 : But2 N W wr w1) (hr : RegR w1 N s'.r) (hm : WordR w1 W s'.m) (hb : Below w1.heap.size w1 w') {u13 u14 : Value} (h13 : u13 = .int .i64 s'.pc) (h14 : u14 = .int .i64 s'.n) (hl : AllFit l) (hN : N + 1 < W) :
    RefSt w w' N W l F full o k s' u vs u13 u14 := by
  have hsz := h.sz
  have hbs := b1.size
  have hs' : s' = (doAt l s).2 := by rw [hd]
  have hrun := runR_go (p := l) (k := k) (s := s) (by have := h.hpc; omega) (by rw [hd])
  rw [← hs'] at hrun
  obtain ⟨pre, h1, h2⟩ := h.hv
  refine ⟨h13, h14, RowF.block hr (hb.block _ (RowF.lt hr)), RowF.block hm (hb.block _ (RowF.lt hm)), ?_, ?_, ?_, by have := hb.size; omega, by rw [hs']; exact doAt_pc hl h.hpc, by rw [hs', doAt_n]; have := h.hk; omega, ⟨pre ++ [V9.mk s.pc s.r], ?_, h2⟩, ?_⟩
  · rw [hb.block _ (by omega), b1.block _ (by omega) (by omega) (by omega)]; exact h.res
  · refine ⟨h.own.1, ?_⟩
    rcases h.own.2 with h3 | ⟨g, cap, cur, h3, h4, hh, r⟩
    · exact Or.inl h3
    · have := lt_of_block hh
      exact Or.inr ⟨g, cap, cur, h3, h4, by rw [hb.block _ (by omega), b1.block _ this (by omega) (by omega)]; exact hh, r⟩
  · refine h.bel.trans ⟨hb.os.trans b1.os, hb.tape.trans b1.tape, hb.output.trans b1.output, Nat.le_trans b1.size hb.size, fun i hi => ?_⟩
    rw [hb.block _ (by omega), b1.block _ (by omega) (by omega) (by omega)]
  · rw [h1, hrun]; simp
  · have := h.ho; rw [hrun] at this; exact this
theorem RefMid.halt {w wr : World} {N W : Nat} {l : List I5} {F : Nat} {full : List V9} {o : O4} {k : Nat} {s : MS} {u : Value} {vs : List V9} (h : RefMid w wr N W l F full o k s u vs) {kd : Int} {s' : MS} (hd : doAt l s = (kd, s')) (hk : kd ≠ 0) : full.take 100 = vs ∧ o = endO kd s.pc s' := by
  have hrun := runR_stop (p := l) (k := k) (s := s) (by have := h.hpc; omega) (by rw [hd]; exact hk)
  rw [hd] at hrun
  obtain ⟨pre, h1, h2⟩ := h.hv
  have h3 := h.ho
  rw [hrun] at h1 h3
  exact ⟨by rw [h1, h2], h3.symm⟩
theorem RefMid.out {w wr : World} {N W : Nat} {l : List I5} {F : Nat} {full : List V9} {o : O4} {k : Nat} {s : MS} {u : Value} {vs : List V9} (h : RefMid w wr N W l F full o k s u vs) (x : Obj) (hN : N + 1 < W) (o0 o1 o2 o3 : Nat) (u0 u1 u2 u3 : Value) :
    OwnV (((((wr.setCell ⟨N + 1, o0, none⟩ u0).setCell ⟨N + 1, o1, none⟩ u1).setCell ⟨N + 1, o2, none⟩ u2).setCell ⟨N + 1, o3, none⟩ u3).alloc x) N u vs ∧ Below N w (((((wr.setCell ⟨N + 1, o0, none⟩ u0).setCell ⟨N + 1, o1, none⟩ u1).setCell ⟨N + 1, o2, none⟩ u2).setCell ⟨N + 1, o3, none⟩ u3).alloc x) := by
  have hsz := h.sz
  exact ⟨World.ownsRow.alloc (own_low (own_set4 h.own (by omega) _ _ _ _ _ _ _ _) (by omega)) x, (below_set4 h.bel (by omega) _ _ _ _ _ _ _ _).alloc (by simp; omega) x⟩
end Go.Proofs.YtamiichlbmllcaaGreatDoor
