import Derived.Test.YtamiichlbmllcabGreatDoorQArmW
set_option maxRecDepth 100000
set_option maxHeartbeats 32000000
namespace Go.Proofs.YtamiichlbmllcabGreatDoor
open Go.RowKit
def refNr (o : Int) : Int := if 0 <= o /\ o < 12 then nregs o else 3
def refKb (o : Int) : Int := if 0 <= o /\ o < 12 then kbytes o else 0
def needV (o : Int) : Value := .tuple #[.bool (decide (0 < refNr o)), .bool (decide (1 < refNr o)), .bool (decide (2 < refNr o)), .int .i64 (refKb o)]
theorem needV_of {o nr kb : Int} (h1 : refNr o = nr) (h2 : refKb o = kb) : needV o = .tuple #[.bool (decide (0 < nr)), .bool (decide (1 < nr)), .bool (decide (2 < nr)), .int .i64 kb] := by unfold needV; rw [h1, h2]
theorem op_cases (o : Int) : o = 0 \/ o = 1 \/ o = 2 \/ o = 7 \/ o = 8 \/ o = 9 \/ o = 10 \/ o = 11 \/ (o ≠ 0 /\ o ≠ 1 /\ o ≠ 2 /\ o ≠ 7 /\ o ≠ 8 /\ o ≠ 9 /\ o ≠ 10 /\ o ≠ 11) := by omega
theorem needs_any (o : Int) (w : World) :
 Calls Tryz.prog 66 #[.int .i64 o] w fun e w' => e = .returned (needV o) /\ w = w' := by
 rcases op_cases o with rfl | rfl | rfl | rfl | rfl | rfl | rfl | rfl | h
 · rw [needV_of (show refNr 0 = 0 by decide) (show refKb 0 = 0 by decide)]
   go_enter Tryz.func66, Tryz.ntmps66
   go_wp2
   exact bodyPost_ret (v := .tuple #[.bool false, .bool false, .bool false, .int .i64 0]) (by simp [results, Tryz.results66, go_sem]) rfl ⟨rfl, rfl⟩
 · rw [needV_of (show refNr 1 = 1 by decide) (show refKb 1 = 8 by decide)]
   go_enter Tryz.func66, Tryz.ntmps66
   go_wp2
   exact bodyPost_ret (v := .tuple #[.bool true, .bool false, .bool false, .int .i64 8]) (by simp [results, Tryz.results66, go_sem]) rfl ⟨rfl, rfl⟩
 · rw [needV_of (show refNr 2 = 2 by decide) (show refKb 2 = 0 by decide)]
   go_enter Tryz.func66, Tryz.ntmps66
   go_wp2
   exact bodyPost_ret (v := .tuple #[.bool true, .bool true, .bool false, .int .i64 0]) (by simp [results, Tryz.results66, go_sem]) rfl ⟨rfl, rfl⟩
 · rw [needV_of (show refNr 7 = 2 by decide) (show refKb 7 = 0 by decide)]
   go_enter Tryz.func66, Tryz.ntmps66
   go_wp2
   exact bodyPost_ret (v := .tuple #[.bool true, .bool true, .bool false, .int .i64 0]) (by simp [results, Tryz.results66, go_sem]) rfl ⟨rfl, rfl⟩
 · rw [needV_of (show refNr 8 = 2 by decide) (show refKb 8 = 0 by decide)]
   go_enter Tryz.func66, Tryz.ntmps66
   go_wp2
   exact bodyPost_ret (v := .tuple #[.bool true, .bool true, .bool false, .int .i64 0]) (by simp [results, Tryz.results66, go_sem]) rfl ⟨rfl, rfl⟩
 · rw [needV_of (show refNr 9 = 0 by decide) (show refKb 9 = 1 by decide)]
   go_enter Tryz.func66, Tryz.ntmps66
   go_wp2
   exact bodyPost_ret (v := .tuple #[.bool false, .bool false, .bool false, .int .i64 1]) (by simp [results, Tryz.results66, go_sem]) rfl ⟨rfl, rfl⟩
 · rw [needV_of (show refNr 10 = 2 by decide) (show refKb 10 = 1 by decide)]
   go_enter Tryz.func66, Tryz.ntmps66
   go_wp2
   exact bodyPost_ret (v := .tuple #[.bool true, .bool true, .bool false, .int .i64 1]) (by simp [results, Tryz.results66, go_sem]) rfl ⟨rfl, rfl⟩
 · rw [needV_of (show refNr 11 = 2 by decide) (show refKb 11 = 1 by decide)]
   go_enter Tryz.func66, Tryz.ntmps66
   go_wp2
   exact bodyPost_ret (v := .tuple #[.bool true, .bool true, .bool false, .int .i64 1]) (by simp [results, Tryz.results66, go_sem]) rfl ⟨rfl, rfl⟩
 · obtain ⟨h0, h1, h2, h7, h8, h9, h10, h11⟩ := h
   have e1 : refNr o = 3 := by unfold refNr nregs; repeat' split <;> omega
   have e2 : refKb o = 0 := by unfold refKb kbytes; repeat' split <;> omega
   rw [needV_of e1 e2]
   have d0 : (o == 0) = false := by rw [beq_eq_false_iff_ne]; exact h0
   have d1 : (o == 1) = false := by rw [beq_eq_false_iff_ne]; exact h1
   have d2 : (o == 2) = false := by rw [beq_eq_false_iff_ne]; exact h2
   have d7 : (o == 7) = false := by rw [beq_eq_false_iff_ne]; exact h7
   have d8 : (o == 8) = false := by rw [beq_eq_false_iff_ne]; exact h8
   have d9 : (o == 9) = false := by rw [beq_eq_false_iff_ne]; exact h9
   have d10 : (o == 10) = false := by rw [beq_eq_false_iff_ne]; exact h10
   have d11 : (o == 11) = false := by rw [beq_eq_false_iff_ne]; exact h11
   clear h0 h1 h2 h7 h8 h9 h10 h11 e1 e2
   go_enter Tryz.func66, Tryz.ntmps66
   go_wp2
   exact bodyPost_ret (v := .tuple #[.bool true, .bool true, .bool true, .int .i64 0]) (by simp [results, Tryz.results66, go_sem]) rfl ⟨rfl, rfl⟩
def regB (nd : Bool) (n : Int) : Bool := if nd then decide (0 <= n) && decide (n < 8) else decide (n = 0)
theorem regB_ok (nr j r : Int) : regB (decide (j < nr)) r = regOk nr j r := by unfold regB regOk; by_cases h : j < nr <;> simp [h]
theorem reg_any (nd : Bool) (n : Int) (w : World) :
 Calls Tryz.prog 86 #[.bool nd, .int .i64 n] w fun e w' => e = .returned (.bool (regB nd n)) /\ w = w' := by
 cases nd
 · have R : Hid (regB false n = (n == 0)) := hide (by unfold regB; by_cases h : n = 0 <;> simp [h])
   go_enter Tryz.func86, Tryz.ntmps86
   go_wp2
   go_ret
   exact ⟨ret_bool R.out.symm, rfl⟩
 · by_cases h0 : 0 <= n <;> by_cases h1 : n < 8
   all_goals
    go_enter Tryz.func86, Tryz.ntmps86
    go_wp2
    all_goals go_ret
    all_goals exact ⟨ret_bool (by simp [regB, h0, h1]), rfl⟩
theorem fits_yes (o a b c k n : Int) (w : World) (ho0 : 0 <= o) (ho1 : o < 12) :
 Calls Tryz.prog 65 #[.agg #[.int .i64 o, .int .i64 a, .int .i64 b, .int .i64 c, .int .i64 k], .int .i64 n] w fun e w' => e = .returned (.bool (fitsB o a b c k n)) /\ Below w.heap.size w w' := by
 have d0 : decide (o < 0) = false := by simpa using ho0
 have d1 : decide (11 < o) = false := by rw [decide_eq_false_iff_not]; omega
 have en : refNr o = nregs o := by unfold refNr; rw [if_pos ⟨ho0, ho1⟩]
 have ek : refKb o = kbytes o := by unfold refKb; rw [if_pos ⟨ho0, ho1⟩]
 have HV := hide (needV_of en ek)
 clear en ek
 have h0 := hide (regB_ok (nregs o) 0 a)
 have h1 := hide (regB_ok (nregs o) 1 b)
 have h2 := hide (regB_ok (nregs o) 2 c)
 have HF : Hid (fitsB o a b c k n = (regOk (nregs o) 0 a && regOk (nregs o) 1 b && regOk (nregs o) 2 c && kOk (kbytes o) k n)) := hide (by simp [fitsB, ho0, ho1])
 rw [HF.out]
 generalize regOk (nregs o) 0 a = r0 at *
 generalize regOk (nregs o) 1 b = r1 at *
 generalize regOk (nregs o) 2 c = r2 at *
 generalize hq0 : decide (0 < nregs o) = q0 at *
 generalize hq1 : decide (1 < nregs o) = q1 at *
 generalize hq2 : decide (2 < nregs o) = q2 at *
 clear hq0 hq1 hq2 HF
 rcases kb_three o with hk | hk | hk
 all_goals
  rw [hk] at HV ⊢
  clear hk
  cases r0 <;> cases r1 <;> cases r2
  all_goals
   go_enter Tryz.func65, Tryz.ntmps65
   go_wp2_with (first | (go_at_call 66; refine (needs_any _ _).mono ?_; rintro e w' ⟨rfl, rfl⟩; rw [HV.out]) | (go_at_call_of 86 (Value.int .i64 a); refine (reg_any _ _ _).mono ?_; rintro e w' ⟨rfl, rfl⟩; rw [h0.out]) | (go_at_call_of 86 (Value.int .i64 b); refine (reg_any _ _ _).mono ?_; rintro e w' ⟨rfl, rfl⟩; rw [h1.out]) | (go_at_call_of 86 (Value.int .i64 c); refine (reg_any _ _ _).mono ?_; rintro e w' ⟨rfl, rfl⟩; rw [h2.out]))
   all_goals go_ret
   all_goals exact ⟨ret_bool (by simp [kOk] <;> first | (intros; omega) | rfl), (Below.refl _ _).alloc (Nat.le_refl _) _⟩
theorem fits_any (o a b c k n : Int) (w : World) :
 Calls Tryz.prog 65 #[.agg #[.int .i64 o, .int .i64 a, .int .i64 b, .int .i64 c, .int .i64 k], .int .i64 n] w fun e w' => e = .returned (.bool (fitsB o a b c k n)) /\ Below w.heap.size w w' := by
 by_cases ho0 : 0 <= o
 · by_cases ho1 : o < 12
   · exact fits_yes o a b c k n w ho0 ho1
   · have R : Hid (fitsB o a b c k n = false) := hide (by simp [fitsB, ho1])
     go_enter Tryz.func65, Tryz.ntmps65
     go_wp2
     go_ret
     exact ⟨ret_bool R.out.symm, (Below.refl _ _).alloc (Nat.le_refl _) _⟩
 · have R : Hid (fitsB o a b c k n = false) := hide (by simp [fitsB, ho0])
   go_enter Tryz.func65, Tryz.ntmps65
   go_wp2
   go_ret
   exact ⟨ret_bool R.out.symm, (Below.refl _ _).alloc (Nat.le_refl _) _⟩
theorem refRight_some (l : List I5) (b off cap : Nat) (w : World) (hb : b < w.heap.size) (hl : 0 < l.length) (hl2 : l.length <= 64) (hi : ∀ i (h : i < l.length), InsAt w b (off + i * 5) l[i]) :
 Calls Tryz.prog 36 #[.slice (some ⟨b, off, none⟩) l.length cap] w fun e w' => e = .returned (.tuple #[.int .i64 (rightR l).1, .int .i64 (rightR l).2]) /\ Below w.heap.size w w' := by
 have d0 : decide ((l.length : Int) < 1) = false := by rw [decide_eq_false_iff_not]; omega
 have d1 : decide ((64 : Int) < l.length) = false := by rw [decide_eq_false_iff_not]; omega
 go_enter Tryz.func36, Tryz.ntmps36
 go_wp2_with fail
 go_loopw [4] (fun i w' => ∃ j : Nat, j <= l.length /\ i = .int .i64 j /\ (∀ i (h : i < l.length), i < j -> l[i].fits l.length = true) /\ Below w.heap.size w w') (fun i _ => l.length - (intOf i).toNat)
 case atStart => exact ⟨0, by omega, rfl, fun _ _ h => by omega, Below.refl _ _⟩
 case round =>
  obtain ⟨j, hj, rfl, hall, hbl⟩ := hrel
  replace hall := hide hall
  by_cases hlt : j < l.length
  · obtain ⟨c0, c1, c2, c3, c4⟩ := (hi j hlt).below hbl hb
    have hz := hbl.size
    cases hfit : l[j].fits l.length
    · have R : Hid (rightR l = (1, (j : Int))) := hide (rightR_no hl hl2 hlt hfit hall.out)
      have F : Hid (l[j].fits l.length = false) := hide hfit
      clear hfit
      go_wp2_with (go_at_call 65; refine (fits_any _ _ _ _ _ _ _).mono ?_; rintro e w' ⟨rfl, hb2⟩; rw [show fitsB l[j].o l[j].a l[j].b l[j].c l[j].k l.length = false from F.out])
      go_ret2
      exact ⟨ret_two (by rw [R.out]) (by rw [R.out]), hbl.trans (hb2.mono hz)⟩
    · have F : Hid (l[j].fits l.length = true) := hide hfit
      clear hfit
      go_wp2_with (go_at_call 65; refine (fits_any _ _ _ _ _ _ _).mono ?_; rintro e w' ⟨rfl, hb2⟩; rw [show fitsB l[j].o l[j].a l[j].b l[j].c l[j].k l.length = true from F.out])
      go_roundw
      case rel => exact ⟨j + 1, by omega, by go_num, fun i h h2 => by rcases Nat.lt_succ_iff_lt_or_eq.1 h2 with h3 | h3; exact hall.out i h h3; subst h3; exact F.out, hbl.trans (hb2.mono hz)⟩
      case measure => simp [intOf]; omega
  · have R : Hid (rightR l = (0, 0)) := hide (rightR_yes hl hl2 fun i h => hall.out i h (by omega))
    go_wp2
    go_ret2
    exact ⟨ret_two (by rw [R.out]) (by rw [R.out]), hbl⟩
theorem refRight_len (n : Nat) (a : Option Addr) (cap : Nat) (w : World) (h : n = 0 \/ 64 < n) :
 Calls Tryz.prog 36 #[.slice a n cap] w fun e w' => e = .returned (.tuple #[.int .i64 1, .int .i64 0]) /\ w' = w := by
 rcases h with h | h
 · subst h
   go_enter Tryz.func36, Tryz.ntmps36
   go_wp2
   go_ret2
   exact ⟨rfl, rfl⟩
 · have d0 : decide ((n : Int) < 1) = false := by rw [decide_eq_false_iff_not]; omega
   go_enter Tryz.func36, Tryz.ntmps36
   go_wp2
   go_ret2
   exact ⟨rfl, rfl⟩
theorem refRight_any (l : List I5) (v : Value) (w : World) (h : Slc w v l) :
 Calls Tryz.prog 36 #[v] w fun e w' => e = .returned (.tuple #[.int .i64 (rightR l).1, .int .i64 (rightR l).2]) /\ Below w.heap.size w w' := by
 by_cases hl : l.length = 0 \/ 64 < l.length
 · obtain ⟨a, cap, rfl⟩ := h.len
   refine (refRight_len l.length a cap w hl).mono ?_
   rintro e w' ⟨rfl, rfl⟩
   rw [rightR_len hl]
   exact ⟨rfl, Below.refl _ _⟩
 · rcases h with ⟨_, rfl⟩ | ⟨b, off, cap, rfl, h1, h2⟩
   · exact absurd (Or.inl rfl) hl
   · exact refRight_some l b off cap w h1 (by omega) (by omega) h2
end Go.Proofs.YtamiichlbmllcabGreatDoor
