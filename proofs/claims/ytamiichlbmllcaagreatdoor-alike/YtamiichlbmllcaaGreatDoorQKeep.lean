/-
  The contracts of suretykeep.pick and suretykeep.program: what a raw program becomes.
-/
import Derived.Test.YtamiichlbmllcaaGreatDoorQRngE
namespace Go.Proofs.YtamiichlbmllcaaGreatDoor
open Go.RowKit
set_option maxHeartbeats 400000 in
theorem pick_any (c n : Int) (w : World) (hc : I64 c) (hn : 0 < n) (hn2 : n < 1000000000) :
    Calls Tryz.prog 40 #[.int .i64 c, .int .i64 n] w fun e w' => e = .returned (.int .i64 (pickI c n)) ∧ w = w' := by
  obtain ⟨h1, h2⟩ := hc
  have hz : (n == 0) = false := by rw [beq_eq_false_iff_ne]; omega
  by_cases h0 : c < 0
  · have R : Hid (pickI c n = -(c + 1) % n) := hide (by unfold pickI; rw [if_pos h0])
    go_enter Tryz.func40, Tryz.ntmps40
    go_wp2
    go_ret
    exact ⟨ret_int (by rw [R.out, ← Int.tmod_eq_emod_of_nonneg (by omega), Int.neg_tmod]), rfl⟩
  · have R : Hid (pickI c n = c % n) := hide (by unfold pickI; rw [if_neg h0])
    go_enter Tryz.func40, Tryz.ntmps40
    go_wp2
    go_ret
    exact ⟨ret_int R.out.symm, rfl⟩
set_option maxHeartbeats 4000000 in
set_option maxRecDepth 100000 in
theorem program_big (l : List I5) (b off cap : Nat) (w : World) (hb : b < w.heap.size) (hlen : 63 < l.length ∧ l.length < 9223372036854775808) (hi : ∀ i (h : i < l.length), InsAt w b (off + i * 5) l[i]) (h64 : ∀ i (h : i < l.length), l[i].in64) :
    Calls Tryz.prog 19 #[.slice (some ⟨b, off, none⟩) l.length cap] w fun e w' => ∃ v, e = .returned v ∧ OwnI w' w.heap.size v (progL l) ∧ Below w.heap.size w w' := by
  obtain ⟨i0, hi0, hz0, hzs, hz2⟩ := info_parts Tryz.infoIns
  obtain ⟨hlen, hlen2⟩ := hlen
  have hd63 : decide ((63 : Int) < l.length) = true := by rw [decide_eq_true_eq]; omega
  go_enter Tryz.func19, Tryz.ntmps19
  go_wp2_with fail
  go_loopw [4, 5] (fun p j wr => ∃ (n : Nat) (ps : List I5), n ≤ 63 ∧ j = .int .i64 n ∧ Hid (ps = (l.take n).map (mkI 63)) ∧ OwnI wr w.heap.size p ps ∧ Below w.heap.size w wr) (fun _ j _ => 63 - (intOf j).toNat)
  case atStart => exact ⟨0, [], by omega, rfl, hide rfl, World.ownsRow_nil _ _ _ _, Below.refl _ _⟩
  case round =>
    obtain ⟨n, ps, hn, rfl, hps, hown, hbl⟩ := hrel
    have hsz := hbl.size
    have hpl : Hid (ps.length = n) := hide (by rw [hps.out]; simp; omega)
    by_cases hlt : n < 63
    · have hlt2 : n < l.length := by omega
      have hbw : b < wr.heap.size := by omega
      obtain ⟨c0, c1, c2, c3, c4⟩ := (hi n hlt2).below hbl hb
      obtain ⟨w0, w1, w2, w3, w4⟩ := h64 n hlt2
      have Hn : Hid ((l.take (n + 1)).map (mkI 63) = (l.take n).map (mkI 63) ++ [mkI 63 l[n]]) := hide (map_take_succ l n hlt2)
      obtain ⟨r, hr⟩ : ∃ r, r = l[n] := ⟨_, rfl⟩
      rw [← hr] at c0 c1 c2 c3 c4 w0 w1 w2 w3 w4 Hn
      clear hr
      obtain ⟨o, hoo⟩ : ∃ o, o = pickI r.o 12 := ⟨_, rfl⟩
      obtain ⟨hp0, hp1⟩ := pickI_bd r.o 12 (by omega)
      rw [← hoo] at hp0 hp1
      have HO := hide hoo
      clear hoo
      rcases op_is o hp0 hp1 with ha | ha | ha | ha | ha | ha | ha
      · subst ha
        have M : Hid (mkI 63 r = ⟨0, 0, 0, 0, 0⟩) := hide (by unfold mkI; rw [← HO.out]; simp only; repeat (first | rw [if_pos (by omega)] | rw [if_neg (by omega)] | rw [if_pos trivial]); try rfl)
        go_wp2_with (first | (go_at_call_of 40 (Value.int .i64 r.o); refine (pick_any _ _ _ w0 (by omega) (by omega)).mono ?_; rintro e w' ⟨rfl, rfl⟩; rw [← HO.out]) | (go_at_call_of 40 (Value.int .i64 r.a); refine (pick_any _ _ _ w1 (by omega) (by omega)).mono ?_; rintro e w' ⟨rfl, rfl⟩) | (go_at_call_of 40 (Value.int .i64 r.b); refine (pick_any _ _ _ w2 (by omega) (by omega)).mono ?_; rintro e w' ⟨rfl, rfl⟩) | (go_at_call_of 40 (Value.int .i64 r.c); refine (pick_any _ _ _ w3 (by omega) (by omega)).mono ?_; rintro e w' ⟨rfl, rfl⟩) | (go_at_call_of 40 (Value.int .i64 r.k); refine (pick_any _ _ _ w4 (by omega) (by omega)).mono ?_; rintro e w' ⟨rfl, rfl⟩) | (at_builtin; go_must (refine wpList_append_own _ rfl (.tmp 89) (.tmp 91) 26 rfl w.heap.size 62 i0 _ 5 40 Tryz.underlying26 hi0 hz0 hzs hz2 rfl (by decide) u4 ps.length (ps.flatMap I5.cells) rfl ?hO ⟨wr.heap.size + 1, 0, none⟩ 1 1 (I5.mk 0 (0) (0) (0) (0)).cells rfl rfl ?hNw (five_one _) ?h63 ?h64 ?hB ?_)))
        case hO => exact World.ownsRow.alloc (World.ownsRow.alloc hown _) _
        case hNw => refine five_new _ _ _ _ ?_; simp
        case h63 => rw [hpl.out]; unfold maxLen; omega
        case h64 => rw [hpl.out]; omega
        case hB => simp; omega
        intro v4 w4 hown4 hgrow4 _
        have hbl4 := ((hbl.alloc hsz _).alloc (by simp; omega) _).grown hgrow4 (by simp; omega) (fun k hk => (World.ownsRow.lt hown k hk).1)
        have hown4 := OwnI.push hown4 rfl
        clear hgrow4 hown hbl c0 c1 c2 c3 c4
        go_wp2
        go_roundw
        case rel => exact ⟨n + 1, _, by omega, by go_num, hide (by rw [Hn.out, M.out, hps.out]), hown4, hbl4⟩
        case measure => simp [intOf]; omega
      · subst ha
        have M : Hid (mkI 63 r = ⟨1, pickI r.a 8, 0, 0, r.k⟩) := hide (by unfold mkI; rw [← HO.out]; simp only; repeat (first | rw [if_pos (by omega)] | rw [if_neg (by omega)] | rw [if_pos trivial]); try rfl)
        go_wp2_with (first | (go_at_call_of 40 (Value.int .i64 r.o); refine (pick_any _ _ _ w0 (by omega) (by omega)).mono ?_; rintro e w' ⟨rfl, rfl⟩; rw [← HO.out]) | (go_at_call_of 40 (Value.int .i64 r.a); refine (pick_any _ _ _ w1 (by omega) (by omega)).mono ?_; rintro e w' ⟨rfl, rfl⟩) | (go_at_call_of 40 (Value.int .i64 r.b); refine (pick_any _ _ _ w2 (by omega) (by omega)).mono ?_; rintro e w' ⟨rfl, rfl⟩) | (go_at_call_of 40 (Value.int .i64 r.c); refine (pick_any _ _ _ w3 (by omega) (by omega)).mono ?_; rintro e w' ⟨rfl, rfl⟩) | (go_at_call_of 40 (Value.int .i64 r.k); refine (pick_any _ _ _ w4 (by omega) (by omega)).mono ?_; rintro e w' ⟨rfl, rfl⟩) | (at_builtin; go_must (refine wpList_append_own _ rfl (.tmp 89) (.tmp 91) 26 rfl w.heap.size 62 i0 _ 5 40 Tryz.underlying26 hi0 hz0 hzs hz2 rfl (by decide) u4 ps.length (ps.flatMap I5.cells) rfl ?hO ⟨wr.heap.size + 1, 0, none⟩ 1 1 (I5.mk 1 (pickI r.a 8) (0) (0) (r.k)).cells rfl rfl ?hNw (five_one _) ?h63 ?h64 ?hB ?_)))
        case hO => exact World.ownsRow.alloc (World.ownsRow.alloc hown _) _
        case hNw => refine five_new _ _ _ _ ?_; simp
        case h63 => rw [hpl.out]; unfold maxLen; omega
        case h64 => rw [hpl.out]; omega
        case hB => simp; omega
        intro v4 w4 hown4 hgrow4 _
        have hbl4 := ((hbl.alloc hsz _).alloc (by simp; omega) _).grown hgrow4 (by simp; omega) (fun k hk => (World.ownsRow.lt hown k hk).1)
        have hown4 := OwnI.push hown4 rfl
        clear hgrow4 hown hbl c0 c1 c2 c3 c4
        go_wp2
        go_roundw
        case rel => exact ⟨n + 1, _, by omega, by go_num, hide (by rw [Hn.out, M.out, hps.out]), hown4, hbl4⟩
        case measure => simp [intOf]; omega
      · subst ha
        have M : Hid (mkI 63 r = ⟨2, pickI r.a 8, pickI r.b 8, 0, 0⟩) := hide (by unfold mkI; rw [← HO.out]; simp only; repeat (first | rw [if_pos (by omega)] | rw [if_neg (by omega)] | rw [if_pos trivial]); try rfl)
        go_wp2_with (first | (go_at_call_of 40 (Value.int .i64 r.o); refine (pick_any _ _ _ w0 (by omega) (by omega)).mono ?_; rintro e w' ⟨rfl, rfl⟩; rw [← HO.out]) | (go_at_call_of 40 (Value.int .i64 r.a); refine (pick_any _ _ _ w1 (by omega) (by omega)).mono ?_; rintro e w' ⟨rfl, rfl⟩) | (go_at_call_of 40 (Value.int .i64 r.b); refine (pick_any _ _ _ w2 (by omega) (by omega)).mono ?_; rintro e w' ⟨rfl, rfl⟩) | (go_at_call_of 40 (Value.int .i64 r.c); refine (pick_any _ _ _ w3 (by omega) (by omega)).mono ?_; rintro e w' ⟨rfl, rfl⟩) | (go_at_call_of 40 (Value.int .i64 r.k); refine (pick_any _ _ _ w4 (by omega) (by omega)).mono ?_; rintro e w' ⟨rfl, rfl⟩) | (at_builtin; go_must (refine wpList_append_own _ rfl (.tmp 89) (.tmp 91) 26 rfl w.heap.size 62 i0 _ 5 40 Tryz.underlying26 hi0 hz0 hzs hz2 rfl (by decide) u4 ps.length (ps.flatMap I5.cells) rfl ?hO ⟨wr.heap.size + 1, 0, none⟩ 1 1 (I5.mk 2 (pickI r.a 8) (pickI r.b 8) (0) (0)).cells rfl rfl ?hNw (five_one _) ?h63 ?h64 ?hB ?_)))
        case hO => exact World.ownsRow.alloc (World.ownsRow.alloc hown _) _
        case hNw => refine five_new _ _ _ _ ?_; simp
        case h63 => rw [hpl.out]; unfold maxLen; omega
        case h64 => rw [hpl.out]; omega
        case hB => simp; omega
        intro v4 w4 hown4 hgrow4 _
        have hbl4 := ((hbl.alloc hsz _).alloc (by simp; omega) _).grown hgrow4 (by simp; omega) (fun k hk => (World.ownsRow.lt hown k hk).1)
        have hown4 := OwnI.push hown4 rfl
        clear hgrow4 hown hbl c0 c1 c2 c3 c4
        go_wp2
        go_roundw
        case rel => exact ⟨n + 1, _, by omega, by go_num, hide (by rw [Hn.out, M.out, hps.out]), hown4, hbl4⟩
        case measure => simp [intOf]; omega
      · have M : Hid (mkI 63 r = ⟨o, pickI r.a 8, pickI r.b 8, pickI r.c 8, 0⟩) := hide (by unfold mkI; rw [← HO.out]; simp only; repeat (first | rw [if_pos (by omega)] | rw [if_neg (by omega)] | rw [if_pos trivial]); try rfl)
        obtain ⟨t1, t2, t3, t4, t5, t6, t7⟩ : (o != 0) = true ∧ (o != 9) = true ∧ decide (2 ≤ o) = true ∧ decide (3 ≤ o) = true ∧ decide (o ≤ 6) = true ∧ (o == 1) = false ∧ decide (9 ≤ o) = false := by
          refine ⟨?_, ?_, ?_, ?_, ?_, ?_, ?_⟩ <;> simp <;> omega
        go_wp2_with (first | (go_at_call_of 40 (Value.int .i64 r.o); refine (pick_any _ _ _ w0 (by omega) (by omega)).mono ?_; rintro e w' ⟨rfl, rfl⟩; rw [← HO.out]) | (go_at_call_of 40 (Value.int .i64 r.a); refine (pick_any _ _ _ w1 (by omega) (by omega)).mono ?_; rintro e w' ⟨rfl, rfl⟩) | (go_at_call_of 40 (Value.int .i64 r.b); refine (pick_any _ _ _ w2 (by omega) (by omega)).mono ?_; rintro e w' ⟨rfl, rfl⟩) | (go_at_call_of 40 (Value.int .i64 r.c); refine (pick_any _ _ _ w3 (by omega) (by omega)).mono ?_; rintro e w' ⟨rfl, rfl⟩) | (go_at_call_of 40 (Value.int .i64 r.k); refine (pick_any _ _ _ w4 (by omega) (by omega)).mono ?_; rintro e w' ⟨rfl, rfl⟩) | (at_builtin; go_must (refine wpList_append_own _ rfl (.tmp 89) (.tmp 91) 26 rfl w.heap.size 62 i0 _ 5 40 Tryz.underlying26 hi0 hz0 hzs hz2 rfl (by decide) u4 ps.length (ps.flatMap I5.cells) rfl ?hO ⟨wr.heap.size + 1, 0, none⟩ 1 1 (I5.mk o (pickI r.a 8) (pickI r.b 8) (pickI r.c 8) (0)).cells rfl rfl ?hNw (five_one _) ?h63 ?h64 ?hB ?_)))
        case hO => exact World.ownsRow.alloc (World.ownsRow.alloc hown _) _
        case hNw => refine five_new _ _ _ _ ?_; simp
        case h63 => rw [hpl.out]; unfold maxLen; omega
        case h64 => rw [hpl.out]; omega
        case hB => simp; omega
        intro v4 w4 hown4 hgrow4 _
        have hbl4 := ((hbl.alloc hsz _).alloc (by simp; omega) _).grown hgrow4 (by simp; omega) (fun k hk => (World.ownsRow.lt hown k hk).1)
        have hown4 := OwnI.push hown4 rfl
        clear hgrow4 hown hbl c0 c1 c2 c3 c4
        go_wp2
        go_roundw
        case rel => exact ⟨n + 1, _, by omega, by go_num, hide (by rw [Hn.out, M.out, hps.out]), hown4, hbl4⟩
        case measure => simp [intOf]; omega
      · have M : Hid (mkI 63 r = ⟨o, pickI r.a 8, pickI r.b 8, 0, 0⟩) := hide (by unfold mkI; rw [← HO.out]; simp only; repeat (first | rw [if_pos (by omega)] | rw [if_neg (by omega)] | rw [if_pos trivial]); try rfl)
        obtain ⟨t1, t2, t3, t4, t5, t6, t7⟩ : (o != 0) = true ∧ (o != 9) = true ∧ decide (2 ≤ o) = true ∧ decide (3 ≤ o) = true ∧ decide (o ≤ 6) = false ∧ (o == 1) = false ∧ decide (9 ≤ o) = false := by
          refine ⟨?_, ?_, ?_, ?_, ?_, ?_, ?_⟩ <;> simp <;> omega
        go_wp2_with (first | (go_at_call_of 40 (Value.int .i64 r.o); refine (pick_any _ _ _ w0 (by omega) (by omega)).mono ?_; rintro e w' ⟨rfl, rfl⟩; rw [← HO.out]) | (go_at_call_of 40 (Value.int .i64 r.a); refine (pick_any _ _ _ w1 (by omega) (by omega)).mono ?_; rintro e w' ⟨rfl, rfl⟩) | (go_at_call_of 40 (Value.int .i64 r.b); refine (pick_any _ _ _ w2 (by omega) (by omega)).mono ?_; rintro e w' ⟨rfl, rfl⟩) | (go_at_call_of 40 (Value.int .i64 r.c); refine (pick_any _ _ _ w3 (by omega) (by omega)).mono ?_; rintro e w' ⟨rfl, rfl⟩) | (go_at_call_of 40 (Value.int .i64 r.k); refine (pick_any _ _ _ w4 (by omega) (by omega)).mono ?_; rintro e w' ⟨rfl, rfl⟩) | (at_builtin; go_must (refine wpList_append_own _ rfl (.tmp 89) (.tmp 91) 26 rfl w.heap.size 62 i0 _ 5 40 Tryz.underlying26 hi0 hz0 hzs hz2 rfl (by decide) u4 ps.length (ps.flatMap I5.cells) rfl ?hO ⟨wr.heap.size + 1, 0, none⟩ 1 1 (I5.mk o (pickI r.a 8) (pickI r.b 8) (0) (0)).cells rfl rfl ?hNw (five_one _) ?h63 ?h64 ?hB ?_)))
        case hO => exact World.ownsRow.alloc (World.ownsRow.alloc hown _) _
        case hNw => refine five_new _ _ _ _ ?_; simp
        case h63 => rw [hpl.out]; unfold maxLen; omega
        case h64 => rw [hpl.out]; omega
        case hB => simp; omega
        intro v4 w4 hown4 hgrow4 _
        have hbl4 := ((hbl.alloc hsz _).alloc (by simp; omega) _).grown hgrow4 (by simp; omega) (fun k hk => (World.ownsRow.lt hown k hk).1)
        have hown4 := OwnI.push hown4 rfl
        clear hgrow4 hown hbl c0 c1 c2 c3 c4
        go_wp2
        go_roundw
        case rel => exact ⟨n + 1, _, by omega, by go_num, hide (by rw [Hn.out, M.out, hps.out]), hown4, hbl4⟩
        case measure => simp [intOf]; omega
      · subst ha
        have M : Hid (mkI 63 r = ⟨9, 0, 0, 0, pickI r.k 64⟩) := hide (by unfold mkI; rw [← HO.out]; simp only; repeat (first | rw [if_pos (by omega)] | rw [if_neg (by omega)] | rw [if_pos trivial]); try rfl)
        go_wp2_with (first | (go_at_call_of 40 (Value.int .i64 r.o); refine (pick_any _ _ _ w0 (by omega) (by omega)).mono ?_; rintro e w' ⟨rfl, rfl⟩; rw [← HO.out]) | (go_at_call_of 40 (Value.int .i64 r.a); refine (pick_any _ _ _ w1 (by omega) (by omega)).mono ?_; rintro e w' ⟨rfl, rfl⟩) | (go_at_call_of 40 (Value.int .i64 r.b); refine (pick_any _ _ _ w2 (by omega) (by omega)).mono ?_; rintro e w' ⟨rfl, rfl⟩) | (go_at_call_of 40 (Value.int .i64 r.c); refine (pick_any _ _ _ w3 (by omega) (by omega)).mono ?_; rintro e w' ⟨rfl, rfl⟩) | (go_at_call_of 40 (Value.int .i64 r.k); refine (pick_any _ _ _ w4 (by omega) (by omega)).mono ?_; rintro e w' ⟨rfl, rfl⟩) | (at_builtin; go_must (refine wpList_append_own _ rfl (.tmp 89) (.tmp 91) 26 rfl w.heap.size 62 i0 _ 5 40 Tryz.underlying26 hi0 hz0 hzs hz2 rfl (by decide) u4 ps.length (ps.flatMap I5.cells) rfl ?hO ⟨wr.heap.size + 1, 0, none⟩ 1 1 (I5.mk 9 (0) (0) (0) (pickI r.k 64)).cells rfl rfl ?hNw (five_one _) ?h63 ?h64 ?hB ?_)))
        case hO => exact World.ownsRow.alloc (World.ownsRow.alloc hown _) _
        case hNw => refine five_new _ _ _ _ ?_; simp
        case h63 => rw [hpl.out]; unfold maxLen; omega
        case h64 => rw [hpl.out]; omega
        case hB => simp; omega
        intro v4 w4 hown4 hgrow4 _
        have hbl4 := ((hbl.alloc hsz _).alloc (by simp; omega) _).grown hgrow4 (by simp; omega) (fun k hk => (World.ownsRow.lt hown k hk).1)
        have hown4 := OwnI.push hown4 rfl
        clear hgrow4 hown hbl c0 c1 c2 c3 c4
        go_wp2
        go_roundw
        case rel => exact ⟨n + 1, _, by omega, by go_num, hide (by rw [Hn.out, M.out, hps.out]), hown4, hbl4⟩
        case measure => simp [intOf]; omega
      · have M : Hid (mkI 63 r = ⟨o, pickI r.a 8, pickI r.b 8, 0, pickI r.k 64⟩) := hide (by unfold mkI; rw [← HO.out]; simp only; repeat (first | rw [if_pos (by omega)] | rw [if_neg (by omega)] | rw [if_pos trivial]); try rfl)
        obtain ⟨t1, t2, t3, t4, t5, t6, t7⟩ : (o != 0) = true ∧ (o != 9) = true ∧ decide (2 ≤ o) = true ∧ decide (3 ≤ o) = true ∧ decide (o ≤ 6) = false ∧ (o == 1) = false ∧ decide (9 ≤ o) = true := by
          refine ⟨?_, ?_, ?_, ?_, ?_, ?_, ?_⟩ <;> simp <;> omega
        go_wp2_with (first | (go_at_call_of 40 (Value.int .i64 r.o); refine (pick_any _ _ _ w0 (by omega) (by omega)).mono ?_; rintro e w' ⟨rfl, rfl⟩; rw [← HO.out]) | (go_at_call_of 40 (Value.int .i64 r.a); refine (pick_any _ _ _ w1 (by omega) (by omega)).mono ?_; rintro e w' ⟨rfl, rfl⟩) | (go_at_call_of 40 (Value.int .i64 r.b); refine (pick_any _ _ _ w2 (by omega) (by omega)).mono ?_; rintro e w' ⟨rfl, rfl⟩) | (go_at_call_of 40 (Value.int .i64 r.c); refine (pick_any _ _ _ w3 (by omega) (by omega)).mono ?_; rintro e w' ⟨rfl, rfl⟩) | (go_at_call_of 40 (Value.int .i64 r.k); refine (pick_any _ _ _ w4 (by omega) (by omega)).mono ?_; rintro e w' ⟨rfl, rfl⟩) | (at_builtin; go_must (refine wpList_append_own _ rfl (.tmp 89) (.tmp 91) 26 rfl w.heap.size 62 i0 _ 5 40 Tryz.underlying26 hi0 hz0 hzs hz2 rfl (by decide) u4 ps.length (ps.flatMap I5.cells) rfl ?hO ⟨wr.heap.size + 1, 0, none⟩ 1 1 (I5.mk o (pickI r.a 8) (pickI r.b 8) (0) (pickI r.k 64)).cells rfl rfl ?hNw (five_one _) ?h63 ?h64 ?hB ?_)))
        case hO => exact World.ownsRow.alloc (World.ownsRow.alloc hown _) _
        case hNw => refine five_new _ _ _ _ ?_; simp
        case h63 => rw [hpl.out]; unfold maxLen; omega
        case h64 => rw [hpl.out]; omega
        case hB => simp; omega
        intro v4 w4 hown4 hgrow4 _
        have hbl4 := ((hbl.alloc hsz _).alloc (by simp; omega) _).grown hgrow4 (by simp; omega) (fun k hk => (World.ownsRow.lt hown k hk).1)
        have hown4 := OwnI.push hown4 rfl
        clear hgrow4 hown hbl c0 c1 c2 c3 c4
        go_wp2
        go_roundw
        case rel => exact ⟨n + 1, _, by omega, by go_num, hide (by rw [Hn.out, M.out, hps.out]), hown4, hbl4⟩
        case measure => simp [intOf]; omega
    · have hpn : Hid (progL l = ps ++ [I5.zero]) := hide (by rw [hps.out]; unfold progL; rw [show min l.length 63 = 63 by omega, show n = 63 by omega])
      go_wp2_with (at_builtin; go_must (refine wpList_append_own _ rfl (.tmp 93) (.tmp 95) 26 rfl w.heap.size 62 i0 _ 5 40 Tryz.underlying26 hi0 hz0 hzs hz2 rfl (by decide) u4 ps.length (ps.flatMap I5.cells) rfl ?hO ⟨wr.heap.size, 0, none⟩ 1 1 I5.zero.cells rfl rfl ?hNw (five_one _) ?h63 ?h64 ?hB ?_))
      case hO => exact World.ownsRow.alloc hown _
      case hNw => exact five_new _ _ _ _ rfl
      case h63 => rw [hpl.out]; unfold maxLen; omega
      case h64 => rw [hpl.out]; omega
      case hB => simp; omega
      intro v4 w4 hown4 hgrow4 _
      have hbl4 := (hbl.alloc hsz _).grown hgrow4 (by simp; omega) (fun k hk => (World.ownsRow.lt hown k hk).1)
      have hown4 := OwnI.push hown4 rfl
      clear hgrow4 hown hbl
      go_wp2
      go_ret
      exact ⟨_, rfl, by rw [hpn.out]; exact hown4, hbl4⟩
set_option maxHeartbeats 4000000 in
set_option maxRecDepth 100000 in
theorem program_small (l : List I5) (b off cap : Nat) (w : World) (hb : b < w.heap.size) (hlen : l.length ≤ 63) (hi : ∀ i (h : i < l.length), InsAt w b (off + i * 5) l[i]) (h64 : ∀ i (h : i < l.length), l[i].in64) :
    Calls Tryz.prog 19 #[.slice (some ⟨b, off, none⟩) l.length cap] w fun e w' => ∃ v, e = .returned v ∧ OwnI w' w.heap.size v (progL l) ∧ Below w.heap.size w w' := by
  obtain ⟨i0, hi0, hz0, hzs, hz2⟩ := info_parts Tryz.infoIns
  have hd63 : decide ((63 : Int) < l.length) = false := by rw [decide_eq_false_iff_not]; omega
  go_enter Tryz.func19, Tryz.ntmps19
  go_wp2_with fail
  go_loopw [4, 5] (fun p j wr => ∃ (n : Nat) (ps : List I5), n ≤ l.length ∧ j = .int .i64 n ∧ Hid (ps = (l.take n).map (mkI l.length)) ∧ OwnI wr w.heap.size p ps ∧ Below w.heap.size w wr) (fun _ j _ => l.length - (intOf j).toNat)
  case atStart => exact ⟨0, [], by omega, rfl, hide rfl, World.ownsRow_nil _ _ _ _, Below.refl _ _⟩
  case round =>
    obtain ⟨n, ps, hn, rfl, hps, hown, hbl⟩ := hrel
    have hsz := hbl.size
    have hpl : Hid (ps.length = n) := hide (by rw [hps.out]; simp; omega)
    by_cases hlt : n < l.length
    · have hlt2 : n < l.length := by omega
      have hbw : b < wr.heap.size := by omega
      obtain ⟨c0, c1, c2, c3, c4⟩ := (hi n hlt2).below hbl hb
      obtain ⟨w0, w1, w2, w3, w4⟩ := h64 n hlt2
      have Hn : Hid ((l.take (n + 1)).map (mkI l.length) = (l.take n).map (mkI l.length) ++ [mkI l.length l[n]]) := hide (map_take_succ l n hlt2)
      obtain ⟨r, hr⟩ : ∃ r, r = l[n] := ⟨_, rfl⟩
      rw [← hr] at c0 c1 c2 c3 c4 w0 w1 w2 w3 w4 Hn
      clear hr
      obtain ⟨o, hoo⟩ : ∃ o, o = pickI r.o 12 := ⟨_, rfl⟩
      obtain ⟨hp0, hp1⟩ := pickI_bd r.o 12 (by omega)
      rw [← hoo] at hp0 hp1
      have HO := hide hoo
      clear hoo
      rcases op_is o hp0 hp1 with ha | ha | ha | ha | ha | ha | ha
      · subst ha
        have M : Hid (mkI l.length r = ⟨0, 0, 0, 0, 0⟩) := hide (by unfold mkI; rw [← HO.out]; simp only; repeat (first | rw [if_pos (by omega)] | rw [if_neg (by omega)] | rw [if_pos trivial]); try rfl)
        go_wp2_with (first | (go_at_call_of 40 (Value.int .i64 r.o); refine (pick_any _ _ _ w0 (by omega) (by omega)).mono ?_; rintro e w' ⟨rfl, rfl⟩; rw [← HO.out]) | (go_at_call_of 40 (Value.int .i64 r.a); refine (pick_any _ _ _ w1 (by omega) (by omega)).mono ?_; rintro e w' ⟨rfl, rfl⟩) | (go_at_call_of 40 (Value.int .i64 r.b); refine (pick_any _ _ _ w2 (by omega) (by omega)).mono ?_; rintro e w' ⟨rfl, rfl⟩) | (go_at_call_of 40 (Value.int .i64 r.c); refine (pick_any _ _ _ w3 (by omega) (by omega)).mono ?_; rintro e w' ⟨rfl, rfl⟩) | (go_at_call_of 40 (Value.int .i64 r.k); refine (pick_any _ _ _ w4 (by omega) (by omega)).mono ?_; rintro e w' ⟨rfl, rfl⟩) | (at_builtin; go_must (refine wpList_append_own _ rfl (.tmp 89) (.tmp 91) 26 rfl w.heap.size 62 i0 _ 5 40 Tryz.underlying26 hi0 hz0 hzs hz2 rfl (by decide) u4 ps.length (ps.flatMap I5.cells) rfl ?hO ⟨wr.heap.size + 1, 0, none⟩ 1 1 (I5.mk 0 (0) (0) (0) (0)).cells rfl rfl ?hNw (five_one _) ?h63 ?h64 ?hB ?_)))
        case hO => exact World.ownsRow.alloc (World.ownsRow.alloc hown _) _
        case hNw => refine five_new _ _ _ _ ?_; simp
        case h63 => rw [hpl.out]; unfold maxLen; omega
        case h64 => rw [hpl.out]; omega
        case hB => simp; omega
        intro v4 w4 hown4 hgrow4 _
        have hbl4 := ((hbl.alloc hsz _).alloc (by simp; omega) _).grown hgrow4 (by simp; omega) (fun k hk => (World.ownsRow.lt hown k hk).1)
        have hown4 := OwnI.push hown4 rfl
        clear hgrow4 hown hbl c0 c1 c2 c3 c4
        go_wp2
        go_roundw
        case rel => exact ⟨n + 1, _, by omega, by go_num, hide (by rw [Hn.out, M.out, hps.out]), hown4, hbl4⟩
        case measure => simp [intOf]; omega
      · subst ha
        have M : Hid (mkI l.length r = ⟨1, pickI r.a 8, 0, 0, r.k⟩) := hide (by unfold mkI; rw [← HO.out]; simp only; repeat (first | rw [if_pos (by omega)] | rw [if_neg (by omega)] | rw [if_pos trivial]); try rfl)
        go_wp2_with (first | (go_at_call_of 40 (Value.int .i64 r.o); refine (pick_any _ _ _ w0 (by omega) (by omega)).mono ?_; rintro e w' ⟨rfl, rfl⟩; rw [← HO.out]) | (go_at_call_of 40 (Value.int .i64 r.a); refine (pick_any _ _ _ w1 (by omega) (by omega)).mono ?_; rintro e w' ⟨rfl, rfl⟩) | (go_at_call_of 40 (Value.int .i64 r.b); refine (pick_any _ _ _ w2 (by omega) (by omega)).mono ?_; rintro e w' ⟨rfl, rfl⟩) | (go_at_call_of 40 (Value.int .i64 r.c); refine (pick_any _ _ _ w3 (by omega) (by omega)).mono ?_; rintro e w' ⟨rfl, rfl⟩) | (go_at_call_of 40 (Value.int .i64 r.k); refine (pick_any _ _ _ w4 (by omega) (by omega)).mono ?_; rintro e w' ⟨rfl, rfl⟩) | (at_builtin; go_must (refine wpList_append_own _ rfl (.tmp 89) (.tmp 91) 26 rfl w.heap.size 62 i0 _ 5 40 Tryz.underlying26 hi0 hz0 hzs hz2 rfl (by decide) u4 ps.length (ps.flatMap I5.cells) rfl ?hO ⟨wr.heap.size + 1, 0, none⟩ 1 1 (I5.mk 1 (pickI r.a 8) (0) (0) (r.k)).cells rfl rfl ?hNw (five_one _) ?h63 ?h64 ?hB ?_)))
        case hO => exact World.ownsRow.alloc (World.ownsRow.alloc hown _) _
        case hNw => refine five_new _ _ _ _ ?_; simp
        case h63 => rw [hpl.out]; unfold maxLen; omega
        case h64 => rw [hpl.out]; omega
        case hB => simp; omega
        intro v4 w4 hown4 hgrow4 _
        have hbl4 := ((hbl.alloc hsz _).alloc (by simp; omega) _).grown hgrow4 (by simp; omega) (fun k hk => (World.ownsRow.lt hown k hk).1)
        have hown4 := OwnI.push hown4 rfl
        clear hgrow4 hown hbl c0 c1 c2 c3 c4
        go_wp2
        go_roundw
        case rel => exact ⟨n + 1, _, by omega, by go_num, hide (by rw [Hn.out, M.out, hps.out]), hown4, hbl4⟩
        case measure => simp [intOf]; omega
      · subst ha
        have M : Hid (mkI l.length r = ⟨2, pickI r.a 8, pickI r.b 8, 0, 0⟩) := hide (by unfold mkI; rw [← HO.out]; simp only; repeat (first | rw [if_pos (by omega)] | rw [if_neg (by omega)] | rw [if_pos trivial]); try rfl)
        go_wp2_with (first | (go_at_call_of 40 (Value.int .i64 r.o); refine (pick_any _ _ _ w0 (by omega) (by omega)).mono ?_; rintro e w' ⟨rfl, rfl⟩; rw [← HO.out]) | (go_at_call_of 40 (Value.int .i64 r.a); refine (pick_any _ _ _ w1 (by omega) (by omega)).mono ?_; rintro e w' ⟨rfl, rfl⟩) | (go_at_call_of 40 (Value.int .i64 r.b); refine (pick_any _ _ _ w2 (by omega) (by omega)).mono ?_; rintro e w' ⟨rfl, rfl⟩) | (go_at_call_of 40 (Value.int .i64 r.c); refine (pick_any _ _ _ w3 (by omega) (by omega)).mono ?_; rintro e w' ⟨rfl, rfl⟩) | (go_at_call_of 40 (Value.int .i64 r.k); refine (pick_any _ _ _ w4 (by omega) (by omega)).mono ?_; rintro e w' ⟨rfl, rfl⟩) | (at_builtin; go_must (refine wpList_append_own _ rfl (.tmp 89) (.tmp 91) 26 rfl w.heap.size 62 i0 _ 5 40 Tryz.underlying26 hi0 hz0 hzs hz2 rfl (by decide) u4 ps.length (ps.flatMap I5.cells) rfl ?hO ⟨wr.heap.size + 1, 0, none⟩ 1 1 (I5.mk 2 (pickI r.a 8) (pickI r.b 8) (0) (0)).cells rfl rfl ?hNw (five_one _) ?h63 ?h64 ?hB ?_)))
        case hO => exact World.ownsRow.alloc (World.ownsRow.alloc hown _) _
        case hNw => refine five_new _ _ _ _ ?_; simp
        case h63 => rw [hpl.out]; unfold maxLen; omega
        case h64 => rw [hpl.out]; omega
        case hB => simp; omega
        intro v4 w4 hown4 hgrow4 _
        have hbl4 := ((hbl.alloc hsz _).alloc (by simp; omega) _).grown hgrow4 (by simp; omega) (fun k hk => (World.ownsRow.lt hown k hk).1)
        have hown4 := OwnI.push hown4 rfl
        clear hgrow4 hown hbl c0 c1 c2 c3 c4
        go_wp2
        go_roundw
        case rel => exact ⟨n + 1, _, by omega, by go_num, hide (by rw [Hn.out, M.out, hps.out]), hown4, hbl4⟩
        case measure => simp [intOf]; omega
      · have M : Hid (mkI l.length r = ⟨o, pickI r.a 8, pickI r.b 8, pickI r.c 8, 0⟩) := hide (by unfold mkI; rw [← HO.out]; simp only; repeat (first | rw [if_pos (by omega)] | rw [if_neg (by omega)] | rw [if_pos trivial]); try rfl)
        obtain ⟨t1, t2, t3, t4, t5, t6, t7⟩ : (o != 0) = true ∧ (o != 9) = true ∧ decide (2 ≤ o) = true ∧ decide (3 ≤ o) = true ∧ decide (o ≤ 6) = true ∧ (o == 1) = false ∧ decide (9 ≤ o) = false := by
          refine ⟨?_, ?_, ?_, ?_, ?_, ?_, ?_⟩ <;> simp <;> omega
        go_wp2_with (first | (go_at_call_of 40 (Value.int .i64 r.o); refine (pick_any _ _ _ w0 (by omega) (by omega)).mono ?_; rintro e w' ⟨rfl, rfl⟩; rw [← HO.out]) | (go_at_call_of 40 (Value.int .i64 r.a); refine (pick_any _ _ _ w1 (by omega) (by omega)).mono ?_; rintro e w' ⟨rfl, rfl⟩) | (go_at_call_of 40 (Value.int .i64 r.b); refine (pick_any _ _ _ w2 (by omega) (by omega)).mono ?_; rintro e w' ⟨rfl, rfl⟩) | (go_at_call_of 40 (Value.int .i64 r.c); refine (pick_any _ _ _ w3 (by omega) (by omega)).mono ?_; rintro e w' ⟨rfl, rfl⟩) | (go_at_call_of 40 (Value.int .i64 r.k); refine (pick_any _ _ _ w4 (by omega) (by omega)).mono ?_; rintro e w' ⟨rfl, rfl⟩) | (at_builtin; go_must (refine wpList_append_own _ rfl (.tmp 89) (.tmp 91) 26 rfl w.heap.size 62 i0 _ 5 40 Tryz.underlying26 hi0 hz0 hzs hz2 rfl (by decide) u4 ps.length (ps.flatMap I5.cells) rfl ?hO ⟨wr.heap.size + 1, 0, none⟩ 1 1 (I5.mk o (pickI r.a 8) (pickI r.b 8) (pickI r.c 8) (0)).cells rfl rfl ?hNw (five_one _) ?h63 ?h64 ?hB ?_)))
        case hO => exact World.ownsRow.alloc (World.ownsRow.alloc hown _) _
        case hNw => refine five_new _ _ _ _ ?_; simp
        case h63 => rw [hpl.out]; unfold maxLen; omega
        case h64 => rw [hpl.out]; omega
        case hB => simp; omega
        intro v4 w4 hown4 hgrow4 _
        have hbl4 := ((hbl.alloc hsz _).alloc (by simp; omega) _).grown hgrow4 (by simp; omega) (fun k hk => (World.ownsRow.lt hown k hk).1)
        have hown4 := OwnI.push hown4 rfl
        clear hgrow4 hown hbl c0 c1 c2 c3 c4
        go_wp2
        go_roundw
        case rel => exact ⟨n + 1, _, by omega, by go_num, hide (by rw [Hn.out, M.out, hps.out]), hown4, hbl4⟩
        case measure => simp [intOf]; omega
      · have M : Hid (mkI l.length r = ⟨o, pickI r.a 8, pickI r.b 8, 0, 0⟩) := hide (by unfold mkI; rw [← HO.out]; simp only; repeat (first | rw [if_pos (by omega)] | rw [if_neg (by omega)] | rw [if_pos trivial]); try rfl)
        obtain ⟨t1, t2, t3, t4, t5, t6, t7⟩ : (o != 0) = true ∧ (o != 9) = true ∧ decide (2 ≤ o) = true ∧ decide (3 ≤ o) = true ∧ decide (o ≤ 6) = false ∧ (o == 1) = false ∧ decide (9 ≤ o) = false := by
          refine ⟨?_, ?_, ?_, ?_, ?_, ?_, ?_⟩ <;> simp <;> omega
        go_wp2_with (first | (go_at_call_of 40 (Value.int .i64 r.o); refine (pick_any _ _ _ w0 (by omega) (by omega)).mono ?_; rintro e w' ⟨rfl, rfl⟩; rw [← HO.out]) | (go_at_call_of 40 (Value.int .i64 r.a); refine (pick_any _ _ _ w1 (by omega) (by omega)).mono ?_; rintro e w' ⟨rfl, rfl⟩) | (go_at_call_of 40 (Value.int .i64 r.b); refine (pick_any _ _ _ w2 (by omega) (by omega)).mono ?_; rintro e w' ⟨rfl, rfl⟩) | (go_at_call_of 40 (Value.int .i64 r.c); refine (pick_any _ _ _ w3 (by omega) (by omega)).mono ?_; rintro e w' ⟨rfl, rfl⟩) | (go_at_call_of 40 (Value.int .i64 r.k); refine (pick_any _ _ _ w4 (by omega) (by omega)).mono ?_; rintro e w' ⟨rfl, rfl⟩) | (at_builtin; go_must (refine wpList_append_own _ rfl (.tmp 89) (.tmp 91) 26 rfl w.heap.size 62 i0 _ 5 40 Tryz.underlying26 hi0 hz0 hzs hz2 rfl (by decide) u4 ps.length (ps.flatMap I5.cells) rfl ?hO ⟨wr.heap.size + 1, 0, none⟩ 1 1 (I5.mk o (pickI r.a 8) (pickI r.b 8) (0) (0)).cells rfl rfl ?hNw (five_one _) ?h63 ?h64 ?hB ?_)))
        case hO => exact World.ownsRow.alloc (World.ownsRow.alloc hown _) _
        case hNw => refine five_new _ _ _ _ ?_; simp
        case h63 => rw [hpl.out]; unfold maxLen; omega
        case h64 => rw [hpl.out]; omega
        case hB => simp; omega
        intro v4 w4 hown4 hgrow4 _
        have hbl4 := ((hbl.alloc hsz _).alloc (by simp; omega) _).grown hgrow4 (by simp; omega) (fun k hk => (World.ownsRow.lt hown k hk).1)
        have hown4 := OwnI.push hown4 rfl
        clear hgrow4 hown hbl c0 c1 c2 c3 c4
        go_wp2
        go_roundw
        case rel => exact ⟨n + 1, _, by omega, by go_num, hide (by rw [Hn.out, M.out, hps.out]), hown4, hbl4⟩
        case measure => simp [intOf]; omega
      · subst ha
        have M : Hid (mkI l.length r = ⟨9, 0, 0, 0, pickI r.k (l.length + 1)⟩) := hide (by unfold mkI; rw [← HO.out]; simp only; repeat (first | rw [if_pos (by omega)] | rw [if_neg (by omega)] | rw [if_pos trivial]); try rfl)
        go_wp2_with (first | (go_at_call_of 40 (Value.int .i64 r.o); refine (pick_any _ _ _ w0 (by omega) (by omega)).mono ?_; rintro e w' ⟨rfl, rfl⟩; rw [← HO.out]) | (go_at_call_of 40 (Value.int .i64 r.a); refine (pick_any _ _ _ w1 (by omega) (by omega)).mono ?_; rintro e w' ⟨rfl, rfl⟩) | (go_at_call_of 40 (Value.int .i64 r.b); refine (pick_any _ _ _ w2 (by omega) (by omega)).mono ?_; rintro e w' ⟨rfl, rfl⟩) | (go_at_call_of 40 (Value.int .i64 r.c); refine (pick_any _ _ _ w3 (by omega) (by omega)).mono ?_; rintro e w' ⟨rfl, rfl⟩) | (go_at_call_of 40 (Value.int .i64 r.k); refine (pick_any _ _ _ w4 (by omega) (by omega)).mono ?_; rintro e w' ⟨rfl, rfl⟩) | (at_builtin; go_must (refine wpList_append_own _ rfl (.tmp 89) (.tmp 91) 26 rfl w.heap.size 62 i0 _ 5 40 Tryz.underlying26 hi0 hz0 hzs hz2 rfl (by decide) u4 ps.length (ps.flatMap I5.cells) rfl ?hO ⟨wr.heap.size + 1, 0, none⟩ 1 1 (I5.mk 9 (0) (0) (0) (pickI r.k (l.length + 1))).cells rfl rfl ?hNw (five_one _) ?h63 ?h64 ?hB ?_)))
        case hO => exact World.ownsRow.alloc (World.ownsRow.alloc hown _) _
        case hNw => refine five_new _ _ _ _ ?_; simp
        case h63 => rw [hpl.out]; unfold maxLen; omega
        case h64 => rw [hpl.out]; omega
        case hB => simp; omega
        intro v4 w4 hown4 hgrow4 _
        have hbl4 := ((hbl.alloc hsz _).alloc (by simp; omega) _).grown hgrow4 (by simp; omega) (fun k hk => (World.ownsRow.lt hown k hk).1)
        have hown4 := OwnI.push hown4 rfl
        clear hgrow4 hown hbl c0 c1 c2 c3 c4
        go_wp2
        go_roundw
        case rel => exact ⟨n + 1, _, by omega, by go_num, hide (by rw [Hn.out, M.out, hps.out]), hown4, hbl4⟩
        case measure => simp [intOf]; omega
      · have M : Hid (mkI l.length r = ⟨o, pickI r.a 8, pickI r.b 8, 0, pickI r.k (l.length + 1)⟩) := hide (by unfold mkI; rw [← HO.out]; simp only; repeat (first | rw [if_pos (by omega)] | rw [if_neg (by omega)] | rw [if_pos trivial]); try rfl)
        obtain ⟨t1, t2, t3, t4, t5, t6, t7⟩ : (o != 0) = true ∧ (o != 9) = true ∧ decide (2 ≤ o) = true ∧ decide (3 ≤ o) = true ∧ decide (o ≤ 6) = false ∧ (o == 1) = false ∧ decide (9 ≤ o) = true := by
          refine ⟨?_, ?_, ?_, ?_, ?_, ?_, ?_⟩ <;> simp <;> omega
        go_wp2_with (first | (go_at_call_of 40 (Value.int .i64 r.o); refine (pick_any _ _ _ w0 (by omega) (by omega)).mono ?_; rintro e w' ⟨rfl, rfl⟩; rw [← HO.out]) | (go_at_call_of 40 (Value.int .i64 r.a); refine (pick_any _ _ _ w1 (by omega) (by omega)).mono ?_; rintro e w' ⟨rfl, rfl⟩) | (go_at_call_of 40 (Value.int .i64 r.b); refine (pick_any _ _ _ w2 (by omega) (by omega)).mono ?_; rintro e w' ⟨rfl, rfl⟩) | (go_at_call_of 40 (Value.int .i64 r.c); refine (pick_any _ _ _ w3 (by omega) (by omega)).mono ?_; rintro e w' ⟨rfl, rfl⟩) | (go_at_call_of 40 (Value.int .i64 r.k); refine (pick_any _ _ _ w4 (by omega) (by omega)).mono ?_; rintro e w' ⟨rfl, rfl⟩) | (at_builtin; go_must (refine wpList_append_own _ rfl (.tmp 89) (.tmp 91) 26 rfl w.heap.size 62 i0 _ 5 40 Tryz.underlying26 hi0 hz0 hzs hz2 rfl (by decide) u4 ps.length (ps.flatMap I5.cells) rfl ?hO ⟨wr.heap.size + 1, 0, none⟩ 1 1 (I5.mk o (pickI r.a 8) (pickI r.b 8) (0) (pickI r.k (l.length + 1))).cells rfl rfl ?hNw (five_one _) ?h63 ?h64 ?hB ?_)))
        case hO => exact World.ownsRow.alloc (World.ownsRow.alloc hown _) _
        case hNw => refine five_new _ _ _ _ ?_; simp
        case h63 => rw [hpl.out]; unfold maxLen; omega
        case h64 => rw [hpl.out]; omega
        case hB => simp; omega
        intro v4 w4 hown4 hgrow4 _
        have hbl4 := ((hbl.alloc hsz _).alloc (by simp; omega) _).grown hgrow4 (by simp; omega) (fun k hk => (World.ownsRow.lt hown k hk).1)
        have hown4 := OwnI.push hown4 rfl
        clear hgrow4 hown hbl c0 c1 c2 c3 c4
        go_wp2
        go_roundw
        case rel => exact ⟨n + 1, _, by omega, by go_num, hide (by rw [Hn.out, M.out, hps.out]), hown4, hbl4⟩
        case measure => simp [intOf]; omega
    · have hpn : Hid (progL l = ps ++ [I5.zero]) := hide (by rw [hps.out]; unfold progL; rw [show min l.length 63 = l.length by omega, show n = l.length by omega, List.take_of_length_le (by omega), List.take_of_length_le (by omega)])
      go_wp2_with (at_builtin; go_must (refine wpList_append_own _ rfl (.tmp 93) (.tmp 95) 26 rfl w.heap.size 62 i0 _ 5 40 Tryz.underlying26 hi0 hz0 hzs hz2 rfl (by decide) u4 ps.length (ps.flatMap I5.cells) rfl ?hO ⟨wr.heap.size, 0, none⟩ 1 1 I5.zero.cells rfl rfl ?hNw (five_one _) ?h63 ?h64 ?hB ?_))
      case hO => exact World.ownsRow.alloc hown _
      case hNw => exact five_new _ _ _ _ rfl
      case h63 => rw [hpl.out]; unfold maxLen; omega
      case h64 => rw [hpl.out]; omega
      case hB => simp; omega
      intro v4 w4 hown4 hgrow4 _
      have hbl4 := (hbl.alloc hsz _).grown hgrow4 (by simp; omega) (fun k hk => (World.ownsRow.lt hown k hk).1)
      have hown4 := OwnI.push hown4 rfl
      clear hgrow4 hown hbl
      go_wp2
      go_ret
      exact ⟨_, rfl, by rw [hpn.out]; exact hown4, hbl4⟩
end Go.Proofs.YtamiichlbmllcaaGreatDoor
