import Derived.Test.YtamiichlbmllcabGreatDoorQRefA
import Derived.Test.YtamiichlbmllcabGreatDoorQArmW
import Derived.Test.YtamiichlbmllcabGreatDoorQKn
set_option maxRecDepth 100000
set_option maxHeartbeats 32000000
namespace Go.Proofs.YtamiichlbmllcabGreatDoor
open Go.RowKit
theorem encK_byte (i : I5) (x j : Nat) (hx : i.k % 18446744073709551616 = x) : b8 ((i.k % 18446744073709551616) / 2 ^ (8 * j)) = b8 ((x / 256 ^ j : Nat) : Int) := by
 rw [hx]
 have : ((2 : Int) ^ (8 * j)) = ((256 ^ j : Nat) : Int) := by
  rw [show (256 : Nat) = 2 ^ 8 by decide, <- Nat.pow_mul]; simp
 rw [this]; rfl
theorem div_step (x j : Nat) : x / 256 ^ j / 256 = x / 256 ^ (j + 1) := by rw [Nat.div_div_eq_div_mul, <- Nat.pow_succ]
theorem wrap_div (Y : Nat) (h : Y < 18446744073709551616) : IntKind.u64.wrap ((Y : Int) / 256) = ((Y / 256 : Nat) : Int) := by rw [IntKind.wrap_u64]; omega
theorem nr_four (o : Int) : nregs o = 0 \/ nregs o = 1 \/ nregs o = 2 \/ nregs o = 3 := by have := nregs_bd o; omega
theorem ret_enc {a b : List UInt8} (h : a = b) : Ending.returned (.tuple #[.string ⟨a.toArray⟩, .int .i64 0]) = .returned (.tuple #[.string ⟨b.toArray⟩, .int .i64 0]) := by rw [h]
theorem refEncode_some (l : List I5) (b off cap : Nat) (w : World) (hb : b < w.heap.size) (hR : rightR l = (0, 0)) (hi : ∀ i (h : i < l.length), InsAt w b (off + i * 5) l[i]) :
 Calls Tryz.prog 37 #[.slice (some ⟨b, off, none⟩) l.length cap] w fun e w' => e = .returned (.tuple #[.string ⟨(encP l).toArray⟩, .int .i64 0]) /\ Below w.heap.size w w' := by
 obtain ⟨h1, h2, h3⟩ := right_fits hR
 obtain ⟨i0, ihi, ih0, ihs, ih2⟩ := info_parts Tryz.info5
 have HR := hide hR
 have HF := hide h3
 clear hR h3
 have E1 : Hid (Value.int .u8 (l.length : Int) = B8 (b8 l.length)) := hide (by unfold B8; rw [b8_nat, Int.emod_eq_of_lt (by omega) (by omega)])
 go_enter Tryz.func37, Tryz.ntmps37
 go_wp2_with fail
 refine (refRight_any l _ w (Or.inr ⟨b, off, cap, rfl, hb, hi⟩)).mono ?_
 rintro e w0 ⟨rfl, hb0⟩
 rw [HR.out]
 have hz0' := hb0.size
 go_wp2_with fail
 go_loopw [6, 7] (fun v j wr => ∃ (n : Nat) (ys : List UInt8), n <= l.length /\ j = .int .i64 n /\ Hid (ys = b8 l.length :: (l.take n).flatMap encI) /\ OwnB wr w.heap.size v ys /\ Below w.heap.size w wr) (fun _ j _ => l.length - (intOf j).toNat)
 case atStart =>
  refine ⟨0, [b8 l.length], by omega, rfl, hide (by simp), ?_, hb0.alloc hz0' _⟩
  rw [E1.out]
  exact World.ownsRow_lit _ _ _ hz0' (by unfold maxLen; simp) rfl
 case round =>
  obtain ⟨n, ys, hn, rfl, hys, hownr, hbl⟩ := hrel
  have hz := hbl.size
  have hL : ys.length <= 1 + 12 * l.length := by
   have := flat_len (l.take n)
   rw [List.length_take] at this
   rw [hys.out, List.length_cons]; omega
  by_cases hlt : n < l.length
  · have hI := hide (hi n hlt)
    have Hn := hide (flat_take l n hlt)
    have hop := fits_op (HF.out n hlt)
    obtain ⟨x, hx⟩ : ∃ x : I5, x = l[n] := ⟨_, rfl⟩
    rw [<- hx] at hI Hn hop
    clear hx
    obtain ⟨ho0, ho1⟩ := hop
    have hbw : b < wr.heap.size := by omega
    obtain ⟨c0, c1, c2, c3, c4⟩ := hI.out.below hbl hb
    have EO := hide (B8_op ho0 ho1)
    have en : refNr x.o = nregs x.o := by unfold refNr; rw [if_pos ⟨ho0, ho1⟩]
    have ek : refKb x.o = kbytes x.o := by unfold refKb; rw [if_pos ⟨ho0, ho1⟩]
    have HV := hide (needV_of en ek)
    clear en ek
    obtain ⟨kb, hkb⟩ : ∃ kb : Nat, kbytes x.o = kb := ⟨(kbytes x.o).toNat, by have := kb_three x.o; omega⟩
    have hk8 : kb <= 8 := by have := kb_three x.o; omega
    rw [hkb] at HV
    have HKB : Hid ((kbytes x.o).toNat = kb) := hide (by omega)
    clear hkb
    obtain ⟨X, hX⟩ : ∃ X : Nat, x.k % 18446744073709551616 = X := ⟨(x.k % 18446744073709551616).toNat, by omega⟩
    have HX := hide hX
    have hXlt : X < 18446744073709551616 := by omega
    clear hX
    rcases nr_four x.o with hnr | hnr | hnr | hnr
    · rw [hnr] at HV
      have HNR : Hid ((nregs x.o).toNat = 0) := hide (by rw [hnr]; rfl)
      clear hnr
      go_wp2_with (at_builtin; go_must (refine wpList_append_own _ rfl (.tmp 32) (.tmp 39) 156 rfl w.heap.size 5 i0 (.int .u8 0) 1 1 Tryz.underlying156 ihi ih0 ihs ih2 rfl (by decide) u6 (ys).length ((ys).map B8) rfl ?hO1 ⟨wr.heap.size, 0, none⟩ 1 1 [B8 (b8 x.o)] rfl rfl ?hN1 (one_int _ _) ?ha1 ?hb1 ?hB1 ?_))
      case hO1 => exact World.ownsRow.alloc hownr _
      case hN1 => rw [EO.out]; exact one_newA _ _ _ _ rfl
      case ha1 => unfold maxLen; omega
      case hb1 => omega
      case hB1 => simp; omega
      intro v1 w1 hown1 hgrow1 _
      have hbl1 := (hbl.alloc hz _).grown hgrow1 (by simp; omega) (fun k hk => (World.ownsRow.lt hownr k hk).1)
      have hown1 := OwnB.push hown1 rfl
      have hz1 := hbl1.size
      clear hgrow1 hownr hbl c0 c1 c2 c3 c4
      obtain ⟨c0, c1, c2, c3, c4⟩ := hI.out.below hbl1 hb
      have hbw1 : b < w1.heap.size := by omega
      go_wp2_with fail
      refine (needs_any _ _).mono ?_
      rintro e w' ⟨rfl, rfl⟩
      rw [HV.out]
      generalize hGz : ys ++ [b8 x.o] = zs at *
      have HZ : Hid (zs = ys ++ [b8 x.o] ++ encR x 0) := hide (by rw [<- hGz]; simp [encR])
      have hLz : zs.length <= 5 + 12 * l.length := by rw [HZ.out, List.length_append, List.length_append, encR_len]; simp; omega
      clear hGz
      go_wp2_with fail
      go_loopw [6, 12, 13] (fun v q j wr2 => ∃ (m : Nat) (ts : List UInt8), m <= kb /\ j = .int .i64 m /\ q = .int .u64 ((X / 256 ^ m : Nat) : Int) /\ Hid (ts = zs ++ encK x m) /\ OwnB wr2 w.heap.size v ts /\ Below w.heap.size w wr2) (fun _ _ j _ => kb - (intOf j).toNat)
      case atStart => exact ⟨0, zs, by omega, rfl, by rw [IntKind.wrap_u64, HX.out]; simp, hide (by simp [encK]), hown1, hbl1⟩
      case round =>
       clear hown1 hbl1 c0 c1 c2 c3 c4
       obtain ⟨m, ts, hm, rfl, rfl, hts, hownt, hblt⟩ := hrel
       have hzt := hblt.size
       have hLt : ts.length <= 13 + 12 * l.length := by rw [hts.out, List.length_append, encK_len]; omega
       have HB := hide (encK_byte x X m HX.out)
       have HD := hide (div_step X m)
       have HYb : Hid (X / 256 ^ m < 18446744073709551616) := hide (Nat.lt_of_le_of_lt (Nat.div_le_self _ _) hXlt)
       generalize hY : X / 256 ^ m = Y at *
       clear hY
       by_cases hlt2 : m < kb
       · go_wp2_with (at_builtin; go_must (refine wpList_append_own _ rfl (.tmp 93) (.tmp 97) 156 rfl w.heap.size 5 i0 (.int .u8 0) 1 1 Tryz.underlying156 ihi ih0 ihs ih2 rfl (by decide) u6 ts.length (ts.map B8) rfl ?hOk ⟨wr.heap.size, 0, none⟩ 1 1 [B8 (b8 (Y : Int))] rfl rfl ?hNk (one_int _ _) ?hak ?hbk ?hBk ?_))
         case hOk => exact World.ownsRow.alloc hownt _
         case hNk => rw [B8_of]; exact one_newA _ _ _ _ rfl
         case hak => unfold maxLen; omega
         case hbk => omega
         case hBk => simp; omega
         intro vk wk hownk hgrowk _
         have hblk := (hblt.alloc hzt _).grown hgrowk (by simp; omega) (fun k hk => (World.ownsRow.lt hownt k hk).1)
         have hownk := OwnB.push hownk rfl
         clear hgrowk hownt hblt
         go_wp2
         go_roundw
         case rel => exact ⟨m + 1, _, by omega, by go_num, by rw [<- HD.out, wrap_div Y HYb.out], hide (by rw [encK_succ, hts.out, HB.out]; simp), hownk, hblk⟩
         case measure => simp [intOf]; omega
       · have hE : Hid (ts = ys ++ encI x) := hide (by rw [hts.out, HZ.out]; unfold encI; rw [HNR.out, HKB.out, show m = kb by omega]; simp)
         go_wp2
         go_roundw
         case rel => exact ⟨n + 1, _, by omega, by go_num, hide (by rw [Hn.out, hE.out, hys.out]; simp), hownt, hblt⟩
         case measure => simp [intOf]; omega
    · rw [hnr] at HV
      have HNR : Hid ((nregs x.o).toNat = 1) := hide (by rw [hnr]; rfl)
      clear hnr
      go_wp2_with (at_builtin; go_must (refine wpList_append_own _ rfl (.tmp 32) (.tmp 39) 156 rfl w.heap.size 5 i0 (.int .u8 0) 1 1 Tryz.underlying156 ihi ih0 ihs ih2 rfl (by decide) u6 (ys).length ((ys).map B8) rfl ?hO1 ⟨wr.heap.size, 0, none⟩ 1 1 [B8 (b8 x.o)] rfl rfl ?hN1 (one_int _ _) ?ha1 ?hb1 ?hB1 ?_))
      case hO1 => exact World.ownsRow.alloc hownr _
      case hN1 => rw [EO.out]; exact one_newA _ _ _ _ rfl
      case ha1 => unfold maxLen; omega
      case hb1 => omega
      case hB1 => simp; omega
      intro v1 w1 hown1 hgrow1 _
      have hbl1 := (hbl.alloc hz _).grown hgrow1 (by simp; omega) (fun k hk => (World.ownsRow.lt hownr k hk).1)
      have hown1 := OwnB.push hown1 rfl
      have hz1 := hbl1.size
      clear hgrow1 hownr hbl c0 c1 c2 c3 c4
      obtain ⟨c0, c1, c2, c3, c4⟩ := hI.out.below hbl1 hb
      have hbw1 : b < w1.heap.size := by omega
      go_wp2_with fail
      refine (needs_any _ _).mono ?_
      rintro e w' ⟨rfl, rfl⟩
      rw [HV.out]
      generalize hG2 : ys ++ [b8 x.o] = ys2 at *
      have HG2 := hide hG2
      clear hG2
      have hL2 : ys2.length <= 2 + 0 + 12 * l.length := by rw [<- HG2.out, List.length_append]; simp; omega
      go_wp2_with (at_builtin; go_must (refine wpList_append_own _ rfl (.tmp 53) (.tmp 60) 156 rfl w.heap.size 5 i0 (.int .u8 0) 1 1 Tryz.underlying156 ihi ih0 ihs ih2 rfl (by decide) v1 (ys2).length ((ys2).map B8) rfl ?hO2 ⟨w1.heap.size, 0, none⟩ 1 1 [B8 (b8 x.a)] rfl rfl ?hN2 (one_int _ _) ?ha2 ?hb2 ?hB2 ?_))
      case hO2 => exact World.ownsRow.alloc hown1 _
      case hN2 => rw [B8_of]; exact one_newA _ _ _ _ rfl
      case ha2 => unfold maxLen; omega
      case hb2 => omega
      case hB2 => simp; omega
      intro v2 w2 hown2 hgrow2 _
      have hbl2 := (hbl1.alloc hz1 _).grown hgrow2 (by simp; omega) (fun k hk => (World.ownsRow.lt hown1 k hk).1)
      have hown2 := OwnB.push hown2 rfl
      have hz2 := hbl2.size
      clear hgrow2 hown1 hbl1 c0 c1 c2 c3 c4
      obtain ⟨c0, c1, c2, c3, c4⟩ := hI.out.below hbl2 hb
      have hbw2 : b < w2.heap.size := by omega
      generalize hGz : ys2 ++ [b8 x.a] = zs at *
      have HZ : Hid (zs = ys ++ [b8 x.o] ++ encR x 1) := hide (by rw [<- hGz, <- HG2.out]; simp [encR, List.range_succ, regN])
      have hLz : zs.length <= 5 + 12 * l.length := by rw [HZ.out, List.length_append, List.length_append, encR_len]; simp; omega
      clear hGz
      go_wp2_with fail
      go_loopw [6, 12, 13] (fun v q j wr2 => ∃ (m : Nat) (ts : List UInt8), m <= kb /\ j = .int .i64 m /\ q = .int .u64 ((X / 256 ^ m : Nat) : Int) /\ Hid (ts = zs ++ encK x m) /\ OwnB wr2 w.heap.size v ts /\ Below w.heap.size w wr2) (fun _ _ j _ => kb - (intOf j).toNat)
      case atStart => exact ⟨0, zs, by omega, rfl, by rw [IntKind.wrap_u64, HX.out]; simp, hide (by simp [encK]), hown2, hbl2⟩
      case round =>
       clear hown2 hbl2 c0 c1 c2 c3 c4
       obtain ⟨m, ts, hm, rfl, rfl, hts, hownt, hblt⟩ := hrel
       have hzt := hblt.size
       have hLt : ts.length <= 13 + 12 * l.length := by rw [hts.out, List.length_append, encK_len]; omega
       have HB := hide (encK_byte x X m HX.out)
       have HD := hide (div_step X m)
       have HYb : Hid (X / 256 ^ m < 18446744073709551616) := hide (Nat.lt_of_le_of_lt (Nat.div_le_self _ _) hXlt)
       generalize hY : X / 256 ^ m = Y at *
       clear hY
       by_cases hlt2 : m < kb
       · go_wp2_with (at_builtin; go_must (refine wpList_append_own _ rfl (.tmp 93) (.tmp 97) 156 rfl w.heap.size 5 i0 (.int .u8 0) 1 1 Tryz.underlying156 ihi ih0 ihs ih2 rfl (by decide) u6 ts.length (ts.map B8) rfl ?hOk ⟨wr.heap.size, 0, none⟩ 1 1 [B8 (b8 (Y : Int))] rfl rfl ?hNk (one_int _ _) ?hak ?hbk ?hBk ?_))
         case hOk => exact World.ownsRow.alloc hownt _
         case hNk => rw [B8_of]; exact one_newA _ _ _ _ rfl
         case hak => unfold maxLen; omega
         case hbk => omega
         case hBk => simp; omega
         intro vk wk hownk hgrowk _
         have hblk := (hblt.alloc hzt _).grown hgrowk (by simp; omega) (fun k hk => (World.ownsRow.lt hownt k hk).1)
         have hownk := OwnB.push hownk rfl
         clear hgrowk hownt hblt
         go_wp2
         go_roundw
         case rel => exact ⟨m + 1, _, by omega, by go_num, by rw [<- HD.out, wrap_div Y HYb.out], hide (by rw [encK_succ, hts.out, HB.out]; simp), hownk, hblk⟩
         case measure => simp [intOf]; omega
       · have hE : Hid (ts = ys ++ encI x) := hide (by rw [hts.out, HZ.out]; unfold encI; rw [HNR.out, HKB.out, show m = kb by omega]; simp)
         go_wp2
         go_roundw
         case rel => exact ⟨n + 1, _, by omega, by go_num, hide (by rw [Hn.out, hE.out, hys.out]; simp), hownt, hblt⟩
         case measure => simp [intOf]; omega
    · rw [hnr] at HV
      have HNR : Hid ((nregs x.o).toNat = 2) := hide (by rw [hnr]; rfl)
      clear hnr
      go_wp2_with (at_builtin; go_must (refine wpList_append_own _ rfl (.tmp 32) (.tmp 39) 156 rfl w.heap.size 5 i0 (.int .u8 0) 1 1 Tryz.underlying156 ihi ih0 ihs ih2 rfl (by decide) u6 (ys).length ((ys).map B8) rfl ?hO1 ⟨wr.heap.size, 0, none⟩ 1 1 [B8 (b8 x.o)] rfl rfl ?hN1 (one_int _ _) ?ha1 ?hb1 ?hB1 ?_))
      case hO1 => exact World.ownsRow.alloc hownr _
      case hN1 => rw [EO.out]; exact one_newA _ _ _ _ rfl
      case ha1 => unfold maxLen; omega
      case hb1 => omega
      case hB1 => simp; omega
      intro v1 w1 hown1 hgrow1 _
      have hbl1 := (hbl.alloc hz _).grown hgrow1 (by simp; omega) (fun k hk => (World.ownsRow.lt hownr k hk).1)
      have hown1 := OwnB.push hown1 rfl
      have hz1 := hbl1.size
      clear hgrow1 hownr hbl c0 c1 c2 c3 c4
      obtain ⟨c0, c1, c2, c3, c4⟩ := hI.out.below hbl1 hb
      have hbw1 : b < w1.heap.size := by omega
      go_wp2_with fail
      refine (needs_any _ _).mono ?_
      rintro e w' ⟨rfl, rfl⟩
      rw [HV.out]
      generalize hG2 : ys ++ [b8 x.o] = ys2 at *
      have HG2 := hide hG2
      clear hG2
      have hL2 : ys2.length <= 2 + 0 + 12 * l.length := by rw [<- HG2.out, List.length_append]; simp; omega
      go_wp2_with (at_builtin; go_must (refine wpList_append_own _ rfl (.tmp 53) (.tmp 60) 156 rfl w.heap.size 5 i0 (.int .u8 0) 1 1 Tryz.underlying156 ihi ih0 ihs ih2 rfl (by decide) v1 (ys2).length ((ys2).map B8) rfl ?hO2 ⟨w1.heap.size, 0, none⟩ 1 1 [B8 (b8 x.a)] rfl rfl ?hN2 (one_int _ _) ?ha2 ?hb2 ?hB2 ?_))
      case hO2 => exact World.ownsRow.alloc hown1 _
      case hN2 => rw [B8_of]; exact one_newA _ _ _ _ rfl
      case ha2 => unfold maxLen; omega
      case hb2 => omega
      case hB2 => simp; omega
      intro v2 w2 hown2 hgrow2 _
      have hbl2 := (hbl1.alloc hz1 _).grown hgrow2 (by simp; omega) (fun k hk => (World.ownsRow.lt hown1 k hk).1)
      have hown2 := OwnB.push hown2 rfl
      have hz2 := hbl2.size
      clear hgrow2 hown1 hbl1 c0 c1 c2 c3 c4
      obtain ⟨c0, c1, c2, c3, c4⟩ := hI.out.below hbl2 hb
      have hbw2 : b < w2.heap.size := by omega
      generalize hG3 : ys2 ++ [b8 x.a] = ys3 at *
      have HG3 := hide hG3
      clear hG3
      have hL3 : ys3.length <= 2 + 1 + 12 * l.length := by rw [<- HG3.out, List.length_append]; simp; omega
      go_wp2_with (at_builtin; go_must (refine wpList_append_own _ rfl (.tmp 63) (.tmp 70) 156 rfl w.heap.size 5 i0 (.int .u8 0) 1 1 Tryz.underlying156 ihi ih0 ihs ih2 rfl (by decide) v2 (ys3).length ((ys3).map B8) rfl ?hO3 ⟨w2.heap.size, 0, none⟩ 1 1 [B8 (b8 x.b)] rfl rfl ?hN3 (one_int _ _) ?ha3 ?hb3 ?hB3 ?_))
      case hO3 => exact World.ownsRow.alloc hown2 _
      case hN3 => rw [B8_of]; exact one_newA _ _ _ _ rfl
      case ha3 => unfold maxLen; omega
      case hb3 => omega
      case hB3 => simp; omega
      intro v3 w3 hown3 hgrow3 _
      have hbl3 := (hbl2.alloc hz2 _).grown hgrow3 (by simp; omega) (fun k hk => (World.ownsRow.lt hown2 k hk).1)
      have hown3 := OwnB.push hown3 rfl
      have hz3 := hbl3.size
      clear hgrow3 hown2 hbl2 c0 c1 c2 c3 c4
      obtain ⟨c0, c1, c2, c3, c4⟩ := hI.out.below hbl3 hb
      have hbw3 : b < w3.heap.size := by omega
      generalize hGz : ys3 ++ [b8 x.b] = zs at *
      have HZ : Hid (zs = ys ++ [b8 x.o] ++ encR x 2) := hide (by rw [<- hGz, <- HG3.out, <- HG2.out]; simp [encR, List.range_succ, regN])
      have hLz : zs.length <= 5 + 12 * l.length := by rw [HZ.out, List.length_append, List.length_append, encR_len]; simp; omega
      clear hGz
      go_wp2_with fail
      go_loopw [6, 12, 13] (fun v q j wr2 => ∃ (m : Nat) (ts : List UInt8), m <= kb /\ j = .int .i64 m /\ q = .int .u64 ((X / 256 ^ m : Nat) : Int) /\ Hid (ts = zs ++ encK x m) /\ OwnB wr2 w.heap.size v ts /\ Below w.heap.size w wr2) (fun _ _ j _ => kb - (intOf j).toNat)
      case atStart => exact ⟨0, zs, by omega, rfl, by rw [IntKind.wrap_u64, HX.out]; simp, hide (by simp [encK]), hown3, hbl3⟩
      case round =>
       clear hown3 hbl3 c0 c1 c2 c3 c4
       obtain ⟨m, ts, hm, rfl, rfl, hts, hownt, hblt⟩ := hrel
       have hzt := hblt.size
       have hLt : ts.length <= 13 + 12 * l.length := by rw [hts.out, List.length_append, encK_len]; omega
       have HB := hide (encK_byte x X m HX.out)
       have HD := hide (div_step X m)
       have HYb : Hid (X / 256 ^ m < 18446744073709551616) := hide (Nat.lt_of_le_of_lt (Nat.div_le_self _ _) hXlt)
       generalize hY : X / 256 ^ m = Y at *
       clear hY
       by_cases hlt2 : m < kb
       · go_wp2_with (at_builtin; go_must (refine wpList_append_own _ rfl (.tmp 93) (.tmp 97) 156 rfl w.heap.size 5 i0 (.int .u8 0) 1 1 Tryz.underlying156 ihi ih0 ihs ih2 rfl (by decide) u6 ts.length (ts.map B8) rfl ?hOk ⟨wr.heap.size, 0, none⟩ 1 1 [B8 (b8 (Y : Int))] rfl rfl ?hNk (one_int _ _) ?hak ?hbk ?hBk ?_))
         case hOk => exact World.ownsRow.alloc hownt _
         case hNk => rw [B8_of]; exact one_newA _ _ _ _ rfl
         case hak => unfold maxLen; omega
         case hbk => omega
         case hBk => simp; omega
         intro vk wk hownk hgrowk _
         have hblk := (hblt.alloc hzt _).grown hgrowk (by simp; omega) (fun k hk => (World.ownsRow.lt hownt k hk).1)
         have hownk := OwnB.push hownk rfl
         clear hgrowk hownt hblt
         go_wp2
         go_roundw
         case rel => exact ⟨m + 1, _, by omega, by go_num, by rw [<- HD.out, wrap_div Y HYb.out], hide (by rw [encK_succ, hts.out, HB.out]; simp), hownk, hblk⟩
         case measure => simp [intOf]; omega
       · have hE : Hid (ts = ys ++ encI x) := hide (by rw [hts.out, HZ.out]; unfold encI; rw [HNR.out, HKB.out, show m = kb by omega]; simp)
         go_wp2
         go_roundw
         case rel => exact ⟨n + 1, _, by omega, by go_num, hide (by rw [Hn.out, hE.out, hys.out]; simp), hownt, hblt⟩
         case measure => simp [intOf]; omega
    · rw [hnr] at HV
      have HNR : Hid ((nregs x.o).toNat = 3) := hide (by rw [hnr]; rfl)
      clear hnr
      go_wp2_with (at_builtin; go_must (refine wpList_append_own _ rfl (.tmp 32) (.tmp 39) 156 rfl w.heap.size 5 i0 (.int .u8 0) 1 1 Tryz.underlying156 ihi ih0 ihs ih2 rfl (by decide) u6 (ys).length ((ys).map B8) rfl ?hO1 ⟨wr.heap.size, 0, none⟩ 1 1 [B8 (b8 x.o)] rfl rfl ?hN1 (one_int _ _) ?ha1 ?hb1 ?hB1 ?_))
      case hO1 => exact World.ownsRow.alloc hownr _
      case hN1 => rw [EO.out]; exact one_newA _ _ _ _ rfl
      case ha1 => unfold maxLen; omega
      case hb1 => omega
      case hB1 => simp; omega
      intro v1 w1 hown1 hgrow1 _
      have hbl1 := (hbl.alloc hz _).grown hgrow1 (by simp; omega) (fun k hk => (World.ownsRow.lt hownr k hk).1)
      have hown1 := OwnB.push hown1 rfl
      have hz1 := hbl1.size
      clear hgrow1 hownr hbl c0 c1 c2 c3 c4
      obtain ⟨c0, c1, c2, c3, c4⟩ := hI.out.below hbl1 hb
      have hbw1 : b < w1.heap.size := by omega
      go_wp2_with fail
      refine (needs_any _ _).mono ?_
      rintro e w' ⟨rfl, rfl⟩
      rw [HV.out]
      generalize hG2 : ys ++ [b8 x.o] = ys2 at *
      have HG2 := hide hG2
      clear hG2
      have hL2 : ys2.length <= 2 + 0 + 12 * l.length := by rw [<- HG2.out, List.length_append]; simp; omega
      go_wp2_with (at_builtin; go_must (refine wpList_append_own _ rfl (.tmp 53) (.tmp 60) 156 rfl w.heap.size 5 i0 (.int .u8 0) 1 1 Tryz.underlying156 ihi ih0 ihs ih2 rfl (by decide) v1 (ys2).length ((ys2).map B8) rfl ?hO2 ⟨w1.heap.size, 0, none⟩ 1 1 [B8 (b8 x.a)] rfl rfl ?hN2 (one_int _ _) ?ha2 ?hb2 ?hB2 ?_))
      case hO2 => exact World.ownsRow.alloc hown1 _
      case hN2 => rw [B8_of]; exact one_newA _ _ _ _ rfl
      case ha2 => unfold maxLen; omega
      case hb2 => omega
      case hB2 => simp; omega
      intro v2 w2 hown2 hgrow2 _
      have hbl2 := (hbl1.alloc hz1 _).grown hgrow2 (by simp; omega) (fun k hk => (World.ownsRow.lt hown1 k hk).1)
      have hown2 := OwnB.push hown2 rfl
      have hz2 := hbl2.size
      clear hgrow2 hown1 hbl1 c0 c1 c2 c3 c4
      obtain ⟨c0, c1, c2, c3, c4⟩ := hI.out.below hbl2 hb
      have hbw2 : b < w2.heap.size := by omega
      generalize hG3 : ys2 ++ [b8 x.a] = ys3 at *
      have HG3 := hide hG3
      clear hG3
      have hL3 : ys3.length <= 2 + 1 + 12 * l.length := by rw [<- HG3.out, List.length_append]; simp; omega
      go_wp2_with (at_builtin; go_must (refine wpList_append_own _ rfl (.tmp 63) (.tmp 70) 156 rfl w.heap.size 5 i0 (.int .u8 0) 1 1 Tryz.underlying156 ihi ih0 ihs ih2 rfl (by decide) v2 (ys3).length ((ys3).map B8) rfl ?hO3 ⟨w2.heap.size, 0, none⟩ 1 1 [B8 (b8 x.b)] rfl rfl ?hN3 (one_int _ _) ?ha3 ?hb3 ?hB3 ?_))
      case hO3 => exact World.ownsRow.alloc hown2 _
      case hN3 => rw [B8_of]; exact one_newA _ _ _ _ rfl
      case ha3 => unfold maxLen; omega
      case hb3 => omega
      case hB3 => simp; omega
      intro v3 w3 hown3 hgrow3 _
      have hbl3 := (hbl2.alloc hz2 _).grown hgrow3 (by simp; omega) (fun k hk => (World.ownsRow.lt hown2 k hk).1)
      have hown3 := OwnB.push hown3 rfl
      have hz3 := hbl3.size
      clear hgrow3 hown2 hbl2 c0 c1 c2 c3 c4
      obtain ⟨c0, c1, c2, c3, c4⟩ := hI.out.below hbl3 hb
      have hbw3 : b < w3.heap.size := by omega
      generalize hG4 : ys3 ++ [b8 x.b] = ys4 at *
      have HG4 := hide hG4
      clear hG4
      have hL4 : ys4.length <= 2 + 2 + 12 * l.length := by rw [<- HG4.out, List.length_append]; simp; omega
      go_wp2_with (at_builtin; go_must (refine wpList_append_own _ rfl (.tmp 73) (.tmp 80) 156 rfl w.heap.size 5 i0 (.int .u8 0) 1 1 Tryz.underlying156 ihi ih0 ihs ih2 rfl (by decide) v3 (ys4).length ((ys4).map B8) rfl ?hO4 ⟨w3.heap.size, 0, none⟩ 1 1 [B8 (b8 x.c)] rfl rfl ?hN4 (one_int _ _) ?ha4 ?hb4 ?hB4 ?_))
      case hO4 => exact World.ownsRow.alloc hown3 _
      case hN4 => rw [B8_of]; exact one_newA _ _ _ _ rfl
      case ha4 => unfold maxLen; omega
      case hb4 => omega
      case hB4 => simp; omega
      intro v4 w4 hown4 hgrow4 _
      have hbl4 := (hbl3.alloc hz3 _).grown hgrow4 (by simp; omega) (fun k hk => (World.ownsRow.lt hown3 k hk).1)
      have hown4 := OwnB.push hown4 rfl
      have hz4 := hbl4.size
      clear hgrow4 hown3 hbl3 c0 c1 c2 c3 c4
      obtain ⟨c0, c1, c2, c3, c4⟩ := hI.out.below hbl4 hb
      have hbw4 : b < w4.heap.size := by omega
      generalize hGz : ys4 ++ [b8 x.c] = zs at *
      have HZ : Hid (zs = ys ++ [b8 x.o] ++ encR x 3) := hide (by rw [<- hGz, <- HG4.out, <- HG3.out, <- HG2.out]; simp [encR, List.range_succ, regN])
      have hLz : zs.length <= 5 + 12 * l.length := by rw [HZ.out, List.length_append, List.length_append, encR_len]; simp; omega
      clear hGz
      go_wp2_with fail
      go_loopw [6, 12, 13] (fun v q j wr2 => ∃ (m : Nat) (ts : List UInt8), m <= kb /\ j = .int .i64 m /\ q = .int .u64 ((X / 256 ^ m : Nat) : Int) /\ Hid (ts = zs ++ encK x m) /\ OwnB wr2 w.heap.size v ts /\ Below w.heap.size w wr2) (fun _ _ j _ => kb - (intOf j).toNat)
      case atStart => exact ⟨0, zs, by omega, rfl, by rw [IntKind.wrap_u64, HX.out]; simp, hide (by simp [encK]), hown4, hbl4⟩
      case round =>
       clear hown4 hbl4 c0 c1 c2 c3 c4
       obtain ⟨m, ts, hm, rfl, rfl, hts, hownt, hblt⟩ := hrel
       have hzt := hblt.size
       have hLt : ts.length <= 13 + 12 * l.length := by rw [hts.out, List.length_append, encK_len]; omega
       have HB := hide (encK_byte x X m HX.out)
       have HD := hide (div_step X m)
       have HYb : Hid (X / 256 ^ m < 18446744073709551616) := hide (Nat.lt_of_le_of_lt (Nat.div_le_self _ _) hXlt)
       generalize hY : X / 256 ^ m = Y at *
       clear hY
       by_cases hlt2 : m < kb
       · go_wp2_with (at_builtin; go_must (refine wpList_append_own _ rfl (.tmp 93) (.tmp 97) 156 rfl w.heap.size 5 i0 (.int .u8 0) 1 1 Tryz.underlying156 ihi ih0 ihs ih2 rfl (by decide) u6 ts.length (ts.map B8) rfl ?hOk ⟨wr.heap.size, 0, none⟩ 1 1 [B8 (b8 (Y : Int))] rfl rfl ?hNk (one_int _ _) ?hak ?hbk ?hBk ?_))
         case hOk => exact World.ownsRow.alloc hownt _
         case hNk => rw [B8_of]; exact one_newA _ _ _ _ rfl
         case hak => unfold maxLen; omega
         case hbk => omega
         case hBk => simp; omega
         intro vk wk hownk hgrowk _
         have hblk := (hblt.alloc hzt _).grown hgrowk (by simp; omega) (fun k hk => (World.ownsRow.lt hownt k hk).1)
         have hownk := OwnB.push hownk rfl
         clear hgrowk hownt hblt
         go_wp2
         go_roundw
         case rel => exact ⟨m + 1, _, by omega, by go_num, by rw [<- HD.out, wrap_div Y HYb.out], hide (by rw [encK_succ, hts.out, HB.out]; simp), hownk, hblk⟩
         case measure => simp [intOf]; omega
       · have hE : Hid (ts = ys ++ encI x) := hide (by rw [hts.out, HZ.out]; unfold encI; rw [HNR.out, HKB.out, show m = kb by omega]; simp)
         go_wp2
         go_roundw
         case rel => exact ⟨n + 1, _, by omega, by go_num, hide (by rw [Hn.out, hE.out, hys.out]; simp), hownt, hblt⟩
         case measure => simp [intOf]; omega
  · have R : Hid (ys = encP l) := hide (by rw [hys.out, List.take_of_length_le (by omega)]; rfl)
    obtain ⟨g, cap2, hv, hcells⟩ := hownr.text (by rw [hys.out]; simp)
    subst hv
    have hcv := run_convert_bytes_back (P := Tryz.prog) wr 156 9 5 ⟨g, 0, none⟩ cap2 ys Tryz.underlying156 Tryz.underlying5 Tryz.underlying9 hcells
    clear hcells hownr
    go_wp2
    go_ret2
    exact ⟨ret_enc R.out, hbl⟩
theorem refEncode_no (l : List I5) (v : Value) (w : World) (h : Slc w v l) (hr : (rightR l).1 = 1) :
 Calls Tryz.prog 37 #[v] w fun e w' => e = .returned (.tuple #[.string ⟨#[]⟩, .int .i64 1]) /\ Below w.heap.size w w' := by
 have HR := hide hr
 clear hr
 go_enter Tryz.func37, Tryz.ntmps37
 go_wp2_with fail
 refine (refRight_any l _ _ h).mono ?_
 rintro e w1 ⟨rfl, hb1⟩
 rw [HR.out]
 go_wp2
 go_ret2
 exact ⟨rfl, hb1⟩
theorem refEncode_yes (l : List I5) (v : Value) (w : World) (h : Slc w v l) (hr : rightR l = (0, 0)) :
 Calls Tryz.prog 37 #[v] w fun e w' => e = .returned (.tuple #[.string ⟨(encP l).toArray⟩, .int .i64 0]) /\ Below w.heap.size w w' := by
 rcases h with ⟨_, rfl⟩ | ⟨b, off, cap, rfl, hb, hi⟩
 · have := right_fits hr; simp at this
 · exact refEncode_some l b off cap w hb hr hi
theorem fits_parts {i : I5} {n : Int} (h : i.fits n = true) : 0 <= i.o /\ i.o < 12 /\ regOk (nregs i.o) 0 i.a = true /\ regOk (nregs i.o) 1 i.b = true /\ regOk (nregs i.o) 2 i.c = true /\ kOk (kbytes i.o) i.k n = true := by
 simp only [I5.fits, fitsB, Bool.and_eq_true, decide_eq_true_eq] at h
 obtain ⟨⟨⟨⟨⟨h1, h2⟩, h3⟩, h4⟩, h5⟩, h6⟩ := h
 exact ⟨h1, h2, h3, h4, h5, h6⟩
theorem reg_back {nr : Nat} {j : Nat} {r : Int} (h : regOk nr j r = true) : (if j < nr then ((b8 r).toNat : Int) else 0) = r := by
 unfold regOk at h
 by_cases hj : j < nr
 · rw [if_pos hj, b8_nat]
   rw [if_pos (by omega)] at h
   simp at h; omega
 · rw [if_neg hj]
   rw [if_neg (by omega)] at h
   simp at h; omega
theorem regL_enc (i : I5) (nr kb : Nat) (e : List UInt8) (j : Nat) (r : Int) (_h3 : j < 3) (hr : regN i j = r) (h : regOk nr j r = true) : regL ([b8 i.o] ++ encR i nr ++ encK i kb ++ e) nr j = r := by
 rw [<- reg_back h]
 unfold regL
 by_cases hj : j < nr
 · rw [if_pos hj, if_pos hj]
   rw [List.getD_eq_getElem?_getD, List.append_assoc, List.append_assoc, List.getElem?_append_right (by simp), List.getElem?_append_left (by simp [encR]; omega)]
   simp [encR, hj, hr]
 · rw [if_neg hj, if_neg hj]
theorem readI_of (i : I5) (n : Int) (e : List UInt8) (hn : n <= 64) (h : i.fits n = true) (hk : I64 i.k) : readI (encI i ++ e) = some (i, (encI i).length) := by
 obtain ⟨h1, h2, h3, h4, h5, h6⟩ := fits_parts h
 have hb : ((b8 i.o).toNat : Int) = i.o := by rw [b8_nat]; omega
 have hN : nrN (b8 i.o).toNat = (nregs i.o).toNat := by unfold nrN; rw [hb]
 have hK : kbN (b8 i.o).toNat = (kbytes i.o).toNat := by unfold kbN; rw [hb]
 have hr := nregs_bd i.o
 have hkb := kb_three i.o
 have hlen : (encI i).length = 1 + (nregs i.o).toNat + (kbytes i.o).toNat := by simp [encI, encR_len, encK_len]; omega
 have hnr : (((nregs i.o).toNat : Nat) : Int) = nregs i.o := by omega
 unfold readI
 have hcons : encI i ++ e = b8 i.o :: (encR i (nregs i.o).toNat ++ encK i (kbytes i.o).toNat ++ e) := by simp [encI]
 rw [hcons]
 simp only
 rw [if_neg (by omega), hN, hK, if_neg (by rw [<- hcons, List.length_append, hlen]; omega), <- hcons]
 have r0 : regL (encI i ++ e) (nregs i.o).toNat 0 = i.a := regL_enc i _ _ e 0 i.a (by omega) rfl (by rw [hnr]; exact h3)
 have r1 : regL (encI i ++ e) (nregs i.o).toNat 1 = i.b := regL_enc i _ _ e 1 i.b (by omega) rfl (by rw [hnr]; exact h4)
 have r2 : regL (encI i ++ e) (nregs i.o).toNat 2 = i.c := regL_enc i _ _ e 2 i.c (by omega) rfl (by rw [hnr]; exact h5)
 have hd : ((encI i ++ e).drop (1 + (nregs i.o).toNat)).take (kbytes i.o).toNat = encK i (kbytes i.o).toNat := by
  unfold encI
  rw [List.append_assoc, List.drop_append_of_le_length (by simp [encR_len]; omega), List.drop_of_length_le (by simp [encR_len]; omega), List.nil_append, List.take_append_of_le_length (by rw [encK_len]; omega), List.take_of_length_le (by rw [encK_len]; omega)]
 have hx : i.k % 18446744073709551616 = ((i.k % 18446744073709551616).toNat : Int) := by omega
 have hkk : wrap64 (leNat (encK i (kbytes i.o).toNat)) = i.k := by
  rw [encK_nat i _ (i.k % 18446744073709551616).toNat hx]
  obtain ⟨k1, k2⟩ := hk
  unfold kOk at h6
  rcases hkb with hb8 | hb1 | hb0
  · rw [hb8, Nat.mod_eq_of_lt (by show _ < 256 ^ 8; omega)]
    exact wrap_back _ k1 k2
  · rw [hb1] at h6 ⊢
    simp at h6
    show wrap64 ((_ % 256 ^ 1 : Nat) : Int) = _
    unfold wrap64; omega
  · rw [hb0] at h6 ⊢
    simp at h6
    show wrap64 ((_ % 256 ^ 0 : Nat) : Int) = _
    rw [h6, Nat.pow_zero, Nat.mod_one]; unfold wrap64; omega
 rw [r0, r1, r2, hd, hkk, hb, hlen]
theorem readN_of : ∀ (p : List I5) (n : Int) (e : List UInt8), n <= 64 -> (∀ i ∈ p, i.fits n = true /\ I64 i.k) -> readN p.length (p.flatMap encI ++ e) = some (p, e)
 | [], _, e, _, _ => by simp [readN]
 | i :: r, n, e, hn, h => by
   have hi := h i (by simp)
   simp only [List.flatMap_cons, List.length_cons, readN, List.append_assoc]
   rw [readI_of i n _ hn hi.1 hi.2]
   simp only
   rw [List.drop_left, readN_of r n e hn fun x hx => h x (by simp [hx])]
theorem b8_small (n : Nat) (h : n <= 64) : (b8 (n : Int)).toNat = n := by have := b8_nat (n : Int); omega
theorem decP_tail (p : List I5) (e : List UInt8) (hr : rightR p = (0, 0)) (h64 : ∀ i ∈ p, I64 i.k) : decP (encP p ++ e) = if e = [] then some p else none := by
 obtain ⟨h1, h2, h3⟩ := right_fits hr
 have hf : ∀ i ∈ p, i.fits p.length = true /\ I64 i.k := by
  intro i hi
  obtain ⟨j, hj, rfl⟩ := List.getElem_of_mem hi
  exact ⟨h3 j hj, h64 _ hi⟩
 unfold encP
 rw [List.cons_append]
 simp only [decP]
 rw [b8_small _ h2, readN_of p p.length e (by omega) hf]
 simp only
 by_cases he : e = []
 · rw [if_pos ⟨hr, he⟩, if_pos he]
 · rw [if_neg (fun h => he h.2), if_neg he]
end Go.Proofs.YtamiichlbmllcabGreatDoor
