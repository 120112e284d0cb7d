/-
  The walk of suretykeep.Back.
-/
import Derived.Test.YtamiichlbmllcaaDoorMath2
import Derived.Test.YtamiichlbmllcaaDoorKeep
namespace Go.Proofs.YtamiichlbmllcaaDoor
open Go.RowKit
set_option maxHeartbeats 1000000 in
set_option maxRecDepth 100000 in
theorem program_nil (a : Option Addr) (cap : Nat) (w : World) :
    Calls Tryd.prog 5 #[.slice a 0 cap] w fun e w' => ∃ v, e = .returned v ∧ OwnI w' w.heap.size v (progL []) ∧ Below w.heap.size w w' := by
  obtain ⟨i0, hi0, hz0, hzs, hz2⟩ := info_parts Tryd.infoIns
  go_enter Tryd.func5, Tryd.ntmps5
  go_wp2_with fail
  refine wp_loop_rounds 1 ?_
  rw [rounds_succ]
  go_wp2_with (at_builtin; go_must (refine wpList_append_own _ rfl (.tmp 93) (.tmp 95) 22 rfl w.heap.size 32 i0 _ 5 40 Tryd.underlying22 hi0 hz0 hzs hz2 rfl (by decide) (.slice none 0 0) 0 [] rfl ?hO ⟨w.heap.size, 0, none⟩ 1 1 I5.zero.cells rfl rfl ?hNw (five_one _) ?h63 ?h64 ?hB ?_))
  case hO => exact World.ownsRow.alloc (World.ownsRow_nil _ _ _ _) _
  case hNw => exact five_new _ _ _ _ rfl
  case h63 => unfold maxLen; omega
  case h64 => omega
  case hB => simp
  intro v4 w4 hown4 hgrow4 _
  have hbl4 := ((Below.refl w.heap.size w).alloc (Nat.le_refl _) _).grown hgrow4 (by simp) (fun k hk => by cases hk)
  have hown4 : OwnI w4 w.heap.size v4 [I5.zero] := hown4
  clear hgrow4
  go_wp2
  go_ret
  exact ⟨_, rfl, hown4, hbl4⟩
theorem program_any (l : List I5) (v : Value) (w : World) (h : Slc w v l) (hlen : l.length < 9223372036854775808) (h64 : ∀ i (h : i < l.length), l[i].in64) :
    Calls Tryd.prog 5 #[v] w fun e w' => ∃ v, e = .returned v ∧ OwnI w' w.heap.size v (progL l) ∧ Below w.heap.size w w' := by
  rcases h with ⟨⟨a, cap, rfl⟩, rfl⟩ | ⟨b, off, cap, rfl, h1, h2⟩
  · exact program_nil a cap w
  · by_cases hl : 63 < l.length
    · exact program_big l b off cap w h1 ⟨hl, hlen⟩ h2 h64
    · exact program_small l b off cap w h1 (by omega) h2 h64
theorem Slc.some {w : World} {v : Value} {l : List I5} (h : Slc w v l) (hl : 0 < l.length) : ∃ b off cap, v = .slice (some ⟨b, off, none⟩) l.length cap ∧ b < w.heap.size ∧ ∀ i (h : i < l.length), InsAt w b (off + i * 5) l[i] := by
  rcases h with ⟨_, rfl⟩ | h
  · simp at hl
  · exact h
theorem encP_len (p : List I5) (h : 0 < p.length) : 2 ≤ (encP p).length := by
  cases p with
  | nil => simp at h
  | cons x r => simp [encP, encI]
set_option maxHeartbeats 1000000 in
set_option maxRecDepth 100000 in
theorem back_any (l : List I5) (v : Value) (cut : Int) (s : ByteArray) (w : World) (hs : Shapes w) (h : Slc w v l) (hlen : l.length < 9223372036854775808) (h64 : ∀ i (h : i < l.length), l[i].in64) (hcut : I64 cut) :
    Calls Tryd.prog 3 #[v, .int .i64 cut, .string s] w fun e w' => e = .returned (.bool true) ∧ Below w.heap.size w w' := by
  obtain ⟨p, hp⟩ : ∃ p, p = progL l := ⟨_, rfl⟩
  have hR : rightR p = (0, 0) := by rw [hp]; exact progL_right l
  have hK : ∀ i ∈ p, I64 i.k := by rw [hp]; exact progL_in64 l h64
  have hpl : 0 < p.length ∧ p.length ≤ 64 := by have := right_fits hR; exact ⟨this.1, this.2.1⟩
  obtain ⟨hp0, hp1⟩ := hpl
  have hT2 := encP_len p hp0
  have hTl : (encP p).length ≤ 800 := by have := flat_len p; unfold encP; rw [List.length_cons]; omega
  have HR := hide hR
  have HK := hide hK
  have HP := hide hp
  have h64' := hide h64
  clear hR hK hp h64
  go_enter Tryd.func3, Tryd.ntmps3
  go_wp2_with fail
  refine (program_any l v w h hlen h64'.out).mono ?_
  rintro e w1 ⟨vp, rfl, hp1o, hb1⟩
  rw [← HP.out] at hp1o
  have hs1 := hs.below hb1 hs.1
  obtain ⟨pb, poff, pcap, hvp, hpb, hpc⟩ := hp1o.slc.some hp0
  subst hvp
  have hS1 : Slc w1 (.slice (some ⟨pb, poff, none⟩) p.length pcap) p := Or.inr ⟨_, _, _, rfl, hpb, hpc⟩
  clear hp1o
  go_wp2_with fail
  refine (Right_any p _ w1 hs1 hS1).mono ?_
  rintro e w2 ⟨rfl, hb2⟩
  rw [HR.out]
  have hs2 := hs1.below hb2 hs1.1
  have hS2 := hS1.below hb2 (Nat.le_refl _)
  go_wp2_with fail
  refine (Encode_yes p _ w2 hs2 hS2 HR.out).mono ?_
  rintro e w3 ⟨rfl, hb3⟩
  have hs3 := hs2.below hb3 hs2.1
  have hS3 := hS2.below hb3 (Nat.le_refl _)
  generalize hT : (⟨(encP p).toArray⟩ : ByteArray) = T
  have hTd : T.data.toList = encP p := by rw [← hT]
  have hTs : T.size = (encP p).length := by rw [← hTd, Array.length_toList]; rfl
  have HTd := hide hTd
  have HTs := hide hTs
  clear hT hTd hTs
  go_wp2_with fail
  refine (Decode_any T w3 hs3).mono ?_
  rintro e w4 ⟨vq, rfl, hq, hb4⟩
  have hs4 := hs3.below hb4 hs3.1
  have hS4 := hS3.below hb4 (Nat.le_refl _)
  have hdec : decP T.data.toList = some p := by have := decP_tail p [] HR.out HK.out; rw [List.append_nil] at this; rw [HTd.out, this, if_pos rfl]
  rw [(dec_some hdec).1]
  rw [(dec_some hdec).2] at hq
  obtain ⟨qb, qoff, qcap, hvq, hqb, hqc⟩ := hq.slc.some hp0
  subst hvq
  clear hdec hq hS1 hS2 hS3
  have d1 : ((p.length : Int) != p.length) = false := by simp
  have d2 : decide ((T.size : Int) < 2) = false := by have := HTs.out; rw [decide_eq_false_iff_not]; omega
  go_wp2_with fail
  go_loopw [14] (fun j wr => ∃ n : Nat, n ≤ p.length ∧ j = .int .i64 n ∧ Below w4.heap.size w4 wr) (fun j _ => p.length - (intOf j).toNat)
  case atStart => exact ⟨0, by omega, rfl, Below.refl _ _⟩
  case round =>
    obtain ⟨n, hn, rfl, hbl⟩ := hrel
    by_cases hlt : n < p.length
    · obtain ⟨a0, a1, a2, a3, a4⟩ := ((((hpc n hlt).below hb2 hpb).below hb3 (by have := hb2.size; omega)).below hb4 (by have := hb2.size; have := hb3.size; omega)).below hbl (by have := hb2.size; have := hb3.size; have := hb4.size; omega)
      obtain ⟨e0, e1, e2, e3, e4⟩ := (hqc n hlt).below hbl hqb
      go_wp2_with fail
      go_quiet (fail)
      go_wp2
      exact ⟨⟨n + 1, by omega, by go_num, below_drewN hbl _⟩, by simp [intOf]; omega⟩
    · have hsr := hs4.below hbl hs4.1
      have hbw : Below w.heap.size w wr := (((hb1.trans (hb2.mono hb1.size)).trans (hb3.mono (by have := hb1.size; have := hb2.size; omega))).trans (hb4.mono (by have := hb1.size; have := hb2.size; have := hb3.size; omega))).trans (hbl.mono (by have := hb1.size; have := hb2.size; have := hb3.size; have := hb4.size; omega))
      clear hpc hqc hS4 hb1 hb2 hb3 hb4 hbl hs4 hs3 hs2 hs1
      obtain ⟨tn, htn⟩ : ∃ tn : Nat, tn = T.size := ⟨_, rfl⟩
      have hts := HTs.out
      obtain ⟨kk0, kk1⟩ := pickI_bd cut (T.size : Int) (by omega)
      obtain ⟨m, hm⟩ := Int.eq_ofNat_of_zero_le kk0
      have hmlt : m < T.size := by omega
      have HM := hide hm
      clear hm kk0 kk1
      have hT800 : T.size ≤ 800 := by omega
      clear hts htn
      go_wp2_with fail
      refine (pick_any cut T.size _ hcut (by omega) (by omega)).mono ?_
      rintro e w' ⟨rfl, rfl⟩
      rw [HM.out]
      go_wp2_with fail
      refine (Decode_any (T.extract 0 m) wr hsr).mono ?_
      rintro e w5 ⟨vx, rfl, hx, hb5⟩
      have hs5 := hsr.below hb5 hsr.1
      have hdx : decP (T.extract 0 m).data.toList = none := by
        rw [Lib.extract_data, HTd.out, List.drop_zero, Nat.sub_zero]
        exact decP_cut p m HR.out HK.out (by have := HTs.out; omega)
      rw [(dec_none hdx).1]
      rw [(dec_none hdx).2] at hx
      obtain ⟨ax, cx, hvx⟩ := hx.slc.len
      subst hvx
      have hbw5 := hbw.trans (hb5.mono hbw.size)
      clear hx hdx hbw hb5
      go_wp2_with fail
      generalize hU : T ++ (⟨#[0]⟩ : ByteArray) = U
      refine (Decode_any U w5 hs5).mono ?_
      rintro e w6 ⟨vy, rfl, hy, hb6⟩
      have hs6 := hs5.below hb6 hs5.1
      have hdy : decP U.data.toList = none := by
        rw [← hU, ByteArray.data_append, Array.toList_append, HTd.out]
        have := decP_tail p [0] HR.out HK.out
        rw [if_neg (by simp)] at this
        exact this
      rw [(dec_none hdy).1]
      rw [(dec_none hdy).2] at hy
      obtain ⟨ay, cy, hvy⟩ := hy.slc.len
      subst hvy
      have hbw6 := hbw5.trans (hb6.mono hbw5.size)
      clear hy hdy hbw5 hb6 hU
      go_wp2_with fail
      refine (Decode_any s w6 hs6).mono ?_
      rintro e w7 ⟨vz, rfl, hz, hb7⟩
      have hs7 := hs6.below hb7 hs6.1
      have hbw7 := hbw6.trans (hb7.mono hbw6.size)
      cases hdz : decP s.data.toList with
      | none =>
        rw [(dec_none hdz).1]
        rw [(dec_none hdz).2] at hz
        obtain ⟨az, cz, hvz⟩ := hz.slc.len
        subst hvz
        clear hdz hz hb7 hbw6
        go_wp2
        go_ret
        exact ⟨rfl, hbw7⟩
      | some z =>
        obtain ⟨hez, hrz⟩ := decP_enc hdz
        rw [(dec_some hdz).1]
        rw [(dec_some hdz).2] at hz
        have HZ := hide hez
        have HRZ := hide hrz
        clear hdz hb7 hbw6 hez hrz
        go_wp2_with fail
        refine (Encode_yes z _ w7 hs7 hz.slc HRZ.out).mono ?_
        rintro e w8 ⟨rfl, hb8⟩
        have hbw8 := hbw7.trans (hb8.mono hbw7.size)
        have hse : (⟨(encP z).toArray⟩ : ByteArray) = s := by rw [HZ.out]
        rw [hse]
        clear hse hb8 hbw7
        go_wp2
        go_ret
        exact ⟨rfl, hbw8⟩
end Go.Proofs.YtamiichlbmllcaaDoor
