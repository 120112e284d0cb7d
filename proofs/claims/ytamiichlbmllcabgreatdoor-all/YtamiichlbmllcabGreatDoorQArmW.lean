import Derived.Test.YtamiichlbmllcabGreatDoorQThrA
import Derived.Test.YtamiichlbmllcabGreatDoorQMthC
import Derived.Test.YtamiichlbmllcabGreatDoorQKn
import Derived.Test.YtamiichlbmllcabGreatDoorQPlB
import Derived.Test.YtamiichlbmllcabGreatDoorQChF
set_option maxRecDepth 100000
set_option maxHeartbeats 32000000
namespace Go.Proofs.YtamiichlbmllcabGreatDoor
open Go.RowKit
theorem sVal_one (i : I5) : (sVal i).oneCell' = true := by
 unfold sVal
 exact one_ite rfl (one_ite rfl (one_ite rfl (iVal_one i)))
theorem sVal_iface (i : I5) : ∃ t y, sVal i = .iface t y := by
 unfold sVal
 exact iface_ite ⟨_, _, rfl⟩ (iface_ite ⟨_, _, rfl⟩ (iface_ite ⟨_, _, rfl⟩ (iVal_iface i)))
theorem sureOf_any (i : I5) (w : World) : Calls Tryz.prog 27 #[iVal i] w fun e w' => e = .returned (sVal i) /\ Below w.heap.size w w' := by
 obtain ⟨o, a, b, c, k⟩ := i
 unfold sVal iVal
 simp only
 by_cases h6 : o = 6
 · subst h6; exact sureOf_div a b c w
 · by_cases h7 : o = 7
   · subst h7; exact sureOf_load a b w
   · by_cases h8 : o = 8
     · subst h8; exact sureOf_store a b w
     · simp only [h6, h7, h8, if_false]
       by_cases h1 : o = 1
       · subst h1; exact sureOf_no _ _ (by decide) (by decide) (by decide) w
       · simp only [h1, if_false]
         by_cases h2 : o = 2
         · subst h2; exact sureOf_no _ _ (by decide) (by decide) (by decide) w
         · simp only [h2, if_false]
           by_cases h3 : o = 3
           · subst h3; exact sureOf_no _ _ (by decide) (by decide) (by decide) w
           · simp only [h3, if_false]
             by_cases h4 : o = 4
             · subst h4; exact sureOf_no _ _ (by decide) (by decide) (by decide) w
             · simp only [h4, if_false]
               by_cases h5 : o = 5
               · subst h5; exact sureOf_no _ _ (by decide) (by decide) (by decide) w
               · simp only [h5, if_false]
                 by_cases h9 : o = 9
                 · subst h9; exact sureOf_no _ _ (by decide) (by decide) (by decide) w
                 · simp only [h9, if_false]
                   by_cases hA : o = 10
                   · subst hA; exact sureOf_no _ _ (by decide) (by decide) (by decide) w
                   · simp only [hA, if_false]
                     by_cases hB : o = 11
                     · subst hB; exact sureOf_no _ _ (by decide) (by decide) (by decide) w
                     · simp only [hB, if_false]
                       exact sureOf_no _ _ (by decide) (by decide) (by decide) w
def OwnS (w : World) (base : Nat) (v : Value) (l : List I5) : Prop := w.ownsRow base 74 1 v l.length (l.map sVal)
theorem sure_any (l : List I5) (b cap : Nat) (w : World) (hb : b < w.heap.size) (hl2 : l.length <= 64) (hi : ProgC w b iVal l) :
 Calls Tryz.prog 12 #[.slice (some ⟨b, 0, none⟩) l.length cap] w fun e w' => ∃ v, e = .returned v /\ OwnS w' w.heap.size v l /\ Below w.heap.size w w' := by
 obtain ⟨i0, hii, hz0, hzs, hz2⟩ := info_three Tryz.infoIn
 have HI := hide hi
 clear hi
 go_enter Tryz.func12, Tryz.ntmps12
 go_wp2_with (at_make; go_must (refine wpList_make_own _ rfl (.const (.int .i64 0)) (.tmp 7) 58 rfl w.heap.size 74 i0 _ 1 Tryz.underlying58 hii hz0 hzs .i64 .i64 l.length l.length rfl rfl rfl ?b2 ?b3 ?b4 ?_))
 case b2 => rw [hz2]; omega
 case b3 => unfold maxLen; omega
 case b4 => simp
 intro w1 hown1 hgrow1
 have hbl1 : Below w.heap.size w w1 := Below.grown (B := w.heap.size) (Below.refl _ _) hgrow1 (by simp) (fun k hk => by cases hk)
 clear hgrow1
 go_wp2_with fail
 go_loopw [3, 11] (fun p j wr => ∃ n : Nat, n <= l.length /\ j = .int .i64 n /\ OwnS wr w.heap.size p (l.take n) /\ Below w.heap.size w wr) (fun _ j _ => l.length - (intOf j).toNat)
 case atStart => exact ⟨0, by omega, rfl, by simpa [OwnS] using hown1, hbl1⟩
 case round =>
  clear hown1 hbl1
  obtain ⟨n, hn, rfl, hown, hbl⟩ := hrel
  by_cases hlt : n < l.length
  · obtain ⟨x, hx⟩ : ∃ x, x = insAt l n := ⟨_, rfl⟩
    have c0 : wr.cell? ⟨b, n, none⟩ = some (iVal x) := by
     have := HI.out n hlt
     rw [hx, hbl.cell (p := ⟨b, n, none⟩) hb]
     simpa using this
    have hz := hbl.size
    have HX := hide hx
    clear hx
    obtain ⟨tI, yI, hI⟩ := iVal_iface x
    have HSO : Hid (∀ wx, Calls Tryz.prog 27 #[.iface tI yI] wx fun e w' => e = .returned (sVal x) /\ Below wx.heap.size wx w') := hide fun wx => by rw [<- hI]; exact sureOf_any x wx
    rw [hI] at c0
    clear hI
    obtain ⟨a3, cp3, rfl⟩ : ∃ a c, u3 = .slice a n c := by
     rcases hown.2 with ⟨h1, h2⟩ | ⟨g, cap, cur, h1, _⟩
     · exact ⟨none, 0, by rw [h1]; simp at h2; rcases h2 with h2 | h2; rw [h2]; rw [h2] at hlt; simp at hlt⟩
     · exact ⟨_, _, by rw [h1, List.length_take, Nat.min_eq_left hn]⟩
    go_wp2_with fail
    refine (HSO.out _).mono ?_
    rintro e w2 ⟨rfl, hb2⟩
    have hown2 : OwnS w2 w.heap.size (.slice a3 n cp3) (l.take n) := own_bel hown hb2
    have hbl2 : Below w.heap.size w w2 := hbl.trans (hb2.mono hz)
    have hz2' := hbl2.size
    obtain ⟨tV, yV, hV⟩ := sVal_iface x
    rw [hV]
    have HV := hide hV
    clear hb2 hown hbl c0 hV
    go_wp2_with (at_builtin; go_must (refine wpList_append_own _ rfl (.tmp 15) (.tmp 18) 58 rfl w.heap.size 74 i0 _ 1 16 Tryz.underlying58 hii hz0 hzs hz2 rfl (by decide) (.slice a3 n cp3) (l.take n).length ((l.take n).map sVal) rfl ?o1 ⟨w2.heap.size, 0, none⟩ 1 1 [.iface tV yV] rfl rfl ?n1 ?u1 ?m1 ?b1 ?s1 ?_))
    case o1 => exact World.ownsRow.alloc hown2 _
    case n1 => exact one_new _ _ _ _ rfl
    case u1 => intro u hu; simp at hu; rw [hu, <- HV.out]; exact sVal_one x
    case m1 => unfold maxLen; simp; omega
    case b1 => simp; omega
    case s1 => simp; omega
    intro v4 w4 hown4 hg4 _
    have hbl4 : Below w.heap.size w w4 := (hbl2.alloc hz2' _).grown hg4 (by simp; omega) (fun k hk => (World.ownsRow.lt hown2 k hk).1)
    clear hown2 hbl2 hg4
    go_wp2
    go_roundw
    case rel =>
     refine ⟨n + 1, by omega, by go_num, ?_, hbl4⟩
     have e1 : l.take (n + 1) = l.take n ++ [x] := by rw [HX.out]; exact take_succ_at hlt
     unfold OwnS
     rw [e1, List.map_append, List.length_append, List.map_singleton, HV.out, List.length_take, Nat.min_eq_left hn]
     rw [List.map_take]
     exact hown4
    case measure => simp [intOf]; omega
  · go_wp2
    go_ret
    exact ⟨_, rfl, by rw [List.take_of_length_le (by omega)] at hown; exact hown, hbl⟩
theorem Over.out {W wr : World} {g pb cap : Nat} {l : List I5} {F : Nat} {o : O4} (h : Over W wr g pb cap l F o) : wr.cell? ⟨g, 28, none⟩ = some (.int .i64 o.kind) /\ wr.cell? ⟨g, 29, none⟩ = some (.int .i64 o.place) /\ wr.cell? ⟨g, 30, none⟩ = some (.int .i64 o.value) /\ wr.cell? ⟨g, 31, none⟩ = some (.int .i64 o.steps) := by
 obtain ⟨⟨s, hr⟩, _⟩ := h
 exact hr.fields.2.2.2.2
theorem below_set4 {B : Nat} {w0 w : World} {g : Nat} (h : Below B w0 w) (hB : B <= g) (o0 o1 o2 o3 : Nat) (u0 u1 u2 u3 : Value) :
 Below B w0 ((((w.setCell ⟨g, o0, none⟩ u0).setCell ⟨g, o1, none⟩ u1).setCell ⟨g, o2, none⟩ u2).setCell ⟨g, o3, none⟩ u3) :=
 (((h.setCell (by simpa using hB) _).setCell (by simpa using hB) _).setCell (by simpa using hB) _).setCell (by simpa using hB) _
theorem four_of {w : World} {N : Nat} {A B C D : Value} {T : TypeId} (hH : w.heap[N]? = some (.cells #[A, B, C, D] T (0, 0))) : w.cell? ⟨N, 0, none⟩ = some A /\ w.cell? ⟨N, 1, none⟩ = some B /\ w.cell? ⟨N, 2, none⟩ = some C /\ w.cell? ⟨N, 3, none⟩ = some D /\ w.frozen? ⟨N, 0, none⟩ = false /\ w.frozen? ⟨N, 1, none⟩ = false /\ w.frozen? ⟨N, 2, none⟩ = false /\ w.frozen? ⟨N, 3, none⟩ = false := by
 refine ⟨?_, ?_, ?_, ?_, ?_, ?_, ?_, ?_⟩ <;> first | (rw [cell_of_row _ _ _ _ _ _ hH]; rfl) | simp [World.frozen?, hH]
def RunI (vf : I5 -> Value) (Can : MS -> Prop) (W wr : World) (g pb cap : Nat) (l : List I5) (F : Nat) (o : O4) (k : Nat) : Prop := (∃ k' s vs, k = k' + 1 /\ Live vf Can W wr g pb cap l F (vs, o) k' s) \/ (k = 0 /\ Over W wr g pb cap l F o)
theorem runM_any {vf : I5 -> Value} {Can : MS -> Prop} (l : List I5) (hN : Runner vf l Can) (pb cap : Nat) (r : Nat -> Int) (hcan : Can (startS r)) (f : Int) (w : World) (h : ProgAt w pb vf l) :
 Calls Tryz.prog 14 #[.slice (some ⟨pb, 0, none⟩) l.length cap, regsV r, .int .i64 f] w fun e w' => e = .returned (runO l r f).val /\ Below w.heap.size w w' := by
 have HSL := hide h
 clear h
 obtain ⟨O, hO⟩ : ∃ O, O = runO l r f := ⟨_, rfl⟩
 rw [<- hO]
 have HO := hide hO
 clear hO
 have HRV : Hid (regsV r = .agg #[.int .i64 (r 0), .int .i64 (r 1), .int .i64 (r 2), .int .i64 (r 3), .int .i64 (r 4), .int .i64 (r 5), .int .i64 (r 6), .int .i64 (r 7)]) := hide rfl
 rw [HRV.out]
 go_enter Tryz.func14, Tryz.ntmps14
 go_wp2_with fail
 rw [<- HRV.out]
 generalize hW : (w.alloc (.cells #[.int .i64 (r 0), .int .i64 (r 1), .int .i64 (r 2), .int .i64 (r 3), .int .i64 (r 4), .int .i64 (r 5), .int .i64 (r 6), .int .i64 (r 7)] 41)).alloc (.cells #[.int .i64 0, .int .i64 0, .int .i64 0, .int .i64 0] 38) = w1
 have hH : w1.heap[w.heap.size + 1]? = some (.cells #[.int .i64 0, .int .i64 0, .int .i64 0, .int .i64 0] 38 (0, 0)) := by
  rw [<- hW]
  have := heap_alloc_new (w.alloc (.cells #[.int .i64 (r 0), .int .i64 (r 1), .int .i64 (r 2), .int .i64 (r 3), .int .i64 (r 4), .int .i64 (r 5), .int .i64 (r 6), .int .i64 (r 7)] 41)) (.cells #[.int .i64 0, .int .i64 0, .int .i64 0, .int .i64 0] 38)
  simpa using this
 have hb1 : Below w.heap.size w w1 := by rw [<- hW]; exact ((belA _ _).alloc (by simp) _)
 have hs1 := HSL.out.bel hb1 HSL.out.1
 have hlt := lt_of_block hH
 have HH := hide hH
 have HB1 := hide hb1
 clear hW hH hb1 HSL
 refine (start_any l.length pb cap r f w1).mono ?_
 rintro e w2 hst
 obtain ⟨g, rfl, hg, hne, hlive⟩ := start_live hst hs1 hcan
 have HL := hide hlive
 have HAL := hide hN
 have HR : Hid (runO l r f = (runR l (fuelI f).toNat (startS r)).2) := hide rfl
 obtain ⟨F, hF⟩ : ∃ F, F = (fuelI f).toNat := ⟨_, rfl⟩
 have hF2 : F <= 10000 := by have := fuelI_bd f; omega
 rw [<- hF] at HL HR
 obtain ⟨res, hres⟩ : ∃ res, res = runR l F (startS r) := ⟨_, rfl⟩
 rw [<- hres] at HL HR
 clear hst hlive hN hs1 hF hres hcan
 rw [<- HO.out] at HR
 go_wp2_with fail
 go_loopg [] (F + 1) (fun k wr => RunI vf Can w1 wr g pb cap l F O k)
 case atStart => exact Or.inl ⟨F, _, res.1, rfl, by rw [HR.out]; exact HL.out⟩
 case round =>
  rcases hrel with ⟨k', s, vs, hk, hlive⟩ | ⟨hk, hov⟩
  · rcases hlive.ready hg with ⟨k2, hk2, hpc, hcall⟩ | ⟨_, hcall⟩
    · have HC := hide hcall
      clear hcall
      have HK := hide (And.intro hk hk2)
      clear hk hk2 hlive
      go_wp2_with fail
      refine HC.out.mono ?_
      rintro e w3 ⟨rfl, hl3, _⟩
      have hl3' := hl3
      rw [HK.out.2] at hl3'
      have HC2 := hide (hl3'.step hg hne HAL.out hF2 hpc)
      clear hl3 hl3' HC
      go_wp2_with fail
      refine HC2.out.mono ?_
      rintro e w4 ⟨rfl, hst, _⟩
      have HST := hide hst
      clear hst HC2
      go_wp2
      rcases HST.out with ⟨s', vs', _, hl'⟩ | ⟨_, hov⟩
      · go_roundg (k2 + 1)
        case measure => have := HK.out; omega
        case rel => exact Or.inl ⟨k2, s', vs', rfl, hl'⟩
      · go_roundg 0
        case measure => have := HK.out; omega
        case rel => exact Or.inr ⟨rfl, hov⟩
    · have HC := hide hcall
      clear hcall hlive hk
      go_wp2_with fail
      refine HC.out.mono ?_
      rintro e w3 ⟨rfl, hov, _⟩
      obtain ⟨c0, c1, c2, c3⟩ := hov.out
      obtain ⟨z0, z1, z2, z3, f0, f1, f2, f3⟩ := four_of ((hov.bel.block _ hlt).trans HH.out)
      have HBO := hide (HB1.out.trans (hov.bel.mono (HB1.out.size)))
      clear hov HC HL
      go_wp2
      exact bodyPost_ret (v := O.val) (by simp [results, Tryz.results14, go_sem, z0, z1, z2, z3, O4.val]) rfl ⟨rfl, below_set4 HBO.out (by omega) _ _ _ _ _ _ _ _⟩
  · have HC := hide hov.ready
    clear hov hk
    go_wp2_with fail
    refine HC.out.mono ?_
    rintro e w3 ⟨rfl, hov, _⟩
    obtain ⟨c0, c1, c2, c3⟩ := hov.out
    obtain ⟨z0, z1, z2, z3, f0, f1, f2, f3⟩ := four_of ((hov.bel.block _ hlt).trans HH.out)
    have HBO := hide (HB1.out.trans (hov.bel.mono (HB1.out.size)))
    clear hov HC HL
    go_wp2
    exact bodyPost_ret (v := O.val) (by simp [results, Tryz.results14, go_sem, z0, z1, z2, z3, O4.val]) rfl ⟨rfl, below_set4 HBO.out (by omega) _ _ _ _ _ _ _ _⟩
theorem b8_byte (b : UInt8) : b8 (b.toNat : Int) = b := by
 apply UInt8.toNat_inj.1
 have := b8_nat (b.toNat : Int)
 have := b.toNat_lt
 omega
theorem leNat_inj : ∀ (a b : List UInt8), a.length = b.length -> leNat a = leNat b -> a = b
 | [], [], _, _ => rfl
 | [], _ :: _, h, _ => by simp at h
 | _ :: _, [], h, _ => by simp at h
 | x :: r, y :: s, h, e => by
   simp only [leNat] at e
   have hx := x.toNat_lt
   have hy := y.toNat_lt
   have e1 : x = y := UInt8.toNat_inj.1 (by omega)
   rw [e1, leNat_inj r s (by simpa using h) (by omega)]
theorem encK_len (i : I5) (j : Nat) : (encK i j).length = j := by simp [encK]
theorem encR_len (i : I5) (j : Nat) : (encR i j).length = j := by simp [encR]
theorem encK_nat (i : I5) (j : Nat) (x : Nat) (hx : i.k % 18446744073709551616 = x) : leNat (encK i j) = x % 256 ^ j := by
 induction j with
 | zero => simp [encK, leNat, Nat.mod_one]
 | succ j ih =>
   rw [encK_succ, leNat_snoc, ih, encK_len, Nat.mod_pow_succ, hx]
   congr 2
   have h := b8_nat ((x : Int) / 2 ^ (8 * j))
   have e : ((x : Int) / 2 ^ (8 * j)) = ((x / 256 ^ j : Nat) : Int) := by
    have : ((2 : Int) ^ (8 * j)) = ((256 ^ j : Nat) : Int) := by
     rw [show (256 : Nat) = 2 ^ 8 by decide, <- Nat.pow_mul]; simp
    rw [this]; rfl
   rw [e] at h ⊢
   omega
theorem pow_le8 {j : Nat} (h : j <= 8) : 256 ^ j <= 18446744073709551616 := by
 have : j = 0 \/ j = 1 \/ j = 2 \/ j = 3 \/ j = 4 \/ j = 5 \/ j = 6 \/ j = 7 \/ j = 8 := by omega
 rcases this with rfl | rfl | rfl | rfl | rfl | rfl | rfl | rfl | rfl <;> decide
theorem wrap_mod (x : Nat) (h : x < 18446744073709551616) : wrap64 x % 18446744073709551616 = x := by unfold wrap64; omega
theorem wrap_back (k : Int) (h0 : -9223372036854775808 <= k) (h1 : k < 9223372036854775808) : wrap64 ((k % 18446744073709551616).toNat : Int) = k := by unfold wrap64; omega
theorem encK_back (i : I5) (bs : List UInt8) (h8 : bs.length <= 8) (hk : i.k = wrap64 (leNat bs)) : encK i bs.length = bs := by
 have hlt := leNat_lt bs
 have hp := pow_le8 h8
 apply leNat_inj _ _ (encK_len i _)
 rw [encK_nat i _ (leNat bs) (by rw [hk]; exact wrap_mod _ (by omega)), Nat.mod_eq_of_lt hlt]
theorem encR_back (i : I5) (l : List UInt8) (nr : Nat) (h3 : nr <= 3) (hl : 1 + nr <= l.length) (ha : i.a = regL l nr 0) (hb : i.b = regL l nr 1) (hc : i.c = regL l nr 2) : encR i nr = (l.drop 1).take nr := by
 have hg : ∀ j, j < nr -> b8 (regN i j) = l.getD (1 + j) 0 := by
  intro j hj
  have e : regN i j = regL l nr j := by
   unfold regN
   have : j = 0 \/ j = 1 \/ j = 2 := by omega
   rcases this with rfl | rfl | rfl
   · rw [if_pos rfl, ha]
   · rw [if_neg (by omega), if_pos rfl, hb]
   · rw [if_neg (by omega), if_neg (by omega), hc]
  rw [e, regL, if_pos hj, b8_byte]
 apply List.ext_getElem
 · rw [encR_len, List.length_take, List.length_drop]; omega
 · intro j h1 h2
   rw [encR_len] at h1
   simp only [encR, List.getElem_map, List.getElem_range, List.getElem_take, List.getElem_drop]
   rw [hg j h1, List.getD_eq_getElem?_getD, List.getElem?_eq_getElem (by omega)]; rfl
theorem readI_enc {l : List UInt8} {i : I5} {k : Nat} (h : readI l = some (i, k)) : encI i = l.take k := by
 unfold readI at h
 cases l with
 | nil => simp at h
 | cons b r =>
   simp only at h
   split at h
   · simp at h
   · split at h
     · simp at h
     · rename_i h12 hlen
       simp only [Option.some.injEq, Prod.mk.injEq] at h
       obtain ⟨hi, rfl⟩ := h
       have ho : i.o = b.toNat := by rw [<- hi]
       have en : (nregs i.o).toNat = nrN b.toNat := by rw [ho]; rfl
       have ek : (kbytes i.o).toNat = kbN b.toNat := by rw [ho]; rfl
       have hk8 := kbN_le b.toNat
       have hl : ((List.drop (1 + nrN b.toNat) (b :: r)).take (kbN b.toNat)).length = kbN b.toNat := by rw [List.length_take, List.length_drop]; omega
       have e1 := encR_back i (b :: r) (nrN b.toNat) (nrN_le _) (by omega) (by rw [<- hi]) (by rw [<- hi]) (by rw [<- hi])
       have e2 := encK_back i ((List.drop (1 + nrN b.toNat) (b :: r)).take (kbN b.toNat)) (by omega) (by rw [<- hi])
       rw [hl] at e2
       unfold encI
       rw [en, ek, e1, e2, ho, b8_byte]
       have e3 : [b] = (b :: r).take 1 := by simp
       rw [e3, <- List.take_add, <- List.take_add]
theorem readN_enc : ∀ (n : Nat) (l : List UInt8) (p : List I5) (t : List UInt8), readN n l = some (p, t) -> p.length = n /\ p.flatMap encI ++ t = l
 | 0, l, p, t, h => by simp [readN] at h; obtain ⟨rfl, rfl⟩ := h; simp
 | n + 1, l, p, t, h => by
   simp only [readN] at h
   cases hr : readI l with
   | none => rw [hr] at h; simp at h
   | some x =>
     obtain ⟨i, k⟩ := x
     rw [hr] at h
     simp only at h
     cases hn : readN n (l.drop k) with
     | none => rw [hn] at h; simp at h
     | some y =>
       obtain ⟨q, t'⟩ := y
       rw [hn] at h
       simp only [Option.some.injEq, Prod.mk.injEq] at h
       obtain ⟨rfl, rfl⟩ := h
       obtain ⟨h1, h2⟩ := readN_enc n _ _ _ hn
       refine ⟨by simp [h1], ?_⟩
       rw [List.flatMap_cons, List.append_assoc, h2, readI_enc hr, List.take_append_drop]
theorem decP_enc {s : List UInt8} {p : List I5} (h : decP s = some p) : encP p = s /\ rightR p = (0, 0) := by
 unfold decP at h
 cases s with
 | nil => simp at h
 | cons b r =>
   simp only at h
   cases hn : readN b.toNat r with
   | none => rw [hn] at h; simp at h
   | some y =>
     obtain ⟨q, t⟩ := y
     rw [hn] at h
     simp only at h
     split at h
     · rename_i hc
       obtain ⟨hc1, rfl⟩ := hc
       simp only [Option.some.injEq] at h
       subst h
       obtain ⟨h1, h2⟩ := readN_enc _ _ _ _ hn
       refine ⟨?_, hc1⟩
       unfold encP
       rw [h1, b8_byte, <- h2]; simp
     · simp at h
theorem right_all {l : List I5} (h : rightR l = (0, 0)) : AllFit l := by
 unfold rightR at h
 by_cases hl : l.length = 0 \/ 64 < l.length
 · rw [if_pos hl] at h; simp at h
 · rw [if_neg hl] at h
   refine ⟨by omega, by omega, fun i hi => ?_⟩
   cases hb : badFrom l l.length with
   | some j => rw [hb] at h; simp at h
   | none =>
     unfold badFrom at hb
     rw [List.findIdx?_eq_none_iff] at hb
     have := hb l[i] (List.getElem_mem hi)
     simpa using this
def runOE (l : List I5) (r : Nat -> Int) (f : Int) : O4 := if rightR l = (0, 0) then runO l r f else O4.zero
def runVE (l : List I5) (r : Nat -> Int) (f : Int) : List V9 := if rightR l = (0, 0) then runV l r f else []
theorem wp_regD {P : Program} {id : Nat} {l : List Oper} {Q : Exit -> Act -> World -> Prop} {a : Act} {w : World} {M : List Nat} {w0 : World} {r0 : Nat × Array Value × TypeId} {L : RowL} (hk : Kn M w0 w (r0 :: L)) (t : OT) (F : Nat -> Bool) (hm : P.follows .mixedOrders = true) (hn : t.size <= l.length) (hsel : Region.noSelect l.toArray = true)
 (hv : okT l.toArray F t (Array.replicate l.length false) = true) (h : ∀ w1, Kn M w0 w1 (r0 :: L) -> wpT P l Q F (fun wx => Kn M w0 wx L) t a w1) : (Code.region id l.toArray true).wp P Q a w := wp_regS hk _ t F hm hn hsel hv h
theorem build_out0 (w : World) : (Instr.build 38 [].toArray).run Tryz.prog w = .ok (.agg #[.int .i64 0, .int .i64 0, .int .i64 0, .int .i64 0]) w := run_build w _ _ _ (by kernel_rfl)
theorem post_c1r {P : Program} {fn : Func} {R : Ending -> World -> Prop} {a : Act} {w : World} {s b n s' : Nat} {ty t : TypeId} {A : Array Value} {v : Value} (hf : fn.results = #[.cell s ty, .tmp s']) (hs : a.tmps.getD s undef = .pointer (some ⟨b, 0, none⟩)) (hat : At w b A t) (hT : RowT P ty n) (hn : A.size = n)
 (hs' : a.tmps.getD s' undef = v) (hd : a.defers = []) (hR : R (.returned (.tuple #[.agg A, v])) w) : bodyPost P fn R .ret a w := by
 refine bodyPost_ret (v := .tuple #[.agg A, v]) ?_ hd hR
 rw [Array.getD_eq_getD_getElem?] at hs hs'
 simp [results, hf, hs, hs', asAddr, run_resA hat hT hn]
theorem progOf_at (l : List I5) (v : Value) (w : World) (h : Slc w v l) (hl : 0 < l.length) (hl2 : l.length <= 64) : Calls Tryz.prog 11 #[v] w fun e w' => ∃ pb cap, e = .returned (.slice (some ⟨pb, 0, none⟩) l.length cap) /\ ProgAt w' pb iVal l /\ w.heap.size <= pb /\ Below w.heap.size w w' := by
 refine (progOf_any l v w h hl hl2).mono ?_
 rintro e w' ⟨pv, rfl, ho, hb⟩
 obtain ⟨pb, cap, rfl, h1, h2⟩ := own_shape ho hl
 exact ⟨pb, cap, rfl, ⟨h2, fun pc hpc => ho.cell pc hpc⟩, h1, hb⟩
theorem Run_any (l : List I5) (v : Value) (r : Nat -> Int) (f : Int) (w : World) (hs : Shapes w) (h : Slc w v l) :
 Calls Tryz.prog 43 #[v, regsV r, .int .i64 f] w fun e w' => e = .returned (.tuple #[(runOE l r f).val, .int .i64 (rightR l).1]) /\ Below w.heap.size w w' := by
 have hk := Kn.nil [] w
 have HS := hide hs
 have HV := hide h
 clear hs h
 have hbo := build_out0
 rcases rightR_or l with hr | hr
 · have e1 : runOE l r f = runO l r f := by unfold runOE; rw [if_pos hr]
   rw [e1]
   have HAF := hide (right_all hr)
   have e2 : (rightR l).1 = 0 := by rw [hr]
   rw [e2]
   clear e1
   unfold regsV O4.val
   go_enter Tryz.func43, Tryz.ntmps43
   go_wp2_with (first | (go_at_call 24; refine (codeRight_any l v _ (HS.out.below hk.mod.below HS.out.1) (HV.out.below hk.mod.below (Nat.le_refl _))).mono ?_; rintro e w1 ⟨rfl, hb⟩; replace hk := hk.call hb; clear hb; rw [hr]) | ((with_reducible apply gL); (first | refine wS hk ?_ | (refine wN hk ?_; clear hk; intro w1 hk)); simp only [pw]))
   refine wp_regD hk (.op 0 (.op 2 (.op 3 (.op 1 (.op 4 (.op 5 (.op 6 .nil))))))) (fun i => decide (i < 5)) mixT (by decide) (by kernel_rfl) (by kernel_rfl) ?_
   clear hk
   intro w1 hk
   (repeat (refine sS hk.drop ?_; simp only [pw]))
   (refine sCall ?_; intro K hK; go_step; refine (progOf_at l v _ (HV.out.below hk.mod.below (Nat.le_refl _)) HAF.out.1 HAF.out.2.1).mono ?_; rintro e w1 ⟨pb, cap, rfl, hp, hpb, hb⟩; replace hk := hk.call hb; clear hb; refine hK _ _ (fun _ => hk.drop) ?_; clear hK K)
   (refine sCall ?_; intro K hK; go_step; refine (runM_any l (runner_plain HAF.out) pb cap r trivial f _ hp).mono ?_; rintro e w1 ⟨rfl, hb⟩; replace hk := hk.call hb; clear hb; refine hK _ _ (fun _ => hk.drop) ?_; clear hK K)
   unfold O4.val
   (refine sStore hk ?_; clear hk; intro w1 hk; refine ⟨fun h => absurd h (by decide), ?_⟩; simp only [pw])
   (repeat (refine sS hk.drop ?_; simp only [pw]))
   refine tNil ?_
   go_wp2_with ((with_reducible apply gL); (first | refine wS hk ?_ | (refine wN hk ?_; clear hk; intro w1 hk)); simp only [pw])
   exact post_c1r rfl (by rfl) (hk.at mm) (rowT_of (by rfl)) (by rfl) (by rfl) rfl ⟨rfl, hk.mod.below⟩
 · have e1 : runOE l r f = O4.zero := by unfold runOE; rw [if_neg (by intro h; rw [h] at hr; simp at hr)]
   rw [e1, hr]
   clear e1
   unfold regsV O4.val O4.zero
   go_enter Tryz.func43, Tryz.ntmps43
   go_wp2_with (first | (first | (go_at_call 24; refine (codeRight_any l v _ (HS.out.below hk.mod.below HS.out.1) (HV.out.below hk.mod.below (Nat.le_refl _))).mono ?_; rintro e w1 ⟨rfl, hb⟩; replace hk := hk.call hb; clear hb; rw [hr]) | ((with_reducible show wpList _ _ _ (⟨_, .build _ _, _, _, _, _⟩ :: _) _ _); refine wl1 (by rfl) (oBuild (by rfl) (hbo _) ?_); simp only [pw])) | ((with_reducible apply gL); (first | refine wS hk ?_ | (refine wN hk ?_; clear hk; intro w1 hk)); simp only [pw]))
   exact post_c1r rfl (by rfl) (hk.at mm) (rowT_of (by rfl)) (by rfl) (by rfl) rfl ⟨rfl, hk.mod.below⟩
def areR (r : Nat -> Int) (s : St) : Bool := (List.range 8).all fun j => hasR (s j) (r j)
theorem areR_no {r : Nat -> Int} {s : St} {n : Nat} (hn : n < 8) (h : hasR (s n) (r n) = false) : areR r s = false := by
 rw [Bool.eq_false_iff]
 intro h2
 have := List.all_eq_true.1 h2 n (List.mem_range.2 hn)
 rw [h] at this
 cases this
theorem areR_yes {r : Nat -> Int} {s : St} (h : ∀ n, n < 8 -> hasR (s n) (r n) = true) : areR r s = true := List.all_eq_true.2 fun n hn => h n (List.mem_range.1 hn)
theorem areIn_any (r : Nat -> Int) (s : St) (w : World) : Calls Tryz.prog 13 #[.agg (rgsC r), .agg (stC s)] w fun e w' => e = .returned (.bool (areR r s)) /\ Below w.heap.size w w' := by
 have hk := Kn.nil [] w
 have HI := hide (idx_st s)
 go_enter Tryz.func13, Tryz.ntmps13
 go_wp2_with (first | ((with_reducible show wpList _ _ _ (⟨some 2, _, _, _, _, _⟩ :: _) _ _); refine wBox hk ?_; clear hk; intro wa hk; simp only [pw]) | ((with_reducible apply gL); (first | refine wS hk ?_ | (refine wN hk ?_; clear hk; intro w1 hk)); simp only [pw]))
 go_loopw [8] (fun j wr => ∃ n : Nat, n <= 8 /\ j = .int .i64 n /\ (∀ i, i < n -> hasR (s i) (r i) = true) /\ Kn [] w wr [(wa.heap.size, stC s, 29), (w.heap.size, rgsC r, 41)]) (fun j _ => 8 - (intOf j).toNat)
 case atStart => exact ⟨0, by omega, rfl, fun i hi => by omega, hk⟩
 case round =>
  clear hk
  obtain ⟨n, hn, rfl, hall, hk⟩ := hrel
  have HA := hide hall
  clear hall
  by_cases hlt : n < 8
  · have hx : ∀ w, (Instr.index 29 (.agg (stC s)) (.int .i64 n)).run Tryz.prog w = .ok (.agg (rgC (s n))) w := HI.out n hlt
    cases hh : hasR (s n) (r n) with
    | false =>
      have HE : Hid (areR r s = false) := hide (areR_no hlt hh)
      have HH := hide hh
      clear hh
      go_wp2_with ((with_reducible apply gL); (first | refine wS hk ?_ | (refine wN hk ?_; clear hk; intro w1 hk)); simp only [pw])
      (refine wp_regK hk (.op 0 (.op 1 (.op 2 (.op 3 (.op 4 (.op 5 .nil)))))) (fun i => decide (i < 6)) mixT (by decide) (by kernel_rfl) (by kernel_rfl) ?_; clear hk; intro w1 hk)
      (repeat (refine sV hk ?_; simp only [pw]))
      (refine sCall ?_; intro K hK; go_step; go_at_call 28; refine (has_c _ _ _).mono ?_; rintro e w1 ⟨rfl, hb⟩; replace hk := hk.call hb; clear hb; refine hK _ _ (fun _ => kH hk) ?_; clear hK K)
      rw [HH.out]
      (repeat (refine sV hk ?_; simp only [pw]))
      refine tNil ?_
      go_wp2_with ((with_reducible apply gL); (first | refine wS hk ?_ | (refine wN hk ?_; clear hk; intro w1 hk)); simp only [pw])
      go_ret
      exact ⟨ret_bool HE.out.symm, hk.mod.below⟩
    | true =>
      have HH := hide hh
      clear hh
      go_wp2_with ((with_reducible apply gL); (first | refine wS hk ?_ | (refine wN hk ?_; clear hk; intro w1 hk)); simp only [pw])
      (refine wp_regK hk (.op 0 (.op 1 (.op 2 (.op 3 (.op 4 (.op 5 .nil)))))) (fun i => decide (i < 6)) mixT (by decide) (by kernel_rfl) (by kernel_rfl) ?_; clear hk; intro w1 hk)
      (repeat (refine sV hk ?_; simp only [pw]))
      (refine sCall ?_; intro K hK; go_step; go_at_call 28; refine (has_c _ _ _).mono ?_; rintro e w1 ⟨rfl, hb⟩; replace hk := hk.call hb; clear hb; refine hK _ _ (fun _ => kH hk) ?_; clear hK K)
      rw [HH.out]
      (repeat (refine sV hk ?_; simp only [pw]))
      refine tNil ?_
      go_wp2_with ((with_reducible apply gL); (first | refine wS hk ?_ | (refine wN hk ?_; clear hk; intro w1 hk)); simp only [pw])
      go_roundw
      case rel => exact ⟨n + 1, by omega, by go_num, fun i hi => by rcases Nat.lt_succ_iff_lt_or_eq.1 hi with h | h; exact HA.out i h; subst h; exact HH.out, hk.drop⟩
      case measure => simp [intOf]; omega
  · have HE : Hid (areR r s = true) := hide (areR_yes fun i hi => HA.out i (by omega))
    go_wp2_with ((with_reducible apply gL); (first | refine wS hk ?_ | (refine wN hk ?_; clear hk; intro w1 hk)); simp only [pw])
    go_ret
    exact ⟨ret_bool HE.out.symm, hk.mod.below⟩
def thC (b c n : Nat) (s : St) : Array Value := #[.slice (some ⟨b, 0, none⟩) n c, .int .i64 (s 0).lo, .int .i64 (s 0).hi, .int .i64 (s 1).lo, .int .i64 (s 1).hi, .int .i64 (s 2).lo, .int .i64 (s 2).hi, .int .i64 (s 3).lo, .int .i64 (s 3).hi, .int .i64 (s 4).lo, .int .i64 (s 4).hi, .int .i64 (s 5).lo, .int .i64 (s 5).hi, .int .i64 (s 6).lo, .int .i64 (s 6).hi, .int .i64 (s 7).lo, .int .i64 (s 7).hi]
theorem ex_th (b c n : Nat) (s : St) : (thC b c n s).extract 1 (1 + 16) = stC s := by kernel_rfl
theorem build_th (b c n : Nat) (s : St) (w : World) : (Instr.build 62 [(0, .slice (some ⟨b, 0, none⟩) n c), (1, .agg (stC s))].toArray).run Tryz.prog w = .ok (.agg (thC b c n s)) w := run_build w _ _ _ (by kernel_rfl)
structure ThreadAt (w : World) (t : Nat) (l : List I5) (e : St) (base : Nat) : Prop where
 ex : ∃ pb cap, At w t (thC pb cap l.length e) 62 /\ ProgAt w pb sVal l /\ base <= pb /\ pb ≠ t /\ ∃ A, At w pb A 74
 low : base <= t
theorem compile_no (l : List I5) (e : St) (cl : List C2) (h64 : In64 l e cl) (hcl : cl.length < 4000000000000) (v cv : Value) (w : World) (hs : Shapes w) (h : Slc w v l) (hc : SlcC w cv cl) (hne : (scheckR l e cl).1 ≠ 0) :
 Calls Tryz.prog 6 #[v, .agg (stC e), cv] w fun r w' => r = .returned (.tuple #[.pointer none, .int .i64 (scheckR l e cl).1, .int .i64 (scheckR l e cl).2]) /\ Below w.heap.size w w' := by
 have hk := Kn.nil [] w
 have HS := hide hs
 have HV := hide h
 have HC := hide hc
 have H64 := hide h64
 obtain ⟨a, cap, rfl⟩ := h.len
 obtain ⟨PE, PN, hPS⟩ : ∃ PE PN, scheckR l e cl = (PE, PN) := ⟨_, _, rfl⟩
 rw [hPS] at hne ⊢
 have HPS := hide hPS
 have hn2 : (PE == 0) = false := by rw [beq_eq_false_iff_ne]; exact hne
 have hn3 : (PE != 0) = true := by rw [bne_iff_ne]; exact hne
 clear hs h hc h64 hPS
 go_enter Tryz.func6, Tryz.ntmps6
 go_wp2_with (first | (go_at_call 10; refine (SCheck_any l e cl H64.out hcl _ cv _ (HS.out.below hk.mod.below HS.out.1) (HV.out.below hk.mod.below (Nat.le_refl _)) (HC.out.below hk.mod.below (Nat.le_refl _))).mono ?_; rintro x w1 ⟨rfl, hb⟩; replace hk := hk.call hb; clear hb; rw [HPS.out]) | ((with_reducible apply gL); (first | refine wS hk ?_ | (refine wN hk ?_; clear hk; intro w1 hk)); simp only [pw]))
 exact post_3 rfl rfl rfl rfl rfl ⟨rfl, hk.mod.below⟩
theorem own_progS {w : World} {base : Nat} {v : Value} {l : List I5} (h : OwnS w base v l) (hl : 0 < l.length) : ∃ pb cap A, v = .slice (some ⟨pb, 0, none⟩) l.length cap /\ At w pb A 74 /\ (∀ i, i < l.length -> A[i]? = some (sVal (insAt l i))) /\ base <= pb := by
 rcases h.2 with ⟨_, h2⟩ | ⟨g, cap, cur, rfl, h4, hh, _, _, _, h8⟩
 · omega
 · refine ⟨g, cap, cur, rfl, hh, fun i hi => ?_, h4⟩
   have h9 : (cur.toList.take (l.length * 1))[i]? = (l.map sVal)[i]? := by rw [h8]
   rw [List.getElem?_take, if_pos (by omega), List.getElem?_map, List.getElem?_eq_getElem hi, Array.getElem?_toList] at h9
   rw [h9, insAt_get hi]
   rfl
theorem progS_at {w : World} {pb : Nat} {A : Array Value} {t : TypeId} {l : List I5} (h : At w pb A t) (hA : ∀ i, i < l.length -> A[i]? = some (sVal (insAt l i))) : ProgAt w pb sVal l := ⟨lt_of_block h, fun i hi => by rw [cell_of_row _ _ _ _ _ _ h]; exact hA i hi⟩
theorem ProgAt.mod {w w' : World} {pb : Nat} {vf : I5 -> Value} {l : List I5} (h : ProgAt w pb vf l) (hm : Mod [] w w') : ProgAt w' pb vf l :=
 ⟨Nat.lt_of_lt_of_le h.1 hm.size, fun i hi => by rw [World.cell?_of_block (w := w) (a := ⟨pb, i, none⟩) (hm.block pb h.1 (by simp))]; exact h.2 i hi⟩
theorem compile_ok (l : List I5) (e : St) (cl : List C2) (h64 : In64 l e cl) (hcl : cl.length < 4000000000000) (v cv : Value) (w : World) (hs : Shapes w) (h : Slc w v l) (hc : SlcC w cv cl) (hck : scheckR l e cl = (0, 0)) (hl : AllFit l) :
 Calls Tryz.prog 6 #[v, .agg (stC e), cv] w fun r w' => ∃ t, r = .returned (.tuple #[.pointer (some ⟨t, 0, none⟩), .int .i64 0, .int .i64 0]) /\ ThreadAt w' t l e w.heap.size /\ Below w.heap.size w w' := by
 have hk := Kn.nil [] w
 have HS := hide hs
 have HV := hide h
 have HC := hide hc
 have H64 := hide h64
 have HL := hide hl
 obtain ⟨a, cap, rfl⟩ := h.len
 have HPS := hide hck
 clear hs h hc h64 hck hl
 go_enter Tryz.func6, Tryz.ntmps6
 go_wp2_with (first | (go_at_call 10; refine (SCheck_any l e cl H64.out hcl _ cv _ (HS.out.below hk.mod.below HS.out.1) (HV.out.below hk.mod.below (Nat.le_refl _)) (HC.out.below hk.mod.below (Nat.le_refl _))).mono ?_; rintro x w1 ⟨rfl, hb⟩; replace hk := hk.call hb; clear hb; rw [HPS.out]) | ((with_reducible apply gL); (first | refine wS hk ?_ | (refine wN hk ?_; clear hk; intro w1 hk)); simp only [pw]))
 (refine wp_regK hk (.op 0 (.op 3 (.op 1 (.op 2 (.op 4 (.op 5 (.op 6 (.op 7 (.op 8 .nil))))))))) (fun i => decide (i < 6)) mixT (by decide) (by kernel_rfl) (by kernel_rfl) ?_; clear hk; intro w1 hk)
 refine sMove hk ?_; simp only [pw]
 refine sLoadR hk ?_; simp only [pw]
 refine sCall ?_; intro K hK; go_step; go_at_call 11
 refine (progOf_c l _ _ (HV.out.below hk.mod.below (Nat.le_refl _)) HL.out.1 HL.out.2.1).mono ?_
 rintro x w2 ⟨pb, pc, A, rfl, hat, hpr, hge, hb2⟩
 replace hk := hk.call hb2
 refine hK _ _ (fun _ => hk) ?_
 clear hK K hb2
 refine sCall ?_; intro K hK; go_step; go_at_call 12
 refine (sure_any l pb pc w2 hat.lt HL.out.2.1 (hpr.at hat)).mono ?_
 rintro x w3 ⟨sv, rfl, hown, hb3⟩
 have hz2 := hk.mod.size
 obtain ⟨qb, qc, B, rfl, hat3, hB, hqge⟩ := own_progS hown HL.out.1
 replace hk := hk.make hb3 hat3 hqge
 refine hK _ _ (fun _ => hk.drop) ?_
 clear hK K hb3 hown hat hpr hat3
 refine sBuild hk.drop ?_ (hb := fun wx => build_th _ _ _ _ wx); simp only [pw]
 refine tActK (by rfl) (by rfl) (by rfl) (fun K hK => oBox (A := thC qb qc l.length e) (by rfl) hk (fun w4 hk4 => hK _ _ (fun _ => hk4.drop.drop) ?_))
 simp only [pw]
 have HT : Hid (ThreadAt w4 w3.heap.size l e w.heap.size) := hide ⟨⟨qb, qc, hk4.at mm, progS_at (hk4.at mm) hB, by omega, (fun e => by have := lt_of_block (hk.at (A := B) mm); omega), _, hk4.at (A := B) mm⟩, hk.mod.size⟩
 have HM := hide hk4.mod
 refine sAssign hk4.drop.drop ?_; simp only [pw]
 refine vAssignI hk4.drop.drop ?_; simp only [pw]
 refine vAssignI hk4.drop.drop ?_; simp only [pw]
 refine tNil ?_
 replace hk := hk4
 clear hk4
 go_wp2_with ((with_reducible apply gL); (first | refine wS hk ?_ | (refine wN hk ?_; clear hk; intro w1 hk)); simp only [pw])
 exact post_3 rfl rfl rfl rfl rfl ⟨_, rfl, HT.out, HM.out.below⟩
theorem thread_no (t pb cap n : Nat) (e : St) (r : Nat -> Int) (f : Int) (w : World) (hT : At w t (thC pb cap n e) 62) (hr : areR r e = false) :
 Calls Tryz.prog 7 #[.pointer (some ⟨t, 0, none⟩), .agg (rgsC r), .int .i64 f] w fun x w' => x = .returned (.tuple #[.agg #[.int .i64 0, .int .i64 0, .int .i64 0, .int .i64 0], .int .i64 3]) /\ Below w.heap.size w w' := by
 have hk := Kn.nil [] w
 have HR := hide hr
 clear hr
 go_enter Tryz.func7, Tryz.ntmps7
 go_wp2_with ((with_reducible apply gL); (first | refine wS hk ?_ | (refine wN hk ?_; clear hk; intro w1 hk)); simp only [pw])
 (refine wp_regK hk (.op 0 (.op 1 (.op 2 (.op 3 (.op 4 (.op 5 (.op 6 .nil))))))) (fun i => decide (i < 7)) mixT (by decide) (by kernel_rfl) (by kernel_rfl) ?_; clear hk; intro w1 hk)
 refine sLoadR hk ?_; simp only [pw]
 refine sMove hk ?_; simp only [pw]
 refine sNil hk ?_; simp only [pw]
 refine sField0 hk ?_; simp only [pw]
 refine sOldR hk ?_ (hc := ex_th _ _ _ _); simp only [pw]
 (refine sCall ?_; intro K hK; go_step; go_at_call 13; refine (areIn_any _ _ _).mono ?_; rintro e w1 ⟨rfl, hb⟩; replace hk := hk.call hb; clear hb; refine hK _ _ (fun _ => kH hk) ?_; clear hK K)
 rw [HR.out]
 (repeat (refine sV hk ?_; simp only [pw]))
 refine tNil ?_
 go_wp2_with (first | (refine wBuild hk ?_ (hb := build_out0 _); simp only [pw]) | ((with_reducible apply gL); (first | refine wS hk ?_ | (refine wN hk ?_; clear hk; intro w1 hk)); simp only [pw]))
 exact post_c1r rfl (by rfl) (hk.at mm) (rowT_of (by rfl)) (by rfl) (by rfl) rfl ⟨rfl, hk.mod.below⟩
theorem thread_ok (t pb cap : Nat) (l : List I5) (hl : AllFit l) (e : St) (cl : Nat -> Option St) (ht : Taken l cl e) (r : Nat -> Int) (f : Int) (w : World) (hT : At w t (thC pb cap l.length e) 62) (hp : ProgAt w pb sVal l) (hr : areR r e = true) (hin : inS r e) :
 Calls Tryz.prog 7 #[.pointer (some ⟨t, 0, none⟩), .agg (rgsC r), .int .i64 f] w fun x w' => x = .returned (.tuple #[(runO l r f).val, .int .i64 0]) /\ Below w.heap.size w w' := by
 have hk := Kn.nil [] w
 have HR := hide hr
 have HRUN : Hid (∀ w1, Mod [] w w1 -> Calls Tryz.prog 14 #[.slice (some ⟨pb, 0, none⟩) l.length cap, .agg (rgsC r), .int .i64 f] w1 fun x w' => x = .returned (runO l r f).val /\ Below w1.heap.size w1 w') := hide fun w1 hm => runM_any l (runner_taken hl ht) pb cap r (can_start ht hin) f w1 (hp.mod hm)
 obtain ⟨O, hO⟩ : ∃ O, runO l r f = O := ⟨_, rfl⟩
 rw [hO]
 have HO := hide hO
 clear hr hO hp ht hin
 go_enter Tryz.func7, Tryz.ntmps7
 go_wp2_with ((with_reducible apply gL); (first | refine wS hk ?_ | (refine wN hk ?_; clear hk; intro w1 hk)); simp only [pw])
 (refine wp_regK hk (.op 0 (.op 1 (.op 2 (.op 3 (.op 4 (.op 5 (.op 6 .nil))))))) (fun i => decide (i < 7)) mixT (by decide) (by kernel_rfl) (by kernel_rfl) ?_; clear hk; intro w1 hk)
 refine sLoadR hk ?_; simp only [pw]
 refine sMove hk ?_; simp only [pw]
 refine sNil hk ?_; simp only [pw]
 refine sField0 hk ?_; simp only [pw]
 refine sOldR hk ?_ (hc := ex_th _ _ _ _); simp only [pw]
 (refine sCall ?_; intro K hK; go_step; go_at_call 13; refine (areIn_any _ _ _).mono ?_; rintro e w1 ⟨rfl, hb⟩; replace hk := hk.call hb; clear hb; refine hK _ _ (fun _ => kH hk) ?_; clear hK K)
 rw [HR.out]
 (repeat (refine sV hk ?_; simp only [pw]))
 refine tNil ?_
 go_wp2_with ((with_reducible apply gL); (first | refine wS hk ?_ | (refine wN hk ?_; clear hk; intro w1 hk)); simp only [pw])
 refine wp_regD hk (.op 0 (.op 1 (.op 2 (.op 3 (.op 4 (.op 5 (.op 6 (.op 7 (.op 8 .nil))))))))) (fun i => decide (i < 9)) mixT (by decide) (by kernel_rfl) (by kernel_rfl) ?_; clear hk; intro w1 hk
 refine sMove hk.drop ?_; simp only [pw]
 refine sNil hk.drop ?_; simp only [pw]
 refine sFieldZ hk.drop ?_; simp only [pw]
 refine sOld1 hk.drop ?_ (v := .slice (some ⟨pb, 0, none⟩) l.length cap) (hv := rfl); simp only [pw]
 refine sLoadR hk.drop ?_; simp only [pw]
 refine vMoveI hk.drop ?_; simp only [pw]
 refine sCall ?_; intro K hK; go_step; go_at_call 14
 refine (HRUN.out _ hk.mod).mono ?_
 rintro x w2 ⟨rfl, hb⟩
 replace hk := hk.call hb
 rw [HO.out]
 refine hK _ _ (fun _ => hk.drop) ?_
 clear hK K hb
 unfold O4.val
 (refine sStore hk ?_; clear hk; intro w1 hk; refine ⟨fun _ => kH hk, ?_⟩; simp only [pw])
 refine vAssignI hk.drop ?_; simp only [pw]
 refine tNil ?_
 go_wp2_with ((with_reducible apply gL); (first | refine wS hk ?_ | (refine wN hk ?_; clear hk; intro w1 hk)); simp only [pw])
 exact post_c1r rfl (by rfl) (hk.at mm) (rowT_of (by rfl)) (by rfl) (by rfl) rfl ⟨rfl, hk.mod.below⟩
theorem pass_zero_of {p : List I5} {cl : Nat -> Option St} : ∀ {k n : Nat} {come : Option St}, (passC p cl k n come).1 = 0 -> passC p cl k n come = (0, 0)
 | 0, n, come, h => by
   unfold passC at h ⊢
   cases hc : come.isSome with
   | true => rw [hc] at h; cases h
   | false => rfl
 | k + 1, n, come, h => by
   unfold passC at h ⊢
   by_cases h1 : (stepC p cl n come).1 ≠ 0
   · rw [if_pos h1] at h; exact absurd h h1
   · rw [if_neg h1] at h ⊢; exact pass_zero_of h
theorem AllFit.taken {l : List I5} (hl : AllFit l) {e : St} {cl : List C2} (h64 : In64 l e cl) (h : (checkR l e cl).1 = 0) : Taken l (layR cl) e /\ isStR e = true /\ fwR (markB l) l.length cl (-1) 0 = 0 + cl.length := by
 have hf := hl.fitP h64.k
 unfold checkR at h
 by_cases he : isStR e = true
 · rw [if_pos he] at h
   by_cases hw : fwR (markB l) l.length cl (-1) 0 < cl.length
   · rw [if_pos hw] at h; cases h
   · rw [if_neg hw] at h
     have hfw : fwR (markB l) l.length cl (-1) 0 = 0 + cl.length := by have := (fwR_le (markB l) l.length cl (-1) 0).2; omega
     refine ⟨⟨hf.regs, hf.jump, ?_, fun n s hs => layU_ok (fun i hi => ⟨ok_of_st (fwR_good cl (-1) 0 (by omega) hfw _ (clAt_mem hi)).2, h64.c i hi⟩) cl.length (Nat.le_refl _) n s hs, ok_of_st he, h64.e⟩, he, hfw⟩
     exact pass_zero_of h
 · rw [if_neg he] at h; cases h
section
variable {l : List Oper} {Q : Exit -> Act -> World -> Prop} {F : Nat -> Bool} {S : World -> Prop} {i : Nat} {r : OT} {a : Act} {w : World} {d : Option Tmp} {x y : Operand} {t tt : TypeId} {pos : String} {aft : Array Edge} {g : Option (Nat × Bool)}
theorem uMoveS {p : Option Addr} {n c : Nat} (hk : S w) (h : wpT Tryz.prog l Q F S r (a.put d (.slice p n c)) w) (ho : nthO i l = some ⟨d, .move x, tt, pos, aft, g⟩ := by rfl) (hw : Region.wanted ⟨d, .move x, tt, pos, aft, g⟩ (yielded l.toArray a.tmps) = true := by rfl) (hx : a.eval x = .slice p n c := by rfl) : wpT Tryz.prog l Q F S (.op i r) a w := sMove hk (by rw [hx]; exact h) ho hw
theorem uAssignS {p : Option Addr} {n c : Nat} (hk : S w) (h : wpT Tryz.prog l Q F S r (a.put d (.slice p n c)) w) (ho : nthO i l = some ⟨d, .assign x, tt, pos, aft, g⟩ := by rfl) (hw : Region.wanted ⟨d, .assign x, tt, pos, aft, g⟩ (yielded l.toArray a.tmps) = true := by rfl) (hx : a.eval x = .slice p n c := by rfl) : wpT Tryz.prog l Q F S (.op i r) a w := sAssign hk (by rw [hx]; exact h) ho hw
theorem uMoveP {p : Option Addr} (hk : S w) (h : wpT Tryz.prog l Q F S r (a.put d (.pointer p)) w) (ho : nthO i l = some ⟨d, .move x, tt, pos, aft, g⟩ := by rfl) (hw : Region.wanted ⟨d, .move x, tt, pos, aft, g⟩ (yielded l.toArray a.tmps) = true := by rfl) (hx : a.eval x = .pointer p := by rfl) : wpT Tryz.prog l Q F S (.op i r) a w := sMove hk (by rw [hx]; exact h) ho hw
end
theorem sU {l : List Oper} {Q : Exit -> Act -> World -> Prop} {F : Nat -> Bool} {S : World -> Prop} {r : OT} {a : Act} {w : World} {G : Prop} (hk : S w) (h : G) (t : S w -> G -> wpT Tryz.prog l Q F S r a w := by intro hk h; first | exact vMoveI hk h | exact vMoveB hk h | exact uMoveS hk h | exact uMoveP hk h | exact vAssignI hk h | exact vAssignB hk h | exact uAssignS hk h | exact sMove hk h | exact sAssign hk h | exact sExtract hk h | exact sFieldZ hk h | exact sField0 hk h | exact sField hk h | exact sIndexA0 hk h | exact sIndexS0 hk h | exact sIndexA hk h | exact sIndexS hk h | exact sLoadR hk h | exact sLoad1 hk h | exact sOldR hk h | exact sOld1 hk h | exact sOldC hk h | exact sOldG hk h | exact sBuild hk h | exact sPickT hk h | exact sPickF hk h | exact sLss hk h | exact sLeq hk h | exact sGtr hk h | exact sGeq hk h | exact sEql hk h | exact sNot hk h | exact sSkip hk h | exact sSkipA hk h) : wpT Tryz.prog l Q F S r a w := t hk h
end Go.Proofs.YtamiichlbmllcabGreatDoor
