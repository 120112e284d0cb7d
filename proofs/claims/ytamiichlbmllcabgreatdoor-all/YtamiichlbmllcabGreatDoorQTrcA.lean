import Derived.Test.YtamiichlbmllcabGreatDoorQLawA
import Derived.Test.YtamiichlbmllcabGreatDoorQMath2
import Derived.Test.YtamiichlbmllcabGreatDoorQChF
import Derived.Test.YtamiichlbmllcabGreatDoorQLooksA
import Derived.Test.YtamiichlbmllcabGreatDoorQSetW
set_option maxRecDepth 100000
set_option maxHeartbeats 32000000
namespace Go.Proofs.YtamiichlbmllcabGreatDoor
open Go.RowKit
structure RSt (w wr : World) (base eb xb : Nat) (l : List UInt8) (bad : Bool) (A : Array Value) (vp : Value) (ps : List I5) : Prop where
 he : ∃ s : ByteArray, s.data.toList = l /\ EyeAt wr eb s bad
 hx : wr.heap[xb]? = some (.cells A 35 (0, 0))
 hp : OwnI wr base vp ps
 hb : Below base w wr
 hbase : base <= wr.heap.size
 hne : ∀ k, vp.ownBlock = some k -> k < xb
 hbe : base <= eb
 hbx : base <= xb
 hex : eb < xb
theorem own_ne_eye {w : World} {base eb : Nat} {v : Value} {ps : List I5} {s : ByteArray} {bad : Bool} (h : OwnI w base v ps) (he : EyeAt w eb s bad) : v.ownBlock ≠ some eb := by
 intro hx
 rcases h.2 with ⟨rfl, _⟩ | ⟨g, cap, cur, rfl, _, hh, _⟩
 · simp [Value.ownBlock] at hx
 · simp [Value.ownBlock] at hx
   subst hx
   unfold EyeAt at he
   rw [he] at hh
   simp at hh
theorem RSt.num {w wr w' : World} {base eb xb : Nat} {l l' : List UInt8} {bad bad' : Bool} {A : Array Value} {vp : Value} {ps : List I5} (h : RSt w wr base eb xb l bad A vp ps) (hg : wr.grownBy w' (some eb)) (he : ∃ s : ByteArray, s.data.toList = l' /\ EyeAt w' eb s bad') : RSt w w' base eb xb l' bad' A vp ps := by
 obtain ⟨s, _, hes⟩ := h.he
 have hex := h.hex
 exact ⟨he, (hg.block xb (lt_of_block h.hx) (by simp; omega)).trans h.hx, World.ownsRow.kept h.hp hg (Or.inr (own_ne_eye h.hp hes)), h.hb.grown hg h.hbase (fun k hk => by cases hk; exact h.hbe), Nat.le_trans h.hbase hg.size, h.hne, h.hbe, h.hbx, h.hex⟩
theorem RSt.set {w wr : World} {base eb xb : Nat} {l : List UInt8} {bad : Bool} {A : Array Value} {vp : Value} {ps : List I5} (h : RSt w wr base eb xb l bad A vp ps) (j : Nat) (u : Value) : RSt w (wr.setCell ⟨xb, j, none⟩ u) base eb xb l bad (A.setIfInBounds j u) vp ps := by
 obtain ⟨s, hs, hes⟩ := h.he
 have hex := h.hex
 have hg := grown_set wr xb j u
 refine ⟨⟨s, hs, ?_⟩, set_block h.hx, ownsRow_setCell_other h.hp (fun e => by have := h.hne _ e; simp at this) u, h.hb.grown hg h.hbase (fun k hk => by cases hk; exact h.hbx), Nat.le_trans h.hbase hg.size, h.hne, h.hbe, h.hbx, h.hex⟩
 unfold EyeAt at hes ⊢
 rw [hg.block eb (lt_of_block hes) (by simp; omega)]; exact hes
theorem RSt.cell {w wr : World} {base eb xb : Nat} {l : List UInt8} {bad : Bool} {A : Array Value} {vp : Value} {ps : List I5} (h : RSt w wr base eb xb l bad A vp ps) (j : Nat) : wr.cell? ⟨xb, j, none⟩ = A[j]? /\ wr.frozen? ⟨xb, j, none⟩ = false := by
 refine ⟨cell_of_row _ _ _ _ _ _ h.hx, ?_⟩
 simp [World.frozen?, h.hx]
def rd (st : List UInt8 × Bool) (nd : Bool) (size : Nat) : Int × (List UInt8 × Bool) := (eyeN st.1 nd size, (eyeRest st.1 nd size, eyeBad st.1 st.2 nd size))
def refI (st : List UInt8 × Bool) : I5 × (List UInt8 × Bool) :=
 let r0 := rd st true 1
 let r1 := rd r0.2 (decide (0 < refNr r0.1)) 1
 let r2 := rd r1.2 (decide (1 < refNr r0.1)) 1
 let r3 := rd r2.2 (decide (2 < refNr r0.1)) 1
 let r4 := rd r3.2 (decide (0 < refKb r0.1)) (refKb r0.1).toNat
 (⟨r0.1, r1.1, r2.1, r3.1, r4.1⟩, r4.2)
def refN : Nat -> List UInt8 × Bool -> List I5 × (List UInt8 × Bool)
 | 0, st => ([], st)
 | n + 1, st => if st.2 then ([], st) else ((refI st).1 :: (refN n (refI st).2).1, (refN n (refI st).2).2)
def aheadR (ps : List I5) (x : List I5 × (List UInt8 × Bool)) : List I5 × (List UInt8 × Bool) := (ps ++ x.1, x.2)
theorem refN_bad {n : Nat} {l : List UInt8} {ps : List I5} : aheadR ps (refN n (l, true)) = (ps, (l, true)) := by
 cases n <;> simp [refN, aheadR]
theorem refN_step {n : Nat} {l : List UInt8} {ps : List I5} : aheadR ps (refN (n + 1) (l, false)) = aheadR (ps ++ [(refI (l, false)).1]) (refN n (refI (l, false)).2) := by
 simp [refN, aheadR]
theorem eyeN_bd (l : List UInt8) (nd : Bool) : 0 <= eyeN l nd 1 /\ eyeN l nd 1 < 256 := by
 unfold eyeN
 split
 · have h1 := leNat_lt (l.take 1)
   have h2 : (l.take 1).length <= 1 := by rw [List.length_take]; omega
   have h3 : leNat (l.take 1) < 256 := by
    rcases Nat.le_one_iff_eq_zero_or_eq_one.1 h2 with e | e <;> rw [e] at h1 <;> simp at h1 <;> omega
   unfold wrap64; omega
 · omega
theorem refKb_bd (o : Int) : 0 <= refKb o /\ refKb o <= 8 := by
 unfold refKb; split
 · have := kb_three o; omega
 · omega
theorem wrap_inD (x : Int) : I64 (wrap64 x) := by unfold I64 wrap64; omega
theorem eyeN_in (l : List UInt8) (nd : Bool) (n : Nat) : I64 (eyeN l nd n) := by
 unfold eyeN; split
 · exact wrap_inD _
 · unfold I64; omega
theorem refN_in64 : ∀ (n : Nat) (st : List UInt8 × Bool), ∀ i ∈ (refN n st).1, I64 i.k
 | 0, _, i, hi => by simp [refN] at hi
 | n + 1, st, i, hi => by
   simp only [refN] at hi
   split at hi
   · simp at hi
   · simp only [List.mem_cons] at hi
     rcases hi with rfl | hi
     · exact eyeN_in _ _ _
     · exact refN_in64 n _ i hi
theorem readI_in64 {l : List UInt8} {i : I5} {k : Nat} (h : readI l = some (i, k)) : I64 i.k := by
 unfold readI at h
 cases l with
 | nil => simp at h
 | cons b r =>
   simp only at h
   split at h
   · simp at h
   · split at h
     · simp at h
     · simp only [Option.some.injEq, Prod.mk.injEq] at h
       rw [<- h.1]; exact wrap_inD _
theorem readN_in64 : ∀ (n : Nat) (l : List UInt8) (p : List I5) (t : List UInt8), readN n l = some (p, t) -> ∀ i ∈ p, I64 i.k
 | 0, l, p, t, h, i, hi => by simp [readN] at h; rw [h.1] at hi; simp at hi
 | n + 1, l, p, t, h, i, hi => by
   simp only [readN] at h
   cases hr : readI l with
   | none => rw [hr] at h; simp at h
   | some x =>
     obtain ⟨y, k⟩ := x
     rw [hr] at h
     simp only at h
     cases hn : readN n (l.drop k) with
     | none => rw [hn] at h; simp at h
     | some z =>
       obtain ⟨q, t'⟩ := z
       rw [hn] at h
       simp only [Option.some.injEq, Prod.mk.injEq] at h
       rw [<- h.1] at hi
       rcases List.mem_cons.1 hi with rfl | hi
       · exact readI_in64 hr
       · exact readN_in64 n _ _ _ hn i hi
theorem decP_in64 {l : List UInt8} {p : List I5} (h : decP l = some p) : ∀ i ∈ p, I64 i.k := by
 unfold decP at h
 cases l with
 | nil => simp at h
 | cons b r =>
   simp only at h
   cases hn : readN b.toNat r with
   | none => rw [hn] at h; simp at h
   | some y =>
     obtain ⟨q, t⟩ := y
     rw [hn] at h
     simp only at h
     split at h
     · simp only [Option.some.injEq] at h
       rw [<- h]; exact readN_in64 _ _ _ _ hn
     · simp at h
theorem rd_byte (b : UInt8) (t : List UInt8) : rd (b :: t, false) true 1 = ((b.toNat : Int), (t, false)) := by
 unfold rd eyeN eyeRest eyeBad
 simp [leNat]
 have := b.toNat_lt
 unfold wrap64; omega
theorem rd_not (st : List UInt8 × Bool) (n : Nat) : rd st false n = (0, st) := by simp [rd, eyeN, eyeRest, eyeBad]
theorem rd_bytes (bs t : List UInt8) : rd (bs ++ t, false) true bs.length = (wrap64 (leNat bs), (t, false)) := by
 simp [rd, eyeN, eyeRest, eyeBad]
theorem encK_val (i : I5) (n : Int) (hn : n <= 64) (h : i.fits n = true) (hk : I64 i.k) : wrap64 (leNat (encK i (kbytes i.o).toNat)) = i.k := by
 obtain ⟨h1, h2, h3, h4, h5, h6⟩ := fits_parts h
 have hkb := kb_three i.o
 have hx : i.k % 18446744073709551616 = ((i.k % 18446744073709551616).toNat : Int) := by omega
 rw [encK_nat i _ (i.k % 18446744073709551616).toNat hx]
 obtain ⟨k1, k2⟩ := hk
 unfold kOk at h6
 rcases hkb with hb8 | hb1 | hb0
 · rw [hb8, Nat.mod_eq_of_lt (by show _ < 256 ^ 8; omega)]
   exact wrap_back _ k1 k2
 · rw [hb1] at h6 ⊢
   simp at h6
   show wrap64 ((_ % 256 ^ 1 : Nat) : Int) = _
   unfold wrap64; omega
 · rw [hb0] at h6 ⊢
   simp at h6
   show wrap64 ((_ % 256 ^ 0 : Nat) : Int) = _
   rw [h6, Nat.pow_zero, Nat.mod_one]; unfold wrap64; omega
theorem rd_reg (nr j : Nat) (r : Int) (t : List UInt8) (h : regOk nr j r = true) : rd ((if j < nr then [b8 r] else []) ++ t, false) (decide ((j : Int) < (nr : Int))) 1 = (r, (t, false)) := by
 have hb := reg_back h
 by_cases hj : j < nr
 · rw [if_pos hj] at hb ⊢
   rw [show decide ((j : Int) < (nr : Int)) = true by simp; omega, List.singleton_append, rd_byte, hb]
 · rw [if_neg hj] at hb ⊢
   rw [show decide ((j : Int) < (nr : Int)) = false by simp; omega, List.nil_append, rd_not, hb]
theorem encR_split (i : I5) (nr : Nat) (h : nr <= 3) : encR i nr = (if 0 < nr then [b8 i.a] else []) ++ ((if 1 < nr then [b8 i.b] else []) ++ (if 2 < nr then [b8 i.c] else [])) := by
 have : nr = 0 \/ nr = 1 \/ nr = 2 \/ nr = 3 := by omega
 rcases this with rfl | rfl | rfl | rfl <;> simp [encR, List.range_succ, regN]
theorem refI_of (i : I5) (n : Int) (e : List UInt8) (hn : n <= 64) (h : i.fits n = true) (hk : I64 i.k) : refI (encI i ++ e, false) = (i, (e, false)) := by
 obtain ⟨h1, h2, h3, h4, h5, h6⟩ := fits_parts h
 have hb : ((b8 i.o).toNat : Int) = i.o := by rw [b8_nat]; omega
 have hr := nregs_bd i.o
 have hkb := kb_three i.o
 have hv := encK_val i n hn h hk
 have hnr : nregs i.o = (((nregs i.o).toNat : Nat) : Int) := by omega
 have en : refNr i.o = nregs i.o := by unfold refNr; rw [if_pos ⟨h1, h2⟩]
 have ek : refKb i.o = kbytes i.o := by unfold refKb; rw [if_pos ⟨h1, h2⟩]
 unfold encI
 rw [encR_split i _ (by omega)]
 simp only [List.append_assoc]
 rw [List.singleton_append]
 unfold refI
 simp only
 rw [rd_byte, hb, en, ek]
 simp only
 rw [hnr] at h3 h4 h5
 rw [hnr]
 have e0 := rd_reg (nregs i.o).toNat 0 i.a ((if 1 < (nregs i.o).toNat then [b8 i.b] else []) ++ ((if 2 < (nregs i.o).toNat then [b8 i.c] else []) ++ (encK i (kbytes i.o).toNat ++ e))) h3
 have e1 := rd_reg (nregs i.o).toNat 1 i.b ((if 2 < (nregs i.o).toNat then [b8 i.c] else []) ++ (encK i (kbytes i.o).toNat ++ e)) h4
 have e2 := rd_reg (nregs i.o).toNat 2 i.c (encK i (kbytes i.o).toNat ++ e) h5
 simp only [Int.toNat_natCast, Int.cast_ofNat_Int] at e0 e1 e2 ⊢
 rw [e0]
 simp only
 rw [e1]
 simp only
 rw [e2]
 simp only
 by_cases hk0 : kbytes i.o = 0
 · have hk00 : i.k = 0 := by rw [hk0] at h6; simpa [kOk] using h6
   rw [hk0]
   rw [show decide ((0 : Int) < 0) = false by decide, rd_not]
   simp [encK]
   cases i; simp at hk00; simp [hk00]
 · rw [show decide ((0 : Int) < kbytes i.o) = true by simp; omega]
   have e3 := rd_bytes (encK i (kbytes i.o).toNat) e
   rw [encK_len, hv] at e3
   rw [e3]
theorem refN_of : ∀ (p : List I5) (n : Int) (e : List UInt8), n <= 64 -> (∀ i ∈ p, i.fits n = true /\ I64 i.k) -> refN p.length (p.flatMap encI ++ e, false) = (p, (e, false))
 | [], _, e, _, _ => by simp [refN]
 | i :: r, n, e, hn, h => by
   have hi := h i (by simp)
   simp only [List.flatMap_cons, List.length_cons, refN, List.append_assoc]
   rw [refI_of i n _ hn hi.1 hi.2, if_neg (by simp)]
   simp only
   rw [refN_of r n e hn fun x hx => h x (by simp [hx])]
theorem refDec (l : List UInt8) : decP l = (if (refN (eyeN l true 1).toNat (eyeRest l true 1, eyeBad l false true 1)).2.2 = false /\ rightR (refN (eyeN l true 1).toNat (eyeRest l true 1, eyeBad l false true 1)).1 = (0, 0) /\ encP (refN (eyeN l true 1).toNat (eyeRest l true 1, eyeBad l false true 1)).1 = l then some (refN (eyeN l true 1).toNat (eyeRest l true 1, eyeBad l false true 1)).1 else none) := by
 cases hd : decP l with
 | some p =>
   obtain ⟨he, hr⟩ := decP_enc hd
   obtain ⟨h1, h2, h3⟩ := right_fits hr
   have hf : ∀ i ∈ p, i.fits p.length = true /\ I64 i.k := by
    intro i hi
    refine ⟨?_, decP_in64 hd i hi⟩
    obtain ⟨j, hj, rfl⟩ := List.getElem_of_mem hi
    exact h3 j hj
   have hrd := rd_byte (b8 p.length) (p.flatMap encI)
   have hcons : b8 p.length :: p.flatMap encI = l := he
   rw [hcons] at hrd
   unfold rd at hrd
   simp only [Prod.mk.injEq] at hrd
   obtain ⟨e1, e2, e3⟩ := hrd
   have hq := refN_of p p.length [] (by omega) hf
   rw [List.append_nil] at hq
   rw [e1, e2, e3, Int.toNat_natCast, b8_small _ h2, hq]
   rw [if_pos ⟨rfl, hr, he⟩]
 | none =>
   rw [if_neg]
   rintro ⟨_, hr, he⟩
   have := decP_tail _ [] hr (refN_in64 _ _)
   rw [List.append_nil, he, hd, if_pos rfl] at this
   cases this
theorem refRead_some (s : ByteArray) (w : World) :
 Calls Tryz.prog 40 #[.string s] w fun e w' => ∃ v, e = .returned (.tuple #[v, .int .i64 (decE s.data.toList)]) /\ OwnI w' w.heap.size v (decL s.data.toList) /\ Below w.heap.size w w' := by
 obtain ⟨i0, ihi, ih0, ihs, ih2⟩ := info_parts Tryz.infoIns
 go_enter Tryz.func40, Tryz.ntmps40
 go_wp2_with fail
 have hE0 : EyeAt (w.alloc (.cells #[.string s, .bool false] 162)) w.heap.size s false := heap_alloc_new _ _
 refine (number_any w.heap.size 1 true s false _ hE0 (fun _ => by omega) (by omega)).mono ?_
 rintro e w1 ⟨rfl, ⟨s1, hs1, hE1⟩, hg1⟩
 have hb1 := ((Below.refl w.heap.size w).alloc (Nat.le_refl _) _).grown hg1 (by simp) (fun k hk => by cases hk; exact Nat.le_refl _)
 have hsz1 := hg1.size
 simp at hsz1
 obtain ⟨hn0, hn256⟩ := eyeN_bd s.data.toList true
 obtain ⟨N, hN⟩ := Int.eq_ofNat_of_zero_le hn0
 rw [hN] at hn256 ⊢
 have HN := hide hN
 clear hN hn0
 obtain ⟨l1, hl1⟩ : ∃ l1, l1 = eyeRest s.data.toList true 1 := ⟨_, rfl⟩
 obtain ⟨b1, hb1'⟩ : ∃ b1, b1 = eyeBad s.data.toList false true 1 := ⟨_, rfl⟩
 rw [<- hl1] at hs1
 rw [<- hb1'] at hE1
 have HL1 := hide hl1
 have HB1 := hide hb1'
 clear hl1 hb1' hg1 hE0
 go_wp2_with fail
 go_loopw [6, 7] (fun p j wr => ∃ (n m : Nat) (ps : List I5) (l : List UInt8) (bad : Bool), n + m = N /\ j = .int .i64 n /\ ps.length = n /\ (∃ s : ByteArray, s.data.toList = l /\ EyeAt wr w.heap.size s bad) /\ OwnI wr w.heap.size p ps /\ Below w.heap.size w wr /\ w.heap.size + 1 <= wr.heap.size /\ Hid (refN N (l1, b1) = aheadR ps (refN m (l, bad)))) (fun _ j _ => N - (intOf j).toNat)
 case atStart => exact ⟨0, N, [], l1, b1, by omega, rfl, rfl, ⟨s1, hs1, hE1⟩, World.ownsRow_nil _ _ _ _, hb1, hsz1, hide (by simp [aheadR])⟩
 case round =>
  clear hE1 hb1 hsz1 hs1
  obtain ⟨n, m, ps, l, bad, hnm, rfl, hps, ⟨t, ht, hE⟩, hown, hbl, hsz, hread⟩ := hrel
  replace hps := hide hps
  obtain ⟨e0, e1, f0, f1⟩ := hE.cell
  by_cases hgo : n < N /\ bad = false
  · obtain ⟨hlt, hbad⟩ := hgo
    subst hbad
    obtain ⟨m', rfl⟩ : ∃ m', m = m' + 1 := ⟨m - 1, by omega⟩
    go_wp2_with fail
    refine (number_any w.heap.size 1 true t false _ hE (fun _ => by omega) (by omega)).mono ?_
    rintro e w2 ⟨rfl, hE2, hg2⟩
    rw [ht] at hE2 ⊢
    have HI : Hid (refI (l, false) = refI (l, false)) := hide rfl
    obtain ⟨O, hO⟩ : ∃ O, O = eyeN l true 1 := ⟨_, rfl⟩
    rw [<- hO]
    obtain ⟨KB, hKB⟩ : ∃ KB : Nat, refKb O = KB := ⟨(refKb O).toNat, by have := refKb_bd O; omega⟩
    have hKB8 : KB <= 8 := by have := refKb_bd O; omega
    have HO := hide hO
    have HKB := hide hKB
    have HNV : Hid (needV O = .tuple #[.bool (decide (0 < refNr O)), .bool (decide (1 < refNr O)), .bool (decide (2 < refNr O)), .int .i64 KB]) := hide (needV_of rfl hKB)
    clear hO hKB
    have hsz2 := hg2.size
    have R1 : RSt w (w2.alloc (.cells #[.int .i64 O, .int .i64 0, .int .i64 0, .int .i64 0, .int .i64 0] 35)) w.heap.size w.heap.size w2.heap.size (eyeRest l true 1) (eyeBad l false true 1) #[.int .i64 O, .int .i64 0, .int .i64 0, .int .i64 0, .int .i64 0] u6 ps := by
     obtain ⟨s2, hs2, hE2'⟩ := hE2
     refine ⟨⟨s2, hs2, ?_⟩, heap_alloc_new _ _, World.ownsRow.alloc (World.ownsRow.kept hown hg2 (Or.inr (own_ne_eye hown hE))) _, (hbl.grown hg2 (by omega) (fun k hk => by cases hk; exact Nat.le_refl _)).alloc (by omega) _, by simp; omega, fun k hk => by have := (World.ownsRow.lt hown k hk).2; omega, Nat.le_refl _, by omega, by omega⟩
     unfold EyeAt at hE2' ⊢
     rw [Below.heap_alloc _ _ _ (lt_of_block hE2')]; exact hE2'
    clear hE2 hg2 hown hbl hE e0 e1 f0 f1
    go_wp2_with fail
    refine (needs_any _ _).mono ?_
    rintro e w' ⟨rfl, rfl⟩
    rw [HNV.out]
    generalize w2.alloc (.cells #[.int .i64 O, .int .i64 0, .int .i64 0, .int .i64 0, .int .i64 0] 35) = w3 at *
    generalize hxb : w2.heap.size = xb at *
    clear hxb
    obtain ⟨s3, hs3, hE3⟩ := R1.he
    obtain ⟨L1, hL1⟩ : ∃ L, L = (eyeRest l true 1) := ⟨_, rfl⟩
    obtain ⟨B1, hB1⟩ : ∃ B, B = (eyeBad l false true 1) := ⟨_, rfl⟩
    rw [<- hL1, <- hB1] at R1
    rw [<- hL1] at hs3
    rw [<- hB1] at hE3
    have HL1' := hide hL1
    have HB1' := hide hB1
    clear hL1 hB1
    go_wp2_with fail
    refine (number_any w.heap.size 1 (decide (0 < refNr O)) _ _ _ hE3 (fun _ => by omega) (by omega)).mono ?_
    rintro e w4 ⟨rfl, hE4', hg4⟩
    rw [hs3] at hE4' ⊢
    have RN1 := R1.num hg4 hE4'
    obtain ⟨x1, hx1⟩ : ∃ x, x = eyeN L1 (decide (0 < refNr O)) 1 := ⟨_, rfl⟩
    rw [<- hx1]
    have HX1 := hide hx1
    clear hx1 hg4 hE4' hs3 hE3 R1
    obtain ⟨q1, f1⟩ := RN1.cell 1
    simp at q1
    have RS1 : RSt w _ w.heap.size w.heap.size xb _ _ #[.int .i64 O, .int .i64 x1, .int .i64 0, .int .i64 0, .int .i64 0] u6 ps := RN1.set 1 (.int .i64 x1)
    obtain ⟨t1, ht1, hEt1⟩ := RS1.he
    obtain ⟨L2, hL2⟩ : ∃ L, L = (eyeRest L1 (decide (0 < refNr O)) 1) := ⟨_, rfl⟩
    obtain ⟨B2, hB2⟩ : ∃ B, B = (eyeBad L1 B1 (decide (0 < refNr O)) 1) := ⟨_, rfl⟩
    rw [<- hL2, <- hB2] at RS1
    rw [<- hL2] at ht1
    rw [<- hB2] at hEt1
    have HL2 := hide hL2
    have HB2 := hide hB2
    clear hL2 hB2
    go_wp2_with fail
    refine (number_any w.heap.size 1 (decide (1 < refNr O)) _ _ _ hEt1 (fun _ => by omega) (by omega)).mono ?_
    rintro e w5 ⟨rfl, hE5', hg5⟩
    rw [ht1] at hE5' ⊢
    have RN2 := RS1.num hg5 hE5'
    obtain ⟨x2, hx2⟩ : ∃ x, x = eyeN L2 (decide (1 < refNr O)) 1 := ⟨_, rfl⟩
    rw [<- hx2]
    have HX2 := hide hx2
    clear hx2 hg5 hE5' ht1 hEt1 RS1
    obtain ⟨q2, f2⟩ := RN2.cell 2
    simp at q2
    have RS2 : RSt w _ w.heap.size w.heap.size xb _ _ #[.int .i64 O, .int .i64 x1, .int .i64 x2, .int .i64 0, .int .i64 0] u6 ps := RN2.set 2 (.int .i64 x2)
    obtain ⟨t2, ht2, hEt2⟩ := RS2.he
    obtain ⟨L3, hL3⟩ : ∃ L, L = (eyeRest L2 (decide (1 < refNr O)) 1) := ⟨_, rfl⟩
    obtain ⟨B3, hB3⟩ : ∃ B, B = (eyeBad L2 B2 (decide (1 < refNr O)) 1) := ⟨_, rfl⟩
    rw [<- hL3, <- hB3] at RS2
    rw [<- hL3] at ht2
    rw [<- hB3] at hEt2
    have HL3 := hide hL3
    have HB3 := hide hB3
    clear hL3 hB3
    go_wp2_with fail
    refine (number_any w.heap.size 1 (decide (2 < refNr O)) _ _ _ hEt2 (fun _ => by omega) (by omega)).mono ?_
    rintro e w6 ⟨rfl, hE6', hg6⟩
    rw [ht2] at hE6' ⊢
    have RN3 := RS2.num hg6 hE6'
    obtain ⟨x3, hx3⟩ : ∃ x, x = eyeN L3 (decide (2 < refNr O)) 1 := ⟨_, rfl⟩
    rw [<- hx3]
    have HX3 := hide hx3
    clear hx3 hg6 hE6' ht2 hEt2 RS2
    obtain ⟨q3, f3⟩ := RN3.cell 3
    simp at q3
    have RS3 : RSt w _ w.heap.size w.heap.size xb _ _ #[.int .i64 O, .int .i64 x1, .int .i64 x2, .int .i64 x3, .int .i64 0] u6 ps := RN3.set 3 (.int .i64 x3)
    obtain ⟨t3, ht3, hEt3⟩ := RS3.he
    obtain ⟨L4, hL4⟩ : ∃ L, L = (eyeRest L3 (decide (2 < refNr O)) 1) := ⟨_, rfl⟩
    obtain ⟨B4, hB4⟩ : ∃ B, B = (eyeBad L3 B3 (decide (2 < refNr O)) 1) := ⟨_, rfl⟩
    rw [<- hL4, <- hB4] at RS3
    rw [<- hL4] at ht3
    rw [<- hB4] at hEt3
    have HL4 := hide hL4
    have HB4 := hide hB4
    clear hL4 hB4
    go_wp2_with fail
    refine (number_any w.heap.size KB (decide (0 < KB)) _ _ _ hEt3 (fun hh => by simp at hh; omega) (by omega)).mono ?_
    rintro e w7 ⟨rfl, hE7', hg7⟩
    rw [ht3] at hE7' ⊢
    have RN4 := RS3.num hg7 hE7'
    obtain ⟨x4, hx4⟩ : ∃ x, x = eyeN L4 (decide (0 < KB)) KB := ⟨_, rfl⟩
    rw [<- hx4]
    have HX4 := hide hx4
    clear hx4 hg7 hE7' ht3 hEt3 RS3
    obtain ⟨q4, f4⟩ := RN4.cell 4
    simp at q4
    have RS4 : RSt w _ w.heap.size w.heap.size xb _ _ #[.int .i64 O, .int .i64 x1, .int .i64 x2, .int .i64 x3, .int .i64 x4] u6 ps := RN4.set 4 (.int .i64 x4)
    obtain ⟨t4, ht4, hEt4⟩ := RS4.he
    have HF : Hid (refI (l, false) = (⟨O, x1, x2, x3, x4⟩, (eyeRest L4 (decide (0 < KB)) KB, eyeBad L4 B4 (decide (0 < KB)) KB))) := hide (by
     unfold refI rd
     simp only
     rw [<- HO.out, HKB.out, Int.toNat_natCast, show decide ((0 : Int) < (KB : Int)) = decide (0 < KB) by simp, HX1.out, HX2.out, HX3.out, HX4.out, HL4.out, HB4.out, HL3.out, HB3.out, HL2.out, HB2.out, HL1'.out, HB1'.out])
    clear q1 q2 q3 f1 f2 f3
    have g0 := (RN4.cell 0).1
    have g1 := (RN4.cell 1).1
    have g2 := (RN4.cell 2).1
    have g3 := (RN4.cell 3).1
    simp at g0 g1 g2 g3
    have hsz8 := lt_of_block RN4.hx
    have hb8 := RN4.hbase
    go_wp2_with (at_builtin; go_must (refine wpList_append_own _ rfl (.tmp 61) (.tmp 63) 36 rfl w.heap.size 35 i0 _ 5 40 Tryz.underlying36 ihi ih0 ihs ih2 rfl (by decide) u6 ps.length (ps.flatMap I5.cells) rfl ?hO ⟨w7.heap.size, 0, none⟩ 1 1 (I5.mk O x1 x2 x3 x4).cells rfl rfl ?hNw (five_one _) ?h63 ?h64 ?hB ?_))
    case hO => exact World.ownsRow.alloc RS4.hp _
    case hNw => refine five_new _ _ _ _ ?_; simp
    case h63 => rw [hps.out]; unfold maxLen; omega
    case h64 => rw [hps.out]; omega
    case hB => simp; omega
    intro v9 w9 hown9 hgrow9 _
    have hb9 : w.heap.size <= (w7.setCell ⟨xb, 4, none⟩ (.int .i64 x4)).heap.size := RS4.hbase
    have hbl9 := (RS4.hb.alloc hb9 _).grown hgrow9 (by simp; omega) (fun k hk => (World.ownsRow.lt RS4.hp k hk).1)
    have hown9 := OwnI.push hown9 rfl
    have hE9 : EyeAt w9 w.heap.size t4 (eyeBad L4 B4 (decide (0 < KB)) KB) := by
     have hne := own_ne_eye RS4.hp hEt4
     unfold EyeAt at hEt4 ⊢
     have hl := lt_of_block hEt4
     rw [hgrow9.block w.heap.size (by simp at hl ⊢; omega) (fun e => hne e.symm), Below.heap_alloc _ _ _ hl]; exact hEt4
    have hsz9 := hgrow9.size
    simp at hsz9
    have hex := RS4.hex
    clear hgrow9 RS4 RN4 g0 g1 g2 g3 hEt4 q4 f4 hb9
    go_wp2
    go_roundw
    case rel => exact ⟨n + 1, m', _, _, _, by omega, by go_num, by simp [hps.out], ⟨t4, ht4, hE9⟩, hown9, hbl9, by omega, hide (by rw [hread.out, refN_step, HF.out])⟩
    case measure => simp [intOf]; omega
  · have hrd : Hid (refN N (l1, b1) = (ps, (l, bad))) := hide (by
     rw [hread.out]
     cases bad with
     | true => exact refN_bad
     | false =>
       have : m = 0 := by simp at hgo; omega
       subst this; simp [refN, aheadR])
    have hq := hide (refDec s.data.toList)
    rw [HN.out, <- HL1.out, <- HB1.out, Int.toNat_natCast, hrd.out] at hq
    have hgo2 : n < N -> bad = true := by intro h; cases bad <;> simp_all
    clear hgo hread hrd
    replace hq : Hid (decP s.data.toList = if bad = false /\ rightR ps = (0, 0) /\ encP ps = s.data.toList then some ps else none) := hq
    have hlt0 := lt_of_block hE
    have hcont : ∀ w2, Below wr.heap.size wr w2 -> EyeAt w2 w.heap.size t bad := by
     intro w2 hb2
     unfold EyeAt at hE ⊢
     rw [hb2.block _ hlt0]; exact hE
    have HC := hide hcont
    clear hcont
    have hgo3 : n < N /\ bad = true \/ ¬ n < N := by by_cases h : n < N; exact Or.inl ⟨h, hgo2 h⟩; exact Or.inr h
    clear hgo2
    rcases rightR_or ps with hr | hr
    · have HRr := hide hr
      obtain ⟨T, hT⟩ : ∃ T : ByteArray, T = ⟨(encP ps).toArray⟩ := ⟨_, rfl⟩
      have HT := hide hT
      have hTl : T.data.toList = encP ps := by rw [hT]
      have HTl := hide hTl
      clear hT hTl hr
      by_cases heq : encP ps = s.data.toList
      · have hTs : T = s := by
         have : T.data.toList = s.data.toList := by rw [HTl.out, heq]
         cases T; cases s; simp at this; simp [this]
        have HTs := hide hTs
        have HEQ := hide heq
        clear hTs heq
        cases bad
        · have hD : Hid (decP s.data.toList = some ps) := hide (by rw [hq.out, if_pos ⟨rfl, HRr.out, HEQ.out⟩])
          rcases hgo3 with ⟨_, hx⟩ | hnl
          · cases hx
          go_wp2_with fail
          refine (refEncode_yes ps _ wr hown.slc HRr.out).mono ?_
          rintro e w2 ⟨rfl, hb2⟩
          rw [<- HT.out, HTs.out]
          obtain ⟨e0, e1, f0, f1⟩ := (HC.out w2 hb2).cell
          have hown2 := hown.below hb2
          go_wp2
          go_ret2
          exact ⟨_, ret_dec rfl (dec_some hD.out).1.symm, by rw [(dec_some hD.out).2]; exact hown2, hbl.trans (hb2.mono (by omega))⟩
        · have hD : Hid (decP s.data.toList = none) := hide (by rw [hq.out, if_neg (fun h => by simp at h)])
          rcases hgo3 with ⟨hnl, _⟩ | hnl
          all_goals
           go_wp2_with fail
           refine (refEncode_yes ps _ wr hown.slc HRr.out).mono ?_
           rintro e w2 ⟨rfl, hb2⟩
           obtain ⟨e0, e1, f0, f1⟩ := (HC.out w2 hb2).cell
           go_wp2
           go_ret2
           exact ⟨_, ret_dec rfl (dec_none hD.out).1.symm, by rw [(dec_none hD.out).2]; exact World.ownsRow_nil _ _ _ _, hbl.trans (hb2.mono (by omega))⟩
      · have hD : Hid (decP s.data.toList = none) := hide (by rw [hq.out, if_neg (fun h => heq h.2.2)])
        have hTs : (T.toList == s.toList) = false := by
         rw [Lib.toList_data, Lib.toList_data, HTl.out, beq_eq_false_iff_ne]; exact heq
        clear heq
        cases bad
        · rcases hgo3 with ⟨_, hx⟩ | hnl
          · cases hx
          go_wp2_with fail
          refine (refEncode_yes ps _ wr hown.slc HRr.out).mono ?_
          rintro e w2 ⟨rfl, hb2⟩
          rw [<- HT.out]
          obtain ⟨e0, e1, f0, f1⟩ := (HC.out w2 hb2).cell
          go_wp2
          go_ret2
          exact ⟨_, ret_dec rfl (dec_none hD.out).1.symm, by rw [(dec_none hD.out).2]; exact World.ownsRow_nil _ _ _ _, hbl.trans (hb2.mono (by omega))⟩
        · rcases hgo3 with ⟨hnl, _⟩ | hnl
          all_goals
           go_wp2_with fail
           refine (refEncode_yes ps _ wr hown.slc HRr.out).mono ?_
           rintro e w2 ⟨rfl, hb2⟩
           obtain ⟨e0, e1, f0, f1⟩ := (HC.out w2 hb2).cell
           go_wp2
           go_ret2
           exact ⟨_, ret_dec rfl (dec_none hD.out).1.symm, by rw [(dec_none hD.out).2]; exact World.ownsRow_nil _ _ _ _, hbl.trans (hb2.mono (by omega))⟩
    · have hD : Hid (decP s.data.toList = none) := hide (by rw [hq.out, if_neg (fun h => by rw [h.2.1] at hr; simp at hr)])
      have HRr := hide hr
      clear hr
      cases bad
      · rcases hgo3 with ⟨_, hx⟩ | hnl
        · cases hx
        go_wp2_with fail
        refine (refEncode_no ps _ wr hown.slc HRr.out).mono ?_
        rintro e w2 ⟨rfl, hb2⟩
        obtain ⟨e0, e1, f0, f1⟩ := (HC.out w2 hb2).cell
        go_wp2
        go_ret2
        exact ⟨_, ret_dec rfl (dec_none hD.out).1.symm, by rw [(dec_none hD.out).2]; exact World.ownsRow_nil _ _ _ _, hbl.trans (hb2.mono (by omega))⟩
      · rcases hgo3 with ⟨hnl, _⟩ | hnl
        all_goals
         go_wp2_with fail
         refine (refEncode_no ps _ wr hown.slc HRr.out).mono ?_
         rintro e w2 ⟨rfl, hb2⟩
         obtain ⟨e0, e1, f0, f1⟩ := (HC.out w2 hb2).cell
         go_wp2
         go_ret2
         exact ⟨_, ret_dec rfl (dec_none hD.out).1.symm, by rw [(dec_none hD.out).2]; exact World.ownsRow_nil _ _ _ _, hbl.trans (hb2.mono (by omega))⟩
def opCells (k on fu pv sv : Value) (e : Nat -> Value) (cv : Value) (r : Nat -> Value) : Array Value :=
 #[k, on, fu, pv, sv, e 0, e 1, e 2, e 3, e 4, e 5, e 6, e 7, e 8, e 9, e 10, e 11, e 12, e 13, e 14, e 15, cv, r 0, r 1, r 2, r 3, r 4, r 5, r 6, r 7]
theorem righted_any (l : List I5) (k on fu pv sv cv : Value) (e r : Nat -> Value) (w : World) (hs : Shapes w) (hp : Arg w pv l) (hlen : l.length * 40 <= 140737488351232) :
 Calls Tryz.prog 15 #[.agg (opCells k on fu pv sv e cv r)] w fun e w' => e = .returned (.bool true) /\ Below w.heap.size w w' := by
 unfold opCells
 have hz := hs.1
 go_enter Tryz.func15, Tryz.ntmps15
 go_wp2_with fail
 generalize hW : w.alloc (.cells #[k, on, fu, pv, sv, e 0, e 1, e 2, e 3, e 4, e 5, e 6, e 7, e 8, e 9, e 10, e 11, e 12, e 13, e 14, e 15, cv, r 0, r 1, r 2, r 3, r 4, r 5, r 6, r 7] 53) = w1
 have hb1 : Below w.heap.size w w1 := by rw [<- hW]; exact (Below.refl _ _).alloc (Nat.le_refl _) _
 have hc1 : w1.heap[w.heap.size]? = some (.cells #[k, on, fu, pv, sv, e 0, e 1, e 2, e 3, e 4, e 5, e 6, e 7, e 8, e 9, e 10, e 11, e 12, e 13, e 14, e 15, cv, r 0, r 1, r 2, r 3, r 4, r 5, r 6, r 7] 53 (0, 0)) := by rw [<- hW]; exact heap_alloc_new _ _
 have hlt1 := lt_of_block hc1
 clear hW
 have hs1 := hs.below hb1 hz
 have hp1 := hp.below hb1 (Nat.le_refl _)
 refine (lent_any l pv w1 hp1 hlen).mono ?_
 rintro x w2 ⟨hv, rfl, hL2, hb2⟩
 have hs2 := hs1.below hb2 hs1.1
 go_wp2_with fail
 refine (Right_any l hv w2 hs2 hL2.slc).mono ?_
 rintro x w3 ⟨rfl, hb3⟩
 have hs3 := hs2.below hb3 hs2.1
 have hL3 := hL2.below hb3
 have hb13 : Below w1.heap.size w1 w3 := hb2.trans (hb3.mono hb2.size)
 clear hL2
 go_wp2_with fail
 obtain ⟨T, E, hEnc⟩ : ∃ (T : ByteArray) (E : Int), Calls Tryz.prog 34 #[hv] w3 (fun e w' => e = .returned (.tuple #[.string T, .int .i64 E]) /\ Below w3.heap.size w3 w') /\ ∀ wx, Slc wx pv l -> Calls Tryz.prog 37 #[pv] wx (fun e w' => e = .returned (.tuple #[.string T, .int .i64 E]) /\ Below wx.heap.size wx w') := by
  rcases rightR_or l with hr | hr
  · exact ⟨_, _, Encode_yes l hv w3 hs3 hL3.slc hr, fun wx hx => refEncode_yes l pv wx hx hr⟩
  · exact ⟨_, _, Encode_no l hv w3 hs3 hL3.slc hr, fun wx hx => refEncode_no l pv wx hx hr⟩
 have HE := hide hEnc
 clear hEnc
 refine HE.out.1.mono ?_
 rintro x w4 ⟨rfl, hb4⟩
 have hL4 := hL3.below hb4
 have hb14 : Below w1.heap.size w1 w4 := hb13.trans (hb4.mono hb13.size)
 have q4 : w4.cell? ⟨w.heap.size, 3, none⟩ = some pv := by
  rw [hb14.cell (p := ⟨w.heap.size, 3, none⟩) hlt1, cell_of_row _ _ _ _ _ _ hc1]; rfl
 clear hL3 hb13
 go_wp2_with fail
 refine (lawBack_any l pv hv w1.heap.size w1 w4 hL4 hp1 (Nat.le_refl _) hb14 hlen).mono ?_
 rintro x w5 ⟨rfl, hb5⟩
 have hb15 : Below w1.heap.size w1 w5 := hb14.trans hb5
 have q5 : w5.cell? ⟨w.heap.size, 3, none⟩ = some pv := by
  rw [hb15.cell (p := ⟨w.heap.size, 3, none⟩) hlt1, cell_of_row _ _ _ _ _ _ hc1]; rfl
 clear q4 hb14
 go_wp2_with fail
 refine (refRight_any l pv w5 (hp1.1.below hb15 (Nat.le_refl _))).mono ?_
 rintro x w6 ⟨rfl, hb6⟩
 have hb16 : Below w1.heap.size w1 w6 := hb15.trans (hb6.mono hb15.size)
 have q6 : w6.cell? ⟨w.heap.size, 3, none⟩ = some pv := by
  rw [hb16.cell (p := ⟨w.heap.size, 3, none⟩) hlt1, cell_of_row _ _ _ _ _ _ hc1]; rfl
 clear q5 hb15
 go_wp2_with fail
 refine (HE.out.2 w6 (hp1.1.below hb16 (Nat.le_refl _))).mono ?_
 rintro x w7 ⟨rfl, hb7⟩
 have hb17 : Below w1.heap.size w1 w7 := hb16.trans (hb7.mono hb16.size)
 clear q6 hb16 hb7 hb6 hb5 hb4 hb3 hb2
 generalize (rightR l).1 = R1
 generalize (rightR l).2 = R2
 go_wp2_with (go_at_call 38; refine (num_any _ _).mono ?_; rintro x w' ⟨rfl, rfl⟩)
 go_ret
 exact ⟨rfl, hb1.trans (hb17.mono hb1.size)⟩
theorem decL_len (l : List UInt8) : (decL l).length <= 64 := by
 unfold decL
 cases h : decP l with
 | none => simp
 | some p => have := right_fits (decP_enc h).2; simp; omega
theorem decoded_all (s : ByteArray) (wb B : Nat) (lv vd vv vc : Value) (xs : List Value) (k on fu pv cv : Value) (e r : Nat -> Value) (w : World) (hs : Shapes w) (hw : w.heap[wb]? = some (.cells #[lv, vd, vv, vc] 50 (0, 0))) (hd : DList w B 36 35 5 markC vd xs) (hB : B <= w.heap.size) (hn : xs.length < 5000000000000) :
 Calls Tryz.prog 16 #[.pointer (some ⟨wb, 0, none⟩), .agg (opCells k on fu pv (.string s) e cv r)] w fun e w' => e = .returned (.bool true) /\ ∃ vd' xs', xs'.length = xs.length + 4 /\ w'.heap[wb]? = some (.cells #[lv, vd', vv, vc] 50 (0, 0)) /\ DList w' B 36 35 5 markC vd' xs' /\ Fr w w' w.heap.size wb vd.ownBlock := by
 unfold opCells
 have hz := hs.1
 have hw0 : wb < w.heap.size := lt_of_block hw
 go_enter Tryz.func16, Tryz.ntmps16
 go_wp2_with fail
 generalize hW : w.alloc (.cells #[k, on, fu, pv, .string s, e 0, e 1, e 2, e 3, e 4, e 5, e 6, e 7, e 8, e 9, e 10, e 11, e 12, e 13, e 14, e 15, cv, r 0, r 1, r 2, r 3, r 4, r 5, r 6, r 7] 53) = w1
 have hb1 : Below w.heap.size w w1 := by rw [<- hW]; exact (Below.refl _ _).alloc (Nat.le_refl _) _
 have hc1 : w1.heap[w.heap.size]? = some (.cells #[k, on, fu, pv, .string s, e 0, e 1, e 2, e 3, e 4, e 5, e 6, e 7, e 8, e 9, e 10, e 11, e 12, e 13, e 14, e 15, cv, r 0, r 1, r 2, r 3, r 4, r 5, r 6, r 7] 53 (0, 0)) := by rw [<- hW]; exact heap_alloc_new _ _
 have hlt1 := lt_of_block hc1
 clear hW
 have hs1 := hs.below hb1 hz
 have hw1 : w1.heap[wb]? = some (.cells #[lv, vd, vv, vc] 50 (0, 0)) := by rw [hb1.block wb hw0]; exact hw
 have hd1 := hd.below hb1
 have hwl := lt_of_block hw1
 refine (Decode_any s w1 hs1).mono ?_
 rintro x w2 ⟨vl, rfl, hl2, hb2⟩
 have q2 : w2.cell? ⟨w.heap.size, 4, none⟩ = some (.string s) := by
  rw [hb2.cell (p := ⟨w.heap.size, 4, none⟩) hlt1, cell_of_row _ _ _ _ _ _ hc1]; rfl
 go_wp2_with fail
 refine (refRead_some s w2).mono ?_
 rintro x w3 ⟨vm, rfl, hm3, hb3⟩
 have hl3 := hl2.below hb3
 have hdl := decL_len s.data.toList
 generalize decL s.data.toList = L at *
 generalize decE s.data.toList = E at *
 clear q2
 go_wp2_with fail
 refine (sameProgram_eq L vl vm w3 hl3.slc hm3.slc (by omega)).mono ?_
 rintro x w4 ⟨rfl, hb4⟩
 have hl4 := hl3.below hb4
 have hb14 : Below w1.heap.size w1 w4 := (hb2.trans (hb3.mono hb2.size)).trans (hb4.mono (by have := hb2.size; have := hb3.size; omega))
 have hw4 : w4.heap[wb]? = some (.cells #[lv, vd, vv, vc] 50 (0, 0)) := by rw [hb14.block wb hwl]; exact hw1
 have hd4 := hd1.below hb14
 have HVD : Hid (∀ k, vd.ownBlock = some k -> k < w1.heap.size) := hide (fun k hk => (World.ownsRow.lt hd1.1 k hk).2)
 have HOL : Hid (∀ k (h : k < xs.length) b, xs[k].ownBlock = some b -> b < w1.heap.size) := hide (fun k h b hb => by
  obtain ⟨m, _, ho⟩ := hd1.2.2 k h
  exact (World.ownsRow.lt ho b hb).2)
 clear hl2 hl3 hm3 hd1 hb2 hb3 hb4
 go_wp2_with fail
 refine (prog_any wb B w1.heap.size _ vd _ _ vl xs L w4 hw4 hd4 (by omega) hl4 (by have := hb1.size; omega) hb14.size hwl HVD.out HOL.out (by omega)).mono ?_
 rintro x w5 ⟨rfl, vd5, xs5, hx5, hw5, hd5, hf5⟩
 have hres : ∃ vd' xs', xs'.length = xs.length + 4 /\ w5.heap[wb]? = some (.cells #[lv, vd', vv, vc] 50 (0, 0)) /\ DList w5 B 36 35 5 markC vd' xs' /\ Fr w w5 w.heap.size wb vd.ownBlock := ⟨vd5, xs5, hx5, hw5, hd5, hf5.os.trans (hb14.os.trans hb1.os), hf5.tape.trans (hb14.tape.trans hb1.tape), hf5.output.trans (hb14.output.trans hb1.output), Nat.le_trans hb1.size (Nat.le_trans hb14.size hf5.size), fun k h1 h2 h3 => (hf5.block k (by have := hb1.size; omega) h2 h3).trans ((hb14.block k (by have := hb1.size; omega)).trans (hb1.block k h1))⟩
 have HRES := hide hres
 clear hres
 clear hf5 hd5 hw5 hd4 hw4 hl4
 go_wp2_with (go_at_call 38; refine (num_any _ _).mono ?_; rintro x w' ⟨rfl, rfl⟩)
 go_ret
 exact ⟨rfl, HRES.out⟩
theorem op_reads {w : World} {N : Nat} {k on pv sv cv : Value} {f : Int} {e : Nat -> Value} {r : Nat -> Int} (h : w.heap[N]? = some (.cells #[k, on, .int .i64 f, pv, sv, e 0, e 1, e 2, e 3, e 4, e 5, e 6, e 7, e 8, e 9, e 10, e 11, e 12, e 13, e 14, e 15, cv, .int .i64 (r 0), .int .i64 (r 1), .int .i64 (r 2), .int .i64 (r 3), .int .i64 (r 4), .int .i64 (r 5), .int .i64 (r 6), .int .i64 (r 7)] 53 (0, 0))) :
 w.cell? ⟨N, 2, none⟩ = some (.int .i64 f) /\ w.cell? ⟨N, 3, none⟩ = some pv /\ w.cell? ⟨N, 22, none⟩ = some (.int .i64 (r 0)) /\ w.cell? ⟨N, 23, none⟩ = some (.int .i64 (r 1)) /\ w.cell? ⟨N, 24, none⟩ = some (.int .i64 (r 2)) /\ w.cell? ⟨N, 25, none⟩ = some (.int .i64 (r 3)) /\ w.cell? ⟨N, 26, none⟩ = some (.int .i64 (r 4)) /\ w.cell? ⟨N, 27, none⟩ = some (.int .i64 (r 5)) /\ w.cell? ⟨N, 28, none⟩ = some (.int .i64 (r 6)) /\ w.cell? ⟨N, 29, none⟩ = some (.int .i64 (r 7)) := by
 refine ⟨?_, ?_, ?_, ?_, ?_, ?_, ?_, ?_, ?_, ?_⟩ <;> rw [cell_of_row _ _ _ _ _ _ h] <;> rfl
theorem ran_any (l : List I5) (k on pv sv cv : Value) (f : Int) (e : Nat -> Value) (r : Nat -> Int) (w : World) (hs : Shapes w) (hp : Arg w pv l) (hlen : l.length * 40 <= 140737488351232) :
 Calls Tryz.prog 17 #[.agg (opCells k on (.int .i64 f) pv sv e cv (fun j => .int .i64 (r j)))] w fun e w' => e = .returned (.bool true) /\ Below w.heap.size w w' := by
 unfold opCells
 have hz := hs.1
 have HRV : Hid (regsV r = .agg #[.int .i64 (r 0), .int .i64 (r 1), .int .i64 (r 2), .int .i64 (r 3), .int .i64 (r 4), .int .i64 (r 5), .int .i64 (r 6), .int .i64 (r 7)]) := hide rfl
 go_enter Tryz.func17, Tryz.ntmps17
 go_wp2_with fail
 generalize hW : w.alloc (.cells #[k, on, .int .i64 f, pv, sv, e 0, e 1, e 2, e 3, e 4, e 5, e 6, e 7, e 8, e 9, e 10, e 11, e 12, e 13, e 14, e 15, cv, .int .i64 (r 0), .int .i64 (r 1), .int .i64 (r 2), .int .i64 (r 3), .int .i64 (r 4), .int .i64 (r 5), .int .i64 (r 6), .int .i64 (r 7)] 53) = w1
 have hb1 : Below w.heap.size w w1 := by rw [<- hW]; exact (Below.refl _ _).alloc (Nat.le_refl _) _
 have hc1 : w1.heap[w.heap.size]? = some (.cells #[k, on, .int .i64 f, pv, sv, e 0, e 1, e 2, e 3, e 4, e 5, e 6, e 7, e 8, e 9, e 10, e 11, e 12, e 13, e 14, e 15, cv, .int .i64 (r 0), .int .i64 (r 1), .int .i64 (r 2), .int .i64 (r 3), .int .i64 (r 4), .int .i64 (r 5), .int .i64 (r 6), .int .i64 (r 7)] 53 (0, 0)) := by rw [<- hW]; exact heap_alloc_new _ _
 have hlt1 := lt_of_block hc1
 have HOP : Hid (∀ wx, Below w1.heap.size w1 wx -> wx.heap[w.heap.size]? = some (.cells #[k, on, .int .i64 f, pv, sv, e 0, e 1, e 2, e 3, e 4, e 5, e 6, e 7, e 8, e 9, e 10, e 11, e 12, e 13, e 14, e 15, cv, .int .i64 (r 0), .int .i64 (r 1), .int .i64 (r 2), .int .i64 (r 3), .int .i64 (r 4), .int .i64 (r 5), .int .i64 (r 6), .int .i64 (r 7)] 53 (0, 0))) := hide (fun wx hb => (hb.block _ hlt1).trans hc1)
 clear hW hc1
 have hs1 := hs.below hb1 hz
 have hp1 := hp.below hb1 (Nat.le_refl _)
 refine (lent_any l pv w1 hp1 hlen).mono ?_
 rintro x w2 ⟨hv, rfl, hL2, hb2⟩
 have hs2 := hs1.below hb2 hs1.1
 have HLT := hide hL2.lt
 obtain ⟨q2, q3, r0, r1, r2, r3, r4, r5, r6, r7⟩ := op_reads (HOP.out w2 hb2)
 go_wp2_with fail
 rw [<- HRV.out]
 refine (Run_any l hv r f w2 hs2 hL2.slc).mono ?_
 rintro x w3 ⟨rfl, hb3⟩
 generalize hO : runOE l r f = O
 have HO := hide hO
 clear hO
 have hL3 := hL2.below hb3
 have hb13 : Below w1.heap.size w1 w3 := hb2.trans (hb3.mono hb2.size)
 clear hL2 q2 q3 r0 r1 r2 r3 r4 r5 r6 r7
 obtain ⟨q2, q3, r0, r1, r2, r3, r4, r5, r6, r7⟩ := op_reads (HOP.out w3 hb13)
 unfold O4.val
 have hn3 : w.heap.size < w3.heap.size := by have := hb13.size; omega
 go_wp2_with fail
 generalize hW4 : w3.alloc (.cells #[.int .i64 O.kind, .int .i64 O.place, .int .i64 O.value, .int .i64 O.steps] 38) = w4
 have hb34 : Below w3.heap.size w3 w4 := by rw [<- hW4]; exact belA _ _
 have hx4 : w4.heap[w3.heap.size]? = some (.cells #[.int .i64 O.kind, .int .i64 O.place, .int .i64 O.value, .int .i64 O.steps] 38 (0, 0)) := by rw [<- hW4]; exact heap_alloc_new _ _
 have hL4 := hL3.below hb34
 have hb14 : Below w1.heap.size w1 w4 := hb13.trans (hb34.mono hb13.size)
 have hlt4 := lt_of_block hx4
 have HX4 := hide hx4
 clear hL3 hW4 q2 q3 r0 r1 r2 r3 r4 r5 r6 r7 hx4
 have HLT2 : Hid (∀ k, hv.ownBlock = some k -> k < w3.heap.size) := hide (fun k hk => Nat.lt_of_lt_of_le (HLT.out k hk) hb3.size)
 refine (lawBack2 l pv hv w1.heap.size w1 w4 hL4 hp1 (Nat.le_refl _) hb14 hlen).mono ?_
 rintro x w5 ⟨rfl, hb5, hk5⟩
 have hb15 : Below w1.heap.size w1 w5 := hb14.trans hb5
 have hx5 := (hk5 _ hlt4 (fun e => by have := HLT2.out _ e.symm; omega)).trans HX4.out
 have hlt5 := lt_of_block hx5
 have HX5 := hide hx5
 obtain ⟨q2, q3, r0, r1, r2, r3, r4, r5, r6, r7⟩ := op_reads (HOP.out w5 hb15)
 have hp5 := hide (hp1.1.below hb15 (Nat.le_refl _))
 clear hL4 hx5 hk5 hb5 hb3 hb2
 go_wp2_with fail
 rw [<- HRV.out]
 refine (refRun_any l pv r f w5 hp5.out).mono ?_
 rintro x w6 ⟨u, rfl, hou, hb6⟩
 rw [HO.out]
 obtain ⟨ua, uc, rfl⟩ := own_any_len hou
 unfold O4.val
 obtain ⟨z0, z1, z2, z3, f0, f1, f2, f3⟩ := four_of ((hb6.block _ hlt5).trans HX5.out)
 have hlt6 : w3.heap.size < w6.heap.size := Nat.lt_of_lt_of_le hlt5 hb6.size
 have HB6 := hide (hb1.trans ((hb15.trans (hb6.mono hb15.size)).mono hb1.size))
 generalize hR1 : (rightR l).1 = R1
 clear hou q2 q3 r0 r1 r2 r3 r4 r5 r6 r7 hb6 hb15 hb14 hb13 hb34
 go_wp2_with (go_at_call 38; refine (num_any _ _).mono ?_; rintro x w' ⟨rfl, rfl⟩)
 go_ret
 exact ⟨rfl, HB6.out.alloc HB6.out.size _⟩
theorem runVE_len (l : List I5) (r : Nat -> Int) (f : Int) : (runVE l r f).length <= 100 := by
 unfold runVE
 split
 · unfold runV; rw [List.length_take]; omega
 · simp
theorem OwnV.bel {w w' : World} {base : Nat} {v : Value} {l : List V9} (h : OwnV w base v l) (hb : Below w.heap.size w w') : OwnV w' base v l := own_bel h hb
theorem traced_all (l : List I5) (wb B : Nat) (lv vi vd vc : Value) (xs : List Value) (k on pv sv cv : Value) (f : Int) (e : Nat -> Value) (r : Nat -> Int) (w : World) (hs : Shapes w) (hp : Arg w pv l) (hlen : l.length * 40 <= 140737488351232) (hw : w.heap[wb]? = some (.cells #[lv, vi, vd, vc] 50 (0, 0))) (hd : DList w B 67 69 9 markV vd xs) (hB : B <= w.heap.size) (hn : xs.length < 5000000000000) :
 Calls Tryz.prog 18 #[.pointer (some ⟨wb, 0, none⟩), .agg (opCells k on (.int .i64 f) pv sv e cv (fun j => .int .i64 (r j)))] w fun e w' => e = .returned (.bool true) /\ ∃ vd' xs', xs'.length = xs.length + 4 /\ w'.heap[wb]? = some (.cells #[lv, vi, vd', vc] 50 (0, 0)) /\ DList w' B 67 69 9 markV vd' xs' /\ Fr w w' w.heap.size wb vd.ownBlock := by
 unfold opCells
 have hz := hs.1
 have hw0 : wb < w.heap.size := lt_of_block hw
 have HRV : Hid (regsV r = .agg #[.int .i64 (r 0), .int .i64 (r 1), .int .i64 (r 2), .int .i64 (r 3), .int .i64 (r 4), .int .i64 (r 5), .int .i64 (r 6), .int .i64 (r 7)]) := hide rfl
 have hvl := runVE_len l r f
 go_enter Tryz.func18, Tryz.ntmps18
 go_wp2_with fail
 generalize hW : w.alloc (.cells #[k, on, .int .i64 f, pv, sv, e 0, e 1, e 2, e 3, e 4, e 5, e 6, e 7, e 8, e 9, e 10, e 11, e 12, e 13, e 14, e 15, cv, .int .i64 (r 0), .int .i64 (r 1), .int .i64 (r 2), .int .i64 (r 3), .int .i64 (r 4), .int .i64 (r 5), .int .i64 (r 6), .int .i64 (r 7)] 53) = w1
 have hb1 : Below w.heap.size w w1 := by rw [<- hW]; exact (Below.refl _ _).alloc (Nat.le_refl _) _
 have hc1 : w1.heap[w.heap.size]? = some (.cells #[k, on, .int .i64 f, pv, sv, e 0, e 1, e 2, e 3, e 4, e 5, e 6, e 7, e 8, e 9, e 10, e 11, e 12, e 13, e 14, e 15, cv, .int .i64 (r 0), .int .i64 (r 1), .int .i64 (r 2), .int .i64 (r 3), .int .i64 (r 4), .int .i64 (r 5), .int .i64 (r 6), .int .i64 (r 7)] 53 (0, 0)) := by rw [<- hW]; exact heap_alloc_new _ _
 have hlt1 := lt_of_block hc1
 have HOP : Hid (∀ wx, Below w1.heap.size w1 wx -> wx.heap[w.heap.size]? = some (.cells #[k, on, .int .i64 f, pv, sv, e 0, e 1, e 2, e 3, e 4, e 5, e 6, e 7, e 8, e 9, e 10, e 11, e 12, e 13, e 14, e 15, cv, .int .i64 (r 0), .int .i64 (r 1), .int .i64 (r 2), .int .i64 (r 3), .int .i64 (r 4), .int .i64 (r 5), .int .i64 (r 6), .int .i64 (r 7)] 53 (0, 0))) := hide (fun wx hb => (hb.block _ hlt1).trans hc1)
 clear hW hc1
 have hs1 := hs.below hb1 hz
 have hp1 := hp.below hb1 (Nat.le_refl _)
 have hw1 : w1.heap[wb]? = some (.cells #[lv, vi, vd, vc] 50 (0, 0)) := by rw [hb1.block wb hw0]; exact hw
 have hd1 := hd.below hb1
 have hwl := lt_of_block hw1
 refine (lent_any l pv w1 hp1 hlen).mono ?_
 rintro x w2 ⟨hv, rfl, hL2, hb2⟩
 have hs2 := hs1.below hb2 hs1.1
 have HLT := hide hL2.lt
 obtain ⟨q2, q3, r0, r1, r2, r3, r4, r5, r6, r7⟩ := op_reads (HOP.out w2 hb2)
 go_wp2_with fail
 rw [<- HRV.out]
 refine (Trace_any l hv r f w2 hs2 hL2.slc).mono ?_
 rintro x w3 ⟨u, rfl, hou, hb3⟩
 generalize hV : runVE l r f = V at hvl hou
 have HV := hide hV
 clear hV
 obtain ⟨ua, uc, rfl⟩ := own_any_len hou
 have hL3 := hL2.below hb3
 have hb13 : Below w1.heap.size w1 w3 := hb2.trans (hb3.mono hb2.size)
 have hsz2 := hb2.size
 have hsz3 := hb3.size
 clear hL2 q2 q3 r0 r1 r2 r3 r4 r5 r6 r7
 obtain ⟨q2, q3, r0, r1, r2, r3, r4, r5, r6, r7⟩ := op_reads (HOP.out w3 hb13)
 generalize hR1 : (rightR l).1 = R1
 have HR1 := hide hR1
 clear hR1
 go_wp2_with fail
 refine (lawBack2 l pv hv w1.heap.size w1 w3 hL3 hp1 (Nat.le_refl _) hb13 hlen).mono ?_
 rintro x w5 ⟨rfl, hb5, hk5⟩
 have hb15 : Below w1.heap.size w1 w5 := hb13.trans hb5
 have hou5 : OwnV w5 w2.heap.size (.slice ua V.length uc) V := by
  refine ⟨hou.1, ?_⟩
  rcases hou.2 with h2 | ⟨g2, cap, cur, h3, h4, hh, rr⟩
  · exact Or.inl h2
  · exact Or.inr ⟨g2, cap, cur, h3, h4, by rw [hk5 g2 (lt_of_block hh) (fun e => by have := HLT.out _ e.symm; omega)]; exact hh, rr⟩
 have HOU := hide hou5
 clear q2 q3 r0 r1 r2 r3 r4 r5 r6 r7 hou hou5 hk5
 obtain ⟨q2, q3, r0, r1, r2, r3, r4, r5, r6, r7⟩ := op_reads (HOP.out w5 hb15)
 have hp5 := hide (hp1.1.below hb15 (Nat.le_refl _))
 go_wp2_with fail
 rw [<- HRV.out]
 refine (refRun_any l pv r f w5 hp5.out).mono ?_
 rintro x w6 ⟨m, rfl, hom, hb6⟩
 rw [HV.out] at hom
 rw [HR1.out]
 obtain ⟨ma, mc, rfl⟩ := own_any_len hom
 unfold O4.val
 generalize (runOE l r f) = O
 have hou6 := HOU.out.bel hb6
 have hb16 : Below w1.heap.size w1 w6 := hb15.trans (hb6.mono hb15.size)
 clear q2 q3 r0 r1 r2 r3 r4 r5 r6 r7
 go_wp2_with fail
 generalize hW7 : w6.alloc (.cells #[.int .i64 O.kind, .int .i64 O.place, .int .i64 O.value, .int .i64 O.steps] 38) = w7
 have hb67 : Below w6.heap.size w6 w7 := by rw [<- hW7]; exact belA _ _
 clear hW7
 have hou7 := hou6.bel hb67
 have hom7 := hom.bel hb67
 have hb17 : Below w1.heap.size w1 w7 := hb16.trans (hb67.mono hb16.size)
 refine (sameV_any V _ _ _ _ w7 hou7 hom7 hvl).mono ?_
 rintro x w8 ⟨rfl, hb8⟩
 have hou8 := hou7.bel hb8
 have hb18 : Below w1.heap.size w1 w8 := hb17.trans (hb8.mono hb17.size)
 have hw8 : w8.heap[wb]? = some (.cells #[lv, vi, vd, vc] 50 (0, 0)) := by rw [hb18.block wb hwl]; exact hw1
 have hd8 := hd1.below hb18
 have HVD : Hid (∀ k, vd.ownBlock = some k -> k < w1.heap.size) := hide (fun k hk => (World.ownsRow.lt hd1.1 k hk).2)
 have HOL : Hid (∀ k (h : k < xs.length) b, xs[k].ownBlock = some b -> b < w1.heap.size) := hide (fun k h b hb => by
  obtain ⟨m, _, ho⟩ := hd1.2.2 k h
  exact (World.ownsRow.lt ho b hb).2)
 clear hd1 hb2 hb3 hb5 hb6 hb67 hb8 hL3 hou6 hou7 hom7 hom HOU
 go_wp2_with fail
 refine (seen_any wb B w1.heap.size vd _ _ _ _ xs V.length (V.flatMap V9.cells) w8 hw8 hd8 (by omega) (own_low hou8 hsz2) (by have := hb1.size; omega) hb18.size hwl HVD.out HOL.out (by omega)).mono ?_
 rintro x w9 ⟨rfl, vd9, xs9, hx9, hw9, hd9, hf9⟩
 have hres : ∃ vd' xs', xs'.length = xs.length + 4 /\ w9.heap[wb]? = some (.cells #[lv, vi, vd', vc] 50 (0, 0)) /\ DList w9 B 67 69 9 markV vd' xs' /\ Fr w w9 w.heap.size wb vd.ownBlock := ⟨vd9, xs9, hx9, hw9, hd9, hf9.os.trans (hb18.os.trans hb1.os), hf9.tape.trans (hb18.tape.trans hb1.tape), hf9.output.trans (hb18.output.trans hb1.output), Nat.le_trans hb1.size (Nat.le_trans hb18.size hf9.size), fun k h1 h2 h3 => (hf9.block k (by have := hb1.size; omega) h2 h3).trans ((hb18.block k (by have := hb1.size; omega)).trans (hb1.block k h1))⟩
 have HRES := hide hres
 clear hres
 clear hf9 hd9 hw9 hd8 hw8 hou8
 go_wp2_with (go_at_call 38; refine (num_any _ _).mono ?_; rintro x w' ⟨rfl, rfl⟩)
 go_ret
 exact ⟨rfl, HRES.out⟩
end Go.Proofs.YtamiichlbmllcabGreatDoor
