/-
  The contracts of code.Decode and surety.Decode, for every string.
-/
import Derived.Test.YtamiichlbmllcaaGreatDoorQApp
import Derived.Deep.RegionLaw
import Derived.Deep.QuietTactic
import Derived.BigQuiet
import Derived.Lib.IndexBytes
namespace Go.Proofs.YtamiichlbmllcaaGreatDoor
open Go.RowKit
theorem Tryz.infoIns : (Tryz.prog.info? 62).map (fun i => (i.zero, i.size, i.bytes)) = some (some (.agg #[.int .i64 0, .int .i64 0, .int .i64 0, .int .i64 0, .int .i64 0]), 5, 40) := by kernel_rfl
def I5.cells (i : I5) : List Value := [.int .i64 i.o, .int .i64 i.a, .int .i64 i.b, .int .i64 i.c, .int .i64 i.k]
def OwnI (w : World) (base : Nat) (v : Value) (l : List I5) : Prop := w.ownsRow base 62 5 v l.length (l.flatMap I5.cells)
theorem flat_cells (l : List I5) (i f : Nat) (hi : i < l.length) (hf : f < 5) : (l.flatMap I5.cells)[i * 5 + f]? = l[i].cells[f]? := by
  induction l generalizing i with
  | nil => simp at hi
  | cons x r ih =>
    rw [List.flatMap_cons]
    match i with
    | 0 => rw [List.getElem?_append_left (by simp [I5.cells]; omega)]; simp
    | i + 1 =>
      rw [List.getElem?_append_right (by simp [I5.cells]; omega)]
      rw [show (i + 1) * 5 + f - x.cells.length = i * 5 + f by simp [I5.cells]; omega]
      rw [ih i (by simpa using hi)]; rfl
theorem OwnI.slc {w : World} {base : Nat} {v : Value} {l : List I5} (h : OwnI w base v l) : Slc w v l := by
  have h0 := h
  rcases h.2 with ⟨rfl, h2⟩ | ⟨g, cap, cur, rfl, _, hh, _⟩
  · exact Or.inl ⟨⟨_, _, rfl⟩, List.eq_nil_of_length_eq_zero h2⟩
  · refine Or.inr ⟨g, 0, cap, rfl, lt_of_block hh, fun i hi => ?_⟩
    have hc : ∀ f, f < 5 → ∀ u, l[i].cells[f]? = some u → w.cell? ⟨g, 0 + i * 5 + f, none⟩ = some u := by
      intro f hf u hu
      have := World.ownsRow.cells h0 rfl (i * 5 + f) u (by rw [flat_cells l i f hi hf]; exact hu)
      have hadd : (⟨g, 0, none⟩ : Addr).add (i * 5 + f) = ⟨g, 0 + i * 5 + f, none⟩ := by unfold Addr.add; split <;> simp_all
      rw [hadd] at this
      exact this
    exact ⟨hc 0 (by omega) _ rfl, hc 1 (by omega) _ rfl, hc 2 (by omega) _ rfl, hc 3 (by omega) _ rfl, hc 4 (by omega) _ rfl⟩
theorem OwnI.below {w w' : World} {base : Nat} {v : Value} {l : List I5} (h : OwnI w base v l) (hb : Below w.heap.size w w') : OwnI w' base v l := by
  unfold OwnI at *
  refine ⟨h.1, ?_⟩
  rcases h.2 with h2 | ⟨g, cap, cur, hv, hg, hh, r⟩
  · exact Or.inl h2
  · exact Or.inr ⟨g, cap, cur, hv, hg, by rw [hb.block g (lt_of_block hh)]; exact hh, r⟩
theorem OwnI.push {w : World} {base n : Nat} {v : Value} {l : List I5} {x : I5} (h : w.ownsRow base 62 5 v n (l.flatMap I5.cells ++ x.cells)) (hn : n = l.length + 1) : OwnI w base v (l ++ [x]) := by
  subst hn; unfold OwnI; rw [List.length_append, List.flatMap_append]; simpa using h
/-- append, as one step of a region that draws, onto a slice that the call owns -/
theorem step_append_own {P : Program} {ops : Array Oper} {o : Oper} {a : Act} {w : World} {K : Act → World → Prop} {Q : Exit → Act → World → Prop} {E : Prop}
    (hg : o.guard = none) (s x : Operand) (t : TypeId) (hop : o.op = Op.call { callee := Callee.builtin Builtin.append, args := #[s, x], argTypes := #[t, t] })
    (base : Nat) (e : TypeId) (i : TypeInfo) (z : Value) (size bytes : Nat) (ht : P.underlying t = some (.slice e)) (hi : P.info? e = some i) (hz : i.zero = some z)
    (hsize : i.size = size) (hby : i.bytes = bytes) (hzs : z.cells.size = size) (hsz : 0 < size)
    (v : Value) (n : Nat) (xs : List Value) (hs : a.eval s = v) (hown : w.ownsRow base e size v n xs)
    (ad : Addr) (m c : Nat) (news : List Value) (hx : a.eval x = .slice (some ad) m c) (hl : news.length = m * size) (hnews : ∀ j u, news[j]? = some u → w.cell? (ad.add j) = some u) (h1 : ∀ u ∈ news, u.oneCell' = true)
    (h63 : n + m ≤ maxLen) (hbytes : (n + m) * bytes ≤ 140737488355328) (hbase : base ≤ w.heap.size)
    (hK : ∀ v' w', w'.ownsRow base e size v' (n + m) (xs ++ news) → w.grownBy w' v.ownBlock → K (a.put o.dst v') w') :
    if Region.wanted o (yielded ops a.tmps) = true then Oper.wp P o a w K Q else E := by
  have hw : Region.wanted o (yielded ops a.tmps) = true := by simp [Region.wanted, hg]
  rw [if_pos hw]
  obtain ⟨v', w', hrun, h2, h3, _⟩ := run_append_own (P := P) w base t o.type e i z size bytes ht hi hz hsize hby hzs hsz v n xs hown ad m c news hl hnews h1 h63 hbytes hbase
  unfold Oper.wp
  simp [execOp, hop, resolve, invoke, builtin, hs, hx, hrun, Result.andThen]
  exact hK v' w' h2 h3
/-- so many instructions, one behind the other; what is left -/
def readN : Nat → List UInt8 → Option (List I5 × List UInt8)
  | 0, l => some ([], l)
  | n + 1, l => match readI l with
    | none => none
    | some (i, k) => match readN n (l.drop k) with
      | none => none
      | some (p, t) => some (i :: p, t)
def decP (l : List UInt8) : Option (List I5) :=
  match l with
  | [] => none
  | b :: r => match readN b.toNat r with
    | none => none
    | some (p, t) => if rightR p = (0, 0) ∧ t = [] then some p else none
def decE (l : List UInt8) : Int := if (decP l).isSome then 0 else 2
def decL (l : List UInt8) : List I5 := (decP l).getD []
theorem dec_none {l : List UInt8} (h : decP l = none) : decE l = 2 ∧ decL l = [] := by simp [decE, decL, h]
theorem dec_some {l : List UInt8} {p : List I5} (h : decP l = some p) : decE l = 0 ∧ decL l = p := by simp [decE, decL, h]
/-- what was read so far, put ahead -/
def aheadOf (ps : List I5) : Option (List I5 × List UInt8) → Option (List I5 × List UInt8)
  | none => none
  | some (q, t) => some (ps ++ q, t)
theorem readN_step {n k : Nat} {l : List UInt8} {ps : List I5} {i : I5} (h : readI l = some (i, k)) : aheadOf ps (readN (n + 1) l) = aheadOf (ps ++ [i]) (readN n (l.drop k)) := by
  simp only [readN, h]
  cases readN n (l.drop k) with
  | none => rfl
  | some x => obtain ⟨q, t⟩ := x; simp [aheadOf]
theorem readN_none {n : Nat} {l : List UInt8} {ps : List I5} (h : readI l = none) : aheadOf ps (readN (n + 1) l) = none := by
  simp only [readN, h]; rfl
theorem readI_some {l : List UInt8} {i : I5} {k : Nat} (h : readI l = some (i, k)) : 1 ≤ k ∧ k ≤ l.length ∧ k ≤ 12 ∧ 0 ≤ i.o ∧ i.o < 12 := by
  unfold readI at h
  cases l with
  | nil => simp at h
  | cons b r =>
    have h1 := nrN_le b.toNat
    have h2 := kbN_le b.toNat
    simp only at h
    split at h
    · simp at h
    · split at h
      · simp at h
      · simp only [Option.some.injEq, Prod.mk.injEq] at h
        obtain ⟨rfl, rfl⟩ := h
        exact ⟨by omega, by omega, by omega, by simp, by simp; omega⟩
theorem five_new (w : World) (x : I5) (t : TypeId) (g : Nat) (hg : g = w.heap.size) : ∀ j u, x.cells[j]? = some u → (w.alloc (.cells #[.int .i64 x.o, .int .i64 x.a, .int .i64 x.b, .int .i64 x.c, .int .i64 x.k] t)).cell? ((⟨g, 0, none⟩ : Addr).add j) = some u := by
  subst hg
  intro j u hj
  have hadd : (⟨w.heap.size, 0, none⟩ : Addr).add j = ⟨w.heap.size, j, none⟩ := by unfold Addr.add; split <;> simp_all
  rw [hadd, cell_of_row _ _ _ _ _ _ (heap_alloc_new w _)]
  simpa [I5.cells] using hj
theorem five_one (x : I5) : ∀ u ∈ x.cells, u.oneCell' = true := by
  intro u hu
  simp [I5.cells] at hu
  rcases hu with rfl | rfl | rfl | rfl | rfl <;> rfl
theorem ret_dec {v v' : Value} {a b : Int} (h : v = v') (k : a = b) : Ending.returned (.tuple #[v, .int .i64 a]) = .returned (.tuple #[v', .int .i64 b]) := by rw [h, k]
theorem cons_of (s : ByteArray) (hp : 0 < s.size) : s.data.toList = s[0] :: s.data.toList.drop 1 := by
  have hlen : s.data.toList.length = s.size := by rw [Array.length_toList]; rfl
  have : s.data.toList ≠ [] := fun e => by rw [e] at hlen; simp at hlen; omega
  rw [List.drop_one, ← List.cons_head_tail this]
  have h2 : s.data.toList.head this = s[0] := by rw [List.head_eq_getElem]; rfl
  rw [h2]; rfl
theorem decP_cons {s : ByteArray} (hp : 0 < s.size) : decP s.data.toList = match readN s[0].toNat (s.data.toList.drop 1) with
    | none => none
    | some (p, t) => if rightR p = (0, 0) ∧ t = [] then some p else none := by
  rw [congrArg decP (cons_of s hp)]; rfl
theorem tail_len {t : ByteArray} {k : Nat} (h : k ≤ t.data.toList.length) : k ≤ t.size := by rw [Array.length_toList] at h; exact h
set_option maxHeartbeats 1000000 in
set_option maxRecDepth 100000 in
theorem decode_some (s : ByteArray) (w : World) (hs : Shapes w) (hp : 0 < s.size) :
    Calls Tryz.prog 111 #[.string s] w fun e w' => ∃ v, e = .returned (.tuple #[v, .int .i64 (decE s.data.toList)]) ∧ OwnI w' w.heap.size v (decL s.data.toList) ∧ Below w.heap.size w w' := by
  have hd := empty_no hp
  have hwb := wb
  have hc256 := s[0].toNat_lt
  obtain ⟨i0, hi, hz0, hzs, hz2⟩ := info_parts Tryz.infoIns
  have hz1 := hs.1
  go_enter Tryz.func111, Tryz.ntmps111
  go_wp2_with fail
  go_quiet (fail)
  go_wp2_with (at_make; go_must (refine wpList_make_own _ rfl (.const (.int .i64 0)) (.tmp 18) 26 rfl w.heap.size 62 i0 _ 5 Tryz.underlying26 hi hz0 hzs .i64 .i64 s[0].toNat s[0].toNat rfl rfl rfl ?b2 ?b3 ?b4 ?_))
  case b2 => rw [hz2]; omega
  case b3 => unfold maxLen; omega
  case b4 => simp
  intro w1 hown1 hgrow1
  have hbl1 : Below w.heap.size w w1 := Below.grown (B := w.heap.size) (below_drewN (Below.refl _ _) _) hgrow1 (by simp) (fun k hk => by cases hk)
  clear hgrow1
  go_wp2_with fail
  go_loopw [5, 6, 21] (fun r p j wr => ∃ (n m : Nat) (ps : List I5) (t : ByteArray), n + m = s[0].toNat ∧ j = .int .i64 n ∧ r = .string t ∧ ps.length = n ∧ OwnI wr w.heap.size p ps ∧ Below w.heap.size w wr ∧ Hid (readN s[0].toNat (s.data.toList.drop 1) = aheadOf ps (readN m t.data.toList))) (fun _ _ j _ => s[0].toNat - (intOf j).toNat)
  case atStart =>
    refine ⟨0, s[0].toNat, [], s.extract 1 s.size, by omega, rfl, rfl, rfl, hown1, hbl1, hide ?_⟩
    rw [Lib.extract_to_end]
    cases readN s[0].toNat (s.data.toList.drop 1) with
    | none => rfl
    | some x => rfl
  case round =>
    clear hown1 hbl1
    obtain ⟨n, m, ps, t, hnm, rfl, rfl, hps, hown, hbl, hread⟩ := hrel
    have hsz := hbl.size
    have hs1 := hs.below hbl hs.1
    replace hps := hide hps
    match m, hnm, hread with
    | 0, hnm, hread =>
      have hr0 : Hid (readN s[0].toNat (s.data.toList.drop 1) = some (ps, t.data.toList)) := hide (by rw [hread.out]; simp [readN, aheadOf])
      go_wp2_with fail
      refine (codeRight_any ps _ _ hs1 hown.slc).mono ?_
      rintro e w2 ⟨rfl, hb2⟩
      rcases rightR_or ps with hr | hr
      · by_cases ht : t.size = 0
        · have hte := empty_yes ht
          have htl : t.data.toList = [] := List.eq_nil_of_length_eq_zero (by rw [Array.length_toList]; exact ht)
          have R : Hid (decP s.data.toList = some ps) := hide (by rw [decP_cons hp, hr0.out]; simp [hr, htl])
          have hown2 := hown.below hb2
          replace hr0 : True := trivial
          replace htl : True := trivial
          rw [hr]
          go_wp2
          go_ret2
          exact ⟨_, ret_dec rfl (dec_some R.out).1.symm, by rw [(dec_some R.out).2]; exact hown2, hbl.trans (hb2.mono hsz)⟩
        · have hte := empty_no (s := t) (by omega)
          have R : Hid (decP s.data.toList = none) := hide (by
            rw [decP_cons hp, hr0.out]; simp only
            rw [if_neg]
            rintro ⟨_, h⟩
            have : t.data.toList.length = t.size := by rw [Array.length_toList]; rfl
            rw [h] at this; simp at this; omega)
          rw [hr]
          go_wp2
          go_ret2
          exact ⟨_, ret_dec rfl (dec_none R.out).1.symm, by rw [(dec_none R.out).2]; exact World.ownsRow_nil _ _ _ _, hbl.trans (hb2.mono hsz)⟩
      · have R : Hid (decP s.data.toList = none) := hide (by rw [decP_cons hp, hr0.out]; simp; intro h; rw [h] at hr; simp at hr)
        rw [hr]
        go_wp2
        go_ret2
        exact ⟨_, ret_dec rfl (dec_none R.out).1.symm, by rw [(dec_none R.out).2]; exact World.ownsRow_nil _ _ _ _, hbl.trans (hb2.mono hsz)⟩
    | m + 1, hnm, hread =>
      have hlt : n < s[0].toNat := by omega
      cases hri : readI t.data.toList with
      | none =>
        have R : Hid (decP s.data.toList = none) := hide (by rw [decP_cons hp, hread.out, readN_none hri])
        have HRI := hide hri
        clear hri
        go_wp2_with fail
        refine (readIns_any t _ hs1).mono ?_
        rintro e w2 ⟨rfl, hb2⟩
        rw [HRI.out]
        unfold readVal noIns
        go_wp2
        go_ret2
        exact ⟨_, ret_dec rfl (dec_none R.out).1.symm, by rw [(dec_none R.out).2]; exact World.ownsRow_nil _ _ _ _, (hbl.trans (hb2.mono hsz)).alloc (by have := hb2.size; omega) _⟩
      | some x =>
        obtain ⟨i, k⟩ := x
        obtain ⟨hk1, hk2, hk3, _, _⟩ := readI_some hri
        have hk4 := tail_len hk2
        have hk0 : ((k : Int) == 0) = false := by rw [beq_eq_false_iff_ne]; omega
        have HRI := hide hri
        clear hri hk2
        go_wp2_with fail
        refine (readIns_any t _ hs1).mono ?_
        rintro e w2 ⟨rfl, hb2⟩
        rw [HRI.out]
        unfold readVal I5.val
        have hsz2 := hb2.size
        have hown2 := hown.below hb2
        go_wp2_with fail
        generalize hW3 : w2.alloc (.cells #[.int .i64 i.o, .int .i64 i.a, .int .i64 i.b, .int .i64 i.c, .int .i64 i.k] 62) = w3
        have hc3 := cell_of_row w3 w2.heap.size
        have hH : w3.heap[w2.heap.size]? = some (.cells #[.int .i64 i.o, .int .i64 i.a, .int .i64 i.b, .int .i64 i.c, .int .i64 i.k] 62 (0, 0)) := by rw [← hW3]; exact heap_alloc_new _ _
        have k0 := hc3 0 _ _ _ hH
        have k1 := hc3 1 _ _ _ hH
        have k2 := hc3 2 _ _ _ hH
        have k3 := hc3 3 _ _ _ hH
        have k4 := hc3 4 _ _ _ hH
        have hown3 : OwnI w3 w.heap.size u6 ps := by rw [← hW3]; exact World.ownsRow.alloc hown2 _
        have hbl3 : Below w.heap.size w w3 := by rw [← hW3]; exact (hbl.trans (hb2.mono hsz)).alloc (by omega) _
        have hsz3 : w.heap.size ≤ w3.heap.size := hbl3.size
        clear hH hc3 hW3
        simp at k0 k1 k2 k3 k4
        go_region_law (refine step_append_own rfl (.tmp 30) (.tmp 32) 26 rfl w.heap.size 62 i0 _ 5 40 Tryz.underlying26 hi hz0 hzs hz2 rfl (by decide) u6 ps.length (ps.flatMap I5.cells) (by simp [Act.eval]) (World.ownsRow.alloc hown3 _) ⟨w3.heap.size, 0, none⟩ 1 1 i.cells (by simp [Act.eval]) rfl (five_new _ i _ _ rfl) (five_one i) (by rw [hps.out]; unfold maxLen; omega) (by rw [hps.out]; omega) (by simp; omega) ?_; intro v4 w4 hown4 hgrow4)
        have hbl4 := (hbl3.drew.alloc (by exact hsz3) (.cells #[.int .i64 i.o, .int .i64 i.a, .int .i64 i.b, .int .i64 i.c, .int .i64 i.k] 62)).grown hgrow4 (by simp; omega) (fun k hk => (hown3.lt k hk).1)
        have hown4 := OwnI.push hown4 rfl
        have R := hide (Lib.extract_to_end t k)
        clear hown3 hbl3 hgrow4 k0 k1 k2 k3 k4 hown2 hb2 hbl hown
        go_wp2
        go_roundw
        case rel => exact ⟨n + 1, m, ps ++ [i], _, by omega, by go_num, rfl, by simp [hps.out], hown4, hbl4, hide (by rw [hread.out, readN_step HRI.out, R.out])⟩
        case measure => simp [intOf]; omega
set_option maxHeartbeats 400000 in
theorem decode_empty (s : ByteArray) (w : World) (hp : s.size = 0) :
    Calls Tryz.prog 111 #[.string s] w fun e w' => e = .returned (.tuple #[.slice none 0 0, .int .i64 2]) ∧ w' = w := by
  have hd := empty_yes hp
  go_enter Tryz.func111, Tryz.ntmps111
  go_wp2
  go_ret2
  exact ⟨rfl, rfl⟩
theorem codeDecode_any (s : ByteArray) (w : World) (hs : Shapes w) :
    Calls Tryz.prog 111 #[.string s] w fun e w' => ∃ v, e = .returned (.tuple #[v, .int .i64 (decE s.data.toList)]) ∧ OwnI w' w.heap.size v (decL s.data.toList) ∧ Below w.heap.size w w' := by
  by_cases hp : s.size = 0
  · have htl : s.data.toList = [] := List.eq_nil_of_length_eq_zero (by rw [Array.length_toList]; exact hp)
    have hd : decP s.data.toList = none := by rw [htl]; rfl
    refine (decode_empty s w hp).mono ?_
    rintro e w' ⟨rfl, rfl⟩
    exact ⟨_, ret_dec rfl (dec_none hd).1.symm, by rw [(dec_none hd).2]; exact World.ownsRow_nil _ _ _ _, Below.refl _ _⟩
  · exact decode_some s w hs (by omega)
set_option maxHeartbeats 400000 in
theorem Decode_any (s : ByteArray) (w : World) (hs : Shapes w) :
    Calls Tryz.prog 80 #[.string s] w fun e w' => ∃ v, e = .returned (.tuple #[v, .int .i64 (decE s.data.toList)]) ∧ OwnI w' w.heap.size v (decL s.data.toList) ∧ Below w.heap.size w w' := by
  go_enter Tryz.func80, Tryz.ntmps80
  go_wp2_with fail
  refine (codeDecode_any s _ hs).mono ?_
  rintro e w' ⟨v, rfl, ho, hb⟩
  go_wp2
  go_ret2
  exact ⟨_, rfl, ho, hb⟩
end Go.Proofs.YtamiichlbmllcaaGreatDoor
