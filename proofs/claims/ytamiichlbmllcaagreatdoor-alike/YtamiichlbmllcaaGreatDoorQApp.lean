/-
  The contracts of code.appendInstruction, code.Encode and surety.Encode.
-/
import Derived.Test.YtamiichlbmllcaaGreatDoorQRI
namespace Go.Proofs.YtamiichlbmllcaaGreatDoor
open Go.RowKit
theorem Tryz.info5 : (Tryz.prog.info? 5).map (fun i => (i.zero, i.size, i.bytes)) = some (some (.int .u8 0), 1, 1) := by kernel_rfl
/-- what stands in the call's own blocks while it appends -/
structure AppSt (w wr : World) (base N R : Nat) (i : I5) (nr kb : Nat) : Prop where
  bel : Below base w wr
  bi : wr.heap[N]? = some (.cells #[.int .i64 i.o, .int .i64 i.a, .int .i64 i.b, .int .i64 i.c, .int .i64 i.k] 62 (0, 0))
  bs : wr.heap[N + 1]? = some (.cells #[.int .i64 nr, .int .i64 kb, .int .i64 (1 + nr + kb)] 165 (0, 0))
  br : wr.heap[R]? = some (.cells #[.int .i64 i.a, .int .i64 i.b, .int .i64 i.c] 167 (0, 0))
theorem block_other {w w' : World} {base e size n g : Nat} {v : Value} {xs : List Value} {o : Obj} {t : TypeId} {A : Array Value} (hown : w.ownsRow base e size v n xs) (hg : (w.alloc o).grownBy w' v.ownBlock)
    (h : w.heap[g]? = some (.cells A t (0, 0))) (hte : t ≠ e) : w'.heap[g]? = some (.cells A t (0, 0)) := by
  have hlt := lt_of_block h
  rw [hg.block g (by simp; omega) ?_, Below.heap_alloc w o g hlt, h]
  intro hx
  rcases hown.2 with ⟨rfl, _⟩ | ⟨g', cap, cur, rfl, _, hh, _⟩
  · simp [Value.ownBlock] at hx
  · simp [Value.ownBlock] at hx
    subst hx
    rw [h] at hh
    simp at hh
    exact hte hh.2
theorem one_newA (w : World) (x : Value) (t : TypeId) (g : Nat) (hg : g = w.heap.size) : ∀ j u, [x][j]? = some u → (w.alloc (.cells #[x] t)).cell? ((⟨g, 0, none⟩ : Addr).add j) = some u := by
  subst hg; exact cell_one_new _ _ _
theorem one_int (k : IntKind) (x : Int) : ∀ u ∈ [Value.int k x], u.oneCell' = true := by
  intro u hu; simp at hu; subst hu; rfl
theorem AppSt.grown {w wr w' : World} {base N R n : Nat} {i : I5} {nr kb : Nat} {v : Value} {xs : List Value} {o : Obj} (h : AppSt w wr base N R i nr kb) (hb : base ≤ wr.heap.size) (hown : wr.ownsRow base 5 1 v n xs) (hg : (wr.alloc o).grownBy w' v.ownBlock) : AppSt w w' base N R i nr kb :=
  ⟨(h.bel.alloc hb o).grown hg (by simp; omega) (fun k hk => (hown.lt k hk).1), block_other hown hg h.bi (by decide), block_other hown hg h.bs (by decide), block_other hown hg h.br (by decide)⟩
theorem heap_alloc_new' (w : World) (o : Obj) (k : Nat) (h : k = w.heap.size) : (w.alloc o).heap[k]? = some o := by subst h; exact heap_alloc_new _ _
def b8 (x : Int) : UInt8 := UInt8.ofNat (x % 256).toNat
theorem b8_nat (x : Int) : ((b8 x).toNat : Int) = x % 256 := by
  unfold b8; rw [UInt8.toNat_ofNat']; omega
def B8 (b : UInt8) : Value := .int .u8 b.toNat
theorem B8_op {o : Int} (h0 : 0 ≤ o) (h1 : o < 12) : Value.int .u8 o = B8 (b8 o) := by unfold B8; rw [b8_nat]; congr; omega
def regN (i : I5) (j : Nat) : Int := if j = 0 then i.a else if j = 1 then i.b else i.c
theorem AppSt.reg {w wr : World} {base N R : Nat} {i : I5} {nr kb : Nat} (h : AppSt w wr base N R i nr kb) (j : Nat) (hj : j < 3) : wr.cell? ⟨R, j, none⟩ = some (.int .i64 (regN i j)) := by
  rw [cell_of_row _ _ _ _ _ _ h.br]
  match j, hj with
  | 0, _ => rfl
  | 1, _ => rfl
  | 2, _ => rfl
  | j + 3, h => omega
theorem AppSt.at {w wr : World} {base N R : Nat} {i : I5} {nr kb : Nat} (h : AppSt w wr base N R i nr kb) : wr.cell? ⟨N, 0, none⟩ = some (.int .i64 i.o) ∧ wr.cell? ⟨N, 4, none⟩ = some (.int .i64 i.k) ∧ wr.cell? ⟨N + 1, 0, none⟩ = some (.int .i64 nr) ∧ wr.cell? ⟨N + 1, 1, none⟩ = some (.int .i64 kb) := by
  rw [cell_of_row _ _ _ _ _ _ h.bi, cell_of_row _ _ _ _ _ _ h.bi, cell_of_row _ _ _ _ _ _ h.bs, cell_of_row _ _ _ _ _ _ h.bs]
  exact ⟨rfl, rfl, rfl, rfl⟩
theorem AppSt.lt {w wr : World} {base N R : Nat} {i : I5} {nr kb : Nat} (h : AppSt w wr base N R i nr kb) : N < wr.heap.size ∧ N + 1 < wr.heap.size ∧ R < wr.heap.size :=
  ⟨lt_of_block h.bi, lt_of_block h.bs, lt_of_block h.br⟩
/-- the bytes of an instruction -/
def encR (i : I5) (j : Nat) : List UInt8 := (List.range j).map fun n => b8 (regN i n)
def encK (i : I5) (j : Nat) : List UInt8 := (List.range j).map fun n => b8 ((i.k % 18446744073709551616) / 2 ^ (8 * n))
theorem encR_succ (i : I5) (j : Nat) : encR i (j + 1) = encR i j ++ [b8 (regN i j)] := by simp [encR, List.range_succ]
theorem encK_succ (i : I5) (j : Nat) : encK i (j + 1) = encK i j ++ [b8 ((i.k % 18446744073709551616) / 2 ^ (8 * j))] := by simp [encK, List.range_succ]
def OwnB (w : World) (base : Nat) (v : Value) (ys : List UInt8) : Prop := w.ownsRow base 5 1 v ys.length (ys.map B8)
theorem OwnB.push {w : World} {base n : Nat} {v : Value} {ys : List UInt8} {b : UInt8} (h : w.ownsRow base 5 1 v n (ys.map B8 ++ [B8 b])) (hn : n = ys.length + 1) : OwnB w base v (ys ++ [b]) := by
  subst hn; unfold OwnB; rw [List.length_append, List.map_append]; exact h
theorem B8_of {x : Int} : Value.int .u8 (x % 256) = B8 (b8 x) := by unfold B8; rw [b8_nat]
theorem OwnB.below {w w' : World} {base : Nat} {v : Value} {ys : List UInt8} (h : OwnB w base v ys) (hb : Below w.heap.size w w') : OwnB w' base v ys := by
  unfold OwnB at *
  refine ⟨h.1, ?_⟩
  rcases h.2 with h2 | ⟨g, cap, cur, hv, hg, hh, r⟩
  · exact Or.inl h2
  · exact Or.inr ⟨g, cap, cur, hv, hg, by rw [hb.block g (lt_of_block hh)]; exact hh, r⟩
set_option maxHeartbeats 1000000 in
set_option maxRecDepth 100000 in
theorem appendIns_nk (i : I5) (v : Value) (nr kb base : Nat) (xs : List UInt8) (w : World) (hz : 0 < w.heap.size) (ho0 : 0 ≤ i.o) (ho1 : i.o < 12) (hb : base ≤ w.heap.size) (hown : OwnB w base v xs) (hn : xs.length ≤ 100000) (h3 : nr ≤ 3) (h8 : kb ≤ 8)
    (c0 : w.cell? ⟨0, i.o.toNat * 3, none⟩ = some (.int .i64 nr)) (c1 : w.cell? ⟨0, i.o.toNat * 3 + 1, none⟩ = some (.int .i64 kb)) (c2 : w.cell? ⟨0, i.o.toNat * 3 + 2, none⟩ = some (.int .i64 (1 + nr + kb))) :
    Calls Tryz.prog 121 #[v, i.val] w fun e w' => ∃ v', e = .returned v' ∧ OwnB w' base v' (xs ++ [b8 i.o] ++ encR i nr ++ encK i kb) ∧ Below base w w' := by
  unfold I5.val
  obtain ⟨i0, hi, hz0, hzs, hz2⟩ := info_parts Tryz.info5
  have E1 := hide (B8_op ho0 ho1)
  go_enter Tryz.func121, Tryz.ntmps121
  go_wp2_with fail
  refine (registersOf_any _ _ _ _ _ _).mono ?_
  rintro e w1 ⟨rfl, hb1⟩
  have hz1 := hb1.size
  simp at hz1
  have hown1 : OwnB (w1.alloc (.cells #[.int .i64 i.a, .int .i64 i.b, .int .i64 i.c] 167)) base v xs :=
    hown.below ((((Below.refl _ _).alloc (Nat.le_refl _) _).alloc (by simp) _ |>.trans (hb1.mono (by simp; omega))).alloc (by omega) _)
  have st : AppSt w (w1.alloc (.cells #[.int .i64 i.a, .int .i64 i.b, .int .i64 i.c] 167)) base w.heap.size w1.heap.size i nr kb := by
    refine ⟨((((Below.refl _ _).alloc (Nat.le_refl _) _).alloc (by simp) _ |>.trans (hb1.mono (by simp; omega))).alloc (by omega) _).mono hb, ?_, ?_, heap_alloc_new _ _⟩
    · rw [Below.heap_alloc _ _ _ (by omega), hb1.block _ (by simp; omega), Below.heap_alloc _ _ _ (by simp)]; exact heap_alloc_new _ _
    · rw [Below.heap_alloc _ _ _ (by omega), hb1.block _ (by simp)]; exact heap_alloc_new' _ _ _ (by simp)
  clear c0 c1 c2
  obtain ⟨k0, k4, k5, k6⟩ := st.at
  go_wp2_with (at_builtin; go_must (refine wpList_append_own _ rfl (.tmp 15) (.tmp 19) 210 rfl base 5 i0 (.int .u8 0) 1 1 Tryz.underlying210 hi hz0 hzs hz2 rfl (by decide) v xs.length (xs.map B8) rfl ?hO ⟨w1.heap.size + 1, 0, none⟩ 1 1 [B8 (b8 i.o)] rfl rfl ?hN (one_int _ _) (by unfold maxLen; omega) (by omega) ?hB ?_))
  case hO => exact World.ownsRow.alloc hown1 _
  case hN => rw [E1.out]; exact one_newA _ _ _ _ (by simp)
  case hB => simp; omega
  intro v1 w2 hown2 hgrow _
  have st2 := st.grown (by simp; omega) hown1 hgrow
  have hsz2 := hgrow.size
  simp at hsz2
  have hown2 := OwnB.push hown2 rfl
  clear hgrow hown1 hown k0 k4 k5 k6 st
  obtain ⟨k0, k4, k5, k6⟩ := st2.at
  go_wp2_with fail
  go_loopw [0, 23] (fun v j wr => ∃ (n : Nat) (ys : List UInt8), n ≤ nr ∧ j = .int .i64 n ∧ base ≤ wr.heap.size ∧ Hid (ys = xs ++ [b8 i.o] ++ encR i n) ∧ OwnB wr base v ys ∧ AppSt w wr base w.heap.size w1.heap.size i nr kb) (fun _ j _ => nr - (intOf j).toNat)
  case atStart => exact ⟨0, _, by omega, rfl, by omega, hide rfl, by simpa [encR] using hown2, st2⟩
  case round =>
    clear k0 k4 k5 k6 st2 hown2
    obtain ⟨n, ys, hn, rfl, hbr, hys, hownr, str⟩ := hrel
    obtain ⟨k0, k4, k5, k6⟩ := str.at
    have hL : ys.length = xs.length + 1 + n := by rw [hys.out]; simp [encR]; omega
    replace hL := hide hL
    by_cases hlt : n < nr
    · have kr := str.reg n (by omega)
      go_wp2_with (at_builtin; go_must (refine wpList_append_own _ rfl (.tmp 26) (.tmp 31) 210 rfl base 5 i0 (.int .u8 0) 1 1 Tryz.underlying210 hi hz0 hzs hz2 rfl (by decide) u0 ys.length (ys.map B8) rfl ?hO2 ⟨wr.heap.size, 0, none⟩ 1 1 [B8 (b8 (regN i n))] rfl rfl ?hN2 (one_int _ _) ?h63 ?h64 ?hB2 ?_))
      case hO2 => exact World.ownsRow.alloc hownr _
      case hN2 => rw [B8_of]; exact one_newA _ _ _ _ rfl
      case h63 => have := hL.out; unfold maxLen; omega
      case h64 => have := hL.out; omega
      case hB2 => simp; omega
      intro v2 w3 hown3 hgrow3 _
      have st3 := str.grown hbr hownr hgrow3
      have hsz3 := hgrow3.size
      simp at hsz3
      have hown3 := OwnB.push hown3 rfl
      clear hgrow3 kr k0 k4 k5 k6 str hownr
      go_wp2
      go_roundw
      case rel => exact ⟨n + 1, _, by omega, by go_num, by omega, hide (by rw [encR_succ, hys.out]; simp), hown3, st3⟩
      case measure => simp [intOf]; omega
    · have en : n = nr := by omega
      subst en
      go_wp2_with fail
      go_loopw [0, 36] (fun v j wr => ∃ (m : Nat) (zs : List UInt8), m ≤ kb ∧ j = .int .i64 m ∧ base ≤ wr.heap.size ∧ Hid (zs = xs ++ [b8 i.o] ++ encR i n ++ encK i m) ∧ OwnB wr base v zs ∧ AppSt w wr base w.heap.size w1.heap.size i n kb) (fun _ j _ => kb - (intOf j).toNat)
      case atStart => exact ⟨0, _, by omega, rfl, hbr, hide (by rw [hys.out]; simp [encK]), hownr, str⟩
      case round =>
        clear k0 k4 k5 k6 str hownr hL
        obtain ⟨m, zs, hm, rfl, hbr2, hzs2, hownr2, str2⟩ := hrel
        obtain ⟨k0, k4, k5, k6⟩ := str2.at
        have hL : zs.length = xs.length + 1 + n + m := by rw [hzs2.out]; simp [encR, encK]; omega
        replace hL := hide hL
        by_cases hlt2 : m < kb
        · go_wp2_with (at_builtin; go_must (refine wpList_append_own _ rfl (.tmp 39) (.tmp 47) 210 rfl base 5 i0 (.int .u8 0) 1 1 Tryz.underlying210 hi hz0 hzs hz2 rfl (by decide) u0 zs.length (zs.map B8) rfl ?hO3 ⟨wr.heap.size, 0, none⟩ 1 1 [B8 (b8 ((i.k % 18446744073709551616) / 2 ^ (8 * m)))] rfl rfl ?hN3 (one_int _ _) ?h65 ?h66 ?hB3 ?_))
          case hO3 => exact World.ownsRow.alloc hownr2 _
          case hN3 => rw [B8_of, IntKind.wrap_u64]; exact one_newA _ _ _ _ rfl
          case h65 => have := hL.out; unfold maxLen; omega
          case h66 => have := hL.out; omega
          case hB3 => simp; omega
          intro v2 w3 hown3 hgrow3 _
          have st3 := str2.grown hbr2 hownr2 hgrow3
          have hsz3 := hgrow3.size
          simp at hsz3
          have hown3 := OwnB.push hown3 rfl
          clear hgrow3 k0 k4 k5 k6 str2 hownr2
          go_wp2
          go_roundw
          case rel => exact ⟨m + 1, _, by omega, by go_num, by omega, hide (by rw [encK_succ, hzs2.out]; simp), hown3, st3⟩
          case measure => simp [intOf]; omega
        · have em : m = kb := by omega
          subst em
          go_wp2
          go_ret
          exact ⟨_, rfl, by rw [← hzs2.out]; exact hownr2, str2.bel⟩
def encI (i : I5) : List UInt8 := [b8 i.o] ++ encR i (nregs i.o).toNat ++ encK i (kbytes i.o).toNat
theorem encI_len (i : I5) : (encI i).length ≤ 12 := by
  have := nregs_bd i.o; have := kb_three i.o
  simp [encI, encR, encK]; omega
theorem appendIns_any (i : I5) (v : Value) (base : Nat) (xs : List UInt8) (w : World) (hs : Shapes w) (ho : 0 ≤ i.o ∧ i.o < 12) (hb : base ≤ w.heap.size) (hown : OwnB w base v xs) (hn : xs.length ≤ 100000) :
    Calls Tryz.prog 121 #[v, .agg #[.int .i64 i.o, .int .i64 i.a, .int .i64 i.b, .int .i64 i.c, .int .i64 i.k]] w fun e w' => ∃ v', e = .returned v' ∧ OwnB w' base v' (xs ++ encI i) ∧ Below base w w' := by
  obtain ⟨c0, c1, c2⟩ := hs.2 i.o ho.1 ho.2
  have hr := nregs_bd i.o
  have hk := kb_three i.o
  have e1 : nregs i.o = ((nregs i.o).toNat : Int) := by omega
  have e2 : kbytes i.o = ((kbytes i.o).toNat : Int) := by omega
  rw [e1] at c0
  rw [e2] at c1
  rw [e1, e2] at c2
  have := appendIns_nk i v (nregs i.o).toNat (kbytes i.o).toNat base xs w hs.1 ho.1 ho.2 hb hown hn (by omega) (by omega) c0 c1 c2
  unfold encI
  rw [← List.append_assoc, ← List.append_assoc]
  exact this
theorem ret_str {a b : List UInt8} (h : a = b) : Ending.returned (.string ⟨a.toArray⟩) = .returned (.string ⟨b.toArray⟩) := by rw [h]
def encP (l : List I5) : List UInt8 := b8 l.length :: l.flatMap encI
theorem flat_len (l : List I5) : (l.flatMap encI).length ≤ 12 * l.length := by
  induction l with
  | nil => simp
  | cons x r ih => have := encI_len x; simp only [List.flatMap_cons, List.length_append, List.length_cons]; omega
theorem flat_take (l : List I5) (n : Nat) (h : n < l.length) : (l.take (n + 1)).flatMap encI = (l.take n).flatMap encI ++ encI l[n] := by
  rw [List.take_succ_eq_append_getElem h, List.flatMap_append]; simp
theorem OwnB.text {w : World} {base : Nat} {v : Value} {ys : List UInt8} (h : OwnB w base v ys) (hy : 0 < ys.length) : ∃ g cap, v = .slice (some ⟨g, 0, none⟩) ys.length cap ∧ ∀ j (hj : j < ys.length), w.cell? ((⟨g, 0, none⟩ : Addr).add j) = some (.int .u8 (ys[j].toNat : Int)) := by
  have h0 := h
  rcases h.2 with ⟨_, h2⟩ | ⟨g, cap, cur, rfl, _⟩
  · omega
  · refine ⟨g, cap, rfl, fun j hj => ?_⟩
    refine World.ownsRow.cells h0 rfl j _ ?_
    rw [List.getElem?_map, List.getElem?_eq_getElem hj]; rfl
set_option maxHeartbeats 1000000 in
set_option maxRecDepth 100000 in
theorem encode_some (l : List I5) (b off cap : Nat) (w : World) (hs : Shapes w) (hb : b < w.heap.size) (hl : l.length ≤ 64) (hi : ∀ i (h : i < l.length), InsAt w b (off + i * 5) l[i]) (ho : ∀ i (h : i < l.length), 0 ≤ l[i].o ∧ l[i].o < 12) :
    Calls Tryz.prog 108 #[.slice (some ⟨b, off, none⟩) l.length cap] w fun e w' => e = .returned (.string ⟨(encP l).toArray⟩) ∧ Below w.heap.size w w' := by
  have E1 : Hid (Value.int .u8 (l.length : Int) = B8 (b8 l.length)) := hide (by unfold B8; rw [b8_nat, Int.emod_eq_of_lt (by omega) (by omega)])
  go_enter Tryz.func108, Tryz.ntmps108
  go_wp2_with fail
  go_loopw [3, 12] (fun v j wr => ∃ (n : Nat) (ys : List UInt8), n ≤ l.length ∧ j = .int .i64 n ∧ Hid (ys = b8 l.length :: (l.take n).flatMap encI) ∧ OwnB wr w.heap.size v ys ∧ Below w.heap.size w wr) (fun _ j _ => l.length - (intOf j).toNat)
  case atStart =>
    refine ⟨0, [b8 l.length], by omega, rfl, hide (by simp), ?_, (Below.refl _ _).alloc (Nat.le_refl _) _⟩
    rw [E1.out]
    exact World.ownsRow_lit _ _ _ (Nat.le_refl _) (by unfold maxLen; simp) rfl
  case round =>
    obtain ⟨n, ys, hn, rfl, hys, hownr, hbl⟩ := hrel
    have hz := hbl.size
    have hL : ys.length ≤ 1 + 12 * l.length := by
      have := flat_len (l.take n)
      rw [List.length_take] at this
      rw [hys.out, List.length_cons]; omega
    by_cases hlt : n < l.length
    · obtain ⟨c0, c1, c2, c3, c4⟩ := (hi n hlt).below hbl hb
      have hs1 := hs.below hbl hs.1
      have hop := hide (ho n hlt)
      go_wp2_with fail
      refine (appendIns_any l[n] _ w.heap.size ys _ (hs1.below ((Below.refl _ _).alloc (Nat.le_refl _) _) hs1.1) hop.out (by simp; omega) (World.ownsRow.alloc hownr _) (by omega)).mono ?_
      rintro e w2 ⟨v2, rfl, hown2, hb2⟩
      have hbl2 := (hbl.alloc hz _).trans hb2
      clear hb2 hownr
      go_wp2
      go_roundw
      case rel => exact ⟨n + 1, _, by omega, by go_num, hide (by rw [flat_take l n hlt, hys.out]; simp), hown2, hbl2⟩
      case measure => simp [intOf]; omega
    · have R : Hid (ys = encP l) := hide (by rw [hys.out, List.take_of_length_le (by omega)]; rfl)
      obtain ⟨g, cap2, hv, hcells⟩ := hownr.text (by rw [hys.out]; simp)
      subst hv
      have hcv := run_convert_bytes_back (P := Tryz.prog) wr 210 9 5 ⟨g, 0, none⟩ cap2 ys Tryz.underlying210 Tryz.underlying5 Tryz.underlying9 hcells
      clear hcells hownr
      go_wp2
      go_ret
      exact ⟨ret_str R.out, hbl⟩
theorem fits_op {i : I5} {n : Int} (h : i.fits n = true) : 0 ≤ i.o ∧ i.o < 12 := by
  simp [I5.fits, fitsB] at h; exact ⟨h.1.1.1.1.1, h.1.1.1.1.2⟩
theorem right_fits {l : List I5} (h : rightR l = (0, 0)) : 0 < l.length ∧ l.length ≤ 64 ∧ ∀ i (h : i < l.length), l[i].fits l.length = true := by
  unfold rightR at h
  by_cases hl : l.length = 0 ∨ 64 < l.length
  · rw [if_pos hl] at h; simp at h
  · rw [if_neg hl] at h
    cases hb : badFrom l l.length with
    | some j => rw [hb] at h; simp at h
    | none =>
      refine ⟨by omega, by omega, fun i hi => ?_⟩
      unfold badFrom at hb
      rw [List.findIdx?_eq_none_iff] at hb
      simpa using hb _ (List.getElem_mem hi)
theorem rightR_or (l : List I5) : rightR l = (0, 0) ∨ (rightR l).1 = 1 := by
  unfold rightR
  split
  · exact Or.inr rfl
  · cases badFrom l l.length with
    | some j => exact Or.inr rfl
    | none => exact Or.inl rfl
set_option maxHeartbeats 400000 in
theorem Encode_yes (l : List I5) (v : Value) (w : World) (hs : Shapes w) (h : Slc w v l) (hr : rightR l = (0, 0)) :
    Calls Tryz.prog 77 #[v] w fun e w' => e = .returned (.tuple #[.string ⟨(encP l).toArray⟩, .int .i64 0]) ∧ Below w.heap.size w w' := by
  obtain ⟨h1, h2, h3⟩ := right_fits hr
  have HR := hide hr
  clear hr
  rcases h with ⟨_, rfl⟩ | ⟨b, off, cap, rfl, hb, hi⟩
  · simp at h1
  have hS : Slc w (.slice (some ⟨b, off, none⟩) l.length cap) l := Or.inr ⟨b, off, cap, rfl, hb, hi⟩
  have HF := hide h3
  clear h3
  go_enter Tryz.func77, Tryz.ntmps77
  go_wp2_with fail
  refine (codeRight_any l _ _ hs hS).mono ?_
  rintro e w1 ⟨rfl, hb1⟩
  rw [HR.out]
  go_wp2_with fail
  refine (encode_some l b off cap w1 (hs.below hb1 hs.1) (by have := hb1.size; omega) h2 (fun i h => (hi i h).below hb1 hb) (fun i h => fits_op (HF.out i h))).mono ?_
  rintro e w2 ⟨rfl, hb2⟩
  go_wp2
  go_ret2
  exact ⟨rfl, hb1.trans (hb2.mono hb1.size)⟩
set_option maxHeartbeats 400000 in
theorem Encode_no (l : List I5) (v : Value) (w : World) (hs : Shapes w) (h : Slc w v l) (hr : (rightR l).1 = 1) :
    Calls Tryz.prog 77 #[v] w fun e w' => e = .returned (.tuple #[.string ⟨#[]⟩, .int .i64 1]) ∧ Below w.heap.size w w' := by
  have HR := hide hr
  clear hr
  go_enter Tryz.func77, Tryz.ntmps77
  go_wp2_with fail
  refine (codeRight_any l _ _ hs h).mono ?_
  rintro e w1 ⟨rfl, hb1⟩
  rw [HR.out]
  go_wp2
  go_ret2
  exact ⟨rfl, hb1⟩
end Go.Proofs.YtamiichlbmllcaaGreatDoor
