import Derived.Test.YtamiichlbmllcabGreatDoorQRI
import Derived.Deep.RegionLaw
import Derived.Deep.QuietTactic
import Derived.BigQuiet
import Derived.Lib.IndexBytes
import Derived.Test.YtamiichlbmllcabGreatDoorRows
import Derived.ProofKit
import Derived.LaidMore
import Derived.OpenShut
import Derived.Stop.Joined
import Derived.Deep.Slices
import Derived.Deep.Strs
import Derived.Deep.MidRow
import Derived.Laws.NewFold
import Derived.Deep.RegionHeld3
set_option maxRecDepth 100000
set_option maxHeartbeats 32000000
namespace Go.Proofs.YtamiichlbmllcabGreatDoor
open Go.RowKit
theorem Tryz.info5 : (Tryz.prog.info? 5).map (fun i => (i.zero, i.size, i.bytes)) = some (some (.int .u8 0), 1, 1) := by kernel_rfl
structure AppSt (w wr : World) (base N R : Nat) (i : I5) (nr kb : Nat) : Prop where
 bel : Below base w wr
 bi : wr.heap[N]? = some (.cells #[.int .i64 i.o, .int .i64 i.a, .int .i64 i.b, .int .i64 i.c, .int .i64 i.k] 35 (0, 0))
 bs : wr.heap[N + 1]? = some (.cells #[.int .i64 nr, .int .i64 kb, .int .i64 (1 + nr + kb)] 181 (0, 0))
 br : wr.heap[R]? = some (.cells #[.int .i64 i.a, .int .i64 i.b, .int .i64 i.c] 183 (0, 0))
theorem block_other {w w' : World} {base e size n g : Nat} {v : Value} {xs : List Value} {o : Obj} {t : TypeId} {A : Array Value} (hown : w.ownsRow base e size v n xs) (hg : (w.alloc o).grownBy w' v.ownBlock)
 (h : w.heap[g]? = some (.cells A t (0, 0))) (hte : t ≠ e) : w'.heap[g]? = some (.cells A t (0, 0)) := by
 have hlt := lt_of_block h
 rw [hg.block g (by simp; omega) ?_, Below.heap_alloc w o g hlt, h]
 intro hx
 rcases hown.2 with ⟨rfl, _⟩ | ⟨g', cap, cur, rfl, _, hh, _⟩
 · simp [Value.ownBlock] at hx
 · simp [Value.ownBlock] at hx
   subst hx
   rw [h] at hh
   simp at hh
   exact hte hh.2
theorem one_newA (w : World) (x : Value) (t : TypeId) (g : Nat) (hg : g = w.heap.size) : ∀ j u, [x][j]? = some u -> (w.alloc (.cells #[x] t)).cell? ((⟨g, 0, none⟩ : Addr).add j) = some u := by
 subst hg; exact cell_one_new _ _ _
theorem one_int (k : IntKind) (x : Int) : ∀ u ∈ [Value.int k x], u.oneCell' = true := by
 intro u hu; simp at hu; subst hu; rfl
theorem AppSt.grown {w wr w' : World} {base N R n : Nat} {i : I5} {nr kb : Nat} {v : Value} {xs : List Value} {o : Obj} (h : AppSt w wr base N R i nr kb) (hb : base <= wr.heap.size) (hown : wr.ownsRow base 5 1 v n xs) (hg : (wr.alloc o).grownBy w' v.ownBlock) : AppSt w w' base N R i nr kb :=
 ⟨(h.bel.alloc hb o).grown hg (by simp; omega) (fun k hk => (hown.lt k hk).1), block_other hown hg h.bi (by decide), block_other hown hg h.bs (by decide), block_other hown hg h.br (by decide)⟩
theorem heap_alloc_new' (w : World) (o : Obj) (k : Nat) (h : k = w.heap.size) : (w.alloc o).heap[k]? = some o := by subst h; exact heap_alloc_new _ _
def b8 (x : Int) : UInt8 := UInt8.ofNat (x % 256).toNat
theorem b8_nat (x : Int) : ((b8 x).toNat : Int) = x % 256 := by
 unfold b8; rw [UInt8.toNat_ofNat']; omega
def B8 (b : UInt8) : Value := .int .u8 b.toNat
theorem B8_op {o : Int} (h0 : 0 <= o) (h1 : o < 12) : Value.int .u8 o = B8 (b8 o) := by unfold B8; rw [b8_nat]; congr; omega
def regN (i : I5) (j : Nat) : Int := if j = 0 then i.a else if j = 1 then i.b else i.c
theorem AppSt.reg {w wr : World} {base N R : Nat} {i : I5} {nr kb : Nat} (h : AppSt w wr base N R i nr kb) (j : Nat) (hj : j < 3) : wr.cell? ⟨R, j, none⟩ = some (.int .i64 (regN i j)) := by
 rw [cell_of_row _ _ _ _ _ _ h.br]
 match j, hj with
 | 0, _ => rfl
 | 1, _ => rfl
 | 2, _ => rfl
 | j + 3, h => omega
theorem AppSt.at {w wr : World} {base N R : Nat} {i : I5} {nr kb : Nat} (h : AppSt w wr base N R i nr kb) : wr.cell? ⟨N, 0, none⟩ = some (.int .i64 i.o) /\ wr.cell? ⟨N, 4, none⟩ = some (.int .i64 i.k) /\ wr.cell? ⟨N + 1, 0, none⟩ = some (.int .i64 nr) /\ wr.cell? ⟨N + 1, 1, none⟩ = some (.int .i64 kb) := by
 rw [cell_of_row _ _ _ _ _ _ h.bi, cell_of_row _ _ _ _ _ _ h.bi, cell_of_row _ _ _ _ _ _ h.bs, cell_of_row _ _ _ _ _ _ h.bs]
 exact ⟨rfl, rfl, rfl, rfl⟩
def encR (i : I5) (j : Nat) : List UInt8 := (List.range j).map fun n => b8 (regN i n)
def encK (i : I5) (j : Nat) : List UInt8 := (List.range j).map fun n => b8 ((i.k % 18446744073709551616) / 2 ^ (8 * n))
theorem encR_succ (i : I5) (j : Nat) : encR i (j + 1) = encR i j ++ [b8 (regN i j)] := by simp [encR, List.range_succ]
theorem encK_succ (i : I5) (j : Nat) : encK i (j + 1) = encK i j ++ [b8 ((i.k % 18446744073709551616) / 2 ^ (8 * j))] := by simp [encK, List.range_succ]
def OwnB (w : World) (base : Nat) (v : Value) (ys : List UInt8) : Prop := w.ownsRow base 5 1 v ys.length (ys.map B8)
theorem OwnB.push {w : World} {base n : Nat} {v : Value} {ys : List UInt8} {b : UInt8} (h : w.ownsRow base 5 1 v n (ys.map B8 ++ [B8 b])) (hn : n = ys.length + 1) : OwnB w base v (ys ++ [b]) := by
 subst hn; unfold OwnB; rw [List.length_append, List.map_append]; exact h
theorem B8_of {x : Int} : Value.int .u8 (x % 256) = B8 (b8 x) := by unfold B8; rw [b8_nat]
theorem OwnB.below {w w' : World} {base : Nat} {v : Value} {ys : List UInt8} (h : OwnB w base v ys) (hb : Below w.heap.size w w') : OwnB w' base v ys := by
 unfold OwnB at *
 refine ⟨h.1, ?_⟩
 rcases h.2 with h2 | ⟨g, cap, cur, hv, hg, hh, r⟩
 · exact Or.inl h2
 · exact Or.inr ⟨g, cap, cur, hv, hg, by rw [hb.block g (lt_of_block hh)]; exact hh, r⟩
theorem appendIns_nk (i : I5) (v : Value) (nr kb base : Nat) (xs : List UInt8) (w : World) (hz : 0 < w.heap.size) (ho0 : 0 <= i.o) (ho1 : i.o < 12) (hb : base <= w.heap.size) (hown : OwnB w base v xs) (hn : xs.length <= 100000) (h3 : nr <= 3) (h8 : kb <= 8)
 (c0 : w.cell? ⟨0, i.o.toNat * 3, none⟩ = some (.int .i64 nr)) (c1 : w.cell? ⟨0, i.o.toNat * 3 + 1, none⟩ = some (.int .i64 kb)) (c2 : w.cell? ⟨0, i.o.toNat * 3 + 2, none⟩ = some (.int .i64 (1 + nr + kb))) :
 Calls Tryz.prog 85 #[v, i.val] w fun e w' => ∃ v', e = .returned v' /\ OwnB w' base v' (xs ++ [b8 i.o] ++ encR i nr ++ encK i kb) /\ Below base w w' := by
 unfold I5.val
 obtain ⟨i0, hi, hz0, hzs, hz2⟩ := info_parts Tryz.info5
 have E1 := hide (B8_op ho0 ho1)
 go_enter Tryz.func85, Tryz.ntmps85
 go_wp2_with fail
 refine (registersOf_any _ _ _ _ _ _).mono ?_
 rintro e w1 ⟨rfl, hb1⟩
 have hz1 := hb1.size
 simp at hz1
 have hown1 : OwnB (w1.alloc (.cells #[.int .i64 i.a, .int .i64 i.b, .int .i64 i.c] 183)) base v xs :=
  hown.below ((((Below.refl _ _).alloc (Nat.le_refl _) _).alloc (by simp) _ |>.trans (hb1.mono (by simp; omega))).alloc (by omega) _)
 have st : AppSt w (w1.alloc (.cells #[.int .i64 i.a, .int .i64 i.b, .int .i64 i.c] 183)) base w.heap.size w1.heap.size i nr kb := by
  refine ⟨((((Below.refl _ _).alloc (Nat.le_refl _) _).alloc (by simp) _ |>.trans (hb1.mono (by simp; omega))).alloc (by omega) _).mono hb, ?_, ?_, heap_alloc_new _ _⟩
  · rw [Below.heap_alloc _ _ _ (by omega), hb1.block _ (by simp; omega), Below.heap_alloc _ _ _ (by simp)]; exact heap_alloc_new _ _
  · rw [Below.heap_alloc _ _ _ (by omega), hb1.block _ (by simp)]; exact heap_alloc_new' _ _ _ (by simp)
 clear c0 c1 c2
 obtain ⟨k0, k4, k5, k6⟩ := st.at
 go_wp2_with (at_builtin; go_must (refine wpList_append_own _ rfl (.tmp 15) (.tmp 19) 156 rfl base 5 i0 (.int .u8 0) 1 1 Tryz.underlying156 hi hz0 hzs hz2 rfl (by decide) v xs.length (xs.map B8) rfl ?hO ⟨w1.heap.size + 1, 0, none⟩ 1 1 [B8 (b8 i.o)] rfl rfl ?hN (one_int _ _) (by unfold maxLen; omega) (by omega) ?hB ?_))
 case hO => exact World.ownsRow.alloc hown1 _
 case hN => rw [E1.out]; exact one_newA _ _ _ _ (by simp)
 case hB => simp; omega
 intro v1 w2 hown2 hgrow _
 have st2 := st.grown (by simp; omega) hown1 hgrow
 have hsz2 := hgrow.size
 simp at hsz2
 have hown2 := OwnB.push hown2 rfl
 clear hgrow hown1 hown k0 k4 k5 k6 st
 obtain ⟨k0, k4, k5, k6⟩ := st2.at
 go_wp2_with fail
 go_loopw [0, 23] (fun v j wr => ∃ (n : Nat) (ys : List UInt8), n <= nr /\ j = .int .i64 n /\ base <= wr.heap.size /\ Hid (ys = xs ++ [b8 i.o] ++ encR i n) /\ OwnB wr base v ys /\ AppSt w wr base w.heap.size w1.heap.size i nr kb) (fun _ j _ => nr - (intOf j).toNat)
 case atStart => exact ⟨0, _, by omega, rfl, by omega, hide rfl, by simpa [encR] using hown2, st2⟩
 case round =>
  clear k0 k4 k5 k6 st2 hown2
  obtain ⟨n, ys, hn, rfl, hbr, hys, hownr, str⟩ := hrel
  obtain ⟨k0, k4, k5, k6⟩ := str.at
  have hL : ys.length = xs.length + 1 + n := by rw [hys.out]; simp [encR]; omega
  replace hL := hide hL
  by_cases hlt : n < nr
  · have kr := str.reg n (by omega)
    go_wp2_with (at_builtin; go_must (refine wpList_append_own _ rfl (.tmp 26) (.tmp 31) 156 rfl base 5 i0 (.int .u8 0) 1 1 Tryz.underlying156 hi hz0 hzs hz2 rfl (by decide) u0 ys.length (ys.map B8) rfl ?hO2 ⟨wr.heap.size, 0, none⟩ 1 1 [B8 (b8 (regN i n))] rfl rfl ?hN2 (one_int _ _) ?h63 ?h64 ?hB2 ?_))
    case hO2 => exact World.ownsRow.alloc hownr _
    case hN2 => rw [B8_of]; exact one_newA _ _ _ _ rfl
    case h63 => have := hL.out; unfold maxLen; omega
    case h64 => have := hL.out; omega
    case hB2 => simp; omega
    intro v2 w3 hown3 hgrow3 _
    have st3 := str.grown hbr hownr hgrow3
    have hsz3 := hgrow3.size
    simp at hsz3
    have hown3 := OwnB.push hown3 rfl
    clear hgrow3 kr k0 k4 k5 k6 str hownr
    go_wp2
    go_roundw
    case rel => exact ⟨n + 1, _, by omega, by go_num, by omega, hide (by rw [encR_succ, hys.out]; simp), hown3, st3⟩
    case measure => simp [intOf]; omega
  · have en : n = nr := by omega
    subst en
    go_wp2_with fail
    go_loopw [0, 36] (fun v j wr => ∃ (m : Nat) (zs : List UInt8), m <= kb /\ j = .int .i64 m /\ base <= wr.heap.size /\ Hid (zs = xs ++ [b8 i.o] ++ encR i n ++ encK i m) /\ OwnB wr base v zs /\ AppSt w wr base w.heap.size w1.heap.size i n kb) (fun _ j _ => kb - (intOf j).toNat)
    case atStart => exact ⟨0, _, by omega, rfl, hbr, hide (by rw [hys.out]; simp [encK]), hownr, str⟩
    case round =>
     clear k0 k4 k5 k6 str hownr hL
     obtain ⟨m, zs, hm, rfl, hbr2, hzs2, hownr2, str2⟩ := hrel
     obtain ⟨k0, k4, k5, k6⟩ := str2.at
     have hL : zs.length = xs.length + 1 + n + m := by rw [hzs2.out]; simp [encR, encK]; omega
     replace hL := hide hL
     by_cases hlt2 : m < kb
     · go_wp2_with (at_builtin; go_must (refine wpList_append_own _ rfl (.tmp 39) (.tmp 47) 156 rfl base 5 i0 (.int .u8 0) 1 1 Tryz.underlying156 hi hz0 hzs hz2 rfl (by decide) u0 zs.length (zs.map B8) rfl ?hO3 ⟨wr.heap.size, 0, none⟩ 1 1 [B8 (b8 ((i.k % 18446744073709551616) / 2 ^ (8 * m)))] rfl rfl ?hN3 (one_int _ _) ?h65 ?h66 ?hB3 ?_))
       case hO3 => exact World.ownsRow.alloc hownr2 _
       case hN3 => rw [B8_of, IntKind.wrap_u64]; exact one_newA _ _ _ _ rfl
       case h65 => have := hL.out; unfold maxLen; omega
       case h66 => have := hL.out; omega
       case hB3 => simp; omega
       intro v2 w3 hown3 hgrow3 _
       have st3 := str2.grown hbr2 hownr2 hgrow3
       have hsz3 := hgrow3.size
       simp at hsz3
       have hown3 := OwnB.push hown3 rfl
       clear hgrow3 k0 k4 k5 k6 str2 hownr2
       go_wp2
       go_roundw
       case rel => exact ⟨m + 1, _, by omega, by go_num, by omega, hide (by rw [encK_succ, hzs2.out]; simp), hown3, st3⟩
       case measure => simp [intOf]; omega
     · have em : m = kb := by omega
       subst em
       go_wp2
       go_ret
       exact ⟨_, rfl, by rw [<- hzs2.out]; exact hownr2, str2.bel⟩
def encI (i : I5) : List UInt8 := [b8 i.o] ++ encR i (nregs i.o).toNat ++ encK i (kbytes i.o).toNat
theorem encI_len (i : I5) : (encI i).length <= 12 := by
 have := nregs_bd i.o; have := kb_three i.o
 simp [encI, encR, encK]; omega
theorem appendIns_any (i : I5) (v : Value) (base : Nat) (xs : List UInt8) (w : World) (hs : Shapes w) (ho : 0 <= i.o /\ i.o < 12) (hb : base <= w.heap.size) (hown : OwnB w base v xs) (hn : xs.length <= 100000) :
 Calls Tryz.prog 85 #[v, .agg #[.int .i64 i.o, .int .i64 i.a, .int .i64 i.b, .int .i64 i.c, .int .i64 i.k]] w fun e w' => ∃ v', e = .returned v' /\ OwnB w' base v' (xs ++ encI i) /\ Below base w w' := by
 obtain ⟨c0, c1, c2⟩ := hs.2 i.o ho.1 ho.2
 have hr := nregs_bd i.o
 have hk := kb_three i.o
 have e1 : nregs i.o = ((nregs i.o).toNat : Int) := by omega
 have e2 : kbytes i.o = ((kbytes i.o).toNat : Int) := by omega
 rw [e1] at c0
 rw [e2] at c1
 rw [e1, e2] at c2
 have := appendIns_nk i v (nregs i.o).toNat (kbytes i.o).toNat base xs w hs.1 ho.1 ho.2 hb hown hn (by omega) (by omega) c0 c1 c2
 unfold encI
 rw [<- List.append_assoc, <- List.append_assoc]
 exact this
theorem ret_str {a b : List UInt8} (h : a = b) : Ending.returned (.string ⟨a.toArray⟩) = .returned (.string ⟨b.toArray⟩) := by rw [h]
def encP (l : List I5) : List UInt8 := b8 l.length :: l.flatMap encI
theorem flat_len (l : List I5) : (l.flatMap encI).length <= 12 * l.length := by
 induction l with
 | nil => simp
 | cons x r ih => have := encI_len x; simp only [List.flatMap_cons, List.length_append, List.length_cons]; omega
theorem flat_take (l : List I5) (n : Nat) (h : n < l.length) : (l.take (n + 1)).flatMap encI = (l.take n).flatMap encI ++ encI l[n] := by
 rw [List.take_succ_eq_append_getElem h, List.flatMap_append]; simp
theorem OwnB.text {w : World} {base : Nat} {v : Value} {ys : List UInt8} (h : OwnB w base v ys) (hy : 0 < ys.length) : ∃ g cap, v = .slice (some ⟨g, 0, none⟩) ys.length cap /\ ∀ j (hj : j < ys.length), w.cell? ((⟨g, 0, none⟩ : Addr).add j) = some (.int .u8 (ys[j].toNat : Int)) := by
 have h0 := h
 rcases h.2 with ⟨_, h2⟩ | ⟨g, cap, cur, rfl, _⟩
 · omega
 · refine ⟨g, cap, rfl, fun j hj => ?_⟩
   refine World.ownsRow.cells h0 rfl j _ ?_
   rw [List.getElem?_map, List.getElem?_eq_getElem hj]; rfl
theorem encode_some (l : List I5) (b off cap : Nat) (w : World) (hs : Shapes w) (hb : b < w.heap.size) (hl : l.length <= 64) (hi : ∀ i (h : i < l.length), InsAt w b (off + i * 5) l[i]) (ho : ∀ i (h : i < l.length), 0 <= l[i].o /\ l[i].o < 12) :
 Calls Tryz.prog 64 #[.slice (some ⟨b, off, none⟩) l.length cap] w fun e w' => e = .returned (.string ⟨(encP l).toArray⟩) /\ Below w.heap.size w w' := by
 have E1 : Hid (Value.int .u8 (l.length : Int) = B8 (b8 l.length)) := hide (by unfold B8; rw [b8_nat, Int.emod_eq_of_lt (by omega) (by omega)])
 go_enter Tryz.func64, Tryz.ntmps64
 go_wp2_with fail
 go_loopw [3, 12] (fun v j wr => ∃ (n : Nat) (ys : List UInt8), n <= l.length /\ j = .int .i64 n /\ Hid (ys = b8 l.length :: (l.take n).flatMap encI) /\ OwnB wr w.heap.size v ys /\ Below w.heap.size w wr) (fun _ j _ => l.length - (intOf j).toNat)
 case atStart =>
  refine ⟨0, [b8 l.length], by omega, rfl, hide (by simp), ?_, (Below.refl _ _).alloc (Nat.le_refl _) _⟩
  rw [E1.out]
  exact World.ownsRow_lit _ _ _ (Nat.le_refl _) (by unfold maxLen; simp) rfl
 case round =>
  obtain ⟨n, ys, hn, rfl, hys, hownr, hbl⟩ := hrel
  have hz := hbl.size
  have hL : ys.length <= 1 + 12 * l.length := by
   have := flat_len (l.take n)
   rw [List.length_take] at this
   rw [hys.out, List.length_cons]; omega
  by_cases hlt : n < l.length
  · obtain ⟨c0, c1, c2, c3, c4⟩ := (hi n hlt).below hbl hb
    have hs1 := hs.below hbl hs.1
    have hop := hide (ho n hlt)
    go_wp2_with fail
    refine (appendIns_any l[n] _ w.heap.size ys _ (hs1.below ((Below.refl _ _).alloc (Nat.le_refl _) _) hs1.1) hop.out (by simp; omega) (World.ownsRow.alloc hownr _) (by omega)).mono ?_
    rintro e w2 ⟨v2, rfl, hown2, hb2⟩
    have hbl2 := (hbl.alloc hz _).trans hb2
    clear hb2 hownr
    go_wp2
    go_roundw
    case rel => exact ⟨n + 1, _, by omega, by go_num, hide (by rw [flat_take l n hlt, hys.out]; simp), hown2, hbl2⟩
    case measure => simp [intOf]; omega
  · have R : Hid (ys = encP l) := hide (by rw [hys.out, List.take_of_length_le (by omega)]; rfl)
    obtain ⟨g, cap2, hv, hcells⟩ := hownr.text (by rw [hys.out]; simp)
    subst hv
    have hcv := run_convert_bytes_back (P := Tryz.prog) wr 156 9 5 ⟨g, 0, none⟩ cap2 ys Tryz.underlying156 Tryz.underlying5 Tryz.underlying9 hcells
    clear hcells hownr
    go_wp2
    go_ret
    exact ⟨ret_str R.out, hbl⟩
theorem fits_op {i : I5} {n : Int} (h : i.fits n = true) : 0 <= i.o /\ i.o < 12 := by
 simp [I5.fits, fitsB] at h; exact ⟨h.1.1.1.1.1, h.1.1.1.1.2⟩
theorem right_fits {l : List I5} (h : rightR l = (0, 0)) : 0 < l.length /\ l.length <= 64 /\ ∀ i (h : i < l.length), l[i].fits l.length = true := by
 unfold rightR at h
 by_cases hl : l.length = 0 \/ 64 < l.length
 · rw [if_pos hl] at h; simp at h
 · rw [if_neg hl] at h
   cases hb : badFrom l l.length with
   | some j => rw [hb] at h; simp at h
   | none =>
     refine ⟨by omega, by omega, fun i hi => ?_⟩
     unfold badFrom at hb
     rw [List.findIdx?_eq_none_iff] at hb
     simpa using hb _ (List.getElem_mem hi)
theorem rightR_or (l : List I5) : rightR l = (0, 0) \/ (rightR l).1 = 1 := by
 unfold rightR
 split
 · exact Or.inr rfl
 · cases badFrom l l.length with
   | some j => exact Or.inr rfl
   | none => exact Or.inl rfl
theorem Encode_yes (l : List I5) (v : Value) (w : World) (hs : Shapes w) (h : Slc w v l) (hr : rightR l = (0, 0)) :
 Calls Tryz.prog 34 #[v] w fun e w' => e = .returned (.tuple #[.string ⟨(encP l).toArray⟩, .int .i64 0]) /\ Below w.heap.size w w' := by
 obtain ⟨h1, h2, h3⟩ := right_fits hr
 have HR := hide hr
 clear hr
 rcases h with ⟨_, rfl⟩ | ⟨b, off, cap, rfl, hb, hi⟩
 · simp at h1
 have hS : Slc w (.slice (some ⟨b, off, none⟩) l.length cap) l := Or.inr ⟨b, off, cap, rfl, hb, hi⟩
 have HF := hide h3
 clear h3
 go_enter Tryz.func34, Tryz.ntmps34
 go_wp2_with fail
 refine (codeRight_any l _ _ hs hS).mono ?_
 rintro e w1 ⟨rfl, hb1⟩
 rw [HR.out]
 go_wp2_with fail
 refine (encode_some l b off cap w1 (hs.below hb1 hs.1) (by have := hb1.size; omega) h2 (fun i h => (hi i h).below hb1 hb) (fun i h => fits_op (HF.out i h))).mono ?_
 rintro e w2 ⟨rfl, hb2⟩
 go_wp2
 go_ret2
 exact ⟨rfl, hb1.trans (hb2.mono hb1.size)⟩
theorem Encode_no (l : List I5) (v : Value) (w : World) (hs : Shapes w) (h : Slc w v l) (hr : (rightR l).1 = 1) :
 Calls Tryz.prog 34 #[v] w fun e w' => e = .returned (.tuple #[.string ⟨#[]⟩, .int .i64 1]) /\ Below w.heap.size w w' := by
 have HR := hide hr
 clear hr
 go_enter Tryz.func34, Tryz.ntmps34
 go_wp2_with fail
 refine (codeRight_any l _ _ hs h).mono ?_
 rintro e w1 ⟨rfl, hb1⟩
 rw [HR.out]
 go_wp2
 go_ret2
 exact ⟨rfl, hb1⟩
theorem Tryz.infoIns : (Tryz.prog.info? 35).map (fun i => (i.zero, i.size, i.bytes)) = some (some (.agg #[.int .i64 0, .int .i64 0, .int .i64 0, .int .i64 0, .int .i64 0]), 5, 40) := by kernel_rfl
def I5.cells (i : I5) : List Value := [.int .i64 i.o, .int .i64 i.a, .int .i64 i.b, .int .i64 i.c, .int .i64 i.k]
def OwnI (w : World) (base : Nat) (v : Value) (l : List I5) : Prop := w.ownsRow base 35 5 v l.length (l.flatMap I5.cells)
theorem flat_cells (l : List I5) (i f : Nat) (hi : i < l.length) (hf : f < 5) : (l.flatMap I5.cells)[i * 5 + f]? = l[i].cells[f]? := by
 induction l generalizing i with
 | nil => simp at hi
 | cons x r ih =>
   rw [List.flatMap_cons]
   match i with
   | 0 => rw [List.getElem?_append_left (by simp [I5.cells]; omega)]; simp
   | i + 1 =>
     rw [List.getElem?_append_right (by simp [I5.cells]; omega)]
     rw [show (i + 1) * 5 + f - x.cells.length = i * 5 + f by simp [I5.cells]; omega]
     rw [ih i (by simpa using hi)]; rfl
theorem OwnI.slc {w : World} {base : Nat} {v : Value} {l : List I5} (h : OwnI w base v l) : Slc w v l := by
 have h0 := h
 rcases h.2 with ⟨rfl, h2⟩ | ⟨g, cap, cur, rfl, _, hh, _⟩
 · exact Or.inl ⟨⟨_, _, rfl⟩, List.eq_nil_of_length_eq_zero h2⟩
 · refine Or.inr ⟨g, 0, cap, rfl, lt_of_block hh, fun i hi => ?_⟩
   have hc : ∀ f, f < 5 -> ∀ u, l[i].cells[f]? = some u -> w.cell? ⟨g, 0 + i * 5 + f, none⟩ = some u := by
    intro f hf u hu
    have := World.ownsRow.cells h0 rfl (i * 5 + f) u (by rw [flat_cells l i f hi hf]; exact hu)
    have hadd : (⟨g, 0, none⟩ : Addr).add (i * 5 + f) = ⟨g, 0 + i * 5 + f, none⟩ := by unfold Addr.add; split <;> simp_all
    rw [hadd] at this
    exact this
   exact ⟨hc 0 (by omega) _ rfl, hc 1 (by omega) _ rfl, hc 2 (by omega) _ rfl, hc 3 (by omega) _ rfl, hc 4 (by omega) _ rfl⟩
theorem OwnI.below {w w' : World} {base : Nat} {v : Value} {l : List I5} (h : OwnI w base v l) (hb : Below w.heap.size w w') : OwnI w' base v l := by
 unfold OwnI at *
 refine ⟨h.1, ?_⟩
 rcases h.2 with h2 | ⟨g, cap, cur, hv, hg, hh, r⟩
 · exact Or.inl h2
 · exact Or.inr ⟨g, cap, cur, hv, hg, by rw [hb.block g (lt_of_block hh)]; exact hh, r⟩
theorem OwnI.push {w : World} {base n : Nat} {v : Value} {l : List I5} {x : I5} (h : w.ownsRow base 35 5 v n (l.flatMap I5.cells ++ x.cells)) (hn : n = l.length + 1) : OwnI w base v (l ++ [x]) := by
 subst hn; unfold OwnI; rw [List.length_append, List.flatMap_append]; simpa using h
theorem step_append_own {P : Program} {ops : Array Oper} {o : Oper} {a : Act} {w : World} {K : Act -> World -> Prop} {Q : Exit -> Act -> World -> Prop} {E : Prop}
 (hg : o.guard = none) (s x : Operand) (t : TypeId) (hop : o.op = Op.call { callee := Callee.builtin Builtin.append, args := #[s, x], argTypes := #[t, t] })
 (base : Nat) (e : TypeId) (i : TypeInfo) (z : Value) (size bytes : Nat) (ht : P.underlying t = some (.slice e)) (hi : P.info? e = some i) (hz : i.zero = some z)
 (hsize : i.size = size) (hby : i.bytes = bytes) (hzs : z.cells.size = size) (hsz : 0 < size)
 (v : Value) (n : Nat) (xs : List Value) (hs : a.eval s = v) (hown : w.ownsRow base e size v n xs)
 (ad : Addr) (m c : Nat) (news : List Value) (hx : a.eval x = .slice (some ad) m c) (hl : news.length = m * size) (hnews : ∀ j u, news[j]? = some u -> w.cell? (ad.add j) = some u) (h1 : ∀ u ∈ news, u.oneCell' = true)
 (h63 : n + m <= maxLen) (hbytes : (n + m) * bytes <= 140737488355328) (hbase : base <= w.heap.size)
 (hK : ∀ v' w', w'.ownsRow base e size v' (n + m) (xs ++ news) -> w.grownBy w' v.ownBlock -> K (a.put o.dst v') w') :
 if Region.wanted o (yielded ops a.tmps) = true then Oper.wp P o a w K Q else E := by
 have hw : Region.wanted o (yielded ops a.tmps) = true := by simp [Region.wanted, hg]
 rw [if_pos hw]
 obtain ⟨v', w', hrun, h2, h3, _⟩ := run_append_own (P := P) w base t o.type e i z size bytes ht hi hz hsize hby hzs hsz v n xs hown ad m c news hl hnews h1 h63 hbytes hbase
 unfold Oper.wp
 simp [execOp, hop, resolve, invoke, builtin, hs, hx, hrun, Result.andThen]
 exact hK v' w' h2 h3
def readN : Nat -> List UInt8 -> Option (List I5 × List UInt8)
 | 0, l => some ([], l)
 | n + 1, l => match readI l with
   | none => none
   | some (i, k) => match readN n (l.drop k) with
     | none => none
     | some (p, t) => some (i :: p, t)
def decP (l : List UInt8) : Option (List I5) :=
 match l with
 | [] => none
 | b :: r => match readN b.toNat r with
   | none => none
   | some (p, t) => if rightR p = (0, 0) /\ t = [] then some p else none
def decE (l : List UInt8) : Int := if (decP l).isSome then 0 else 2
def decL (l : List UInt8) : List I5 := (decP l).getD []
theorem dec_none {l : List UInt8} (h : decP l = none) : decE l = 2 /\ decL l = [] := by simp [decE, decL, h]
theorem dec_some {l : List UInt8} {p : List I5} (h : decP l = some p) : decE l = 0 /\ decL l = p := by simp [decE, decL, h]
def aheadOf (ps : List I5) : Option (List I5 × List UInt8) -> Option (List I5 × List UInt8)
 | none => none
 | some (q, t) => some (ps ++ q, t)
theorem readN_step {n k : Nat} {l : List UInt8} {ps : List I5} {i : I5} (h : readI l = some (i, k)) : aheadOf ps (readN (n + 1) l) = aheadOf (ps ++ [i]) (readN n (l.drop k)) := by
 simp only [readN, h]
 cases readN n (l.drop k) with
 | none => rfl
 | some x => obtain ⟨q, t⟩ := x; simp [aheadOf]
theorem readN_none {n : Nat} {l : List UInt8} {ps : List I5} (h : readI l = none) : aheadOf ps (readN (n + 1) l) = none := by
 simp only [readN, h]; rfl
theorem readI_some {l : List UInt8} {i : I5} {k : Nat} (h : readI l = some (i, k)) : 1 <= k /\ k <= l.length /\ k <= 12 /\ 0 <= i.o /\ i.o < 12 := by
 unfold readI at h
 cases l with
 | nil => simp at h
 | cons b r =>
   have h1 := nrN_le b.toNat
   have h2 := kbN_le b.toNat
   simp only at h
   split at h
   · simp at h
   · split at h
     · simp at h
     · simp only [Option.some.injEq, Prod.mk.injEq] at h
       obtain ⟨rfl, rfl⟩ := h
       exact ⟨by omega, by omega, by omega, by simp, by simp; omega⟩
theorem five_new (w : World) (x : I5) (t : TypeId) (g : Nat) (hg : g = w.heap.size) : ∀ j u, x.cells[j]? = some u -> (w.alloc (.cells #[.int .i64 x.o, .int .i64 x.a, .int .i64 x.b, .int .i64 x.c, .int .i64 x.k] t)).cell? ((⟨g, 0, none⟩ : Addr).add j) = some u := by
 subst hg
 intro j u hj
 have hadd : (⟨w.heap.size, 0, none⟩ : Addr).add j = ⟨w.heap.size, j, none⟩ := by unfold Addr.add; split <;> simp_all
 rw [hadd, cell_of_row _ _ _ _ _ _ (heap_alloc_new w _)]
 simpa [I5.cells] using hj
theorem five_one (x : I5) : ∀ u ∈ x.cells, u.oneCell' = true := by
 intro u hu
 simp [I5.cells] at hu
 rcases hu with rfl | rfl | rfl | rfl | rfl <;> rfl
theorem ret_dec {v v' : Value} {a b : Int} (h : v = v') (k : a = b) : Ending.returned (.tuple #[v, .int .i64 a]) = .returned (.tuple #[v', .int .i64 b]) := by rw [h, k]
theorem cons_of (s : ByteArray) (hp : 0 < s.size) : s.data.toList = s[0] :: s.data.toList.drop 1 := by
 have hlen : s.data.toList.length = s.size := by rw [Array.length_toList]; rfl
 have : s.data.toList ≠ [] := fun e => by rw [e] at hlen; simp at hlen; omega
 rw [List.drop_one, <- List.cons_head_tail this]
 have h2 : s.data.toList.head this = s[0] := by rw [List.head_eq_getElem]; rfl
 rw [h2]; rfl
theorem decP_cons {s : ByteArray} (hp : 0 < s.size) : decP s.data.toList = match readN s[0].toNat (s.data.toList.drop 1) with
 | none => none
 | some (p, t) => if rightR p = (0, 0) /\ t = [] then some p else none := by
 rw [congrArg decP (cons_of s hp)]; rfl
theorem tail_len {t : ByteArray} {k : Nat} (h : k <= t.data.toList.length) : k <= t.size := by rw [Array.length_toList] at h; exact h
theorem decode_some (s : ByteArray) (w : World) (hs : Shapes w) (hp : 0 < s.size) :
 Calls Tryz.prog 67 #[.string s] w fun e w' => ∃ v, e = .returned (.tuple #[v, .int .i64 (decE s.data.toList)]) /\ OwnI w' w.heap.size v (decL s.data.toList) /\ Below w.heap.size w w' := by
 have hd := empty_no hp
 have hwb := wb
 have hc256 := s[0].toNat_lt
 obtain ⟨i0, hi, hz0, hzs, hz2⟩ := info_parts Tryz.infoIns
 have hz1 := hs.1
 go_enter Tryz.func67, Tryz.ntmps67
 go_wp2_with fail
 go_quiet (fail)
 go_wp2_with (at_make; go_must (refine wpList_make_own _ rfl (.const (.int .i64 0)) (.tmp 18) 36 rfl w.heap.size 35 i0 _ 5 Tryz.underlying36 hi hz0 hzs .i64 .i64 s[0].toNat s[0].toNat rfl rfl rfl ?b2 ?b3 ?b4 ?_))
 case b2 => rw [hz2]; omega
 case b3 => unfold maxLen; omega
 case b4 => simp
 intro w1 hown1 hgrow1
 have hbl1 : Below w.heap.size w w1 := Below.grown (B := w.heap.size) (below_drewN (Below.refl _ _) _) hgrow1 (by simp) (fun k hk => by cases hk)
 clear hgrow1
 go_wp2_with fail
 go_loopw [5, 6, 21] (fun r p j wr => ∃ (n m : Nat) (ps : List I5) (t : ByteArray), n + m = s[0].toNat /\ j = .int .i64 n /\ r = .string t /\ ps.length = n /\ OwnI wr w.heap.size p ps /\ Below w.heap.size w wr /\ Hid (readN s[0].toNat (s.data.toList.drop 1) = aheadOf ps (readN m t.data.toList))) (fun _ _ j _ => s[0].toNat - (intOf j).toNat)
 case atStart =>
  refine ⟨0, s[0].toNat, [], s.extract 1 s.size, by omega, rfl, rfl, rfl, hown1, hbl1, hide ?_⟩
  rw [Lib.extract_to_end]
  cases readN s[0].toNat (s.data.toList.drop 1) with
  | none => rfl
  | some x => rfl
 case round =>
  clear hown1 hbl1
  obtain ⟨n, m, ps, t, hnm, rfl, rfl, hps, hown, hbl, hread⟩ := hrel
  have hsz := hbl.size
  have hs1 := hs.below hbl hs.1
  replace hps := hide hps
  match m, hnm, hread with
  | 0, hnm, hread =>
    have hr0 : Hid (readN s[0].toNat (s.data.toList.drop 1) = some (ps, t.data.toList)) := hide (by rw [hread.out]; simp [readN, aheadOf])
    go_wp2_with fail
    refine (codeRight_any ps _ _ hs1 hown.slc).mono ?_
    rintro e w2 ⟨rfl, hb2⟩
    rcases rightR_or ps with hr | hr
    · by_cases ht : t.size = 0
      · have hte := empty_yes ht
        have htl : t.data.toList = [] := List.eq_nil_of_length_eq_zero (by rw [Array.length_toList]; exact ht)
        have R : Hid (decP s.data.toList = some ps) := hide (by rw [decP_cons hp, hr0.out]; simp [hr, htl])
        have hown2 := hown.below hb2
        replace hr0 : True := trivial
        replace htl : True := trivial
        rw [hr]
        go_wp2
        go_ret2
        exact ⟨_, ret_dec rfl (dec_some R.out).1.symm, by rw [(dec_some R.out).2]; exact hown2, hbl.trans (hb2.mono hsz)⟩
      · have hte := empty_no (s := t) (by omega)
        have R : Hid (decP s.data.toList = none) := hide (by
         rw [decP_cons hp, hr0.out]; simp only
         rw [if_neg]
         rintro ⟨_, h⟩
         have : t.data.toList.length = t.size := by rw [Array.length_toList]; rfl
         rw [h] at this; simp at this; omega)
        rw [hr]
        go_wp2
        go_ret2
        exact ⟨_, ret_dec rfl (dec_none R.out).1.symm, by rw [(dec_none R.out).2]; exact World.ownsRow_nil _ _ _ _, hbl.trans (hb2.mono hsz)⟩
    · have R : Hid (decP s.data.toList = none) := hide (by rw [decP_cons hp, hr0.out]; simp; intro h; rw [h] at hr; simp at hr)
      rw [hr]
      go_wp2
      go_ret2
      exact ⟨_, ret_dec rfl (dec_none R.out).1.symm, by rw [(dec_none R.out).2]; exact World.ownsRow_nil _ _ _ _, hbl.trans (hb2.mono hsz)⟩
  | m + 1, hnm, hread =>
    have hlt : n < s[0].toNat := by omega
    cases hri : readI t.data.toList with
    | none =>
      have R : Hid (decP s.data.toList = none) := hide (by rw [decP_cons hp, hread.out, readN_none hri])
      have HRI := hide hri
      clear hri
      go_wp2_with fail
      refine (readIns_any t _ hs1).mono ?_
      rintro e w2 ⟨rfl, hb2⟩
      rw [HRI.out]
      unfold readVal noIns
      go_wp2
      go_ret2
      exact ⟨_, ret_dec rfl (dec_none R.out).1.symm, by rw [(dec_none R.out).2]; exact World.ownsRow_nil _ _ _ _, (hbl.trans (hb2.mono hsz)).alloc (by have := hb2.size; omega) _⟩
    | some x =>
      obtain ⟨i, k⟩ := x
      obtain ⟨hk1, hk2, hk3, _, _⟩ := readI_some hri
      have hk4 := tail_len hk2
      have hk0 : ((k : Int) == 0) = false := by rw [beq_eq_false_iff_ne]; omega
      have HRI := hide hri
      clear hri hk2
      go_wp2_with fail
      refine (readIns_any t _ hs1).mono ?_
      rintro e w2 ⟨rfl, hb2⟩
      rw [HRI.out]
      unfold readVal I5.val
      have hsz2 := hb2.size
      have hown2 := hown.below hb2
      go_wp2_with fail
      generalize hW3 : w2.alloc (.cells #[.int .i64 i.o, .int .i64 i.a, .int .i64 i.b, .int .i64 i.c, .int .i64 i.k] 35) = w3
      have hc3 := cell_of_row w3 w2.heap.size
      have hH : w3.heap[w2.heap.size]? = some (.cells #[.int .i64 i.o, .int .i64 i.a, .int .i64 i.b, .int .i64 i.c, .int .i64 i.k] 35 (0, 0)) := by rw [<- hW3]; exact heap_alloc_new _ _
      have k0 := hc3 0 _ _ _ hH
      have k1 := hc3 1 _ _ _ hH
      have k2 := hc3 2 _ _ _ hH
      have k3 := hc3 3 _ _ _ hH
      have k4 := hc3 4 _ _ _ hH
      have hown3 : OwnI w3 w.heap.size u6 ps := by rw [<- hW3]; exact World.ownsRow.alloc hown2 _
      have hbl3 : Below w.heap.size w w3 := by rw [<- hW3]; exact (hbl.trans (hb2.mono hsz)).alloc (by omega) _
      have hsz3 : w.heap.size <= w3.heap.size := hbl3.size
      clear hH hc3 hW3
      simp at k0 k1 k2 k3 k4
      go_region_law (refine step_append_own rfl (.tmp 30) (.tmp 32) 36 rfl w.heap.size 35 i0 _ 5 40 Tryz.underlying36 hi hz0 hzs hz2 rfl (by decide) u6 ps.length (ps.flatMap I5.cells) (by simp [Act.eval]) (World.ownsRow.alloc hown3 _) ⟨w3.heap.size, 0, none⟩ 1 1 i.cells (by simp [Act.eval]) rfl (five_new _ i _ _ rfl) (five_one i) (by rw [hps.out]; unfold maxLen; omega) (by rw [hps.out]; omega) (by simp; omega) ?_; intro v4 w4 hown4 hgrow4)
      have hbl4 := (hbl3.drew.alloc (by exact hsz3) (.cells #[.int .i64 i.o, .int .i64 i.a, .int .i64 i.b, .int .i64 i.c, .int .i64 i.k] 35)).grown hgrow4 (by simp; omega) (fun k hk => (hown3.lt k hk).1)
      have hown4 := OwnI.push hown4 rfl
      have R := hide (Lib.extract_to_end t k)
      clear hown3 hbl3 hgrow4 k0 k1 k2 k3 k4 hown2 hb2 hbl hown
      go_wp2
      go_roundw
      case rel => exact ⟨n + 1, m, ps ++ [i], _, by omega, by go_num, rfl, by simp [hps.out], hown4, hbl4, hide (by rw [hread.out, readN_step HRI.out, R.out])⟩
      case measure => simp [intOf]; omega
theorem decode_empty (s : ByteArray) (w : World) (hp : s.size = 0) :
 Calls Tryz.prog 67 #[.string s] w fun e w' => e = .returned (.tuple #[.slice none 0 0, .int .i64 2]) /\ w' = w := by
 have hd := empty_yes hp
 go_enter Tryz.func67, Tryz.ntmps67
 go_wp2
 go_ret2
 exact ⟨rfl, rfl⟩
theorem codeDecode_any (s : ByteArray) (w : World) (hs : Shapes w) :
 Calls Tryz.prog 67 #[.string s] w fun e w' => ∃ v, e = .returned (.tuple #[v, .int .i64 (decE s.data.toList)]) /\ OwnI w' w.heap.size v (decL s.data.toList) /\ Below w.heap.size w w' := by
 by_cases hp : s.size = 0
 · have htl : s.data.toList = [] := List.eq_nil_of_length_eq_zero (by rw [Array.length_toList]; exact hp)
   have hd : decP s.data.toList = none := by rw [htl]; rfl
   refine (decode_empty s w hp).mono ?_
   rintro e w' ⟨rfl, rfl⟩
   exact ⟨_, ret_dec rfl (dec_none hd).1.symm, by rw [(dec_none hd).2]; exact World.ownsRow_nil _ _ _ _, Below.refl _ _⟩
 · exact decode_some s w hs (by omega)
theorem Decode_any (s : ByteArray) (w : World) (hs : Shapes w) :
 Calls Tryz.prog 39 #[.string s] w fun e w' => ∃ v, e = .returned (.tuple #[v, .int .i64 (decE s.data.toList)]) /\ OwnI w' w.heap.size v (decL s.data.toList) /\ Below w.heap.size w w' := by
 go_enter Tryz.func39, Tryz.ntmps39
 go_wp2_with fail
 refine (codeDecode_any s _ hs).mono ?_
 rintro e w' ⟨v, rfl, ho, hb⟩
 go_wp2
 go_ret2
 exact ⟨_, rfl, ho, hb⟩
def I64 (x : Int) : Prop := -9223372036854775808 <= x /\ x < 9223372036854775808
def I5.in64 (i : I5) : Prop := I64 i.o /\ I64 i.a /\ I64 i.b /\ I64 i.c /\ I64 i.k
def I5.zero : I5 := ⟨0, 0, 0, 0, 0⟩
end Go.Proofs.YtamiichlbmllcabGreatDoor
namespace Go.Proofs.YtamiichlbmllcabGreatDoor
open Go.ChangeShapes Go.WideShapes Go.ChangeAt Go.RowKit Go.Deep
theorem own : ownKnob Tryz.prog.godebug = none := by kernel_rfl
theorem laidOut : laidOutB Tryz.prog = true := by kernel_rfl
theorem gShapes : Tryz.prog.globalNamed "surety/code.shapes" = some 0 := by kernel_rfl
theorem tShapes : (Tryz.prog.globals[0]?).map (·.type) = some 182 := by kernel_rfl
theorem cInt : Tryz.prog.cellsOf 3 = 1 := by kernel_rfl
theorem cIns : Tryz.prog.cellsOf 35 = 5 := by kernel_rfl
theorem cShape : Tryz.prog.cellsOf 181 = 3 := by kernel_rfl
theorem wf64 {n : Int} (h : (Lit.int .i64 n).wf = true) : I64 n := by
 have := bounds_i64 h
 exact ⟨by omega, by omega⟩
section
variable {H : Type} {enc : TypeId × Value -> H} {W : World} {base : Nat} {spare : Nat -> Bool} {held : Bool}
theorem read_ins {n : Nat} {cs : List Value} {x : DataW H × List MemPlace} (h : DataW.trod enc Tryz.prog W base spare held n 35 cs = some x) : ∃ i : I5, cs = i.cells /\ i.in64 := by
 obtain ⟨xs, m, _, _, hl, hlen, hf⟩ := DataW.trod_struct Tryz.underlying35 h
 rw [cIns] at hl
 replace hlen : xs.length = 5 := hlen
 match cs, hl, xs, hlen with
 | [v0, v1, v2, v3, v4], _, [y0, y1, y2, y3, y4], _ =>
   have g0 := hf 0 _ rfl
   have g1 := hf 1 _ rfl
   have g2 := hf 2 _ rfl
   have g3 := hf 3 _ rfl
   have g4 := hf 4 _ rfl
   simp [cInt] at g0 g1 g2 g3 g4
   obtain ⟨a0, e0, _, w0⟩ := DataW.trod_int Tryz.underlying3 g0
   obtain ⟨a1, e1, _, w1⟩ := DataW.trod_int Tryz.underlying3 g1
   obtain ⟨a2, e2, _, w2⟩ := DataW.trod_int Tryz.underlying3 g2
   obtain ⟨a3, e3, _, w3⟩ := DataW.trod_int Tryz.underlying3 g3
   obtain ⟨a4, e4, _, w4⟩ := DataW.trod_int Tryz.underlying3 g4
   simp at e0 e1 e2 e3 e4
   subst e0 e1 e2 e3 e4
   exact ⟨⟨a0, a1, a2, a3, a4⟩, rfl, wf64 w0, wf64 w1, wf64 w2, wf64 w3, wf64 w4⟩
theorem open_ins {v : Value} {d : DataW H} {ps : List MemPlace} (hv : ∃ a len cap, v = .slice a len cap) (h : DataW.Trod enc Tryz.prog W base spare held 36 v d ps) :
 ∃ l : List I5, Slc W v l /\ l.length < 9223372036854775808 /\ ∀ i (h : i < l.length), l[i].in64 := by
 obtain ⟨a0, len0, cap0, rfl⟩ := hv
 obtain ⟨fuel, hf⟩ := h
 rcases open_slice Tryz.underlying36 hf with ⟨hcs, _⟩ | ⟨a, len, cap, m, n, D, Pl, hcs, _, hl, hm, hmm, _, hx⟩
 · simp [Value.cells] at hcs
   obtain ⟨rfl, rfl, rfl⟩ := hcs
   exact ⟨[], Or.inl ⟨⟨_, _, rfl⟩, rfl⟩, by simp, fun i h => by simp at h⟩
 · simp [Value.cells] at hcs
   obtain ⟨rfl, rfl, rfl⟩ := hcs
   have hlm : len0 <= m := by rw [hmm]; split <;> omega
   have each : ∀ i, i < len0 -> ∃ x : I5, x.in64 /\ ∀ f, f < 5 -> W.cell? (a.add (i * 5 + f)) = x.cells[f]? := by
    intro i hi
    obtain ⟨cs', h1, h2⟩ := hx i (by omega)
    obtain ⟨x, rfl, hx64⟩ := read_ins h2
    rw [cIns] at h1
    obtain ⟨_, _, hcell⟩ := World.cells?_some h1
    exact ⟨x, hx64, fun f hf => by rw [<- add_add]; exact hcell f hf⟩
   have : Inhabited I5 := ⟨I5.zero⟩
   obtain ⟨q, hq⟩ := choose_lt each
   refine ⟨(List.range len0).map q, ?_, by simp; unfold maxLen at hm; omega, fun i hi => by simp at hi ⊢; exact (hq i hi).1⟩
   by_cases h0 : len0 = 0
   · subst h0
     exact Or.inl ⟨⟨_, _, rfl⟩, rfl⟩
   · obtain ⟨b, off, spot⟩ := a
     have hc := (hq 0 (by omega)).2 0 (by omega)
     have hspot : spot = none := by
      simp only [Nat.zero_mul, Nat.zero_add, I5.cells, List.getElem?_cons_zero] at hc
      simpa [Addr.add] using World.cell?_spot hc
     subst hspot
     have hadd : ∀ k, (⟨b, off, none⟩ : Addr).add k = ⟨b, off + k, none⟩ := fun k => add_plain _ _ _
     have hcl : ∀ i (hi : i < len0) f, f < 5 -> W.cell? ⟨b, off + i * 5 + f, none⟩ = (q i).cells[f]? := by
      intro i hi f hf
      have := (hq i hi).2 f hf
      rw [hadd, <- Nat.add_assoc] at this
      exact this
     refine Or.inr ⟨b, off, cap0, by simp, ?_, fun i hi => ?_⟩
     · have := hcl 0 (by omega) 0 (by omega)
       exact World.block_lt_of_cell? W ⟨b, _, none⟩ this
     · simp at hi ⊢
       exact ⟨hcl i hi 0 (by omega), hcl i hi 1 (by omega), hcl i hi 2 (by omega), hcl i hi 3 (by omega), hcl i hi 4 (by omega)⟩
end
theorem shapes_of_laid {W : World} (h : laidMetH Tryz.prog [("surety/code.shapes", Rows.laid_surety_code_shapes)] W) : Shapes W := by
 rw [MakeChecks.laidMetH_plain _ _ _ (by kernel_rfl)] at h
 obtain ⟨ps, ⟨g0, t0, cs0, f0, p0, q0, hg0, ht0, hv0, hd0, _, _⟩, _, _⟩ := h
 obtain rfl := Option.some.inj (gShapes.symm.trans hg0)
 obtain rfl := Option.some.inj (tShapes.symm.trans ht0)
 obtain ⟨xs, m1, rfl, hx1, hlen, hn12, hel⟩ := DataW.trod_array Tryz.underlying182 hd0
 have hcell := World.var?_cell hg0 hv0
 have one : ∀ i, i < 12 -> ∀ y, xs[i]? = some y -> ∃ a b c : Int, y.1 = .agg [.lit (.int .i64 a), .lit (.int .i64 b), .lit (.int .i64 c)] /\ W.cell? ⟨0, i * 3, none⟩ = some (.int .i64 a) /\ W.cell? ⟨0, i * 3 + 1, none⟩ = some (.int .i64 b) /\ W.cell? ⟨0, i * 3 + 2, none⟩ = some (.int .i64 c) := by
  intro i hi y hy
  have h0 := hel i hi
  rw [hy, cShape] at h0
  obtain ⟨y0, y1, y2, n, hyy, hl3, g0, g1, g2⟩ := trod_struct3 Tryz.underlying181 h0
  simp only [cInt] at g0 g1 g2
  obtain ⟨a, e0, r0, _⟩ := DataW.trod_int Tryz.underlying3 g0
  obtain ⟨b, e1, r1, _⟩ := DataW.trod_int Tryz.underlying3 g1
  obtain ⟨c, e2, r2, _⟩ := DataW.trod_int Tryz.underlying3 g2
  subst r0 r1 r2
  refine ⟨a, b, c, by rw [hyy], ?_, ?_, ?_⟩
  · rw [hcell]
    have := congrArg (fun l => l[0]?) e0
    simpa [List.getElem?_take, List.getElem?_drop] using this
  · rw [hcell]
    have := congrArg (fun l => l[0]?) e1
    simpa [List.getElem?_take, List.getElem?_drop] using this
  · rw [hcell]
    have := congrArg (fun l => l[0]?) e2
    simpa [List.getElem?_take, List.getElem?_drop] using this
 simp only [Prod.mk.injEq, Rows.laid_surety_code_shapes, DataW.agg.injEq] at hx1
 match xs, hn12, hx1, one with
 | [x0, x1, x2, x3, x4, x5, x6, x7, x8, x9, x10, x11], _, hx1, one =>
   simp only [List.map_cons, List.map_nil, List.cons.injEq] at hx1
   obtain ⟨⟨h0, h1, h2, h3, h4, h5, h6, h7, h8, h9, h10, h11, _⟩, _⟩ := hx1
   have fin : ∀ (i : Nat) (hi : i < 12) (y : DataW Unit × List MemPlace) (a b c : Int), [x0, x1, x2, x3, x4, x5, x6, x7, x8, x9, x10, x11][i]? = some y -> .agg [.lit (.int .i64 a), .lit (.int .i64 b), .lit (.int .i64 c)] = y.1 ->
    W.cell? ⟨0, i * 3, none⟩ = some (.int .i64 a) /\ W.cell? ⟨0, i * 3 + 1, none⟩ = some (.int .i64 b) /\ W.cell? ⟨0, i * 3 + 2, none⟩ = some (.int .i64 c) := by
    intro i hi y a b c hy he
    obtain ⟨a', b', c', e, r0, r1, r2⟩ := one i hi y hy
    rw [e] at he
    simp at he
    obtain ⟨rfl, rfl, rfl⟩ := he
    exact ⟨r0, r1, r2⟩
   refine ⟨World.block_lt_of_cell? W ⟨0, 0, none⟩ (fin 0 (by omega) _ _ _ _ rfl h0).1, fun o ho0 ho1 => ?_⟩
   have ho : o = 0 \/ o = 1 \/ o = 2 \/ o = 3 \/ o = 4 \/ o = 5 \/ o = 6 \/ o = 7 \/ o = 8 \/ o = 9 \/ o = 10 \/ o = 11 := by omega
   rcases ho with rfl | rfl | rfl | rfl | rfl | rfl | rfl | rfl | rfl | rfl | rfl | rfl
   · exact fin 0 (by omega) _ _ _ _ rfl h0
   · exact fin 1 (by omega) _ _ _ _ rfl h1
   · exact fin 2 (by omega) _ _ _ _ rfl h2
   · exact fin 3 (by omega) _ _ _ _ rfl h3
   · exact fin 4 (by omega) _ _ _ _ rfl h4
   · exact fin 5 (by omega) _ _ _ _ rfl h5
   · exact fin 6 (by omega) _ _ _ _ rfl h6
   · exact fin 7 (by omega) _ _ _ _ rfl h7
   · exact fin 8 (by omega) _ _ _ _ rfl h8
   · exact fin 9 (by omega) _ _ _ _ rfl h9
   · exact fin 10 (by omega) _ _ _ _ rfl h10
   · exact fin 11 (by omega) _ _ _ _ rfl h11
theorem set_block {w : World} {g off : Nat} {A : Array Value} {t : TypeId} {u : Value} (h : w.heap[g]? = some (.cells A t (0, 0))) : (w.setCell ⟨g, off, none⟩ u).heap[g]? = some (.cells (A.setIfInBounds off u) t (0, 0)) := by
 have hlt := lt_of_block h
 have h' : w.heap[g] = .cells A t (0, 0) := by simpa [Array.getElem?_eq_getElem hlt] using h
 show (w.heap.modify g _)[g]? = _
 rw [Array.getElem?_eq_getElem (by simpa using hlt), Array.getElem_modify_self, h']; rfl
def RowF (w : World) (g : Nat) (t : TypeId) (n : Nat) (f : Nat -> Value) : Prop := ∃ A, w.heap[g]? = some (.cells A t (0, 0)) /\ A.size = n /\ ∀ j, j < n -> A[j]? = some (f j)
theorem RowF.lt {w : World} {g n : Nat} {t : TypeId} {f : Nat -> Value} (h : RowF w g t n f) : g < w.heap.size := by obtain ⟨A, h1, _⟩ := h; exact lt_of_block h1
theorem RowF.cell {w : World} {g n : Nat} {t : TypeId} {f : Nat -> Value} (h : RowF w g t n f) (j : Nat) (hj : j < n) : w.cell? ⟨g, j, none⟩ = some (f j) /\ w.frozen? ⟨g, j, none⟩ = false := by
 obtain ⟨A, h1, h2, h3⟩ := h
 exact ⟨by rw [cell_of_row _ _ _ _ _ _ h1]; exact h3 j hj, by simp [World.frozen?, h1]⟩
theorem RowF.set {w : World} {g n : Nat} {t : TypeId} {f : Nat -> Value} (h : RowF w g t n f) (j0 : Nat) (u : Value) : RowF (w.setCell ⟨g, j0, none⟩ u) g t n (fun j => if j = j0 then u else f j) := by
 obtain ⟨A, h1, h2, h3⟩ := h
 refine ⟨_, set_block h1, by simp [h2], fun j hj => ?_⟩
 show (A.setIfInBounds j0 u)[j]? = some (if j = j0 then u else f j)
 by_cases e : j = j0
 · subst e
   rw [if_pos rfl, Array.getElem?_setIfInBounds_self_of_lt (by omega)]
 · rw [if_neg e, Array.getElem?_setIfInBounds_ne (Ne.symm e)]; exact h3 j hj
theorem RowF.congr {w : World} {g n : Nat} {t : TypeId} {f f' : Nat -> Value} (h : RowF w g t n f) (he : ∀ j, j < n -> f j = f' j) : RowF w g t n f' := by
 obtain ⟨A, h1, h2, h3⟩ := h
 exact ⟨A, h1, h2, fun j hj => by rw [h3 j hj, he j hj]⟩
theorem RowF.block {w w' : World} {g n : Nat} {t : TypeId} {f : Nat -> Value} (h : RowF w g t n f) (hb : w'.heap[g]? = w.heap[g]?) : RowF w' g t n f := by
 obtain ⟨A, h1, h2⟩ := h
 exact ⟨A, by rw [hb]; exact h1, h2⟩
structure But (g : Nat) (w w' : World) : Prop where
 os : w'.os = w.os
 tape : w'.tape = w.tape
 output : w'.output = w.output
 size : w.heap.size <= w'.heap.size
 block : ∀ k, k < w.heap.size -> k ≠ g -> w'.heap[k]? = w.heap[k]?
theorem But.refl (g : Nat) (w : World) : But g w w := ⟨rfl, rfl, rfl, Nat.le_refl _, fun _ _ _ => rfl⟩
theorem But.trans {g : Nat} {a b c : World} (h : But g a b) (k : But g b c) : But g a c :=
 ⟨k.os.trans h.os, k.tape.trans h.tape, k.output.trans h.output, Nat.le_trans h.size k.size, fun i hi hn => (k.block i (Nat.lt_of_lt_of_le hi h.size) hn).trans (h.block i hi hn)⟩
theorem But.ofBelow {g : Nat} {w w' : World} (h : Below w.heap.size w w') : But g w w' := ⟨h.os, h.tape, h.output, h.size, fun k hk _ => h.block k hk⟩
theorem But.set (g : Nat) (w : World) (off : Nat) (u : Value) : But g w (w.setCell ⟨g, off, none⟩ u) :=
 ⟨rfl, rfl, rfl, by simp, fun k _ hn => Below.heap_setCell _ _ _ _ hn⟩
theorem But.below {g B : Nat} {w w' : World} (h : But g w w') (hB : B <= g) (hs : B <= w.heap.size) : Below B w w' :=
 ⟨h.os, h.tape, h.output, h.size, fun k hk => h.block k (by omega) (by omega)⟩
theorem But.set5 {g : Nat} {w0 w : World} (h : But g w0 w) (o0 o1 o2 o3 o4 : Nat) (u0 u1 u2 u3 u4 : Value) :
 But g w0 (((((w.setCell ⟨g, o0, none⟩ u0).setCell ⟨g, o1, none⟩ u1).setCell ⟨g, o2, none⟩ u2).setCell ⟨g, o3, none⟩ u3).setCell ⟨g, o4, none⟩ u4) :=
 ((((h.trans (But.set g _ _ _)).trans (But.set g _ _ _)).trans (But.set g _ _ _)).trans (But.set g _ _ _)).trans (But.set g _ _ _)
def At (w : World) (b : Nat) (A : Array Value) (t : TypeId) : Prop := w.heap[b]? = some (.cells A t (0, 0))
theorem At.lt {w : World} {b : Nat} {A : Array Value} {t : TypeId} (h : At w b A t) : b < w.heap.size := lt_of_block h
theorem At.cell {w : World} {b : Nat} {A : Array Value} {t : TypeId} (h : At w b A t) (j : Nat) : w.cell? ⟨b, j, none⟩ = A[j]? := cell_of_row _ _ _ _ _ _ h
theorem At.free {w : World} {b : Nat} {A : Array Value} {t : TypeId} (h : At w b A t) (j : Nat) : w.frozen? ⟨b, j, none⟩ = false := by
 unfold At at h; simp [World.frozen?, h]
theorem At.of {w w' : World} {b : Nat} {A : Array Value} {t : TypeId} (h : At w b A t) (hb : w'.heap[b]? = w.heap[b]?) : At w' b A t := by
 unfold At at *; rw [hb]; exact h
theorem At.range {w : World} {b : Nat} {A : Array Value} {t : TypeId} (h : At w b A t) (o n : Nat) : w.rangeAt b o (A.extract o (o + n)).toList := World.rangeAt_of_block h o n
def putA (A : Array Value) (o : Nat) : List Value -> Array Value
 | [] => A
 | v :: r => putA (A.setIfInBounds o v) (o + 1) r
theorem putA_size (o : Nat) (l : List Value) : ∀ (A : Array Value), (putA A o l).size = A.size := by
 induction l generalizing o with
 | nil => intro A; rfl
 | cons v r ih => intro A; rw [putA, ih]; simp
theorem putA_get (l : List Value) : ∀ (o : Nat) (A : Array Value) (j : Nat), j < A.size -> (putA A o l)[j]? = if o <= j /\ j < o + l.length then l[j - o]? else A[j]? := by
 induction l with
 | nil => intro o A j hj; simp [putA]; intro h1 h2; omega
 | cons v r ih =>
   intro o A j hj
   rw [putA, ih (o + 1) _ j (by simpa using hj)]
   by_cases h1 : o + 1 <= j /\ j < o + 1 + r.length
   · rw [if_pos h1, if_pos (by simp; omega)]
     rw [show j - o = (j - (o + 1)) + 1 by omega, List.getElem?_cons_succ]
   · rw [if_neg h1]
     by_cases h2 : j = o
     · subst h2
       rw [if_pos (by simp), Array.getElem?_setIfInBounds_self_of_lt hj]; simp
     · rw [if_neg (by simp; omega), Array.getElem?_setIfInBounds_ne (Ne.symm h2)]
theorem putA_whole {A cs : Array Value} (h : A.size = cs.size) : putA A 0 cs.toList = cs := by
 apply Array.ext_getElem?
 intro j
 by_cases hj : j < A.size
 · rw [putA_get _ _ _ _ hj, if_pos (by simp; omega)]; simp
 · rw [Array.getElem?_eq_none (by rw [putA_size]; omega), Array.getElem?_eq_none (by omega)]
theorem At.setCells {b : Nat} {t : TypeId} (l : List Value) : ∀ {w : World} {A : Array Value} (o : Nat), At w b A t -> At (w.setCells b o l) b (putA A o l) t := by
 induction l with
 | nil => intro w A o h; exact h
 | cons v r ih => intro w A o h; exact ih (o + 1) (set_block h)
theorem setCells_heap {b k : Nat} (hne : k ≠ b) (l : List Value) : ∀ (w : World) (o : Nat), (w.setCells b o l).heap[k]? = w.heap[k]? := by
 induction l with
 | nil => intro w o; rfl
 | cons v r ih => intro w o; exact (ih _ _).trans (Below.heap_setCell _ _ _ _ hne)
theorem setCells_size (b : Nat) (l : List Value) : ∀ (w : World) (o : Nat), (w.setCells b o l).heap.size = w.heap.size := by
 induction l with
 | nil => intro w o; rfl
 | cons v r ih => intro w o; rw [World.setCells, ih]; simp
structure Mod (M : List Nat) (w w' : World) : Prop where
 os : w'.os = w.os
 tape : w'.tape = w.tape
 output : w'.output = w.output
 size : w.heap.size <= w'.heap.size
 block : ∀ k, k < w.heap.size -> k ∉ M -> w'.heap[k]? = w.heap[k]?
theorem Mod.refl (M : List Nat) (w : World) : Mod M w w := ⟨rfl, rfl, rfl, Nat.le_refl _, fun _ _ _ => rfl⟩
theorem Mod.trans {M : List Nat} {a b c : World} (h : Mod M a b) (k : Mod M b c) : Mod M a c :=
 ⟨k.os.trans h.os, k.tape.trans h.tape, k.output.trans h.output, Nat.le_trans h.size k.size, fun i hi hn => (k.block i (Nat.lt_of_lt_of_le hi h.size) hn).trans (h.block i hi hn)⟩
theorem Mod.ofBelow {M : List Nat} {w w' : World} (h : Below w.heap.size w w') : Mod M w w' := ⟨h.os, h.tape, h.output, h.size, fun k hk _ => h.block k hk⟩
theorem Mod.below {w w' : World} (h : Mod [] w w') : Below w.heap.size w w' := ⟨h.os, h.tape, h.output, h.size, fun k hk => h.block k hk (by simp)⟩
theorem Mod.alloc (M : List Nat) (w : World) (o : Obj) : Mod M w (w.alloc o) := Mod.ofBelow ((Below.refl _ _).alloc (Nat.le_refl _) o)
theorem Mod.drew (M : List Nat) (w : World) : Mod M w w.drew := Mod.ofBelow ((Below.refl _ _).drew)
theorem Mod.step {M N : List Nat} {w0 w w' : World} (h : Mod M w0 w) (k : Mod N w w') (hN : ∀ b, b ∈ N -> w0.heap.size <= b \/ b ∈ M) : Mod M w0 w' :=
 ⟨k.os.trans h.os, k.tape.trans h.tape, k.output.trans h.output, Nat.le_trans h.size k.size, fun i hi hn => by
  refine (k.block i (Nat.lt_of_lt_of_le hi h.size) fun hb => ?_).trans (h.block i hi hn)
  rcases hN i hb with h1 | h1
  · omega
  · exact hn h1⟩
theorem Mod.setCells {M : List Nat} {w0 w : World} (h : Mod M w0 w) {b : Nat} (hb : w0.heap.size <= b \/ b ∈ M) (o : Nat) (l : List Value) : Mod M w0 (w.setCells b o l) := by
 refine h.step (N := [b]) ⟨?_, ?_, ?_, by rw [setCells_size]; exact Nat.le_refl _, fun k _ hk => setCells_heap (by simpa using hk) l w o⟩ (fun k hk => by simp at hk; subst hk; exact hb)
 all_goals
  clear hb h
  induction l generalizing w o with
  | nil => rfl
  | cons v r ih => rw [World.setCells]; exact (ih (w := w.setCell ⟨b, o, none⟩ v) (o := o + 1)).trans rfl
abbrev RowL := List (Nat × Array Value × TypeId)
structure Kn (M : List Nat) (w0 w : World) (L : RowL) : Prop where
 mod : Mod M w0 w
 has : ∀ x, x ∈ L -> At w x.1 x.2.1 x.2.2 /\ (w0.heap.size <= x.1 \/ x.1 ∈ M)
 dis : L.Pairwise fun x y => x.1 ≠ y.1
theorem Kn.at {M : List Nat} {w0 w : World} {L : RowL} {b : Nat} {A : Array Value} {t : TypeId} (h : Kn M w0 w L) (hm : (b, A, t) ∈ L) : At w b A t := (h.has _ hm).1
theorem Kn.nil (M : List Nat) (w : World) : Kn M w w [] := ⟨Mod.refl _ _, fun x h => (by cases h), List.Pairwise.nil⟩
theorem Kn.alloc {M : List Nat} {w0 w : World} {L : RowL} (h : Kn M w0 w L) (A : Array Value) (t : TypeId) : Kn M w0 (w.alloc (.cells A t)) ((w.heap.size, A, t) :: L) := by
 refine ⟨h.mod.trans (Mod.alloc _ _ _), ?_, List.Pairwise.cons (fun y hy e => by have := (h.has y hy).1.lt; omega) h.dis⟩
 intro x hx
 rcases List.mem_cons.1 hx with rfl | hx
 · exact ⟨heap_alloc_new _ _, Or.inl h.mod.size⟩
 · exact ⟨(h.has x hx).1.of (Below.heap_alloc _ _ _ (h.has x hx).1.lt), (h.has x hx).2⟩
theorem Kn.drew {M : List Nat} {w0 w : World} {L : RowL} (h : Kn M w0 w L) : Kn M w0 w.drew L := ⟨h.mod.trans (Mod.drew _ _), h.has, h.dis⟩
theorem Kn.call {M : List Nat} {w0 w w' : World} {L : RowL} (h : Kn M w0 w L) (hb : Below w.heap.size w w') : Kn M w0 w' L :=
 ⟨h.mod.trans (Mod.ofBelow hb), fun x hx => ⟨(h.has x hx).1.of (hb.block _ (h.has x hx).1.lt), (h.has x hx).2⟩, h.dis⟩
theorem Kn.drop {M : List Nat} {w0 w : World} {L : RowL} {x : Nat × Array Value × TypeId} (h : Kn M w0 w (x :: L)) : Kn M w0 w L :=
 ⟨h.mod, fun y hy => h.has y (List.mem_cons_of_mem _ hy), (List.pairwise_cons.1 h.dis).2⟩
def setB (b : Nat) (A : Array Value) : RowL -> RowL -> Prop
 | x :: L, y :: M => (x.1 = b /\ y = (b, A, x.2.2) /\ L = M) \/ (x = y /\ setB b A L M)
 | _, _ => False
theorem setB_here (b : Nat) (A A' : Array Value) (t : TypeId) (L : RowL) : setB b A' ((b, A, t) :: L) ((b, A', t) :: L) := Or.inl ⟨rfl, rfl, rfl⟩
theorem setB_next {b : Nat} {A' : Array Value} (x : Nat × Array Value × TypeId) {L M : RowL} (h : setB b A' L M) : setB b A' (x :: L) (x :: M) := Or.inr ⟨rfl, h⟩
theorem setB_keys {b : Nat} {A : Array Value} : ∀ {L M : RowL}, setB b A L M -> L.map (·.1) = M.map (·.1)
 | [], [], h => h.elim
 | [], _ :: _, h => h.elim
 | _ :: _, [], h => h.elim
 | x :: L, y :: M, h => by
   rcases h with ⟨h1, h2, rfl⟩ | ⟨rfl, h⟩
   · simp [h1, h2]
   · simp [setB_keys h]
theorem setB_in {b : Nat} {A : Array Value} : ∀ {L M : RowL}, setB b A L M -> b ∈ L.map (·.1)
 | [], [], h => h.elim
 | [], _ :: _, h => h.elim
 | _ :: _, [], h => h.elim
 | x :: L, y :: M, h => by
   rcases h with ⟨h1, _⟩ | ⟨_, h⟩
   · simp [h1]
   · simp only [List.map_cons, List.mem_cons]; exact Or.inr (setB_in h)
theorem setB_mem {b : Nat} {A : Array Value} : ∀ {L M : RowL}, setB b A L M -> L.Pairwise (fun x y => x.1 ≠ y.1) -> ∀ y, y ∈ M -> (∃ x, x ∈ L /\ x.1 = b /\ y = (b, A, x.2.2)) \/ (y.1 ≠ b /\ y ∈ L)
 | [], [], h, _, _, _ => h.elim
 | [], _ :: _, h, _, _, _ => h.elim
 | _ :: _, [], h, _, _, _ => h.elim
 | x :: L, z :: M, h, hp, y, hy => by
   rcases h with ⟨h1, h2, rfl⟩ | ⟨rfl, h⟩
   · rcases List.mem_cons.1 hy with rfl | hy
     · exact Or.inl ⟨x, List.mem_cons_self, h1, h2⟩
     · have := (List.pairwise_cons.1 hp).1 y hy
       exact Or.inr ⟨fun e => this (h1.trans e.symm), List.mem_cons_of_mem _ hy⟩
   · rcases List.mem_cons.1 hy with rfl | hy
     · by_cases e : y.1 = b
       · exfalso
         have : b ∈ L.map (·.1) := setB_in h
         obtain ⟨q, hq, hq2⟩ := List.mem_map.1 this
         exact (List.pairwise_cons.1 hp).1 q hq (e.trans hq2.symm)
       · exact Or.inr ⟨e, List.mem_cons_self⟩
     · rcases setB_mem h (List.pairwise_cons.1 hp).2 y hy with ⟨q, h3, h4, h5⟩ | ⟨h1, h2⟩
       · exact Or.inl ⟨q, List.mem_cons_of_mem _ h3, h4, h5⟩
       · exact Or.inr ⟨h1, List.mem_cons_of_mem _ h2⟩
theorem pw_keys {L M : RowL} (h : L.map (·.1) = M.map (·.1)) (hp : L.Pairwise fun x y => x.1 ≠ y.1) : M.Pairwise fun x y => x.1 ≠ y.1 := by
 have h1 : (L.map (·.1)).Pairwise (fun x y => x ≠ y) := List.pairwise_map.2 hp
 rw [h] at h1
 exact List.pairwise_map.1 h1
theorem Kn.put {M : List Nat} {w0 w : World} {L L' : RowL} {b o : Nat} {A : Array Value} {t : TypeId} (h : Kn M w0 w L) (hm : (b, A, t) ∈ L) (l : List Value) (hs : setB b (putA A o l) L L') : Kn M w0 (w.setCells b o l) L' := by
 refine ⟨h.mod.setCells (h.has _ hm).2 o l, fun y hy => ?_, pw_keys (setB_keys hs) h.dis⟩
 rcases setB_mem hs h.dis y hy with ⟨q, h3, h4, h5⟩ | ⟨h1, h2⟩
 · have hq := (h.has q h3).1
   have hr := (h.has _ hm).1
   unfold At at hq hr
   simp only at hr
   rw [h4, hr] at hq
   simp only [Option.some.injEq, Obj.cells.injEq] at hq
   rw [h5, <- hq.2.1]
   exact ⟨(h.has _ hm).1.setCells l o, (h.has _ hm).2⟩
 · exact ⟨(h.has y h2).1.of (setCells_heap h1 l w o), (h.has y h2).2⟩
structure RowT (P : Program) (ty : TypeId) (n : Nat) : Prop where
 ex : ∃ d, P.underlying ty = some d /\ d.isRow = true
 hi : (P.info? ty).map (·.size) = some n
structure OneT (P : Program) (ty : TypeId) : Prop where
 ex : ∃ d, P.underlying ty = some d /\ d.isRow = false
 hi : (P.info? ty).map (·.size) = some 1
section laws
variable {P : Program} {d : Option Tmp} {tt : TypeId} {pos : String} {aft : Array Edge} {g : Option (Nat × Bool)} {a : Act} {w : World} {K : Act -> World -> Prop} {Q : Exit -> Act -> World -> Prop} {M : List Nat} {w0 : World} {L L' : RowL} {ty : TypeId} {x y : Operand} {A A' cs : Array Value} {b j n : Nat} {t : TypeId} {v z : Value}
theorem oBox (hx : a.eval x = .agg A) (hk : Kn M w0 w L) (h : ∀ w1, Kn M w0 w1 ((w.heap.size, A, ty) :: L) -> K (a.put d (.pointer (some ⟨w.heap.size, 0, none⟩))) w1) : Oper.wp P ⟨d, .box ty x, tt, pos, aft, g⟩ a w K Q := by
 have h1 := h (w.alloc (.cells A ty)) (hk.alloc A ty)
 unfold Oper.wp execOp
 simp only [hx, Instr.box, newVar, newRow, Value.cells, run_newObj_alloc, Sem.run_bind, Sem.run_pure, Result.andThen_ok]
 exact h1
theorem oAlloc (hz : (P.info? ty).map (·.zero) = some (some z)) (hA : z.cells = A) (hk : Kn M w0 w L) (h : ∀ w1, Kn M w0 w1 ((w.heap.size, A, ty) :: L) -> K (a.put d (.pointer (some ⟨w.heap.size, 0, none⟩))) w1) : Oper.wp P ⟨d, .alloc ty, tt, pos, aft, g⟩ a w K Q := by
 have h1 := h (w.alloc (.cells A ty)) (hk.alloc A ty)
 cases hq : P.info? ty with
 | none => rw [hq] at hz; simp at hz
 | some i =>
   have hs : i.zero = some z := by simpa [hq] using hz
   unfold Oper.wp execOp
   simp only [Instr.alloc, zeroValue, typeInfo, newVar, newRow, hA, run_newObj_alloc, Sem.run_bind, Sem.run_pure, Result.andThen_ok, hq, hs, run_program]
   exact h1
theorem oAllocR (hz : (P.info? ty).map (·.zero) = some (some (.agg A))) (hk : Kn M w0 w L) (h : ∀ w1, Kn M w0 w1 ((w.heap.size, A, ty) :: L) -> K (a.put d (.pointer (some ⟨w.heap.size, 0, none⟩))) w1) : Oper.wp P ⟨d, .alloc ty, tt, pos, aft, g⟩ a w K Q := oAlloc hz rfl hk h
theorem oBuild {parts : Array (Nat × Operand)} {ps : List (Nat × Value)} (hps : (parts.toList.map fun (i, x) => (i, a.eval x)) = ps) (hb : (Instr.build ty ps.toArray).run P w = .ok v w) (h : K (a.put d v) w) : Oper.wp P ⟨d, .build ty parts, tt, pos, aft, g⟩ a w K Q := by
 unfold Oper.wp execOp
 have e : (parts.map fun (i, x) => (i, a.eval x)) = ps.toArray := by rw [<- hps]; exact (Array.toList_inj.1 (by rw [Array.toList_map]))
 simp only [Sem.run_bind, Sem.run_pure, Result.andThen_ok, e, hb]
 exact h
theorem run_loadRange (hr : w.rangeAt b j cs.toList) (hT : RowT P ty n) (hn : cs.size = n) : (Instr.loadAt ty (.pointer (some ⟨b, j, none⟩))).run P w = .ok (.agg cs) w := by
 obtain ⟨dd, hu, hd⟩ := hT.ex
 have := run_loadAt_mid (P := P) w b j ty cs.toList dd hr hu hd (by rw [hT.hi, Array.length_toList, hn])
 simpa using this
theorem run_loadA (hat : At w b A t) (hT : RowT P ty n) (hc : A.extract j (j + n) = cs) (hn : cs.size = n) : (Instr.loadAt ty (.pointer (some ⟨b, j, none⟩))).run P w = .ok (.agg cs) w := by
 subst hc
 exact run_loadRange (hat.range j n) hT hn
theorem run_loadC (hc : w.cell? ⟨b, j, none⟩ = some v) (hT : OneT P ty) : (Instr.loadAt ty (.pointer (some ⟨b, j, none⟩))).run P w = .ok v w := by
 obtain ⟨dd, hu, hd⟩ := hT.ex
 have hagg : (isAgg ty).run P w = .ok false w := by
  unfold isAgg
  rw [Sem.run_bind, run_underlying hu w]
  cases dd <;> simp_all
 simp [Instr.loadAt, Instr.sureAddr, loadVar, Sem.run_bind, hagg, hc]
theorem oLoadR (hx : a.eval x = .pointer (some ⟨b, j, none⟩)) (hk : Kn M w0 w L) (hm : (b, A, t) ∈ L) (hT : RowT P ty n) (hc : A.extract j (j + n) = cs) (hn : cs.size = n) (h : K (a.put d (.agg cs)) w) : Oper.wp P ⟨d, .load ty x, tt, pos, aft, g⟩ a w K Q := by
 unfold Oper.wp execOp
 simp only [hx, Sem.run_bind, Sem.run_pure, Result.andThen_ok, run_loadA (hk.at hm) hT hc hn]
 exact h
theorem oLoad1 (hx : a.eval x = .pointer (some ⟨b, j, none⟩)) (hk : Kn M w0 w L) (hm : (b, A, t) ∈ L) (hT : OneT P ty) (hv : A[j]? = some v) (h : K (a.put d v) w) : Oper.wp P ⟨d, .load ty x, tt, pos, aft, g⟩ a w K Q := by
 unfold Oper.wp execOp
 simp only [hx, Sem.run_bind, Sem.run_pure, Result.andThen_ok, run_loadC (by rw [(hk.at hm).cell]; exact hv) hT]
 exact h
theorem oLoadOld1 (hx : a.eval x = .pointer (some ⟨b, j, none⟩)) (hk : Kn M w0 w L) (hc : w0.cell? ⟨b, j, none⟩ = some v) (hM : b ∉ M) (hT : OneT P ty) (h : K (a.put d v) w) : Oper.wp P ⟨d, .load ty x, tt, pos, aft, g⟩ a w K Q := by
 have hb := World.block_lt_of_cell? w0 _ hc
 have hc' : w.cell? ⟨b, j, none⟩ = some v := by
  rw [World.cell?_of_block (w := w0) (a := ⟨b, j, none⟩) (hk.mod.block b hb hM)]; exact hc
 unfold Oper.wp execOp
 simp only [hx, Sem.run_bind, Sem.run_pure, Result.andThen_ok, run_loadC hc' hT]
 exact h
theorem oLoadOldR (hx : a.eval x = .pointer (some ⟨b, j, none⟩)) (hk : Kn M w0 w L) (hc : w0.rangeAt b j cs.toList) (hb : b < w0.heap.size) (hM : b ∉ M) (hT : RowT P ty n) (hn : cs.size = n) (h : K (a.put d (.agg cs)) w) : Oper.wp P ⟨d, .load ty x, tt, pos, aft, g⟩ a w K Q := by
 have hc' : w.rangeAt b j cs.toList := fun i u hu => by
  rw [World.cell?_of_block (w := w0) (a := ⟨b, j + i, none⟩) (hk.mod.block b hb hM)]; exact hc i u hu
 unfold Oper.wp execOp
 simp only [hx, Sem.run_bind, Sem.run_pure, Result.andThen_ok, run_loadRange hc' hT hn]
 exact h
theorem oStoreR (hx : a.eval x = .pointer (some ⟨b, j, none⟩)) (hy : a.eval y = .agg cs) (hk : Kn M w0 w L) (hm : (b, A, t) ∈ L) (hT : RowT P ty n) (hn : cs.size = n) (hj : j + n <= A.size) (h1 : cs.toList.all (·.oneCell') = true) (hA : putA A j cs.toList = A') (hs : setB b A' L L')
 (h : ∀ w1, Kn M w0 w1 L' -> K (a.put d undef) w1) : Oper.wp P ⟨d, .store ty x y, tt, pos, aft, g⟩ a w K Q := by
 subst hA
 have h2 := h (w.setCells b j cs.toList) (hk.put hm cs.toList hs)
 have hat := hk.at hm
 have ht : w.there b j cs.size := fun k hk => ⟨by rw [hat.cell, Array.getElem?_eq_getElem (by omega)]; rfl, hat.free _⟩
 exact wp_store_mid ty x y rfl b j cs hx hy ht (by rw [hT.hi, hn]) (by rw [<- Array.all_toList]; exact h1) h2
theorem oStore1 (hx : a.eval x = .pointer (some ⟨b, j, none⟩)) (hy : a.eval y = v) (hk : Kn M w0 w L) (hm : (b, A, t) ∈ L) (hT : OneT P ty) (hv : v.cells = #[v]) (hj : j + 1 <= A.size) (h1 : v.oneCell' = true) (hA : A.setIfInBounds j v = A') (hs : setB b A' L L')
 (h : ∀ w1, Kn M w0 w1 L' -> K (a.put d undef) w1) : Oper.wp P ⟨d, .store ty x y, tt, pos, aft, g⟩ a w K Q := by
 subst hA
 have h2 := h (w.setCells b j [v]) (hk.put hm [v] hs)
 have hat := hk.at hm
 have hst : (store ⟨b, j, none⟩ v).run P w = .ok () (w.setCell ⟨b, j, none⟩ v) := by
  have hc : (w.cell? ⟨b, j, none⟩).isSome = true := by rw [hat.cell, Array.getElem?_eq_getElem (by omega)]; rfl
  have := run_storeCells_cells (P := P) b j [v] 0 w (fun k hk => by simp at hk; subst hk; simpa using hc) (fun k hk => hat.free _) (fun u hu => by simp at hu; subst hu; exact h1)
  have e0 : (⟨b, j, none⟩ : Addr).add 0 = ⟨b, j, none⟩ := by rw [Addr.add_mid]; rfl
  simpa [storeCells, World.setCells, e0] using this
 have hi := hT.hi
 cases hq : P.info? ty with
 | none => simp [hq] at hi
 | some i =>
   have hs1 : i.size = 1 := by simpa [hq] using hi
   have e0 : (⟨b, j, none⟩ : Addr).add 0 = ⟨b, j, none⟩ := by rw [Addr.add_mid]; rfl
   unfold Oper.wp execOp
   simp only [hx, hy, Instr.storeAt, Instr.sureAddr, storeVar, sizeOf, typeInfo, hq, hv, hs1, storeCells, e0, Sem.run_bind, Sem.run_pure, Result.andThen_ok, run_program]
   simp only [ne_eq, not_true_eq_false, Array.size_singleton, if_false, Sem.run_bind, hst, Result.andThen_ok, Sem.run_pure]
   exact h2
end laws
theorem wl1 {P : Program} {ops : Array Oper} {Q : Exit -> Act -> World -> Prop} {a : Act} {w : World} {rest : List Oper} {o : Oper} (hw : Region.wanted o (yielded ops a.tmps) = true) (h : o.wp P a w (wpList P ops Q rest) Q) : wpList P ops Q (o :: rest) a w := by
 unfold wpList; rw [if_pos hw]; exact Or.inl h
theorem run_resA {P : Program} {w : World} {b : Nat} {A : Array Value} {t ty : TypeId} {n : Nat} (hat : At w b A t) (hT : RowT P ty n) (hn : A.size = n) : (loadVar ty ⟨b, 0, none⟩).run P w = .ok (.agg A) w := by
 obtain ⟨dd, hu, hd⟩ := hT.ex
 have hr := hat.range 0 n
 have e : A.extract 0 (0 + n) = A := by rw [Nat.zero_add, <- hn]; exact Array.extract_size
 rw [e] at hr
 have := run_loadVar_mid (P := P) w b 0 ty A.toList dd hr hu hd (by rw [hT.hi, Array.length_toList, hn])
 simpa using this
theorem post_1 {P : Program} {fn : Func} {R : Ending -> World -> Prop} {a : Act} {w : World} {s b n : Nat} {ty t : TypeId} {A : Array Value} (hf : fn.results = #[.cell s ty]) (hs : a.tmps.getD s undef = .pointer (some ⟨b, 0, none⟩)) (hat : At w b A t) (hT : RowT P ty n) (hn : A.size = n) (hd : a.defers = []) (hR : R (.returned (.agg A)) w) : bodyPost P fn R .ret a w := by
 refine bodyPost_ret (v := .agg A) ?_ hd hR
 rw [Array.getD_eq_getD_getElem?] at hs
 simp [results, hf, hs, asAddr, run_resA hat hT hn]
theorem post_2 {P : Program} {fn : Func} {R : Ending -> World -> Prop} {a : Act} {w : World} {s b n s' b' n' : Nat} {ty t ty' t' : TypeId} {A A' : Array Value} (hf : fn.results = #[.cell s ty, .cell s' ty']) (hs : a.tmps.getD s undef = .pointer (some ⟨b, 0, none⟩)) (hat : At w b A t) (hT : RowT P ty n) (hn : A.size = n)
 (hs' : a.tmps.getD s' undef = .pointer (some ⟨b', 0, none⟩)) (hat' : At w b' A' t') (hT' : RowT P ty' n') (hn' : A'.size = n') (hd : a.defers = []) (hR : R (.returned (.tuple #[.agg A, .agg A'])) w) : bodyPost P fn R .ret a w := by
 refine bodyPost_ret (v := .tuple #[.agg A, .agg A']) ?_ hd hR
 rw [Array.getD_eq_getD_getElem?] at hs hs'
 simp [results, hf, hs, hs', asAddr, run_resA hat hT hn, run_resA hat' hT' hn']
end Go.Proofs.YtamiichlbmllcabGreatDoor
