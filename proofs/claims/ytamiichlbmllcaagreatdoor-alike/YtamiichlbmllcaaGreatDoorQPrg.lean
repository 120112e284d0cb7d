import Derived.Test.YtamiichlbmllcaaGreatDoorQRight
import Derived.OwnWalk
import Derived.Deep.RegionLaw
import Derived.Deep.QuietTactic
import Derived.BigQuiet
/-
  A row by what each of its cells holds.
-/
namespace Go.Proofs.YtamiichlbmllcaaGreatDoor
open Go.RowKit
theorem set_block {w : World} {g off : Nat} {A : Array Value} {t : TypeId} {u : Value} (h : w.heap[g]? = some (.cells A t (0, 0))) : (w.setCell ⟨g, off, none⟩ u).heap[g]? = some (.cells (A.setIfInBounds off u) t (0, 0)) := by
  have hlt := lt_of_block h
  have h' : w.heap[g] = .cells A t (0, 0) := by simpa [Array.getElem?_eq_getElem hlt] using h
  show (w.heap.modify g _)[g]? = _
  rw [Array.getElem?_eq_getElem (by simpa using hlt), Array.getElem_modify_self, h']; rfl
/-- a row by what each of its cells holds -/
def RowF (w : World) (g : Nat) (t : TypeId) (n : Nat) (f : Nat → Value) : Prop := ∃ A, w.heap[g]? = some (.cells A t (0, 0)) ∧ A.size = n ∧ ∀ j, j < n → A[j]? = some (f j)
theorem RowF.lt {w : World} {g n : Nat} {t : TypeId} {f : Nat → Value} (h : RowF w g t n f) : g < w.heap.size := by obtain ⟨A, h1, _⟩ := h; exact lt_of_block h1
theorem RowF.cell {w : World} {g n : Nat} {t : TypeId} {f : Nat → Value} (h : RowF w g t n f) (j : Nat) (hj : j < n) : w.cell? ⟨g, j, none⟩ = some (f j) ∧ w.frozen? ⟨g, j, none⟩ = false := by
  obtain ⟨A, h1, h2, h3⟩ := h
  exact ⟨by rw [cell_of_row _ _ _ _ _ _ h1]; exact h3 j hj, by simp [World.frozen?, h1]⟩
theorem RowF.set {w : World} {g n : Nat} {t : TypeId} {f : Nat → Value} (h : RowF w g t n f) (j0 : Nat) (u : Value) : RowF (w.setCell ⟨g, j0, none⟩ u) g t n (fun j => if j = j0 then u else f j) := by
  obtain ⟨A, h1, h2, h3⟩ := h
  refine ⟨_, set_block h1, by simp [h2], fun j hj => ?_⟩
  show (A.setIfInBounds j0 u)[j]? = some (if j = j0 then u else f j)
  by_cases e : j = j0
  · subst e
    rw [if_pos rfl, Array.getElem?_setIfInBounds_self_of_lt (by omega)]
  · rw [if_neg e, Array.getElem?_setIfInBounds_ne (Ne.symm e)]; exact h3 j hj
theorem RowF.congr {w : World} {g n : Nat} {t : TypeId} {f f' : Nat → Value} (h : RowF w g t n f) (he : ∀ j, j < n → f j = f' j) : RowF w g t n f' := by
  obtain ⟨A, h1, h2, h3⟩ := h
  exact ⟨A, h1, h2, fun j hj => by rw [h3 j hj, he j hj]⟩
theorem RowF.block {w w' : World} {g n : Nat} {t : TypeId} {f : Nat → Value} (h : RowF w g t n f) (hb : w'.heap[g]? = w.heap[g]?) : RowF w' g t n f := by
  obtain ⟨A, h1, h2⟩ := h
  exact ⟨A, by rw [hb]; exact h1, h2⟩
/-- nothing that was there is written, but for one block -/
structure But (g : Nat) (w w' : World) : Prop where
  os : w'.os = w.os
  tape : w'.tape = w.tape
  output : w'.output = w.output
  size : w.heap.size ≤ w'.heap.size
  block : ∀ k, k < w.heap.size → k ≠ g → w'.heap[k]? = w.heap[k]?
theorem But.refl (g : Nat) (w : World) : But g w w := ⟨rfl, rfl, rfl, Nat.le_refl _, fun _ _ _ => rfl⟩
theorem But.trans {g : Nat} {a b c : World} (h : But g a b) (k : But g b c) : But g a c :=
  ⟨k.os.trans h.os, k.tape.trans h.tape, k.output.trans h.output, Nat.le_trans h.size k.size, fun i hi hn => (k.block i (Nat.lt_of_lt_of_le hi h.size) hn).trans (h.block i hi hn)⟩
theorem But.ofBelow {g : Nat} {w w' : World} (h : Below w.heap.size w w') : But g w w' := ⟨h.os, h.tape, h.output, h.size, fun k hk _ => h.block k hk⟩
theorem But.set (g : Nat) (w : World) (off : Nat) (u : Value) : But g w (w.setCell ⟨g, off, none⟩ u) :=
  ⟨rfl, rfl, rfl, by simp, fun k _ hn => Below.heap_setCell _ _ _ _ hn⟩
theorem But.below {g B : Nat} {w w' : World} (h : But g w w') (hB : B ≤ g) (hs : B ≤ w.heap.size) : Below B w w' :=
  ⟨h.os, h.tape, h.output, h.size, fun k hk => h.block k (by omega) (by omega)⟩
theorem But.set5 {g : Nat} {w0 w : World} (h : But g w0 w) (o0 o1 o2 o3 o4 : Nat) (u0 u1 u2 u3 u4 : Value) :
    But g w0 (((((w.setCell ⟨g, o0, none⟩ u0).setCell ⟨g, o1, none⟩ u1).setCell ⟨g, o2, none⟩ u2).setCell ⟨g, o3, none⟩ u3).setCell ⟨g, o4, none⟩ u4) :=
  ((((h.trans (But.set g _ _ _)).trans (But.set g _ _ _)).trans (But.set g _ _ _)).trans (But.set g _ _ _)).trans (But.set g _ _ _)
end Go.Proofs.YtamiichlbmllcaaGreatDoor
/-
  The contracts of machine.instructionOf, for every instruction.
-/
namespace Go.Proofs.YtamiichlbmllcaaGreatDoor
open Go.RowKit
/-- an instruction behind the interface -/
def iVal (i : I5) : Value :=
  if i.o = 1 then .iface 183 (.agg #[.int .i64 i.a, .int .i64 i.k])
  else if i.o = 2 then .iface 185 (.agg #[.int .i64 i.a, .int .i64 i.b])
  else if i.o = 3 then .iface 187 (.agg #[.int .i64 i.a, .int .i64 i.b, .int .i64 i.c])
  else if i.o = 4 then .iface 188 (.agg #[.int .i64 i.a, .int .i64 i.b, .int .i64 i.c])
  else if i.o = 5 then .iface 189 (.agg #[.int .i64 i.a, .int .i64 i.b, .int .i64 i.c])
  else if i.o = 6 then .iface 190 (.agg #[.int .i64 i.a, .int .i64 i.b, .int .i64 i.c])
  else if i.o = 7 then .iface 191 (.agg #[.int .i64 i.a, .int .i64 i.b])
  else if i.o = 8 then .iface 192 (.agg #[.int .i64 i.a, .int .i64 i.b])
  else if i.o = 9 then .iface 194 (.agg #[.int .i64 i.k])
  else if i.o = 10 then .iface 196 (.agg #[.int .i64 i.a, .int .i64 i.b, .int .i64 i.k])
  else if i.o = 11 then .iface 197 (.agg #[.int .i64 i.a, .int .i64 i.b, .int .i64 i.k])
  else .iface 199 (.agg #[])
theorem ret_val {v v' : Value} (h : v = v') : Ending.returned v = .returned v' := by rw [h]
set_option maxHeartbeats 1000000 in
theorem insOf_any (i : I5) (w : World) :
    Calls Tryz.prog 67 #[i.val] w fun e w' => e = .returned (iVal i) ∧ Below w.heap.size w w' := by
  obtain ⟨o, a, b, c, k⟩ := i
  unfold I5.val
  simp only
  have hcases : o = 1 ∨ o = 2 ∨ o = 3 ∨ o = 4 ∨ o = 5 ∨ o = 6 ∨ o = 7 ∨ o = 8 ∨ o = 9 ∨ o = 10 ∨ o = 11 ∨ (o ≠ 1 ∧ o ≠ 2 ∧ o ≠ 3 ∧ o ≠ 4 ∧ o ≠ 5 ∧ o ≠ 6 ∧ o ≠ 7 ∧ o ≠ 8 ∧ o ≠ 9 ∧ o ≠ 10 ∧ o ≠ 11) := by omega
  rcases hcases with h | h | h | h | h | h | h | h | h | h | h | h
  all_goals
    have R := hide h
    first
      | subst h
        go_enter Tryz.func67, Tryz.ntmps67
        go_wp2
        go_ret
        exact ⟨ret_val (by simp [iVal]), (((Below.refl _ _).alloc (Nat.le_refl _) _).alloc (by simp) _)⟩
      | have d1 : (o == 1) = false := by rw [beq_eq_false_iff_ne]; omega
        have d2 : (o == 2) = false := by rw [beq_eq_false_iff_ne]; omega
        have d3 : (o == 3) = false := by rw [beq_eq_false_iff_ne]; omega
        have d4 : (o == 4) = false := by rw [beq_eq_false_iff_ne]; omega
        have d5 : (o == 5) = false := by rw [beq_eq_false_iff_ne]; omega
        have d6 : (o == 6) = false := by rw [beq_eq_false_iff_ne]; omega
        have d7 : (o == 7) = false := by rw [beq_eq_false_iff_ne]; omega
        have d8 : (o == 8) = false := by rw [beq_eq_false_iff_ne]; omega
        have d9 : (o == 9) = false := by rw [beq_eq_false_iff_ne]; omega
        have d10 : (o == 10) = false := by rw [beq_eq_false_iff_ne]; omega
        have d11 : (o == 11) = false := by rw [beq_eq_false_iff_ne]; omega
        clear h
        go_enter Tryz.func67, Tryz.ntmps67
        go_wp2
        go_ret
        exact ⟨ret_val (by have := R.out; simp [iVal, this]), (((Below.refl _ _).alloc (Nat.le_refl _) _).alloc (by simp) _)⟩
end Go.Proofs.YtamiichlbmllcaaGreatDoor
/-
  The contract of machine.ProgramOf, for every list of instructions.
-/
namespace Go.Proofs.YtamiichlbmllcaaGreatDoor
open Go.RowKit
theorem Tryz.infoIn : (Tryz.prog.info? 124).map (fun i => (i.zero, i.size, i.bytes)) = some (some .nilIface, 1, 16) := by kernel_rfl
theorem info_three {P : Program} {t : TypeId} {z : Value} {s b : Nat} (h : (P.info? t).map (fun i => (i.zero, i.size, i.bytes)) = some (some z, s, b)) : ∃ i, P.info? t = some i ∧ i.zero = some z ∧ i.size = s ∧ i.bytes = b := by
  cases hi : P.info? t with
  | none => rw [hi] at h; simp at h
  | some i => rw [hi] at h; simp at h; exact ⟨i, rfl, h.1, h.2.1, h.2.2⟩
theorem one_ite {c : Prop} [Decidable c] {a b : Value} (ha : a.oneCell' = true) (hb : b.oneCell' = true) : (if c then a else b).oneCell' = true := by split <;> assumption
theorem iVal_one (i : I5) : (iVal i).oneCell' = true := by
  unfold iVal
  repeat (refine one_ite rfl ?_)
  rfl
theorem iface_ite {c : Prop} [Decidable c] {a b : Value} (ha : ∃ t y, a = .iface t y) (hb : ∃ t y, b = .iface t y) : ∃ t y, (if c then a else b) = .iface t y := by split <;> assumption
theorem iVal_iface (i : I5) : ∃ t y, iVal i = .iface t y := by
  unfold iVal
  repeat (refine iface_ite ⟨_, _, rfl⟩ ?_)
  exact ⟨_, _, rfl⟩
theorem own_bel {w w' : World} {B e size n : Nat} {v : Value} {xs : List Value} (h : w.ownsRow B e size v n xs) (hb : Below w.heap.size w w') : w'.ownsRow B e size v n xs := by
  refine ⟨h.1, ?_⟩
  rcases h.2 with h2 | ⟨g, cap, cur, h3, h4, hh, r⟩
  · exact Or.inl h2
  · exact Or.inr ⟨g, cap, cur, h3, h4, by rw [hb.block g (lt_of_block hh)]; exact hh, r⟩
/-- a program as instructions, a row of the call's own -/
def OwnP (w : World) (base : Nat) (v : Value) (l : List I5) : Prop := w.ownsRow base 124 1 v l.length (l.map iVal)
theorem one_new (w : World) (u : Value) (t : TypeId) (g : Nat) (hg : g = w.heap.size) : ∀ j x, [u][j]? = some x → (w.alloc (.cells #[u] t)).cell? ((⟨g, 0, none⟩ : Addr).add j) = some x := by
  subst hg
  intro j x hj
  have hadd : (⟨w.heap.size, 0, none⟩ : Addr).add j = ⟨w.heap.size, j, none⟩ := by unfold Addr.add; split <;> simp_all
  rw [hadd, cell_of_row _ _ _ _ _ _ (heap_alloc_new w _)]
  simpa using hj
set_option maxHeartbeats 1000000 in
set_option maxRecDepth 100000 in
theorem progOf_some (l : List I5) (b off cap : Nat) (w : World) (hb : b < w.heap.size) (hl2 : l.length ≤ 64) (hi : ∀ i (h : i < l.length), InsAt w b (off + i * 5) l[i]) :
    Calls Tryz.prog 43 #[.slice (some ⟨b, off, none⟩) l.length cap] w fun e w' => ∃ v, e = .returned v ∧ OwnP w' w.heap.size v l ∧ Below w.heap.size w w' := by
  obtain ⟨i0, hii, hz0, hzs, hz2⟩ := info_three Tryz.infoIn
  have HI := hide hi
  clear hi
  go_enter Tryz.func43, Tryz.ntmps43
  go_wp2_with (at_make; go_must (refine wpList_make_own _ rfl (.const (.int .i64 0)) (.tmp 7) 90 rfl w.heap.size 124 i0 _ 1 Tryz.underlying90 hii hz0 hzs .i64 .i64 l.length l.length rfl rfl rfl ?b2 ?b3 ?b4 ?_))
  case b2 => rw [hz2]; omega
  case b3 => unfold maxLen; omega
  case b4 => simp
  intro w1 hown1 hgrow1
  have hbl1 : Below w.heap.size w w1 := Below.grown (B := w.heap.size) (Below.refl _ _) hgrow1 (by simp) (fun k hk => by cases hk)
  clear hgrow1
  go_wp2_with fail
  go_loopw [3, 11] (fun p j wr => ∃ n : Nat, n ≤ l.length ∧ j = .int .i64 n ∧ OwnP wr w.heap.size p (l.take n) ∧ Below w.heap.size w wr) (fun _ j _ => l.length - (intOf j).toNat)
  case atStart => exact ⟨0, by omega, rfl, by simpa [OwnP] using hown1, hbl1⟩
  case round =>
    clear hown1 hbl1
    obtain ⟨n, hn, rfl, hown, hbl⟩ := hrel
    by_cases hlt : n < l.length
    · obtain ⟨c0, c1, c2, c3, c4⟩ := (HI.out n hlt).below hbl hb
      have hz := hbl.size
      obtain ⟨x, hx⟩ : ∃ x, x = l[n] := ⟨_, rfl⟩
      rw [← hx] at c0 c1 c2 c3 c4
      have HX := hide hx
      clear hx
      obtain ⟨a3, cp3, rfl⟩ : ∃ a c, u3 = .slice a n c := by
        rcases hown.2 with ⟨h1, h2⟩ | ⟨g, cap, cur, h1, _⟩
        · exact ⟨none, 0, by rw [h1]; simp at h2; rcases h2 with h2 | h2; rw [h2]; rw [h2] at hlt; simp at hlt⟩
        · exact ⟨_, _, by rw [h1, List.length_take, Nat.min_eq_left hn]⟩
      go_wp2_with fail
      refine (insOf_any x _).mono ?_
      rintro e w2 ⟨rfl, hb2⟩
      generalize hW : wr.alloc (.cells #[.int .i64 x.o, .int .i64 x.a, .int .i64 x.b, .int .i64 x.c, .int .i64 x.k] 62) = w15 at *
      have hb15 : Below wr.heap.size wr w15 := by rw [← hW]; exact (Below.refl _ _).alloc (Nat.le_refl _) _
      have hown2 : OwnP w2 w.heap.size (.slice a3 n cp3) (l.take n) := own_bel (own_bel hown hb15) hb2
      have hbl2 : Below w.heap.size w w2 := (hbl.trans (hb15.mono hz)).trans (hb2.mono (by have := hb15.size; omega))
      have hz2' := hbl2.size
      obtain ⟨tV, yV, hV⟩ := iVal_iface x
      rw [hV]
      have HV := hide hV
      clear hW hb15 hb2 hown hbl c0 c1 c2 c3 c4 hV
      go_wp2_with (at_builtin; go_must (refine wpList_append_own _ rfl (.tmp 15) (.tmp 18) 90 rfl w.heap.size 124 i0 _ 1 16 Tryz.underlying90 hii hz0 hzs hz2 rfl (by decide) (.slice a3 n cp3) (l.take n).length ((l.take n).map iVal) rfl ?o1 ⟨w2.heap.size, 0, none⟩ 1 1 [.iface tV yV] rfl rfl ?n1 ?u1 ?m1 ?b1 ?s1 ?_))
      case o1 => exact World.ownsRow.alloc hown2 _
      case n1 => exact one_new _ _ _ _ rfl
      case u1 => intro u hu; simp at hu; rw [hu, ← HV.out]; exact iVal_one x
      case m1 => unfold maxLen; simp; omega
      case b1 => simp; omega
      case s1 => simp; omega
      intro v4 w4 hown4 hg4 _
      have hbl4 : Below w.heap.size w w4 := (hbl2.alloc hz2' _).grown hg4 (by simp; omega) (fun k hk => (World.ownsRow.lt hown2 k hk).1)
      clear hown2 hbl2 hg4
      go_wp2
      go_roundw
      case rel =>
        refine ⟨n + 1, by omega, by go_num, ?_, hbl4⟩
        have e1 : l.take (n + 1) = l.take n ++ [x] := by rw [HX.out]; exact (List.take_append_getElem hlt).symm
        unfold OwnP
        rw [e1, List.map_append, List.length_append, List.map_singleton, HV.out, List.length_take, Nat.min_eq_left hn]
        rw [List.map_take]
        exact hown4
      case measure => simp [intOf]; omega
    · go_wp2
      go_ret
      exact ⟨_, rfl, by rw [List.take_of_length_le (by omega)] at hown; exact hown, hbl⟩
theorem progOf_any (l : List I5) (v : Value) (w : World) (h : Slc w v l) (hl : 0 < l.length) (hl2 : l.length ≤ 64) :
    Calls Tryz.prog 43 #[v] w fun e w' => ∃ v, e = .returned v ∧ OwnP w' w.heap.size v l ∧ Below w.heap.size w w' := by
  rcases h with ⟨_, rfl⟩ | ⟨b, off, cap, rfl, h1, h2⟩
  · simp at hl
  · exact progOf_some l b off cap w h1 hl2 h2
end Go.Proofs.YtamiichlbmllcaaGreatDoor
