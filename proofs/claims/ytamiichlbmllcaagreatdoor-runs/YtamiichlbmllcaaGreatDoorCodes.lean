/-
  The contracts of suretylaw.plays (the kinds Right and Decode) and suretylaw.Codes.
-/
import Derived.Test.YtamiichlbmllcaaGreatDoorPlays
import Derived.Deep.MidRow
namespace Go.Proofs.YtamiichlbmllcaaGreatDoor
open Go.RowKit
/-- a script that came in -/
def Scr (w : World) (v : Value) (l : List OpD) : Prop :=
  ((∃ a cap, v = .slice a 0 cap) ∧ l = []) ∨ ∃ b off cap, v = .slice (some ⟨b, off, none⟩) l.length cap ∧ b < w.heap.size ∧ ∀ i (h : i < l.length), (∀ f u, l[i].cells.toList[f]? = some u → w.cell? ⟨b, off + i * 30 + f, none⟩ = some u) ∧ l[i].ok w
theorem OpD.kind (o : OpD) : o.cells.toList[0]? = some (.int .i64 o.k) := rfl
theorem OpD.ok.below {w w' : World} {o : OpD} {B : Nat} (h : o.ok w) (hb : Below B w w') (hB : w.heap.size ≤ B) : o.ok w' := ⟨h.1.below hb hB, h.2⟩
theorem infoOp : (Tryz.prog.info? 44).map (·.size) = some 30 := by kernel_rfl
set_option maxHeartbeats 1000000 in
set_option maxRecDepth 100000 in
theorem plays_codes (l : List OpD) (b off cap : Nat) (w : World) (hs : Shapes w) (hb : b < w.heap.size) (hl : l.length < 600000000000)
    (hi : ∀ i (h : i < l.length), (∀ f u, l[i].cells.toList[f]? = some u → w.cell? ⟨b, off + i * 30 + f, none⟩ = some u) ∧ l[i].ok w) :
    Calls Tryz.prog 13 #[.slice (some ⟨b, off, none⟩) l.length cap, .int .i64 1, .int .i64 2] w fun e w' => e = .returned (.bool true) ∧ Below w.heap.size w w' := by
  have HI := hide hi
  clear hi
  go_enter Tryz.func13, Tryz.ntmps13
  go_wp2_with fail
  go_loopw [8] (fun j wr => ∃ n m : Nat, n ≤ l.length ∧ m ≤ 4 * n ∧ j = .int .i64 n ∧ CInv wr w.heap.size m ∧ Below w.heap.size w wr) (fun j _ => l.length - (intOf j).toNat)
  case atStart =>
    refine ⟨0, 0, by omega, by omega, rfl, ⟨.slice none 0 0, [], rfl, heap_alloc_new _ _, World.ownsRow_nil _ _ _ _, rfl, fun k h => by simp at h⟩, (Below.refl _ _).alloc (Nat.le_refl _) _⟩
  case round =>
    obtain ⟨n, m, hn, hm, rfl, hinv, hbl⟩ := hrel
    have hsr := hs.below hbl hs.1
    by_cases hlt : n < l.length
    · obtain ⟨hc, hok⟩ := HI.out n hlt
      obtain ⟨o, ho⟩ : ∃ o, o = l[n] := ⟨_, rfl⟩
      rw [← ho] at hc hok
      have hc' : wr.rangeAt b (off + n * 30) o.cells.toList := fun f u hf => by rw [hbl.cell (p := ⟨b, _, none⟩) hb]; exact hc f u hf
      have HC := hide hc'
      have hokr := hok.below hbl (Nat.le_refl _)
      have q0 : wr.cell? ⟨b, off + n * 30, none⟩ = some (.int .i64 o.k) := hc' 0 _ o.kind
      clear hc hok ho hc'
      have hstep : (o.k = 1 ∨ o.k = 2) → Calls Tryz.prog 31 #[.pointer (some ⟨w.heap.size, 0, none⟩), .agg o.cells] wr fun e w' => e = .returned (.bool true) ∧ (∃ n', m ≤ n' ∧ n' ≤ m + 4 ∧ CInv w' w.heap.size n') ∧ Below w.heap.size wr w' := by
        rintro (h | h)
        · exact step_right o w.heap.size m wr hsr hinv hokr h
        · exact step_decode o w.heap.size m wr hsr hinv (by omega) h
      have HST := hide hstep
      clear hstep
      by_cases h12 : o.k = 1 ∨ o.k = 2
      · have HK := hide h12
        have hk1 : ¬ o.k < 1 := by omega
        have hk2 : ¬ 2 < o.k := by omega
        clear h12
        go_wp2_with (refine wpList_load_mid rfl 44 (.tmp 38) rfl b (off + n * 30) rfl o.cells.toList _ HC.out Tryz.underlying44 rfl infoOp ?_)
        refine (HST.out HK.out).mono ?_
        rintro x w2 ⟨rfl, ⟨m2, hm1, hm2, hinv2⟩, hb2⟩
        obtain ⟨vd, xs, hxl, hw2, hd2⟩ := hinv2
        have hbl2 := hbl.trans hb2
        clear q0 hinv hb2 hbl
        go_wp2_with fail
        refine (looks_ins w.heap.size w.heap.size _ vd xs w2 hw2 hd2 (by omega)).mono ?_
        rintro x w3 ⟨rfl, hb3⟩
        have hinv3 : CInv w3 w.heap.size m2 := CInv.below ⟨vd, xs, hxl, hw2, hd2⟩ hb3
        have hbl3 := hbl2.trans (hb3.mono hbl2.size)
        clear hb3 hw2 hd2 hbl2
        go_wp2
        exact ⟨⟨n + 1, m2, by omega, by omega, by go_num, hinv3, hbl3⟩, by simp [intOf]; omega⟩
      · by_cases h1 : o.k < 1
        · clear h12
          go_wp2
          exact ⟨⟨n + 1, m, by omega, by omega, by go_num, hinv, hbl⟩, by simp [intOf]; omega⟩
        · have h2 : 2 < o.k := by omega
          clear h12
          go_wp2
          exact ⟨⟨n + 1, m, by omega, by omega, by go_num, hinv, hbl⟩, by simp [intOf]; omega⟩
    · go_wp2
      go_ret
      exact ⟨rfl, hbl⟩
set_option maxHeartbeats 400000 in
theorem plays_nil (a : Option Addr) (cap : Nat) (lo hi : Int) (w : World) :
    Calls Tryz.prog 13 #[.slice a 0 cap, .int .i64 lo, .int .i64 hi] w fun e w' => e = .returned (.bool true) ∧ Below w.heap.size w w' := by
  go_enter Tryz.func13, Tryz.ntmps13
  go_wp2_with fail
  refine wp_loop_rounds 1 ?_
  rw [rounds_succ]
  go_wp2
  go_ret
  exact ⟨rfl, (Below.refl _ _).alloc (Nat.le_refl _) _⟩
set_option maxHeartbeats 400000 in
theorem codes_any (l : List OpD) (v : Value) (w : World) (hs : Shapes w) (h : Scr w v l) (hl : l.length < 600000000000) :
    Calls Tryz.prog 3 #[v] w fun e w' => e = .returned (.bool true) ∧ Below w.heap.size w w' := by
  have hp : Calls Tryz.prog 13 #[v, .int .i64 1, .int .i64 2] w fun e w' => e = .returned (.bool true) ∧ Below w.heap.size w w' := by
    rcases h with ⟨⟨a, cap, rfl⟩, rfl⟩ | ⟨b, off, cap, rfl, hb, hi⟩
    · exact plays_nil a cap 1 2 w
    · exact plays_codes l b off cap w hs hb hl hi
  have HP := hide hp
  clear hp
  go_enter Tryz.func3, Tryz.ntmps3
  go_wp2_with fail
  refine HP.out.mono ?_
  rintro x w2 ⟨rfl, hb2⟩
  go_wp2
  go_ret
  exact ⟨rfl, hb2⟩
end Go.Proofs.YtamiichlbmllcaaGreatDoor
