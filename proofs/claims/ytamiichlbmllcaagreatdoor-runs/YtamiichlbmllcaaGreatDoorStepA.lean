/-
  The contract of (*machine.machine).step, for every instruction that may stand in a program.
-/
import Derived.Test.YtamiichlbmllcaaGreatDoorStep
import Derived.Test.YtamiichlbmllcaaGreatDoorFit
namespace Go.Proofs.YtamiichlbmllcaaGreatDoor
open Go.RowKit
set_option maxHeartbeats 1000000 in
theorem step_any (i : I5) (g pb cap n : Nat) (s : MS) (F : Int) (o : O4) (w : World) (h : MRow w g (.slice (some ⟨pb, 0, none⟩) n cap) s F o) (hp : s.pc < n) (hn64 : n ≤ 64) (hn : s.n < 1000000)
    (hi : w.cell? ⟨pb, s.pc, none⟩ = some (iVal i)) (hpg : pb ≠ g) (hfit : i.fits n = true) :
    Calls Tryz.prog 70 #[.pointer (some ⟨g, 0, none⟩)] w fun e w' => e = .returned (.tuple #[]) ∧ MRow w' g (.slice (some ⟨pb, 0, none⟩) n cap) (doI i (nxt s)).2 F (outO (doI i (nxt s)).1 s.pc (doI i (nxt s)).2 o) ∧ But g w w' := by
  have hc := fit_cases hfit
  obtain ⟨op, a, b, c, k⟩ := i
  simp only at hc
  rcases hc with rfl | ⟨rfl, ha⟩ | ⟨rfl, ha, hb⟩ | ⟨rfl, ha, hb, hc⟩ | ⟨rfl, ha, hb, hc⟩ | ⟨rfl, ha, hb, hc⟩ | ⟨rfl, ha, hb, hc⟩ | ⟨rfl, ha, hb⟩ | ⟨rfl, ha, hb⟩ | ⟨rfl, hk0, hk1⟩ | ⟨rfl, ha, hb, hk0, hk1⟩ | ⟨rfl, ha, hb, hk0, hk1⟩
  · exact step_gen 199 204 (.agg #[]) 1 _ g pb cap n s F o w h hp hn64 hn hi hpg (fun _ => by kernel_rfl) (fun _ => by kernel_rfl) (hide fun w1 h1 => (halt_do g w1).mono fun e w' ⟨he, hb⟩ => ⟨he, h1.bel hb, But.ofBelow hb⟩)
  · obtain ⟨a, ha', rfl⟩ := ha.nat
    replace ha := ha'
    exact step_gen 183 162 (.agg #[.int .i64 a, .int .i64 k]) 0 _ g pb cap n s F o w h hp hn64 hn hi hpg (fun _ => by kernel_rfl) (fun _ => by kernel_rfl) (hide fun w1 h1 => set_do a k ha g _ _ F o w1 h1)
  · obtain ⟨a, ha', rfl⟩ := ha.nat
    replace ha := ha'
    obtain ⟨b, hb', rfl⟩ := hb.nat
    replace hb := hb'
    exact step_gen 185 167 (.agg #[.int .i64 a, .int .i64 b]) 0 _ g pb cap n s F o w h hp hn64 hn hi hpg (fun _ => by kernel_rfl) (fun _ => by kernel_rfl) (hide fun w1 h1 => move_do a b ha hb g _ _ F o w1 h1)
  · obtain ⟨a, ha', rfl⟩ := ha.nat
    replace ha := ha'
    obtain ⟨b, hb', rfl⟩ := hb.nat
    replace hb := hb'
    obtain ⟨c, hc', rfl⟩ := hc.nat
    replace hc := hc'
    exact step_gen 187 169 (.agg #[.int .i64 a, .int .i64 b, .int .i64 c]) 0 _ g pb cap n s F o w h hp hn64 hn hi hpg (fun _ => by kernel_rfl) (fun _ => by kernel_rfl) (hide fun w1 h1 => add_do a b c ha hb hc g _ _ F o w1 h1)
  · obtain ⟨a, ha', rfl⟩ := ha.nat
    replace ha := ha'
    obtain ⟨b, hb', rfl⟩ := hb.nat
    replace hb := hb'
    obtain ⟨c, hc', rfl⟩ := hc.nat
    replace hc := hc'
    exact step_gen 188 180 (.agg #[.int .i64 a, .int .i64 b, .int .i64 c]) 0 _ g pb cap n s F o w h hp hn64 hn hi hpg (fun _ => by kernel_rfl) (fun _ => by kernel_rfl) (hide fun w1 h1 => sub_do a b c ha hb hc g _ _ F o w1 h1)
  · obtain ⟨a, ha', rfl⟩ := ha.nat
    replace ha := ha'
    obtain ⟨b, hb', rfl⟩ := hb.nat
    replace hb := hb'
    obtain ⟨c, hc', rfl⟩ := hc.nat
    replace hc := hc'
    exact step_gen 189 184 (.agg #[.int .i64 a, .int .i64 b, .int .i64 c]) 0 _ g pb cap n s F o w h hp hn64 hn hi hpg (fun _ => by kernel_rfl) (fun _ => by kernel_rfl) (hide fun w1 h1 => mul_do a b c ha hb hc g _ _ F o w1 h1)
  · obtain ⟨a, ha', rfl⟩ := ha.nat
    replace ha := ha'
    obtain ⟨b, hb', rfl⟩ := hb.nat
    replace hb := hb'
    obtain ⟨c, hc', rfl⟩ := hc.nat
    replace hc := hc'
    by_cases hz : (nxt s).r c = 0
    · have hd : doI ⟨6, a, b, c, k⟩ (nxt s) = (3, nxt s) := by unfold doI; simp; exact hz
      rw [hd]
      exact step_gen 190 188 (.agg #[.int .i64 a, .int .i64 b, .int .i64 c]) 3 _ g pb cap n s F o w h hp hn64 hn hi hpg (fun _ => by kernel_rfl) (fun _ => by kernel_rfl) (hide fun w1 h1 => div_zero a b c hc g _ _ F o w1 h1 (by simpa using hz))
    · have hd : doI ⟨6, a, b, c, k⟩ (nxt s) = (0, { nxt s with r := upd (nxt s).r a (wrap64 (((nxt s).r b).tdiv ((nxt s).r c))) }) := by unfold doI; simp; intro h; exact absurd h hz
      rw [hd]
      exact step_gen 190 188 (.agg #[.int .i64 a, .int .i64 b, .int .i64 c]) 0 _ g pb cap n s F o w h hp hn64 hn hi hpg (fun _ => by kernel_rfl) (fun _ => by kernel_rfl) (hide fun w1 h1 => div_do a b c ha hb hc g _ _ F o w1 h1 (by simpa using hz))
  · obtain ⟨a, ha', rfl⟩ := ha.nat
    replace ha := ha'
    obtain ⟨b, hb', rfl⟩ := hb.nat
    replace hb := hb'
    by_cases hz : 0 ≤ (nxt s).r b ∧ (nxt s).r b < 16
    · have hd : doI ⟨7, a, b, c, k⟩ (nxt s) = (0, { nxt s with r := upd (nxt s).r a ((nxt s).m ((nxt s).r b).toNat) }) := by unfold doI; simp; exact hz
      rw [hd]
      exact step_gen 191 191 (.agg #[.int .i64 a, .int .i64 b]) 0 _ g pb cap n s F o w h hp hn64 hn hi hpg (fun _ => by kernel_rfl) (fun _ => by kernel_rfl) (hide fun w1 h1 => load_do a b ((nxt s).r b).toNat ha hb (by omega) g _ _ F o w1 h1 (hide (by omega)))
    · have hd : doI ⟨7, a, b, c, k⟩ (nxt s) = (4, nxt s) := by unfold doI; simp; intro h; omega
      rw [hd]
      exact step_gen 191 191 (.agg #[.int .i64 a, .int .i64 b]) 4 _ g pb cap n s F o w h hp hn64 hn hi hpg (fun _ => by kernel_rfl) (fun _ => by kernel_rfl) (hide fun w1 h1 => load_bad a b hb g _ _ F o w1 h1 (by simpa using hz))
  · obtain ⟨a, ha', rfl⟩ := ha.nat
    replace ha := ha'
    obtain ⟨b, hb', rfl⟩ := hb.nat
    replace hb := hb'
    by_cases hz : 0 ≤ (nxt s).r a ∧ (nxt s).r a < 16
    · have hd : doI ⟨8, a, b, c, k⟩ (nxt s) = (0, { nxt s with m := upd (nxt s).m ((nxt s).r a).toNat ((nxt s).r b) }) := by unfold doI; simp; exact hz
      rw [hd]
      exact step_gen 192 194 (.agg #[.int .i64 a, .int .i64 b]) 0 _ g pb cap n s F o w h hp hn64 hn hi hpg (fun _ => by kernel_rfl) (fun _ => by kernel_rfl) (hide fun w1 h1 => store_do a b ((nxt s).r a).toNat ha hb (by omega) g _ _ F o w1 h1 (hide (by omega)))
    · have hd : doI ⟨8, a, b, c, k⟩ (nxt s) = (4, nxt s) := by unfold doI; simp; intro h; omega
      rw [hd]
      exact step_gen 192 194 (.agg #[.int .i64 a, .int .i64 b]) 4 _ g pb cap n s F o w h hp hn64 hn hi hpg (fun _ => by kernel_rfl) (fun _ => by kernel_rfl) (hide fun w1 h1 => store_bad a b ha g _ _ F o w1 h1 (by simpa using hz))
  · obtain ⟨k, rfl⟩ := Int.eq_ofNat_of_zero_le hk0
    exact step_gen 194 196 (.agg #[.int .i64 k]) 0 _ g pb cap n s F o w h hp hn64 hn hi hpg (fun _ => by kernel_rfl) (fun _ => by kernel_rfl) (hide fun w1 h1 => jump_do k g _ _ F o w1 h1)
  · obtain ⟨a, ha', rfl⟩ := ha.nat
    replace ha := ha'
    obtain ⟨b, hb', rfl⟩ := hb.nat
    replace hb := hb'
    obtain ⟨k, rfl⟩ := Int.eq_ofNat_of_zero_le hk0
    exact step_gen 196 198 (.agg #[.int .i64 a, .int .i64 b, .int .i64 k]) 0 _ g pb cap n s F o w h hp hn64 hn hi hpg (fun _ => by kernel_rfl) (fun _ => by kernel_rfl) (hide fun w1 h1 => less_do a b k ha hb g _ _ F o w1 h1)
  · obtain ⟨a, ha', rfl⟩ := ha.nat
    replace ha := ha'
    obtain ⟨b, hb', rfl⟩ := hb.nat
    replace hb := hb'
    obtain ⟨k, rfl⟩ := Int.eq_ofNat_of_zero_le hk0
    exact step_gen 197 201 (.agg #[.int .i64 a, .int .i64 b, .int .i64 k]) 0 _ g pb cap n s F o w h hp hn64 hn hi hpg (fun _ => by kernel_rfl) (fun _ => by kernel_rfl) (hide fun w1 h1 => same_do a b k ha hb g _ _ F o w1 h1)
end Go.Proofs.YtamiichlbmllcaaGreatDoor
