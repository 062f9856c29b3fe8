/-
  What name.Unlike comes to, called with any texts.
-/
import Derived.Test.YtcnijmmpkahoaaaDoorSets
namespace Go.Proofs.YtcnijmmpkahoaaaDoor
open Go.RowKit Go.Lib Go.Maps
set_option linter.unusedSimpArgs false
set_option linter.unusedVariables false

/-- the slice at address A holds these texts; it lies below block B -/
def Strs (w : World) (B : Nat) (A : Option Addr) (ls : List (List UInt8)) : Prop :=
  0 < ls.length → ∃ b off, A = some ⟨b, off, none⟩ ∧ b < B ∧ ∀ i, i < ls.length → w.cell? ⟨b, off + i, none⟩ = some (.string ⟨(ls.getD i []).toArray⟩)
section
variable {w w' : World} {B B' : Nat} {A : Option Addr} {ls : List (List UInt8)}
theorem Strs.keep (h : Strs w B A ls) (hk : ∀ p : Addr, p.block < B → w'.cell? p = w.cell? p) : Strs w' B A ls := fun hn => by
  obtain ⟨b, off, e, hb, hc⟩ := h hn
  exact ⟨b, off, e, hb, fun i hi => (hk _ hb).trans (hc i hi)⟩
theorem Strs.more (h : Strs w B A ls) (hB : B ≤ B') : Strs w B' A ls := fun hn => by
  obtain ⟨b, off, e, hb, hc⟩ := h hn
  exact ⟨b, off, e, by omega, hc⟩
theorem Strs.below (h : Strs w B A ls) (hb : Below B w w') : Strs w' B A ls := h.keep fun _ hp => hb.cell hp
theorem Strs.grow (h : Strs w w.heap.size A ls) (hg : Grow w w') : Strs w' w'.heap.size A ls := (h.below hg).more hg.size
theorem strs_nil : Strs w B A [] := fun h => absurd h (by simp)
theorem Strs.take (h : Strs w B A ls) (n : Nat) : Strs w B A (ls.take n) := fun hn => by
  have hl : (ls.take n).length ≤ ls.length := by simp; omega
  obtain ⟨b, off, e, hb, hc⟩ := h (by omega)
  refine ⟨b, off, e, hb, fun i hi => ?_⟩
  rw [hc i (by omega)]
  have : i < n := by simp at hi; omega
  simp [this]
end
theorem getD_len {ls : List (List UInt8)} {m : Nat} (h : ∀ s ∈ ls, s.length ≤ m) (k : Nat) : (ls.getD k []).length ≤ m := by
  by_cases hk : k < ls.length
  · have e : ls.getD k [] = ls[k] := by simp [List.getD, hk]
    rw [e]
    exact h _ (List.getElem_mem hk)
  · have e : ls.getD k [] = [] := by simp [List.getD, List.getElem?_eq_none (Nat.le_of_not_lt hk)]
    rw [e]
    exact Nat.zero_le _

set_option maxRecDepth 10000 in
set_option maxHeartbeats 800000 in
theorem unlike_any (A : Option Addr) (n c : Nat) (ls : List (List UInt8)) (w : World) (hn : ls.length = n) (hm : n ≤ 1100000) (hr : Strs w w.heap.size A ls) (hs : ∀ s ∈ ls, s.length ≤ 9223372036854775807) :
    Calls Tryd.prog 25 #[.slice A n c] w fun e w' => e = .returned (.bool (unlB ls)) ∧ Grow w w' := by
  have HR := Lib.hid hr
  have HS := Lib.hid hs
  have HN := Lib.hid hn
  clear hr hs hn
  have hmm := @run_makeMap Tryd.prog
  go_enter Tryd.func25, Tryd.ntmps25
  go_wp2
  go_loopg [9] n (fun g s9 wr => ∃ k : Nat, k ≤ n ∧ g = n - k ∧ s9 = .int .i64 k ∧ Hid (unlF (seenD ls k) (ls.drop k) = unlB ls) ∧ Hid (Seen wr w.heap.size k (seenD ls k)) ∧ Hid (Grow w wr))
  case atStart => exact ⟨0, Nat.zero_le _, rfl, rfl, Lib.hid rfl, Lib.hid (seen_new w), Lib.hid (grow_new _ _)⟩
  case round =>
    obtain ⟨k, hk, rfl, rfl, HU, HE, HG⟩ := hrel
    by_cases hlt : k < n
    · have hkl : k < ls.length := by rw [HN.out]; exact hlt
      obtain ⟨b, off, rfl, hb, hcl⟩ := HR.out.below HG.out (by omega)
      have hc := hcl k hkl
      have HUR := Lib.hid (unl_round hkl)
      have HSN := Lib.hid (seen_next hkl)
      have hsl := getD_len HS.out k
      clear hcl hkl
      generalize ls.getD k [] = s at hc HUR HSN hsl
      have hlk := HE.out.look s hsl
      by_cases hin : s ∈ seenD ls k
      · have HF := Lib.hid (show unlB ls = false by rw [← HU.out, HUR.out, if_pos hin])
        rw [decide_eq_true hin] at hlk
        clear hin
        go_wp2
        go_ret
        exact ⟨by rw [HF.out]; rfl, HG.out⟩
      · rw [decide_eq_false hin] at hlk
        have HF := Lib.hid (show unlF (seenD ls (k + 1)) (ls.drop (k + 1)) = unlB ls by rw [← HU.out, HUR.out, if_neg hin])
        clear hin
        by_cases h0 : s = []
        · subst h0
          have HSE := Lib.hid (show seenD ls (k + 1) = seenD ls k by rw [HSN.out, if_pos rfl])
          go_wp2
          go_roundg (n - (k + 1))
          case rel => exact ⟨k + 1, by omega, rfl, by go_num, HF, Lib.hid (by rw [HSE.out]; exact World.ownsMap.mono HE.out (Nat.le_succ _)), HG⟩
          case measure => omega
        · have HSE := Lib.hid (show seenD ls (k + 1) = seenD ls k ++ [s] by rw [HSN.out, if_neg h0])
          have hne : (s == []) = false := beq_eq_false_iff_ne.2 h0
          go_wp2_with (at_mapUpdate; refine wpList_seen rfl _ _ _ rfl s rfl HE.out (by unfold maxLen; omega) rfl rfl hsl ?_; intro w1 hs1 hg1)
          have HE1 := Lib.hid hs1
          have HG1 := Lib.hid (show Grow w w1 from Below.grown HG.out hg1 HG.out.size (fun j hj => by cases hj; exact Nat.le_refl _))
          clear hs1 hg1
          go_roundg (n - (k + 1))
          case rel => exact ⟨k + 1, by omega, rfl, by go_num, HF, Lib.hid (by rw [HSE.out]; exact HE1.out), HG1⟩
          case measure => omega
    · obtain rfl : n = k := by omega
      have HF := Lib.hid (show unlB ls = true by rw [← HU.out, List.drop_of_length_le (by rw [HN.out]; exact Nat.le_refl _)]; rfl)
      go_wp2
      go_ret
      exact ⟨by rw [HF.out]; rfl, HG.out⟩
end Go.Proofs.YtcnijmmpkahoaaaDoor
