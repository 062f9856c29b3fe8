/-
  What header.emptyOrName and header.all come to, called with any texts. Nothing is claimed here by itself.
-/
import Derived.Test.YtcnijmmpkahoaaaDoorHeadRead
import Derived.Test.YtcnijmmpkahoaaaDoorBasics
namespace Go.Proofs.YtcnijmmpkahoaaaDoor
open Go.RowKit Go.Lib
set_option linter.unusedSimpArgs false
set_option linter.unusedVariables false

theorem maybe_any (l : List UInt8) (w : World) (hl : l.length ≤ 1100000) : Calls Tryd.prog 50 #[.string ⟨l.toArray⟩] w (Says (mayD l) w) := by
  by_cases h0 : l = []
  · subst h0
    have HF := Lib.hid (show mayD [] = true from rfl)
    go_enter Tryd.func50, Tryd.ntmps50
    go_wp2
    go_ret
    exact ⟨by rw [HF.out]; rfl, Grow.refl _⟩
  · have hlb : (l == []) = false := beq_eq_false_iff_ne.2 h0
    have HF := Lib.hid (show mayD l = rightD l by unfold mayD; simp [h0])
    have HC := Lib.hid (right_any l w (by omega))
    clear h0 hl
    go_enter Tryd.func50, Tryd.ntmps50
    go_wp2_with fail
    refine (HC.out).mono ?_
    rintro e w1 ⟨rfl, hg⟩
    have HG := Lib.hid hg
    clear hg
    go_wp2
    go_ret
    exact ⟨by rw [HF.out]; rfl, HG.out⟩

def FnAt (w : World) (b F : Nat) : Prop := w.cell? ⟨b, 0, none⟩ = some (.func (.func F) #[] #[])
theorem FnAt.grow {w w' : World} {b F : Nat} (h : FnAt w b F) (hg : Grow w w') : FnAt w' b F := (hg.cell (block_lt_of_cell h)).trans h
theorem ask_name (b : Nat) (x : List UInt8) (w : World) (hx : x.length ≤ 1100000) (hc : FnAt w b 24) : Calls Tryd.prog 75 #[.string ⟨x.toArray⟩, .pointer (some ⟨b, 0, none⟩)] w (Says (!rightD x) w) := by
  have HC := Lib.hid (right_any x w (by omega))
  unfold FnAt at hc
  generalize rightD x = v at HC ⊢
  cases v <;>
  · go_enter Tryd.func75, Tryd.ntmps75
    go_wp2_with (go_at_call 24; refine (HC.out).mono ?_; rintro e w2 ⟨rfl, hg⟩; have HG := Lib.hid hg; clear hg)
    go_ret
    exact ⟨rfl, HG.out⟩
theorem ask_may (b : Nat) (x : List UInt8) (w : World) (hx : x.length ≤ 1100000) (hc : FnAt w b 50) : Calls Tryd.prog 75 #[.string ⟨x.toArray⟩, .pointer (some ⟨b, 0, none⟩)] w (Says (!mayD x) w) := by
  have HC := Lib.hid (maybe_any x w hx)
  unfold FnAt at hc
  generalize mayD x = v at HC ⊢
  cases v <;>
  · go_enter Tryd.func75, Tryd.ntmps75
    go_wp2_with (go_at_call 50; refine (HC.out).mono ?_; rintro e w2 ⟨rfl, hg⟩; have HG := Lib.hid hg; clear hg)
    go_ret
    exact ⟨rfl, HG.out⟩

theorem drop_atL {ls : List (List UInt8)} {k : Nat} (h : k < ls.length) : ls.drop k = ls.getD k [] :: ls.drop (k + 1) := by
  rw [List.drop_eq_getElem_cons h]
  simp [List.getD, h]
theorem all_dropL {p : List UInt8 → Bool} {ls : List (List UInt8)} {k : Nat} (h : k < ls.length) (hx : p (ls.getD k []) = true) : (ls.drop k).all p = (ls.drop (k + 1)).all p := by
  rw [drop_atL h, List.all_cons, hx, Bool.true_and]
theorem all_failsL {p : List UInt8 → Bool} {ls : List (List UInt8)} {k : Nat} (h : k < ls.length) (hx : p (ls.getD k []) = false) : (ls.drop k).all p = false := by
  rw [drop_atL h, List.all_cons, hx, Bool.false_and]
/-- the place of the first text that is not so, or -1 -/
def Finds (p : List UInt8 → Bool) (ls : List (List UInt8)) (w : World) (e : Ending) (w' : World) : Prop :=
  ∃ j : Int, e = .returned (.int .i64 j) ∧ decide (0 ≤ j) = !(ls.all p) ∧ Grow w w'

set_option maxRecDepth 10000 in
set_option maxHeartbeats 800000 in
theorem indexf_any (p : List UInt8 → Bool) (b0 : Nat) (A : Option Addr) (n c : Nat) (ls : List (List UInt8)) (w : World) (hn : ls.length = n) (hm : n ≤ 1100000) (hr : Strs w w.heap.size A ls) (hs : ∀ s ∈ ls, s.length ≤ 1100000)
    (ask : ∀ (x : List UInt8) W, x.length ≤ 1100000 → Grow w W → Calls Tryd.prog 75 #[.string ⟨x.toArray⟩, .pointer (some ⟨b0, 0, none⟩)] W (Says (!p x) W)) :
    Calls Tryd.prog 80 #[.slice A n c, .func (.func 75) #[] #[.pointer (some ⟨b0, 0, none⟩)]] w (Finds p ls w) := by
  have HR := Lib.hid hr
  have HN := Lib.hid hn
  have HS := Lib.hid hs
  have HASK := Lib.hid ask
  clear hr hn hs ask
  go_enter Tryd.func80, Tryd.ntmps80
  go_wp2
  go_loopg [8] n (fun g s8 wr => ∃ k : Nat, k ≤ n ∧ g = n - k ∧ s8 = .int .i64 k ∧ Hid ((ls.drop k).all p = ls.all p) ∧ Hid (Grow w wr))
  case atStart => exact ⟨0, Nat.zero_le _, rfl, rfl, Lib.hid rfl, Lib.hid (Grow.refl _)⟩
  case round =>
    obtain ⟨k, hk, rfl, rfl, HA, HG⟩ := hrel
    by_cases hlt : k < n
    · have hkl : k < ls.length := by rw [HN.out]; exact hlt
      obtain ⟨b, off, rfl, hb, hcl⟩ := HR.out.grow HG.out (by omega)
      have hc := hcl k hkl
      have hx1 := getD_len HS.out k
      have HT := Lib.hid (fun h => all_dropL (p := p) hkl h)
      have HF := Lib.hid (fun h => all_failsL (p := p) hkl h)
      clear hcl hkl
      generalize ls.getD k [] = x at hc HT HF hx1
      have HB := Lib.hid (HASK.out x wr hx1 HG.out)
      cases hx : p x with
      | true =>
        have HT' := Lib.hid (HT.out hx)
        rw [hx] at HB
        clear hx HT HF
        go_wp2_with (go_at_call 75; refine (HB.out).mono ?_; rintro e w2 ⟨rfl, hg2⟩; have HG2 := Lib.hid hg2; clear hg2)
        go_roundg (n - (k + 1))
        case rel => exact ⟨k + 1, by omega, rfl, by go_num, Lib.hid (HT'.out.symm.trans HA.out), Lib.hid (HG.out.trans HG2.out)⟩
        case measure => omega
      | false =>
        have HF' := Lib.hid (HF.out hx)
        rw [hx] at HB
        clear hx HT HF
        go_wp2_with (go_at_call 75; refine (HB.out).mono ?_; rintro e w2 ⟨rfl, hg2⟩; have HG2 := Lib.hid hg2; clear hg2)
        go_ret
        refine ⟨_, rfl, ?_, HG.out.trans HG2.out⟩
        rw [← HA.out, HF'.out]
        simp
    · obtain rfl : n = k := by omega
      have HF := Lib.hid (show ls.all p = true by rw [← HA.out, List.drop_of_length_le (by rw [HN.out]; exact Nat.le_refl _)]; rfl)
      go_wp2
      go_ret
      refine ⟨_, rfl, ?_, HG.out⟩
      rw [HF.out]
      rfl

theorem contf_any (p : List UInt8 → Bool) (b0 : Nat) (A : Option Addr) (n c : Nat) (ls : List (List UInt8)) (w : World) (hn : ls.length = n) (hm : n ≤ 1100000) (hr : Strs w w.heap.size A ls) (hs : ∀ s ∈ ls, s.length ≤ 1100000)
    (ask : ∀ (x : List UInt8) W, x.length ≤ 1100000 → Grow w W → Calls Tryd.prog 75 #[.string ⟨x.toArray⟩, .pointer (some ⟨b0, 0, none⟩)] W (Says (!p x) W)) :
    Calls Tryd.prog 61 #[.slice A n c, .func (.func 75) #[] #[.pointer (some ⟨b0, 0, none⟩)]] w (Says (!(ls.all p)) w) := by
  have HC := Lib.hid (indexf_any p b0 A n c ls w hn hm hr hs ask)
  clear hn hm hr hs ask
  go_enter Tryd.func61, Tryd.ntmps61
  go_wp2_with fail
  refine (HC.out).mono ?_
  rintro e w1 ⟨j, rfl, hj, hg⟩
  have HG := Lib.hid hg
  by_cases h : 0 ≤ j
  · have HV := Lib.hid (show (!(ls.all p)) = true by rw [← hj]; simp [h])
    clear hj hg
    go_wp2
    go_ret
    exact ⟨by rw [HV.out]; rfl, HG.out⟩
  · have HV := Lib.hid (show (!(ls.all p)) = false by rw [← hj]; simp [h])
    have hd : decide (0 ≤ j) = false := by simp [h]
    clear hj hg
    go_wp2
    go_ret
    exact ⟨by rw [HV.out]; rfl, HG.out⟩

theorem all_name (A : Option Addr) (n c : Nat) (ls : List (List UInt8)) (w : World) (hn : ls.length = n) (hm : n ≤ 1100000) (hr : Strs w w.heap.size A ls) (hs : ∀ s ∈ ls, s.length ≤ 1100000) :
    Calls Tryd.prog 49 #[.slice A n c, .func (.func 24) #[] #[]] w (Says (ls.all rightD) w) := by
  have hg1 := grow_new w (.cells #[.func (.func 24) #[] #[]] 25)
  have hf : FnAt (w.alloc (.cells #[.func (.func 24) #[] #[]] 25)) w.heap.size 24 := by unfold FnAt; rw [World.cell?_alloc_new]; rfl
  have HC := Lib.hid (contf_any rightD w.heap.size A n c ls _ hn hm (hr.grow hg1) hs (fun x W hx hg => ask_name _ x W hx (hf.grow hg)))
  have HG := Lib.hid hg1
  generalize ls.all rightD = v at HC ⊢
  clear hn hm hr hs hg1 hf
  cases v <;>
  · go_enter Tryd.func49, Tryd.ntmps49
    go_wp2_with fail
    refine (HC.out).mono ?_
    rintro e w1 ⟨rfl, hg⟩
    have HG1 := Lib.hid (HG.out.trans hg)
    clear hg
    go_wp2
    go_ret
    exact ⟨rfl, HG1.out⟩
theorem all_may (A : Option Addr) (n c : Nat) (ls : List (List UInt8)) (w : World) (hn : ls.length = n) (hm : n ≤ 1100000) (hr : Strs w w.heap.size A ls) (hs : ∀ s ∈ ls, s.length ≤ 1100000) :
    Calls Tryd.prog 49 #[.slice A n c, .func (.func 50) #[] #[]] w (Says (ls.all mayD) w) := by
  have hg1 := grow_new w (.cells #[.func (.func 50) #[] #[]] 25)
  have hf : FnAt (w.alloc (.cells #[.func (.func 50) #[] #[]] 25)) w.heap.size 50 := by unfold FnAt; rw [World.cell?_alloc_new]; rfl
  have HC := Lib.hid (contf_any mayD w.heap.size A n c ls _ hn hm (hr.grow hg1) hs (fun x W hx hg => ask_may _ x W hx (hf.grow hg)))
  have HG := Lib.hid hg1
  generalize ls.all mayD = v at HC ⊢
  clear hn hm hr hs hg1 hf
  cases v <;>
  · go_enter Tryd.func49, Tryd.ntmps49
    go_wp2_with fail
    refine (HC.out).mono ?_
    rintro e w1 ⟨rfl, hg⟩
    have HG1 := Lib.hid (HG.out.trans hg)
    clear hg
    go_wp2
    go_ret
    exact ⟨rfl, HG1.out⟩
end Go.Proofs.YtcnijmmpkahoaaaDoor
