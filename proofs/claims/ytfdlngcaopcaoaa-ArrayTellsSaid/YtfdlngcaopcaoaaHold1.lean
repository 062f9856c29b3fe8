/-
  What array.holds comes to, called with any node and any rows.
-/
import Derived.Test.YtfdlngcaopcaoaaCuts
import Derived.Test.YtfdlngcaopcaoaaFirsts
namespace Go.Proofs.Ytfdlngcaopcaoaa
open Go.RowKit Go.Lib
set_option linter.unusedSimpArgs false
set_option linter.unusedVariables false

def holdB1 (m : Nat) (kid : List Nd) : Bool := rightA kid && (decide ((ws kid).d < 16) && decide (m + (ws kid).i ≤ 1048576))
def holdK : Nat → List (List Nd) → Bool
  | _, [] => true
  | m, k :: ks => holdB1 m k && holdK (m + (ws k).i) ks
def isum : List (List Nd) → Nat
  | [] => 0
  | k :: ks => (ws k).i + isum ks
theorem ws_le (ns : List Nd) : (ws ns).i ≤ 1048576 := by
  cases h : whlD ns with
  | none => rw [ws_none h]; simp [st0]
  | some s => rw [ws_some h]; exact (whl_some h).2.1
theorem ws_deep (ns : List Nd) : (ws ns).d ≤ 16 := by
  cases h : whlD ns with
  | none => rw [ws_none h]; simp [st0]
  | some s => rw [ws_some h]; exact (par_len (whl_some h).1).2.2.2
/-- the int stands in a block of its own -/
def IntAt (w : World) (b : Nat) (m : Nat) : Prop := w.heap[b]? = some (.cells #[.int .i64 (m : Nat)] 3 (0, 0))
theorem IntAt.grow {w w' : World} {b m : Nat} (h : IntAt w b m) (hg : Grow w w') : IntAt w' b m := (hg.block b (heap_lt h)).trans h
theorem KidsAt.below {w w' : World} {B : Nat} {A : Option Addr} {ks : List (List Nd)} (h : KidsAt w B A ks) (hg : Below B w w') : KidsAt w' B A ks := fun hn => by
  obtain ⟨b, off, e, hb, hc⟩ := h hn
  refine ⟨b, off, e, hb, fun i hi => ?_⟩
  obtain ⟨A', c', h1, h2, h3⟩ := hc i hi
  exact ⟨A', c', (hg.cell (p := ⟨b, off + i, none⟩) hb).trans h1, h2, h3.below hg⟩
theorem KidsAt.more {w : World} {B B' : Nat} {A : Option Addr} {ks : List (List Nd)} (h : KidsAt w B A ks) (hB : B ≤ B') : KidsAt w B' A ks := fun hn => by
  obtain ⟨b, off, e, hb, hc⟩ := h hn
  refine ⟨b, off, e, by omega, fun i hi => ?_⟩
  obtain ⟨A', c', h1, h2, h3⟩ := hc i hi
  exact ⟨A', c', h1, h2, h3.more hB⟩
def StepP (ib m : Nat) (β : Bool) (w : World) (e : Ending) (w' : World) : Prop := e = .returned (.bool β) ∧ Below ib w w' ∧ IntAt w' ib m

set_option maxRecDepth 10000 in
set_option maxHeartbeats 1600000 in
theorem hold1_any (A : Option Addr) (n c : Nat) (ns : List Nd) (ib m : Nat) (w : World) (hm : m ≤ 1048576) (hn : ns.length = n) (hnb : n ≤ 1000000) (hf : Fits ns) (hi : IntAt w ib m) (hns : Nodes w w.heap.size A ns) :
    Calls Try.prog 52 #[.slice A n c, .pointer (some ⟨ib, 0, none⟩)] w (StepP ib (m + (ws ns).i) (holdB1 m ns) w) := by
  have HC := Lib.hid (whole_any A n c ns w hn hnb hf hns)
  have hb1 := ws_le ns
  have hb2 := ws_deep ns
  have HH := Lib.hid (show holdB1 m ns = (rightA ns && (decide ((ws ns).d < 16) && decide (m + (ws ns).i ≤ 1048576))) from rfl)
  have HI := Lib.hid hi
  have HLT := Lib.hid (heap_lt hi)
  clear hn hf hns hi
  generalize holdB1 m ns = β at *
  generalize ws ns = s at *
  generalize rightA ns = γ at *
  obtain ⟨p, q, u, v⟩ := s
  dsimp only at *
  go_enter Try.func52, Try.ntmps52
  go_wp2_with fail
  refine (HC.out).mono ?_
  rintro x w2 ⟨rfl, hg⟩
  obtain ⟨w3, hw3⟩ : ∃ w3, w3 = w2.alloc (.cells #[.int .i64 (p : Nat), .int .i64 (q : Nat), .int .i64 (u : Nat), .int .i64 (v : Nat)] 48) := ⟨_, rfl⟩
  have HG3 := Lib.hid (show Grow w w3 by rw [hw3]; exact hg.trans (grow_new w2 _))
  have hst : StAt w3 w2.heap.size ⟨p, q, u, v⟩ := by rw [hw3]; exact heap_alloc_new w2 _
  have HI3 := Lib.hid (HI.out.grow HG3.out)
  have HST := Lib.hid hst
  have HNE := Lib.hid (show ib < w2.heap.size from Nat.lt_of_lt_of_le HLT.out hg.size)
  have ci : w3.cell? ⟨ib, 0, none⟩ = some (.int .i64 (m : Nat)) := cell_of_row w3 ib 0 _ _ (0, 0) HI3.out
  have fi : w3.frozen? ⟨ib, 0, none⟩ = false := frozen_of_row w3 ib 0 _ _ HI3.out
  have s1 := hst.at1
  have s2 := hst.at2
  have hne : ¬ w2.heap.size = ib := by have := HNE.out; omega
  have hne' : ¬ ib = w2.heap.size := by have := HNE.out; omega
  rw [hw3] at ci fi s1 s2
  have hsum : IntKind.i64.wrap (((m : Nat) : Int) + ((q : Nat) : Int)) = ((m + q : Nat) : Int) := by rw [IntKind.wrap_i64]; omega
  have HFIN : Hid (∀ W, W = w3.setCell ⟨ib, 0, none⟩ (.int .i64 ((m + q : Nat) : Int)) → Below ib w W ∧ IntAt W ib (m + q)) := Lib.hid (fun W e => by
    subst e
    have hbl : Below ib w w3 := Below.mono HG3.out (Nat.le_of_lt HLT.out)
    exact ⟨Below.setCell (p := ⟨ib, 0, none⟩) hbl (Nat.le_refl ib) _, heap_setCell_same w3 ib 0 _ _ _ HI3.out⟩)
  rw [hw3] at HFIN
  clear hg HC hst HG3 HI3 HST HI HNE HLT
  clear hw3
  cases γ with
  | false =>
    have HB : Hid (β = false) := Lib.hid (by rw [HH.out]; rfl)
    clear HH
    go_wp2
    go_ret
    exact ⟨by rw [HB.out]; rfl, HFIN.out _ (by first | rfl | simp)⟩
  | true =>
    by_cases hu : u < 16
    · have hui : ((u : Nat) : Int) < 16 := by omega
      by_cases hmq : m + q ≤ 1048576
      · have hmqi : ((m : Nat) : Int) + ((q : Nat) : Int) ≤ 1048576 := by omega
        have HB : Hid (β = true) := Lib.hid (by rw [HH.out]; simp [hu, hmq])
        clear HH
        go_wp2
        go_ret
        exact ⟨by rw [HB.out]; rfl, HFIN.out _ (by first | rfl | simp)⟩
      · have hmqi : decide (((m : Nat) : Int) + ((q : Nat) : Int) ≤ 1048576) = false := decide_eq_false (by omega)
        have HB : Hid (β = false) := Lib.hid (by rw [HH.out]; simp [hmq])
        clear HH
        go_wp2
        go_ret
        exact ⟨by rw [HB.out]; rfl, HFIN.out _ (by first | rfl | simp)⟩
    · have hui : ¬ ((u : Nat) : Int) < 16 := by omega
      have HB : Hid (β = false) := Lib.hid (by rw [HH.out]; simp [hu])
      clear HH
      go_wp2
      go_ret
      exact ⟨by rw [HB.out]; rfl, HFIN.out _ (by first | rfl | simp)⟩
end Go.Proofs.Ytfdlngcaopcaoaa
