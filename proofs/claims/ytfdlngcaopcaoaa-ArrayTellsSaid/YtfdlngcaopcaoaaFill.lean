/-
  What array.filled and itemsOf come to, called with any node.
-/
import Derived.Test.YtfdlngcaopcaoaaAlls
namespace Go.Proofs.Ytfdlngcaopcaoaa
open Go.RowKit Go.Lib
set_option linter.unusedSimpArgs false
set_option linter.unusedVariables false

/-- a node in a block of its own -/
def BoxN (w : World) (b : Nat) (k : Int) (A1 : Option Addr) (l1 c1 : Nat) (A2 : Option Addr) (l2 c2 : Nat) (A3 : Option Addr) (l3 c3 : Nat) : Prop :=
  w.heap[b]? = some (.cells #[.int .i64 k, .slice A1 l1 c1, .slice A2 l2 c2, .slice A3 l3 c3] 32 (0, 0))
section
variable {w w' : World} {b : Nat} {k : Int} {A1 A2 A3 : Option Addr} {l1 c1 l2 c2 l3 c3 : Nat}
theorem BoxN.lt (h : BoxN w b k A1 l1 c1 A2 l2 c2 A3 l3 c3) : b < w.heap.size := by
  rcases Nat.lt_or_ge b w.heap.size with k | k
  · exact k
  · rw [BoxN, Array.getElem?_eq_none k] at h; cases h
theorem BoxN.grow (h : BoxN w b k A1 l1 c1 A2 l2 c2 A3 l3 c3) (hg : Grow w w') : BoxN w' b k A1 l1 c1 A2 l2 c2 A3 l3 c3 := (hg.block b h.lt).trans h
theorem BoxN.at0 (h : BoxN w b k A1 l1 c1 A2 l2 c2 A3 l3 c3) : w.cell? ⟨b, 0, none⟩ = some (.int .i64 k) := cell_of_row w b 0 _ _ (0, 0) h
theorem BoxN.at1 (h : BoxN w b k A1 l1 c1 A2 l2 c2 A3 l3 c3) : w.cell? ⟨b, 1, none⟩ = some (.slice A1 l1 c1) := cell_of_row w b 1 _ _ (0, 0) h
theorem BoxN.at2 (h : BoxN w b k A1 l1 c1 A2 l2 c2 A3 l3 c3) : w.cell? ⟨b, 2, none⟩ = some (.slice A2 l2 c2) := cell_of_row w b 2 _ _ (0, 0) h
theorem BoxN.at3 (h : BoxN w b k A1 l1 c1 A2 l2 c2 A3 l3 c3) : w.cell? ⟨b, 3, none⟩ = some (.slice A3 l3 c3) := cell_of_row w b 3 _ _ (0, 0) h
theorem boxN_new (w : World) (k : Int) (A1 : Option Addr) (l1 c1 : Nat) (A2 : Option Addr) (l2 c2 : Nat) (A3 : Option Addr) (l3 c3 : Nat) :
    BoxN (w.alloc (.cells #[.int .i64 k, .slice A1 l1 c1, .slice A2 l2 c2, .slice A3 l3 c3] 32)) w.heap.size k A1 l1 c1 A2 l2 c2 A3 l3 c3 := heap_alloc_new w _
end

theorem has_any (x y : Nat) (b : Nat) (k : Int) (A1 : Option Addr) (l1 c1 : Nat) (A2 : Option Addr) (l2 c2 : Nat) (A3 : Option Addr) (l3 c3 : Nat) (w : World) (hb : BoxN w b k A1 l1 c1 A2 l2 c2 A3 l3 c3) (h2 : l2 ≤ 1000000) (h3 : l3 ≤ 1000000) :
    Calls Try.prog 58 #[.int .i64 (x : Nat), .int .i64 (y : Nat), .pointer (some ⟨b, 0, none⟩)] w (Gives (.bool (l2 == x && l3 == y)) w) := by
  have hc2 := hb.at2
  have hc3 := hb.at3
  clear hb
  by_cases h : l2 = x
  · subst h
    have e : (((l2 : Nat) : Int) == ((l2 : Nat) : Int)) = true := by simp
    by_cases h' : l3 = y
    · subst h'
      have e' : (((l3 : Nat) : Int) == ((l3 : Nat) : Int)) = true := by simp
      have E : Hid ((l2 == l2 && l3 == l3) = true) := Lib.hid (by simp)
      rw [E.out]
      go_enter Try.func58, Try.ntmps58
      go_wp2
      go_ret
      exact ⟨rfl, rfl⟩
    · have e' : (((l3 : Nat) : Int) == ((y : Nat) : Int)) = false := by simp; omega
      have E : Hid ((l2 == l2 && l3 == y) = false) := Lib.hid (by simp [h'])
      rw [E.out]
      go_enter Try.func58, Try.ntmps58
      go_wp2
      go_ret
      exact ⟨rfl, rfl⟩
  · have e : (((l2 : Nat) : Int) == ((x : Nat) : Int)) = false := by simp; omega
    have E : Hid ((l2 == x && l3 == y) = false) := Lib.hid (by simp [h])
    rw [E.out]
    go_enter Try.func58, Try.ntmps58
    go_wp2
    go_ret
    exact ⟨rfl, rfl⟩

theorem fill_kind {n : Nd} {c : Nat} :
    (n.kind = 1 → fillB n c = ((n.ints.length == c && n.decs.length == 0) && n.ints.all bitB)) ∧
    (n.kind = 2 → fillB n c = (n.ints.length == c && n.decs.length == 0)) ∧
    (n.kind = 3 → fillB n c = ((n.ints.length == c && n.decs.length == 0) && n.ints.all signB)) ∧
    (n.kind = 4 → fillB n c = ((n.ints.length == 0 && n.decs.length == c) && n.decs.all decB)) ∧
    (n.kind = 5 → fillB n c = (n.ints.length == 0 && n.decs.length == 0)) := by
  refine ⟨fun h => ?_, fun h => ?_, fun h => ?_, fun h => ?_, fun h => ?_⟩ <;> simp [fillB, h]
theorem fill_other {n : Nd} {c : Nat} (h1 : n.kind ≠ 1) (h2 : n.kind ≠ 2) (h3 : n.kind ≠ 3) (h4 : n.kind ≠ 4) (h5 : n.kind ≠ 5) : fillB n c = false := by
  simp [fillB, h1, h2, h3, h4, h5]

def Says (β : Bool) (w : World) (e : Ending) (w' : World) : Prop := e = .returned (.bool β) ∧ Grow w w'

set_option maxRecDepth 10000 in
set_option maxHeartbeats 1600000 in
theorem filled_any (n : Nd) (c : Nat) (A1 A2 A3 : Option Addr) (c1 c2 c3 : Nat) (w : World) (hc : c ≤ 1048576) (hf : Fit n) (hn : IsNd w w.heap.size A1 A2 A3 n) :
    Calls Try.prog 56 #[.agg #[.int .i64 n.kind, .slice A1 n.shp.length c1, .slice A2 n.ints.length c2, .slice A3 n.decs.length c3], .int .i64 (c : Nat)] w (Says (fillB n c) w) := by
  have hmf : ∀ (fn : Fn) (first cap : Array Value) (w : World), (Instr.makeFunc fn first cap).run Try.prog w = .ok (.func fn first cap) w := fun _ _ _ _ => rfl
  have h2 := hf.2.2.1
  have h3 := hf.2.2.2.1
  have HI := Lib.hid hf.2.2.2.2
  have HN2 := Lib.hid hn.2.1
  have HN3 := Lib.hid hn.2.2
  obtain ⟨F1, F2, F3, F4, F5⟩ := fill_kind (n := n) (c := c)
  have G1 := Lib.hid F1
  have G2 := Lib.hid F2
  have G3 := Lib.hid F3
  have G4 := Lib.hid F4
  have G5 := Lib.hid F5
  have G6 := Lib.hid (fill_other (n := n) (c := c))
  clear F1 F2 F3 F4 F5 hf hn
  generalize fillB n c = β at *
  obtain ⟨k, sh, xs, ds⟩ := n
  dsimp only at *
  obtain ⟨l2, hl2⟩ : ∃ l2, xs.length = l2 := ⟨_, rfl⟩
  obtain ⟨l3, hl3⟩ : ∃ l3, ds.length = l3 := ⟨_, rfl⟩
  have HL2 := Lib.hid hl2
  have HL3 := Lib.hid hl3
  rw [hl2] at G1 G2 G3 G4 G5 h2 ⊢
  rw [hl3] at G1 G2 G3 G4 G5 h3 ⊢
  clear hl2 hl3
  generalize sh.length = l1 at *
  have HB := Lib.hid (boxN_new w k A1 l1 c1 A2 l2 c2 A3 l3 c3)
  have HG := Lib.hid (grow_new w (.cells #[.int .i64 k, .slice A1 l1 c1, .slice A2 l2 c2, .slice A3 l3 c3] 32))
  by_cases k1 : k = 1
  · subst k1
    have E := Lib.hid (G1.out rfl)
    clear G1 G2 G3 G4 G5 G6
    have HH := Lib.hid (has_any c 0 w.heap.size 1 A1 l1 c1 A2 l2 c2 A3 l3 c3 _ HB.out h2 h3)
    rw [E.out]
    clear E
    cases hb : (l2 == c && l3 == 0) with
    | false =>
      rw [hb] at HH
      rw [Bool.false_and]
      clear hb
      go_enter Try.func56, Try.ntmps56
      go_wp2_with (go_at_call 58; refine (HH.out).mono ?_; rintro e w2 ⟨rfl, rfl⟩)
      go_ret
      exact ⟨rfl, HG.out⟩
    | true =>
      rw [hb] at HH
      rw [Bool.true_and]
      clear hb
      have HA := Lib.hid (allbit_any A2 l2 c2 xs _ HL2.out (by omega) (HN2.out.grow HG.out))
      go_enter Try.func56, Try.ntmps56
      go_wp2_with (first | (go_at_call 58; refine (HH.out).mono ?_; rintro e w2 ⟨rfl, rfl⟩) | fail)
      refine (HA.out).mono ?_
      rintro e w3 ⟨rfl, hw3⟩
      go_wp2
      go_ret
      exact ⟨rfl, HG.out⟩
  by_cases k2 : k = 2
  · subst k2
    have E := Lib.hid (G2.out rfl)
    clear G1 G2 G3 G4 G5 G6
    have HH := Lib.hid (has_any c 0 w.heap.size 2 A1 l1 c1 A2 l2 c2 A3 l3 c3 _ HB.out h2 h3)
    rw [E.out]
    clear E
    go_enter Try.func56, Try.ntmps56
    go_wp2_with (go_at_call 58; refine (HH.out).mono ?_; rintro e w2 ⟨rfl, rfl⟩)
    go_ret
    exact ⟨rfl, HG.out⟩
  by_cases k3 : k = 3
  · subst k3
    have E := Lib.hid (G3.out rfl)
    clear G1 G2 G3 G4 G5 G6
    have HH := Lib.hid (has_any c 0 w.heap.size 3 A1 l1 c1 A2 l2 c2 A3 l3 c3 _ HB.out h2 h3)
    rw [E.out]
    clear E
    cases hb : (l2 == c && l3 == 0) with
    | false =>
      rw [hb] at HH
      rw [Bool.false_and]
      clear hb
      go_enter Try.func56, Try.ntmps56
      go_wp2_with (go_at_call 58; refine (HH.out).mono ?_; rintro e w2 ⟨rfl, rfl⟩)
      go_ret
      exact ⟨rfl, HG.out⟩
    | true =>
      rw [hb] at HH
      rw [Bool.true_and]
      clear hb
      have HA := Lib.hid (allsign_any A2 l2 c2 xs _ HL2.out (by omega) (HN2.out.grow HG.out))
      go_enter Try.func56, Try.ntmps56
      go_wp2_with (first | (go_at_call 58; refine (HH.out).mono ?_; rintro e w2 ⟨rfl, rfl⟩) | fail)
      refine (HA.out).mono ?_
      rintro e w3 ⟨rfl, hw3⟩
      go_wp2
      go_ret
      exact ⟨rfl, HG.out⟩
  by_cases k4 : k = 4
  · subst k4
    have E := Lib.hid (G4.out rfl)
    clear G1 G2 G3 G4 G5 G6
    have HH := Lib.hid (has_any 0 c w.heap.size 4 A1 l1 c1 A2 l2 c2 A3 l3 c3 _ HB.out h2 h3)
    rw [E.out]
    clear E
    cases hb : (l2 == 0 && l3 == c) with
    | false =>
      rw [hb] at HH
      rw [Bool.false_and]
      clear hb
      go_enter Try.func56, Try.ntmps56
      go_wp2_with (go_at_call 58; refine (HH.out).mono ?_; rintro e w2 ⟨rfl, rfl⟩)
      go_ret
      exact ⟨rfl, HG.out⟩
    | true =>
      rw [hb] at HH
      rw [Bool.true_and]
      clear hb
      have HA := Lib.hid (alldec_any A3 l3 c3 ds _ HL3.out (by omega) HI.out (HN3.out.grow HG.out))
      go_enter Try.func56, Try.ntmps56
      go_wp2_with (first | (go_at_call 58; refine (HH.out).mono ?_; rintro e w2 ⟨rfl, rfl⟩) | fail)
      refine (HA.out).mono ?_
      rintro e w3 ⟨rfl, hw3⟩
      go_wp2
      go_ret
      exact ⟨rfl, HG.out.trans hw3⟩
  by_cases k5 : k = 5
  · subst k5
    have E := Lib.hid (G5.out rfl)
    clear G1 G2 G3 G4 G5 G6
    have HH := Lib.hid (has_any 0 0 w.heap.size 5 A1 l1 c1 A2 l2 c2 A3 l3 c3 _ HB.out h2 h3)
    rw [E.out]
    clear E
    go_enter Try.func56, Try.ntmps56
    go_wp2_with (go_at_call 58; refine (HH.out).mono ?_; rintro e w2 ⟨rfl, rfl⟩)
    go_ret
    exact ⟨rfl, HG.out⟩
  have E := Lib.hid (G6.out k1 k2 k3 k4 k5)
  rw [E.out]
  have q1 : (k == 1) = false := by simpa using k1
  have q2 : (k == 2) = false := by simpa using k2
  have q3 : (k == 3) = false := by simpa using k3
  have q4 : (k == 4) = false := by simpa using k4
  have q5 : (k == 5) = false := by simpa using k5
  clear G1 G2 G3 G4 G5 G6 E
  go_enter Try.func56, Try.ntmps56
  go_wp2
  go_ret
  exact ⟨rfl, HG.out⟩
end Go.Proofs.Ytfdlngcaopcaoaa
