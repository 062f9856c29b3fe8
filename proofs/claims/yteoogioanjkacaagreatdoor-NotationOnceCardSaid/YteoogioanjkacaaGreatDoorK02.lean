/-
  Contracts, joined: AllsA, Add, Firsts, HoldsA, KidsM, Nest, NodesIn, Few, RCopy, MathA, RNormsA. Nothing is claimed here by itself.
-/
import Derived.Test.YteoogioanjkacaaGreatDoorK01
import Derived.BigRegion
import Derived.Lib.AppendZerosOnto
import Derived.ArgAppend
import Derived.Laws.BitsAllLaws
import Derived.Test.YteoogioanjkacaaGreatDoorProg
import Derived.Deep.SlicePairs
import Derived.OpenShut
import Derived.ChangeSlices
import Derived.KernelRfl
import Derived.ProofKit
import Derived.WalkKit
import Derived.Lib.Hide
import Derived.Deep.LoopGhost
import Derived.Deep.QuietTactic
section
namespace Go.Proofs.YteoogioanjkacaaGreatDoor
set_option maxRecDepth 20000
open Go.RowKit Go.Lib
set_option linter.unusedSimpArgs false
set_option linter.unusedVariables false
theorem bit_any (x : Int) (w : World) : Calls Tryz.prog 185 #[.int .i64 x] w (Gives (.bool (bitB x)) w) := by
  by_cases h0 : x = 0
  · subst h0
    go_enter Tryz.func185, Tryz.ntmps185
    go_wp2
    go_ret
    exact ⟨rfl, rfl⟩
  · have h0' : (x == 0) = false := by simpa using h0
    have e : bitB x = (x == 1) := by simp [bitB, h0']
    rw [e]
    go_enter Tryz.func185, Tryz.ntmps185
    go_wp2
    go_ret
    exact ⟨rfl, rfl⟩
theorem sign_any (x : Int) (w : World) : Calls Tryz.prog 186 #[.int .i64 x] w (Gives (.bool (signB x)) w) := by
  by_cases h0 : x < 0
  · have e : signB x = false := by simp [signB]; omega
    rw [e]
    have h0' : ¬ 0 ≤ x := by omega
    go_enter Tryz.func186, Tryz.ntmps186
    go_wp2
    go_ret
    exact ⟨rfl, rfl⟩
  have h0' : 0 ≤ x := by omega
  by_cases h1 : 1114111 < x
  · have e : signB x = false := by simp [signB]; omega
    rw [e]
    have h1' : ¬ x ≤ 1114111 := by omega
    clear h0 e
    go_enter Tryz.func186, Tryz.ntmps186
    go_wp2
    go_ret
    exact ⟨rfl, rfl⟩
  have h1' : x ≤ 1114111 := by omega
  by_cases h2 : x < 55296
  · have e : signB x = true := by simp [signB]; omega
    rw [e]
    clear h0 h1 e
    go_enter Tryz.func186, Tryz.ntmps186
    go_wp2
    go_ret
    exact ⟨rfl, rfl⟩
  by_cases h3 : 57343 < x
  · have e : signB x = true := by simp [signB]; omega
    rw [e]
    clear h0 h1 e
    go_enter Tryz.func186, Tryz.ntmps186
    go_wp2
    go_ret
    exact ⟨rfl, rfl⟩
  · have e : signB x = false := by simp [signB]; omega
    rw [e]
    clear h0 h1 e
    go_enter Tryz.func186, Tryz.ntmps186
    go_wp2
    go_ret
    exact ⟨rfl, rfl⟩

set_option maxRecDepth 10000 in
set_option maxHeartbeats 800000 in
theorem allbit_any (A : Option Addr) (n c : Nat) (xs : List Int) (w : World) (hn : xs.length = n) (hm : n ≤ 9223372036854775807) (hr : Nums .i64 w w.heap.size A xs) :
    Calls Tryz.prog 184 #[.slice A n c, .func (.func 185) #[] #[]] w (Gives (.bool (xs.all bitB)) w) := by
  have HR := Lib.hid hr
  have HN := Lib.hid hn
  clear hr hn
  go_enter Tryz.func184, Tryz.ntmps184
  go_wp2
  go_loopg [9] n (fun g s8 wr => ∃ k : Nat, k ≤ n ∧ g = n - k ∧ s8 = .int .i64 k ∧ Hid ((xs.drop k).all bitB = xs.all bitB) ∧ w = wr)
  case atStart => exact ⟨0, Nat.zero_le _, rfl, rfl, Lib.hid rfl, rfl⟩
  case round =>
    obtain ⟨k, hk, rfl, rfl, HA, rfl⟩ := hrel
    by_cases hlt : k < n
    · have hkl : k < xs.length := by rw [HN.out]; exact hlt
      obtain ⟨b, off, rfl, hb, hcl⟩ := HR.out (by omega)
      have hc := hcl k hkl
      have HT := Lib.hid (fun h => all_drop (p := bitB) hkl h)
      have HF := Lib.hid (fun h => all_fails (p := bitB) hkl h)
      clear hcl hkl
      generalize xs.getD k 0 = x at hc HT HF
      cases hx : bitB x with
      | true =>
        have HT' := Lib.hid (HT.out hx)
        have HB := Lib.hid (bit_any x w)
        rw [hx] at HB
        clear hx HT HF
        go_wp2_with (go_at_call 185; refine (HB.out).mono ?_; rintro e w2 ⟨rfl, rfl⟩)
        go_roundg (n - (k + 1))
        case rel => exact ⟨k + 1, by omega, rfl, by go_num, Lib.hid (HT'.out.symm.trans HA.out), rfl⟩
        case measure => omega
      | false =>
        have HF' := Lib.hid (HF.out hx)
        have HB := Lib.hid (bit_any x w)
        rw [hx] at HB
        clear hx HT HF
        go_wp2_with (go_at_call 185; refine (HB.out).mono ?_; rintro e w2 ⟨rfl, rfl⟩)
        go_ret
        exact ⟨by rw [← HA.out, HF'.out]; rfl, rfl⟩
    · obtain rfl : k = n := by omega
      have HE : Hid (xs.all bitB = true) := Lib.hid (by rw [← HA.out, ← HN.out, List.drop_length]; rfl)
      go_wp2
      go_ret
      exact ⟨by rw [HE.out]; rfl, rfl⟩

set_option maxRecDepth 10000 in
set_option maxHeartbeats 800000 in
theorem allsign_any (A : Option Addr) (n c : Nat) (xs : List Int) (w : World) (hn : xs.length = n) (hm : n ≤ 9223372036854775807) (hr : Nums .i64 w w.heap.size A xs) :
    Calls Tryz.prog 184 #[.slice A n c, .func (.func 186) #[] #[]] w (Gives (.bool (xs.all signB)) w) := by
  have HR := Lib.hid hr
  have HN := Lib.hid hn
  clear hr hn
  go_enter Tryz.func184, Tryz.ntmps184
  go_wp2
  go_loopg [9] n (fun g s8 wr => ∃ k : Nat, k ≤ n ∧ g = n - k ∧ s8 = .int .i64 k ∧ Hid ((xs.drop k).all signB = xs.all signB) ∧ w = wr)
  case atStart => exact ⟨0, Nat.zero_le _, rfl, rfl, Lib.hid rfl, rfl⟩
  case round =>
    obtain ⟨k, hk, rfl, rfl, HA, rfl⟩ := hrel
    by_cases hlt : k < n
    · have hkl : k < xs.length := by rw [HN.out]; exact hlt
      obtain ⟨b, off, rfl, hb, hcl⟩ := HR.out (by omega)
      have hc := hcl k hkl
      have HT := Lib.hid (fun h => all_drop (p := signB) hkl h)
      have HF := Lib.hid (fun h => all_fails (p := signB) hkl h)
      clear hcl hkl
      generalize xs.getD k 0 = x at hc HT HF
      cases hx : signB x with
      | true =>
        have HT' := Lib.hid (HT.out hx)
        have HB := Lib.hid (sign_any x w)
        rw [hx] at HB
        clear hx HT HF
        go_wp2_with (go_at_call 186; refine (HB.out).mono ?_; rintro e w2 ⟨rfl, rfl⟩)
        go_roundg (n - (k + 1))
        case rel => exact ⟨k + 1, by omega, rfl, by go_num, Lib.hid (HT'.out.symm.trans HA.out), rfl⟩
        case measure => omega
      | false =>
        have HF' := Lib.hid (HF.out hx)
        have HB := Lib.hid (sign_any x w)
        rw [hx] at HB
        clear hx HT HF
        go_wp2_with (go_at_call 186; refine (HB.out).mono ?_; rintro e w2 ⟨rfl, rfl⟩)
        go_ret
        exact ⟨by rw [← HA.out, HF'.out]; rfl, rfl⟩
    · obtain rfl : k = n := by omega
      have HE : Hid (xs.all signB = true) := Lib.hid (by rw [← HA.out, ← HN.out, List.drop_length]; rfl)
      go_wp2
      go_ret
      exact ⟨by rw [HE.out]; rfl, rfl⟩

theorem alld_drop {p : Int × Int → Bool} {xs : List (Int × Int)} {k : Nat} (h : k < xs.length) (hx : p (xs.getD k (0, 0)) = true) : (xs.drop k).all p = (xs.drop (k + 1)).all p := by
  rw [drop_at (0, 0) h, List.all_cons, hx, Bool.true_and]
theorem alld_fails {p : Int × Int → Bool} {xs : List (Int × Int)} {k : Nat} (h : k < xs.length) (hx : p (xs.getD k (0, 0)) = false) : (xs.drop k).all p = false := by
  rw [drop_at (0, 0) h, List.all_cons, hx, Bool.false_and]
set_option maxRecDepth 10000 in
set_option maxHeartbeats 800000 in
theorem alldec_any (A : Option Addr) (n c : Nat) (xs : List (Int × Int)) (w : World) (hn : xs.length = n) (hm : n ≤ 9223372036854775807) (hi : ∀ x ∈ xs, In x.1 ∧ In x.2) (hr : Decs w w.heap.size A xs) :
    Calls Tryz.prog 187 #[.slice A n c, .func (.func 22) #[] #[]] w (fun e w' => e = .returned (.bool (xs.all decB)) ∧ Grow w w') := by
  have HR := Lib.hid hr
  have HN := Lib.hid hn
  have HI := Lib.hid hi
  clear hr hn hi
  go_enter Tryz.func187, Tryz.ntmps187
  go_wp2
  go_loopg [9] n (fun g s8 wr => ∃ k : Nat, k ≤ n ∧ g = n - k ∧ s8 = .int .i64 k ∧ Hid ((xs.drop k).all decB = xs.all decB) ∧ Hid (Grow w wr))
  case atStart => exact ⟨0, Nat.zero_le _, rfl, rfl, Lib.hid rfl, Lib.hid (Grow.refl _)⟩
  case round =>
    obtain ⟨k, hk, rfl, rfl, HA, HG⟩ := hrel
    by_cases hlt : k < n
    · have hkl : k < xs.length := by rw [HN.out]; exact hlt
      obtain ⟨b, off, rfl, hb, hcl⟩ := HR.out.grow HG.out (by omega)
      obtain ⟨hc1, hc2⟩ := hcl k hkl
      have HT := Lib.hid (fun h => alld_drop (p := decB) hkl h)
      have HF := Lib.hid (fun h => alld_fails (p := decB) hkl h)
      have hin := in_at HI.out k
      clear hcl hkl hb
      generalize xs.getD k (0, 0) = x at hc1 hc2 HT HF hin
      obtain ⟨x1, x2⟩ := x
      dsimp only at hc1 hc2 hin
      cases hx : decB (x1, x2) with
      | true =>
        have HT' := Lib.hid (HT.out hx)
        have HB := Lib.hid (fun W => right_any x1 x2 W hin.1 hin.2)
        rw [show rightD x1 x2 = true from hx] at HB
        clear hx HT HF hin
        go_wp2_with (go_at_call 22; refine (HB.out _).mono ?_; rintro e w2 ⟨rfl, hw2⟩)
        go_roundg (n - (k + 1))
        case rel => exact ⟨k + 1, by omega, rfl, by go_num, Lib.hid (HT'.out.symm.trans HA.out), Lib.hid ((HG.out.trans (grow_new _ _)).trans hw2)⟩
        case measure => omega
      | false =>
        have HF' := Lib.hid (HF.out hx)
        have HB := Lib.hid (fun W => right_any x1 x2 W hin.1 hin.2)
        rw [show rightD x1 x2 = false from hx] at HB
        clear hx HT HF hin
        go_wp2_with (go_at_call 22; refine (HB.out _).mono ?_; rintro e w2 ⟨rfl, hw2⟩)
        go_ret
        exact ⟨by rw [← HA.out, HF'.out]; rfl, (HG.out.trans (grow_new _ _)).trans hw2⟩
    · obtain rfl : k = n := by omega
      have HE : Hid (xs.all decB = true) := Lib.hid (by rw [← HA.out, ← HN.out, List.drop_length]; rfl)
      go_wp2
      go_ret
      exact ⟨by rw [HE.out]; rfl, HG.out⟩
end Go.Proofs.YteoogioanjkacaaGreatDoor
end
section
namespace Go.Proofs.YteoogioanjkacaaGreatDoor
open Go.RowKit Go.Lib
set_option linter.unusedSimpArgs false
set_option linter.unusedVariables false
/-- a node in a block of its own -/
def BoxN (w : World) (b : Nat) (k : Int) (A1 : Option Addr) (l1 c1 : Nat) (A2 : Option Addr) (l2 c2 : Nat) (A3 : Option Addr) (l3 c3 : Nat) : Prop :=
  w.heap[b]? = some (.cells #[.int .i64 k, .slice A1 l1 c1, .slice A2 l2 c2, .slice A3 l3 c3] 34 (0, 0))
section
variable {w w' : World} {b : Nat} {k : Int} {A1 A2 A3 : Option Addr} {l1 c1 l2 c2 l3 c3 : Nat}
theorem BoxN.lt (h : BoxN w b k A1 l1 c1 A2 l2 c2 A3 l3 c3) : b < w.heap.size := by
  rcases Nat.lt_or_ge b w.heap.size with k | k
  · exact k
  · rw [BoxN, Array.getElem?_eq_none k] at h; cases h
theorem BoxN.grow (h : BoxN w b k A1 l1 c1 A2 l2 c2 A3 l3 c3) (hg : Grow w w') : BoxN w' b k A1 l1 c1 A2 l2 c2 A3 l3 c3 := (hg.block b h.lt).trans h
theorem BoxN.at0 (h : BoxN w b k A1 l1 c1 A2 l2 c2 A3 l3 c3) : w.cell? ⟨b, 0, none⟩ = some (.int .i64 k) := cell_of_row w b 0 _ _ (0, 0) h
theorem BoxN.at1 (h : BoxN w b k A1 l1 c1 A2 l2 c2 A3 l3 c3) : w.cell? ⟨b, 1, none⟩ = some (.slice A1 l1 c1) := cell_of_row w b 1 _ _ (0, 0) h
theorem BoxN.at2 (h : BoxN w b k A1 l1 c1 A2 l2 c2 A3 l3 c3) : w.cell? ⟨b, 2, none⟩ = some (.slice A2 l2 c2) := cell_of_row w b 2 _ _ (0, 0) h
theorem BoxN.at3 (h : BoxN w b k A1 l1 c1 A2 l2 c2 A3 l3 c3) : w.cell? ⟨b, 3, none⟩ = some (.slice A3 l3 c3) := cell_of_row w b 3 _ _ (0, 0) h
theorem boxN_new (w : World) (k : Int) (A1 : Option Addr) (l1 c1 : Nat) (A2 : Option Addr) (l2 c2 : Nat) (A3 : Option Addr) (l3 c3 : Nat) :
    BoxN (w.alloc (.cells #[.int .i64 k, .slice A1 l1 c1, .slice A2 l2 c2, .slice A3 l3 c3] 34)) w.heap.size k A1 l1 c1 A2 l2 c2 A3 l3 c3 := heap_alloc_new w _
end
theorem has_any (x y : Nat) (b : Nat) (k : Int) (A1 : Option Addr) (l1 c1 : Nat) (A2 : Option Addr) (l2 c2 : Nat) (A3 : Option Addr) (l3 c3 : Nat) (w : World) (hb : BoxN w b k A1 l1 c1 A2 l2 c2 A3 l3 c3) (h2 : l2 ≤ 1100000) (h3 : l3 ≤ 1100000) :
    Calls Tryz.prog 183 #[.int .i64 (x : Nat), .int .i64 (y : Nat), .pointer (some ⟨b, 0, none⟩)] w (Gives (.bool (l2 == x && l3 == y)) w) := by
  have hc2 := hb.at2
  have hc3 := hb.at3
  clear hb
  by_cases h : l2 = x
  · subst h
    have e : (((l2 : Nat) : Int) == ((l2 : Nat) : Int)) = true := by simp
    by_cases h' : l3 = y
    · subst h'
      have e' : (((l3 : Nat) : Int) == ((l3 : Nat) : Int)) = true := by simp
      have E : Hid ((l2 == l2 && l3 == l3) = true) := Lib.hid (by simp)
      rw [E.out]
      go_enter Tryz.func183, Tryz.ntmps183
      go_wp2
      go_ret
      exact ⟨rfl, rfl⟩
    · have e' : (((l3 : Nat) : Int) == ((y : Nat) : Int)) = false := by simp; omega
      have E : Hid ((l2 == l2 && l3 == y) = false) := Lib.hid (by simp [h'])
      rw [E.out]
      go_enter Tryz.func183, Tryz.ntmps183
      go_wp2
      go_ret
      exact ⟨rfl, rfl⟩
  · have e : (((l2 : Nat) : Int) == ((x : Nat) : Int)) = false := by simp; omega
    have E : Hid ((l2 == x && l3 == y) = false) := Lib.hid (by simp [h])
    rw [E.out]
    go_enter Tryz.func183, Tryz.ntmps183
    go_wp2
    go_ret
    exact ⟨rfl, rfl⟩

theorem fill_kind {n : Nd} {c : Nat} :
    (n.kind = 1 → fillB n c = ((n.ints.length == c && n.decs.length == 0) && n.ints.all bitB)) ∧
    (n.kind = 2 → fillB n c = (n.ints.length == c && n.decs.length == 0)) ∧
    (n.kind = 3 → fillB n c = ((n.ints.length == c && n.decs.length == 0) && n.ints.all signB)) ∧
    (n.kind = 4 → fillB n c = ((n.ints.length == 0 && n.decs.length == c) && n.decs.all decB)) ∧
    (n.kind = 5 → fillB n c = (n.ints.length == 0 && n.decs.length == 0)) := by
  refine ⟨fun h => ?_, fun h => ?_, fun h => ?_, fun h => ?_, fun h => ?_⟩ <;> simp [fillB, h]
theorem fill_other {n : Nd} {c : Nat} (h1 : n.kind ≠ 1) (h2 : n.kind ≠ 2) (h3 : n.kind ≠ 3) (h4 : n.kind ≠ 4) (h5 : n.kind ≠ 5) : fillB n c = false := by
  simp [fillB, h1, h2, h3, h4, h5]

def Says (β : Bool) (w : World) (e : Ending) (w' : World) : Prop := e = .returned (.bool β) ∧ Grow w w'

set_option maxRecDepth 10000 in
set_option maxHeartbeats 1600000 in
theorem filled_any (n : Nd) (c : Nat) (A1 A2 A3 : Option Addr) (c1 c2 c3 : Nat) (w : World) (hc : c ≤ 1048576) (hf : Fit n) (hn : IsNd w w.heap.size A1 A2 A3 n) :
    Calls Tryz.prog 168 #[.agg #[.int .i64 n.kind, .slice A1 n.shp.length c1, .slice A2 n.ints.length c2, .slice A3 n.decs.length c3], .int .i64 (c : Nat)] w (Says (fillB n c) w) := by
  have hmf : ∀ (fn : Fn) (first cap : Array Value) (w : World), (Instr.makeFunc fn first cap).run Tryz.prog w = .ok (.func fn first cap) w := fun _ _ _ _ => rfl
  have h2 := hf.2.2.1
  have h3 := hf.2.2.2.1
  have HI := Lib.hid hf.2.2.2.2
  have HN2 := Lib.hid hn.2.1
  have HN3 := Lib.hid hn.2.2
  obtain ⟨F1, F2, F3, F4, F5⟩ := fill_kind (n := n) (c := c)
  have G1 := Lib.hid F1
  have G2 := Lib.hid F2
  have G3 := Lib.hid F3
  have G4 := Lib.hid F4
  have G5 := Lib.hid F5
  have G6 := Lib.hid (fill_other (n := n) (c := c))
  clear F1 F2 F3 F4 F5 hf hn
  generalize fillB n c = β at *
  obtain ⟨k, sh, xs, ds⟩ := n
  dsimp only at *
  obtain ⟨l2, hl2⟩ : ∃ l2, xs.length = l2 := ⟨_, rfl⟩
  obtain ⟨l3, hl3⟩ : ∃ l3, ds.length = l3 := ⟨_, rfl⟩
  have HL2 := Lib.hid hl2
  have HL3 := Lib.hid hl3
  rw [hl2] at G1 G2 G3 G4 G5 h2 ⊢
  rw [hl3] at G1 G2 G3 G4 G5 h3 ⊢
  clear hl2 hl3
  generalize sh.length = l1 at *
  have HB := Lib.hid (boxN_new w k A1 l1 c1 A2 l2 c2 A3 l3 c3)
  have HG := Lib.hid (grow_new w (.cells #[.int .i64 k, .slice A1 l1 c1, .slice A2 l2 c2, .slice A3 l3 c3] 34))
  by_cases k1 : k = 1
  · subst k1
    have E := Lib.hid (G1.out rfl)
    clear G1 G2 G3 G4 G5 G6
    have HH := Lib.hid (has_any c 0 w.heap.size 1 A1 l1 c1 A2 l2 c2 A3 l3 c3 _ HB.out h2 h3)
    rw [E.out]
    clear E
    cases hb : (l2 == c && l3 == 0) with
    | false =>
      rw [hb] at HH
      rw [Bool.false_and]
      clear hb
      go_enter Tryz.func168, Tryz.ntmps168
      go_wp2_with (go_at_call 183; refine (HH.out).mono ?_; rintro e w2 ⟨rfl, rfl⟩)
      go_ret
      exact ⟨rfl, HG.out⟩
    | true =>
      rw [hb] at HH
      rw [Bool.true_and]
      clear hb
      have HA := Lib.hid (allbit_any A2 l2 c2 xs _ HL2.out (by omega) (HN2.out.grow HG.out))
      go_enter Tryz.func168, Tryz.ntmps168
      go_wp2_with (first | (go_at_call 183; refine (HH.out).mono ?_; rintro e w2 ⟨rfl, rfl⟩) | fail)
      refine (HA.out).mono ?_
      rintro e w3 ⟨rfl, hw3⟩
      go_wp2
      go_ret
      exact ⟨rfl, HG.out⟩
  by_cases k2 : k = 2
  · subst k2
    have E := Lib.hid (G2.out rfl)
    clear G1 G2 G3 G4 G5 G6
    have HH := Lib.hid (has_any c 0 w.heap.size 2 A1 l1 c1 A2 l2 c2 A3 l3 c3 _ HB.out h2 h3)
    rw [E.out]
    clear E
    go_enter Tryz.func168, Tryz.ntmps168
    go_wp2_with (go_at_call 183; refine (HH.out).mono ?_; rintro e w2 ⟨rfl, rfl⟩)
    go_ret
    exact ⟨rfl, HG.out⟩
  by_cases k3 : k = 3
  · subst k3
    have E := Lib.hid (G3.out rfl)
    clear G1 G2 G3 G4 G5 G6
    have HH := Lib.hid (has_any c 0 w.heap.size 3 A1 l1 c1 A2 l2 c2 A3 l3 c3 _ HB.out h2 h3)
    rw [E.out]
    clear E
    cases hb : (l2 == c && l3 == 0) with
    | false =>
      rw [hb] at HH
      rw [Bool.false_and]
      clear hb
      go_enter Tryz.func168, Tryz.ntmps168
      go_wp2_with (go_at_call 183; refine (HH.out).mono ?_; rintro e w2 ⟨rfl, rfl⟩)
      go_ret
      exact ⟨rfl, HG.out⟩
    | true =>
      rw [hb] at HH
      rw [Bool.true_and]
      clear hb
      have HA := Lib.hid (allsign_any A2 l2 c2 xs _ HL2.out (by omega) (HN2.out.grow HG.out))
      go_enter Tryz.func168, Tryz.ntmps168
      go_wp2_with (first | (go_at_call 183; refine (HH.out).mono ?_; rintro e w2 ⟨rfl, rfl⟩) | fail)
      refine (HA.out).mono ?_
      rintro e w3 ⟨rfl, hw3⟩
      go_wp2
      go_ret
      exact ⟨rfl, HG.out⟩
  by_cases k4 : k = 4
  · subst k4
    have E := Lib.hid (G4.out rfl)
    clear G1 G2 G3 G4 G5 G6
    have HH := Lib.hid (has_any 0 c w.heap.size 4 A1 l1 c1 A2 l2 c2 A3 l3 c3 _ HB.out h2 h3)
    rw [E.out]
    clear E
    cases hb : (l2 == 0 && l3 == c) with
    | false =>
      rw [hb] at HH
      rw [Bool.false_and]
      clear hb
      go_enter Tryz.func168, Tryz.ntmps168
      go_wp2_with (go_at_call 183; refine (HH.out).mono ?_; rintro e w2 ⟨rfl, rfl⟩)
      go_ret
      exact ⟨rfl, HG.out⟩
    | true =>
      rw [hb] at HH
      rw [Bool.true_and]
      clear hb
      have HA := Lib.hid (alldec_any A3 l3 c3 ds _ HL3.out (by omega) HI.out (HN3.out.grow HG.out))
      go_enter Tryz.func168, Tryz.ntmps168
      go_wp2_with (first | (go_at_call 183; refine (HH.out).mono ?_; rintro e w2 ⟨rfl, rfl⟩) | fail)
      refine (HA.out).mono ?_
      rintro e w3 ⟨rfl, hw3⟩
      go_wp2
      go_ret
      exact ⟨rfl, HG.out.trans hw3⟩
  by_cases k5 : k = 5
  · subst k5
    have E := Lib.hid (G5.out rfl)
    clear G1 G2 G3 G4 G5 G6
    have HH := Lib.hid (has_any 0 0 w.heap.size 5 A1 l1 c1 A2 l2 c2 A3 l3 c3 _ HB.out h2 h3)
    rw [E.out]
    clear E
    go_enter Tryz.func168, Tryz.ntmps168
    go_wp2_with (go_at_call 183; refine (HH.out).mono ?_; rintro e w2 ⟨rfl, rfl⟩)
    go_ret
    exact ⟨rfl, HG.out⟩
  have E := Lib.hid (G6.out k1 k2 k3 k4 k5)
  rw [E.out]
  have q1 : (k == 1) = false := by simpa using k1
  have q2 : (k == 2) = false := by simpa using k2
  have q3 : (k == 3) = false := by simpa using k3
  have q4 : (k == 4) = false := by simpa using k4
  have q5 : (k == 5) = false := by simpa using k5
  clear G1 G2 G3 G4 G5 G6 E
  go_enter Tryz.func168, Tryz.ntmps168
  go_wp2
  go_ret
  exact ⟨rfl, HG.out⟩
end Go.Proofs.YteoogioanjkacaaGreatDoor
end
section
namespace Go.Proofs.YteoogioanjkacaaGreatDoor
open Go.RowKit Go.Lib
set_option linter.unusedSimpArgs false
set_option linter.unusedVariables false
theorem cnt_le1 (xs : List Int) : cnt xs ≤ 1048576 := by
  unfold cnt
  split
  · exact (right_iff.1 (by assumption)).2.2
  · omega
theorem itm_le (n : Nd) : itm n ≤ 1048576 := by
  unfold itm
  split
  · exact cnt_le1 _
  · omega
def SaysN (c : Nat) (β : Bool) (w : World) (e : Ending) (w' : World) : Prop := e = .returned (.tuple #[.int .i64 (c : Nat), .bool β]) ∧ Grow w w'

set_option maxRecDepth 10000 in
set_option maxHeartbeats 1600000 in
theorem itemsOf_any (n : Nd) (A1 A2 A3 : Option Addr) (c1 c2 c3 : Nat) (w : World) (hf : Fit n) (hn : IsNd w w.heap.size A1 A2 A3 n) :
    Calls Tryz.prog 146 #[.agg #[.int .i64 n.kind, .slice A1 n.shp.length c1, .slice A2 n.ints.length c2, .slice A3 n.decs.length c3]] w (SaysN (itm n) (okB n) w) := by
  obtain ⟨C, hC⟩ : ∃ C, cnt n.shp = C := ⟨_, rfl⟩
  obtain ⟨β, hβ⟩ : ∃ β, rightB n.shp = β := ⟨_, rfl⟩
  obtain ⟨γ, hγ⟩ : ∃ γ, fillB n C = γ := ⟨_, rfl⟩
  have hC1 : C ≤ 1048576 := hC ▸ cnt_le1 _
  have hm : n.shp.length ≤ 9223372036854775807 := by have := hf.2.1; omega
  have HCO := Lib.hid (fun W h => count_any A1 n.shp.length c1 n.shp W rfl hm h)
  rw [hC, hβ] at HCO
  have HFI := Lib.hid (fun W h => filled_any n C A1 A2 A3 c1 c2 c3 W hC1 hf h)
  rw [hγ] at HFI
  have HO : Hid (okB n = (β && γ)) := Lib.hid (by unfold okB; rw [hβ, hC, hγ])
  have HI : Hid (itm n = if (β && γ) = true then C else 0) := Lib.hid (by unfold itm; rw [HO.out, hC])
  have HN := Lib.hid hn
  clear hC hβ hγ hf hn
  generalize okB n = ω at *
  generalize itm n = ι at *
  have HB := Lib.hid (boxN_new w n.kind A1 n.shp.length c1 A2 n.ints.length c2 A3 n.decs.length c3)
  have HG := Lib.hid (grow_new w (.cells #[.int .i64 n.kind, .slice A1 n.shp.length c1, .slice A2 n.ints.length c2, .slice A3 n.decs.length c3] 34))
  generalize n.shp.length = l1 at *
  generalize n.ints.length = l2 at *
  generalize n.decs.length = l3 at *
  generalize n.kind = k at *
  go_enter Tryz.func146, Tryz.ntmps146
  go_wp2_with fail
  refine (HCO.out _ (HN.out.1.grow HG.out)).mono ?_
  rintro e w2 ⟨rfl, hw2⟩
  have HG2 := Lib.hid (show Grow w w2 by rw [hw2]; exact HG.out)
  have HB2 : BoxN w2 w.heap.size k A1 l1 c1 A2 l2 c2 A3 l3 c3 := by rw [hw2]; exact HB.out
  have g0 := HB2.at0
  have g1 := HB2.at1
  have g2 := HB2.at2
  have g3 := HB2.at3
  have HB3 := Lib.hid HB2
  clear hw2 HB2 HCO
  cases β with
  | false =>
    have HI' : Hid (ι = 0) := Lib.hid (by rw [HI.out]; rfl)
    have HO' : Hid (ω = false) := Lib.hid (by rw [HO.out]; rfl)
    clear HI HO
    go_wp2
    go_ret2
    exact ⟨by rw [HI'.out, HO'.out]; rfl, HG2.out⟩
  | true =>
    go_wp2_with fail
    refine (HFI.out _ (HN.out.grow HG2.out)).mono ?_
    rintro e w3 ⟨rfl, hw3⟩
    have HG3 := Lib.hid (HG2.out.trans hw3)
    clear hw3 HFI
    cases γ with
    | false =>
      have HI' : Hid (ι = 0) := Lib.hid (by rw [HI.out]; rfl)
      have HO' : Hid (ω = false) := Lib.hid (by rw [HO.out]; rfl)
      clear HI HO
      go_wp2
      go_ret2
      exact ⟨by rw [HI'.out, HO'.out]; rfl, HG3.out⟩
    | true =>
      have HI' : Hid (ι = C) := Lib.hid (by rw [HI.out]; rfl)
      have HO' : Hid (ω = true) := Lib.hid (by rw [HO.out]; rfl)
      clear HI HO
      go_wp2
      go_ret2
      exact ⟨by rw [HI'.out, HO'.out]; rfl, HG3.out⟩
end Go.Proofs.YteoogioanjkacaaGreatDoor
end
namespace Go.Proofs.YteoogioanjkacaaGreatDoor
set_option maxRecDepth 20000
open Go.RowKit Go.Lib
set_option linter.unusedSimpArgs false
set_option linter.unusedVariables false
/-- the sizes in memory -/
def StAt (w : World) (g : Nat) (s : St) : Prop := w.heap[g]? = some (.cells #[.int .i64 (s.n : Nat), .int .i64 (s.i : Nat), .int .i64 (s.d : Nat), .int .i64 (s.r : Nat)] 101 (0, 0))
section
variable {w w' : World} {g : Nat} {s : St}
theorem StAt.lt (h : StAt w g s) : g < w.heap.size := by
  rcases Nat.lt_or_ge g w.heap.size with k | k
  · exact k
  · rw [StAt, Array.getElem?_eq_none k] at h; cases h
theorem StAt.grow (h : StAt w g s) (hg : Grow w w') : StAt w' g s := (hg.block g h.lt).trans h
theorem StAt.at0 (h : StAt w g s) : w.cell? ⟨g, 0, none⟩ = some (.int .i64 (s.n : Nat)) := cell_of_row w g 0 _ _ (0, 0) h
theorem StAt.at1 (h : StAt w g s) : w.cell? ⟨g, 1, none⟩ = some (.int .i64 (s.i : Nat)) := cell_of_row w g 1 _ _ (0, 0) h
theorem StAt.at2 (h : StAt w g s) : w.cell? ⟨g, 2, none⟩ = some (.int .i64 (s.d : Nat)) := cell_of_row w g 2 _ _ (0, 0) h
theorem StAt.at3 (h : StAt w g s) : w.cell? ⟨g, 3, none⟩ = some (.int .i64 (s.r : Nat)) := cell_of_row w g 3 _ _ (0, 0) h
theorem StAt.froz (h : StAt w g s) (j : Nat) : w.frozen? ⟨g, j, none⟩ = false := frozen_of_row w g j _ _ h
theorem StAt.put0 (h : StAt w g s) (v : Nat) : StAt (w.setCell ⟨g, 0, none⟩ (.int .i64 (v : Nat))) g ⟨v, s.i, s.d, s.r⟩ := heap_setCell_same w g 0 _ _ _ h
theorem StAt.put1 (h : StAt w g s) (v : Nat) : StAt (w.setCell ⟨g, 1, none⟩ (.int .i64 (v : Nat))) g ⟨s.n, v, s.d, s.r⟩ := heap_setCell_same w g 1 _ _ _ h
theorem StAt.put2 (h : StAt w g s) (v : Nat) : StAt (w.setCell ⟨g, 2, none⟩ (.int .i64 (v : Nat))) g ⟨s.n, s.i, v, s.r⟩ := heap_setCell_same w g 2 _ _ _ h
theorem StAt.put3 (h : StAt w g s) (v : Nat) : StAt (w.setCell ⟨g, 3, none⟩ (.int .i64 (v : Nat))) g ⟨s.n, s.i, s.d, v⟩ := heap_setCell_same w g 3 _ _ _ h
end
def addR (e : Nat) (s : St) (ns : List Nd) : Option St := (par e (ns.drop s.n)).bind fun t => if s.i + t.i ≤ 1048576 then some t else none
def adv (D : Nat) (s t : St) : St := ⟨s.n + t.n, s.i + t.i, max s.d (D - 1 + t.d), max s.r t.r⟩
def AddP (e D : Nat) (s : St) (g : Nat) (ns : List Nd) (w : World) (x : Ending) (w' : World) : Prop :=
  Below g w w' ∧ match addR e s ns with
    | some t => x = .returned (.bool true) ∧ StAt w' g (adv D s t)
    | none => x = .returned (.bool false)
theorem AddP.no {e D : Nat} {s : St} {g : Nat} {ns : List Nd} {w w' : World} (h : addR e s ns = none) (hb : Below g w w') : AddP e D s g ns w (.returned (.bool false)) w' := by
  refine ⟨hb, ?_⟩
  rw [h]
theorem AddP.yes {e D : Nat} {s t : St} {g : Nat} {ns : List Nd} {w w' : World} (h : addR e s ns = some t) (hb : Below g w w') (hs : StAt w' g (adv D s t)) : AddP e D s g ns w (.returned (.bool true)) w' := by
  refine ⟨hb, ?_⟩
  rw [h]
  exact ⟨rfl, hs⟩
theorem addR_end {e : Nat} {s : St} {ns : List Nd} (h : s.n = ns.length) : addR e s ns = none := by
  unfold addR; rw [h, List.drop_length, par_nil]; rfl
theorem addR_zero {s : St} {ns : List Nd} : addR 0 s ns = none := rfl
theorem addR_bad {e : Nat} {s : St} {ns : List Nd} (h : s.n < ns.length) (hb : okB (ns.getD s.n nd0) = false) : addR (e + 1) s ns = none := by
  unfold addR; rw [drop_nd h, par_cons, hb]; rfl
theorem addR_much {e : Nat} {s : St} {ns : List Nd} (h : s.n < ns.length) (hb : 1048576 < s.i + cnt (ns.getD s.n nd0).shp) : addR (e + 1) s ns = none := by
  unfold addR
  rw [drop_nd h]
  cases hp : par (e + 1) (ns.getD s.n nd0 :: ns.drop (s.n + 1)) with
  | none => rfl
  | some t =>
    obtain ⟨e', n, l', t', he, hl, hn, ht, rfl⟩ := par_parts hp
    cases hl
    rw [Option.bind_some, if_neg]
    simp only [top]
    omega
theorem addR_leaf {e : Nat} {s : St} {ns : List Nd} (h : s.n < ns.length) (hb : okB (ns.getD s.n nd0) = true) (hk : (ns.getD s.n nd0).kind ≠ 5) (hi : s.i + cnt (ns.getD s.n nd0).shp ≤ 1048576) :
    addR (e + 1) s ns = some ⟨1, cnt (ns.getD s.n nd0).shp, 1, (ns.getD s.n nd0).shp.length⟩ := by
  unfold addR
  have hkc : kc (ns.getD s.n nd0) = 0 := by simp only [kc]; rw [if_neg hk]
  rw [drop_nd h, par_mk (t := st0) hb (by rw [hkc]; rfl), Option.bind_some]
  have e1 : top (ns.getD s.n nd0) st0 = ⟨1, cnt (ns.getD s.n nd0).shp, 1, (ns.getD s.n nd0).shp.length⟩ := by simp [top, st0]
  rw [e1]
  exact if_pos hi

theorem ok_rank {n : Nd} (h : okB n = true) : n.shp.length ≤ 16 := by
  unfold okB at h
  rw [Bool.and_eq_true] at h
  exact (right_iff.1 h.1).1
theorem parK_rank {f : List Nd → Option St} (hf : ∀ l s, f l = some s → s.r ≤ 16) : ∀ {c : Nat} {l : List Nd} {t : St}, parK f c l = some t → t.r ≤ 16
  | 0, l, t, h => by rw [parK_zero] at h; cases h; exact Nat.zero_le _
  | c + 1, l, t, h => by
    obtain ⟨a, b, ha, hb, rfl⟩ := parK_some h
    have h1 := parK_rank hf ha
    have h2 := hf _ _ hb
    simp only [St.plus]
    omega
theorem par_rank : ∀ {d : Nat} {l : List Nd} {s : St}, par d l = some s → s.r ≤ 16
  | 0, l, s, h => by cases h
  | d + 1, l, s, h => by
    obtain ⟨e, n, l', t, he, rfl, hn, ht, rfl⟩ := par_parts h
    obtain rfl : d = e := by omega
    have h1 := parK_rank (fun l s h => par_rank h) ht
    have h2 := ok_rank hn
    simp only [top]
    omega
theorem addR_nest {e : Nat} {s : St} {ns : List Nd} {n : Nd} {ι : Nat} {t : St} (hd : ns.drop s.n = n :: ns.drop (s.n + 1)) (hb : okB n = true) (hk : n.kind = 5) (hι : ι = cnt n.shp)
    (ht : parK (par e) ι (ns.drop (s.n + 1)) = some t) (hi : s.i + ι + t.i ≤ 1048576) : addR (e + 1) s ns = some (top n t) := by
  have hkc : kc n = ι := by simp only [kc]; rw [if_pos hk, hι]
  unfold addR
  rw [hd, par_mk hb (by rw [hkc]; exact ht), Option.bind_some, if_pos]
  simp only [top]
  omega
theorem addR_nest_no {e : Nat} {s : St} {ns : List Nd} {n : Nd} {ι j : Nat} {t : St} {w : St} (hd : ns.drop s.n = n :: ns.drop (s.n + 1)) (hb : okB n = true) (hk : n.kind = 5) (hι : ι = cnt n.shp) (hj : j < ι)
    (ht : parK (par e) j (ns.drop (s.n + 1)) = some t) (hw : w.n = s.n + 1 + t.n ∧ w.i = s.i + ι + t.i) (h : addR e w ns = none) : addR (e + 1) s ns = none := by
  have hkc : kc n = ι := by simp only [kc]; rw [if_pos hk, hι]
  have hdd : (ns.drop (s.n + 1)).drop t.n = ns.drop w.n := by rw [List.drop_drop, hw.1]
  unfold addR
  rw [hd, par_cons, if_pos hb, hkc]
  cases hp : parK (par e) ι (ns.drop (s.n + 1)) with
  | none => rfl
  | some u =>
    rw [Option.map_some, Option.bind_some, if_neg]
    obtain ⟨a, ha, _, hai, _⟩ := parK_to hp (j + 1) (by omega)
    obtain ⟨t', b, ht', hb', rfl⟩ := parK_some ha
    rw [ht] at ht'
    cases ht'
    rw [hdd] at hb'
    unfold addR at h
    rw [hb', Option.bind_some] at h
    have : ¬ w.i + b.i ≤ 1048576 := fun hc => by rw [if_pos hc] at h; cases h
    simp only [top, St.plus] at hai ⊢
    omega
theorem addR_some {e : Nat} {s t : St} {ns : List Nd} (h : addR e s ns = some t) : par e (ns.drop s.n) = some t ∧ s.i + t.i ≤ 1048576 := by
  unfold addR at h
  cases hp : par e (ns.drop s.n) with
  | none => simp [hp] at h
  | some u =>
    simp only [hp, Option.bind_some] at h
    split at h
    · cases h; exact ⟨rfl, by assumption⟩
    · cases h
theorem max_is (a b : Nat) : (if ((a : Nat) : Int) < ((b : Nat) : Int) then ((b : Nat) : Int) else ((a : Nat) : Int)) = ((max a b : Nat) : Int) := by split <;> omega
theorem max_is' (a b : Nat) : (if a < b then ((b : Nat) : Int) else ((a : Nat) : Int)) = ((max a b : Nat) : Int) := by split <;> omega

set_option maxRecDepth 10000 in
set_option maxHeartbeats 3200000 in
theorem add_any : ∀ (e D g : Nat) (s : St) (A : Option Addr) (n c : Nat) (ns : List Nd) (w : World), D + e = 17 → 1 ≤ D → ns.length = n → n ≤ 1100000 → s.n ≤ n → s.i ≤ 1048576 → s.d ≤ 16 → s.r ≤ 1100000 → Fits ns → StAt w g s → Nodes w g A ns →
    Calls Tryz.prog 112 #[.pointer (some ⟨g, 0, none⟩), .slice A n c, .int .i64 (D : Nat)] w (AddP e D s g ns w) := by
  intro e
  induction e with
  | zero =>
    intro D g s A n c ns w hD hD1 hn hnb hsn hsi hsd hsr hf hst hns
    obtain rfl : D = 17 := by omega
    have c0 := hst.at0
    clear hst hns
    by_cases hE : s.n = n
    · rw [hE] at c0
      go_enter Tryz.func112, Tryz.ntmps112
      go_wp2
      go_ret
      exact AddP.no addR_zero (Below.refl _ _)
    · have hE' : (((s.n : Nat) : Int) == ((n : Nat) : Int)) = false := by simp; omega
      clear hE hsn
      go_enter Tryz.func112, Tryz.ntmps112
      go_wp2
      go_ret
      exact AddP.no addR_zero (Below.refl _ _)
  | succ e ih =>
    intro D g s A n c ns w hD hD1 hn hnb hsn hsi hsd hsr hf hst hns
    have c0 := hst.at0
    have HST := Lib.hid hst
    have HNS := Lib.hid hns
    have HN := Lib.hid hn
    have HF := Lib.hid hf
    have IH := Lib.hid ih
    clear ih hst hns hn hf
    have hD16 : ¬ (16 : Int) < ((D : Nat) : Int) := by omega
    by_cases hE : s.n = n
    · have HR := Lib.hid (addR_end (e := e + 1) (s := s) (ns := ns) (by rw [HN.out]; exact hE))
      rw [hE] at c0
      go_enter Tryz.func112, Tryz.ntmps112
      go_wp2
      go_ret
      exact AddP.no HR.out (Below.refl _ _)
    have hlt : s.n < n := by omega
    have hE' : (((s.n : Nat) : Int) == ((n : Nat) : Int)) = false := by simp; omega
    clear hE
    have hl : s.n < ns.length := by rw [HN.out]; exact hlt
    have HBAD := Lib.hid (addR_bad (e := e) (s := s) (ns := ns) hl)
    have HMUCH := Lib.hid (addR_much (e := e) (s := s) (ns := ns) hl)
    have HLEAF := Lib.hid (addR_leaf (e := e) (s := s) (ns := ns) hl)
    have HDROP := Lib.hid (drop_nd hl)
    have HFIT := Lib.hid (HF.out.at_ s.n)
    obtain ⟨b, off, rfl, hb, hat⟩ := HNS.out (by omega)
    obtain ⟨A1, c1, A2, c2, A3, c3, q0, q1, q2, q3, hnd⟩ := hat s.n hl
    have HND := Lib.hid hnd
    clear hat hnd hl
    generalize hnode : ns.getD s.n nd0 = nd at *
    clear hnode
    have HIT := Lib.hid (fun W h => itemsOf_any nd A1 A2 A3 c1 c2 c3 W HFIT.out h)
    obtain ⟨β, hβ⟩ : ∃ β, okB nd = β := ⟨_, rfl⟩
    obtain ⟨ι, hι⟩ : ∃ ι, itm nd = ι := ⟨_, rfl⟩
    have hιb : ι ≤ 1048576 := hι ▸ itm_le nd
    rw [hβ, hι] at HIT
    have HB := Lib.hid hβ
    have HI := Lib.hid hι
    clear hβ hι
    have hr1 := HFIT.out.2.1
    have HLT := Lib.hid HST.out.lt
    have HBG := Lib.hid hb
    clear hb
    obtain ⟨sn, si, sd, sr⟩ := s
    dsimp only at *
    go_enter Tryz.func112, Tryz.ntmps112
    go_wp2_with fail
    refine (HIT.out _ ((HND.out.more (Nat.le_of_lt HLT.out)).grow (grow_new _ _))).mono ?_
    rintro x w2 ⟨rfl, hw2⟩
    have HG2 := Lib.hid ((grow_new w _).trans hw2)
    have HBX := Lib.hid ((boxN_new w nd.kind A1 nd.shp.length c1 A2 nd.ints.length c2 A3 nd.decs.length c3).grow hw2)
    have hs2 := HST.out.grow HG2.out
    have r0 := hs2.at0
    have r1 := hs2.at1
    have r2 := hs2.at2
    have r3 := hs2.at3
    have f0 := hs2.froz 0
    have f1 := hs2.froz 1
    have f2 := hs2.froz 2
    have f3 := hs2.froz 3
    have HS2 := Lib.hid hs2
    have HBel := Lib.hid (Below.mono HG2.out (Nat.le_of_lt HLT.out))
    dsimp only at r0 r1 r2 r3
    clear hs2 hw2 HIT c0 q0 q1 q2 q3
    cases β with
    | false =>
      have HR := Lib.hid (HBAD.out HB.out)
      clear HBAD HMUCH HLEAF
      go_wp2
      go_ret
      exact AddP.no HR.out HBel.out
    | true =>
      have hιc : Hid (ι = cnt nd.shp) := Lib.hid (by rw [← HI.out]; unfold itm; rw [if_pos HB.out])
      by_cases hmuch : 1048576 < si + ι
      · have HR := Lib.hid (HMUCH.out (by rw [← hιc.out]; exact hmuch))
        clear HBAD HMUCH HLEAF
        have hmi : (1048576 : Int) < ((si : Nat) : Int) + ((ι : Nat) : Int) := by omega
        go_wp2
        go_ret
        exact AddP.no HR.out HBel.out
      have hmi : decide ((1048576 : Int) < ((si : Nat) : Int) + ((ι : Nat) : Int)) = false := decide_eq_false (by omega)
      have hmx := max_is sd D
      have hmx' := max_is' sd D
      generalize hM : max sd D = M at hmx hmx'
      have HM := Lib.hid hM
      clear hM
      have b0 := HBX.out.at0
      have b1 := HBX.out.at1
      clear HBAD HMUCH
      go_wp2
      generalize hw3 : ((w2.setCell ⟨g, 0, none⟩ (.int .i64 (((sn : Nat) : Int) + 1))).setCell ⟨g, 1, none⟩ (.int .i64 (((si : Nat) : Int) + ((ι : Nat) : Int)))).setCell ⟨g, 2, none⟩ (.int .i64 ((M : Nat) : Int)) = w3
      have HS3 : Hid (StAt w3 g ⟨sn + 1, si + ι, M, sr⟩) := Lib.hid (by rw [← hw3]; exact ((HS2.out.put0 (sn + 1)).put1 (si + ι)).put2 M)
      have HB3 : Hid (Below g w w3) := Lib.hid (by rw [← hw3]; exact Below.setCell (Below.setCell (Below.setCell HBel.out (Nat.le_refl _) _) (Nat.le_refl _) _) (Nat.le_refl _) _)
      have HX3 : Hid (BoxN w3 w.heap.size nd.kind A1 nd.shp.length c1 A2 nd.ints.length c2 A3 nd.decs.length c3) := Lib.hid (by
        have hne : w.heap.size ≠ g := by have := HLT.out; omega
        rw [← hw3]
        refine (heap_setCell_other _ _ _ _ (show w.heap.size ≠ g from hne)).trans ?_
        refine (heap_setCell_other _ _ _ _ (show w.heap.size ≠ g from hne)).trans ?_
        exact (heap_setCell_other _ _ _ _ (show w.heap.size ≠ g from hne)).trans HBX.out)
      have HZ3 : Hid (w.heap.size ≤ w3.heap.size) := Lib.hid HB3.out.size
      clear hw3 r0 r1 r2 r3 f0 f1 f2 f3 b0 b1 HS2 HBX hmx hmx'
      have r3 := HS3.out.at3
      have f3 := HS3.out.froz 3
      dsimp only at r3
      have b0 := HX3.out.at0
      have b1 := HX3.out.at1
      have hne : ¬ w.heap.size = g := by have := HLT.out; omega
      generalize hl1 : nd.shp.length = l1 at *
      have hmx := max_is sr l1
      have hmx' := max_is' sr l1
      generalize hR : max sr l1 = R at hmx hmx'
      have HR := Lib.hid hR
      clear hR
      go_region
      generalize hw4 : (w3.setCell ⟨g, 3, none⟩ (.int .i64 ((R : Nat) : Int))).drew = w4
      have HS4 : Hid (StAt w4 g ⟨sn + 1, si + ι, M, R⟩) := Lib.hid (by rw [← hw4]; exact HS3.out.put3 R)
      have HB4 : Hid (Below g w w4) := Lib.hid (by rw [← hw4]; exact (Below.setCell HB3.out (Nat.le_refl _) _).drew)
      have q0 : w4.cell? ⟨w.heap.size, 0, none⟩ = some (.int .i64 nd.kind) := by
        rw [← hw4]
        have hx : BoxN (w3.setCell ⟨g, 3, none⟩ (.int .i64 ((R : Nat) : Int))).drew w.heap.size nd.kind A1 l1 c1 A2 nd.ints.length c2 A3 nd.decs.length c3 := (heap_setCell_other w3 _ _ _ (show w.heap.size ≠ g from hne)).trans HX3.out
        exact hx.at0
      clear hw4 HS3 HB3 HX3 HZ3 r3 f3 b0 b1 hmx hmx' hne
      have HL1 := Lib.hid hl1
      clear hl1
      by_cases hk : nd.kind = 5
      · rw [hk] at q0
        have HK := Lib.hid hk
        clear hk
        have HNO := Lib.hid (fun j t W (hj : j < ι) ht hw h => addR_nest_no (e := e) (s := ⟨sn, si, sd, sr⟩) (w := W) (j := j) (t := t) HDROP.out HB.out HK.out hιc.out hj ht hw h)
        have HYES := Lib.hid (fun t ht hi => addR_nest (e := e) (s := ⟨sn, si, sd, sr⟩) (t := t) HDROP.out HB.out HK.out hιc.out ht hi)
        clear HLEAF HDROP
        go_wp2
        go_loopg [83] ι (fun gk s83 wr => ∃ (j : Nat) (t : St), j ≤ ι ∧ gk = ι - j ∧ s83 = .int .i64 (j : Nat) ∧ Hid (parK (par e) j (ns.drop (sn + 1)) = some t) ∧ Hid (si + ι + t.i ≤ 1048576) ∧
          Hid (StAt wr g ⟨sn + 1 + t.n, si + ι + t.i, max M (D + t.d), max R t.r⟩) ∧ Hid (Below g w wr))
        case atStart =>
          refine ⟨0, st0, Nat.zero_le _, rfl, rfl, Lib.hid rfl, Lib.hid (by simp only [st0]; omega), Lib.hid ?_, HB4⟩
          have e1 : (⟨sn + 1 + st0.n, si + ι + st0.i, max M (D + st0.d), max R st0.r⟩ : St) = ⟨sn + 1, si + ι, M, R⟩ := by
            have := HM.out
            simp only [st0, St.mk.injEq]
            refine ⟨?_, ?_, ?_, ?_⟩ <;> first | trivial | omega
          rw [e1]
          exact HS4.out
        case round =>
          obtain ⟨j, t, hj, rfl, rfl, HP, HI2, HS, HBB⟩ := hrel
          by_cases hjl : j < ι
          · have hji : ((j : Nat) : Int) < ((ι : Nat) : Int) := by omega
            have hlen := parK_len (fun l s h => (par_len h).2.1) HP.out
            rw [List.length_drop, HN.out] at hlen
            have hdeep := parK_deep (fun l s h => (par_len h).2.2.2) HP.out
            have hrank := parK_rank (fun l s h => par_rank h) HP.out
            have HC := Lib.hid (IH.out (D + 1) g ⟨sn + 1 + t.n, si + ι + t.i, max M (D + t.d), max R t.r⟩ (some ⟨b, off, none⟩) n c ns wr (by omega) (by omega) HN.out hnb (by show sn + 1 + t.n ≤ n; omega) HI2.out
              (by have := HM.out; show max M (D + t.d) ≤ 16; omega) (by have := HR.out; show max R t.r ≤ 1100000; omega) HF.out HS.out (HNS.out.below HBB.out))
            cases ha : addR e ⟨sn + 1 + t.n, si + ι + t.i, max M (D + t.d), max R t.r⟩ ns with
            | none =>
              have HNO' := Lib.hid (HNO.out j t _ hjl HP.out ⟨rfl, rfl⟩ ha)
              have HA := Lib.hid ha
              clear ha hlen hdeep hrank
              go_wp2_with fail
              refine (HC.out).mono ?_
              rintro x w5 ⟨hbel, hx⟩
              rw [HA.out] at hx
              subst hx
              have HB5 := Lib.hid (HBB.out.trans hbel)
              clear hbel HC
              go_wp2
              go_ret
              exact AddP.no HNO'.out HB5.out
            | some t' =>
              have HA := Lib.hid ha
              clear ha hlen hdeep hrank
              go_wp2_with fail
              refine (HC.out).mono ?_
              rintro x w5 ⟨hbel, hx⟩
              rw [HA.out] at hx
              obtain ⟨rfl, hs5⟩ := hx
              have HB5 := Lib.hid (HBB.out.trans hbel)
              have HS5 := Lib.hid hs5
              clear hbel HC hs5
              go_wp2
              go_roundg (ι - (j + 1))
              case rel =>
                obtain ⟨hp', hi'⟩ := addR_some HA.out
                refine ⟨j + 1, t.plus t', by omega, rfl, by go_num, Lib.hid (parK_mk HP.out (by rw [List.drop_drop]; exact hp')), Lib.hid (by simp only [St.plus]; dsimp only at hi'; omega), Lib.hid ?_, HB5⟩
                have e1 : (⟨sn + 1 + (t.plus t').n, si + ι + (t.plus t').i, max M (D + (t.plus t').d), max R (t.plus t').r⟩ : St) = adv (D + 1) ⟨sn + 1 + t.n, si + ι + t.i, max M (D + t.d), max R t.r⟩ t' := by
                  simp only [adv, St.plus, St.mk.injEq]
                  omega
                rw [e1]
                exact HS5.out
              case measure => omega
          · obtain rfl : j = ι := by omega
            go_wp2
            go_ret
            refine AddP.yes (HYES.out t HP.out HI2.out) HBB.out ?_
            have e1 : adv D ⟨sn, si, sd, sr⟩ (top nd t) = ⟨sn + 1 + t.n, si + j + t.i, max M (D + t.d), max R t.r⟩ := by
              have := HM.out
              have := HR.out
              have := HL1.out
              have := hιc.out
              simp only [adv, top, St.mk.injEq]
              omega
            rw [e1]
            exact HS.out
      · have hkb : (nd.kind != 5) = true := by simpa using hk
        have HL := Lib.hid (HLEAF.out HB.out hk (by rw [← hιc.out]; omega))
        clear HLEAF
        go_wp2
        go_ret
        refine AddP.yes HL.out HB4.out ?_
        have e1 : adv D ⟨sn, si, sd, sr⟩ ⟨1, cnt nd.shp, 1, l1⟩ = ⟨sn + 1, si + ι, M, R⟩ := by
          have := HM.out
          have := HR.out
          have := hιc.out
          simp only [adv, St.mk.injEq]
          refine ⟨?_, ?_, ?_, ?_⟩ <;> first | trivial | omega
        rw [e1]
        exact HS4.out
end Go.Proofs.YteoogioanjkacaaGreatDoor
namespace Go.Proofs.YteoogioanjkacaaGreatDoor
set_option maxRecDepth 20000
open Go.RowKit Go.Lib
set_option linter.unusedSimpArgs false
set_option linter.unusedVariables false
def SaysS (s : St) (β : Bool) (w : World) (e : Ending) (w' : World) : Prop :=
  e = .returned (.tuple #[.agg #[.int .i64 (s.n : Nat), .int .i64 (s.i : Nat), .int .i64 (s.d : Nat), .int .i64 (s.r : Nat)], .bool β]) ∧ Grow w w'
theorem addR_first (ns : List Nd) : addR 16 st0 ns = fstD ns := by
  unfold addR fstD
  simp [st0]
theorem adv_first (t : St) : adv 1 st0 t = t := by
  obtain ⟨a, b, c, d⟩ := t
  simp only [adv, st0, St.mk.injEq]
  refine ⟨?_, ?_, ?_, ?_⟩ <;> omega

set_option maxRecDepth 10000 in
set_option maxHeartbeats 1600000 in
theorem first_any (A : Option Addr) (n c : Nat) (ns : List Nd) (w : World) (hn : ns.length = n) (hnb : n ≤ 1100000) (hf : Fits ns) (hns : Nodes w w.heap.size A ns) :
    Calls Tryz.prog 74 #[.slice A n c] w (SaysS (fs ns) (fstD ns).isSome w) := by
  let wA := (w.alloc (.cells #[.int .i64 0, .int .i64 0, .int .i64 0, .int .i64 0] 101)).alloc (.cells #[.int .i64 0, .int .i64 0, .int .i64 0, .int .i64 0] 101)
  have HG := Lib.hid (show Grow w wA from grow_new2 _ _ _)
  have hsz : wA.heap.size = w.heap.size + 2 := by simp [wA]
  have HST : Hid (StAt wA (w.heap.size + 1) st0) := Lib.hid (by
    have h := heap_alloc_new (w.alloc (.cells #[.int .i64 0, .int .i64 0, .int .i64 0, .int .i64 0] 101)) (.cells #[.int .i64 0, .int .i64 0, .int .i64 0, .int .i64 0] 101)
    have e1 : (w.alloc (.cells #[.int .i64 0, .int .i64 0, .int .i64 0, .int .i64 0] 101)).heap.size = w.heap.size + 1 := by simp
    rw [e1] at h
    exact h)
  have HX : Hid (StAt wA w.heap.size st0) := Lib.hid (StAt.grow (show StAt (w.alloc (.cells #[.int .i64 0, .int .i64 0, .int .i64 0, .int .i64 0] 101)) w.heap.size st0 from heap_alloc_new w _) (grow_new _ _))
  have HC := Lib.hid (add_any 16 1 (w.heap.size + 1) st0 A n c ns wA (by omega) (by omega) hn hnb (by simp [st0]) (by simp [st0]) (by simp [st0]) (by simp [st0]) hf HST.out ((hns.below HG.out).more (by omega)))
  have HSZ := Lib.hid hsz
  clear hn hf hns hsz
  go_enter Tryz.func74, Tryz.ntmps74
  go_wp2_with fail
  refine (HC.out).mono ?_
  rintro x w2 ⟨hbel, hx⟩
  rw [addR_first] at hx
  have HG2 : Hid (Grow w w2) := Lib.hid (Below.trans HG.out (Below.mono hbel (by omega)))
  have hx2 : StAt w2 w.heap.size st0 := (hbel.block w.heap.size (by omega)).trans HX.out
  have r0 := hx2.at0
  have r1 := hx2.at1
  have r2 := hx2.at2
  have r3 := hx2.at3
  have f0 := hx2.froz 0
  have f1 := hx2.froz 1
  have f2 := hx2.froz 2
  have f3 := hx2.froz 3
  have HX2 := Lib.hid hx2
  clear hx2 hbel HC HG HST HX HSZ
  cases hfs : fstD ns with
  | none =>
    rw [hfs] at hx
    dsimp only at hx
    subst hx
    have HFS := Lib.hid (fs_none hfs)
    have HFN := Lib.hid hfs
    clear hfs
    simp only [st0] at r0 r1 r2 r3
    go_wp2
    generalize hw3 : World.setCell _ _ _ = w3
    have hs3 : StAt w3 w.heap.size ⟨0, 0, 0, 0⟩ := by rw [← hw3]; exact (((HX2.out.put0 0).put1 0).put2 0).put3 0
    have HG3 := Lib.hid (show Grow w w3 by rw [← hw3]; exact (((HG2.out.put (Nat.le_refl _) 0 _).put (Nat.le_refl _) 1 _).put (Nat.le_refl _) 2 _).put (Nat.le_refl _) 3 _)
    have c0 := hs3.at0
    have c1 := hs3.at1
    have c2 := hs3.at2
    have c3 := hs3.at3
    exact bodyPost_ret (v := .tuple #[.agg #[.int .i64 0, .int .i64 0, .int .i64 0, .int .i64 0], .bool false]) (by simp [results, Tryz.results74, go_sem, c0, c1, c2, c3]) rfl ⟨by rw [HFS.out, HFN.out]; rfl, HG3.out⟩
  | some t =>
    rw [hfs] at hx
    dsimp only at hx
    obtain ⟨rfl, hs⟩ := hx
    rw [adv_first] at hs
    have g0 := hs.at0
    have g1 := hs.at1
    have g2 := hs.at2
    have g3 := hs.at3
    have HFS := Lib.hid (fs_some hfs)
    have HFN := Lib.hid hfs
    clear hfs
    go_wp2
    generalize hw3 : World.setCell _ _ _ = w3
    have hs3 : StAt w3 w.heap.size t := by rw [← hw3]; exact (((HX2.out.put0 t.n).put1 t.i).put2 t.d).put3 t.r
    have HG3 := Lib.hid (show Grow w w3 by rw [← hw3]; exact (((HG2.out.put (Nat.le_refl _) 0 _).put (Nat.le_refl _) 1 _).put (Nat.le_refl _) 2 _).put (Nat.le_refl _) 3 _)
    have c0 := hs3.at0
    have c1 := hs3.at1
    have c2 := hs3.at2
    have c3 := hs3.at3
    exact bodyPost_ret (v := .tuple #[.agg #[.int .i64 (t.n : Nat), .int .i64 (t.i : Nat), .int .i64 (t.d : Nat), .int .i64 (t.r : Nat)], .bool true]) (by simp [results, Tryz.results74, go_sem, c0, c1, c2, c3]) rfl ⟨by rw [HFS.out, HFN.out]; rfl, HG3.out⟩

set_option maxRecDepth 10000 in
set_option maxHeartbeats 1600000 in
theorem whole_any (A : Option Addr) (n c : Nat) (ns : List Nd) (w : World) (hn : ns.length = n) (hnb : n ≤ 1100000) (hf : Fits ns) (hns : Nodes w w.heap.size A ns) :
    Calls Tryz.prog 73 #[.slice A n c] w (SaysS (ws ns) (rightA ns) w) := by
  have HC := Lib.hid (fun W h => first_any A n c ns W hn hnb hf h)
  have HNS := Lib.hid hns
  have HN := Lib.hid hn
  clear hn hf hns
  have HZ : Hid (∀ W, Grow (w.alloc (.cells #[.int .i64 0, .int .i64 0, .int .i64 0, .int .i64 0] 101)) W → StAt W w.heap.size st0) :=
    Lib.hid (fun W hg => StAt.grow (show StAt (w.alloc (.cells #[.int .i64 0, .int .i64 0, .int .i64 0, .int .i64 0] 101)) w.heap.size st0 from heap_alloc_new w _) hg)
  have HK : Hid (((fstD ns).isSome = false ∧ fs ns = st0 ∧ ws ns = st0 ∧ rightA ns = false) ∨ ((fstD ns).isSome = true ∧ (fs ns).n < n ∧ ws ns = st0 ∧ rightA ns = false) ∨ ((fstD ns).isSome = true ∧ (fs ns).n = n ∧ ws ns = fs ns ∧ rightA ns = true)) := Lib.hid (by
    cases hfs : fstD ns with
    | none =>
      have hw : whlD ns = none := by unfold whlD; rw [hfs]; rfl
      exact .inl ⟨rfl, fs_none hfs, ws_none hw, by unfold rightA; rw [hw]; rfl⟩
    | some t =>
      have hl := (par_len (fst_some hfs).1).2.1
      rw [HN.out] at hl
      by_cases he : t.n = n
      · have hw : whlD ns = some t := whl_mk (fst_some hfs).1 (fst_some hfs).2 (by rw [HN.out]; exact he)
        exact .inr (.inr ⟨rfl, by rw [fs_some hfs]; exact he, by rw [ws_some hw, fs_some hfs], by unfold rightA; rw [hw]; rfl⟩)
      · have hw : whlD ns = none := by unfold whlD; rw [hfs, Option.bind_some, if_neg (by rw [HN.out]; exact he)]
        exact .inr (.inl ⟨rfl, by rw [fs_some hfs]; omega, ws_none hw, by unfold rightA; rw [hw]; rfl⟩))
  have hfb : (fs ns).n ≤ n := by rcases HK.out with ⟨_, h, _⟩ | ⟨_, h, _⟩ | ⟨_, h, _⟩ <;> first | omega | (rw [h]; exact Nat.zero_le _)
  generalize (fstD ns).isSome = β at *
  generalize fs ns = s at *
  generalize ws ns = z at *
  generalize rightA ns = γ at *
  obtain ⟨p, q, u, v⟩ := s
  dsimp only at HK HC hfb
  go_enter Tryz.func73, Tryz.ntmps73
  go_wp2_with fail
  refine (HC.out _ (HNS.out.grow (grow_new _ _))).mono ?_
  rintro x w2 ⟨rfl, hg⟩
  have HX2 := Lib.hid ((HZ.out _ hg).grow (grow_new w2 (.cells #[.int .i64 (p : Nat), .int .i64 (q : Nat), .int .i64 (u : Nat), .int .i64 (v : Nat)] 101)))
  have HX3 := Lib.hid (show StAt (w2.alloc (.cells #[.int .i64 (p : Nat), .int .i64 (q : Nat), .int .i64 (u : Nat), .int .i64 (v : Nat)] 101)) w2.heap.size ⟨p, q, u, v⟩ from heap_alloc_new w2 _)
  have HG2 := Lib.hid (((grow_new w _).trans hg).trans (grow_new w2 (.cells #[.int .i64 (p : Nat), .int .i64 (q : Nat), .int .i64 (u : Nat), .int .i64 (v : Nat)] 101)))
  have hne : ¬ w2.heap.size = w.heap.size := by have := HZ.out _ hg; have := this.lt; omega
  have hne' : ¬ w.heap.size = w2.heap.size := fun h => hne h.symm
  clear hg HC HZ
  have r0 := HX2.out.at0
  have r1 := HX2.out.at1
  have r2 := HX2.out.at2
  have r3 := HX2.out.at3
  have f0 := HX2.out.froz 0
  have f1 := HX2.out.froz 1
  have f2 := HX2.out.froz 2
  have f3 := HX2.out.froz 3
  rcases HK.out with ⟨rfl, hs, rfl, rfl⟩ | ⟨rfl, hs, rfl, rfl⟩ | ⟨rfl, hs, rfl, rfl⟩
  · clear hs HK
    go_wp2
    generalize hw3 : World.setCell _ _ _ = w3
    have hs3 : StAt w3 w.heap.size ⟨0, 0, 0, 0⟩ := by rw [← hw3]; exact (((HX2.out.put0 0).put1 0).put2 0).put3 0
    have HG3 := Lib.hid (show Grow w w3 by rw [← hw3]; exact (((HG2.out.put (Nat.le_refl _) 0 _).put (Nat.le_refl _) 1 _).put (Nat.le_refl _) 2 _).put (Nat.le_refl _) 3 _)
    have c0 := hs3.at0
    have c1 := hs3.at1
    have c2 := hs3.at2
    have c3 := hs3.at3
    exact bodyPost_ret (v := .tuple #[.agg #[.int .i64 0, .int .i64 0, .int .i64 0, .int .i64 0], .bool false]) (by simp [results, Tryz.results73, go_sem, c0, c1, c2, c3]) rfl ⟨rfl, HG3.out⟩
  · have hsi : ((p : Nat) : Int) < ((n : Nat) : Int) := by omega
    have g0 := HX3.out.at0
    clear hs HK
    dsimp only at g0
    go_wp2
    generalize hw3 : World.setCell _ _ _ = w3
    have hs3 : StAt w3 w.heap.size ⟨0, 0, 0, 0⟩ := by rw [← hw3]; exact (((HX2.out.put0 0).put1 0).put2 0).put3 0
    have HG3 := Lib.hid (show Grow w w3 by rw [← hw3]; exact (((HG2.out.put (Nat.le_refl _) 0 _).put (Nat.le_refl _) 1 _).put (Nat.le_refl _) 2 _).put (Nat.le_refl _) 3 _)
    have c0 := hs3.at0
    have c1 := hs3.at1
    have c2 := hs3.at2
    have c3 := hs3.at3
    exact bodyPost_ret (v := .tuple #[.agg #[.int .i64 0, .int .i64 0, .int .i64 0, .int .i64 0], .bool false]) (by simp [results, Tryz.results73, go_sem, c0, c1, c2, c3]) rfl ⟨rfl, HG3.out⟩
  · subst hs
    have hsi : ¬ ((p : Nat) : Int) < ((p : Nat) : Int) := by omega
    have g0 := HX3.out.at0
    have g1 := HX3.out.at1
    have g2 := HX3.out.at2
    have g3 := HX3.out.at3
    clear HK
    dsimp only at g0 g1 g2 g3
    go_wp2
    generalize hw3 : World.setCell _ _ _ = w3
    have hs3 : StAt w3 w.heap.size ⟨p, q, u, v⟩ := by rw [← hw3]; exact (((HX2.out.put0 p).put1 q).put2 u).put3 v
    have HG3 := Lib.hid (show Grow w w3 by rw [← hw3]; exact (((HG2.out.put (Nat.le_refl _) 0 _).put (Nat.le_refl _) 1 _).put (Nat.le_refl _) 2 _).put (Nat.le_refl _) 3 _)
    have c0 := hs3.at0
    have c1 := hs3.at1
    have c2 := hs3.at2
    have c3 := hs3.at3
    exact bodyPost_ret (v := .tuple #[.agg #[.int .i64 (p : Nat), .int .i64 (q : Nat), .int .i64 (u : Nat), .int .i64 (v : Nat)], .bool true]) (by simp [results, Tryz.results73, go_sem, c0, c1, c2, c3]) rfl ⟨rfl, HG3.out⟩

def Ret (v : Value) (w : World) (e : Ending) (w' : World) : Prop := e = .returned v ∧ Grow w w'

set_option maxRecDepth 10000 in
theorem aright_any (A : Option Addr) (n c : Nat) (ns : List Nd) (w : World) (hn : ns.length = n) (hnb : n ≤ 1100000) (hf : Fits ns) (hns : Nodes w w.heap.size A ns) :
    Calls Tryz.prog 34 #[.slice A n c] w (Ret (.bool (rightA ns)) w) := by
  have HC := Lib.hid (whole_any A n c ns w hn hnb hf hns)
  clear hn hf hns
  generalize ws ns = s at *
  generalize rightA ns = β at *
  obtain ⟨p, q, u, v⟩ := s
  try dsimp only
  go_enter Tryz.func34, Tryz.ntmps34
  go_wp2_with fail
  refine (HC.out).mono ?_
  rintro x w2 ⟨rfl, hg⟩
  have HG := Lib.hid (hg.trans (grow_new w2 (.cells #[.int .i64 (p : Nat), .int .i64 (q : Nat), .int .i64 (u : Nat), .int .i64 (v : Nat)] 101)))
  clear hg HC
  go_wp2
  go_ret
  exact ⟨rfl, HG.out⟩

end Go.Proofs.YteoogioanjkacaaGreatDoor
section
namespace Go.Proofs.YteoogioanjkacaaGreatDoor
set_option maxRecDepth 20000
open Go.RowKit Go.Lib
set_option linter.unusedSimpArgs false
set_option linter.unusedVariables false
def holdB1 (m : Nat) (kid : List Nd) : Bool := rightA kid && (decide ((ws kid).d < 16) && decide (m + (ws kid).i ≤ 1048576))
def holdK : Nat → List (List Nd) → Bool
  | _, [] => true
  | m, k :: ks => holdB1 m k && holdK (m + (ws k).i) ks
def isum : List (List Nd) → Nat
  | [] => 0
  | k :: ks => (ws k).i + isum ks
theorem ws_le (ns : List Nd) : (ws ns).i ≤ 1048576 := by
  cases h : whlD ns with
  | none => rw [ws_none h]; simp [st0]
  | some s => rw [ws_some h]; exact (whl_some h).2.1
/-- the int stands in a block of its own -/
def IntAt (w : World) (b : Nat) (m : Nat) : Prop := w.heap[b]? = some (.cells #[.int .i64 (m : Nat)] 3 (0, 0))
theorem IntAt.grow {w w' : World} {b m : Nat} (h : IntAt w b m) (hg : Grow w w') : IntAt w' b m := (hg.block b (heap_lt h)).trans h
theorem KidsAt.below {w w' : World} {B : Nat} {A : Option Addr} {ks : List (List Nd)} (h : KidsAt w B A ks) (hg : Below B w w') : KidsAt w' B A ks := fun hn => by
  obtain ⟨b, off, e, hb, hc⟩ := h hn
  refine ⟨b, off, e, hb, fun i hi => ?_⟩
  obtain ⟨A', c', h1, h2, h3⟩ := hc i hi
  exact ⟨A', c', (hg.cell (p := ⟨b, off + i, none⟩) hb).trans h1, h2, h3.below hg⟩
theorem KidsAt.more {w : World} {B B' : Nat} {A : Option Addr} {ks : List (List Nd)} (h : KidsAt w B A ks) (hB : B ≤ B') : KidsAt w B' A ks := fun hn => by
  obtain ⟨b, off, e, hb, hc⟩ := h hn
  refine ⟨b, off, e, by omega, fun i hi => ?_⟩
  obtain ⟨A', c', h1, h2, h3⟩ := hc i hi
  exact ⟨A', c', h1, h2, h3.more hB⟩
end Go.Proofs.YteoogioanjkacaaGreatDoor
end
section
namespace Go.Proofs.YteoogioanjkacaaGreatDoor
open Go.RowKit Go.Lib
set_option linter.unusedSimpArgs false
set_option linter.unusedVariables false
/-- rows that fit: none too great -/
def FitK (ks : List (List Nd)) : Prop := ∀ k ∈ ks, k.length ≤ 1100000 ∧ Fits k
theorem FitK.at_ {ks : List (List Nd)} (h : FitK ks) {k : Nat} (hk : k < ks.length) : (ks.getD k []).length ≤ 1100000 ∧ Fits (ks.getD k []) := by
  rw [show ks.getD k [] = ks[k] by simp [List.getD, hk]]
  exact h _ (List.getElem_mem hk)
end Go.Proofs.YteoogioanjkacaaGreatDoor
end
section
namespace Go.Proofs.YteoogioanjkacaaGreatDoor
open Go.RowKit Go.Lib
set_option linter.unusedSimpArgs false
set_option linter.unusedVariables false
/-- these cells are the nodes ns, whose rows lie below block B -/
def RawN (w : World) (B : Nat) (vals : List Value) (ns : List Nd) : Prop :=
  vals.length = ns.length * 4 ∧ ∀ i, i < ns.length → ∃ A1 c1 A2 c2 A3 c3, vals[i * 4]? = some (.int .i64 (ns.getD i nd0).kind) ∧ vals[i * 4 + 1]? = some (.slice A1 (ns.getD i nd0).shp.length c1) ∧
    vals[i * 4 + 2]? = some (.slice A2 (ns.getD i nd0).ints.length c2) ∧ vals[i * 4 + 3]? = some (.slice A3 (ns.getD i nd0).decs.length c3) ∧ IsNd w B A1 A2 A3 (ns.getD i nd0)
section
variable {w w' : World} {B B' : Nat} {vals us : List Value} {ns ms : List Nd}
theorem RawN.nil : RawN w B [] [] := ⟨rfl, fun i hi => absurd hi (by simp)⟩
theorem RawN.below (h : RawN w B vals ns) (hg : Below B w w') : RawN w' B vals ns := ⟨h.1, fun i hi => by
  obtain ⟨A1, c1, A2, c2, A3, c3, h0, h1, h2, h3, h4⟩ := h.2 i hi
  exact ⟨A1, c1, A2, c2, A3, c3, h0, h1, h2, h3, h4.below hg⟩⟩
theorem RawN.more (h : RawN w B vals ns) (hB : B ≤ B') : RawN w B' vals ns := ⟨h.1, fun i hi => by
  obtain ⟨A1, c1, A2, c2, A3, c3, h0, h1, h2, h3, h4⟩ := h.2 i hi
  exact ⟨A1, c1, A2, c2, A3, c3, h0, h1, h2, h3, h4.more hB⟩⟩
theorem RawN.app (h : RawN w B vals ns) (k : RawN w B us ms) : RawN w B (vals ++ us) (ns ++ ms) := by
  obtain ⟨hl, hh⟩ := h
  obtain ⟨kl, kh⟩ := k
  refine ⟨by rw [List.length_append, List.length_append, hl, kl]; omega, fun i hi => ?_⟩
  by_cases h : i < ns.length
  · have e : (ns ++ ms).getD i nd0 = ns.getD i nd0 := by simp [List.getD, List.getElem?_append_left h]
    rw [e]
    obtain ⟨A1, c1, A2, c2, A3, c3, h0, h1, h2, h3, h4⟩ := hh i h
    refine ⟨A1, c1, A2, c2, A3, c3, ?_, ?_, ?_, ?_, h4⟩
    all_goals (rw [List.getElem?_append_left (by omega)]; assumption)
  · rw [List.length_append] at hi
    have e : (ns ++ ms).getD i nd0 = ms.getD (i - ns.length) nd0 := by simp [List.getD, List.getElem?_append_right (Nat.le_of_not_lt h)]
    rw [e]
    obtain ⟨A1, c1, A2, c2, A3, c3, h0, h1, h2, h3, h4⟩ := kh (i - ns.length) (by omega)
    refine ⟨A1, c1, A2, c2, A3, c3, ?_, ?_, ?_, ?_, h4⟩
    · rw [List.getElem?_append_right (by omega), ← h0]; congr 1; omega
    · rw [List.getElem?_append_right (by omega), ← h1]; congr 1; omega
    · rw [List.getElem?_append_right (by omega), ← h2]; congr 1; omega
    · rw [List.getElem?_append_right (by omega), ← h3]; congr 1; omega
end
theorem ownsRow_grow {w w' : World} {base size n : Nat} {t : TypeId} {v : Value} {vals : List Value} (ho : w.ownsRow base t size v n vals) (hg : Grow w w') : w'.ownsRow base t size v n vals :=
  ⟨ho.1, by
    rcases ho.2 with h0 | ⟨g', cap', cur, hv, hbg, hgg, rest⟩
    · exact .inl h0
    · exact .inr ⟨g', cap', cur, hv, hbg, (hg.block g' (heap_lt hgg)).trans hgg, rest⟩⟩
end Go.Proofs.YteoogioanjkacaaGreatDoor
end
section
namespace Go.Proofs.YteoogioanjkacaaGreatDoor
open Go.RowKit Go.Lib
set_option linter.unusedSimpArgs false
set_option linter.unusedVariables false
def flatK : List (List Nd) → List Nd
  | [] => []
  | k :: ks => k ++ flatK ks
end Go.Proofs.YteoogioanjkacaaGreatDoor
end
section
namespace Go.Proofs.YteoogioanjkacaaGreatDoor
open Go.RowKit Go.Lib
set_option linter.unusedSimpArgs false
set_option linter.unusedVariables false
/-- node number i of a row, whose rows lie in blocks of T -/
def HeldN (T : Nat → Prop) (w : World) (f : Nat → Value) (i : Nat) (n : Nd) : Prop :=
  ∃ A1 c1 A2 c2 A3 c3, f (i * 4) = .int .i64 n.kind ∧ f (i * 4 + 1) = .slice A1 n.shp.length c1 ∧ f (i * 4 + 2) = .slice A2 n.ints.length c2 ∧ f (i * 4 + 3) = .slice A3 n.decs.length c3 ∧ NumsT T w A1 n.shp ∧ NumsT T w A2 n.ints ∧ DecsT T w A3 n.decs
/-- the row is block g, all else lies in blocks of T -/
def Held (T : Nat → Prop) (w : World) (g : Nat) (ns : List Nd) : Prop := ¬ T g ∧ ∃ f, w.rowIs g 34 (ns.length * 4) f ∧ ∀ i, i < ns.length → HeldN T w f i (ns.getD i nd0)
section
variable {T T' : Nat → Prop} {w w' : World} {g : Nat} {ns : List Nd}
theorem HeldN.keep {f f' : Nat → Value} {i : Nat} {n : Nd} (h : HeldN T w f i n) (hk : ∀ b, T b → T' b ∧ w'.heap[b]? = w.heap[b]?) (hf : ∀ j, i * 4 ≤ j → j < i * 4 + 4 → f' j = f j) : HeldN T' w' f' i n := by
  obtain ⟨A1, c1, A2, c2, A3, c3, h0, h1, h2, h3, n1, n2, n3⟩ := h
  exact ⟨A1, c1, A2, c2, A3, c3, by rw [hf _ (by omega) (by omega), h0], by rw [hf _ (by omega) (by omega), h1], by rw [hf _ (by omega) (by omega), h2], by rw [hf _ (by omega) (by omega), h3], n1.keep hk, n2.keep hk, n3.keep hk⟩
theorem Held.keep (h : Held T w g ns) (hg : ¬ T' g) (hk0 : w'.heap[g]? = w.heap[g]?) (hk : ∀ b, T b → T' b ∧ w'.heap[b]? = w.heap[b]?) : Held T' w' g ns := by
  obtain ⟨_, f, hr, hn⟩ := h
  exact ⟨hg, f, hr.of_block hk0, fun i hi => (hn i hi).keep hk (fun _ _ _ => rfl)⟩
theorem Held.lt (h : Held T w g ns) : g < w.heap.size := by obtain ⟨_, f, hr, hn⟩ := h; exact hr.lt
theorem Held.nodes (h : Held T w g ns) : Nodes w w.heap.size (some ⟨g, 0, none⟩) ns := fun _ => by
  obtain ⟨_, f, hr, hn⟩ := h
  refine ⟨g, 0, rfl, hr.lt, fun i hi => ?_⟩
  obtain ⟨A1, c1, A2, c2, A3, c3, h0, h1, h2, h3, n1, n2, n3⟩ := hn i hi
  exact ⟨A1, c1, A2, c2, A3, c3, by rw [Nat.zero_add, hr.cell (by omega), h0], by rw [Nat.zero_add, hr.cell (by omega), h1], by rw [Nat.zero_add, hr.cell (by omega), h2], by rw [Nat.zero_add, hr.cell (by omega), h3], n1.nums, n2.nums, n3.decs⟩
theorem getD_set {k i : Nat} {n : Nd} (h : i < ns.length) : (ns.set k n).getD i nd0 = if i = k then n else ns.getD i nd0 := by
  simp only [List.getD, List.getElem?_set]
  by_cases e : i = k
  · subst e; simp [h]
  · simp [e, Ne.symm e]
theorem Held.set (h : Held T w g ns) {k r : Nat} (hk : k < ns.length) (hr4 : r < 4) (v : Value) (n : Nd)
    (hn : ∀ f, HeldN T w f k (ns.getD k nd0) → HeldN T w (fun j => if j = k * 4 + r then v else f j) k n) : Held T (w.setCell ⟨g, k * 4 + r, none⟩ v) g (ns.set k n) := by
  obtain ⟨hg, f, hr, hns⟩ := h
  have hkT : ∀ b, T b → T b ∧ (w.setCell ⟨g, k * 4 + r, none⟩ v).heap[b]? = w.heap[b]? := fun b hb => ⟨hb, heap_setCell_other w ⟨g, k * 4 + r, none⟩ b v (fun e => hg (by have e' : b = g := e; rw [← e']; exact hb))⟩
  refine ⟨hg, fun j => if j = k * 4 + r then v else f j, ?_, fun i hi => ?_⟩
  · rw [List.length_set]; exact hr.set (k * 4 + r) v
  · rw [List.length_set] at hi
    rw [getD_set hi]
    by_cases e : i = k
    · subst e
      rw [if_pos rfl]
      exact (hn f (hns i hi)).keep hkT (fun _ _ _ => rfl)
    · rw [if_neg e]
      exact (hns i hi).keep hkT (fun j h1 h2 => by
        have : ¬ j = k * 4 + r := by omega
        simp [this])
end
/-- the cells of node number k: its kind, and its slices, which have no room -/
theorem Copied.at_ {w : World} {g : Nat} {ns : List Nd} (h : Copied w g ns) {k : Nat} (hk : k < ns.length) : ∃ b1 b2, w.cell? ⟨g, k * 4, none⟩ = some (.int .i64 (ns.getD k nd0).kind) ∧
    w.cell? ⟨g, k * 4 + 1, none⟩ = some (.slice (some ⟨b1, 0, none⟩) (ns.getD k nd0).shp.length (ns.getD k nd0).shp.length) ∧ w.cell? ⟨g, k * 4 + 2, none⟩ = some (.slice (some ⟨b2, 0, none⟩) (ns.getD k nd0).ints.length (ns.getD k nd0).ints.length) ∧
    Nums .i64 w w.heap.size (some ⟨b1, 0, none⟩) (ns.getD k nd0).shp ∧ Nums .i64 w w.heap.size (some ⟨b2, 0, none⟩) (ns.getD k nd0).ints ∧ ∀ j, w.frozen? ⟨g, j, none⟩ = false := by
  obtain ⟨f, hr, ho⟩ := h
  obtain ⟨b1, b2, b3, g1, g2, g3, h0, h1, h2, h3, r1, r2, r3⟩ := ho k hk
  exact ⟨b1, b2, by rw [hr.cell (by omega), h0], by rw [hr.cell (by omega), h1], by rw [hr.cell (by omega), h2], nums_cells r1, nums_cells r2, fun j => hr.frozen j⟩
theorem Copied.kept {w w' : World} {g g' : Nat} {ns : List Nd} (h : Copied w g ns) (hk : Kept (fun k => k = g') w w') (hg : g' < g) : Copied w' g ns := by
  obtain ⟨f, hr, ho⟩ := h
  refine ⟨f, hr.of_block (hk.block g hr.lt (by show ¬ g = g'; omega)), fun i hi => ?_⟩
  obtain ⟨b1, b2, b3, g1, g2, g3, h0, h1, h2, h3, r1, r2, r3⟩ := ho i hi
  exact ⟨b1, b2, b3, g1, g2, g3, h0, h1, h2, h3, (hk.block b1 (heap_lt r1) (by show ¬ b1 = g'; omega)).trans r1, (hk.block b2 (heap_lt r2) (by show ¬ b2 = g'; omega)).trans r2, (hk.block b3 (heap_lt r3) (by show ¬ b3 = g'; omega)).trans r3⟩
theorem Copied.froz {w : World} {g : Nat} {ns : List Nd} (h : Copied w g ns) (j : Nat) : w.frozen? ⟨g, j, none⟩ = false := by
  obtain ⟨f, hr, ho⟩ := h
  exact hr.frozen j
theorem Copied.lt {w : World} {g : Nat} {ns : List Nd} (h : Copied w g ns) : g < w.heap.size := by
  obtain ⟨f, hr, ho⟩ := h
  exact hr.lt
end Go.Proofs.YteoogioanjkacaaGreatDoor
end
namespace Go.Proofs.YteoogioanjkacaaGreatDoor
set_option maxRecDepth 20000
set_option linter.unusedVariables false
set_option linter.unusedSimpArgs false
/-- rows that stand one behind the other, each a right array -/
def kd (l : List Nd) : List (List Nd) := if h : l = [] ∨ takeA l = 0 then [] else l.take (takeA l) :: kd (l.drop (takeA l))
  termination_by l.length
  decreasing_by
    have h1 : l ≠ [] := fun e => h (.inl e)
    have h2 : takeA l ≠ 0 := fun e => h (.inr e)
    have h3 : 0 < l.length := List.length_pos_iff.2 h1
    rw [List.length_drop]
    omega
theorem kd_nil : kd [] = [] := by rw [kd]; simp
theorem kd_step {l : List Nd} (h : l ≠ []) (h0 : takeA l ≠ 0) : kd l = l.take (takeA l) :: kd (l.drop (takeA l)) := by
  rw [kd]
  simp [h, h0]
/-- all of l are arrays of depth 15 at most, together not too great -/
def Kidsy (l : List Nd) : Prop := ∃ c t, parK (par 15) c l = some t ∧ t.n = l.length ∧ t.i ≤ 1048576
theorem Kidsy.step {l : List Nd} (h : Kidsy l) (hl : l ≠ []) : ∃ s, par 15 l = some s ∧ fstD l = some s ∧ takeA l = s.n ∧ 1 ≤ s.n ∧ s.n ≤ l.length ∧ Kidsy (l.drop s.n) := by
  obtain ⟨c, t, hp, hn, hi⟩ := h
  have hpos : 0 < l.length := List.length_pos_iff.2 hl
  cases c with
  | zero => rw [parK_zero] at hp; cases hp; simp [st0] at hn; omega
  | succ c =>
    obtain ⟨a, b, ha, hb, rfl⟩ := parK_cons hp
    have hlen := par_len ha
    have h16 : par 16 l = some a := par_depth ha 16 (by omega)
    have hai : a.i ≤ 1048576 := by simp only [St.plus] at hi; omega
    have hf := fst_mk h16 hai
    refine ⟨a, ha, hf, by unfold takeA; rw [fs_some hf], hlen.1, hlen.2.1, c, b, hb, ?_, ?_⟩
    · rw [List.length_drop]; simp only [St.plus] at hn; omega
    · simp only [St.plus] at hi; omega
/-- a right array: its first node, and its kids -/
theorem right_parts {l : List Nd} {s : St} (h : whlD l = some s) : ∃ n l' t, l = n :: l' ∧ okB n = true ∧ parK (par 15) (kc n) l' = some t ∧ s = top n t ∧ t.n = l'.length ∧ s.i ≤ 1048576 := by
  obtain ⟨hp, hi, hn⟩ := whl_some h
  obtain ⟨e, n, l', t, he, rfl, hok, ht, rfl⟩ := par_parts hp
  obtain rfl : e = 15 := by omega
  refine ⟨n, l', t, rfl, hok, ht, rfl, ?_, hi⟩
  simp only [top, List.length_cons] at hn
  omega
theorem right_kidsy {l : List Nd} (h : rightA l = true) : l ≠ [] ∧ Kidsy (l.drop 1) := by
  obtain ⟨s, hs⟩ := right_some h
  obtain ⟨n, l', t, rfl, hok, ht, rfl, hn, hi⟩ := right_parts hs
  refine ⟨by simp, kc n, t, ht, hn, ?_⟩
  simp only [top] at hi
  omega
def kidsA (l : List Nd) : List (List Nd) := if rightA l = true then kd (l.drop 1) else []
end Go.Proofs.YteoogioanjkacaaGreatDoor
namespace Go.Proofs.YteoogioanjkacaaGreatDoor
set_option maxRecDepth 20000
open Go.RowKit Go.Lib
set_option linter.unusedSimpArgs false
set_option linter.unusedVariables false
def nest5 (sh : List Int) : Nd := ⟨5, sh, [], []⟩
def nestB (sh : List Int) (ks : List (List Nd)) : Bool := okB (nest5 sh) && (decide (ks.length = itm (nest5 sh)) && holdK (itm (nest5 sh)) ks)
theorem boxN_nodes {w : World} {g : Nat} {n : Nd} {A1 A2 A3 : Option Addr} {c1 c2 c3 : Nat} (h : BoxN w g n.kind A1 n.shp.length c1 A2 n.ints.length c2 A3 n.decs.length c3) (hn : IsNd w w.heap.size A1 A2 A3 n) : Nodes w w.heap.size (some ⟨g, 0, none⟩) [n] := fun _ => by
  refine ⟨g, 0, rfl, heap_lt h, fun i hi => ?_⟩
  obtain rfl : i = 0 := by simpa using hi
  exact ⟨A1, c1, A2, c2, A3, c3, h.at0, h.at1, h.at2, h.at3, hn⟩

end Go.Proofs.YteoogioanjkacaaGreatDoor
namespace Go.Proofs.YteoogioanjkacaaGreatDoor
set_option maxRecDepth 20000
open Go.RowKit Go.ChangeShapes Go.WideShapes
/-- a node whose numbers are numbers of the program -/
def FitI (n : Nd) : Prop := In n.kind ∧ n.shp.length ≤ 9223372036854775807 ∧ n.ints.length ≤ 9223372036854775807 ∧ n.decs.length ≤ 9223372036854775807 ∧ (∀ x ∈ n.decs, In x.1 ∧ In x.2) ∧ ∀ x ∈ n.ints, In x
def IsNodes (w : World) (a : Option Addr) (len cap : Nat) (ns : List Nd) : Prop :=
  ns.length = len ∧ len ≤ cap ∧ cap ≤ 9223372036854775807 ∧ Nodes w w.heap.size a ns ∧ (∀ n ∈ ns, FitI n)

section
variable {H : Type} {enc : TypeId × Value → H} {W : World}
end
end Go.Proofs.YteoogioanjkacaaGreatDoor
namespace Go.Proofs.YteoogioanjkacaaGreatDoor
set_option maxRecDepth 20000
open Go.RowKit Go.Lib
set_option linter.unusedSimpArgs false
set_option linter.unusedVariables false
def okF (n : Nd) : Bool := decide (n.shp.length ≤ 30) && (decide (n.ints.length ≤ 300) && decide (n.decs.length ≤ 300))
def tot : List Nd → Nat
  | [] => 0
  | n :: l => n.ints.length + n.decs.length + tot l
def fewB (ns : List Nd) : Bool := (ns.take 200).all okF && (decide (ns.length ≤ 100) && decide (tot (ns.take 200) ≤ 1000))
theorem tot_app (a b : List Nd) : tot (a ++ b) = tot a + tot b := by
  induction a with
  | nil => simp [tot]
  | cons n a ih => simp only [List.cons_append, tot, ih]; omega
theorem take_one {ns : List Nd} {k : Nat} (h : k < ns.length) : ns.take (k + 1) = ns.take k ++ [ns.getD k nd0] := by
  rw [List.take_add_one]
  congr 1
  simp [List.getD, h]
theorem tot_step {ns : List Nd} {k : Nat} (h : k < ns.length) : tot (ns.take (k + 1)) = tot (ns.take k) + (ns.getD k nd0).ints.length + (ns.getD k nd0).decs.length := by
  rw [take_one h, tot_app]
  simp only [tot]
  omega
theorem all_step {ns : List Nd} {k : Nat} (h : k < ns.length) (ha : (ns.take k).all okF = true) (hk : okF (ns.getD k nd0) = true) : (ns.take (k + 1)).all okF = true := by
  rw [take_one h, List.all_append, ha, List.all_cons, hk]
  rfl
theorem few_not {ns : List Nd} {k : Nat} (h : k < ns.length) (h2 : k < 200) (hk : okF (ns.getD k nd0) = false) : fewB ns = false := by
  have hm : ns.getD k nd0 ∈ ns.take 200 := by
    rw [show ns.getD k nd0 = ns[k] by simp [List.getD, h]]
    exact List.mem_take_iff_getElem.2 ⟨k, by omega, rfl⟩
  have : (ns.take 200).all okF = false := by
    rw [Bool.eq_false_iff]
    intro ha
    have := List.all_eq_true.1 ha _ hm
    rw [hk] at this
    cases this
  simp [fewB, this]
theorem few_len {ns : List Nd} (h : fewB ns = true) : ns.length ≤ 100 := by
  simp only [fewB, Bool.and_eq_true, decide_eq_true_eq] at h
  exact h.2.1
theorem few_fits {w : World} {a : Option Addr} {len cap : Nat} {ns : List Nd} (h : IsNodes w a len cap ns) (hf : fewB ns = true) : Fits ns := fun n hn => by
  have hl := few_len hf
  simp only [fewB, Bool.and_eq_true, decide_eq_true_eq] at hf
  rw [List.take_of_length_le (by omega)] at hf
  have h1 := List.all_eq_true.1 hf.1 n hn
  simp only [okF, Bool.and_eq_true, decide_eq_true_eq] at h1
  have h2 := h.2.2.2.2 n hn
  exact ⟨h2.1, by omega, by omega, by omega, h2.2.2.2.2.1⟩

set_option maxRecDepth 10000 in
set_option maxHeartbeats 1600000 in
theorem few_any (A : Option Addr) (n c : Nat) (ns : List Nd) (W w : World) (hin : IsNodes W A n c ns) (hg0 : Grow W w) :
    Calls Tryz.prog 10 #[.slice A n c] w (Says (fewB ns) w) := by
  obtain ⟨hn, hc, hcm, hns, hf⟩ := hin
  have hnm : n ≤ 9223372036854775807 := Nat.le_trans hc hcm
  have HN := Lib.hid hn
  have HNS := Lib.hid (hns.grow hg0)
  have HF := Lib.hid hf
  clear hn hns hf hc hcm hg0
  go_enter Tryz.func10, Tryz.ntmps10
  go_wp2
  go_loopg [3, 4] (200 - 0) (fun g s3 s4 wr => ∃ (k t : Nat), k ≤ n ∧ k ≤ 200 ∧ g = 200 - k ∧ s4 = .int .i64 k ∧ s3 = .int .i64 t ∧ t ≤ 600 * k ∧ Hid (t = tot (ns.take k)) ∧ Hid ((ns.take k).all okF = true) ∧ Hid (Grow w wr))
  case atStart => exact ⟨0, 0, Nat.zero_le _, by omega, rfl, rfl, rfl, by omega, Lib.hid rfl, Lib.hid rfl, Lib.hid (Grow.refl _)⟩
  case round =>
    obtain ⟨k, t, hk, hk2, rfl, rfl, rfl, ht, HT, HA, HG⟩ := hrel
    by_cases hlt : k < n
    · have hlti : ((k : Nat) : Int) < ((n : Nat) : Int) := by omega
      by_cases h200 : k < 200
      · have h200i : ((k : Nat) : Int) < 200 := by omega
        obtain ⟨b, off, rfl, hb, hat⟩ := HNS.out.grow HG.out (by rw [HN.out]; omega)
        obtain ⟨A1, c1, A2, c2, A3, c3, p0, p1, p2, p3, hnd⟩ := hat k (by rw [HN.out]; exact hlt)
        have HST := Lib.hid (tot_step (ns := ns) (k := k) (by rw [HN.out]; exact hlt))
        have HOK := Lib.hid (all_step (ns := ns) (k := k) (by rw [HN.out]; exact hlt) HA.out)
        have HNO := Lib.hid (few_not (ns := ns) (k := k) (by rw [HN.out]; exact hlt) h200)
        have hfk : (ns.getD k nd0).shp.length ≤ 9223372036854775807 ∧ (ns.getD k nd0).ints.length ≤ 9223372036854775807 ∧ (ns.getD k nd0).decs.length ≤ 9223372036854775807 := by
          have hm : ns.getD k nd0 ∈ ns := by
            have hkl : k < ns.length := by rw [HN.out]; exact hlt
            rw [show ns.getD k nd0 = ns[k] by simp [List.getD, hkl]]
            exact List.getElem_mem hkl
          have h := HF.out _ hm
          exact ⟨h.2.1, h.2.2.1, h.2.2.2.1⟩
        obtain ⟨hm1, hm2, hm3⟩ := hfk
        clear hat hnd hb p0 HA
        have HOF := Lib.hid (show okF (ns.getD k nd0) = (decide ((ns.getD k nd0).shp.length ≤ 30) && (decide ((ns.getD k nd0).ints.length ≤ 300) && decide ((ns.getD k nd0).decs.length ≤ 300))) from rfl)
        generalize okF (ns.getD k nd0) = β at HOF HOK HNO
        generalize (ns.getD k nd0).shp.length = l1 at *
        generalize (ns.getD k nd0).ints.length = l2 at *
        generalize (ns.getD k nd0).decs.length = l3 at *
        by_cases h1 : l1 ≤ 30
        · have h1i : ¬ (30 < ((l1 : Nat) : Int)) := by omega
          by_cases h2 : l2 ≤ 300
          · have h2i : ¬ (300 < ((l2 : Nat) : Int)) := by omega
            by_cases h3 : l3 ≤ 300
            · have h3i : ¬ (300 < ((l3 : Nat) : Int)) := by omega
              have HB : Hid (β = true) := Lib.hid (by rw [HOF.out]; simp [h1, h2, h3])
              have hw1 : IntKind.i64.wrap (((t : Nat) : Int) + ((l2 : Nat) : Int)) = ((t : Nat) : Int) + ((l2 : Nat) : Int) := by rw [IntKind.wrap_i64]; omega
              have hw2 : IntKind.i64.wrap (((t : Nat) : Int) + ((l2 : Nat) : Int) + ((l3 : Nat) : Int)) = ((t + l2 + l3 : Nat) : Int) := by rw [IntKind.wrap_i64]; omega
              clear HOF HNO
              go_wp2
              go_quiet (fail)
              go_wp2
              go_roundg (200 - (k + 1))
              case rel =>
                refine ⟨k + 1, t + l2 + l3, by omega, by omega, rfl, by go_num, by go_num, by omega, Lib.hid ?_, Lib.hid (HOK.out HB.out), Lib.hid (HG.out.drewN _)⟩
                rw [HST.out, ← HT.out]
              case measure => omega
            · have h3i : (300 < ((l3 : Nat) : Int)) := by omega
              have HB : Hid (β = false) := Lib.hid (by rw [HOF.out]; simp [h1, h2, h3])
              clear HOF HOK
              go_wp2
              go_ret
              exact ⟨by rw [HNO.out HB.out]; rfl, HG.out⟩
          · have h2i : (300 < ((l2 : Nat) : Int)) := by omega
            have HB : Hid (β = false) := Lib.hid (by rw [HOF.out]; simp [h2])
            clear HOF HOK
            go_wp2
            go_ret
            exact ⟨by rw [HNO.out HB.out]; rfl, HG.out⟩
        · have h1i : (30 < ((l1 : Nat) : Int)) := by omega
          have HB : Hid (β = false) := Lib.hid (by rw [HOF.out]; simp [h1])
          clear HOF HOK
          go_wp2
          go_ret
          exact ⟨by rw [HNO.out HB.out]; rfl, HG.out⟩
      · obtain rfl : 200 = k := by omega
        have HFE : Hid (fewB ns = false) := Lib.hid (by
          have : ¬ ns.length ≤ 100 := by rw [HN.out]; omega
          simp [fewB, this])
        have h1i : ¬ (((n : Nat) : Int) ≤ 100) := by omega
        go_wp2
        go_ret
        exact ⟨by rw [HFE.out]; rfl, HG.out⟩
    · obtain rfl : n = k := by omega
      have HTA := Lib.hid (show ns.take 200 = ns by rw [List.take_of_length_le (by rw [HN.out]; exact hk2)])
      have HTB := Lib.hid (show ns.take n = ns by rw [List.take_of_length_le (by rw [HN.out]; exact Nat.le_refl _)])
      have HFE : Hid (fewB ns = (decide (n ≤ 100) && decide (t ≤ 1000))) := Lib.hid (by
        have h1 := HA.out
        have h2 := HT.out
        rw [HTB.out] at h1 h2
        unfold fewB
        rw [HTA.out, h1, HN.out, h2]
        rfl)
      by_cases h1 : n ≤ 100
      · have h1i : (((n : Nat) : Int) ≤ 100) := by omega
        by_cases h2 : t ≤ 1000
        · have h2i : (((t : Nat) : Int) ≤ 1000) := by omega
          have HB : Hid (fewB ns = true) := Lib.hid (by rw [HFE.out]; simp [h1, h2])
          go_wp2
          go_ret
          exact ⟨by rw [HB.out]; rfl, HG.out⟩
        · have h2i : ¬ (((t : Nat) : Int) ≤ 1000) := by omega
          have HB : Hid (fewB ns = false) := Lib.hid (by rw [HFE.out]; simp [h2])
          go_wp2
          go_ret
          exact ⟨by rw [HB.out]; rfl, HG.out⟩
      · have h1i : ¬ (((n : Nat) : Int) ≤ 100) := by omega
        have HB : Hid (fewB ns = false) := Lib.hid (by rw [HFE.out]; simp [h1])
        go_wp2
        go_ret
        exact ⟨by rw [HB.out]; rfl, HG.out⟩
end Go.Proofs.YteoogioanjkacaaGreatDoor
namespace Go.Proofs.YteoogioanjkacaaGreatDoor
set_option maxRecDepth 20000
open Go.RowKit Go.Lib
set_option linter.unusedSimpArgs false
set_option linter.unusedVariables false
/-- numbers in new memory -/
def NewN (B : Nat) (A : Option Addr) (xs : List Int) (w : World) : Prop := NumsT (fun b => B ≤ b ∧ b < w.heap.size) w A xs
def NewD (B : Nat) (A : Option Addr) (ds : List (Int × Int)) (w : World) : Prop := DecsT (fun b => B ≤ b ∧ b < w.heap.size) w A ds
theorem NewN.grow {B : Nat} {A : Option Addr} {xs : List Int} {w w' : World} (h : NewN B A xs w) (hg : Grow w w') : NewN B A xs w' := h.keep fun b hb => ⟨⟨hb.1, Nat.lt_of_lt_of_le hb.2 hg.size⟩, hg.block b hb.2⟩
theorem NewD.grow {B : Nat} {A : Option Addr} {ds : List (Int × Int)} {w w' : World} (h : NewD B A ds w) (hg : Grow w w') : NewD B A ds w' := h.keep fun b hb => ⟨⟨hb.1, Nat.lt_of_lt_of_le hb.2 hg.size⟩, hg.block b hb.2⟩

/-- nodes in a row of one's own, all else in new memory too -/
def OwnRN (B : Nat) (v : Value) (ns : List Nd) (w : World) : Prop :=
  B ≤ w.heap.size ∧ ∃ vals, w.ownsRow B 34 4 v ns.length vals ∧ ∀ i, i < ns.length → HeldN (fun b => B ≤ b ∧ v.ownBlock ≠ some b ∧ b < w.heap.size) w (fun j => vals.getD j undef) i (ns.getD i nd0)
theorem ownRN_nil {B : Nat} {w : World} (hB : B ≤ w.heap.size) : OwnRN B (.slice none 0 0) [] w := ⟨hB, [], World.ownsRow_nil _ _ _ _, fun i hi => absurd hi (by simp)⟩
theorem OwnRN.grow {B : Nat} {v : Value} {ns : List Nd} {w w' : World} (h : OwnRN B v ns w) (hg : Grow w w') : OwnRN B v ns w' := by
  obtain ⟨hB, vals, ho, hn⟩ := h
  exact ⟨Nat.le_trans hB hg.size, vals, ownsRow_grow ho hg, fun i hi => (hn i hi).keep (fun b hb => ⟨⟨hb.1, hb.2.1, Nat.lt_of_lt_of_le hb.2.2 hg.size⟩, hg.block b hb.2.2⟩) (fun _ _ _ => rfl)⟩
theorem OwnRN.nodes {B : Nat} {v : Value} {ns : List Nd} {w : World} (h : OwnRN B v ns w) : ∃ A c, v = .slice A ns.length c ∧ ns.length ≤ c ∧ NodesT (fun b => B ≤ b ∧ b < w.heap.size) w A ns := by
  obtain ⟨hB, vals, ho, hn⟩ := h
  rcases ho.2 with ⟨rfl, h0⟩ | ⟨g, cap, cur, rfl, hbg, hgg, hnc, hcm, hsz, htake⟩
  · have : ns = [] := List.eq_nil_of_length_eq_zero h0
    subst this
    exact ⟨none, 0, rfl, Nat.le_refl _, fun hp => absurd hp (by simp)⟩
  · refine ⟨some ⟨g, 0, none⟩, cap, rfl, hnc, fun hp => ⟨g, 0, rfl, ⟨hbg, heap_lt hgg⟩, fun i hi => ?_⟩⟩
    obtain ⟨A1, c1, A2, c2, A3, c3, h0, h1, h2, h3, n1, n2, n3⟩ := hn i hi
    have hl := ho.1
    have cell : ∀ j v, j < ns.length * 4 → vals.getD j undef = v → w.cell? ⟨g, j, none⟩ = some v := fun j v hj hv => by
      have hj' : j < vals.length := by omega
      rw [cell_of_row w g j cur _ (0, 0) hgg, ← hv, ← Array.getElem?_toList]
      rw [show vals.getD j undef = vals[j] by simp [List.getD, hj'], ← List.getElem?_eq_getElem hj', ← htake, List.getElem?_take, if_pos hj]
    have hw : ∀ b, (B ≤ b ∧ Value.ownBlock (.slice (some ⟨g, 0, none⟩) ns.length cap) ≠ some b ∧ b < w.heap.size) → (B ≤ b ∧ b < w.heap.size) ∧ w.heap[b]? = w.heap[b]? := fun b hb => ⟨⟨hb.1, hb.2.2⟩, rfl⟩
    rw [Nat.zero_add]
    exact ⟨A1, c1, A2, c2, A3, c3, cell _ _ (by omega) h0, cell _ _ (by omega) h1, cell _ _ (by omega) h2, cell _ _ (by omega) h3, n1.keep hw, n2.keep hw, n3.keep hw⟩
/-- one more node behind them -/
theorem wp_append_node {o : Oper} {a : Act} {w : World} {K : Act → World → Prop} {Q : Exit → Act → World → Prop} (s x : Operand)
    (ho : o.op = .call { callee := .builtin .append, args := #[s, x], argTypes := #[22, 22] }) (B B0 : Nat) (v : Value) (ns : List Nd) (n : Nd) (g : Nat) (A1 A2 A3 : Option Addr) (c1 c2 c3 : Nat)
    (hs : a.eval s = v) (hown : OwnRN B v ns w) (hx : a.eval x = .slice (some ⟨g, 0, none⟩) 1 1) (hbox : BoxN w g n.kind A1 n.shp.length c1 A2 n.ints.length c2 A3 n.decs.length c3)
    (h1 : NewN B0 A1 n.shp w) (h2 : NewN B0 A2 n.ints w) (h3 : NewD B0 A3 n.decs w) (hB : B ≤ B0) (hv0 : ∀ k, v.ownBlock = some k → k < B0) (hb : ns.length ≤ 1100000)
    (h : ∀ v' w', OwnRN B v' (ns ++ [n]) w' → Below B w w' → K (a.put o.dst v') w') : o.wp Tryz.prog a w K Q := by
  obtain ⟨i0, hi, hz0, hz1, hz2⟩ := info_of info_node
  obtain ⟨hBw, vals, hown, hns⟩ := hown
  obtain ⟨v', w', hr, hown', hgrow, _, hat⟩ := run_append_own_at (P := Tryz.prog) w B 22 o.type 34 i0 _ 4 80 Tryz.underlying22 hi hz0 hz1 hz2 rfl (by decide) v ns.length vals hown ⟨g, 0, none⟩ 1 1
    [.int .i64 n.kind, .slice A1 n.shp.length c1, .slice A2 n.ints.length c2, .slice A3 n.decs.length c3] rfl (fun j u hj => by
      rw [addr_add, Nat.zero_add]
      match j, hj with
      | 0, hj => cases hj; exact hbox.at0
      | 1, hj => cases hj; exact hbox.at1
      | 2, hj => cases hj; exact hbox.at2
      | 3, hj => cases hj; exact hbox.at3
      | j + 4, hj => simp at hj) (fun u hu => by
      simp only [List.mem_cons, List.not_mem_nil, or_false] at hu
      rcases hu with rfl | rfl | rfl | rfl <;> rfl) (by unfold maxLen; omega) (by omega) hBw
  have hbel : Below B w w' := Below.grown (Below.refl _ _) hgrow hBw (fun g hg => (hown.lt g hg).1)
  unfold Oper.wp
  simp [execOp, ho, resolve, invoke, builtin, hs, hx, hr, Result.andThen]
  refine h v' w' ⟨Nat.le_trans hBw hgrow.size, vals ++ [.int .i64 n.kind, .slice A1 n.shp.length c1, .slice A2 n.ints.length c2, .slice A3 n.decs.length c3], by rw [List.length_append]; exact hown', fun i hi => ?_⟩ hbel
  have hkeep : ∀ b, (B ≤ b ∧ v.ownBlock ≠ some b ∧ b < w.heap.size) → (B ≤ b ∧ v'.ownBlock ≠ some b ∧ b < w'.heap.size) ∧ w'.heap[b]? = w.heap[b]? := fun b hb => by
    refine ⟨⟨hb.1, ?_, Nat.lt_of_lt_of_le hb.2.2 hgrow.size⟩, hgrow.block b hb.2.2 (fun e => hb.2.1 e.symm)⟩
    intro e
    rcases hat with h | h
    · exact hb.2.1 (h.symm.trans e)
    · rw [h] at e; cases e; omega
  have hnew : ∀ b, (B0 ≤ b ∧ b < w.heap.size) → (B ≤ b ∧ v'.ownBlock ≠ some b ∧ b < w'.heap.size) ∧ w'.heap[b]? = w.heap[b]? := fun b hb => hkeep b ⟨by omega, fun e => by have := hv0 b e; omega, hb.2⟩
  have hvl : vals.length = ns.length * 4 := hown.1
  by_cases hik : i < ns.length
  · have e1 : (ns ++ [n]).getD i nd0 = ns.getD i nd0 := by simp [List.getD, List.getElem?_append_left hik]
    rw [e1]
    exact (hns i hik).keep hkeep (fun j h1 h2 => by simp only [List.getD]; rw [List.getElem?_append_left (by omega)])
  · have hik' : i = ns.length := by rw [List.length_append] at hi; simp at hi; omega
    subst hik'
    have e1 : (ns ++ [n]).getD ns.length nd0 = n := by simp
    rw [e1]
    have e2 : ∀ r, r < 4 → (vals ++ [Value.int .i64 n.kind, .slice A1 n.shp.length c1, .slice A2 n.ints.length c2, .slice A3 n.decs.length c3]).getD (ns.length * 4 + r) undef = [Value.int .i64 n.kind, .slice A1 n.shp.length c1, .slice A2 n.ints.length c2, .slice A3 n.decs.length c3].getD r undef := fun r hr => by
      simp only [List.getD]
      rw [List.getElem?_append_right (by omega), hvl, Nat.add_sub_cancel_left]
    exact ⟨A1, c1, A2, c2, A3, c3, e2 0 (by decide), e2 1 (by decide), e2 2 (by decide), e2 3 (by decide), h1.keep hnew, h2.keep hnew, h3.keep hnew⟩
end Go.Proofs.YteoogioanjkacaaGreatDoor
section
namespace Go.Proofs.YteoogioanjkacaaGreatDoor
set_option maxRecDepth 20000
set_option linter.unusedVariables false
set_option linter.unusedSimpArgs false
theorem take_zero {l : List Nd} (h : fstD l = none) : takeA l = 0 := by unfold takeA; rw [fs_none h]; rfl
end Go.Proofs.YteoogioanjkacaaGreatDoor
end
section
namespace Go.Proofs.YteoogioanjkacaaGreatDoor
set_option linter.unusedVariables false
set_option linter.unusedSimpArgs false
theorem ok_tot {n : Nd} (h : okB n = true) : (n.kind = 5 ∧ n.ints.length + n.decs.length = 0 ∧ kc n = cnt n.shp) ∨ (n.kind ≠ 5 ∧ n.ints.length + n.decs.length = cnt n.shp ∧ kc n = 0) := by
  simp only [okB, Bool.and_eq_true] at h
  have hf := h.2
  unfold fillB at hf
  by_cases h5 : n.kind = 5
  · left
    rw [h5] at hf
    simp at hf
    exact ⟨h5, by rw [hf.1, hf.2]; rfl, by simp [kc, h5]⟩
  · right
    refine ⟨h5, ?_, by simp [kc, h5]⟩
    by_cases h1 : n.kind = 1
    · simp [h1] at hf; rw [hf.1.1, hf.1.2]; rfl
    · by_cases h2 : n.kind = 2
      · simp [h2] at hf; rw [hf.1, hf.2]; rfl
      · by_cases h3 : n.kind = 3
        · simp [h3] at hf; rw [hf.1.1, hf.1.2]; rfl
        · by_cases h4 : n.kind = 4
          · simp [h4] at hf; rw [hf.1.1, hf.1.2]; simp
          · simp [h1, h2, h3, h4, h5] at hf
theorem parK_tot {f : List Nd → Option St} (hf : ∀ l s, f l = some s → s.i + 1 = tot (l.take s.n) + s.n) : ∀ {c : Nat} {l : List Nd} {t : St}, parK f c l = some t → t.i + c = tot (l.take t.n) + t.n
  | 0, l, t, h => by rw [parK_zero] at h; cases h; rfl
  | c + 1, l, t, h => by
    obtain ⟨a, b, ha, hb, rfl⟩ := parK_some h
    have h1 := parK_tot hf ha
    have h2 := hf _ _ hb
    have h3 : tot (l.take (a.n + b.n)) = tot (l.take a.n) + tot ((l.drop a.n).take b.n) := by rw [← tot_app, ← List.take_add]
    simp only [St.plus]
    rw [h3]
    omega
theorem par_tot : ∀ {d : Nat} {l : List Nd} {s : St}, par d l = some s → s.i + 1 = tot (l.take s.n) + s.n
  | 0, l, s, h => by cases h
  | d + 1, l, s, h => by
    obtain ⟨e, n, l', t, he, rfl, hn, ht, rfl⟩ := par_parts h
    obtain rfl : d = e := by omega
    have h1 := parK_tot (fun l s h => par_tot h) ht
    simp only [top, List.take_succ_cons, tot]
    rcases ok_tot hn with ⟨_, h2, h3⟩ | ⟨_, h2, h3⟩
    · rw [h3] at h1; omega
    · rw [h3] at h1; omega
end Go.Proofs.YteoogioanjkacaaGreatDoor
end
section
namespace Go.Proofs.YteoogioanjkacaaGreatDoor
set_option linter.unusedVariables false
set_option linter.unusedSimpArgs false
def dmax : List (List Nd) → Nat
  | [] => 0
  | k :: ks => max (ws k).d (dmax ks)
theorem take_kid {ks : List (List Nd)} {k : Nat} (h : k < ks.length) : ks.take (k + 1) = ks.take k ++ [ks.getD k []] := by
  rw [List.take_add_one]
  congr 1
  simp [List.getD, h]
theorem kd_all : ∀ {c : Nat} {l : List Nd} {t : St}, parK (par 15) c l = some t → t.n = l.length → t.i ≤ 1048576 →
    (kd l).length = c ∧ (∀ k ∈ kd l, rightA k = true) ∧ isum (kd l) = t.i ∧ dmax (kd l) = t.d ∧ flatK (kd l) = l ∧ ∀ m, m + t.i ≤ 1048576 → holdK m (kd l) = true
  | 0, l, t, h, hn, _ => by
    rw [parK_zero] at h
    cases h
    have : l = [] := List.eq_nil_of_length_eq_zero (by simp [st0] at hn; omega)
    subst this
    rw [kd_nil]
    exact ⟨rfl, (fun k hk => by cases hk), rfl, rfl, rfl, fun _ _ => rfl⟩
  | c + 1, l, t, h, hn, hi => by
    obtain ⟨a, b, ha, hb, rfl⟩ := parK_cons h
    simp only [St.plus] at hn hi
    have hlen := par_len ha
    have h16 : par 16 l = some a := par_depth ha 16 (by omega)
    have hta : takeA l = a.n := by unfold takeA; rw [fs_some (fst_mk h16 (by omega))]
    have hl : l ≠ [] := fun e => by subst e; simp at hlen; omega
    obtain ⟨i1, i2, i3, i4, i5, i6⟩ := kd_all hb (by rw [List.length_drop]; omega) (by omega)
    have hw : whlD (l.take a.n) = some a := whl_mk (par_take h16 (Nat.le_refl _)) (by omega) (by rw [List.length_take]; omega)
    rw [kd_step hl (by rw [hta]; omega), hta]
    refine ⟨by rw [List.length_cons, i1], fun k hk => ?_, ?_, ?_, ?_, fun m hm => ?_⟩
    · rcases List.mem_cons.1 hk with rfl | hk
      · unfold rightA; rw [hw]; rfl
      · exact i2 k hk
    · simp only [isum, ws_some hw, i3, St.plus]
    · simp only [dmax, ws_some hw, i4, St.plus]
    · simp only [flatK, i5, List.take_append_drop]
    · have hd : a.d < 16 := by omega
      have hmi : m + a.i ≤ 1048576 := by simp only [St.plus] at hm; omega
      have hr : rightA (l.take a.n) = true := by unfold rightA; rw [hw]; rfl
      simp only [holdK, holdB1, ws_some hw, hr, hd, hmi, decide_true, Bool.true_and, Bool.and_true]
      exact i6 _ (by simp only [St.plus] at hm; omega)
/-- of kind 5: it is made of its kids -/
theorem kids_nest {xs : List Nd} (hr : rightA xs = true) (hk : (xs.getD 0 nd0).kind = 5) :
    (kidsA xs).length = cnt (xs.getD 0 nd0).shp ∧ (∀ k ∈ kidsA xs, rightA k = true) ∧ (ws xs).i = cnt (xs.getD 0 nd0).shp + isum (kidsA xs) ∧ (ws xs).d = dmax (kidsA xs) + 1 ∧
    nest5 (xs.getD 0 nd0).shp :: flatK (kidsA xs) = xs ∧ nestB (xs.getD 0 nd0).shp (kidsA xs) = true := by
  obtain ⟨s, hs⟩ := right_some hr
  obtain ⟨n, l', t, rfl, hok, ht, rfl, hn, hi⟩ := right_parts hs
  have hk' : n.kind = 5 := hk
  simp only [top] at hi
  obtain ⟨i1, i2, i3, i4, i5, i6⟩ := kd_all ht hn (by omega)
  have hkid : kidsA (n :: l') = kd l' := by unfold kidsA; rw [hr, if_pos rfl]; rfl
  have hkc : kc n = cnt n.shp := by simp [kc, hk']
  have hn5 : nest5 n.shp = n := by
    rcases ok_tot hok with ⟨_, h0, _⟩ | ⟨h0, _⟩
    · have h1 : n.ints = [] := List.eq_nil_of_length_eq_zero (by omega)
      have h2 : n.decs = [] := List.eq_nil_of_length_eq_zero (by omega)
      obtain ⟨k, sh, is, ds⟩ := n
      simp only at h1 h2 hk'
      subst h1 h2 hk'
      rfl
    · exact absurd hk' h0
  have hg : ((n :: l').getD 0 nd0) = n := rfl
  rw [hg, hkid]
  refine ⟨by rw [i1, hkc], i2, by rw [ws_some hs, i3]; simp only [top]; omega, by rw [ws_some hs, i4]; rfl, by rw [hn5, i5], ?_⟩
  have hit : itm n = cnt n.shp := by unfold itm; rw [if_pos hok]
  simp only [nestB, hn5, hok, hit, i1, hkc, decide_true, Bool.true_and]
  exact i6 _ (by omega)
end Go.Proofs.YteoogioanjkacaaGreatDoor
end
section
namespace Go.Proofs.YteoogioanjkacaaGreatDoor
set_option maxRecDepth 20000
open Go.RowKit
end Go.Proofs.YteoogioanjkacaaGreatDoor
end
section
namespace Go.Proofs.YteoogioanjkacaaGreatDoor
open Go.RowKit
instance (n : Int) : Decidable (In n) := by unfold In; exact inferInstance

def wholeD (m e : Int) : Int × Bool := if rightD m e = true ∧ 0 ≤ e ∧ In (m * 10 ^ e.toNat) then (m * 10 ^ e.toNat, true) else (0, false)

theorem far {n : Int} (k : Nat) (h : ¬ In n) : ¬ In (n * 10 ^ k) := by
  intro hi
  exact h (q_in hi rfl)

theorem whole_not {m e n : Int} {i E : Nat} (hn : n = m * 10 ^ i) (hE : e = (E : Nat)) (hi : i < E) (h : ¬ In (n * 10)) : wholeD m e = (0, false) := by
  unfold wholeD
  rw [if_neg]
  rintro ⟨_, _, hin⟩
  subst hE
  rw [Int.toNat_natCast, show E = (i + 1) + (E - (i + 1)) by omega, Int.pow_add, ← Int.mul_assoc, Int.pow_succ, ← Int.mul_assoc, ← hn] at hin
  exact far _ h hin

theorem whole_yes {m e n : Int} {E : Nat} (hr : rightD m e = true) (hE : e = (E : Nat)) (hn : n = m * 10 ^ E) (hin : In n) : wholeD m e = (n, true) := by
  subst hE
  unfold wholeD
  rw [Int.toNat_natCast, ← hn, if_pos ⟨hr, by omega, hin⟩]

theorem whole_wrong {m e : Int} (h : rightD m e = false ∨ e < 0) : wholeD m e = (0, false) := by
  unfold wholeD
  rw [if_neg]
  rintro ⟨h1, h2, _⟩
  rcases h with h | h
  · rw [h] at h1; cases h1
  · omega

set_option maxRecDepth 10000 in
set_option maxHeartbeats 800000 in
theorem dwhole_any (m e : Int) (w : World) (hm : In m) (he : In e) :
    Calls Tryz.prog 24 #[.agg #[.int .i64 m, .int .i64 e]] w fun x w' => x = .returned (.tuple #[.int .i64 (wholeD m e).1, .bool (wholeD m e).2]) ∧ Grow w w' := by
  have HC := Lib.hid (fun W => right_any m e W hm he)
  have hm1 := hm.1; have hm2 := hm.2; have he1 := he.1; have he2 := he.2
  clear hm he
  go_enter Tryz.func24, Tryz.ntmps24
  go_wp2_with fail
  refine (HC.out _).mono ?_
  rintro x w1 ⟨rfl, hg⟩
  have hb := (boxed_new w (.int .i64 m) (.int .i64 e) 41).grow hg
  have hc0 := hb.fst
  have hc1 := hb.snd
  have HG := Lib.hid ((grow_new w _).trans hg)
  clear hb hg HC
  obtain ⟨r, hr⟩ : ∃ r, rightD m e = r := ⟨_, rfl⟩
  rw [hr]
  cases r
  · have HW := Lib.hid (whole_wrong (.inl hr))
    clear hr
    go_wp2
    go_ret2
    exact ⟨by rw [HW.out]; rfl, HG.out⟩
  · by_cases hneg : e < 0
    · have HW := Lib.hid (whole_wrong (m := m) (.inr hneg))
      clear hr
      go_wp2
      go_ret2
      exact ⟨by rw [HW.out]; rfl, HG.out⟩
    · obtain ⟨E, rfl⟩ := Int.eq_ofNat_of_zero_le (show 0 ≤ e by omega)
      have HR := Lib.hid hr
      clear hr
      go_wp2
      go_loopg [4, 17] E (fun gk s4 s17 wr => ∃ (n : Int) (i : Nat), gk = E - i ∧ i ≤ E ∧ s4 = .int .i64 n ∧ s17 = .int .i64 i ∧ Hid (n = m * 10 ^ i) ∧ -9223372036854775808 ≤ n ∧ n ≤ 9223372036854775807 ∧ w1 = wr)
      case atStart => exact ⟨m, 0, rfl, by omega, rfl, rfl, Lib.hid (by simp), hm1, hm2, rfl⟩
      case round =>
        obtain ⟨n, i, rfl, hiE, rfl, rfl, HN, hn1, hn2, rfl⟩ := hrel
        by_cases hlt : i < E
        · by_cases hhi : 922337203685477580 < n
          · have HW := Lib.hid (whole_not HN.out rfl hlt (fun h => by have := h.2; omega))
            go_wp2
            go_ret2
            exact ⟨by rw [HW.out]; rfl, HG.out⟩
          · by_cases hlo : n < -922337203685477580
            · have HW := Lib.hid (whole_not HN.out rfl hlt (fun h => by have := h.1; omega))
              go_wp2
              go_ret2
              exact ⟨by rw [HW.out]; rfl, HG.out⟩
            · have HN' : Hid (n * 10 = m * 10 ^ (i + 1)) := Lib.hid (by rw [HN.out, Int.pow_succ, Int.mul_assoc])
              have hE9 : (E : Int) ≤ 9223372036854775807 := he2
              go_wp2
              go_roundg (E - (i + 1))
              · exact ⟨n * 10, i + 1, rfl, hlt, rfl, rfl, HN', by omega, by omega, rfl⟩
              · omega
        · have hi : i = E := by omega
          subst hi
          have HW := Lib.hid (whole_yes HR.out rfl HN.out ⟨hn1, hn2⟩)
          clear hlt
          go_wp2
          go_ret2
          exact ⟨by rw [HW.out]; rfl, HG.out⟩

set_option maxRecDepth 10000 in
set_option maxHeartbeats 800000 in
theorem of_any (n : Int) (w : World) (hn : In n) :
    Calls Tryz.prog 20 #[.int .i64 n] w fun x w' => x = .returned (.agg #[.int .i64 (norm n 0).1.1, .int .i64 (norm n 0).1.2]) ∧ Grow w w' := by
  obtain ⟨r1, r2, b, hN⟩ : ∃ r1 r2 b, norm n 0 = ((r1, r2), b) := ⟨_, _, _, rfl⟩
  have HC : Hid (∀ W, Calls Tryz.prog 41 #[.agg #[.int .i64 n, .int .i64 0]] W fun x w' => x = .returned (.tuple #[.agg #[.int .i64 r1, .int .i64 r2], .bool b]) ∧ Grow W w') :=
    Lib.hid (fun W => by have h := norm_any n 0 W hn (by constructor <;> decide); rw [hN] at h; exact h)
  rw [hN]
  clear hN
  go_enter Tryz.func20, Tryz.ntmps20
  go_wp2_with fail
  refine (HC.out _).mono ?_
  rintro x w1 ⟨rfl, hg⟩
  have hb := (boxed_new w (.int .i64 0) (.int .i64 0) 41).grow hg
  have hc0 : ∀ o, (w1.alloc o).cell? ⟨w.heap.size, 0, none⟩ = some (.int .i64 0) := fun o => (hb.grow (grow_new _ o)).fst
  have hc1 : ∀ o, (w1.alloc o).cell? ⟨w.heap.size, 1, none⟩ = some (.int .i64 0) := fun o => (hb.grow (grow_new _ o)).snd
  have hf : ∀ o j, (w1.alloc o).frozen? ⟨w.heap.size, j, none⟩ = false := fun o j => (hb.grow (grow_new _ o)).froz j
  have HG := Lib.hid ((grow_new w _).trans hg)
  have HB := Lib.hid hb
  clear HC hb hg
  go_wp2
  have hr := ((HB.out.grow (grow_new _ (.cells #[.int .i64 r1, .int .i64 r2] 41))).put0 (.int .i64 r1)).put1 (.int .i64 r2)
  exact bodyPost_ret (v := .agg #[.int .i64 r1, .int .i64 r2]) (by simp [results, Tryz.results20, go_sem, hr.fst, hr.snd]) rfl
    ⟨rfl, ((HG.out.trans (grow_new _ _)).put (Nat.le_refl _) 0 _).put (Nat.le_refl _) 1 _⟩
theorem of_parts {n : Int} (hn : In n) : ∃ q j, norm n 0 = ((q, j), true) ∧ In q ∧ In j ∧ rightD q j = true ∧ wholeD q j = (n, true) := by
  obtain ⟨⟨⟨q, j⟩, b⟩, h⟩ : ∃ r, norm n 0 = r := ⟨_, rfl⟩
  have h1 := norm_of_int hn
  have h2 := norm_in (e := 0) hn
  have h3 := norm_exp_in (e := 0) hn
  have h4 := rightD_of (norm_right (e := 0) hn h1)
  rw [h] at h1 h2 h3 h4
  simp only at h1 h2 h3 h4
  subst h1
  refine ⟨q, j, h, h2, h3, h4, ?_⟩
  by_cases h0 : n = 0
  · subst h0
    rw [norm_zero] at h
    cases h
    decide
  · obtain ⟨q', i, hq, hq0, hi⟩ := parts_in hn h0
    rw [norm_of hq hq0 (by omega)] at h
    split at h
    · cases h
      exact whole_yes h4 (by simp) hq hn
    · cases h
end Go.Proofs.YteoogioanjkacaaGreatDoor
end
section
namespace Go.Proofs.YteoogioanjkacaaGreatDoor
open Go.RowKit Go.Lib
set_option linter.unusedSimpArgs false
set_option linter.unusedVariables false
def nz (x : Int) : Bool := !(0 == x)

end Go.Proofs.YteoogioanjkacaaGreatDoor
end
