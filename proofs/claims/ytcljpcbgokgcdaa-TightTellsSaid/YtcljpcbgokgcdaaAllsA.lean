/-
  Alls, Fill, ItemsOf, one behind the other.
-/
import Derived.Test.YtcljpcbgokgcdaaNdMem
import Derived.Test.YtcljpcbgokgcdaaBase
import Derived.Test.YtcljpcbgokgcdaaNorms
section
/-
  What array.isBit, isSign and all come to, called with any numbers.
-/
namespace Go.Proofs.Ytcljpcbgokgcdaa
open Go.RowKit Go.Lib
set_option linter.unusedSimpArgs false
set_option linter.unusedVariables false

theorem bit_any (x : Int) (w : World) : Calls Try.prog 81 #[.int .i64 x] w (Gives (.bool (bitB x)) w) := by
  by_cases h0 : x = 0
  · subst h0
    go_enter Try.func81, Try.ntmps81
    go_wp2
    go_ret
    exact ⟨rfl, rfl⟩
  · have h0' : (x == 0) = false := by simpa using h0
    have e : bitB x = (x == 1) := by simp [bitB, h0']
    rw [e]
    go_enter Try.func81, Try.ntmps81
    go_wp2
    go_ret
    exact ⟨rfl, rfl⟩
theorem sign_any (x : Int) (w : World) : Calls Try.prog 82 #[.int .i64 x] w (Gives (.bool (signB x)) w) := by
  by_cases h0 : x < 0
  · have e : signB x = false := by simp [signB]; omega
    rw [e]
    have h0' : ¬ 0 ≤ x := by omega
    go_enter Try.func82, Try.ntmps82
    go_wp2
    go_ret
    exact ⟨rfl, rfl⟩
  have h0' : 0 ≤ x := by omega
  by_cases h1 : 1114111 < x
  · have e : signB x = false := by simp [signB]; omega
    rw [e]
    have h1' : ¬ x ≤ 1114111 := by omega
    clear h0 e
    go_enter Try.func82, Try.ntmps82
    go_wp2
    go_ret
    exact ⟨rfl, rfl⟩
  have h1' : x ≤ 1114111 := by omega
  by_cases h2 : x < 55296
  · have e : signB x = true := by simp [signB]; omega
    rw [e]
    clear h0 h1 e
    go_enter Try.func82, Try.ntmps82
    go_wp2
    go_ret
    exact ⟨rfl, rfl⟩
  by_cases h3 : 57343 < x
  · have e : signB x = true := by simp [signB]; omega
    rw [e]
    clear h0 h1 e
    go_enter Try.func82, Try.ntmps82
    go_wp2
    go_ret
    exact ⟨rfl, rfl⟩
  · have e : signB x = false := by simp [signB]; omega
    rw [e]
    clear h0 h1 e
    go_enter Try.func82, Try.ntmps82
    go_wp2
    go_ret
    exact ⟨rfl, rfl⟩

set_option maxRecDepth 10000 in
set_option maxHeartbeats 800000 in
theorem allbit_any (A : Option Addr) (n c : Nat) (xs : List Int) (w : World) (hn : xs.length = n) (hm : n ≤ 9223372036854775807) (hr : Nums .i64 w w.heap.size A xs) :
    Calls Try.prog 80 #[.slice A n c, .func (.func 81) #[] #[]] w (Gives (.bool (xs.all bitB)) w) := by
  have HR := Lib.hid hr
  have HN := Lib.hid hn
  clear hr hn
  go_enter Try.func80, Try.ntmps80
  go_wp2
  go_loopg [9] n (fun g s8 wr => ∃ k : Nat, k ≤ n ∧ g = n - k ∧ s8 = .int .i64 k ∧ Hid ((xs.drop k).all bitB = xs.all bitB) ∧ w = wr)
  case atStart => exact ⟨0, Nat.zero_le _, rfl, rfl, Lib.hid rfl, rfl⟩
  case round =>
    obtain ⟨k, hk, rfl, rfl, HA, rfl⟩ := hrel
    by_cases hlt : k < n
    · have hkl : k < xs.length := by rw [HN.out]; exact hlt
      obtain ⟨b, off, rfl, hb, hcl⟩ := HR.out (by omega)
      have hc := hcl k hkl
      have HT := Lib.hid (fun h => all_drop (p := bitB) hkl h)
      have HF := Lib.hid (fun h => all_fails (p := bitB) hkl h)
      clear hcl hkl
      generalize xs.getD k 0 = x at hc HT HF
      cases hx : bitB x with
      | true =>
        have HT' := Lib.hid (HT.out hx)
        have HB := Lib.hid (bit_any x w)
        rw [hx] at HB
        clear hx HT HF
        go_wp2_with (go_at_call 81; refine (HB.out).mono ?_; rintro e w2 ⟨rfl, rfl⟩)
        go_roundg (n - (k + 1))
        case rel => exact ⟨k + 1, by omega, rfl, by go_num, Lib.hid (HT'.out.symm.trans HA.out), rfl⟩
        case measure => omega
      | false =>
        have HF' := Lib.hid (HF.out hx)
        have HB := Lib.hid (bit_any x w)
        rw [hx] at HB
        clear hx HT HF
        go_wp2_with (go_at_call 81; refine (HB.out).mono ?_; rintro e w2 ⟨rfl, rfl⟩)
        go_ret
        exact ⟨by rw [← HA.out, HF'.out]; rfl, rfl⟩
    · obtain rfl : k = n := by omega
      have HE : Hid (xs.all bitB = true) := Lib.hid (by rw [← HA.out, ← HN.out, List.drop_length]; rfl)
      go_wp2
      go_ret
      exact ⟨by rw [HE.out]; rfl, rfl⟩

set_option maxRecDepth 10000 in
set_option maxHeartbeats 800000 in
theorem allsign_any (A : Option Addr) (n c : Nat) (xs : List Int) (w : World) (hn : xs.length = n) (hm : n ≤ 9223372036854775807) (hr : Nums .i64 w w.heap.size A xs) :
    Calls Try.prog 80 #[.slice A n c, .func (.func 82) #[] #[]] w (Gives (.bool (xs.all signB)) w) := by
  have HR := Lib.hid hr
  have HN := Lib.hid hn
  clear hr hn
  go_enter Try.func80, Try.ntmps80
  go_wp2
  go_loopg [9] n (fun g s8 wr => ∃ k : Nat, k ≤ n ∧ g = n - k ∧ s8 = .int .i64 k ∧ Hid ((xs.drop k).all signB = xs.all signB) ∧ w = wr)
  case atStart => exact ⟨0, Nat.zero_le _, rfl, rfl, Lib.hid rfl, rfl⟩
  case round =>
    obtain ⟨k, hk, rfl, rfl, HA, rfl⟩ := hrel
    by_cases hlt : k < n
    · have hkl : k < xs.length := by rw [HN.out]; exact hlt
      obtain ⟨b, off, rfl, hb, hcl⟩ := HR.out (by omega)
      have hc := hcl k hkl
      have HT := Lib.hid (fun h => all_drop (p := signB) hkl h)
      have HF := Lib.hid (fun h => all_fails (p := signB) hkl h)
      clear hcl hkl
      generalize xs.getD k 0 = x at hc HT HF
      cases hx : signB x with
      | true =>
        have HT' := Lib.hid (HT.out hx)
        have HB := Lib.hid (sign_any x w)
        rw [hx] at HB
        clear hx HT HF
        go_wp2_with (go_at_call 82; refine (HB.out).mono ?_; rintro e w2 ⟨rfl, rfl⟩)
        go_roundg (n - (k + 1))
        case rel => exact ⟨k + 1, by omega, rfl, by go_num, Lib.hid (HT'.out.symm.trans HA.out), rfl⟩
        case measure => omega
      | false =>
        have HF' := Lib.hid (HF.out hx)
        have HB := Lib.hid (sign_any x w)
        rw [hx] at HB
        clear hx HT HF
        go_wp2_with (go_at_call 82; refine (HB.out).mono ?_; rintro e w2 ⟨rfl, rfl⟩)
        go_ret
        exact ⟨by rw [← HA.out, HF'.out]; rfl, rfl⟩
    · obtain rfl : k = n := by omega
      have HE : Hid (xs.all signB = true) := Lib.hid (by rw [← HA.out, ← HN.out, List.drop_length]; rfl)
      go_wp2
      go_ret
      exact ⟨by rw [HE.out]; rfl, rfl⟩

theorem alld_drop {p : Int × Int → Bool} {xs : List (Int × Int)} {k : Nat} (h : k < xs.length) (hx : p (xs.getD k (0, 0)) = true) : (xs.drop k).all p = (xs.drop (k + 1)).all p := by
  rw [drop_at (0, 0) h, List.all_cons, hx, Bool.true_and]
theorem alld_fails {p : Int × Int → Bool} {xs : List (Int × Int)} {k : Nat} (h : k < xs.length) (hx : p (xs.getD k (0, 0)) = false) : (xs.drop k).all p = false := by
  rw [drop_at (0, 0) h, List.all_cons, hx, Bool.false_and]
set_option maxRecDepth 10000 in
set_option maxHeartbeats 800000 in
theorem alldec_any (A : Option Addr) (n c : Nat) (xs : List (Int × Int)) (w : World) (hn : xs.length = n) (hm : n ≤ 9223372036854775807) (hi : ∀ x ∈ xs, In x.1 ∧ In x.2) (hr : Decs w w.heap.size A xs) :
    Calls Try.prog 83 #[.slice A n c, .func (.func 33) #[] #[]] w (fun e w' => e = .returned (.bool (xs.all decB)) ∧ Grow w w') := by
  have HR := Lib.hid hr
  have HN := Lib.hid hn
  have HI := Lib.hid hi
  clear hr hn hi
  go_enter Try.func83, Try.ntmps83
  go_wp2
  go_loopg [9] n (fun g s8 wr => ∃ k : Nat, k ≤ n ∧ g = n - k ∧ s8 = .int .i64 k ∧ Hid ((xs.drop k).all decB = xs.all decB) ∧ Hid (Grow w wr))
  case atStart => exact ⟨0, Nat.zero_le _, rfl, rfl, Lib.hid rfl, Lib.hid (Grow.refl _)⟩
  case round =>
    obtain ⟨k, hk, rfl, rfl, HA, HG⟩ := hrel
    by_cases hlt : k < n
    · have hkl : k < xs.length := by rw [HN.out]; exact hlt
      obtain ⟨b, off, rfl, hb, hcl⟩ := HR.out.grow HG.out (by omega)
      obtain ⟨hc1, hc2⟩ := hcl k hkl
      have HT := Lib.hid (fun h => alld_drop (p := decB) hkl h)
      have HF := Lib.hid (fun h => alld_fails (p := decB) hkl h)
      have hin := in_at HI.out k
      clear hcl hkl hb
      generalize xs.getD k (0, 0) = x at hc1 hc2 HT HF hin
      obtain ⟨x1, x2⟩ := x
      dsimp only at hc1 hc2 hin
      cases hx : decB (x1, x2) with
      | true =>
        have HT' := Lib.hid (HT.out hx)
        have HB := Lib.hid (fun W => right_any x1 x2 W hin.1 hin.2)
        rw [show rightD x1 x2 = true from hx] at HB
        clear hx HT HF hin
        go_wp2_with (go_at_call 33; refine (HB.out _).mono ?_; rintro e w2 ⟨rfl, hw2⟩)
        go_roundg (n - (k + 1))
        case rel => exact ⟨k + 1, by omega, rfl, by go_num, Lib.hid (HT'.out.symm.trans HA.out), Lib.hid ((HG.out.trans (grow_new _ _)).trans hw2)⟩
        case measure => omega
      | false =>
        have HF' := Lib.hid (HF.out hx)
        have HB := Lib.hid (fun W => right_any x1 x2 W hin.1 hin.2)
        rw [show rightD x1 x2 = false from hx] at HB
        clear hx HT HF hin
        go_wp2_with (go_at_call 33; refine (HB.out _).mono ?_; rintro e w2 ⟨rfl, hw2⟩)
        go_ret
        exact ⟨by rw [← HA.out, HF'.out]; rfl, (HG.out.trans (grow_new _ _)).trans hw2⟩
    · obtain rfl : k = n := by omega
      have HE : Hid (xs.all decB = true) := Lib.hid (by rw [← HA.out, ← HN.out, List.drop_length]; rfl)
      go_wp2
      go_ret
      exact ⟨by rw [HE.out]; rfl, HG.out⟩
end Go.Proofs.Ytcljpcbgokgcdaa
end

section
/-
  What array.filled and itemsOf come to, called with any node.
-/
namespace Go.Proofs.Ytcljpcbgokgcdaa
open Go.RowKit Go.Lib
set_option linter.unusedSimpArgs false
set_option linter.unusedVariables false

/-- a node in a block of its own -/
def BoxN (w : World) (b : Nat) (k : Int) (A1 : Option Addr) (l1 c1 : Nat) (A2 : Option Addr) (l2 c2 : Nat) (A3 : Option Addr) (l3 c3 : Nat) : Prop :=
  w.heap[b]? = some (.cells #[.int .i64 k, .slice A1 l1 c1, .slice A2 l2 c2, .slice A3 l3 c3] 30 (0, 0))
section
variable {w w' : World} {b : Nat} {k : Int} {A1 A2 A3 : Option Addr} {l1 c1 l2 c2 l3 c3 : Nat}
theorem BoxN.lt (h : BoxN w b k A1 l1 c1 A2 l2 c2 A3 l3 c3) : b < w.heap.size := by
  rcases Nat.lt_or_ge b w.heap.size with k | k
  · exact k
  · rw [BoxN, Array.getElem?_eq_none k] at h; cases h
theorem BoxN.grow (h : BoxN w b k A1 l1 c1 A2 l2 c2 A3 l3 c3) (hg : Grow w w') : BoxN w' b k A1 l1 c1 A2 l2 c2 A3 l3 c3 := (hg.block b h.lt).trans h
theorem BoxN.at0 (h : BoxN w b k A1 l1 c1 A2 l2 c2 A3 l3 c3) : w.cell? ⟨b, 0, none⟩ = some (.int .i64 k) := cell_of_row w b 0 _ _ (0, 0) h
theorem BoxN.at1 (h : BoxN w b k A1 l1 c1 A2 l2 c2 A3 l3 c3) : w.cell? ⟨b, 1, none⟩ = some (.slice A1 l1 c1) := cell_of_row w b 1 _ _ (0, 0) h
theorem BoxN.at2 (h : BoxN w b k A1 l1 c1 A2 l2 c2 A3 l3 c3) : w.cell? ⟨b, 2, none⟩ = some (.slice A2 l2 c2) := cell_of_row w b 2 _ _ (0, 0) h
theorem BoxN.at3 (h : BoxN w b k A1 l1 c1 A2 l2 c2 A3 l3 c3) : w.cell? ⟨b, 3, none⟩ = some (.slice A3 l3 c3) := cell_of_row w b 3 _ _ (0, 0) h
theorem boxN_new (w : World) (k : Int) (A1 : Option Addr) (l1 c1 : Nat) (A2 : Option Addr) (l2 c2 : Nat) (A3 : Option Addr) (l3 c3 : Nat) :
    BoxN (w.alloc (.cells #[.int .i64 k, .slice A1 l1 c1, .slice A2 l2 c2, .slice A3 l3 c3] 30)) w.heap.size k A1 l1 c1 A2 l2 c2 A3 l3 c3 := heap_alloc_new w _
end

theorem has_any (x y : Nat) (b : Nat) (k : Int) (A1 : Option Addr) (l1 c1 : Nat) (A2 : Option Addr) (l2 c2 : Nat) (A3 : Option Addr) (l3 c3 : Nat) (w : World) (hb : BoxN w b k A1 l1 c1 A2 l2 c2 A3 l3 c3) (h2 : l2 ≤ 1100000) (h3 : l3 ≤ 1100000) :
    Calls Try.prog 79 #[.int .i64 (x : Nat), .int .i64 (y : Nat), .pointer (some ⟨b, 0, none⟩)] w (Gives (.bool (l2 == x && l3 == y)) w) := by
  have hc2 := hb.at2
  have hc3 := hb.at3
  clear hb
  by_cases h : l2 = x
  · subst h
    have e : (((l2 : Nat) : Int) == ((l2 : Nat) : Int)) = true := by simp
    by_cases h' : l3 = y
    · subst h'
      have e' : (((l3 : Nat) : Int) == ((l3 : Nat) : Int)) = true := by simp
      have E : Hid ((l2 == l2 && l3 == l3) = true) := Lib.hid (by simp)
      rw [E.out]
      go_enter Try.func79, Try.ntmps79
      go_wp2
      go_ret
      exact ⟨rfl, rfl⟩
    · have e' : (((l3 : Nat) : Int) == ((y : Nat) : Int)) = false := by simp; omega
      have E : Hid ((l2 == l2 && l3 == y) = false) := Lib.hid (by simp [h'])
      rw [E.out]
      go_enter Try.func79, Try.ntmps79
      go_wp2
      go_ret
      exact ⟨rfl, rfl⟩
  · have e : (((l2 : Nat) : Int) == ((x : Nat) : Int)) = false := by simp; omega
    have E : Hid ((l2 == x && l3 == y) = false) := Lib.hid (by simp [h])
    rw [E.out]
    go_enter Try.func79, Try.ntmps79
    go_wp2
    go_ret
    exact ⟨rfl, rfl⟩

theorem fill_kind {n : Nd} {c : Nat} :
    (n.kind = 1 → fillB n c = ((n.ints.length == c && n.decs.length == 0) && n.ints.all bitB)) ∧
    (n.kind = 2 → fillB n c = (n.ints.length == c && n.decs.length == 0)) ∧
    (n.kind = 3 → fillB n c = ((n.ints.length == c && n.decs.length == 0) && n.ints.all signB)) ∧
    (n.kind = 4 → fillB n c = ((n.ints.length == 0 && n.decs.length == c) && n.decs.all decB)) ∧
    (n.kind = 5 → fillB n c = (n.ints.length == 0 && n.decs.length == 0)) := by
  refine ⟨fun h => ?_, fun h => ?_, fun h => ?_, fun h => ?_, fun h => ?_⟩ <;> simp [fillB, h]
theorem fill_other {n : Nd} {c : Nat} (h1 : n.kind ≠ 1) (h2 : n.kind ≠ 2) (h3 : n.kind ≠ 3) (h4 : n.kind ≠ 4) (h5 : n.kind ≠ 5) : fillB n c = false := by
  simp [fillB, h1, h2, h3, h4, h5]

def Says (β : Bool) (w : World) (e : Ending) (w' : World) : Prop := e = .returned (.bool β) ∧ Grow w w'

set_option maxRecDepth 10000 in
set_option maxHeartbeats 1600000 in
theorem filled_any (n : Nd) (c : Nat) (A1 A2 A3 : Option Addr) (c1 c2 c3 : Nat) (w : World) (hc : c ≤ 1048576) (hf : Fit n) (hn : IsNd w w.heap.size A1 A2 A3 n) :
    Calls Try.prog 75 #[.agg #[.int .i64 n.kind, .slice A1 n.shp.length c1, .slice A2 n.ints.length c2, .slice A3 n.decs.length c3], .int .i64 (c : Nat)] w (Says (fillB n c) w) := by
  have hmf : ∀ (fn : Fn) (first cap : Array Value) (w : World), (Instr.makeFunc fn first cap).run Try.prog w = .ok (.func fn first cap) w := fun _ _ _ _ => rfl
  have h2 := hf.2.2.1
  have h3 := hf.2.2.2.1
  have HI := Lib.hid hf.2.2.2.2
  have HN2 := Lib.hid hn.2.1
  have HN3 := Lib.hid hn.2.2
  obtain ⟨F1, F2, F3, F4, F5⟩ := fill_kind (n := n) (c := c)
  have G1 := Lib.hid F1
  have G2 := Lib.hid F2
  have G3 := Lib.hid F3
  have G4 := Lib.hid F4
  have G5 := Lib.hid F5
  have G6 := Lib.hid (fill_other (n := n) (c := c))
  clear F1 F2 F3 F4 F5 hf hn
  generalize fillB n c = β at *
  obtain ⟨k, sh, xs, ds⟩ := n
  dsimp only at *
  obtain ⟨l2, hl2⟩ : ∃ l2, xs.length = l2 := ⟨_, rfl⟩
  obtain ⟨l3, hl3⟩ : ∃ l3, ds.length = l3 := ⟨_, rfl⟩
  have HL2 := Lib.hid hl2
  have HL3 := Lib.hid hl3
  rw [hl2] at G1 G2 G3 G4 G5 h2 ⊢
  rw [hl3] at G1 G2 G3 G4 G5 h3 ⊢
  clear hl2 hl3
  generalize sh.length = l1 at *
  have HB := Lib.hid (boxN_new w k A1 l1 c1 A2 l2 c2 A3 l3 c3)
  have HG := Lib.hid (grow_new w (.cells #[.int .i64 k, .slice A1 l1 c1, .slice A2 l2 c2, .slice A3 l3 c3] 30))
  by_cases k1 : k = 1
  · subst k1
    have E := Lib.hid (G1.out rfl)
    clear G1 G2 G3 G4 G5 G6
    have HH := Lib.hid (has_any c 0 w.heap.size 1 A1 l1 c1 A2 l2 c2 A3 l3 c3 _ HB.out h2 h3)
    rw [E.out]
    clear E
    cases hb : (l2 == c && l3 == 0) with
    | false =>
      rw [hb] at HH
      rw [Bool.false_and]
      clear hb
      go_enter Try.func75, Try.ntmps75
      go_wp2_with (go_at_call 79; refine (HH.out).mono ?_; rintro e w2 ⟨rfl, rfl⟩)
      go_ret
      exact ⟨rfl, HG.out⟩
    | true =>
      rw [hb] at HH
      rw [Bool.true_and]
      clear hb
      have HA := Lib.hid (allbit_any A2 l2 c2 xs _ HL2.out (by omega) (HN2.out.grow HG.out))
      go_enter Try.func75, Try.ntmps75
      go_wp2_with (first | (go_at_call 79; refine (HH.out).mono ?_; rintro e w2 ⟨rfl, rfl⟩) | fail)
      refine (HA.out).mono ?_
      rintro e w3 ⟨rfl, hw3⟩
      go_wp2
      go_ret
      exact ⟨rfl, HG.out⟩
  by_cases k2 : k = 2
  · subst k2
    have E := Lib.hid (G2.out rfl)
    clear G1 G2 G3 G4 G5 G6
    have HH := Lib.hid (has_any c 0 w.heap.size 2 A1 l1 c1 A2 l2 c2 A3 l3 c3 _ HB.out h2 h3)
    rw [E.out]
    clear E
    go_enter Try.func75, Try.ntmps75
    go_wp2_with (go_at_call 79; refine (HH.out).mono ?_; rintro e w2 ⟨rfl, rfl⟩)
    go_ret
    exact ⟨rfl, HG.out⟩
  by_cases k3 : k = 3
  · subst k3
    have E := Lib.hid (G3.out rfl)
    clear G1 G2 G3 G4 G5 G6
    have HH := Lib.hid (has_any c 0 w.heap.size 3 A1 l1 c1 A2 l2 c2 A3 l3 c3 _ HB.out h2 h3)
    rw [E.out]
    clear E
    cases hb : (l2 == c && l3 == 0) with
    | false =>
      rw [hb] at HH
      rw [Bool.false_and]
      clear hb
      go_enter Try.func75, Try.ntmps75
      go_wp2_with (go_at_call 79; refine (HH.out).mono ?_; rintro e w2 ⟨rfl, rfl⟩)
      go_ret
      exact ⟨rfl, HG.out⟩
    | true =>
      rw [hb] at HH
      rw [Bool.true_and]
      clear hb
      have HA := Lib.hid (allsign_any A2 l2 c2 xs _ HL2.out (by omega) (HN2.out.grow HG.out))
      go_enter Try.func75, Try.ntmps75
      go_wp2_with (first | (go_at_call 79; refine (HH.out).mono ?_; rintro e w2 ⟨rfl, rfl⟩) | fail)
      refine (HA.out).mono ?_
      rintro e w3 ⟨rfl, hw3⟩
      go_wp2
      go_ret
      exact ⟨rfl, HG.out⟩
  by_cases k4 : k = 4
  · subst k4
    have E := Lib.hid (G4.out rfl)
    clear G1 G2 G3 G4 G5 G6
    have HH := Lib.hid (has_any 0 c w.heap.size 4 A1 l1 c1 A2 l2 c2 A3 l3 c3 _ HB.out h2 h3)
    rw [E.out]
    clear E
    cases hb : (l2 == 0 && l3 == c) with
    | false =>
      rw [hb] at HH
      rw [Bool.false_and]
      clear hb
      go_enter Try.func75, Try.ntmps75
      go_wp2_with (go_at_call 79; refine (HH.out).mono ?_; rintro e w2 ⟨rfl, rfl⟩)
      go_ret
      exact ⟨rfl, HG.out⟩
    | true =>
      rw [hb] at HH
      rw [Bool.true_and]
      clear hb
      have HA := Lib.hid (alldec_any A3 l3 c3 ds _ HL3.out (by omega) HI.out (HN3.out.grow HG.out))
      go_enter Try.func75, Try.ntmps75
      go_wp2_with (first | (go_at_call 79; refine (HH.out).mono ?_; rintro e w2 ⟨rfl, rfl⟩) | fail)
      refine (HA.out).mono ?_
      rintro e w3 ⟨rfl, hw3⟩
      go_wp2
      go_ret
      exact ⟨rfl, HG.out.trans hw3⟩
  by_cases k5 : k = 5
  · subst k5
    have E := Lib.hid (G5.out rfl)
    clear G1 G2 G3 G4 G5 G6
    have HH := Lib.hid (has_any 0 0 w.heap.size 5 A1 l1 c1 A2 l2 c2 A3 l3 c3 _ HB.out h2 h3)
    rw [E.out]
    clear E
    go_enter Try.func75, Try.ntmps75
    go_wp2_with (go_at_call 79; refine (HH.out).mono ?_; rintro e w2 ⟨rfl, rfl⟩)
    go_ret
    exact ⟨rfl, HG.out⟩
  have E := Lib.hid (G6.out k1 k2 k3 k4 k5)
  rw [E.out]
  have q1 : (k == 1) = false := by simpa using k1
  have q2 : (k == 2) = false := by simpa using k2
  have q3 : (k == 3) = false := by simpa using k3
  have q4 : (k == 4) = false := by simpa using k4
  have q5 : (k == 5) = false := by simpa using k5
  clear G1 G2 G3 G4 G5 G6 E
  go_enter Try.func75, Try.ntmps75
  go_wp2
  go_ret
  exact ⟨rfl, HG.out⟩
end Go.Proofs.Ytcljpcbgokgcdaa
end

section
/-
  What array.itemsOf comes to, called with any node.
-/
namespace Go.Proofs.Ytcljpcbgokgcdaa
open Go.RowKit Go.Lib
set_option linter.unusedSimpArgs false
set_option linter.unusedVariables false

theorem cnt_le1 (xs : List Int) : cnt xs ≤ 1048576 := by
  unfold cnt
  split
  · exact (right_iff.1 (by assumption)).2.2
  · omega
theorem itm_le (n : Nd) : itm n ≤ 1048576 := by
  unfold itm
  split
  · exact cnt_le1 _
  · omega
def SaysN (c : Nat) (β : Bool) (w : World) (e : Ending) (w' : World) : Prop := e = .returned (.tuple #[.int .i64 (c : Nat), .bool β]) ∧ Grow w w'

set_option maxRecDepth 10000 in
set_option maxHeartbeats 1600000 in
theorem itemsOf_any (n : Nd) (A1 A2 A3 : Option Addr) (c1 c2 c3 : Nat) (w : World) (hf : Fit n) (hn : IsNd w w.heap.size A1 A2 A3 n) :
    Calls Try.prog 64 #[.agg #[.int .i64 n.kind, .slice A1 n.shp.length c1, .slice A2 n.ints.length c2, .slice A3 n.decs.length c3]] w (SaysN (itm n) (okB n) w) := by
  obtain ⟨C, hC⟩ : ∃ C, cnt n.shp = C := ⟨_, rfl⟩
  obtain ⟨β, hβ⟩ : ∃ β, rightB n.shp = β := ⟨_, rfl⟩
  obtain ⟨γ, hγ⟩ : ∃ γ, fillB n C = γ := ⟨_, rfl⟩
  have hC1 : C ≤ 1048576 := hC ▸ cnt_le1 _
  have hm : n.shp.length ≤ 9223372036854775807 := by have := hf.2.1; omega
  have HCO := Lib.hid (fun W h => count_any A1 n.shp.length c1 n.shp W rfl hm h)
  rw [hC, hβ] at HCO
  have HFI := Lib.hid (fun W h => filled_any n C A1 A2 A3 c1 c2 c3 W hC1 hf h)
  rw [hγ] at HFI
  have HO : Hid (okB n = (β && γ)) := Lib.hid (by unfold okB; rw [hβ, hC, hγ])
  have HI : Hid (itm n = if (β && γ) = true then C else 0) := Lib.hid (by unfold itm; rw [HO.out, hC])
  have HN := Lib.hid hn
  clear hC hβ hγ hf hn
  generalize okB n = ω at *
  generalize itm n = ι at *
  have HB := Lib.hid (boxN_new w n.kind A1 n.shp.length c1 A2 n.ints.length c2 A3 n.decs.length c3)
  have HG := Lib.hid (grow_new w (.cells #[.int .i64 n.kind, .slice A1 n.shp.length c1, .slice A2 n.ints.length c2, .slice A3 n.decs.length c3] 30))
  generalize n.shp.length = l1 at *
  generalize n.ints.length = l2 at *
  generalize n.decs.length = l3 at *
  generalize n.kind = k at *
  go_enter Try.func64, Try.ntmps64
  go_wp2_with fail
  refine (HCO.out _ (HN.out.1.grow HG.out)).mono ?_
  rintro e w2 ⟨rfl, hw2⟩
  have HG2 := Lib.hid (show Grow w w2 by rw [hw2]; exact HG.out)
  have HB2 : BoxN w2 w.heap.size k A1 l1 c1 A2 l2 c2 A3 l3 c3 := by rw [hw2]; exact HB.out
  have g0 := HB2.at0
  have g1 := HB2.at1
  have g2 := HB2.at2
  have g3 := HB2.at3
  have HB3 := Lib.hid HB2
  clear hw2 HB2 HCO
  cases β with
  | false =>
    have HI' : Hid (ι = 0) := Lib.hid (by rw [HI.out]; rfl)
    have HO' : Hid (ω = false) := Lib.hid (by rw [HO.out]; rfl)
    clear HI HO
    go_wp2
    go_ret2
    exact ⟨by rw [HI'.out, HO'.out]; rfl, HG2.out⟩
  | true =>
    go_wp2_with fail
    refine (HFI.out _ (HN.out.grow HG2.out)).mono ?_
    rintro e w3 ⟨rfl, hw3⟩
    have HG3 := Lib.hid (HG2.out.trans hw3)
    clear hw3 HFI
    cases γ with
    | false =>
      have HI' : Hid (ι = 0) := Lib.hid (by rw [HI.out]; rfl)
      have HO' : Hid (ω = false) := Lib.hid (by rw [HO.out]; rfl)
      clear HI HO
      go_wp2
      go_ret2
      exact ⟨by rw [HI'.out, HO'.out]; rfl, HG3.out⟩
    | true =>
      have HI' : Hid (ι = C) := Lib.hid (by rw [HI.out]; rfl)
      have HO' : Hid (ω = true) := Lib.hid (by rw [HO.out]; rfl)
      clear HI HO
      go_wp2
      go_ret2
      exact ⟨by rw [HI'.out, HO'.out]; rfl, HG3.out⟩
end Go.Proofs.Ytcljpcbgokgcdaa
end
