/-
  What is asked of the kids: is one deep, a sign, a number?
-/
import Derived.Test.YtcljpcbgokgcdaaLooks
namespace Go.Proofs.Ytcljpcbgokgcdaa
open Go.RowKit Go.Lib
set_option linter.unusedSimpArgs false
set_option linter.unusedVariables false

def nval (n : Nd) (A1 : Option Addr) (c1 : Nat) (A2 : Option Addr) (c2 : Nat) (A3 : Option Addr) (c3 : Nat) : Value := .agg #[.int .i64 n.kind, .slice A1 n.shp.length c1, .slice A2 n.ints.length c2, .slice A3 n.decs.length c3]

theorem deep1_any (n : Nd) (A1 A2 A3 : Option Addr) (c1 c2 c3 : Nat) (w : World) :
    Calls Try.prog 86 #[.agg #[.int .i64 n.kind, .slice A1 n.shp.length c1, .slice A2 n.ints.length c2, .slice A3 n.decs.length c3]] w (Says (deepB n) w) := by
  obtain ⟨k, sh, xs, ds⟩ := n
  dsimp only
  obtain ⟨l, hl⟩ : ∃ l, sh.length = l := ⟨_, rfl⟩
  have e : deepB ⟨k, sh, xs, ds⟩ = (k == 5 || decide (0 < l)) := by rw [← hl]; rfl
  rw [e, hl]
  clear e hl
  have HB := boxN_new w k A1 l c1 A2 xs.length c2 A3 ds.length c3
  have b0 := HB.at0
  have b1 := HB.at1
  have HG := Lib.hid (grow_new w (.cells #[.int .i64 k, .slice A1 l c1, .slice A2 xs.length c2, .slice A3 ds.length c3] 30))
  clear HB
  by_cases h5 : k = 5
  · subst h5
    go_enter Try.func86, Try.ntmps86
    go_wp2
    go_ret
    exact ⟨rfl, HG.out⟩
  · have h5' : (k == 5) = false := by simpa using h5
    rw [h5', Bool.false_or]
    by_cases h0 : 0 < l
    · have hi : (0 : Int) < ((l : Nat) : Int) := by omega
      rw [decide_eq_true h0]
      go_enter Try.func86, Try.ntmps86
      go_wp2
      go_ret
      exact ⟨rfl, HG.out⟩
    · obtain rfl : l = 0 := by omega
      go_enter Try.func86, Try.ntmps86
      go_wp2
      go_ret
      exact ⟨rfl, HG.out⟩
theorem sign1_any (n : Nd) (A1 A2 A3 : Option Addr) (c1 c2 c3 : Nat) (w : World) :
    Calls Try.prog 87 #[.agg #[.int .i64 n.kind, .slice A1 n.shp.length c1, .slice A2 n.ints.length c2, .slice A3 n.decs.length c3]] w (Says (signN n) w) := by
  obtain ⟨k, sh, xs, ds⟩ := n
  dsimp only
  have e : signN ⟨k, sh, xs, ds⟩ = (k == 3) := rfl
  rw [e]
  have HB := boxN_new w k A1 sh.length c1 A2 xs.length c2 A3 ds.length c3
  have b0 := HB.at0
  have HG := Lib.hid (grow_new w (.cells #[.int .i64 k, .slice A1 sh.length c1, .slice A2 xs.length c2, .slice A3 ds.length c3] 30))
  clear HB e
  by_cases h3 : k = 3
  · subst h3
    go_enter Try.func87, Try.ntmps87
    go_wp2
    go_ret
    exact ⟨rfl, HG.out⟩
  · have h3' : (k == 3) = false := by simpa using h3
    rw [h3']
    go_enter Try.func87, Try.ntmps87
    go_wp2
    go_ret
    exact ⟨rfl, HG.out⟩
/-- a variable that holds the function 'sign' -/
def SignVar (w : World) (pb : Nat) : Prop := w.heap[pb]? = some (.cells #[.func (.func 87) #[] #[]] 88 (0, 0))
theorem SignVar.grow {w w' : World} {pb : Nat} (h : SignVar w pb) (hg : Grow w w') : SignVar w' pb := (hg.block pb (heap_lt h)).trans h
theorem SignVar.at_ {w : World} {pb : Nat} (h : SignVar w pb) : w.cell? ⟨pb, 0, none⟩ = some (.func (.func 87) #[] #[]) := cell_of_row w pb 0 _ _ (0, 0) h
theorem num1_any (n : Nd) (A1 A2 A3 : Option Addr) (c1 c2 c3 : Nat) (pb : Nat) (w : World) (hp : SignVar w pb) :
    Calls Try.prog 88 #[.agg #[.int .i64 n.kind, .slice A1 n.shp.length c1, .slice A2 n.ints.length c2, .slice A3 n.decs.length c3], .pointer (some ⟨pb, 0, none⟩)] w (Says (numN n) w) := by
  have HC := Lib.hid (fun W => sign1_any n A1 A2 A3 c1 c2 c3 W)
  have e : numN n = !signN n := rfl
  rw [e]
  generalize signN n = β at *
  clear e
  obtain ⟨k, sh, xs, ds⟩ := n
  dsimp only at HC
  dsimp only
  have HB := boxN_new w k A1 sh.length c1 A2 xs.length c2 A3 ds.length c3
  have b0 := HB.at0
  have b1 := HB.at1
  have b2 := HB.at2
  have b3 := HB.at3
  have HG := Lib.hid (grow_new w (.cells #[.int .i64 k, .slice A1 sh.length c1, .slice A2 xs.length c2, .slice A3 ds.length c3] 30))
  have p0 := (hp.grow HG.out).at_
  clear HB hp
  cases β with
  | true =>
    go_enter Try.func88, Try.ntmps88
    go_wp2_with (go_at_call 87; refine (HC.out _).mono ?_; rintro e w2 ⟨rfl, hw2⟩)
    go_ret
    exact ⟨rfl, HG.out.trans hw2⟩
  | false =>
    go_enter Try.func88, Try.ntmps88
    go_wp2_with (go_at_call 87; refine (HC.out _).mono ?_; rintro e w2 ⟨rfl, hw2⟩)
    go_ret
    exact ⟨rfl, HG.out.trans hw2⟩

theorem any_none {p : Nd → Bool} {xs : List Nd} {k : Nat} (h : k < xs.length) (hx : p (xs.getD k nd0) = false) : (xs.drop k).any p = (xs.drop (k + 1)).any p := by
  rw [drop_nd h, List.any_cons, hx, Bool.false_or]
theorem any_some {p : Nd → Bool} {xs : List Nd} {k : Nat} (h : k < xs.length) (hx : p (xs.getD k nd0) = true) : (xs.drop k).any p = true := by
  rw [drop_nd h, List.any_cons, hx, Bool.true_or]
def FindsN (β : Bool) (w : World) (e : Ending) (w' : World) : Prop := ∃ j : Int, e = .returned (.int .i64 j) ∧ decide (0 ≤ j) = β ∧ Grow w w'

set_option maxRecDepth 10000 in
set_option maxHeartbeats 800000 in
theorem index_deep_any (A : Option Addr) (n c : Nat) (xs : List Nd) (w : World) (hn : xs.length = n) (hm : n ≤ 1100000) (hr : Nodes w w.heap.size A xs) :
    Calls Try.prog 90 #[.slice A n c, .func (.func 86) #[] #[]] w (FindsN (xs.any deepB) w) := by
  have HR := Lib.hid hr
  have HN := Lib.hid hn
  skip
  clear hr hn
  go_enter Try.func90, Try.ntmps90
  go_wp2
  go_loopg [8] n (fun g s8 wr => ∃ k : Nat, k ≤ n ∧ g = n - k ∧ s8 = .int .i64 k ∧ Hid ((xs.drop k).any deepB = xs.any deepB) ∧ Hid (Grow w wr))
  case atStart => exact ⟨0, Nat.zero_le _, rfl, rfl, Lib.hid rfl, Lib.hid (Grow.refl _)⟩
  case round =>
    obtain ⟨k, hk, rfl, rfl, HA, HG⟩ := hrel
    by_cases hlt : k < n
    · have hlti : ((k : Nat) : Int) < ((n : Nat) : Int) := by omega
      have hkl : k < xs.length := by rw [HN.out]; exact hlt
      obtain ⟨b, off, rfl, hb, hc⟩ := HR.out.grow HG.out (by omega)
      obtain ⟨A1, c1, A2, c2, A3, c3, p0, p1, p2, p3, hnd⟩ := hc k hkl
      have HT := Lib.hid (fun h => any_some (p := deepB) hkl h)
      have HF := Lib.hid (fun h => any_none (p := deepB) hkl h)
      clear hc hb hnd hkl
      generalize xs.getD k nd0 = x at p0 p1 p2 p3 HT HF
      have HC := Lib.hid (deep1_any x A1 A2 A3 c1 c2 c3 wr)
      cases hx : deepB x with
      | true =>
        have HT' := Lib.hid (HT.out hx)
        rw [hx] at HC
        clear hx HT HF
        go_wp2_with (go_at_call 86; refine (HC.out).mono ?_; rintro e w2 ⟨rfl, hg2⟩)
        go_ret
        refine ⟨_, rfl, ?_, HG.out.trans hg2⟩
        rw [← HA.out, HT'.out]
        simp
      | false =>
        have HF' := Lib.hid (HF.out hx)
        rw [hx] at HC
        clear hx HT HF
        go_wp2_with (go_at_call 86; refine (HC.out).mono ?_; rintro e w2 ⟨rfl, hg2⟩)
        go_roundg (n - (k + 1))
        case rel => exact ⟨k + 1, by omega, rfl, by go_num, Lib.hid (HF'.out.symm.trans HA.out), Lib.hid (HG.out.trans hg2)⟩
        case measure => omega
    · obtain rfl : n = k := by omega
      have HF := Lib.hid (show xs.any deepB = false by rw [← HA.out, List.drop_of_length_le (by rw [HN.out]; exact Nat.le_refl _)]; rfl)
      go_wp2
      go_ret
      refine ⟨_, rfl, ?_, HG.out⟩
      rw [HF.out]
      rfl
theorem contains_deep_any (A : Option Addr) (n c : Nat) (xs : List Nd) (w : World) (hn : xs.length = n) (hm : n ≤ 1100000) (hr : Nodes w w.heap.size A xs) :
    Calls Try.prog 85 #[.slice A n c, .func (.func 86) #[] #[]] w (Says (xs.any deepB) w) := by
  have HI := Lib.hid (index_deep_any A n c xs w hn hm hr)
  clear hn hr
  generalize xs.any deepB = β at *
  go_enter Try.func85, Try.ntmps85
  go_wp2_with fail
  refine (HI.out).mono ?_
  rintro e w2 ⟨j, rfl, hj, hg⟩
  cases β with
  | true =>
    have hj' : (0 : Int) ≤ j := by simpa using hj
    have hj2 : decide (j ≥ 0) = true := by simpa using hj'
    clear hj
    go_wp2
    go_ret
    exact ⟨by simp [hj'], hg⟩
  | false =>
    have hj' : ¬ (0 : Int) ≤ j := by simpa using hj
    clear hj
    go_wp2
    go_ret
    exact ⟨by simp [hj'], hg⟩
theorem has_deep_any (A : Option Addr) (n c kb : Nat) (xs : List Nd) (w : World) (hn : xs.length = n) (hm : n ≤ 1100000) (hr : Nodes w w.heap.size A xs) (hk : w.cell? ⟨kb, 0, none⟩ = some (.slice A n c)) :
    Calls Try.prog 84 #[.func (.func 86) #[] #[], .pointer (some ⟨kb, 0, none⟩)] w (Says (xs.any deepB) w) := by
  have HI := Lib.hid (contains_deep_any A n c xs w hn hm hr)
  clear hn hr
  generalize xs.any deepB = β at *
  go_enter Try.func84, Try.ntmps84
  go_wp2_with fail
  refine (HI.out).mono ?_
  rintro e w2 ⟨rfl, hg⟩
  go_wp2
  go_ret
  exact ⟨rfl, hg⟩

set_option maxRecDepth 10000 in
set_option maxHeartbeats 800000 in
theorem index_sign_any (A : Option Addr) (n c : Nat) (xs : List Nd) (w : World) (hn : xs.length = n) (hm : n ≤ 1100000) (hr : Nodes w w.heap.size A xs) :
    Calls Try.prog 90 #[.slice A n c, .func (.func 87) #[] #[]] w (FindsN (xs.any signN) w) := by
  have HR := Lib.hid hr
  have HN := Lib.hid hn
  skip
  clear hr hn
  go_enter Try.func90, Try.ntmps90
  go_wp2
  go_loopg [8] n (fun g s8 wr => ∃ k : Nat, k ≤ n ∧ g = n - k ∧ s8 = .int .i64 k ∧ Hid ((xs.drop k).any signN = xs.any signN) ∧ Hid (Grow w wr))
  case atStart => exact ⟨0, Nat.zero_le _, rfl, rfl, Lib.hid rfl, Lib.hid (Grow.refl _)⟩
  case round =>
    obtain ⟨k, hk, rfl, rfl, HA, HG⟩ := hrel
    by_cases hlt : k < n
    · have hlti : ((k : Nat) : Int) < ((n : Nat) : Int) := by omega
      have hkl : k < xs.length := by rw [HN.out]; exact hlt
      obtain ⟨b, off, rfl, hb, hc⟩ := HR.out.grow HG.out (by omega)
      obtain ⟨A1, c1, A2, c2, A3, c3, p0, p1, p2, p3, hnd⟩ := hc k hkl
      have HT := Lib.hid (fun h => any_some (p := signN) hkl h)
      have HF := Lib.hid (fun h => any_none (p := signN) hkl h)
      clear hc hb hnd hkl
      generalize xs.getD k nd0 = x at p0 p1 p2 p3 HT HF
      have HC := Lib.hid (sign1_any x A1 A2 A3 c1 c2 c3 wr)
      cases hx : signN x with
      | true =>
        have HT' := Lib.hid (HT.out hx)
        rw [hx] at HC
        clear hx HT HF
        go_wp2_with (go_at_call 87; refine (HC.out).mono ?_; rintro e w2 ⟨rfl, hg2⟩)
        go_ret
        refine ⟨_, rfl, ?_, HG.out.trans hg2⟩
        rw [← HA.out, HT'.out]
        simp
      | false =>
        have HF' := Lib.hid (HF.out hx)
        rw [hx] at HC
        clear hx HT HF
        go_wp2_with (go_at_call 87; refine (HC.out).mono ?_; rintro e w2 ⟨rfl, hg2⟩)
        go_roundg (n - (k + 1))
        case rel => exact ⟨k + 1, by omega, rfl, by go_num, Lib.hid (HF'.out.symm.trans HA.out), Lib.hid (HG.out.trans hg2)⟩
        case measure => omega
    · obtain rfl : n = k := by omega
      have HF := Lib.hid (show xs.any signN = false by rw [← HA.out, List.drop_of_length_le (by rw [HN.out]; exact Nat.le_refl _)]; rfl)
      go_wp2
      go_ret
      refine ⟨_, rfl, ?_, HG.out⟩
      rw [HF.out]
      rfl
theorem contains_sign_any (A : Option Addr) (n c : Nat) (xs : List Nd) (w : World) (hn : xs.length = n) (hm : n ≤ 1100000) (hr : Nodes w w.heap.size A xs) :
    Calls Try.prog 85 #[.slice A n c, .func (.func 87) #[] #[]] w (Says (xs.any signN) w) := by
  have HI := Lib.hid (index_sign_any A n c xs w hn hm hr)
  clear hn hr
  generalize xs.any signN = β at *
  go_enter Try.func85, Try.ntmps85
  go_wp2_with fail
  refine (HI.out).mono ?_
  rintro e w2 ⟨j, rfl, hj, hg⟩
  cases β with
  | true =>
    have hj' : (0 : Int) ≤ j := by simpa using hj
    have hj2 : decide (j ≥ 0) = true := by simpa using hj'
    clear hj
    go_wp2
    go_ret
    exact ⟨by simp [hj'], hg⟩
  | false =>
    have hj' : ¬ (0 : Int) ≤ j := by simpa using hj
    clear hj
    go_wp2
    go_ret
    exact ⟨by simp [hj'], hg⟩
theorem has_sign_any (A : Option Addr) (n c kb : Nat) (xs : List Nd) (w : World) (hn : xs.length = n) (hm : n ≤ 1100000) (hr : Nodes w w.heap.size A xs) (hk : w.cell? ⟨kb, 0, none⟩ = some (.slice A n c)) :
    Calls Try.prog 84 #[.func (.func 87) #[] #[], .pointer (some ⟨kb, 0, none⟩)] w (Says (xs.any signN) w) := by
  have HI := Lib.hid (contains_sign_any A n c xs w hn hm hr)
  clear hn hr
  generalize xs.any signN = β at *
  go_enter Try.func84, Try.ntmps84
  go_wp2_with fail
  refine (HI.out).mono ?_
  rintro e w2 ⟨rfl, hg⟩
  go_wp2
  go_ret
  exact ⟨rfl, hg⟩

set_option maxRecDepth 10000 in
set_option maxHeartbeats 800000 in
theorem index_num_any (A : Option Addr) (n c : Nat) (xs : List Nd) (w : World) (hn : xs.length = n) (hm : n ≤ 1100000) (hr : Nodes w w.heap.size A xs) (pb : Nat) (hp : SignVar w pb) :
    Calls Try.prog 90 #[.slice A n c, .func (.func 88) #[] #[.pointer (some ⟨pb, 0, none⟩)]] w (FindsN (xs.any numN) w) := by
  have HR := Lib.hid hr
  have HN := Lib.hid hn
  have HP := Lib.hid hp
  clear hr hn hp
  go_enter Try.func90, Try.ntmps90
  go_wp2
  go_loopg [8] n (fun g s8 wr => ∃ k : Nat, k ≤ n ∧ g = n - k ∧ s8 = .int .i64 k ∧ Hid ((xs.drop k).any numN = xs.any numN) ∧ Hid (Grow w wr))
  case atStart => exact ⟨0, Nat.zero_le _, rfl, rfl, Lib.hid rfl, Lib.hid (Grow.refl _)⟩
  case round =>
    obtain ⟨k, hk, rfl, rfl, HA, HG⟩ := hrel
    by_cases hlt : k < n
    · have hlti : ((k : Nat) : Int) < ((n : Nat) : Int) := by omega
      have hkl : k < xs.length := by rw [HN.out]; exact hlt
      obtain ⟨b, off, rfl, hb, hc⟩ := HR.out.grow HG.out (by omega)
      obtain ⟨A1, c1, A2, c2, A3, c3, p0, p1, p2, p3, hnd⟩ := hc k hkl
      have HT := Lib.hid (fun h => any_some (p := numN) hkl h)
      have HF := Lib.hid (fun h => any_none (p := numN) hkl h)
      clear hc hb hnd hkl
      generalize xs.getD k nd0 = x at p0 p1 p2 p3 HT HF
      have HC := Lib.hid (num1_any x A1 A2 A3 c1 c2 c3 pb wr (HP.out.grow HG.out))
      cases hx : numN x with
      | true =>
        have HT' := Lib.hid (HT.out hx)
        rw [hx] at HC
        clear hx HT HF
        go_wp2_with (go_at_call 88; refine (HC.out).mono ?_; rintro e w2 ⟨rfl, hg2⟩)
        go_ret
        refine ⟨_, rfl, ?_, HG.out.trans hg2⟩
        rw [← HA.out, HT'.out]
        simp
      | false =>
        have HF' := Lib.hid (HF.out hx)
        rw [hx] at HC
        clear hx HT HF
        go_wp2_with (go_at_call 88; refine (HC.out).mono ?_; rintro e w2 ⟨rfl, hg2⟩)
        go_roundg (n - (k + 1))
        case rel => exact ⟨k + 1, by omega, rfl, by go_num, Lib.hid (HF'.out.symm.trans HA.out), Lib.hid (HG.out.trans hg2)⟩
        case measure => omega
    · obtain rfl : n = k := by omega
      have HF := Lib.hid (show xs.any numN = false by rw [← HA.out, List.drop_of_length_le (by rw [HN.out]; exact Nat.le_refl _)]; rfl)
      go_wp2
      go_ret
      refine ⟨_, rfl, ?_, HG.out⟩
      rw [HF.out]
      rfl
theorem contains_num_any (A : Option Addr) (n c : Nat) (xs : List Nd) (w : World) (hn : xs.length = n) (hm : n ≤ 1100000) (hr : Nodes w w.heap.size A xs) (pb : Nat) (hp : SignVar w pb) :
    Calls Try.prog 85 #[.slice A n c, .func (.func 88) #[] #[.pointer (some ⟨pb, 0, none⟩)]] w (Says (xs.any numN) w) := by
  have HI := Lib.hid (index_num_any A n c xs w hn hm hr pb hp)
  clear hn hr hp
  generalize xs.any numN = β at *
  go_enter Try.func85, Try.ntmps85
  go_wp2_with fail
  refine (HI.out).mono ?_
  rintro e w2 ⟨j, rfl, hj, hg⟩
  cases β with
  | true =>
    have hj' : (0 : Int) ≤ j := by simpa using hj
    have hj2 : decide (j ≥ 0) = true := by simpa using hj'
    clear hj
    go_wp2
    go_ret
    exact ⟨by simp [hj'], hg⟩
  | false =>
    have hj' : ¬ (0 : Int) ≤ j := by simpa using hj
    clear hj
    go_wp2
    go_ret
    exact ⟨by simp [hj'], hg⟩
theorem has_num_any (A : Option Addr) (n c kb : Nat) (xs : List Nd) (w : World) (hn : xs.length = n) (hm : n ≤ 1100000) (hr : Nodes w w.heap.size A xs) (hk : w.cell? ⟨kb, 0, none⟩ = some (.slice A n c)) (pb : Nat) (hp : SignVar w pb) :
    Calls Try.prog 84 #[.func (.func 88) #[] #[.pointer (some ⟨pb, 0, none⟩)], .pointer (some ⟨kb, 0, none⟩)] w (Says (xs.any numN) w) := by
  have HI := Lib.hid (contains_num_any A n c xs w hn hm hr pb hp)
  clear hn hr hp
  generalize xs.any numN = β at *
  go_enter Try.func84, Try.ntmps84
  go_wp2_with fail
  refine (HI.out).mono ?_
  rintro e w2 ⟨rfl, hg⟩
  go_wp2
  go_ret
  exact ⟨rfl, hg⟩
end Go.Proofs.Ytcljpcbgokgcdaa
