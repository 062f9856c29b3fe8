/-
  Hold1, Holds, Raw, Concats, Held, one behind the other.
-/
import Derived.Test.YtcljpcbgokgcdaaCuts
import Derived.Test.YtcljpcbgokgcdaaFirsts
import Derived.Lib.AppendZerosOnto
import Derived.ArgAppend
import Derived.Laws.BitsAllLaws
section
/-
  What array.holds comes to, called with any node and any rows.
-/
namespace Go.Proofs.Ytcljpcbgokgcdaa
open Go.RowKit Go.Lib
set_option linter.unusedSimpArgs false
set_option linter.unusedVariables false

def holdB1 (m : Nat) (kid : List Nd) : Bool := rightA kid && (decide ((ws kid).d < 16) && decide (m + (ws kid).i ≤ 1048576))
def holdK : Nat → List (List Nd) → Bool
  | _, [] => true
  | m, k :: ks => holdB1 m k && holdK (m + (ws k).i) ks
def isum : List (List Nd) → Nat
  | [] => 0
  | k :: ks => (ws k).i + isum ks
theorem ws_le (ns : List Nd) : (ws ns).i ≤ 1048576 := by
  cases h : whlD ns with
  | none => rw [ws_none h]; simp [st0]
  | some s => rw [ws_some h]; exact (whl_some h).2.1
theorem ws_deep (ns : List Nd) : (ws ns).d ≤ 16 := by
  cases h : whlD ns with
  | none => rw [ws_none h]; simp [st0]
  | some s => rw [ws_some h]; exact (par_len (whl_some h).1).2.2.2
/-- the int stands in a block of its own -/
def IntAt (w : World) (b : Nat) (m : Nat) : Prop := w.heap[b]? = some (.cells #[.int .i64 (m : Nat)] 3 (0, 0))
theorem IntAt.grow {w w' : World} {b m : Nat} (h : IntAt w b m) (hg : Grow w w') : IntAt w' b m := (hg.block b (heap_lt h)).trans h
theorem KidsAt.below {w w' : World} {B : Nat} {A : Option Addr} {ks : List (List Nd)} (h : KidsAt w B A ks) (hg : Below B w w') : KidsAt w' B A ks := fun hn => by
  obtain ⟨b, off, e, hb, hc⟩ := h hn
  refine ⟨b, off, e, hb, fun i hi => ?_⟩
  obtain ⟨A', c', h1, h2, h3⟩ := hc i hi
  exact ⟨A', c', (hg.cell (p := ⟨b, off + i, none⟩) hb).trans h1, h2, h3.below hg⟩
theorem KidsAt.more {w : World} {B B' : Nat} {A : Option Addr} {ks : List (List Nd)} (h : KidsAt w B A ks) (hB : B ≤ B') : KidsAt w B' A ks := fun hn => by
  obtain ⟨b, off, e, hb, hc⟩ := h hn
  refine ⟨b, off, e, by omega, fun i hi => ?_⟩
  obtain ⟨A', c', h1, h2, h3⟩ := hc i hi
  exact ⟨A', c', h1, h2, h3.more hB⟩
def StepP (ib m : Nat) (β : Bool) (w : World) (e : Ending) (w' : World) : Prop := e = .returned (.bool β) ∧ Below ib w w' ∧ IntAt w' ib m

set_option maxRecDepth 10000 in
set_option maxHeartbeats 1600000 in
theorem hold1_any (A : Option Addr) (n c : Nat) (ns : List Nd) (ib m : Nat) (w : World) (hm : m ≤ 1048576) (hn : ns.length = n) (hnb : n ≤ 1100000) (hf : Fits ns) (hi : IntAt w ib m) (hns : Nodes w w.heap.size A ns) :
    Calls Try.prog 66 #[.slice A n c, .pointer (some ⟨ib, 0, none⟩)] w (StepP ib (m + (ws ns).i) (holdB1 m ns) w) := by
  have HC := Lib.hid (whole_any A n c ns w hn hnb hf hns)
  have hb1 := ws_le ns
  have hb2 := ws_deep ns
  have HH := Lib.hid (show holdB1 m ns = (rightA ns && (decide ((ws ns).d < 16) && decide (m + (ws ns).i ≤ 1048576))) from rfl)
  have HI := Lib.hid hi
  have HLT := Lib.hid (heap_lt hi)
  clear hn hf hns hi
  generalize holdB1 m ns = β at *
  generalize ws ns = s at *
  generalize rightA ns = γ at *
  obtain ⟨p, q, u, v⟩ := s
  dsimp only at *
  go_enter Try.func66, Try.ntmps66
  go_wp2_with fail
  refine (HC.out).mono ?_
  rintro x w2 ⟨rfl, hg⟩
  obtain ⟨w3, hw3⟩ : ∃ w3, w3 = w2.alloc (.cells #[.int .i64 (p : Nat), .int .i64 (q : Nat), .int .i64 (u : Nat), .int .i64 (v : Nat)] 54) := ⟨_, rfl⟩
  have HG3 := Lib.hid (show Grow w w3 by rw [hw3]; exact hg.trans (grow_new w2 _))
  have hst : StAt w3 w2.heap.size ⟨p, q, u, v⟩ := by rw [hw3]; exact heap_alloc_new w2 _
  have HI3 := Lib.hid (HI.out.grow HG3.out)
  have HST := Lib.hid hst
  have HNE := Lib.hid (show ib < w2.heap.size from Nat.lt_of_lt_of_le HLT.out hg.size)
  have ci : w3.cell? ⟨ib, 0, none⟩ = some (.int .i64 (m : Nat)) := cell_of_row w3 ib 0 _ _ (0, 0) HI3.out
  have fi : w3.frozen? ⟨ib, 0, none⟩ = false := frozen_of_row w3 ib 0 _ _ HI3.out
  have s1 := hst.at1
  have s2 := hst.at2
  have hne : ¬ w2.heap.size = ib := by have := HNE.out; omega
  have hne' : ¬ ib = w2.heap.size := by have := HNE.out; omega
  rw [hw3] at ci fi s1 s2
  have hsum : IntKind.i64.wrap (((m : Nat) : Int) + ((q : Nat) : Int)) = ((m + q : Nat) : Int) := by rw [IntKind.wrap_i64]; omega
  have HFIN : Hid (∀ W, W = w3.setCell ⟨ib, 0, none⟩ (.int .i64 ((m + q : Nat) : Int)) → Below ib w W ∧ IntAt W ib (m + q)) := Lib.hid (fun W e => by
    subst e
    have hbl : Below ib w w3 := Below.mono HG3.out (Nat.le_of_lt HLT.out)
    exact ⟨Below.setCell (p := ⟨ib, 0, none⟩) hbl (Nat.le_refl ib) _, heap_setCell_same w3 ib 0 _ _ _ HI3.out⟩)
  rw [hw3] at HFIN
  clear hg HC hst HG3 HI3 HST HI HNE HLT
  clear hw3
  cases γ with
  | false =>
    have HB : Hid (β = false) := Lib.hid (by rw [HH.out]; rfl)
    clear HH
    go_wp2
    go_ret
    exact ⟨by rw [HB.out]; rfl, HFIN.out _ (by first | rfl | simp)⟩
  | true =>
    by_cases hu : u < 16
    · have hui : ((u : Nat) : Int) < 16 := by omega
      by_cases hmq : m + q ≤ 1048576
      · have hmqi : ((m : Nat) : Int) + ((q : Nat) : Int) ≤ 1048576 := by omega
        have HB : Hid (β = true) := Lib.hid (by rw [HH.out]; simp [hu, hmq])
        clear HH
        go_wp2
        go_ret
        exact ⟨by rw [HB.out]; rfl, HFIN.out _ (by first | rfl | simp)⟩
      · have hmqi : decide (((m : Nat) : Int) + ((q : Nat) : Int) ≤ 1048576) = false := decide_eq_false (by omega)
        have HB : Hid (β = false) := Lib.hid (by rw [HH.out]; simp [hmq])
        clear HH
        go_wp2
        go_ret
        exact ⟨by rw [HB.out]; rfl, HFIN.out _ (by first | rfl | simp)⟩
    · have hui : ¬ ((u : Nat) : Int) < 16 := by omega
      have HB : Hid (β = false) := Lib.hid (by rw [HH.out]; simp [hu])
      clear HH
      go_wp2
      go_ret
      exact ⟨by rw [HB.out]; rfl, HFIN.out _ (by first | rfl | simp)⟩
end Go.Proofs.Ytcljpcbgokgcdaa
end

section
/-
  What array.all and array.holds come to, called with any node and any rows.
-/
namespace Go.Proofs.Ytcljpcbgokgcdaa
open Go.RowKit Go.Lib
set_option linter.unusedSimpArgs false
set_option linter.unusedVariables false

/-- rows that fit: none too great -/
def FitK (ks : List (List Nd)) : Prop := ∀ k ∈ ks, k.length ≤ 1100000 ∧ Fits k
theorem FitK.at_ {ks : List (List Nd)} (h : FitK ks) {k : Nat} (hk : k < ks.length) : (ks.getD k []).length ≤ 1100000 ∧ Fits (ks.getD k []) := by
  rw [show ks.getD k [] = ks[k] by simp [List.getD, hk]]
  exact h _ (List.getElem_mem hk)
theorem drop_kid {ks : List (List Nd)} {k : Nat} (h : k < ks.length) : ks.drop k = ks.getD k [] :: ks.drop (k + 1) := by
  rw [List.drop_eq_getElem_cons h]
  congr 1
  simp [List.getD, h]

set_option maxRecDepth 10000 in
set_option maxHeartbeats 1600000 in
theorem allk_any (A : Option Addr) (n c : Nat) (ks : List (List Nd)) (ib m B : Nat) (w : World) (hm : m ≤ 1048576) (hn : ks.length = n) (hnb : n ≤ 9223372036854775807) (hf : FitK ks) (hi : IntAt w ib m) (hB : B ≤ ib) (hks : KidsAt w B A ks) :
    Calls Try.prog 65 #[.slice A n c, .func (.func 66) #[] #[.pointer (some ⟨ib, 0, none⟩)]] w (fun e w' => e = .returned (.bool (holdK m ks)) ∧ Below ib w w') := by
  have HK := Lib.hid hks
  have HN := Lib.hid hn
  have HF := Lib.hid hf
  have HI := Lib.hid hi
  have HBI := Lib.hid hB
  clear hks hn hf hi hB
  go_enter Try.func65, Try.ntmps65
  go_wp2
  go_loopg [9] n (fun g s8 wr => ∃ k m' : Nat, k ≤ n ∧ g = n - k ∧ s8 = .int .i64 k ∧ m' ≤ 1048576 ∧ Hid (holdK m ks = holdK m' (ks.drop k)) ∧ Hid (IntAt wr ib m') ∧ Hid (Below ib w wr))
  case atStart => exact ⟨0, m, Nat.zero_le _, rfl, rfl, hm, Lib.hid rfl, HI, Lib.hid (Below.refl _ _)⟩
  case round =>
    obtain ⟨k, m', hk, rfl, rfl, hm', HA, HIW, HG⟩ := hrel
    by_cases hlt : k < n
    · have hkl : k < ks.length := by rw [HN.out]; exact hlt
      have HKW := Lib.hid (HK.out.below (Below.mono HG.out HBI.out))
      obtain ⟨b, off, rfl, hb, hcl⟩ := HKW.out (by omega)
      obtain ⟨A', c', hc, hlc, hnd⟩ := hcl k hkl
      have HD := Lib.hid (drop_kid hkl)
      obtain ⟨hl1, hl2⟩ := HF.out.at_ hkl
      have HND := Lib.hid (hnd.more (Nat.le_of_lt (Nat.lt_of_le_of_lt HBI.out (heap_lt HIW.out))))
      have HST := Lib.hid (hold1_any A' (ks.getD k []).length c' (ks.getD k []) ib m' wr hm' rfl hl1 hl2 HIW.out HND.out)
      clear hcl hkl hnd hl2 hlc
      generalize ks.getD k [] = kid at *
      have HE : Hid (holdK m' (ks.drop k) = (holdB1 m' kid && holdK (m' + (ws kid).i) (ks.drop (k + 1)))) := Lib.hid (by rw [HD.out]; rfl)
      have HBB : Hid (holdB1 m' kid = true → m' + (ws kid).i ≤ 1048576) := Lib.hid (fun h => by
        simp only [holdB1, Bool.and_eq_true, decide_eq_true_eq] at h
        exact h.2.2)
      generalize kid.length = lk at *
      cases hx : holdB1 m' kid with
      | true =>
        rw [hx] at HST
        have hle := HBB.out hx
        have HA' := Lib.hid (show holdK m ks = holdK (m' + (ws kid).i) (ks.drop (k + 1)) by rw [HA.out, HE.out, hx, Bool.true_and])
        clear hx HE HBB
        generalize m' + (ws kid).i = m'' at *
        go_wp2_with (go_at_call 66; refine (HST.out).mono ?_; rintro e w2 ⟨rfl, hb2, hi2⟩)
        go_roundg (n - (k + 1))
        case rel => exact ⟨k + 1, m'', by omega, rfl, by go_num, hle, HA', Lib.hid hi2, Lib.hid (Below.trans HG.out hb2)⟩
        case measure => omega
      | false =>
        rw [hx] at HST
        have HA' := Lib.hid (show holdK m ks = false by rw [HA.out, HE.out, hx, Bool.false_and])
        clear hx HE HBB
        generalize m' + (ws kid).i = m'' at *
        go_wp2_with (go_at_call 66; refine (HST.out).mono ?_; rintro e w2 ⟨rfl, hb2, hi2⟩)
        go_ret
        exact ⟨by rw [HA'.out]; rfl, Below.trans HG.out hb2⟩
    · obtain rfl : n = k := by omega
      have HE : Hid (holdK m ks = true) := Lib.hid (by rw [HA.out, List.drop_of_length_le (by rw [HN.out]; exact Nat.le_refl _)]; rfl)
      go_wp2
      go_ret
      exact ⟨by rw [HE.out]; rfl, HG.out⟩

set_option maxRecDepth 10000 in
set_option maxHeartbeats 1600000 in
theorem holds_any (nd : Nd) (A1 A2 A3 : Option Addr) (c1 c2 c3 : Nat) (A : Option Addr) (n c : Nat) (ks : List (List Nd)) (w : World) (hfn : Fit nd) (hnd : IsNd w w.heap.size A1 A2 A3 nd) (hn : ks.length = n) (hnb : n ≤ 9223372036854775807) (hf : FitK ks) (hks : KidsAt w w.heap.size A ks) :
    Calls Try.prog 41 #[.agg #[.int .i64 nd.kind, .slice A1 nd.shp.length c1, .slice A2 nd.ints.length c2, .slice A3 nd.decs.length c3], .slice A n c] w (Says (okB nd && (decide (n = itm nd) && holdK (itm nd) ks)) w) := by
  have hmf : ∀ (fn : Fn) (first cap : Array Value) (w : World), (Instr.makeFunc fn first cap).run Try.prog w = .ok (.func fn first cap) w := fun _ _ _ _ => rfl
  have HC := Lib.hid (fun W h => itemsOf_any nd A1 A2 A3 c1 c2 c3 W hfn h)
  have him := itm_le nd
  have HN := Lib.hid hn
  have HF := Lib.hid hf
  have HKS := Lib.hid hks
  have HND := Lib.hid hnd
  clear hfn hnd hn hf hks
  obtain ⟨β, hβ⟩ : ∃ β, holdK (itm nd) ks = β := ⟨_, rfl⟩
  have HAK := Lib.hid (fun ib W h1 h2 h3 => allk_any A n c ks ib (itm nd) w.heap.size W him HN.out hnb HF.out h1 h2 h3)
  rw [hβ] at HAK ⊢
  clear hβ
  generalize okB nd = ω at *
  generalize itm nd = ι at *
  generalize nd.shp.length = l1 at *
  generalize nd.ints.length = l2 at *
  generalize nd.decs.length = l3 at *
  generalize nd.kind = k at *
  go_enter Try.func41, Try.ntmps41
  go_wp2_with fail
  refine (HC.out _ (HND.out.grow (grow_new _ _))).mono ?_
  rintro x w2 ⟨rfl, hg⟩
  have HG2 := Lib.hid ((grow_new w _).trans hg)
  obtain ⟨w3, hw3⟩ : ∃ w3, w3 = w2.alloc (.cells #[.int .i64 (ι : Nat)] 3) := ⟨_, rfl⟩
  have hi3 : IntAt w3 w2.heap.size ι := by rw [hw3]; exact heap_alloc_new w2 _
  have HG3 := Lib.hid (show Grow w w3 by rw [hw3]; exact HG2.out.trans (grow_new _ _))
  have HAC := Lib.hid (HAK.out w2.heap.size w3 hi3 HG2.out.size (HKS.out.below HG3.out))
  have ci : w3.cell? ⟨w2.heap.size, 0, none⟩ = some (.int .i64 (ι : Nat)) := cell_of_row w3 w2.heap.size 0 _ _ (0, 0) hi3
  have HZ := Lib.hid HG2.out.size
  clear hg HC HAK hi3
  cases ω with
  | false =>
    rw [hw3] at ci HG3
    clear hw3 HAC
    go_wp2
    go_ret
    exact ⟨rfl, HG3.out⟩
  | true =>
    by_cases hne : n = ι
    · rw [decide_eq_true hne]
      subst hne
      have hnei : (((n : Nat) : Int) != ((n : Nat) : Int)) = false := by simp
      rw [hw3] at ci HG3 HAC
      clear hw3
      go_wp2_with fail
      refine (HAC.out).mono ?_
      rintro e w4 ⟨rfl, hb4⟩
      have HG4 := Lib.hid (Below.trans HG3.out (Below.mono hb4 HZ.out))
      clear HAC hb4 HG3
      go_wp2
      go_ret
      exact ⟨by simp, HG4.out⟩
    · have hnei : (((n : Nat) : Int) != ((ι : Nat) : Int)) = true := by simp; omega
      rw [decide_eq_false hne]
      rw [hw3] at ci HG3
      clear hw3 HAC
      go_wp2
      go_ret
      exact ⟨by simp [hne], HG3.out⟩
end Go.Proofs.Ytcljpcbgokgcdaa
end

section
/-
  The cells of rows of nodes, one row behind the other. Nothing is claimed here by itself.
-/
namespace Go.Proofs.Ytcljpcbgokgcdaa
open Go.RowKit Go.Lib
set_option linter.unusedSimpArgs false
set_option linter.unusedVariables false

/-- these cells are the nodes ns, whose rows lie below block B -/
def RawN (w : World) (B : Nat) (vals : List Value) (ns : List Nd) : Prop :=
  vals.length = ns.length * 4 ∧ ∀ i, i < ns.length → ∃ A1 c1 A2 c2 A3 c3, vals[i * 4]? = some (.int .i64 (ns.getD i nd0).kind) ∧ vals[i * 4 + 1]? = some (.slice A1 (ns.getD i nd0).shp.length c1) ∧
    vals[i * 4 + 2]? = some (.slice A2 (ns.getD i nd0).ints.length c2) ∧ vals[i * 4 + 3]? = some (.slice A3 (ns.getD i nd0).decs.length c3) ∧ IsNd w B A1 A2 A3 (ns.getD i nd0)
section
variable {w w' : World} {B B' : Nat} {vals us : List Value} {ns ms : List Nd}
theorem RawN.nil : RawN w B [] [] := ⟨rfl, fun i hi => absurd hi (by simp)⟩
theorem RawN.below (h : RawN w B vals ns) (hg : Below B w w') : RawN w' B vals ns := ⟨h.1, fun i hi => by
  obtain ⟨A1, c1, A2, c2, A3, c3, h0, h1, h2, h3, h4⟩ := h.2 i hi
  exact ⟨A1, c1, A2, c2, A3, c3, h0, h1, h2, h3, h4.below hg⟩⟩
theorem RawN.more (h : RawN w B vals ns) (hB : B ≤ B') : RawN w B' vals ns := ⟨h.1, fun i hi => by
  obtain ⟨A1, c1, A2, c2, A3, c3, h0, h1, h2, h3, h4⟩ := h.2 i hi
  exact ⟨A1, c1, A2, c2, A3, c3, h0, h1, h2, h3, h4.more hB⟩⟩
theorem RawN.app (h : RawN w B vals ns) (k : RawN w B us ms) : RawN w B (vals ++ us) (ns ++ ms) := by
  obtain ⟨hl, hh⟩ := h
  obtain ⟨kl, kh⟩ := k
  refine ⟨by rw [List.length_append, List.length_append, hl, kl]; omega, fun i hi => ?_⟩
  by_cases h : i < ns.length
  · have e : (ns ++ ms).getD i nd0 = ns.getD i nd0 := by simp [List.getD, List.getElem?_append_left h]
    rw [e]
    obtain ⟨A1, c1, A2, c2, A3, c3, h0, h1, h2, h3, h4⟩ := hh i h
    refine ⟨A1, c1, A2, c2, A3, c3, ?_, ?_, ?_, ?_, h4⟩
    all_goals (rw [List.getElem?_append_left (by omega)]; assumption)
  · rw [List.length_append] at hi
    have e : (ns ++ ms).getD i nd0 = ms.getD (i - ns.length) nd0 := by simp [List.getD, List.getElem?_append_right (Nat.le_of_not_lt h)]
    rw [e]
    obtain ⟨A1, c1, A2, c2, A3, c3, h0, h1, h2, h3, h4⟩ := kh (i - ns.length) (by omega)
    refine ⟨A1, c1, A2, c2, A3, c3, ?_, ?_, ?_, ?_, h4⟩
    · rw [List.getElem?_append_right (by omega), ← h0]; congr 1; omega
    · rw [List.getElem?_append_right (by omega), ← h1]; congr 1; omega
    · rw [List.getElem?_append_right (by omega), ← h2]; congr 1; omega
    · rw [List.getElem?_append_right (by omega), ← h3]; congr 1; omega
end
theorem raw_of {w : World} {B : Nat} {A : Option Addr} {ns : List Nd} (h : Nodes w B A ns) : ∃ vs, RawN w B vs ns ∧ Ones vs ∧ Src w A vs := by
  obtain ⟨vs, hl, h1, hs, hc⟩ := src_nodes h
  refine ⟨vs, ⟨hl, fun i hi => ?_⟩, h1, hs⟩
  obtain ⟨b, off, rfl, hb, hat⟩ := h (by omega)
  obtain ⟨A1, c1, A2, c2, A3, c3, p0, p1, p2, p3, hnd⟩ := hat i hi
  have cell : ∀ j v, j < ns.length * 4 → w.cell? ⟨b, off + j, none⟩ = some v → vs[j]? = some v := fun j v hj hv => by
    obtain ⟨u, hu, hcu⟩ := hc b off rfl j hj
    rw [hv] at hcu
    cases hcu
    exact hu
  exact ⟨A1, c1, A2, c2, A3, c3, cell _ _ (by omega) p0, cell _ _ (by omega) p1, cell _ _ (by omega) p2, cell _ _ (by omega) p3, hnd⟩
/-- a row of one's own with these cells holds the nodes -/
theorem own_nodes {w : World} {base n : Nat} {v : Value} {vals : List Value} {ns : List Nd} (ho : w.ownsRow base 30 4 v n vals) (hr : RawN w w.heap.size vals ns) (hn : ns.length = n) :
    ∃ A c, v = .slice A n c ∧ n ≤ c ∧ (A = none → c = 0) ∧ Nodes w w.heap.size A ns := by
  rcases ho.2 with ⟨rfl, h0⟩ | ⟨g, cap, cur, rfl, hbg, hgg, hnc, hcm, hsz, htake⟩
  · subst h0
    refine ⟨none, 0, rfl, Nat.le_refl _, fun _ => rfl, ?_⟩
    rw [List.eq_nil_of_length_eq_zero hn]
    exact Nodes.none_
  · refine ⟨some ⟨g, 0, none⟩, cap, rfl, hnc, (fun e => by cases e), fun hp => ⟨g, 0, rfl, heap_lt hgg, fun i hi => ?_⟩⟩
    obtain ⟨A1, c1, A2, c2, A3, c3, h0, h1, h2, h3, h4⟩ := hr.2 i hi
    have hl := hr.1
    have cell : ∀ j v, vals[j]? = some v → w.cell? ⟨g, j, none⟩ = some v := fun j v hv => by
      have hj : j < n * 4 := by
        have := (List.getElem?_eq_some_iff.1 hv).1
        omega
      rw [cell_of_row w g j cur _ (0, 0) hgg, ← hv, ← htake, List.getElem?_take, if_pos hj, Array.getElem?_toList]
    rw [Nat.zero_add]
    exact ⟨A1, c1, A2, c2, A3, c3, cell _ _ h0, cell _ _ h1, cell _ _ h2, cell _ _ h3, h4⟩
theorem ownsRow_grow {w w' : World} {base size n : Nat} {t : TypeId} {v : Value} {vals : List Value} (ho : w.ownsRow base t size v n vals) (hg : Grow w w') : w'.ownsRow base t size v n vals :=
  ⟨ho.1, by
    rcases ho.2 with h0 | ⟨g', cap', cur, hv, hbg, hgg, rest⟩
    · exact .inl h0
    · exact .inr ⟨g', cap', cur, hv, hbg, (hg.block g' (heap_lt hgg)).trans hgg, rest⟩⟩
/-- any nodes behind a row of one's own -/
theorem wpList_append_raw {ops : Array Oper} {rest : List Oper} {o : Oper} {a : Act} {w : World} {Q : Exit → Act → World → Prop} (hgd : o.guard = none) (s x : Operand)
    (ho : o.op = .call { callee := .builtin .append, args := #[s, x], argTypes := #[22, 22] }) (base B n m c : Nat) (v : Value) (vals : List Value) (ns ms : List Nd) (A : Option Addr)
    (hs : a.eval s = v) (hown : w.ownsRow base 30 4 v n vals) (hr : RawN w B vals ns) (hx : a.eval x = .slice A m c) (hm : ms.length = m) (hms : Nodes w B A ms) (h0 : 0 < m) (hb : n + m ≤ 1000000000) (hbase : base ≤ w.heap.size) (hB : B ≤ base)
    (h : ∀ v' w' vals', Hid (w'.ownsRow base 30 4 v' (n + m) vals') → Hid (RawN w' B vals' (ns ++ ms)) → Hid (Below base w w') → wpList Try.prog ops Q rest (a.put o.dst v') w') : wpList Try.prog ops Q (o :: rest) a w := by
  obtain ⟨i0, hi, hz0, hz1, hz2⟩ := info_of info_node
  obtain ⟨vs, hraw, hones, hsrc⟩ := raw_of hms
  have hvl : vs.length = m * 4 := by rw [hraw.1, hm]
  obtain ⟨ad, rfl, hcell⟩ := hsrc (by omega)
  refine wpList_append_own w hgd s x 22 ho base 30 i0 _ 4 80 Try.underlying22 hi hz0 hz1 hz2 rfl (by decide) v n vals hs hown ad m c vs hx hvl hcell hones (by unfold maxLen; omega) (by omega) hbase ?_
  intro v' w' hown' hgrow _
  have hbel : Below base w w' := Below.grown (Below.refl _ _) hgrow hbase (fun g hg => (hown.lt g hg).1)
  exact h v' w' _ (Lib.hid hown') (Lib.hid ((hr.below (Below.mono hbel hB)).app (hraw.below (Below.mono hbel hB)))) (Lib.hid hbel)
end Go.Proofs.Ytcljpcbgokgcdaa
end

section
/-
  What slices.Grow of nothing and slices.Concat come to, called with rows of nodes, none of which is empty.
-/
namespace Go.Proofs.Ytcljpcbgokgcdaa
open Go.RowKit Go.Lib
set_option linter.unusedSimpArgs false
set_option linter.unusedVariables false

def GrowsP (w : World) (e : Ending) (w' : World) : Prop := ∃ v, e = .returned v ∧ Grow w w' ∧ w'.ownsRow w.heap.size 30 4 v 0 []

set_option maxRecDepth 10000 in
set_option maxHeartbeats 1600000 in
theorem grow_any (n : Nat) (w : World) (hn : n ≤ 1100000) : Calls Try.prog 67 #[.slice none 0 0, .int .i64 (n : Nat)] w (GrowsP w) := by
  have h1 : ¬ (((n : Nat) : Int) < 0) := by omega
  by_cases h0 : n = 0
  · subst h0
    go_enter Try.func67, Try.ntmps67
    go_wp2
    go_ret
    exact ⟨_, rfl, Grow.refl _, World.ownsRow_nil _ _ _ _⟩
  · obtain ⟨i0, hi, hz0, hz1, hz2⟩ := info_of info_node
    have h4 : ((n : Nat) : Int) > 0 := by omega
    have hrz : ∀ ty, (Builtin.append_ #[22, 3] ty #[.slice none 0 0, .int .i64 ((n : Nat) : Int)]).run Try.prog w = .ok (.slice (some ⟨w.heap.size, 0, none⟩) n (grownCap w n 0 30))
        (w.drew.alloc (.cells ((#[] : Array Value) ++ Builtin.zeroCells (Value.agg #[.int .i64 0, .slice none 0 0, .slice none 0 0, .slice none 0 0]).cells n ++ Builtin.zeroCells (Value.agg #[.int .i64 0, .slice none 0 0, .slice none 0 0, .slice none 0 0]).cells (grownCap w n 0 30 - n)) 30)) := fun ty => by
      have h := Lib.run_append_grow_zeros w 22 3 ty 30 i0 _ .i64 .i64 Try.underlying22 Try.underlying3 hi hz0 none 0 0 [] (run_firstCells_none w.drew i0.size 0 0 0) n (by omega) (by omega) (by omega) (by omega) (by rw [hz2]; omega)
        (growslice_fits (by omega) (by rw [hz2]; omega))
      rw [Nat.zero_add] at h
      exact h
    have hge := grownCap_ge w n 0 30
    have hcm := grownCap_le_maxLen w n 0 30 (by unfold maxLen; omega)
    have HOWN : Hid (∀ G, n ≤ G → G ≤ maxLen → ∀ W : World, W.heap.size = w.heap.size → (W.alloc (.cells ((#[] : Array Value) ++ Builtin.zeroCells (Value.agg #[.int .i64 0, .slice none 0 0, .slice none 0 0, .slice none 0 0]).cells n ++ Builtin.zeroCells (Value.agg #[.int .i64 0, .slice none 0 0, .slice none 0 0, .slice none 0 0]).cells (G - n)) 30)).ownsRow w.heap.size 30 4 (.slice (some ⟨w.heap.size, 0, none⟩) 0 G) 0 []) := Lib.hid (fun G h1 h2 W hW =>
      ⟨rfl, .inr ⟨w.heap.size, G, _, rfl, Nat.le_refl _, by rw [← hW]; exact heap_alloc_new W _, Nat.zero_le _, h2, by
        simp only [Array.size_append, size_zeroCells]
        have : (Value.agg #[.int .i64 0, .slice none 0 0, .slice none 0 0, .slice none 0 0]).cells.size = 4 := rfl
        rw [this]
        simp
        omega, by simp⟩⟩)
    obtain ⟨G, hG⟩ : ∃ G, G = grownCap w n 0 30 := ⟨_, rfl⟩
    rw [← hG] at hrz hge hcm
    have HO := Lib.hid (HOWN.out G hge hcm w.drew rfl)
    have HGR := Lib.hid (show Grow w (w.drew.alloc (.cells ((#[] : Array Value) ++ Builtin.zeroCells (Value.agg #[.int .i64 0, .slice none 0 0, .slice none 0 0, .slice none 0 0]).cells n ++ Builtin.zeroCells (Value.agg #[.int .i64 0, .slice none 0 0, .slice none 0 0, .slice none 0 0]).cells (G - n)) 30)) from ((Grow.refl w).drew).trans (grow_new _ _))
    generalize w.drew.alloc _ = w2 at hrz HO HGR
    have hG63 : G ≤ 9223372036854775807 := by unfold maxLen at hcm; omega
    clear hG HOWN hcm
    go_enter Try.func67, Try.ntmps67
    go_wp2_with (at_builtin; refine Lib.wpList_append_run _ rfl _ _ _ _ rfl _ _ rfl rfl _ _ (hrz _) ?_)
    go_ret
    exact ⟨_, rfl, HGR.out, HO.out⟩

def flatK : List (List Nd) → List Nd
  | [] => []
  | k :: ks => k ++ flatK ks
theorem flatK_app (a b : List (List Nd)) : flatK (a ++ b) = flatK a ++ flatK b := by
  induction a with
  | nil => rfl
  | cons k a ih => simp only [List.cons_append, flatK, ih, List.append_assoc]
theorem flatK_step {ks : List (List Nd)} {k : Nat} (h : k < ks.length) : flatK (ks.take (k + 1)) = flatK (ks.take k) ++ ks.getD k [] := by
  rw [List.take_add_one, flatK_app]
  congr 1
  rw [List.getElem?_eq_getElem h]
  simp [flatK, List.getD, h]
theorem flatK_le (ks : List (List Nd)) (k : Nat) : (flatK (ks.take k)).length ≤ (flatK ks).length := by
  have h : flatK (ks.take k ++ ks.drop k) = flatK ks := by rw [List.take_append_drop]
  rw [← h, flatK_app, List.length_append]
  omega
def ConcP (ks : List (List Nd)) (w : World) (e : Ending) (w' : World) : Prop :=
  ∃ v vals, e = .returned v ∧ Grow w w' ∧ w'.ownsRow w.heap.size 30 4 v (flatK ks).length vals ∧ RawN w' w.heap.size vals (flatK ks)

set_option maxRecDepth 10000 in
set_option maxHeartbeats 3200000 in
theorem concat_any (A : Option Addr) (n c : Nat) (ks : List (List Nd)) (w : World) (hn : ks.length = n) (hnb : n ≤ 9223372036854775807) (hne : ∀ k ∈ ks, k ≠ []) (hT : (flatK ks).length ≤ 1100000) (hks : KidsAt w w.heap.size A ks) :
    Calls Try.prog 42 #[.slice A n c] w (ConcP ks w) := by
  have HK := Lib.hid hks
  have HN := Lib.hid hn
  have HNE : Hid (∀ k, k < ks.length → 0 < (ks.getD k []).length) := Lib.hid (fun k hk => by
    rw [show ks.getD k [] = ks[k] by simp [List.getD, hk]]
    exact List.length_pos_iff.2 (hne _ (List.getElem_mem hk)))
  have HT := Lib.hid hT
  have HGR := Lib.hid (grow_any (flatK ks).length w hT)
  clear hks hn hne hT
  go_enter Try.func42, Try.ntmps42
  go_wp2
  go_loopg [3, 11] n (fun g s3 s11 wr => ∃ k t : Nat, k ≤ n ∧ g = n - k ∧ s11 = .int .i64 k ∧ s3 = .int .i64 t ∧ Hid (t = (flatK (ks.take k)).length) ∧ w = wr)
  case atStart => exact ⟨0, 0, Nat.zero_le _, rfl, rfl, rfl, Lib.hid rfl, rfl⟩
  case round =>
    obtain ⟨k, t, hk, rfl, rfl, rfl, HTK, rfl⟩ := hrel
    by_cases hlt : k < n
    · have hkl : k < ks.length := by rw [HN.out]; exact hlt
      obtain ⟨b, off, rfl, hb, hcl⟩ := HK.out (by omega)
      obtain ⟨A', c', hc, hlc, hnd⟩ := hcl k hkl
      have HST := Lib.hid (flatK_step hkl)
      have hle := flatK_le ks (k + 1)
      rw [HST.out, List.length_append, ← HTK.out] at hle
      have HTT := HT.out
      clear hcl hnd
      generalize hlk : (ks.getD k []).length = lk at *
      have hw1 : IntKind.i64.wrap (((t : Nat) : Int) + ((lk : Nat) : Int)) = ((t + lk : Nat) : Int) := by rw [IntKind.wrap_i64]; omega
      have hge : ¬ (((t : Nat) : Int) + ((lk : Nat) : Int) < 0) := by omega
      have HLK := Lib.hid hlk
      have HSM : t + lk ≤ 1100000 := by omega
      clear hlk hle HTT
      go_wp2
      go_roundg (n - (k + 1))
      case rel => exact ⟨k + 1, t + lk, by omega, rfl, by go_num, by go_num, Lib.hid (by rw [HST.out, List.length_append, ← HTK.out, HLK.out]), rfl⟩
      case measure => omega
    · obtain rfl : n = k := by omega
      have HTE : Hid (t = (flatK ks).length) := Lib.hid (by rw [HTK.out, List.take_of_length_le (by rw [HN.out]; exact Nat.le_refl _)])
      rw [← HTE.out] at HGR
      clear HTK
      go_wp2_with fail
      refine (HGR.out).mono ?_
      rintro e w1 ⟨v, rfl, hg1, hown⟩
      have HG1 := Lib.hid hg1
      have HO1 := Lib.hid hown
      clear hg1 hown HGR
      go_wp2
      go_loopg [6, 27] n (fun g s6 s27 wr => ∃ (k m : Nat) (v : Value) (vals : List Value), k ≤ n ∧ g = n - k ∧ s27 = .int .i64 k ∧ v = s6 ∧ Hid (m = (flatK (ks.take k)).length) ∧ Hid (wr.ownsRow w.heap.size 30 4 v m vals) ∧
        Hid (RawN wr w.heap.size vals (flatK (ks.take k))) ∧ Hid (Grow w wr))
      case atStart => exact ⟨0, 0, v, [], Nat.zero_le _, rfl, rfl, rfl, Lib.hid rfl, HO1, Lib.hid RawN.nil, HG1⟩
      case round =>
        obtain ⟨k, m, v', vals, hk, rfl, rfl, rfl, HM, HO, HRA, HG⟩ := hrel
        by_cases hlt2 : k < n
        · have hkl : k < ks.length := by rw [HN.out]; exact hlt2
          have HKW := Lib.hid (HK.out.below HG.out)
          obtain ⟨b, off, rfl, hb, hcl⟩ := HKW.out (by omega)
          obtain ⟨A', c', hc, hlc, hnd⟩ := hcl k hkl
          have HST := Lib.hid (flatK_step hkl)
          have HP := Lib.hid (HNE.out k hkl)
          have HND := Lib.hid hnd
          have hle := flatK_le ks (k + 1)
          rw [HST.out, List.length_append, ← HM.out] at hle
          have HTT := HT.out
          clear hcl hnd
          generalize ks.getD k [] = kid at *
          obtain ⟨lk, hlk⟩ : ∃ lk, kid.length = lk := ⟨_, rfl⟩
          rw [hlk] at hc hlc hle HP
          have HLK := Lib.hid hlk
          have hsm : m + lk ≤ 1000000000 := by omega
          clear hlk hle HTT
          go_wp2_with (at_builtin; refine wpList_append_raw rfl _ _ rfl w.heap.size w.heap.size m lk c' v' vals (flatK (ks.take k)) kid A' rfl HO.out HRA.out rfl HLK.out HND.out HP.out hsm HG.out.size (Nat.le_refl _) ?_; intro v2 w2 vals2 HO2 HR2 HB2)
          go_roundg (n - (k + 1))
          case rel => exact ⟨k + 1, m + lk, v2, vals2, by omega, rfl, by go_num, rfl, Lib.hid (by rw [HST.out, List.length_append, ← HM.out, HLK.out]), HO2, Lib.hid (by rw [HST.out]; exact HR2.out), Lib.hid (Below.trans HG.out HB2.out)⟩
          case measure => omega
        · obtain rfl : n = k := by omega
          have HTB := Lib.hid (show ks.take n = ks by rw [List.take_of_length_le (by rw [HN.out]; exact Nat.le_refl _)])
          rw [HTB.out] at HM HRA
          rw [HM.out] at HO
          go_wp2
          go_ret
          exact ⟨v', vals, rfl, HG.out, HO.out, HRA.out⟩
end Go.Proofs.Ytcljpcbgokgcdaa
end

section
/-
  A row of nodes of one's own, in which a field is written. Nothing is claimed here by itself.
-/
namespace Go.Proofs.Ytcljpcbgokgcdaa
open Go.RowKit Go.Lib
set_option linter.unusedSimpArgs false
set_option linter.unusedVariables false

/-- node number i of a row, whose rows lie in blocks of T -/
def HeldN (T : Nat → Prop) (w : World) (f : Nat → Value) (i : Nat) (n : Nd) : Prop :=
  ∃ A1 c1 A2 c2 A3 c3, f (i * 4) = .int .i64 n.kind ∧ f (i * 4 + 1) = .slice A1 n.shp.length c1 ∧ f (i * 4 + 2) = .slice A2 n.ints.length c2 ∧ f (i * 4 + 3) = .slice A3 n.decs.length c3 ∧ NumsT T w A1 n.shp ∧ NumsT T w A2 n.ints ∧ DecsT T w A3 n.decs
/-- the row is block g, all else lies in blocks of T -/
def Held (T : Nat → Prop) (w : World) (g : Nat) (ns : List Nd) : Prop := ¬ T g ∧ ∃ f, w.rowIs g 30 (ns.length * 4) f ∧ ∀ i, i < ns.length → HeldN T w f i (ns.getD i nd0)
section
variable {T T' : Nat → Prop} {w w' : World} {g : Nat} {ns : List Nd}
theorem HeldN.keep {f f' : Nat → Value} {i : Nat} {n : Nd} (h : HeldN T w f i n) (hk : ∀ b, T b → T' b ∧ w'.heap[b]? = w.heap[b]?) (hf : ∀ j, i * 4 ≤ j → j < i * 4 + 4 → f' j = f j) : HeldN T' w' f' i n := by
  obtain ⟨A1, c1, A2, c2, A3, c3, h0, h1, h2, h3, n1, n2, n3⟩ := h
  exact ⟨A1, c1, A2, c2, A3, c3, by rw [hf _ (by omega) (by omega), h0], by rw [hf _ (by omega) (by omega), h1], by rw [hf _ (by omega) (by omega), h2], by rw [hf _ (by omega) (by omega), h3], n1.keep hk, n2.keep hk, n3.keep hk⟩
theorem Held.keep (h : Held T w g ns) (hg : ¬ T' g) (hk0 : w'.heap[g]? = w.heap[g]?) (hk : ∀ b, T b → T' b ∧ w'.heap[b]? = w.heap[b]?) : Held T' w' g ns := by
  obtain ⟨_, f, hr, hn⟩ := h
  exact ⟨hg, f, hr.of_block hk0, fun i hi => (hn i hi).keep hk (fun _ _ _ => rfl)⟩
theorem Held.lt (h : Held T w g ns) : g < w.heap.size := by obtain ⟨_, f, hr, hn⟩ := h; exact hr.lt
theorem Held.nodes (h : Held T w g ns) : Nodes w w.heap.size (some ⟨g, 0, none⟩) ns := fun _ => by
  obtain ⟨_, f, hr, hn⟩ := h
  refine ⟨g, 0, rfl, hr.lt, fun i hi => ?_⟩
  obtain ⟨A1, c1, A2, c2, A3, c3, h0, h1, h2, h3, n1, n2, n3⟩ := hn i hi
  exact ⟨A1, c1, A2, c2, A3, c3, by rw [Nat.zero_add, hr.cell (by omega), h0], by rw [Nat.zero_add, hr.cell (by omega), h1], by rw [Nat.zero_add, hr.cell (by omega), h2], by rw [Nat.zero_add, hr.cell (by omega), h3], n1.nums, n2.nums, n3.decs⟩
theorem getD_set {k i : Nat} {n : Nd} (h : i < ns.length) : (ns.set k n).getD i nd0 = if i = k then n else ns.getD i nd0 := by
  simp only [List.getD, List.getElem?_set]
  by_cases e : i = k
  · subst e; simp [h]
  · simp [e, Ne.symm e]
theorem Held.set (h : Held T w g ns) {k r : Nat} (hk : k < ns.length) (hr4 : r < 4) (v : Value) (n : Nd)
    (hn : ∀ f, HeldN T w f k (ns.getD k nd0) → HeldN T w (fun j => if j = k * 4 + r then v else f j) k n) : Held T (w.setCell ⟨g, k * 4 + r, none⟩ v) g (ns.set k n) := by
  obtain ⟨hg, f, hr, hns⟩ := h
  have hkT : ∀ b, T b → T b ∧ (w.setCell ⟨g, k * 4 + r, none⟩ v).heap[b]? = w.heap[b]? := fun b hb => ⟨hb, heap_setCell_other w ⟨g, k * 4 + r, none⟩ b v (fun e => hg (by have e' : b = g := e; rw [← e']; exact hb))⟩
  refine ⟨hg, fun j => if j = k * 4 + r then v else f j, ?_, fun i hi => ?_⟩
  · rw [List.length_set]; exact hr.set (k * 4 + r) v
  · rw [List.length_set] at hi
    rw [getD_set hi]
    by_cases e : i = k
    · subst e
      rw [if_pos rfl]
      exact (hn f (hns i hi)).keep hkT (fun _ _ _ => rfl)
    · rw [if_neg e]
      exact (hns i hi).keep hkT (fun j h1 h2 => by
        have : ¬ j = k * 4 + r := by omega
        simp [this])
theorem Held.set_kind (h : Held T w g ns) {k : Nat} (hk : k < ns.length) (q : Int) :
    Held T (w.setCell ⟨g, k * 4, none⟩ (.int .i64 q)) g (ns.set k ⟨q, (ns.getD k nd0).shp, (ns.getD k nd0).ints, (ns.getD k nd0).decs⟩) := by
  refine h.set (r := 0) hk (by decide) _ _ fun f hf => ?_
  obtain ⟨A1, c1, A2, c2, A3, c3, h0, h1, h2, h3, n1, n2, n3⟩ := hf
  exact ⟨A1, c1, A2, c2, A3, c3, by simp, by simp [h1], by simp [h2], by simp [h3], n1, n2, n3⟩
theorem Held.set_shp (h : Held T w g ns) {k : Nat} (hk : k < ns.length) (A : Option Addr) (l c : Nat) (q : List Int) (hl : q.length = l) (hq : NumsT T w A q) :
    Held T (w.setCell ⟨g, k * 4 + 1, none⟩ (.slice A l c)) g (ns.set k ⟨(ns.getD k nd0).kind, q, (ns.getD k nd0).ints, (ns.getD k nd0).decs⟩) := by
  subst hl
  refine h.set (r := 1) hk (by decide) _ _ fun f hf => ?_
  obtain ⟨A1, c1, A2, c2, A3, c3, h0, h1, h2, h3, n1, n2, n3⟩ := hf
  exact ⟨A, c, A2, c2, A3, c3, by simp [h0], by simp, by simp [h2], by simp [h3], hq, n2, n3⟩
theorem Held.set_ints (h : Held T w g ns) {k : Nat} (hk : k < ns.length) (A : Option Addr) (l c : Nat) (q : List Int) (hl : q.length = l) (hq : NumsT T w A q) :
    Held T (w.setCell ⟨g, k * 4 + 2, none⟩ (.slice A l c)) g (ns.set k ⟨(ns.getD k nd0).kind, (ns.getD k nd0).shp, q, (ns.getD k nd0).decs⟩) := by
  subst hl
  refine h.set (r := 2) hk (by decide) _ _ fun f hf => ?_
  obtain ⟨A1, c1, A2, c2, A3, c3, h0, h1, h2, h3, n1, n2, n3⟩ := hf
  exact ⟨A1, c1, A, c, A3, c3, by simp [h0], by simp [h1], by simp, by simp [h3], n1, hq, n3⟩
end
/-- what was just copied -/
theorem Copied.held {w : World} {g : Nat} {ns : List Nd} (h : Copied w g ns) : Held (fun b => g < b ∧ b < w.heap.size) w g ns := by
  obtain ⟨f, hr, ho⟩ := h
  refine ⟨fun h => Nat.lt_irrefl _ h.1, f, hr, fun i hi => ?_⟩
  obtain ⟨b1, b2, b3, g1, g2, g3, h0, h1, h2, h3, r1, r2, r3⟩ := ho i hi
  refine ⟨some ⟨b1, 0, none⟩, (ns.getD i nd0).shp.length, some ⟨b2, 0, none⟩, (ns.getD i nd0).ints.length, some ⟨b3, 0, none⟩, (ns.getD i nd0).decs.length, h0, h1, h2, h3, ?_, ?_, ?_⟩
  · intro hp
    obtain ⟨b, off, e, hb, hc⟩ := nums_cells r1 hp
    cases e
    exact ⟨b1, 0, rfl, ⟨g1, heap_lt r1⟩, hc⟩
  · intro hp
    obtain ⟨b, off, e, hb, hc⟩ := nums_cells r2 hp
    cases e
    exact ⟨b2, 0, rfl, ⟨g2, heap_lt r2⟩, hc⟩
  · intro hp
    obtain ⟨b, off, e, hb, hc⟩ := decs_cells r3 hp
    cases e
    exact ⟨b3, 0, rfl, ⟨g3, heap_lt r3⟩, hc⟩
/-- the cells of node number k: its kind, and its slices, which have no room -/
theorem Copied.at_ {w : World} {g : Nat} {ns : List Nd} (h : Copied w g ns) {k : Nat} (hk : k < ns.length) : ∃ b1 b2, w.cell? ⟨g, k * 4, none⟩ = some (.int .i64 (ns.getD k nd0).kind) ∧
    w.cell? ⟨g, k * 4 + 1, none⟩ = some (.slice (some ⟨b1, 0, none⟩) (ns.getD k nd0).shp.length (ns.getD k nd0).shp.length) ∧ w.cell? ⟨g, k * 4 + 2, none⟩ = some (.slice (some ⟨b2, 0, none⟩) (ns.getD k nd0).ints.length (ns.getD k nd0).ints.length) ∧
    Nums .i64 w w.heap.size (some ⟨b1, 0, none⟩) (ns.getD k nd0).shp ∧ Nums .i64 w w.heap.size (some ⟨b2, 0, none⟩) (ns.getD k nd0).ints ∧ ∀ j, w.frozen? ⟨g, j, none⟩ = false := by
  obtain ⟨f, hr, ho⟩ := h
  obtain ⟨b1, b2, b3, g1, g2, g3, h0, h1, h2, h3, r1, r2, r3⟩ := ho k hk
  exact ⟨b1, b2, by rw [hr.cell (by omega), h0], by rw [hr.cell (by omega), h1], by rw [hr.cell (by omega), h2], nums_cells r1, nums_cells r2, fun j => hr.frozen j⟩
theorem Copied.kept {w w' : World} {g g' : Nat} {ns : List Nd} (h : Copied w g ns) (hk : Kept (fun k => k = g') w w') (hg : g' < g) : Copied w' g ns := by
  obtain ⟨f, hr, ho⟩ := h
  refine ⟨f, hr.of_block (hk.block g hr.lt (by show ¬ g = g'; omega)), fun i hi => ?_⟩
  obtain ⟨b1, b2, b3, g1, g2, g3, h0, h1, h2, h3, r1, r2, r3⟩ := ho i hi
  exact ⟨b1, b2, b3, g1, g2, g3, h0, h1, h2, h3, (hk.block b1 (heap_lt r1) (by show ¬ b1 = g'; omega)).trans r1, (hk.block b2 (heap_lt r2) (by show ¬ b2 = g'; omega)).trans r2, (hk.block b3 (heap_lt r3) (by show ¬ b3 = g'; omega)).trans r3⟩
theorem Copied.froz {w : World} {g : Nat} {ns : List Nd} (h : Copied w g ns) (j : Nat) : w.frozen? ⟨g, j, none⟩ = false := by
  obtain ⟨f, hr, ho⟩ := h
  exact hr.frozen j
theorem Copied.lt {w : World} {g : Nat} {ns : List Nd} (h : Copied w g ns) : g < w.heap.size := by
  obtain ⟨f, hr, ho⟩ := h
  exact hr.lt
/-- one more number behind a row that has no room: all new memory -/
theorem wpList_append_one {ops : Array Oper} {rest : List Oper} {o : Oper} {a : Act} {w : World} {Q : Exit → Act → World → Prop} (hgd : o.guard = none) (s x : Operand)
    (ho : o.op = .call { callee := .builtin .append, args := #[s, x], argTypes := #[23, 23] }) (b1 b l : Nat) (xs : List Int) (q : Int)
    (hs : a.eval s = .slice (some ⟨b1, 0, none⟩) l l) (hx : a.eval x = .slice (some ⟨b, 0, none⟩) 1 1) (hl : xs.length = l) (hxs : Nums .i64 w w.heap.size (some ⟨b1, 0, none⟩) xs) (hq : w.cell? ⟨b, 0, none⟩ = some (.int .i64 q)) (hb : l ≤ 1000000000)
    (h : ∀ A' c' w', Hid (NumsT (fun k => w.heap.size ≤ k ∧ k < w'.heap.size) w' A' (xs ++ [q])) → Hid (Grow w w') → wpList Try.prog ops Q rest (a.put o.dst (.slice A' (l + 1) c')) w') : wpList Try.prog ops Q (o :: rest) a w := by
  refine wpList_plain hgd fun K hK => ?_
  subst hl
  obtain ⟨i0, hi, hz0, hz1, hz2⟩ := info_of info_int
  have hsrc := src_nums hxs
  obtain ⟨v', w', hr, h2, h3⟩ := run_append_arg_grows (P := Try.prog) w 23 o.type 3 i0 _ 1 8 Try.underlying23 hi hz0 hz1 hz2 rfl (by decide) ⟨b1, 0, none⟩ xs.length xs.length (ivs xs) (ivs_len xs) (fun j u hj => by
      obtain ⟨ad, e, hc⟩ := hsrc (by have := (List.getElem?_eq_some_iff.1 hj).1; omega)
      cases e
      exact hc j u hj) ⟨b, 0, none⟩ 1 1 [.int .i64 q] rfl (fun j u hj => by
      match j, hj with
      | 0, hj => cases hj; rw [addr_add]; exact hq
      | j + 1, hj => simp at hj) (by omega) (by unfold maxLen; omega) (by omega)
  have hg : Grow w w' := (Below.refl _ _).grown h3 (Nat.le_refl _) (fun k hk => by cases hk)
  have he : ivs xs ++ [.int .i64 q] = ivs (xs ++ [q]) := by simp [ivs]
  rw [he] at h2
  rcases h2.2 with ⟨_, h0⟩ | ⟨g, cap, cur, rfl, hbg, hgg, hnc, hcm, hsz, htake⟩
  · omega
  · unfold Oper.wp
    simp [execOp, ho, resolve, invoke, builtin, hs, hx, hr, Result.andThen]
    refine hK _ _ (h _ _ _ (Lib.hid fun _ => ⟨g, 0, rfl, ⟨hbg, heap_lt hgg⟩, fun i hi => ?_⟩) (Lib.hid hg))
    have hi' : i < (ivs (xs ++ [q])).length := by simpa [ivs] using hi
    have hj : (ivs (xs ++ [q]))[i]? = some (.int .i64 ((xs ++ [q]).getD i 0)) := by
      have : i < (xs ++ [q]).length := hi
      unfold ivs
      rw [List.getElem?_map, List.getElem?_eq_getElem this]
      rw [show (xs ++ [q]).getD i 0 = (xs ++ [q])[i] by rw [List.getD, List.getElem?_eq_getElem this]; rfl]
      rfl
    rw [Nat.zero_add, cell_of_row w' g i cur _ (0, 0) hgg, ← hj, ← htake, List.getElem?_take, if_pos (by rw [List.length_append] at hi; simp at hi; omega), Array.getElem?_toList]
theorem xor_one (n : Int) (h : In n) : In (bits .xor .i64 n 1) ∧ bits .xor .i64 n 1 ≠ n := by
  have e : bits .xor .i64 n 1 = IntKind.i64.wrap (((BitVec.ofInt 64 n ^^^ BitVec.ofInt 64 1).toNat : Nat) : Int) := rfl
  rw [e, BitVec.toNat_xor, BitVec.toNat_ofInt, BitVec.toNat_ofInt]
  obtain ⟨m, hm⟩ : ∃ m : Nat, (n % 18446744073709551616).toNat = m := ⟨_, rfl⟩
  have hmlt : m < 2 ^ 64 := by omega
  have h1 : ((1 : Int) % ((2 ^ 64 : Nat) : Int)).toNat = 1 := by decide
  have h2 : (n % ((2 ^ 64 : Nat) : Int)).toNat = m := hm
  rw [h1, h2]
  have hx : m ^^^ 1 < 2 ^ 64 := Nat.xor_lt_two_pow hmlt (by decide)
  have hne : m ^^^ 1 ≠ m := fun h => by
    have := congrArg (fun x => m ^^^ x) h
    simp only [← Nat.xor_assoc, Nat.xor_self, Nat.zero_xor] at this
    omega
  generalize m ^^^ 1 = z at *
  obtain ⟨h3, h4⟩ := h
  rw [IntKind.wrap_i64]
  refine ⟨⟨by omega, by omega⟩, ?_⟩
  omega
end Go.Proofs.Ytcljpcbgokgcdaa
end
