/-
  What array.all and array.holds come to, called with any node and any rows.
-/
import Derived.Test.YtfdlngcaopcaoaaHold1
namespace Go.Proofs.Ytfdlngcaopcaoaa
open Go.RowKit Go.Lib
set_option linter.unusedSimpArgs false
set_option linter.unusedVariables false

/-- rows that fit: none too great -/
def FitK (ks : List (List Nd)) : Prop := ∀ k ∈ ks, k.length ≤ 1000000 ∧ Fits k
theorem FitK.at_ {ks : List (List Nd)} (h : FitK ks) {k : Nat} (hk : k < ks.length) : (ks.getD k []).length ≤ 1000000 ∧ Fits (ks.getD k []) := by
  rw [show ks.getD k [] = ks[k] by simp [List.getD, hk]]
  exact h _ (List.getElem_mem hk)
theorem drop_kid {ks : List (List Nd)} {k : Nat} (h : k < ks.length) : ks.drop k = ks.getD k [] :: ks.drop (k + 1) := by
  rw [List.drop_eq_getElem_cons h]
  congr 1
  simp [List.getD, h]

set_option maxRecDepth 10000 in
set_option maxHeartbeats 1600000 in
theorem allk_any (A : Option Addr) (n c : Nat) (ks : List (List Nd)) (ib m B : Nat) (w : World) (hm : m ≤ 1048576) (hn : ks.length = n) (hnb : n ≤ 9223372036854775807) (hf : FitK ks) (hi : IntAt w ib m) (hB : B ≤ ib) (hks : KidsAt w B A ks) :
    Calls Try.prog 51 #[.slice A n c, .func (.func 52) #[] #[.pointer (some ⟨ib, 0, none⟩)]] w (fun e w' => e = .returned (.bool (holdK m ks)) ∧ Below ib w w') := by
  have HK := Lib.hid hks
  have HN := Lib.hid hn
  have HF := Lib.hid hf
  have HI := Lib.hid hi
  have HBI := Lib.hid hB
  clear hks hn hf hi hB
  go_enter Try.func51, Try.ntmps51
  go_wp2
  go_loopg [9] n (fun g s8 wr => ∃ k m' : Nat, k ≤ n ∧ g = n - k ∧ s8 = .int .i64 k ∧ m' ≤ 1048576 ∧ Hid (holdK m ks = holdK m' (ks.drop k)) ∧ Hid (IntAt wr ib m') ∧ Hid (Below ib w wr))
  case atStart => exact ⟨0, m, Nat.zero_le _, rfl, rfl, hm, Lib.hid rfl, HI, Lib.hid (Below.refl _ _)⟩
  case round =>
    obtain ⟨k, m', hk, rfl, rfl, hm', HA, HIW, HG⟩ := hrel
    by_cases hlt : k < n
    · have hkl : k < ks.length := by rw [HN.out]; exact hlt
      have HKW := Lib.hid (HK.out.below (Below.mono HG.out HBI.out))
      obtain ⟨b, off, rfl, hb, hcl⟩ := HKW.out (by omega)
      obtain ⟨A', c', hc, hlc, hnd⟩ := hcl k hkl
      have HD := Lib.hid (drop_kid hkl)
      obtain ⟨hl1, hl2⟩ := HF.out.at_ hkl
      have HND := Lib.hid (hnd.more (Nat.le_of_lt (Nat.lt_of_le_of_lt HBI.out (heap_lt HIW.out))))
      have HST := Lib.hid (hold1_any A' (ks.getD k []).length c' (ks.getD k []) ib m' wr hm' rfl hl1 hl2 HIW.out HND.out)
      clear hcl hkl hnd hl2 hlc
      generalize ks.getD k [] = kid at *
      have HE : Hid (holdK m' (ks.drop k) = (holdB1 m' kid && holdK (m' + (ws kid).i) (ks.drop (k + 1)))) := Lib.hid (by rw [HD.out]; rfl)
      have HBB : Hid (holdB1 m' kid = true → m' + (ws kid).i ≤ 1048576) := Lib.hid (fun h => by
        simp only [holdB1, Bool.and_eq_true, decide_eq_true_eq] at h
        exact h.2.2)
      generalize kid.length = lk at *
      cases hx : holdB1 m' kid with
      | true =>
        rw [hx] at HST
        have hle := HBB.out hx
        have HA' := Lib.hid (show holdK m ks = holdK (m' + (ws kid).i) (ks.drop (k + 1)) by rw [HA.out, HE.out, hx, Bool.true_and])
        clear hx HE HBB
        generalize m' + (ws kid).i = m'' at *
        go_wp2_with (go_at_call 52; refine (HST.out).mono ?_; rintro e w2 ⟨rfl, hb2, hi2⟩)
        go_roundg (n - (k + 1))
        case rel => exact ⟨k + 1, m'', by omega, rfl, by go_num, hle, HA', Lib.hid hi2, Lib.hid (Below.trans HG.out hb2)⟩
        case measure => omega
      | false =>
        rw [hx] at HST
        have HA' := Lib.hid (show holdK m ks = false by rw [HA.out, HE.out, hx, Bool.false_and])
        clear hx HE HBB
        generalize m' + (ws kid).i = m'' at *
        go_wp2_with (go_at_call 52; refine (HST.out).mono ?_; rintro e w2 ⟨rfl, hb2, hi2⟩)
        go_ret
        exact ⟨by rw [HA'.out]; rfl, Below.trans HG.out hb2⟩
    · obtain rfl : n = k := by omega
      have HE : Hid (holdK m ks = true) := Lib.hid (by rw [HA.out, List.drop_of_length_le (by rw [HN.out]; exact Nat.le_refl _)]; rfl)
      go_wp2
      go_ret
      exact ⟨by rw [HE.out]; rfl, HG.out⟩

set_option maxRecDepth 10000 in
set_option maxHeartbeats 1600000 in
theorem holds_any (nd : Nd) (A1 A2 A3 : Option Addr) (c1 c2 c3 : Nat) (A : Option Addr) (n c : Nat) (ks : List (List Nd)) (w : World) (hfn : Fit nd) (hnd : IsNd w w.heap.size A1 A2 A3 nd) (hn : ks.length = n) (hnb : n ≤ 9223372036854775807) (hf : FitK ks) (hks : KidsAt w w.heap.size A ks) :
    Calls Try.prog 43 #[.agg #[.int .i64 nd.kind, .slice A1 nd.shp.length c1, .slice A2 nd.ints.length c2, .slice A3 nd.decs.length c3], .slice A n c] w (Says (okB nd && (decide (n = itm nd) && holdK (itm nd) ks)) w) := by
  have hmf : ∀ (fn : Fn) (first cap : Array Value) (w : World), (Instr.makeFunc fn first cap).run Try.prog w = .ok (.func fn first cap) w := fun _ _ _ _ => rfl
  have HC := Lib.hid (fun W h => itemsOf_any nd A1 A2 A3 c1 c2 c3 W hfn h)
  have him := itm_le nd
  have HN := Lib.hid hn
  have HF := Lib.hid hf
  have HKS := Lib.hid hks
  have HND := Lib.hid hnd
  clear hfn hnd hn hf hks
  obtain ⟨β, hβ⟩ : ∃ β, holdK (itm nd) ks = β := ⟨_, rfl⟩
  have HAK := Lib.hid (fun ib W h1 h2 h3 => allk_any A n c ks ib (itm nd) w.heap.size W him HN.out hnb HF.out h1 h2 h3)
  rw [hβ] at HAK ⊢
  clear hβ
  generalize okB nd = ω at *
  generalize itm nd = ι at *
  generalize nd.shp.length = l1 at *
  generalize nd.ints.length = l2 at *
  generalize nd.decs.length = l3 at *
  generalize nd.kind = k at *
  go_enter Try.func43, Try.ntmps43
  go_wp2_with fail
  refine (HC.out _ (HND.out.grow (grow_new _ _))).mono ?_
  rintro x w2 ⟨rfl, hg⟩
  have HG2 := Lib.hid ((grow_new w _).trans hg)
  obtain ⟨w3, hw3⟩ : ∃ w3, w3 = w2.alloc (.cells #[.int .i64 (ι : Nat)] 3) := ⟨_, rfl⟩
  have hi3 : IntAt w3 w2.heap.size ι := by rw [hw3]; exact heap_alloc_new w2 _
  have HG3 := Lib.hid (show Grow w w3 by rw [hw3]; exact HG2.out.trans (grow_new _ _))
  have HAC := Lib.hid (HAK.out w2.heap.size w3 hi3 HG2.out.size (HKS.out.below HG3.out))
  have ci : w3.cell? ⟨w2.heap.size, 0, none⟩ = some (.int .i64 (ι : Nat)) := cell_of_row w3 w2.heap.size 0 _ _ (0, 0) hi3
  have HZ := Lib.hid HG2.out.size
  clear hg HC HAK hi3
  cases ω with
  | false =>
    rw [hw3] at ci HG3
    clear hw3 HAC
    go_wp2
    go_ret
    exact ⟨rfl, HG3.out⟩
  | true =>
    by_cases hne : n = ι
    · rw [decide_eq_true hne]
      subst hne
      have hnei : (((n : Nat) : Int) != ((n : Nat) : Int)) = false := by simp
      rw [hw3] at ci HG3 HAC
      clear hw3
      go_wp2_with fail
      refine (HAC.out).mono ?_
      rintro e w4 ⟨rfl, hb4⟩
      have HG4 := Lib.hid (Below.trans HG3.out (Below.mono hb4 HZ.out))
      clear HAC hb4 HG3
      go_wp2
      go_ret
      exact ⟨by simp, HG4.out⟩
    · have hnei : (((n : Nat) : Int) != ((ι : Nat) : Int)) = true := by simp; omega
      rw [decide_eq_false hne]
      rw [hw3] at ci HG3
      clear hw3 HAC
      go_wp2
      go_ret
      exact ⟨by simp [hne], HG3.out⟩
end Go.Proofs.Ytfdlngcaopcaoaa
