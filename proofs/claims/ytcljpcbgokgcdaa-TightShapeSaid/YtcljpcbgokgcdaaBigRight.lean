/-
  What array.Right comes to, called with any nodes, of whatever size.
-/
import Derived.Test.YtcljpcbgokgcdaaFirsts
import Derived.Test.YtcljpcbgokgcdaaNodesIn
namespace Go.Proofs.Ytcljpcbgokgcdaa
open Go.RowKit Go.Lib
set_option linter.unusedSimpArgs false
set_option linter.unusedVariables false

def FitB (n : Nd) : Prop := In n.kind ∧ n.shp.length ≤ 9223372036854775807 ∧ n.ints.length ≤ 9223372036854775807 ∧ n.decs.length ≤ 9223372036854775807 ∧ ∀ x ∈ n.decs, In x.1 ∧ In x.2
def FitBs (ns : List Nd) : Prop := ∀ n ∈ ns, FitB n
theorem fit0B : FitB nd0 := ⟨⟨by decide, by decide⟩, by decide, by decide, by decide, fun x hx => by cases hx⟩
theorem FitBs.at_ {ns : List Nd} (h : FitBs ns) (k : Nat) : FitB (ns.getD k nd0) := by
  by_cases hk : k < ns.length
  · rw [show ns.getD k nd0 = ns[k] by simp [List.getD, hk]]
    exact h _ (List.getElem_mem hk)
  · rw [show ns.getD k nd0 = nd0 by simp [List.getD, List.getElem?_eq_none (Nat.le_of_not_lt hk)]]
    exact fit0B
theorem FitI.big {n : Nd} (h : FitI n) : FitB n := ⟨h.1, h.2.1, h.2.2.1, h.2.2.2.1, h.2.2.2.2.1⟩
theorem hasB_any (x y : Nat) (b : Nat) (k : Int) (A1 : Option Addr) (l1 c1 : Nat) (A2 : Option Addr) (l2 c2 : Nat) (A3 : Option Addr) (l3 c3 : Nat) (w : World) (hb : BoxN w b k A1 l1 c1 A2 l2 c2 A3 l3 c3) (h2 : l2 ≤ 9223372036854775807) (h3 : l3 ≤ 9223372036854775807) :
    Calls Try.prog 79 #[.int .i64 (x : Nat), .int .i64 (y : Nat), .pointer (some ⟨b, 0, none⟩)] w (Gives (.bool (l2 == x && l3 == y)) w) := by
  have hc2 := hb.at2
  have hc3 := hb.at3
  clear hb
  by_cases h : l2 = x
  · subst h
    have e : (((l2 : Nat) : Int) == ((l2 : Nat) : Int)) = true := by simp
    by_cases h' : l3 = y
    · subst h'
      have e' : (((l3 : Nat) : Int) == ((l3 : Nat) : Int)) = true := by simp
      have E : Hid ((l2 == l2 && l3 == l3) = true) := Lib.hid (by simp)
      rw [E.out]
      go_enter Try.func79, Try.ntmps79
      go_wp2
      go_ret
      exact ⟨rfl, rfl⟩
    · have e' : (((l3 : Nat) : Int) == ((y : Nat) : Int)) = false := by simp; omega
      have E : Hid ((l2 == l2 && l3 == y) = false) := Lib.hid (by simp [h'])
      rw [E.out]
      go_enter Try.func79, Try.ntmps79
      go_wp2
      go_ret
      exact ⟨rfl, rfl⟩
  · have e : (((l2 : Nat) : Int) == ((x : Nat) : Int)) = false := by simp; omega
    have E : Hid ((l2 == x && l3 == y) = false) := Lib.hid (by simp [h])
    rw [E.out]
    go_enter Try.func79, Try.ntmps79
    go_wp2
    go_ret
    exact ⟨rfl, rfl⟩
set_option maxRecDepth 10000 in
set_option maxHeartbeats 1600000 in
theorem filledB_any (n : Nd) (c : Nat) (A1 A2 A3 : Option Addr) (c1 c2 c3 : Nat) (w : World) (hc : c ≤ 1048576) (hf : FitB n) (hn : IsNd w w.heap.size A1 A2 A3 n) :
    Calls Try.prog 75 #[.agg #[.int .i64 n.kind, .slice A1 n.shp.length c1, .slice A2 n.ints.length c2, .slice A3 n.decs.length c3], .int .i64 (c : Nat)] w (Says (fillB n c) w) := by
  have hmf : ∀ (fn : Fn) (first cap : Array Value) (w : World), (Instr.makeFunc fn first cap).run Try.prog w = .ok (.func fn first cap) w := fun _ _ _ _ => rfl
  have h2 := hf.2.2.1
  have h3 := hf.2.2.2.1
  have HI := Lib.hid hf.2.2.2.2
  have HN2 := Lib.hid hn.2.1
  have HN3 := Lib.hid hn.2.2
  obtain ⟨F1, F2, F3, F4, F5⟩ := fill_kind (n := n) (c := c)
  have G1 := Lib.hid F1
  have G2 := Lib.hid F2
  have G3 := Lib.hid F3
  have G4 := Lib.hid F4
  have G5 := Lib.hid F5
  have G6 := Lib.hid (fill_other (n := n) (c := c))
  clear F1 F2 F3 F4 F5 hf hn
  generalize fillB n c = β at *
  obtain ⟨k, sh, xs, ds⟩ := n
  dsimp only at *
  obtain ⟨l2, hl2⟩ : ∃ l2, xs.length = l2 := ⟨_, rfl⟩
  obtain ⟨l3, hl3⟩ : ∃ l3, ds.length = l3 := ⟨_, rfl⟩
  have HL2 := Lib.hid hl2
  have HL3 := Lib.hid hl3
  rw [hl2] at G1 G2 G3 G4 G5 h2 ⊢
  rw [hl3] at G1 G2 G3 G4 G5 h3 ⊢
  clear hl2 hl3
  generalize sh.length = l1 at *
  have HB := Lib.hid (boxN_new w k A1 l1 c1 A2 l2 c2 A3 l3 c3)
  have HG := Lib.hid (grow_new w (.cells #[.int .i64 k, .slice A1 l1 c1, .slice A2 l2 c2, .slice A3 l3 c3] 30))
  by_cases k1 : k = 1
  · subst k1
    have E := Lib.hid (G1.out rfl)
    clear G1 G2 G3 G4 G5 G6
    have HH := Lib.hid (hasB_any c 0 w.heap.size 1 A1 l1 c1 A2 l2 c2 A3 l3 c3 _ HB.out h2 h3)
    rw [E.out]
    clear E
    cases hb : (l2 == c && l3 == 0) with
    | false =>
      rw [hb] at HH
      rw [Bool.false_and]
      clear hb
      go_enter Try.func75, Try.ntmps75
      go_wp2_with (go_at_call 79; refine (HH.out).mono ?_; rintro e w2 ⟨rfl, rfl⟩)
      go_ret
      exact ⟨rfl, HG.out⟩
    | true =>
      rw [hb] at HH
      rw [Bool.true_and]
      clear hb
      have HA := Lib.hid (allbit_any A2 l2 c2 xs _ HL2.out (by omega) (HN2.out.grow HG.out))
      go_enter Try.func75, Try.ntmps75
      go_wp2_with (first | (go_at_call 79; refine (HH.out).mono ?_; rintro e w2 ⟨rfl, rfl⟩) | fail)
      refine (HA.out).mono ?_
      rintro e w3 ⟨rfl, hw3⟩
      go_wp2
      go_ret
      exact ⟨rfl, HG.out⟩
  by_cases k2 : k = 2
  · subst k2
    have E := Lib.hid (G2.out rfl)
    clear G1 G2 G3 G4 G5 G6
    have HH := Lib.hid (hasB_any c 0 w.heap.size 2 A1 l1 c1 A2 l2 c2 A3 l3 c3 _ HB.out h2 h3)
    rw [E.out]
    clear E
    go_enter Try.func75, Try.ntmps75
    go_wp2_with (go_at_call 79; refine (HH.out).mono ?_; rintro e w2 ⟨rfl, rfl⟩)
    go_ret
    exact ⟨rfl, HG.out⟩
  by_cases k3 : k = 3
  · subst k3
    have E := Lib.hid (G3.out rfl)
    clear G1 G2 G3 G4 G5 G6
    have HH := Lib.hid (hasB_any c 0 w.heap.size 3 A1 l1 c1 A2 l2 c2 A3 l3 c3 _ HB.out h2 h3)
    rw [E.out]
    clear E
    cases hb : (l2 == c && l3 == 0) with
    | false =>
      rw [hb] at HH
      rw [Bool.false_and]
      clear hb
      go_enter Try.func75, Try.ntmps75
      go_wp2_with (go_at_call 79; refine (HH.out).mono ?_; rintro e w2 ⟨rfl, rfl⟩)
      go_ret
      exact ⟨rfl, HG.out⟩
    | true =>
      rw [hb] at HH
      rw [Bool.true_and]
      clear hb
      have HA := Lib.hid (allsign_any A2 l2 c2 xs _ HL2.out (by omega) (HN2.out.grow HG.out))
      go_enter Try.func75, Try.ntmps75
      go_wp2_with (first | (go_at_call 79; refine (HH.out).mono ?_; rintro e w2 ⟨rfl, rfl⟩) | fail)
      refine (HA.out).mono ?_
      rintro e w3 ⟨rfl, hw3⟩
      go_wp2
      go_ret
      exact ⟨rfl, HG.out⟩
  by_cases k4 : k = 4
  · subst k4
    have E := Lib.hid (G4.out rfl)
    clear G1 G2 G3 G4 G5 G6
    have HH := Lib.hid (hasB_any 0 c w.heap.size 4 A1 l1 c1 A2 l2 c2 A3 l3 c3 _ HB.out h2 h3)
    rw [E.out]
    clear E
    cases hb : (l2 == 0 && l3 == c) with
    | false =>
      rw [hb] at HH
      rw [Bool.false_and]
      clear hb
      go_enter Try.func75, Try.ntmps75
      go_wp2_with (go_at_call 79; refine (HH.out).mono ?_; rintro e w2 ⟨rfl, rfl⟩)
      go_ret
      exact ⟨rfl, HG.out⟩
    | true =>
      rw [hb] at HH
      rw [Bool.true_and]
      clear hb
      have HA := Lib.hid (alldec_any A3 l3 c3 ds _ HL3.out (by omega) HI.out (HN3.out.grow HG.out))
      go_enter Try.func75, Try.ntmps75
      go_wp2_with (first | (go_at_call 79; refine (HH.out).mono ?_; rintro e w2 ⟨rfl, rfl⟩) | fail)
      refine (HA.out).mono ?_
      rintro e w3 ⟨rfl, hw3⟩
      go_wp2
      go_ret
      exact ⟨rfl, HG.out.trans hw3⟩
  by_cases k5 : k = 5
  · subst k5
    have E := Lib.hid (G5.out rfl)
    clear G1 G2 G3 G4 G5 G6
    have HH := Lib.hid (hasB_any 0 0 w.heap.size 5 A1 l1 c1 A2 l2 c2 A3 l3 c3 _ HB.out h2 h3)
    rw [E.out]
    clear E
    go_enter Try.func75, Try.ntmps75
    go_wp2_with (go_at_call 79; refine (HH.out).mono ?_; rintro e w2 ⟨rfl, rfl⟩)
    go_ret
    exact ⟨rfl, HG.out⟩
  have E := Lib.hid (G6.out k1 k2 k3 k4 k5)
  rw [E.out]
  have q1 : (k == 1) = false := by simpa using k1
  have q2 : (k == 2) = false := by simpa using k2
  have q3 : (k == 3) = false := by simpa using k3
  have q4 : (k == 4) = false := by simpa using k4
  have q5 : (k == 5) = false := by simpa using k5
  clear G1 G2 G3 G4 G5 G6 E
  go_enter Try.func75, Try.ntmps75
  go_wp2
  go_ret
  exact ⟨rfl, HG.out⟩
set_option maxRecDepth 10000 in
set_option maxHeartbeats 1600000 in
theorem itemsOfB_any (n : Nd) (A1 A2 A3 : Option Addr) (c1 c2 c3 : Nat) (w : World) (hf : FitB n) (hn : IsNd w w.heap.size A1 A2 A3 n) :
    Calls Try.prog 64 #[.agg #[.int .i64 n.kind, .slice A1 n.shp.length c1, .slice A2 n.ints.length c2, .slice A3 n.decs.length c3]] w (SaysN (itm n) (okB n) w) := by
  obtain ⟨C, hC⟩ : ∃ C, cnt n.shp = C := ⟨_, rfl⟩
  obtain ⟨β, hβ⟩ : ∃ β, rightB n.shp = β := ⟨_, rfl⟩
  obtain ⟨γ, hγ⟩ : ∃ γ, fillB n C = γ := ⟨_, rfl⟩
  have hC1 : C ≤ 1048576 := hC ▸ cnt_le1 _
  have hm : n.shp.length ≤ 9223372036854775807 := by have := hf.2.1; omega
  have HCO := Lib.hid (fun W h => count_any A1 n.shp.length c1 n.shp W rfl hm h)
  rw [hC, hβ] at HCO
  have HFI := Lib.hid (fun W h => filledB_any n C A1 A2 A3 c1 c2 c3 W hC1 hf h)
  rw [hγ] at HFI
  have HO : Hid (okB n = (β && γ)) := Lib.hid (by unfold okB; rw [hβ, hC, hγ])
  have HI : Hid (itm n = if (β && γ) = true then C else 0) := Lib.hid (by unfold itm; rw [HO.out, hC])
  have HN := Lib.hid hn
  clear hC hβ hγ hf hn
  generalize okB n = ω at *
  generalize itm n = ι at *
  have HB := Lib.hid (boxN_new w n.kind A1 n.shp.length c1 A2 n.ints.length c2 A3 n.decs.length c3)
  have HG := Lib.hid (grow_new w (.cells #[.int .i64 n.kind, .slice A1 n.shp.length c1, .slice A2 n.ints.length c2, .slice A3 n.decs.length c3] 30))
  generalize n.shp.length = l1 at *
  generalize n.ints.length = l2 at *
  generalize n.decs.length = l3 at *
  generalize n.kind = k at *
  go_enter Try.func64, Try.ntmps64
  go_wp2_with fail
  refine (HCO.out _ (HN.out.1.grow HG.out)).mono ?_
  rintro e w2 ⟨rfl, hw2⟩
  have HG2 := Lib.hid (show Grow w w2 by rw [hw2]; exact HG.out)
  have HB2 : BoxN w2 w.heap.size k A1 l1 c1 A2 l2 c2 A3 l3 c3 := by rw [hw2]; exact HB.out
  have g0 := HB2.at0
  have g1 := HB2.at1
  have g2 := HB2.at2
  have g3 := HB2.at3
  have HB3 := Lib.hid HB2
  clear hw2 HB2 HCO
  cases β with
  | false =>
    have HI' : Hid (ι = 0) := Lib.hid (by rw [HI.out]; rfl)
    have HO' : Hid (ω = false) := Lib.hid (by rw [HO.out]; rfl)
    clear HI HO
    go_wp2
    go_ret2
    exact ⟨by rw [HI'.out, HO'.out]; rfl, HG2.out⟩
  | true =>
    go_wp2_with fail
    refine (HFI.out _ (HN.out.grow HG2.out)).mono ?_
    rintro e w3 ⟨rfl, hw3⟩
    have HG3 := Lib.hid (HG2.out.trans hw3)
    clear hw3 HFI
    cases γ with
    | false =>
      have HI' : Hid (ι = 0) := Lib.hid (by rw [HI.out]; rfl)
      have HO' : Hid (ω = false) := Lib.hid (by rw [HO.out]; rfl)
      clear HI HO
      go_wp2
      go_ret2
      exact ⟨by rw [HI'.out, HO'.out]; rfl, HG3.out⟩
    | true =>
      have HI' : Hid (ι = C) := Lib.hid (by rw [HI.out]; rfl)
      have HO' : Hid (ω = true) := Lib.hid (by rw [HO.out]; rfl)
      clear HI HO
      go_wp2
      go_ret2
      exact ⟨by rw [HI'.out, HO'.out]; rfl, HG3.out⟩
set_option maxRecDepth 10000 in
set_option maxHeartbeats 3200000 in
theorem addB_any : ∀ (e D g : Nat) (s : St) (A : Option Addr) (n c : Nat) (ns : List Nd) (w : World), D + e = 17 → 1 ≤ D → ns.length = n → n ≤ 9223372036854775807 → s.n ≤ n → s.i ≤ 1048576 → s.d ≤ 16 → s.r ≤ 9223372036854775807 → FitBs ns → StAt w g s → Nodes w g A ns →
    Calls Try.prog 74 #[.pointer (some ⟨g, 0, none⟩), .slice A n c, .int .i64 (D : Nat)] w (AddP e D s g ns w) := by
  intro e
  induction e with
  | zero =>
    intro D g s A n c ns w hD hD1 hn hnb hsn hsi hsd hsr hf hst hns
    obtain rfl : D = 17 := by omega
    have c0 := hst.at0
    clear hst hns
    by_cases hE : s.n = n
    · rw [hE] at c0
      go_enter Try.func74, Try.ntmps74
      go_wp2
      go_ret
      exact AddP.no addR_zero (Below.refl _ _)
    · have hE' : (((s.n : Nat) : Int) == ((n : Nat) : Int)) = false := by simp; omega
      clear hE hsn
      go_enter Try.func74, Try.ntmps74
      go_wp2
      go_ret
      exact AddP.no addR_zero (Below.refl _ _)
  | succ e ih =>
    intro D g s A n c ns w hD hD1 hn hnb hsn hsi hsd hsr hf hst hns
    have c0 := hst.at0
    have HST := Lib.hid hst
    have HNS := Lib.hid hns
    have HN := Lib.hid hn
    have HF := Lib.hid hf
    have IH := Lib.hid ih
    clear ih hst hns hn hf
    have hD16 : ¬ (16 : Int) < ((D : Nat) : Int) := by omega
    by_cases hE : s.n = n
    · have HR := Lib.hid (addR_end (e := e + 1) (s := s) (ns := ns) (by rw [HN.out]; exact hE))
      rw [hE] at c0
      go_enter Try.func74, Try.ntmps74
      go_wp2
      go_ret
      exact AddP.no HR.out (Below.refl _ _)
    have hlt : s.n < n := by omega
    have hE' : (((s.n : Nat) : Int) == ((n : Nat) : Int)) = false := by simp; omega
    clear hE
    have hl : s.n < ns.length := by rw [HN.out]; exact hlt
    have HBAD := Lib.hid (addR_bad (e := e) (s := s) (ns := ns) hl)
    have HMUCH := Lib.hid (addR_much (e := e) (s := s) (ns := ns) hl)
    have HLEAF := Lib.hid (addR_leaf (e := e) (s := s) (ns := ns) hl)
    have HDROP := Lib.hid (drop_nd hl)
    have HFIT := Lib.hid (HF.out.at_ s.n)
    obtain ⟨b, off, rfl, hb, hat⟩ := HNS.out (by omega)
    obtain ⟨A1, c1, A2, c2, A3, c3, q0, q1, q2, q3, hnd⟩ := hat s.n hl
    have HND := Lib.hid hnd
    clear hat hnd hl
    generalize hnode : ns.getD s.n nd0 = nd at *
    clear hnode
    have HIT := Lib.hid (fun W h => itemsOfB_any nd A1 A2 A3 c1 c2 c3 W HFIT.out h)
    obtain ⟨β, hβ⟩ : ∃ β, okB nd = β := ⟨_, rfl⟩
    obtain ⟨ι, hι⟩ : ∃ ι, itm nd = ι := ⟨_, rfl⟩
    have hιb : ι ≤ 1048576 := hι ▸ itm_le nd
    rw [hβ, hι] at HIT
    have HB := Lib.hid hβ
    have HI := Lib.hid hι
    clear hβ hι
    have hr1 := HFIT.out.2.1
    have HLT := Lib.hid HST.out.lt
    have HBG := Lib.hid hb
    clear hb
    obtain ⟨sn, si, sd, sr⟩ := s
    dsimp only at *
    go_enter Try.func74, Try.ntmps74
    go_wp2_with fail
    refine (HIT.out _ ((HND.out.more (Nat.le_of_lt HLT.out)).grow (grow_new _ _))).mono ?_
    rintro x w2 ⟨rfl, hw2⟩
    have HG2 := Lib.hid ((grow_new w _).trans hw2)
    have HBX := Lib.hid ((boxN_new w nd.kind A1 nd.shp.length c1 A2 nd.ints.length c2 A3 nd.decs.length c3).grow hw2)
    have hs2 := HST.out.grow HG2.out
    have r0 := hs2.at0
    have r1 := hs2.at1
    have r2 := hs2.at2
    have r3 := hs2.at3
    have f0 := hs2.froz 0
    have f1 := hs2.froz 1
    have f2 := hs2.froz 2
    have f3 := hs2.froz 3
    have HS2 := Lib.hid hs2
    have HBel := Lib.hid (Below.mono HG2.out (Nat.le_of_lt HLT.out))
    dsimp only at r0 r1 r2 r3
    clear hs2 hw2 HIT c0 q0 q1 q2 q3
    cases β with
    | false =>
      have HR := Lib.hid (HBAD.out HB.out)
      clear HBAD HMUCH HLEAF
      go_wp2
      go_ret
      exact AddP.no HR.out HBel.out
    | true =>
      have hιc : Hid (ι = cnt nd.shp) := Lib.hid (by rw [← HI.out]; unfold itm; rw [if_pos HB.out])
      by_cases hmuch : 1048576 < si + ι
      · have HR := Lib.hid (HMUCH.out (by rw [← hιc.out]; exact hmuch))
        clear HBAD HMUCH HLEAF
        have hmi : (1048576 : Int) < ((si : Nat) : Int) + ((ι : Nat) : Int) := by omega
        go_wp2
        go_ret
        exact AddP.no HR.out HBel.out
      have hmi : decide ((1048576 : Int) < ((si : Nat) : Int) + ((ι : Nat) : Int)) = false := decide_eq_false (by omega)
      have hmx := max_is sd D
      have hmx' := max_is' sd D
      generalize hM : max sd D = M at hmx hmx'
      have HM := Lib.hid hM
      clear hM
      have b0 := HBX.out.at0
      have b1 := HBX.out.at1
      clear HBAD HMUCH
      go_wp2
      generalize hw3 : ((w2.setCell ⟨g, 0, none⟩ (.int .i64 (((sn : Nat) : Int) + 1))).setCell ⟨g, 1, none⟩ (.int .i64 (((si : Nat) : Int) + ((ι : Nat) : Int)))).setCell ⟨g, 2, none⟩ (.int .i64 ((M : Nat) : Int)) = w3
      have HS3 : Hid (StAt w3 g ⟨sn + 1, si + ι, M, sr⟩) := Lib.hid (by rw [← hw3]; exact ((HS2.out.put0 (sn + 1)).put1 (si + ι)).put2 M)
      have HB3 : Hid (Below g w w3) := Lib.hid (by rw [← hw3]; exact Below.setCell (Below.setCell (Below.setCell HBel.out (Nat.le_refl _) _) (Nat.le_refl _) _) (Nat.le_refl _) _)
      have HX3 : Hid (BoxN w3 w.heap.size nd.kind A1 nd.shp.length c1 A2 nd.ints.length c2 A3 nd.decs.length c3) := Lib.hid (by
        have hne : w.heap.size ≠ g := by have := HLT.out; omega
        rw [← hw3]
        refine (heap_setCell_other _ _ _ _ (show w.heap.size ≠ g from hne)).trans ?_
        refine (heap_setCell_other _ _ _ _ (show w.heap.size ≠ g from hne)).trans ?_
        exact (heap_setCell_other _ _ _ _ (show w.heap.size ≠ g from hne)).trans HBX.out)
      have HZ3 : Hid (w.heap.size ≤ w3.heap.size) := Lib.hid HB3.out.size
      clear hw3 r0 r1 r2 r3 f0 f1 f2 f3 b0 b1 HS2 HBX hmx hmx'
      have r3 := HS3.out.at3
      have f3 := HS3.out.froz 3
      dsimp only at r3
      have b0 := HX3.out.at0
      have b1 := HX3.out.at1
      have hne : ¬ w.heap.size = g := by have := HLT.out; omega
      generalize hl1 : nd.shp.length = l1 at *
      have hmx := max_is sr l1
      have hmx' := max_is' sr l1
      generalize hR : max sr l1 = R at hmx hmx'
      have HR := Lib.hid hR
      clear hR
      go_region
      generalize hw4 : (w3.setCell ⟨g, 3, none⟩ (.int .i64 ((R : Nat) : Int))).drew = w4
      have HS4 : Hid (StAt w4 g ⟨sn + 1, si + ι, M, R⟩) := Lib.hid (by rw [← hw4]; exact HS3.out.put3 R)
      have HB4 : Hid (Below g w w4) := Lib.hid (by rw [← hw4]; exact (Below.setCell HB3.out (Nat.le_refl _) _).drew)
      have q0 : w4.cell? ⟨w.heap.size, 0, none⟩ = some (.int .i64 nd.kind) := by
        rw [← hw4]
        have hx : BoxN (w3.setCell ⟨g, 3, none⟩ (.int .i64 ((R : Nat) : Int))).drew w.heap.size nd.kind A1 l1 c1 A2 nd.ints.length c2 A3 nd.decs.length c3 := (heap_setCell_other w3 _ _ _ (show w.heap.size ≠ g from hne)).trans HX3.out
        exact hx.at0
      clear hw4 HS3 HB3 HX3 HZ3 r3 f3 b0 b1 hmx hmx' hne
      have HL1 := Lib.hid hl1
      clear hl1
      by_cases hk : nd.kind = 5
      · rw [hk] at q0
        have HK := Lib.hid hk
        clear hk
        have HNO := Lib.hid (fun j t W (hj : j < ι) ht hw h => addR_nest_no (e := e) (s := ⟨sn, si, sd, sr⟩) (w := W) (j := j) (t := t) HDROP.out HB.out HK.out hιc.out hj ht hw h)
        have HYES := Lib.hid (fun t ht hi => addR_nest (e := e) (s := ⟨sn, si, sd, sr⟩) (t := t) HDROP.out HB.out HK.out hιc.out ht hi)
        clear HLEAF HDROP
        go_wp2
        go_loopg [83] ι (fun gk s83 wr => ∃ (j : Nat) (t : St), j ≤ ι ∧ gk = ι - j ∧ s83 = .int .i64 (j : Nat) ∧ Hid (parK (par e) j (ns.drop (sn + 1)) = some t) ∧ Hid (si + ι + t.i ≤ 1048576) ∧
          Hid (StAt wr g ⟨sn + 1 + t.n, si + ι + t.i, max M (D + t.d), max R t.r⟩) ∧ Hid (Below g w wr))
        case atStart =>
          refine ⟨0, st0, Nat.zero_le _, rfl, rfl, Lib.hid rfl, Lib.hid (by simp only [st0]; omega), Lib.hid ?_, HB4⟩
          have e1 : (⟨sn + 1 + st0.n, si + ι + st0.i, max M (D + st0.d), max R st0.r⟩ : St) = ⟨sn + 1, si + ι, M, R⟩ := by
            have := HM.out
            simp only [st0, St.mk.injEq]
            refine ⟨?_, ?_, ?_, ?_⟩ <;> first | trivial | omega
          rw [e1]
          exact HS4.out
        case round =>
          obtain ⟨j, t, hj, rfl, rfl, HP, HI2, HS, HBB⟩ := hrel
          by_cases hjl : j < ι
          · have hji : ((j : Nat) : Int) < ((ι : Nat) : Int) := by omega
            have hlen := parK_len (fun l s h => (par_len h).2.1) HP.out
            rw [List.length_drop, HN.out] at hlen
            have hdeep := parK_deep (fun l s h => (par_len h).2.2.2) HP.out
            have hrank := parK_rank (fun l s h => par_rank h) HP.out
            have HC := Lib.hid (IH.out (D + 1) g ⟨sn + 1 + t.n, si + ι + t.i, max M (D + t.d), max R t.r⟩ (some ⟨b, off, none⟩) n c ns wr (by omega) (by omega) HN.out hnb (by show sn + 1 + t.n ≤ n; omega) HI2.out
              (by have := HM.out; show max M (D + t.d) ≤ 16; omega) (by have := HR.out; show max R t.r ≤ 9223372036854775807; omega) HF.out HS.out (HNS.out.below HBB.out))
            cases ha : addR e ⟨sn + 1 + t.n, si + ι + t.i, max M (D + t.d), max R t.r⟩ ns with
            | none =>
              have HNO' := Lib.hid (HNO.out j t _ hjl HP.out ⟨rfl, rfl⟩ ha)
              have HA := Lib.hid ha
              clear ha hlen hdeep hrank
              go_wp2_with fail
              refine (HC.out).mono ?_
              rintro x w5 ⟨hbel, hx⟩
              rw [HA.out] at hx
              subst hx
              have HB5 := Lib.hid (HBB.out.trans hbel)
              clear hbel HC
              go_wp2
              go_ret
              exact AddP.no HNO'.out HB5.out
            | some t' =>
              have HA := Lib.hid ha
              clear ha hlen hdeep hrank
              go_wp2_with fail
              refine (HC.out).mono ?_
              rintro x w5 ⟨hbel, hx⟩
              rw [HA.out] at hx
              obtain ⟨rfl, hs5⟩ := hx
              have HB5 := Lib.hid (HBB.out.trans hbel)
              have HS5 := Lib.hid hs5
              clear hbel HC hs5
              go_wp2
              go_roundg (ι - (j + 1))
              case rel =>
                obtain ⟨hp', hi'⟩ := addR_some HA.out
                refine ⟨j + 1, t.plus t', by omega, rfl, by go_num, Lib.hid (parK_mk HP.out (by rw [List.drop_drop]; exact hp')), Lib.hid (by simp only [St.plus]; dsimp only at hi'; omega), Lib.hid ?_, HB5⟩
                have e1 : (⟨sn + 1 + (t.plus t').n, si + ι + (t.plus t').i, max M (D + (t.plus t').d), max R (t.plus t').r⟩ : St) = adv (D + 1) ⟨sn + 1 + t.n, si + ι + t.i, max M (D + t.d), max R t.r⟩ t' := by
                  simp only [adv, St.plus, St.mk.injEq]
                  omega
                rw [e1]
                exact HS5.out
              case measure => omega
          · obtain rfl : j = ι := by omega
            go_wp2
            go_ret
            refine AddP.yes (HYES.out t HP.out HI2.out) HBB.out ?_
            have e1 : adv D ⟨sn, si, sd, sr⟩ (top nd t) = ⟨sn + 1 + t.n, si + j + t.i, max M (D + t.d), max R t.r⟩ := by
              have := HM.out
              have := HR.out
              have := HL1.out
              have := hιc.out
              simp only [adv, top, St.mk.injEq]
              omega
            rw [e1]
            exact HS.out
      · have hkb : (nd.kind != 5) = true := by simpa using hk
        have HL := Lib.hid (HLEAF.out HB.out hk (by rw [← hιc.out]; omega))
        clear HLEAF
        go_wp2
        go_ret
        refine AddP.yes HL.out HB4.out ?_
        have e1 : adv D ⟨sn, si, sd, sr⟩ ⟨1, cnt nd.shp, 1, l1⟩ = ⟨sn + 1, si + ι, M, R⟩ := by
          have := HM.out
          have := HR.out
          have := hιc.out
          simp only [adv, St.mk.injEq]
          refine ⟨?_, ?_, ?_, ?_⟩ <;> first | trivial | omega
        rw [e1]
        exact HS4.out
set_option maxRecDepth 10000 in
set_option maxHeartbeats 1600000 in
theorem firstB_any (A : Option Addr) (n c : Nat) (ns : List Nd) (w : World) (hn : ns.length = n) (hnb : n ≤ 9223372036854775807) (hf : FitBs ns) (hns : Nodes w w.heap.size A ns) :
    Calls Try.prog 63 #[.slice A n c] w (SaysS (fs ns) (fstD ns).isSome w) := by
  let wA := (w.alloc (.cells #[.int .i64 0, .int .i64 0, .int .i64 0, .int .i64 0] 54)).alloc (.cells #[.int .i64 0, .int .i64 0, .int .i64 0, .int .i64 0] 54)
  have HG := Lib.hid (show Grow w wA from grow_new2 _ _ _)
  have hsz : wA.heap.size = w.heap.size + 2 := by simp [wA]
  have HST : Hid (StAt wA (w.heap.size + 1) st0) := Lib.hid (by
    have h := heap_alloc_new (w.alloc (.cells #[.int .i64 0, .int .i64 0, .int .i64 0, .int .i64 0] 54)) (.cells #[.int .i64 0, .int .i64 0, .int .i64 0, .int .i64 0] 54)
    have e1 : (w.alloc (.cells #[.int .i64 0, .int .i64 0, .int .i64 0, .int .i64 0] 54)).heap.size = w.heap.size + 1 := by simp
    rw [e1] at h
    exact h)
  have HX : Hid (StAt wA w.heap.size st0) := Lib.hid (StAt.grow (show StAt (w.alloc (.cells #[.int .i64 0, .int .i64 0, .int .i64 0, .int .i64 0] 54)) w.heap.size st0 from heap_alloc_new w _) (grow_new _ _))
  have HC := Lib.hid (addB_any 16 1 (w.heap.size + 1) st0 A n c ns wA (by omega) (by omega) hn hnb (by simp [st0]) (by simp [st0]) (by simp [st0]) (by simp [st0]) hf HST.out ((hns.below HG.out).more (by omega)))
  have HSZ := Lib.hid hsz
  clear hn hf hns hsz
  go_enter Try.func63, Try.ntmps63
  go_wp2_with fail
  refine (HC.out).mono ?_
  rintro x w2 ⟨hbel, hx⟩
  rw [addR_first] at hx
  have HG2 : Hid (Grow w w2) := Lib.hid (Below.trans HG.out (Below.mono hbel (by omega)))
  have hx2 : StAt w2 w.heap.size st0 := (hbel.block w.heap.size (by omega)).trans HX.out
  have r0 := hx2.at0
  have r1 := hx2.at1
  have r2 := hx2.at2
  have r3 := hx2.at3
  have f0 := hx2.froz 0
  have f1 := hx2.froz 1
  have f2 := hx2.froz 2
  have f3 := hx2.froz 3
  have HX2 := Lib.hid hx2
  clear hx2 hbel HC HG HST HX HSZ
  cases hfs : fstD ns with
  | none =>
    rw [hfs] at hx
    dsimp only at hx
    subst hx
    have HFS := Lib.hid (fs_none hfs)
    have HFN := Lib.hid hfs
    clear hfs
    simp only [st0] at r0 r1 r2 r3
    go_wp2
    generalize hw3 : World.setCell _ _ _ = w3
    have hs3 : StAt w3 w.heap.size ⟨0, 0, 0, 0⟩ := by rw [← hw3]; exact (((HX2.out.put0 0).put1 0).put2 0).put3 0
    have HG3 := Lib.hid (show Grow w w3 by rw [← hw3]; exact (((HG2.out.put (Nat.le_refl _) 0 _).put (Nat.le_refl _) 1 _).put (Nat.le_refl _) 2 _).put (Nat.le_refl _) 3 _)
    have c0 := hs3.at0
    have c1 := hs3.at1
    have c2 := hs3.at2
    have c3 := hs3.at3
    exact bodyPost_ret (v := .tuple #[.agg #[.int .i64 0, .int .i64 0, .int .i64 0, .int .i64 0], .bool false]) (by simp [results, Try.results63, go_sem, c0, c1, c2, c3]) rfl ⟨by rw [HFS.out, HFN.out]; rfl, HG3.out⟩
  | some t =>
    rw [hfs] at hx
    dsimp only at hx
    obtain ⟨rfl, hs⟩ := hx
    rw [adv_first] at hs
    have g0 := hs.at0
    have g1 := hs.at1
    have g2 := hs.at2
    have g3 := hs.at3
    have HFS := Lib.hid (fs_some hfs)
    have HFN := Lib.hid hfs
    clear hfs
    go_wp2
    generalize hw3 : World.setCell _ _ _ = w3
    have hs3 : StAt w3 w.heap.size t := by rw [← hw3]; exact (((HX2.out.put0 t.n).put1 t.i).put2 t.d).put3 t.r
    have HG3 := Lib.hid (show Grow w w3 by rw [← hw3]; exact (((HG2.out.put (Nat.le_refl _) 0 _).put (Nat.le_refl _) 1 _).put (Nat.le_refl _) 2 _).put (Nat.le_refl _) 3 _)
    have c0 := hs3.at0
    have c1 := hs3.at1
    have c2 := hs3.at2
    have c3 := hs3.at3
    exact bodyPost_ret (v := .tuple #[.agg #[.int .i64 (t.n : Nat), .int .i64 (t.i : Nat), .int .i64 (t.d : Nat), .int .i64 (t.r : Nat)], .bool true]) (by simp [results, Try.results63, go_sem, c0, c1, c2, c3]) rfl ⟨by rw [HFS.out, HFN.out]; rfl, HG3.out⟩
set_option maxRecDepth 10000 in
set_option maxHeartbeats 1600000 in
theorem wholeB_any (A : Option Addr) (n c : Nat) (ns : List Nd) (w : World) (hn : ns.length = n) (hnb : n ≤ 9223372036854775807) (hf : FitBs ns) (hns : Nodes w w.heap.size A ns) :
    Calls Try.prog 40 #[.slice A n c] w (SaysS (ws ns) (rightA ns) w) := by
  have HC := Lib.hid (fun W h => firstB_any A n c ns W hn hnb hf h)
  have HNS := Lib.hid hns
  have HN := Lib.hid hn
  clear hn hf hns
  have HZ : Hid (∀ W, Grow (w.alloc (.cells #[.int .i64 0, .int .i64 0, .int .i64 0, .int .i64 0] 54)) W → StAt W w.heap.size st0) :=
    Lib.hid (fun W hg => StAt.grow (show StAt (w.alloc (.cells #[.int .i64 0, .int .i64 0, .int .i64 0, .int .i64 0] 54)) w.heap.size st0 from heap_alloc_new w _) hg)
  have HK : Hid (((fstD ns).isSome = false ∧ fs ns = st0 ∧ ws ns = st0 ∧ rightA ns = false) ∨ ((fstD ns).isSome = true ∧ (fs ns).n < n ∧ ws ns = st0 ∧ rightA ns = false) ∨ ((fstD ns).isSome = true ∧ (fs ns).n = n ∧ ws ns = fs ns ∧ rightA ns = true)) := Lib.hid (by
    cases hfs : fstD ns with
    | none =>
      have hw : whlD ns = none := by unfold whlD; rw [hfs]; rfl
      exact .inl ⟨rfl, fs_none hfs, ws_none hw, by unfold rightA; rw [hw]; rfl⟩
    | some t =>
      have hl := (par_len (fst_some hfs).1).2.1
      rw [HN.out] at hl
      by_cases he : t.n = n
      · have hw : whlD ns = some t := whl_mk (fst_some hfs).1 (fst_some hfs).2 (by rw [HN.out]; exact he)
        exact .inr (.inr ⟨rfl, by rw [fs_some hfs]; exact he, by rw [ws_some hw, fs_some hfs], by unfold rightA; rw [hw]; rfl⟩)
      · have hw : whlD ns = none := by unfold whlD; rw [hfs, Option.bind_some, if_neg (by rw [HN.out]; exact he)]
        exact .inr (.inl ⟨rfl, by rw [fs_some hfs]; omega, ws_none hw, by unfold rightA; rw [hw]; rfl⟩))
  have hfb : (fs ns).n ≤ n := by rcases HK.out with ⟨_, h, _⟩ | ⟨_, h, _⟩ | ⟨_, h, _⟩ <;> first | omega | (rw [h]; exact Nat.zero_le _)
  generalize (fstD ns).isSome = β at *
  generalize fs ns = s at *
  generalize ws ns = z at *
  generalize rightA ns = γ at *
  obtain ⟨p, q, u, v⟩ := s
  dsimp only at HK HC hfb
  go_enter Try.func40, Try.ntmps40
  go_wp2_with fail
  refine (HC.out _ (HNS.out.grow (grow_new _ _))).mono ?_
  rintro x w2 ⟨rfl, hg⟩
  have HX2 := Lib.hid ((HZ.out _ hg).grow (grow_new w2 (.cells #[.int .i64 (p : Nat), .int .i64 (q : Nat), .int .i64 (u : Nat), .int .i64 (v : Nat)] 54)))
  have HX3 := Lib.hid (show StAt (w2.alloc (.cells #[.int .i64 (p : Nat), .int .i64 (q : Nat), .int .i64 (u : Nat), .int .i64 (v : Nat)] 54)) w2.heap.size ⟨p, q, u, v⟩ from heap_alloc_new w2 _)
  have HG2 := Lib.hid (((grow_new w _).trans hg).trans (grow_new w2 (.cells #[.int .i64 (p : Nat), .int .i64 (q : Nat), .int .i64 (u : Nat), .int .i64 (v : Nat)] 54)))
  have hne : ¬ w2.heap.size = w.heap.size := by have := HZ.out _ hg; have := this.lt; omega
  have hne' : ¬ w.heap.size = w2.heap.size := fun h => hne h.symm
  clear hg HC HZ
  have r0 := HX2.out.at0
  have r1 := HX2.out.at1
  have r2 := HX2.out.at2
  have r3 := HX2.out.at3
  have f0 := HX2.out.froz 0
  have f1 := HX2.out.froz 1
  have f2 := HX2.out.froz 2
  have f3 := HX2.out.froz 3
  rcases HK.out with ⟨rfl, hs, rfl, rfl⟩ | ⟨rfl, hs, rfl, rfl⟩ | ⟨rfl, hs, rfl, rfl⟩
  · clear hs HK
    go_wp2
    generalize hw3 : World.setCell _ _ _ = w3
    have hs3 : StAt w3 w.heap.size ⟨0, 0, 0, 0⟩ := by rw [← hw3]; exact (((HX2.out.put0 0).put1 0).put2 0).put3 0
    have HG3 := Lib.hid (show Grow w w3 by rw [← hw3]; exact (((HG2.out.put (Nat.le_refl _) 0 _).put (Nat.le_refl _) 1 _).put (Nat.le_refl _) 2 _).put (Nat.le_refl _) 3 _)
    have c0 := hs3.at0
    have c1 := hs3.at1
    have c2 := hs3.at2
    have c3 := hs3.at3
    exact bodyPost_ret (v := .tuple #[.agg #[.int .i64 0, .int .i64 0, .int .i64 0, .int .i64 0], .bool false]) (by simp [results, Try.results40, go_sem, c0, c1, c2, c3]) rfl ⟨rfl, HG3.out⟩
  · have hsi : ((p : Nat) : Int) < ((n : Nat) : Int) := by omega
    have g0 := HX3.out.at0
    clear hs HK
    dsimp only at g0
    go_wp2
    generalize hw3 : World.setCell _ _ _ = w3
    have hs3 : StAt w3 w.heap.size ⟨0, 0, 0, 0⟩ := by rw [← hw3]; exact (((HX2.out.put0 0).put1 0).put2 0).put3 0
    have HG3 := Lib.hid (show Grow w w3 by rw [← hw3]; exact (((HG2.out.put (Nat.le_refl _) 0 _).put (Nat.le_refl _) 1 _).put (Nat.le_refl _) 2 _).put (Nat.le_refl _) 3 _)
    have c0 := hs3.at0
    have c1 := hs3.at1
    have c2 := hs3.at2
    have c3 := hs3.at3
    exact bodyPost_ret (v := .tuple #[.agg #[.int .i64 0, .int .i64 0, .int .i64 0, .int .i64 0], .bool false]) (by simp [results, Try.results40, go_sem, c0, c1, c2, c3]) rfl ⟨rfl, HG3.out⟩
  · subst hs
    have hsi : ¬ ((p : Nat) : Int) < ((p : Nat) : Int) := by omega
    have g0 := HX3.out.at0
    have g1 := HX3.out.at1
    have g2 := HX3.out.at2
    have g3 := HX3.out.at3
    clear HK
    dsimp only at g0 g1 g2 g3
    go_wp2
    generalize hw3 : World.setCell _ _ _ = w3
    have hs3 : StAt w3 w.heap.size ⟨p, q, u, v⟩ := by rw [← hw3]; exact (((HX2.out.put0 p).put1 q).put2 u).put3 v
    have HG3 := Lib.hid (show Grow w w3 by rw [← hw3]; exact (((HG2.out.put (Nat.le_refl _) 0 _).put (Nat.le_refl _) 1 _).put (Nat.le_refl _) 2 _).put (Nat.le_refl _) 3 _)
    have c0 := hs3.at0
    have c1 := hs3.at1
    have c2 := hs3.at2
    have c3 := hs3.at3
    exact bodyPost_ret (v := .tuple #[.agg #[.int .i64 (p : Nat), .int .i64 (q : Nat), .int .i64 (u : Nat), .int .i64 (v : Nat)], .bool true]) (by simp [results, Try.results40, go_sem, c0, c1, c2, c3]) rfl ⟨rfl, HG3.out⟩
set_option maxRecDepth 10000 in
theorem arightB_any (A : Option Addr) (n c : Nat) (ns : List Nd) (w : World) (hn : ns.length = n) (hnb : n ≤ 9223372036854775807) (hf : FitBs ns) (hns : Nodes w w.heap.size A ns) :
    Calls Try.prog 20 #[.slice A n c] w (Ret (.bool (rightA ns)) w) := by
  have HC := Lib.hid (wholeB_any A n c ns w hn hnb hf hns)
  clear hn hf hns
  generalize ws ns = s at *
  generalize rightA ns = β at *
  obtain ⟨p, q, u, v⟩ := s
  try dsimp only
  go_enter Try.func20, Try.ntmps20
  go_wp2_with fail
  refine (HC.out).mono ?_
  rintro x w2 ⟨rfl, hg⟩
  have HG := Lib.hid (hg.trans (grow_new w2 (.cells #[.int .i64 (p : Nat), .int .i64 (q : Nat), .int .i64 (u : Nat), .int .i64 (v : Nat)] 54)))
  clear hg HC
  go_wp2
  go_ret
  exact ⟨rfl, HG.out⟩
end Go.Proofs.Ytcljpcbgokgcdaa
