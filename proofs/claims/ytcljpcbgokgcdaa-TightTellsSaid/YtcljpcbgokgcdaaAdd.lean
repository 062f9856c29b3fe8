/-
  What sizes.add comes to, called with any nodes.
-/
import Derived.Test.YtcljpcbgokgcdaaAllsA
import Derived.BigRegion
namespace Go.Proofs.Ytcljpcbgokgcdaa
open Go.RowKit Go.Lib
set_option linter.unusedSimpArgs false
set_option linter.unusedVariables false

/-- the sizes in memory -/
def StAt (w : World) (g : Nat) (s : St) : Prop := w.heap[g]? = some (.cells #[.int .i64 (s.n : Nat), .int .i64 (s.i : Nat), .int .i64 (s.d : Nat), .int .i64 (s.r : Nat)] 54 (0, 0))
section
variable {w w' : World} {g : Nat} {s : St}
theorem StAt.lt (h : StAt w g s) : g < w.heap.size := by
  rcases Nat.lt_or_ge g w.heap.size with k | k
  · exact k
  · rw [StAt, Array.getElem?_eq_none k] at h; cases h
theorem StAt.grow (h : StAt w g s) (hg : Grow w w') : StAt w' g s := (hg.block g h.lt).trans h
theorem StAt.at0 (h : StAt w g s) : w.cell? ⟨g, 0, none⟩ = some (.int .i64 (s.n : Nat)) := cell_of_row w g 0 _ _ (0, 0) h
theorem StAt.at1 (h : StAt w g s) : w.cell? ⟨g, 1, none⟩ = some (.int .i64 (s.i : Nat)) := cell_of_row w g 1 _ _ (0, 0) h
theorem StAt.at2 (h : StAt w g s) : w.cell? ⟨g, 2, none⟩ = some (.int .i64 (s.d : Nat)) := cell_of_row w g 2 _ _ (0, 0) h
theorem StAt.at3 (h : StAt w g s) : w.cell? ⟨g, 3, none⟩ = some (.int .i64 (s.r : Nat)) := cell_of_row w g 3 _ _ (0, 0) h
theorem StAt.froz (h : StAt w g s) (j : Nat) : w.frozen? ⟨g, j, none⟩ = false := frozen_of_row w g j _ _ h
theorem StAt.put0 (h : StAt w g s) (v : Nat) : StAt (w.setCell ⟨g, 0, none⟩ (.int .i64 (v : Nat))) g ⟨v, s.i, s.d, s.r⟩ := heap_setCell_same w g 0 _ _ _ h
theorem StAt.put1 (h : StAt w g s) (v : Nat) : StAt (w.setCell ⟨g, 1, none⟩ (.int .i64 (v : Nat))) g ⟨s.n, v, s.d, s.r⟩ := heap_setCell_same w g 1 _ _ _ h
theorem StAt.put2 (h : StAt w g s) (v : Nat) : StAt (w.setCell ⟨g, 2, none⟩ (.int .i64 (v : Nat))) g ⟨s.n, s.i, v, s.r⟩ := heap_setCell_same w g 2 _ _ _ h
theorem StAt.put3 (h : StAt w g s) (v : Nat) : StAt (w.setCell ⟨g, 3, none⟩ (.int .i64 (v : Nat))) g ⟨s.n, s.i, s.d, v⟩ := heap_setCell_same w g 3 _ _ _ h
end

def addR (e : Nat) (s : St) (ns : List Nd) : Option St := (par e (ns.drop s.n)).bind fun t => if s.i + t.i ≤ 1048576 then some t else none
def adv (D : Nat) (s t : St) : St := ⟨s.n + t.n, s.i + t.i, max s.d (D - 1 + t.d), max s.r t.r⟩
def AddP (e D : Nat) (s : St) (g : Nat) (ns : List Nd) (w : World) (x : Ending) (w' : World) : Prop :=
  Below g w w' ∧ match addR e s ns with
    | some t => x = .returned (.bool true) ∧ StAt w' g (adv D s t)
    | none => x = .returned (.bool false)
theorem AddP.no {e D : Nat} {s : St} {g : Nat} {ns : List Nd} {w w' : World} (h : addR e s ns = none) (hb : Below g w w') : AddP e D s g ns w (.returned (.bool false)) w' := by
  refine ⟨hb, ?_⟩
  rw [h]
theorem AddP.yes {e D : Nat} {s t : St} {g : Nat} {ns : List Nd} {w w' : World} (h : addR e s ns = some t) (hb : Below g w w') (hs : StAt w' g (adv D s t)) : AddP e D s g ns w (.returned (.bool true)) w' := by
  refine ⟨hb, ?_⟩
  rw [h]
  exact ⟨rfl, hs⟩
theorem addR_end {e : Nat} {s : St} {ns : List Nd} (h : s.n = ns.length) : addR e s ns = none := by
  unfold addR; rw [h, List.drop_length, par_nil]; rfl
theorem addR_zero {s : St} {ns : List Nd} : addR 0 s ns = none := rfl
theorem addR_bad {e : Nat} {s : St} {ns : List Nd} (h : s.n < ns.length) (hb : okB (ns.getD s.n nd0) = false) : addR (e + 1) s ns = none := by
  unfold addR; rw [drop_nd h, par_cons, hb]; rfl
theorem addR_much {e : Nat} {s : St} {ns : List Nd} (h : s.n < ns.length) (hb : 1048576 < s.i + cnt (ns.getD s.n nd0).shp) : addR (e + 1) s ns = none := by
  unfold addR
  rw [drop_nd h]
  cases hp : par (e + 1) (ns.getD s.n nd0 :: ns.drop (s.n + 1)) with
  | none => rfl
  | some t =>
    obtain ⟨e', n, l', t', he, hl, hn, ht, rfl⟩ := par_parts hp
    cases hl
    rw [Option.bind_some, if_neg]
    simp only [top]
    omega
theorem addR_leaf {e : Nat} {s : St} {ns : List Nd} (h : s.n < ns.length) (hb : okB (ns.getD s.n nd0) = true) (hk : (ns.getD s.n nd0).kind ≠ 5) (hi : s.i + cnt (ns.getD s.n nd0).shp ≤ 1048576) :
    addR (e + 1) s ns = some ⟨1, cnt (ns.getD s.n nd0).shp, 1, (ns.getD s.n nd0).shp.length⟩ := by
  unfold addR
  have hkc : kc (ns.getD s.n nd0) = 0 := by simp only [kc]; rw [if_neg hk]
  rw [drop_nd h, par_mk (t := st0) hb (by rw [hkc]; rfl), Option.bind_some]
  have e1 : top (ns.getD s.n nd0) st0 = ⟨1, cnt (ns.getD s.n nd0).shp, 1, (ns.getD s.n nd0).shp.length⟩ := by simp [top, st0]
  rw [e1]
  exact if_pos hi

theorem ok_rank {n : Nd} (h : okB n = true) : n.shp.length ≤ 16 := by
  unfold okB at h
  rw [Bool.and_eq_true] at h
  exact (right_iff.1 h.1).1
theorem parK_rank {f : List Nd → Option St} (hf : ∀ l s, f l = some s → s.r ≤ 16) : ∀ {c : Nat} {l : List Nd} {t : St}, parK f c l = some t → t.r ≤ 16
  | 0, l, t, h => by rw [parK_zero] at h; cases h; exact Nat.zero_le _
  | c + 1, l, t, h => by
    obtain ⟨a, b, ha, hb, rfl⟩ := parK_some h
    have h1 := parK_rank hf ha
    have h2 := hf _ _ hb
    simp only [St.plus]
    omega
theorem par_rank : ∀ {d : Nat} {l : List Nd} {s : St}, par d l = some s → s.r ≤ 16
  | 0, l, s, h => by cases h
  | d + 1, l, s, h => by
    obtain ⟨e, n, l', t, he, rfl, hn, ht, rfl⟩ := par_parts h
    obtain rfl : d = e := by omega
    have h1 := parK_rank (fun l s h => par_rank h) ht
    have h2 := ok_rank hn
    simp only [top]
    omega
theorem addR_nest {e : Nat} {s : St} {ns : List Nd} {n : Nd} {ι : Nat} {t : St} (hd : ns.drop s.n = n :: ns.drop (s.n + 1)) (hb : okB n = true) (hk : n.kind = 5) (hι : ι = cnt n.shp)
    (ht : parK (par e) ι (ns.drop (s.n + 1)) = some t) (hi : s.i + ι + t.i ≤ 1048576) : addR (e + 1) s ns = some (top n t) := by
  have hkc : kc n = ι := by simp only [kc]; rw [if_pos hk, hι]
  unfold addR
  rw [hd, par_mk hb (by rw [hkc]; exact ht), Option.bind_some, if_pos]
  simp only [top]
  omega
theorem addR_nest_no {e : Nat} {s : St} {ns : List Nd} {n : Nd} {ι j : Nat} {t : St} {w : St} (hd : ns.drop s.n = n :: ns.drop (s.n + 1)) (hb : okB n = true) (hk : n.kind = 5) (hι : ι = cnt n.shp) (hj : j < ι)
    (ht : parK (par e) j (ns.drop (s.n + 1)) = some t) (hw : w.n = s.n + 1 + t.n ∧ w.i = s.i + ι + t.i) (h : addR e w ns = none) : addR (e + 1) s ns = none := by
  have hkc : kc n = ι := by simp only [kc]; rw [if_pos hk, hι]
  have hdd : (ns.drop (s.n + 1)).drop t.n = ns.drop w.n := by rw [List.drop_drop, hw.1]
  unfold addR
  rw [hd, par_cons, if_pos hb, hkc]
  cases hp : parK (par e) ι (ns.drop (s.n + 1)) with
  | none => rfl
  | some u =>
    rw [Option.map_some, Option.bind_some, if_neg]
    obtain ⟨a, ha, _, hai, _⟩ := parK_to hp (j + 1) (by omega)
    obtain ⟨t', b, ht', hb', rfl⟩ := parK_some ha
    rw [ht] at ht'
    cases ht'
    rw [hdd] at hb'
    unfold addR at h
    rw [hb', Option.bind_some] at h
    have : ¬ w.i + b.i ≤ 1048576 := fun hc => by rw [if_pos hc] at h; cases h
    simp only [top, St.plus] at hai ⊢
    omega
theorem addR_some {e : Nat} {s t : St} {ns : List Nd} (h : addR e s ns = some t) : par e (ns.drop s.n) = some t ∧ s.i + t.i ≤ 1048576 := by
  unfold addR at h
  cases hp : par e (ns.drop s.n) with
  | none => simp [hp] at h
  | some u =>
    simp only [hp, Option.bind_some] at h
    split at h
    · cases h; exact ⟨rfl, by assumption⟩
    · cases h
theorem max_is (a b : Nat) : (if ((a : Nat) : Int) < ((b : Nat) : Int) then ((b : Nat) : Int) else ((a : Nat) : Int)) = ((max a b : Nat) : Int) := by split <;> omega
theorem max_is' (a b : Nat) : (if a < b then ((b : Nat) : Int) else ((a : Nat) : Int)) = ((max a b : Nat) : Int) := by split <;> omega

set_option maxRecDepth 10000 in
set_option maxHeartbeats 3200000 in
theorem add_any : ∀ (e D g : Nat) (s : St) (A : Option Addr) (n c : Nat) (ns : List Nd) (w : World), D + e = 17 → 1 ≤ D → ns.length = n → n ≤ 1100000 → s.n ≤ n → s.i ≤ 1048576 → s.d ≤ 16 → s.r ≤ 1100000 → Fits ns → StAt w g s → Nodes w g A ns →
    Calls Try.prog 74 #[.pointer (some ⟨g, 0, none⟩), .slice A n c, .int .i64 (D : Nat)] w (AddP e D s g ns w) := by
  intro e
  induction e with
  | zero =>
    intro D g s A n c ns w hD hD1 hn hnb hsn hsi hsd hsr hf hst hns
    obtain rfl : D = 17 := by omega
    have c0 := hst.at0
    clear hst hns
    by_cases hE : s.n = n
    · rw [hE] at c0
      go_enter Try.func74, Try.ntmps74
      go_wp2
      go_ret
      exact AddP.no addR_zero (Below.refl _ _)
    · have hE' : (((s.n : Nat) : Int) == ((n : Nat) : Int)) = false := by simp; omega
      clear hE hsn
      go_enter Try.func74, Try.ntmps74
      go_wp2
      go_ret
      exact AddP.no addR_zero (Below.refl _ _)
  | succ e ih =>
    intro D g s A n c ns w hD hD1 hn hnb hsn hsi hsd hsr hf hst hns
    have c0 := hst.at0
    have HST := Lib.hid hst
    have HNS := Lib.hid hns
    have HN := Lib.hid hn
    have HF := Lib.hid hf
    have IH := Lib.hid ih
    clear ih hst hns hn hf
    have hD16 : ¬ (16 : Int) < ((D : Nat) : Int) := by omega
    by_cases hE : s.n = n
    · have HR := Lib.hid (addR_end (e := e + 1) (s := s) (ns := ns) (by rw [HN.out]; exact hE))
      rw [hE] at c0
      go_enter Try.func74, Try.ntmps74
      go_wp2
      go_ret
      exact AddP.no HR.out (Below.refl _ _)
    have hlt : s.n < n := by omega
    have hE' : (((s.n : Nat) : Int) == ((n : Nat) : Int)) = false := by simp; omega
    clear hE
    have hl : s.n < ns.length := by rw [HN.out]; exact hlt
    have HBAD := Lib.hid (addR_bad (e := e) (s := s) (ns := ns) hl)
    have HMUCH := Lib.hid (addR_much (e := e) (s := s) (ns := ns) hl)
    have HLEAF := Lib.hid (addR_leaf (e := e) (s := s) (ns := ns) hl)
    have HDROP := Lib.hid (drop_nd hl)
    have HFIT := Lib.hid (HF.out.at_ s.n)
    obtain ⟨b, off, rfl, hb, hat⟩ := HNS.out (by omega)
    obtain ⟨A1, c1, A2, c2, A3, c3, q0, q1, q2, q3, hnd⟩ := hat s.n hl
    have HND := Lib.hid hnd
    clear hat hnd hl
    generalize hnode : ns.getD s.n nd0 = nd at *
    clear hnode
    have HIT := Lib.hid (fun W h => itemsOf_any nd A1 A2 A3 c1 c2 c3 W HFIT.out h)
    obtain ⟨β, hβ⟩ : ∃ β, okB nd = β := ⟨_, rfl⟩
    obtain ⟨ι, hι⟩ : ∃ ι, itm nd = ι := ⟨_, rfl⟩
    have hιb : ι ≤ 1048576 := hι ▸ itm_le nd
    rw [hβ, hι] at HIT
    have HB := Lib.hid hβ
    have HI := Lib.hid hι
    clear hβ hι
    have hr1 := HFIT.out.2.1
    have HLT := Lib.hid HST.out.lt
    have HBG := Lib.hid hb
    clear hb
    obtain ⟨sn, si, sd, sr⟩ := s
    dsimp only at *
    go_enter Try.func74, Try.ntmps74
    go_wp2_with fail
    refine (HIT.out _ ((HND.out.more (Nat.le_of_lt HLT.out)).grow (grow_new _ _))).mono ?_
    rintro x w2 ⟨rfl, hw2⟩
    have HG2 := Lib.hid ((grow_new w _).trans hw2)
    have HBX := Lib.hid ((boxN_new w nd.kind A1 nd.shp.length c1 A2 nd.ints.length c2 A3 nd.decs.length c3).grow hw2)
    have hs2 := HST.out.grow HG2.out
    have r0 := hs2.at0
    have r1 := hs2.at1
    have r2 := hs2.at2
    have r3 := hs2.at3
    have f0 := hs2.froz 0
    have f1 := hs2.froz 1
    have f2 := hs2.froz 2
    have f3 := hs2.froz 3
    have HS2 := Lib.hid hs2
    have HBel := Lib.hid (Below.mono HG2.out (Nat.le_of_lt HLT.out))
    dsimp only at r0 r1 r2 r3
    clear hs2 hw2 HIT c0 q0 q1 q2 q3
    cases β with
    | false =>
      have HR := Lib.hid (HBAD.out HB.out)
      clear HBAD HMUCH HLEAF
      go_wp2
      go_ret
      exact AddP.no HR.out HBel.out
    | true =>
      have hιc : Hid (ι = cnt nd.shp) := Lib.hid (by rw [← HI.out]; unfold itm; rw [if_pos HB.out])
      by_cases hmuch : 1048576 < si + ι
      · have HR := Lib.hid (HMUCH.out (by rw [← hιc.out]; exact hmuch))
        clear HBAD HMUCH HLEAF
        have hmi : (1048576 : Int) < ((si : Nat) : Int) + ((ι : Nat) : Int) := by omega
        go_wp2
        go_ret
        exact AddP.no HR.out HBel.out
      have hmi : decide ((1048576 : Int) < ((si : Nat) : Int) + ((ι : Nat) : Int)) = false := decide_eq_false (by omega)
      have hmx := max_is sd D
      have hmx' := max_is' sd D
      generalize hM : max sd D = M at hmx hmx'
      have HM := Lib.hid hM
      clear hM
      have b0 := HBX.out.at0
      have b1 := HBX.out.at1
      clear HBAD HMUCH
      go_wp2
      generalize hw3 : ((w2.setCell ⟨g, 0, none⟩ (.int .i64 (((sn : Nat) : Int) + 1))).setCell ⟨g, 1, none⟩ (.int .i64 (((si : Nat) : Int) + ((ι : Nat) : Int)))).setCell ⟨g, 2, none⟩ (.int .i64 ((M : Nat) : Int)) = w3
      have HS3 : Hid (StAt w3 g ⟨sn + 1, si + ι, M, sr⟩) := Lib.hid (by rw [← hw3]; exact ((HS2.out.put0 (sn + 1)).put1 (si + ι)).put2 M)
      have HB3 : Hid (Below g w w3) := Lib.hid (by rw [← hw3]; exact Below.setCell (Below.setCell (Below.setCell HBel.out (Nat.le_refl _) _) (Nat.le_refl _) _) (Nat.le_refl _) _)
      have HX3 : Hid (BoxN w3 w.heap.size nd.kind A1 nd.shp.length c1 A2 nd.ints.length c2 A3 nd.decs.length c3) := Lib.hid (by
        have hne : w.heap.size ≠ g := by have := HLT.out; omega
        rw [← hw3]
        refine (heap_setCell_other _ _ _ _ (show w.heap.size ≠ g from hne)).trans ?_
        refine (heap_setCell_other _ _ _ _ (show w.heap.size ≠ g from hne)).trans ?_
        exact (heap_setCell_other _ _ _ _ (show w.heap.size ≠ g from hne)).trans HBX.out)
      have HZ3 : Hid (w.heap.size ≤ w3.heap.size) := Lib.hid HB3.out.size
      clear hw3 r0 r1 r2 r3 f0 f1 f2 f3 b0 b1 HS2 HBX hmx hmx'
      have r3 := HS3.out.at3
      have f3 := HS3.out.froz 3
      dsimp only at r3
      have b0 := HX3.out.at0
      have b1 := HX3.out.at1
      have hne : ¬ w.heap.size = g := by have := HLT.out; omega
      generalize hl1 : nd.shp.length = l1 at *
      have hmx := max_is sr l1
      have hmx' := max_is' sr l1
      generalize hR : max sr l1 = R at hmx hmx'
      have HR := Lib.hid hR
      clear hR
      go_region
      generalize hw4 : (w3.setCell ⟨g, 3, none⟩ (.int .i64 ((R : Nat) : Int))).drew = w4
      have HS4 : Hid (StAt w4 g ⟨sn + 1, si + ι, M, R⟩) := Lib.hid (by rw [← hw4]; exact HS3.out.put3 R)
      have HB4 : Hid (Below g w w4) := Lib.hid (by rw [← hw4]; exact (Below.setCell HB3.out (Nat.le_refl _) _).drew)
      have q0 : w4.cell? ⟨w.heap.size, 0, none⟩ = some (.int .i64 nd.kind) := by
        rw [← hw4]
        have hx : BoxN (w3.setCell ⟨g, 3, none⟩ (.int .i64 ((R : Nat) : Int))).drew w.heap.size nd.kind A1 l1 c1 A2 nd.ints.length c2 A3 nd.decs.length c3 := (heap_setCell_other w3 _ _ _ (show w.heap.size ≠ g from hne)).trans HX3.out
        exact hx.at0
      clear hw4 HS3 HB3 HX3 HZ3 r3 f3 b0 b1 hmx hmx' hne
      have HL1 := Lib.hid hl1
      clear hl1
      by_cases hk : nd.kind = 5
      · rw [hk] at q0
        have HK := Lib.hid hk
        clear hk
        have HNO := Lib.hid (fun j t W (hj : j < ι) ht hw h => addR_nest_no (e := e) (s := ⟨sn, si, sd, sr⟩) (w := W) (j := j) (t := t) HDROP.out HB.out HK.out hιc.out hj ht hw h)
        have HYES := Lib.hid (fun t ht hi => addR_nest (e := e) (s := ⟨sn, si, sd, sr⟩) (t := t) HDROP.out HB.out HK.out hιc.out ht hi)
        clear HLEAF HDROP
        go_wp2
        go_loopg [83] ι (fun gk s83 wr => ∃ (j : Nat) (t : St), j ≤ ι ∧ gk = ι - j ∧ s83 = .int .i64 (j : Nat) ∧ Hid (parK (par e) j (ns.drop (sn + 1)) = some t) ∧ Hid (si + ι + t.i ≤ 1048576) ∧
          Hid (StAt wr g ⟨sn + 1 + t.n, si + ι + t.i, max M (D + t.d), max R t.r⟩) ∧ Hid (Below g w wr))
        case atStart =>
          refine ⟨0, st0, Nat.zero_le _, rfl, rfl, Lib.hid rfl, Lib.hid (by simp only [st0]; omega), Lib.hid ?_, HB4⟩
          have e1 : (⟨sn + 1 + st0.n, si + ι + st0.i, max M (D + st0.d), max R st0.r⟩ : St) = ⟨sn + 1, si + ι, M, R⟩ := by
            have := HM.out
            simp only [st0, St.mk.injEq]
            refine ⟨?_, ?_, ?_, ?_⟩ <;> first | trivial | omega
          rw [e1]
          exact HS4.out
        case round =>
          obtain ⟨j, t, hj, rfl, rfl, HP, HI2, HS, HBB⟩ := hrel
          by_cases hjl : j < ι
          · have hji : ((j : Nat) : Int) < ((ι : Nat) : Int) := by omega
            have hlen := parK_len (fun l s h => (par_len h).2.1) HP.out
            rw [List.length_drop, HN.out] at hlen
            have hdeep := parK_deep (fun l s h => (par_len h).2.2.2) HP.out
            have hrank := parK_rank (fun l s h => par_rank h) HP.out
            have HC := Lib.hid (IH.out (D + 1) g ⟨sn + 1 + t.n, si + ι + t.i, max M (D + t.d), max R t.r⟩ (some ⟨b, off, none⟩) n c ns wr (by omega) (by omega) HN.out hnb (by show sn + 1 + t.n ≤ n; omega) HI2.out
              (by have := HM.out; show max M (D + t.d) ≤ 16; omega) (by have := HR.out; show max R t.r ≤ 1100000; omega) HF.out HS.out (HNS.out.below HBB.out))
            cases ha : addR e ⟨sn + 1 + t.n, si + ι + t.i, max M (D + t.d), max R t.r⟩ ns with
            | none =>
              have HNO' := Lib.hid (HNO.out j t _ hjl HP.out ⟨rfl, rfl⟩ ha)
              have HA := Lib.hid ha
              clear ha hlen hdeep hrank
              go_wp2_with fail
              refine (HC.out).mono ?_
              rintro x w5 ⟨hbel, hx⟩
              rw [HA.out] at hx
              subst hx
              have HB5 := Lib.hid (HBB.out.trans hbel)
              clear hbel HC
              go_wp2
              go_ret
              exact AddP.no HNO'.out HB5.out
            | some t' =>
              have HA := Lib.hid ha
              clear ha hlen hdeep hrank
              go_wp2_with fail
              refine (HC.out).mono ?_
              rintro x w5 ⟨hbel, hx⟩
              rw [HA.out] at hx
              obtain ⟨rfl, hs5⟩ := hx
              have HB5 := Lib.hid (HBB.out.trans hbel)
              have HS5 := Lib.hid hs5
              clear hbel HC hs5
              go_wp2
              go_roundg (ι - (j + 1))
              case rel =>
                obtain ⟨hp', hi'⟩ := addR_some HA.out
                refine ⟨j + 1, t.plus t', by omega, rfl, by go_num, Lib.hid (parK_mk HP.out (by rw [List.drop_drop]; exact hp')), Lib.hid (by simp only [St.plus]; dsimp only at hi'; omega), Lib.hid ?_, HB5⟩
                have e1 : (⟨sn + 1 + (t.plus t').n, si + ι + (t.plus t').i, max M (D + (t.plus t').d), max R (t.plus t').r⟩ : St) = adv (D + 1) ⟨sn + 1 + t.n, si + ι + t.i, max M (D + t.d), max R t.r⟩ t' := by
                  simp only [adv, St.plus, St.mk.injEq]
                  omega
                rw [e1]
                exact HS5.out
              case measure => omega
          · obtain rfl : j = ι := by omega
            go_wp2
            go_ret
            refine AddP.yes (HYES.out t HP.out HI2.out) HBB.out ?_
            have e1 : adv D ⟨sn, si, sd, sr⟩ (top nd t) = ⟨sn + 1 + t.n, si + j + t.i, max M (D + t.d), max R t.r⟩ := by
              have := HM.out
              have := HR.out
              have := HL1.out
              have := hιc.out
              simp only [adv, top, St.mk.injEq]
              omega
            rw [e1]
            exact HS.out
      · have hkb : (nd.kind != 5) = true := by simpa using hk
        have HL := Lib.hid (HLEAF.out HB.out hk (by rw [← hιc.out]; omega))
        clear HLEAF
        go_wp2
        go_ret
        refine AddP.yes HL.out HB4.out ?_
        have e1 : adv D ⟨sn, si, sd, sr⟩ ⟨1, cnt nd.shp, 1, l1⟩ = ⟨sn + 1, si + ι, M, R⟩ := by
          have := HM.out
          have := HR.out
          have := hιc.out
          simp only [adv, St.mk.injEq]
          refine ⟨?_, ?_, ?_, ?_⟩ <;> first | trivial | omega
        rw [e1]
        exact HS4.out
end Go.Proofs.Ytcljpcbgokgcdaa
