/-
  What the document's own first, Take and Right come to, called with any nodes.
-/
import Derived.Test.YtcljpcbgokgcdaaRRight
import Derived.Test.YtcljpcbgokgcdaaFirsts
import Derived.Test.YtcljpcbgokgcdaaCuts
namespace Go.Proofs.Ytcljpcbgokgcdaa
open Go.RowKit Go.Lib
set_option linter.unusedSimpArgs false
set_option linter.unusedVariables false

def rf (d : Nat) (l : List Nd) : Option St := (par d l).bind fun s => if s.i ≤ 1048576 then some s else none
theorem rf_first (l : List Nd) : rf 16 l = fstD l := rfl
theorem rf_nil (d : Nat) : rf d [] = none := by unfold rf; rw [par_nil]; rfl
theorem rf_zero (l : List Nd) : rf 0 l = none := rfl
theorem rf_bad {d : Nat} {n : Nd} {l : List Nd} (h : okB n = false) : rf (d + 1) (n :: l) = none := by unfold rf; rw [par_cons, h]; rfl
theorem rf_some {d : Nat} {l : List Nd} {s : St} (h : rf d l = some s) : par d l = some s ∧ s.i ≤ 1048576 := by
  unfold rf at h
  cases hp : par d l with
  | none => simp [hp] at h
  | some u =>
    simp only [hp, Option.bind_some] at h
    split at h
    · cases h; exact ⟨rfl, by assumption⟩
    · cases h
theorem rf_leaf {d : Nat} {n : Nd} {l : List Nd} (h : okB n = true) (hk : n.kind ≠ 5) : rf (d + 1) (n :: l) = some (top n st0) := by
  have hkc : kc n = 0 := by simp [kc, hk]
  have hc := cnt_le1 n.shp
  unfold rf
  rw [par_mk h (by rw [hkc]; exact parK_zero _ _), Option.bind_some, if_pos]
  simp only [top, st0]
  omega
theorem rf_nest {d : Nat} {n : Nd} {l : List Nd} {t : St} (h : okB n = true) (hk : n.kind = 5) (ht : parK (par d) (cnt n.shp) l = some t) (hi : t.i + cnt n.shp ≤ 1048576) : rf (d + 1) (n :: l) = some (top n t) := by
  have hkc : kc n = cnt n.shp := by simp [kc, hk]
  unfold rf
  rw [par_mk h (by rw [hkc]; exact ht), Option.bind_some, if_pos]
  exact hi
theorem rf_no {d j : Nat} {n : Nd} {l : List Nd} {t : St} (h : okB n = true) (hk : n.kind = 5) (hj : j < cnt n.shp) (ht : parK (par d) j l = some t)
    (hno : rf d (l.drop t.n) = none ∨ ∃ s, rf d (l.drop t.n) = some s ∧ 1048576 < t.i + cnt n.shp + s.i) : rf (d + 1) (n :: l) = none := by
  have hkc : kc n = cnt n.shp := by simp [kc, hk]
  unfold rf
  rw [par_cons, if_pos h, hkc]
  cases hp : parK (par d) (cnt n.shp) l with
  | none => rfl
  | some u =>
    rw [Option.map_some, Option.bind_some, if_neg]
    obtain ⟨a, ha, _, hai, _⟩ := parK_to hp (j + 1) (by omega)
    obtain ⟨t', b, ht', hb', rfl⟩ := parK_some ha
    rw [ht] at ht'
    cases ht'
    have hgt : 1048576 < t.i + cnt n.shp + b.i := by
      rcases hno with h0 | ⟨s, hs, hg⟩
      · unfold rf at h0
        rw [hb', Option.bind_some] at h0
        by_cases hle : b.i ≤ 1048576
        · rw [if_pos hle] at h0; cases h0
        · omega
      · have := (rf_some hs).1
        rw [hb'] at this
        cases this
        exact hg
    simp only [top, St.plus] at hai ⊢
    omega
def FstP (o : Option St) (w : World) (e : Ending) (w' : World) : Prop := e = .returned (.tuple #[.int .i64 ((o.getD st0).n : Nat), .int .i64 ((o.getD st0).i : Nat), .int .i64 ((o.getD st0).d : Nat)]) ∧ Grow w w'
theorem FstP.no {o : Option St} {w w' : World} (h : o = none) (hg : Grow w w') : FstP o w (.returned (.tuple #[.int .i64 0, .int .i64 0, .int .i64 0])) w' := by subst h; exact ⟨rfl, hg⟩
theorem FstP.yes {o : Option St} {s : St} {w w' : World} (h : o = some s) (hg : Grow w w') : FstP o w (.returned (.tuple #[.int .i64 (s.n : Nat), .int .i64 (s.i : Nat), .int .i64 (s.d : Nat)])) w' := by subst h; exact ⟨rfl, hg⟩

set_option maxRecDepth 10000 in
set_option maxHeartbeats 1100000 in
theorem rfirst_any : ∀ (d : Nat) (A : Option Addr) (n c : Nat) (ns : List Nd) (w : World), d ≤ 16 → ns.length = n → n ≤ 1100000 → n ≤ c → Fits ns → Nodes w w.heap.size A ns →
    Calls Try.prog 69 #[.slice A n c, .int .i64 (d : Nat)] w (FstP (rf d ns) w) := by
  intro d
  induction d with
  | zero =>
    intro A n c ns w hd hn hnb hnc hf hns
    clear hns hf
    by_cases h0 : n = 0
    · subst h0
      go_enter Try.func69, Try.ntmps69
      go_wp2
      go_ret3
      exact FstP.no (rf_zero ns) (Grow.refl _)
    · have hb : (((n : Nat) : Int) == 0) = false := by simp; omega
      go_enter Try.func69, Try.ntmps69
      go_wp2
      go_ret3
      exact FstP.no (rf_zero ns) (Grow.refl _)
  | succ d ih =>
    intro A n c ns w hd hn hnb hnc hf hns
    have IH := Lib.hid ih
    clear ih
    by_cases h0 : n = 0
    · subst h0
      have hnil := List.eq_nil_of_length_eq_zero hn
      subst hnil
      clear hns hf
      go_enter Try.func69, Try.ntmps69
      go_wp2
      go_ret3
      exact FstP.no (rf_nil _) (Grow.refl _)
    obtain ⟨D, hD⟩ : ∃ D, d + 1 = D := ⟨_, rfl⟩
    rw [hD]
    have hD1 : ¬ ((D : Nat) : Int) < 1 := by omega
    have hDD : IntKind.i64.wrap (((D : Nat) : Int) - 1) = ((d : Nat) : Int) := by rw [IntKind.wrap_i64]; omega
    have hd15 : d ≤ 16 := by omega
    have hb : (((n : Nat) : Int) == 0) = false := by simp; omega
    have hpos : (0 : Int) < ((n : Nat) : Int) := by omega
    cases ns with
    | nil => exact absurd hn.symm h0
    | cons nd l =>
      have HL : Hid (l.length + 1 = n) := Lib.hid (by rw [← hn, List.length_cons])
      have HFN := Lib.hid (hf nd (by simp))
      have HF := Lib.hid hf
      obtain ⟨b, off, rfl, hbk, hat⟩ := hns (by rw [hn]; omega)
      obtain ⟨A1, c1, A2, c2, A3, c3, p0, p1, p2, p3, hnd⟩ := hat 0 (by rw [hn]; omega)
      have hg0 : (nd :: l).getD 0 nd0 = nd := rfl
      rw [hg0] at p0 p1 p2 p3 hnd
      rw [Nat.zero_mul, Nat.add_zero] at p0 p1 p2 p3
      have HNS := Lib.hid hns
      have HBK := Lib.hid hbk
      have P0 := Lib.hid p0
      have HC := Lib.hid (rnode_any nd A1 A2 A3 c1 c2 c3 w HFN.out hnd)
      have HDE := Lib.hid hD
      have HBAD := Lib.hid (fun h => rf_bad (d := d) (n := nd) (l := l) h)
      have HLEAF := Lib.hid (fun h1 h2 => rf_leaf (d := d) (n := nd) (l := l) h1 h2)
      have HNEST := Lib.hid (fun t h1 h2 => rf_nest (d := d) (n := nd) (l := l) (t := t) h1 h2)
      have HNO := Lib.hid (fun j t h1 h2 => rf_no (d := d) (j := j) (n := nd) (l := l) (t := t) h1 h2)
      rw [hD] at HBAD HLEAF HNEST HNO
      have HTOP : Hid (top nd st0 = ⟨1, cnt nd.shp, 1, nd.shp.length⟩) := Lib.hid (by simp [top, st0])
      have hC1 := cnt_le1 nd.shp
      have HIT : Hid (okB nd = true → itm nd = cnt nd.shp) := Lib.hid (fun h => by unfold itm; rw [if_pos h])
      clear hns hat hnd hbk hf hn hD hg0
      obtain ⟨ρ, hρ⟩ : ∃ ρ, rf D (nd :: l) = ρ := ⟨_, rfl⟩
      rw [hρ] at HBAD HLEAF HNEST HNO ⊢
      obtain ⟨C, hC⟩ : ∃ C, cnt nd.shp = C := ⟨_, rfl⟩
      rw [hC] at HNEST HNO HTOP HIT hC1
      have HCQ := Lib.hid hC
      clear hρ hC
      cases hok : okB nd with
      | false =>
        have HB := Lib.hid (HBAD.out hok)
        rw [hok] at HC
        generalize itm nd = ι at HC
        clear hok HLEAF HNEST HNO HBAD
        generalize nd.shp.length = l1 at *
        generalize nd.ints.length = l2 at *
        generalize nd.decs.length = l3 at *
        generalize nd.kind = k at *
        go_enter Try.func69, Try.ntmps69
        go_wp2_with fail
        refine (HC.out).mono ?_
        rintro e w2 ⟨rfl, hg2⟩
        go_wp2
        go_ret3
        exact FstP.no HB.out hg2
      | true =>
        have HLF := Lib.hid (HLEAF.out hok)
        have HNS5 := Lib.hid (fun t => HNEST.out t hok)
        have HNO5 := Lib.hid (fun j t => HNO.out j t hok)
        rw [hok, HIT.out hok] at HC
        clear hok HLEAF HNEST HNO HBAD HIT
        by_cases hk : nd.kind = 5
        · have hkb : (nd.kind != 5) = false := by rw [hk]; rfl
          have HNS6 := Lib.hid (fun t => HNS5.out t hk)
          have HNO6 := Lib.hid (fun j t => HNO5.out j t hk)
          clear HNS5 HNO5 HLF hk
          generalize nd.shp.length = l1 at p1 HC
          generalize nd.ints.length = l2 at p2 HC
          generalize nd.decs.length = l3 at p3 HC
          generalize hkk : nd.kind = k at *
          clear hkk
          go_enter Try.func69, Try.ntmps69
          go_wp2_with fail
          refine (HC.out).mono ?_
          rintro e w2 ⟨rfl, hg2⟩
          have HG2 := Lib.hid hg2
          have q0 := (hg2.cell (p := ⟨b, off, none⟩) HBK.out).trans P0.out
          clear hg2 HC p0 p1 p2 p3
          go_wp2
          clear q0
          go_loopg [9, 10, 11, 12] C (fun g s9 s10 s11 s12 wr => ∃ (j : Nat) (t : St) (u v : Nat), j ≤ C ∧ g = C - j ∧ s12 = .int .i64 j ∧ s9 = .int .i64 u ∧ s10 = .int .i64 v ∧ s11 = .int .i64 (t.d : Nat) ∧ Hid (u = t.n + 1) ∧ Hid (v = t.i + C) ∧ u ≤ n ∧ v ≤ 1048576 ∧ t.d ≤ 16 ∧
            Hid (parK (par d) j l = some t) ∧ Hid (Grow w wr))
          case atStart => exact ⟨0, st0, 1, C, Nat.zero_le _, rfl, rfl, rfl, rfl, rfl, Lib.hid rfl, Lib.hid (by simp [st0]), by omega, hC1, Nat.zero_le _, Lib.hid (parK_zero _ _), HG2⟩
          case round =>
            obtain ⟨j, t, u, v, hj, rfl, rfl, rfl, rfl, rfl, HU, HV, hun, hv2, htd, HP, HG⟩ := hrel
            obtain ⟨tn, ti, td, tr⟩ := t
            dsimp only at HU HV htd
            by_cases hlt : j < C
            · have hlti : ((j : Nat) : Int) < ((C : Nat) : Int) := by omega
              have hcut := run_cut_lo (some ⟨b, off, none⟩) n c u hun
              obtain ⟨AU, hAU⟩ : ∃ AU, cutA (some ⟨b, off, none⟩) c u = AU := ⟨_, rfl⟩
              rw [hAU] at hcut
              have HNU : Hid (Nodes wr wr.heap.size AU (l.drop tn)) := Lib.hid (by
                have h1 := (HNS.out.grow HG.out).cut c u (by rw [List.length_cons, HL.out]; exact hnc)
                rw [hAU, HU.out] at h1
                exact h1)
              have HLU : Hid ((l.drop tn).length = n - u) := Lib.hid (by rw [List.length_drop]; have := HL.out; have := HU.out; omega)
              have HFU : Hid (Fits (l.drop tn)) := Lib.hid (fun m hm => HF.out m (List.mem_cons_of_mem _ (List.mem_of_mem_drop hm)))
              have HR := Lib.hid (IH.out AU (n - u) (c - u) (l.drop tn) wr hd15 HLU.out (by omega) (by omega) HFU.out HNU.out)
              have HNN := Lib.hid (HNO6.out j ⟨tn, ti, td, tr⟩ hlt HP.out)
              have HPS := Lib.hid (fun s h => parK_mk (f := par d) (j := j) (l := l) (a := ⟨tn, ti, td, tr⟩) (b := s) HP.out h)
              clear hAU HNU HLU HFU HP
              cases hrf : rf d (l.drop tn) with
              | none =>
                have HB := Lib.hid (HNN.out (.inl hrf))
                rw [hrf] at HR
                clear hrf HNN HPS
                go_wp2_with fail
                refine (HR.out).mono ?_
                rintro e w3 ⟨rfl, hg3⟩
                have HG3 := Lib.hid (HG.out.trans hg3)
                clear hg3 HR
                have hz : st0.n = 0 := rfl
                simp only [Option.getD_none, hz]
                go_wp2
                go_ret3
                exact FstP.no HB.out HG3.out
              | some s =>
                obtain ⟨hp, hsi⟩ := rf_some hrf
                obtain ⟨hn1, hn2, hd1, hd2⟩ := par_len hp
                rw [List.length_drop] at hn2
                have hln := HL.out
                rw [hrf] at HR
                have HP2 := Lib.hid (HPS.out s hp)
                obtain ⟨sn, si, sd, sr⟩ := s
                dsimp only at hsi hn1 hn2 hd1 hd2
                have hne : (((sn : Nat) : Int) == 0) = false := by simp; omega
                have hwi : IntKind.i64.wrap (((v : Nat) : Int) + ((si : Nat) : Int)) = ((v : Nat) : Int) + ((si : Nat) : Int) := by rw [IntKind.wrap_i64]; omega
                by_cases hgt : 1048576 < v + si
                · have hgti : (1048576 : Int) < ((v : Nat) : Int) + ((si : Nat) : Int) := by omega
                  have HB := Lib.hid (HNN.out (.inr ⟨_, hrf, by have := HV.out; show 1048576 < ti + C + si; omega⟩))
                  clear hrf HNN HPS hp
                  go_wp2_with fail
                  refine (HR.out).mono ?_
                  rintro e w3 ⟨rfl, hg3⟩
                  have HG3 := Lib.hid (HG.out.trans hg3)
                  clear hg3 HR
                  simp only [Option.getD_some]
                  go_wp2
                  go_ret3
                  exact FstP.no HB.out HG3.out
                · have hgti : ¬ (1048576 : Int) < ((v : Nat) : Int) + ((si : Nat) : Int) := by omega
                  have hwu : IntKind.i64.wrap (((u : Nat) : Int) + ((sn : Nat) : Int)) = ((u : Nat) : Int) + ((sn : Nat) : Int) := by rw [IntKind.wrap_i64]; omega
                  have hmx := max_is td sd
                  have hmx' := max_is' td sd
                  obtain ⟨M, hM⟩ : ∃ M, max td sd = M := ⟨_, rfl⟩
                  rw [hM] at hmx hmx'
                  have HM := Lib.hid hM
                  have hM16 : M ≤ 16 := by omega
                  clear hrf HNN HPS hp hM
                  go_wp2_with fail
                  refine (HR.out).mono ?_
                  rintro e w3 ⟨rfl, hg3⟩
                  have HG3 := Lib.hid (HG.out.trans hg3)
                  clear hg3 HR
                  simp only [Option.getD_some]
                  go_wp2
                  go_roundg (C - (j + 1))
                  case rel =>
                    refine ⟨j + 1, ⟨tn + sn, ti + si, M, max tr sr⟩, u + sn, v + si, by omega, rfl, by go_num, by go_num, by go_num, by go_num, Lib.hid (by have := HU.out; show u + sn = tn + sn + 1; omega), Lib.hid (by have := HV.out; show v + si = ti + si + C; omega), by have := HU.out; omega, by omega, hM16, Lib.hid ?_, HG3⟩
                    rw [HP2.out]
                    simp only [St.plus, HM.out]
                  case measure => omega
            · obtain rfl : C = j := by omega
              have hcc : ¬ ((C : Nat) : Int) < ((C : Nat) : Int) := by omega
              have HE : Hid (ρ = some ⟨u, v, td + 1, max tr nd.shp.length⟩) := Lib.hid (by
                rw [HNS6.out ⟨tn, ti, td, tr⟩ HP.out (by have := HV.out; show ti + C ≤ 1048576; omega), HU.out, HV.out]
                simp only [top, HCQ.out])
              have hwd : IntKind.i64.wrap (((td : Nat) : Int) + 1) = ((td + 1 : Nat) : Int) := by rw [IntKind.wrap_i64]; omega
              go_wp2
              go_ret3
              exact FstP.yes HE.out HG.out
        · have hkb : (nd.kind != 5) = true := by simpa using hk
          have HLF2 := Lib.hid (HLF.out hk)
          have HE : Hid (ρ = some ⟨1, C, 1, nd.shp.length⟩) := Lib.hid (by rw [HLF2.out, HTOP.out])
          clear HNS5 HNO5 HLF HLF2 hk HTOP
          generalize nd.shp.length = l1 at *
          generalize nd.ints.length = l2 at *
          generalize nd.decs.length = l3 at *
          generalize nd.kind = k at *
          go_enter Try.func69, Try.ntmps69
          go_wp2_with fail
          refine (HC.out).mono ?_
          rintro e w2 ⟨rfl, hg2⟩
          have q0 := (hg2.cell (p := ⟨b, off, none⟩) HBK.out).trans P0.out
          go_wp2
          go_ret3
          exact FstP.yes HE.out hg2
end Go.Proofs.Ytcljpcbgokgcdaa
