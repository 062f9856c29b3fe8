/-
  What runs.comesTo comes to.
-/
import Derived.Test.YtoapfegmipopkaaGrp
namespace Go.Proofs.Ytoapfegmipopkaa
open Go.RowKit

/-- there are n bytes of which these are groups -/
def Comes (xs : List Int) (n : Int) : Prop := ∃ ys, Grps xs ys ∧ (ys.length : Int) = n

theorem comes_nil (n : Int) : Comes [] n ↔ n = 0 := by
  constructor
  · rintro ⟨ys, h, hn⟩
    rw [grps_nil h] at hn
    simpa using hn.symm
  · rintro rfl
    exact ⟨[], .nil, rfl⟩

theorem field_err (x y z : Int) (w : World) : (Sem.run Try.prog (Instr.field 40 (.agg #[.int .i64 x, .int .i64 y, .int .i64 z]) 0) w) = .ok (.int .i64 x) w := by
  simp [Instr.field, asAgg, go_sem]

structure CountAt (T : TypeId) (S : Nat → Prop) (g : Nat) (xs : List Int) (n0 : Int) (w1 : World) (s : St) (n : Int) (wr : World) : Prop where
  isC : IsC T S wr g s
  good : Good s
  lo : -4 ≤ n
  hi : n ≤ 2147483647
  len : s.bs.length ≤ 1000000
  iff : Comes xs n0 ↔ s.e = 0 ∧ Comes s.bs n
  kept : Kept S w1 wr

set_option maxRecDepth 10000 in
set_option maxHeartbeats 1600000 in
theorem comes_any (A : Option Addr) (m cap : Nat) (xs : List Int) (n : Int) (w : World) (hm : xs.length = m) (hl : m ≤ 1000000) (hc : A = none → cap = 0) (hb : Byt xs) (hr : Nums .u8 w w.heap.size A xs) (h0 : 0 ≤ n) (h1 : n ≤ 2147483647) :
    Calls Try.prog 15 #[.slice A m cap, .int .i64 n] w fun e w' => ∃ b : Bool, e = .returned (.bool b) ∧ (b = true ↔ Comes xs n) ∧ Grow w w' := by
  have HO := Lib.hid (open_any A m cap xs 0 w hm hl hc hr)
  have HG := Lib.hid (open_good xs 0 hb (by omega))
  have HM := Lib.hid hm
  clear hm hb hr
  go_enter Try.func15, Try.ntmps15
  go_wp2_with fail
  refine (HO.out).mono ?_
  rintro e w1 ⟨g, rfl, hgw, hgl, hg1, hic⟩
  obtain ⟨S, hS⟩ : ∃ S : Nat → Prop, S = fun k => k = g ∨ w1.heap.size ≤ k := ⟨_, rfl⟩
  have HIC := Lib.hid (hic S (by rw [hS]; exact .inl rfl) (fun k hk => by rw [hS] at hk; exact .inr hk))
  have HG1 := Lib.hid hg1
  have HS := Lib.hid hS
  have HGW := Lib.hid hgw
  have HST := Lib.hid (show CountAt 44 S g xs n w1 (openS xs 0) n w1 from
    ⟨HIC.out, HG.out, by omega, h1, by show xs.length ≤ _; rw [HM.out]; exact hl, by show _ ↔ (0 : Int) = 0 ∧ Comes xs n; simp, Kept.refl _ _⟩)
  clear hic hg1 hS hgw hgl HO HIC HG
  go_wp2_with fail
  go_loopg [1] m (fun gk s1 wr => ∃ (s : St) (L : Nat) (n' : Int), gk = L ∧ s1 = .int .i64 n' ∧ s.bs.length = L ∧ CountAt 44 S g xs n w1 s n' wr)
  case atStart => exact ⟨openS xs 0, m, n, rfl, rfl, HM.out, HST.out⟩
  case round =>
    obtain ⟨s, L, n', rfl, rfl, hL, hat⟩ := hrel
    have HT := Lib.hid hat
    have HL := Lib.hid hL
    have hlo := hat.lo
    have hhi := hat.hi
    have hlen := hat.len
    rw [hL] at hlen
    have HLE := Lib.hid (left_any wr hat.isC)
    rw [hL] at HLE
    clear hat hL
    by_cases hz : gk = 0
    · subst hz
      have HNI := Lib.hid (List.eq_nil_of_length_eq_zero HL.out)
      go_wp2_with fail
      refine (HLE.out).mono ?_
      rintro e w' ⟨rfl, rfl⟩
      by_cases hn0 : n' = 0
      · subst hn0
        have HF := Lib.hid (fault_any wr HT.out.isC)
        have HX := Lib.hid (show (s.e == 0) = true ↔ Comes xs n by
          rw [HT.out.iff, HNI.out, comes_nil]
          simp)
        go_wp2_with fail
        refine (HF.out).mono ?_
        rintro e w2 ⟨rfl, hgf⟩
        have HGF := Lib.hid hgf
        have hfd := field_err s.e 0 s.q w2
        clear hgf
        go_wp2
        go_ret
        exact ⟨s.e == 0, rfl, HX.out, (Kept.grow HG1.out HT.out.kept (fun i hi => by rw [HS.out] at hi; rcases hi with rfl | hi; exact HGW.out; exact Nat.le_trans HG1.out.size hi)).trans HGF.out⟩
      · have hnb : (n' == 0) = false := by simpa using hn0
        have HX := Lib.hid (show false = true ↔ Comes xs n by
          rw [HT.out.iff, HNI.out, comes_nil]
          simp [hn0])
        go_wp2
        go_ret
        exact ⟨false, rfl, HX.out, Kept.grow HG1.out HT.out.kept (fun i hi => by rw [HS.out] at hi; rcases hi with rfl | hi; exact HGW.out; exact Nat.le_trans HG1.out.size hi)⟩
    · have hpos : 0 < gk := by omega
      have HGR := Lib.hid (group_any n' wr HT.out.isC HT.out.good (fun k hk => by rw [HS.out]; exact .inr (Nat.le_trans HT.out.kept.size hk)) (by omega) hhi)
      have hbd := grp_bounds HT.out.good hlo hhi
      have hne : s.bs ≠ [] := fun e => by have := HL.out; rw [e] at this; simp at this; omega
      have HLS := Lib.hid (grp_less (n := n') HT.out.good hne)
      have HST2 := Lib.hid (grp_step HT.out.good hne hhi)
      have HGD := Lib.hid (grp_good (n := n') HT.out.good)
      rw [HL.out] at hbd
      rw [HL.out] at HLS
      clear hne
      obtain ⟨⟨own, tm, s2⟩, hr⟩ : ∃ r, grpS n' s = r := ⟨_, rfl⟩
      rw [hr] at HGR hbd HLS HST2 HGD
      simp only at HGR hbd HLS HST2 HGD
      clear hr
      go_wp2_with fail
      refine (HLE.out).mono ?_
      rintro e w' ⟨rfl, rfl⟩
      go_wp2_with fail
      refine (HGR.out).mono ?_
      rintro e w2 ⟨v, hown, rfl, hi2, hkp2⟩
      obtain ⟨A2, c2, rfl, -, -, -⟩ := own_nums hown
      have HI2 := Lib.hid hi2
      have HK2 := Lib.hid hkp2
      clear hown hi2 hkp2
      go_wp2
      go_roundg s2.bs.length
      case rel =>
        refine ⟨s2, s2.bs.length, n' - ((own.length * tm : Nat) : Int), rfl, by simp, rfl, HI2.out.grow (grow_new _ _), HGD.out, hbd.2.2.2.2, by omega, ?_, ?_, ?_⟩
        · have := HLS.out; omega
        · rw [HT.out.iff]
          exact HST2.out
        · refine (HT.out.kept.trans (HK2.out.mono ?_)).alloc _
          intro k e
          rw [HS.out, e]
          exact .inl rfl
      case measure => exact HLS.out
end Go.Proofs.Ytoapfegmipopkaa
