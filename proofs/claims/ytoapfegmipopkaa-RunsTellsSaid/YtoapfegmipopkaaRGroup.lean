/-
  What the document's own groups comes to, called with any bytes.
-/
import Derived.Test.YtoapfegmipopkaaRGroups
namespace Go.Proofs.Ytoapfegmipopkaa
open Go.RowKit

theorem c_err {t : TypeId} {S : Nat → Prop} {w : World} {g : Nat} {s : St} (h : IsC t S w g s) : w.cell? ⟨g, 2, none⟩ = some (.int .i64 s.e) := by
  obtain ⟨_, A, cap, hb, _⟩ := h
  exact (cells5 hb).2.2.1

set_option maxRecDepth 10000 in
set_option maxHeartbeats 3200000 in
theorem rgroups_any (A : Option Addr) (m cap : Nat) (xs : List Int) (n : Int) (w : World) (hm : xs.length = m) (hl : m ≤ 1000000) (hc : A = none → cap = 0) (hb : Byt xs) (hr : Nums .u8 w w.heap.size A xs) (h0 : -9223372036854775808 ≤ n) (h1 : n ≤ 5000) :
    Calls Try.prog 20 #[.slice A m cap, .int .i64 n] w (RGot xs n w) := by
  have HO := Lib.hid (ropen_any A m cap xs 0 w hm hl hc hr)
  have HG := Lib.hid (open_good xs 0 hb (by omega))
  have HM := Lib.hid hm
  have HB := Lib.hid hb
  clear hm hb hr
  go_enter Try.func20, Try.ntmps20
  go_wp2_with fail
  refine (HO.out).mono ?_
  rintro e w1 ⟨g, rfl, hgw, hgl, hg1, hic⟩
  obtain ⟨S, hS⟩ : ∃ S : Nat → Prop, S = fun k => k = g ∨ w1.heap.size ≤ k := ⟨_, rfl⟩
  have HIC := Lib.hid (hic S (by rw [hS]; exact .inl rfl) (fun k hk => by rw [hS] at hk; exact .inr hk))
  have HG1 := Lib.hid hg1
  have HS := Lib.hid hS
  have HSW := Lib.hid (show ∀ k, S k → w.heap.size ≤ k from fun k hk => by
    rw [hS] at hk
    have := hg1.size
    rcases hk with rfl | hk
    · exact hgw
    · omega)
  have HST := Lib.hid (show GAt 63 S g xs n w1 (openS xs 0) [] 0 (.slice none 0 0) w1 from
    ⟨HIC.out, HG.out, rfl, fun ys hy _ => ⟨ys, hy, rfl⟩, fun zs hz => hz, rfl, .inl rfl, World.ownsRow_nil _ _ _ _, Kept.refl _ _⟩)
  clear hic hg1 hS hgw HO HIC HG
  go_wp2_with fail
  go_loopg [7] m (fun gk s7 wr => ∃ (s : St) (L : Nat) (o : List Int) (O : Nat) (v : Value), gk = L ∧ v = s7 ∧ s.bs.length = L ∧ GAt 63 S g xs n w1 s o O v wr)
  case atStart => exact ⟨openS xs 0, m, [], 0, _, rfl, rfl, HM.out, HST.out⟩
  case round =>
    obtain ⟨s, L, o, O, v, rfl, rfl, hL, hat⟩ := hrel
    have HT := Lib.hid hat
    have HL := Lib.hid hL
    have HLE := Lib.hid (rleft_any wr hat.isC)
    have hlen := hat.good.len
    rw [hL] at HLE hlen
    have hroom := hat.room
    obtain ⟨A7, c7, rfl, hA7, -, -⟩ := own_nums hat.own
    clear hat hL
    obtain ⟨w2, hw2⟩ : ∃ w2, w2 = wr := ⟨_, rfl⟩
    subst hw2
    by_cases hz : gk = 0
    · subst hz
      have HGO := Lib.hid (show Grps xs o by
        have := HT.out.bwd [] (by rw [List.eq_nil_of_length_eq_zero HL.out]; exact .nil)
        rwa [List.append_nil] at this)
      have HG2 := Lib.hid (Kept.grow HG1.out HT.out.kept HSW.out)
      go_wp2_with fail
      refine (HLE.out).mono ?_
      rintro e w' ⟨rfl, rfl⟩
      go_wp2
      go_ret2
      exact ⟨HG2.out, .inl ⟨o, _, HGO.out, grps_byt HGO.out HB.out, by rw [HT.out.olen]; omega, rfl, by rw [HT.out.olen]; exact own_base HT.out.own HG1.out.size⟩⟩
    · have hpos : 0 < gk := by omega
      have hne : s.bs ≠ [] := fun e => by have := HL.out; rw [e] at this; simp at this; omega
      have HNE := Lib.hid hne
      have HNU := Lib.hid (rnum_any 1099511627776 w2 HT.out.isC HT.out.good (by decide))
      have hle := numS_le 1099511627776 s
      have hgd1 := HT.out.good.num 1099511627776
      have HLS := Lib.hid (grp_less (n := 549755813888) HT.out.good hne)
      rw [HL.out] at HLS
      obtain ⟨⟨V, s1⟩, hr⟩ : ∃ r, numS 1099511627776 s = r := ⟨_, rfl⟩
      rw [hr] at HNU hle hgd1
      simp only at HNU hle hgd1
      have hV : V ≤ 1099511627776 := by omega
      have HRR := Lib.hid (show numS (2 * 549755813888) s = (V, s1) from hr)
      have HGD1 := Lib.hid hgd1
      have hlo : -9223372036854775808 ≤ n - (O : Int) := by omega
      have HG2 := Lib.hid (Kept.grow HG1.out HT.out.kept HSW.out)
      clear hne hr hle hgd1
      have hO5 : O ≤ 5000 := by omega
      have hnO : n - (O : Int) ≤ 5000 := by omega
      have HKS := Lib.hid (show ∀ k, k = g → S k from fun k e => by rw [HS.out]; exact .inl e)
      by_cases hodd : V % 2 = 1
      · have HGO := Lib.hid (grp_odd HT.out.good HRR.out hodd)
        obtain ⟨K, hK⟩ : ∃ K, V / 2 + 3 = K := ⟨_, rfl⟩
        rw [hK] at HGO
        have hKi : (V : Int) / 2 + 3 = (K : Int) := by omega
        have hoddi : (V : Int) % 2 = 1 := by omega
        have HKK := Lib.hid hK
        clear hK
        go_wp2_with fail
        refine (HLE.out).mono ?_
        rintro e w' ⟨rfl, rfl⟩
        go_wp2_with fail
        refine (HNU.out).mono ?_
        rintro e w3 ⟨rfl, hi3, hk3⟩
        have HI3 := Lib.hid hi3
        have HK3 := Lib.hid hk3
        clear hi3 hk3
        by_cases hmuch : n - (O : Int) < (K : Int)
        · have HNO := Lib.hid (HT.out.much HNE.out h1 (m := K) (fun he => by
            rw [HGO.out.1] at he
            rw [HGO.out.2 he, List.length_replicate]) hmuch)
          have HGW := Lib.hid (Kept.grow HG1.out (HT.out.kept.trans (HK3.out.mono HKS.out)) HSW.out)
          go_wp2
          go_ret2
          exact ⟨HGW.out, .inr ⟨HNO.out, rfl⟩⟩
        · have hle2 : (K : Int) ≤ n - (O : Int) := by omega
          have hK5 : K ≤ 5000 := by omega
          have HBY := Lib.hid (rbyte_any w3 HI3.out HGD1.out)
          have hnm : ¬ (n - (O : Int) < (V : Int) / 2 + 3) := by omega
          have hne0 : ¬ (V : Int) % 2 = 0 := by omega
          obtain ⟨⟨y, s2⟩, hby⟩ : ∃ r, byteS s1 = r := ⟨_, rfl⟩
          rw [hby] at HBY HGO
          simp only at HBY HGO
          clear hby
          go_wp2_with fail
          refine (HBY.out).mono ?_
          rintro e w4 ⟨rfl, hi4, hk4⟩
          have HI4 := Lib.hid hi4
          have HK4 := Lib.hid (HK3.out.trans hk4)
          have HO4 := Lib.hid (own_kept HT.out.own HK4.out (fun k e hk => by
            have q1 := (HT.out.own.lt k e).1
            have q2 : k = g := hk
            omega))
          have HS4 := Lib.hid (Nat.le_trans HT.out.kept.size HK4.out.size)
          clear hi4 hk4 HI3 HBY HNU HLE
          go_wp2_with fail
          go_loopg [7, 11] K (fun gz s7 s11 wz => ∃ (j : Nat) (v' : Value), j ≤ K ∧ gz = K - j ∧ v' = s7 ∧ s11 = .int .i64 j ∧ wz.ownsRow w1.heap.size 5 1 v' (O + j) (u8s (o ++ List.replicate j y)) ∧ Below w1.heap.size w4 wz)
          case atStart => exact ⟨0, _, Nat.zero_le _, rfl, rfl, rfl, by rw [List.replicate_zero, List.append_nil]; exact HO4.out, Below.refl _ _⟩
          case round =>
            obtain ⟨j, v', hj, rfl, rfl, rfl, hown, hg5⟩ := hrel
            by_cases hjk : j < K
            · have hjk' : (j : Int) < (V : Int) / 2 + 3 := by omega
              have HO := Lib.hid (hown.alloc (.cells #[.int .u8 y] 5))
              have HL5 := Lib.hid (lit_nums wr .u8 5 [y])
              have HG5 := Lib.hid (show Below w1.heap.size w4 (wr.alloc (.cells #[.int .u8 y] 5)) from Below.trans hg5 (Below.mono (grow_new wr _) (Nat.le_trans HS4.out hg5.size)))
              clear hown hg5
              go_wp2_with (at_builtin; refine wpList_append_bytes rfl _ _ rfl w1.heap.size v' (O + j) 1 1 (o ++ List.replicate j y) [y] (some ⟨wr.heap.size, 0, none⟩) _ rfl HO.out rfl rfl (by simp) HL5.out (by omega) (Nat.le_trans HS4.out HG5.out.size) ?_; intro v6 w6 hown6 hb6)
              have HO6 := Lib.hid (show w6.ownsRow w1.heap.size 5 1 v6 (O + (j + 1)) (u8s (o ++ List.replicate (j + 1) y)) by rw [List.replicate_succ', ← List.append_assoc, ← Nat.add_assoc]; exact hown6)
              have HG6 := Lib.hid (show Below w1.heap.size w4 w6 from Below.trans HG5.out hb6)
              clear hown6 hb6
              go_wp2
              go_roundg (K - (j + 1))
              case rel => exact ⟨j + 1, v6, by omega, rfl, rfl, by go_num, HO6.out, HG6.out⟩
              case measure => omega
            · obtain rfl : K = j := by omega
              have hjk' : ¬ ((K : Int) < (V : Int) / 2 + 3) := by omega
              have hk5 : Kept (fun k => w1.heap.size ≤ k) w4 wr := Kept.of_below hg5 (fun k _ h => by omega)
              have HK5 := Lib.hid (show Kept S w1 wr from HT.out.kept.trans ((HK4.out.mono HKS.out).trans (hk5.mono (fun k h => by rw [HS.out]; exact .inr h))))
              have HI5 := Lib.hid (HI4.out.kept hk5 (fun k h => by rw [HS.out]; exact .inr h) (by omega))
              have hcell := c_err HI5.out
              have HO5 := Lib.hid hown
              clear hown hg5 hk5
              by_cases herr : s2.e = 0
              · have HN := Lib.hid (HT.out.next HNE.out h1 HGO.out.1 (HGO.out.2 herr) herr (by simp) (by omega) HI5.out HO5.out HK5.out)
                have HLS' := HLS
                rw [HGO.out.1] at HLS'
                rw [herr] at hcell
                go_wp2
                go_roundg s2.bs.length
                case rel => exact ⟨s2, s2.bs.length, _, _, v', rfl, rfl, rfl, HN.out⟩
                case measure => exact HLS'.out
              · have HNO := Lib.hid (HT.out.none HNE.out h1 HGO.out.1 herr)
                have HGW := Lib.hid (Kept.grow HG1.out HK5.out HSW.out)
                have herrb : (s2.e != 0) = true := by simpa using herr
                go_wp2
                go_ret2
                exact ⟨HGW.out, .inr ⟨HNO.out, rfl⟩⟩
      · have heven : V % 2 = 0 := by omega
        have HGO := Lib.hid (grp_even HT.out.good HRR.out heven)
        obtain ⟨K, hK⟩ : ∃ K, V / 2 + 1 = K := ⟨_, rfl⟩
        have hKi : (V : Int) / 2 + 1 = (K : Int) := by omega
        rw [hK] at HGO
        have heveni : (V : Int) % 2 = 0 := by omega
        have hnodd : ¬ (V : Int) % 2 = 1 := by omega
        clear hK
        go_wp2_with fail
        refine (HLE.out).mono ?_
        rintro e w' ⟨rfl, rfl⟩
        go_wp2_with fail
        refine (HNU.out).mono ?_
        rintro e w3 ⟨rfl, hi3, hk3⟩
        have HI3 := Lib.hid hi3
        have HK3 := Lib.hid hk3
        clear hi3 hk3
        by_cases hmuch : n - (O : Int) < (K : Int)
        · have HNO := Lib.hid (HT.out.much HNE.out h1 (m := K) (fun he => by
            rw [HGO.out.1] at he
            rw [HGO.out.2.1]
            exact HGO.out.2.2 he) hmuch)
          have HGW := Lib.hid (Kept.grow HG1.out (HT.out.kept.trans (HK3.out.mono HKS.out)) HSW.out)
          go_wp2
          go_ret2
          exact ⟨HGW.out, .inr ⟨HNO.out, rfl⟩⟩
        · have hle2 : (K : Int) ≤ n - (O : Int) := by omega
          have hK5 : K ≤ 5000 := by omega
          have hnm : ¬ (n - (O : Int) < (V : Int) / 2 + 1) := by omega
          have HTK := Lib.hid (rtake_c ((K : Nat) : Int) w3 HI3.out HGD1.out)
          have htl := take_len ((K : Nat) : Int) s1
          obtain ⟨⟨p, s2⟩, htk⟩ : ∃ r, takeS ((K : Nat) : Int) s1 = r := ⟨_, rfl⟩
          rw [htk] at HTK HGO htl
          simp only [Int.toNat_natCast] at HTK HGO htl
          obtain ⟨P, hP⟩ : ∃ P, p.length = P := ⟨_, rfl⟩
          have hPl : P ≤ 5000 := by omega
          have HPL := Lib.hid hP
          clear htk htl hP
          go_wp2_with fail
          refine (HTK.out).mono ?_
          rintro e w4 ⟨v4, hown4, rfl, hi4, hk4⟩
          rw [HPL.out] at hown4
          obtain ⟨A8, c8, rfl, hA8, hn8, -⟩ := own_nums hown4
          have HN8 := Lib.hid hn8
          have HI4 := Lib.hid hi4
          have HK4 := Lib.hid (HK3.out.trans hk4)
          have HO4 := Lib.hid (own_kept HT.out.own HK4.out (fun k e hk => by
            have q1 := (HT.out.own.lt k e).1
            have q2 : k = g := hk
            omega))
          have HS4 := Lib.hid (Nat.le_trans HT.out.kept.size HK4.out.size)
          clear hi4 hk4 hn8 hown4 HI3 HTK HNU HLE
          go_upto_region 17 with (at_builtin; refine wpList_append_bytes rfl _ _ rfl w1.heap.size _ O P c8 o p A8 w4.heap.size rfl HO4.out rfl HPL.out.symm hA8 HN8.out (by omega) HS4.out ?_; intro v6 w6 hown6 hb6)
          have hk5 : Kept (fun k => w1.heap.size ≤ k) w4 w6 := Kept.of_below hb6 (fun k _ h => by omega)
          have HK5 := Lib.hid (show Kept S w1 w6 from HT.out.kept.trans ((HK4.out.mono HKS.out).trans (hk5.mono (fun k h => by rw [HS.out]; exact .inr h))))
          have HI5 := Lib.hid (HI4.out.kept hk5 (fun k h => by rw [HS.out]; exact .inr h) (by omega))
          have hcell := c_err HI5.out
          have HO5 := Lib.hid hown6
          clear hown6 hb6 hk5
          by_cases herr : s2.e = 0
          · have hPK : P = K := by rw [← HPL.out]; exact HGO.out.2.2 herr
            have HN := Lib.hid (HT.out.next HNE.out h1 HGO.out.1 HGO.out.2.1 herr HPL.out (by omega) HI5.out HO5.out HK5.out)
            have HLS' := HLS
            rw [HGO.out.1] at HLS'
            rw [herr] at hcell
            go_wp2
            go_roundg s2.bs.length
            case rel => exact ⟨s2, s2.bs.length, _, _, v6, rfl, rfl, rfl, HN.out⟩
            case measure => exact HLS'.out
          · have HNO := Lib.hid (HT.out.none HNE.out h1 HGO.out.1 herr)
            have HGW := Lib.hid (Kept.grow HG1.out HK5.out HSW.out)
            have herrb : (s2.e != 0) = true := by simpa using herr
            go_wp2
            go_ret2
            exact ⟨HGW.out, .inr ⟨HNO.out, rfl⟩⟩
end Go.Proofs.Ytoapfegmipopkaa
