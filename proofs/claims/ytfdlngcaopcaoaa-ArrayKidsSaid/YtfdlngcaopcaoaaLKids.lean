/-
  ArrayKids comes to true, whatever it is called with.
-/
import Derived.Test.YtfdlngcaopcaoaaLKidsM
import Derived.Test.YtfdlngcaopcaoaaSmall
namespace Go.Proofs.Ytfdlngcaopcaoaa
open Go.RowKit Go.Lib
set_option linter.unusedSimpArgs false
set_option linter.unusedVariables false

set_option maxRecDepth 10000 in
set_option maxHeartbeats 12800000 in
theorem kids_walk (A : Option Addr) (n c : Nat) (xs : List Nd) (w : World) (hx : IsNodes w A n c xs) :
    Calls Try.prog 4 #[.slice A n c] w (Says true w) := by
  have HX := Lib.hid hx
  clear hx
  go_enter Try.func4, Try.ntmps4
  go_wp2_with fail
  refine (small_any _).mono ?_
  rintro e w1 ⟨rfl, hg1⟩
  have HG1 := Lib.hid hg1
  clear hg1
  go_wp2_with fail
  refine (few_any A n c xs w _ HX.out HG1.out).mono ?_
  rintro e w2 ⟨rfl, hg2⟩
  have HG2 := Lib.hid (HG1.out.trans hg2)
  clear hg2 HG1
  cases hfx : fewB xs with
  | false =>
    go_wp2
    go_ret
    exact ⟨rfl, HG2.out⟩
  | true =>
    have HFX := Lib.hid (few_fits HX.out hfx)
    have hnl : n ≤ 100 := by have := few_len hfx; have := HX.out.1; omega
    have HIT := Lib.hid (fun h => few_items hfx h)
    clear hfx
    have HN := Lib.hid HX.out.1
    have HNX := Lib.hid (HX.out.2.2.2.1.grow HG2.out)
    have hnc : n ≤ c := HX.out.2.1
    have hn6 : n ≤ 1000000 := by omega
    clear HX
    cases hr : rightA xs with
    | false =>
      obtain ⟨k1, k2, k3, k4⟩ := kids_none hr
      have HR := Lib.hid hr
      have K1 := Lib.hid k1
      have K2 := Lib.hid k2
      have K3 := Lib.hid k3
      have K4 := Lib.hid k4
      clear hr k1 k2 k3 k4 HIT
      go_wp2_with fail
      refine (right_says HR.out A n c _ HN.out hn6 HFX.out HNX.out).mono ?_
      rintro e w3 ⟨rfl, hg3⟩
      have HG3 := Lib.hid (HG2.out.trans hg3)
      have HN3 := Lib.hid (HNX.out.grow hg3)
      clear hg3 HG2 HNX
      go_wp2_with fail
      refine (items_says K2.out A n c _ HN.out hn6 HFX.out HN3.out).mono ?_
      rintro e w4 ⟨rfl, hg4⟩
      have HG4 := Lib.hid (HG3.out.trans hg4)
      have HN4 := Lib.hid (HN3.out.grow hg4)
      clear hg4 HG3 HN3
      go_wp2_with fail
      refine (depth_says K3.out A n c _ HN.out hn6 HFX.out HN4.out).mono ?_
      rintro e w5 ⟨rfl, hg5⟩
      have HG5 := Lib.hid (HG4.out.trans hg5)
      have HN5 := Lib.hid (HN4.out.grow hg5)
      clear hg5 HG4 HN4
      go_wp2_with fail
      refine (rank_says K4.out A n c _ HN.out hn6 HFX.out HN5.out).mono ?_
      rintro e w6 ⟨rfl, hg6⟩
      have HG6 := Lib.hid (HG5.out.trans hg6)
      have HN6 := Lib.hid (HN5.out.grow hg6)
      clear hg6 HG5 HN5
      go_wp2_with fail
      refine (kids_says K1.out A n c _ HN.out hn6 hnc HFX.out HN6.out).mono ?_
      rintro e w7 ⟨AK, cK, he, -, -, -, hg7⟩
      have he : e = .returned (.slice AK 0 cK) := he
      subst he
      have HG7 := Lib.hid (HG6.out.trans hg7)
      clear hg7 HG6
      go_wp2
      go_ret
      exact ⟨rfl, HG7.out⟩
    | true =>
      have HI := Lib.hid (HIT.out hr)
      have HR := Lib.hid hr
      have hpos : 0 < n := by rw [← HN.out]; exact List.length_pos_iff.2 (right_ne hr)
      have HPL := Lib.hid (fun h => kids_plain hr h)
      have HNE := Lib.hid (fun h => kids_nest hr h)
      have hd16 := ws_deep xs
      clear hr HIT
      have hp0 : (0 : Int) < ((n : Nat) : Int) := by omega
      go_wp2_with fail
      refine (right_says HR.out A n c _ HN.out hn6 HFX.out HNX.out).mono ?_
      rintro e w3 ⟨rfl, hg3⟩
      have HG3 := Lib.hid (HG2.out.trans hg3)
      have HN3 := Lib.hid (HNX.out.grow hg3)
      clear hg3 HG2 HNX
      go_wp2_with fail
      refine (kids_any A n c xs _ HN.out hn6 hnc HFX.out HN3.out).mono ?_
      rintro e w4 ⟨AK, cK, rfl, -, -, hk4, hg4⟩
      have HG4 := Lib.hid (HG3.out.trans hg4)
      have HN4 := Lib.hid (HN3.out.grow hg4)
      have HK4 := Lib.hid hk4
      clear hg4 hk4 HG3 HN3
      obtain ⟨ks, hks⟩ : ∃ ks, kidsA xs = ks := ⟨_, rfl⟩
      rw [hks] at HK4 HPL HNE ⊢
      have HKS := Lib.hid hks
      clear hks
      obtain ⟨nk, hnk⟩ : ∃ nk, ks.length = nk := ⟨_, rfl⟩
      rw [hnk]
      have HNK := Lib.hid hnk
      obtain ⟨b, off, rfl, hb, hat⟩ := HN4.out (by rw [HN.out]; exact hpos)
      obtain ⟨A1, c1, A2, c2, A3, c3, p0, p1, p2, p3, hnd⟩ := hat 0 (by rw [HN.out]; exact hpos)
      rw [Nat.zero_mul, Nat.add_zero] at p0 p1
      have HFT := Lib.hid (HFX.out.at_ 0)
      obtain ⟨nd, hndq⟩ : ∃ nd, xs.getD 0 nd0 = nd := ⟨_, rfl⟩
      rw [hndq] at p0 p1 hnd HFT HPL HNE
      have HSH := Lib.hid hnd.1
      have HBK := Lib.hid hb
      have hC1 : cnt nd.shp ≤ 1048576 := cnt_le1 _
      clear hat hnd p2 p3 hnk hndq hb
      obtain ⟨C, hC⟩ : ∃ C, cnt nd.shp = C := ⟨_, rfl⟩
      obtain ⟨L1, hL1⟩ : ∃ L1, nd.shp.length = L1 := ⟨_, rfl⟩
      have hl6 : L1 ≤ 1000000 := by rw [← hL1]; exact HFT.out.2.1
      have HCO := Lib.hid (fun W h => count_any A1 L1 c1 nd.shp W hL1 (by omega) h)
      rw [hC] at HCO HPL HNE hC1
      rw [hL1] at p1
      have HL1 := Lib.hid hL1
      generalize rightB nd.shp = γ at HCO
      clear hC hL1
      go_wp2_with fail
      refine (HCO.out _ HSH.out).mono ?_
      rintro e w5 ⟨rfl, hw5⟩
      subst hw5
      have P0 := Lib.hid p0
      have P1 := Lib.hid p1
      clear HCO
      by_cases hkd : nd.kind = 5
      · obtain ⟨q1, q2, q3, q4, q5, q6⟩ := HNE.out hkd
        have hkb : (nd.kind != 5) = false := by rw [hkd]; rfl
        have HRK := Lib.hid q2
        have hit : C + isum ks ≤ 1100 := by have := HI.out; omega
        have hdp : dmax ks + 1 ≤ 16 := by omega
        have HIT := Lib.hid q3
        have HDP := Lib.hid q4
        have HEQ := Lib.hid q5
        have HNB := Lib.hid q6
        have hCk : nk = C := by rw [← HNK.out, q1]
        have HFF : Hid (Fits (flatK ks)) := Lib.hid (fun m hm => HFX.out m (by rw [← q5]; exact List.mem_cons_of_mem _ hm))
        have HFL : Hid (1 + (flatK ks).length = n) := Lib.hid (by rw [← HN.out, ← q5, List.length_cons]; omega)
        have HFK := Lib.hid (fitk_flat HFF.out (by have := HFL.out; omega))
        subst hCk
        clear HPL HNE q1 q2 q3 q4 q5 q6 hkd
        generalize nd.kind = kd0 at *
        go_wp2
        clear p0 p1
        go_loopg [8, 9, 10] nk (fun g s8 s9 s10 wr => ∃ k u v : Nat, k ≤ nk ∧ g = nk - k ∧ s10 = .int .i64 k ∧ s8 = .int .i64 u ∧ s9 = .int .i64 v ∧ u ≤ 1100 ∧ v ≤ 16 ∧ Hid (u = nk + isum (ks.take k)) ∧ Hid (v = dmax (ks.take k)) ∧ Hid (Grow w5 wr))
        case atStart => exact ⟨0, nk, 0, Nat.zero_le _, rfl, rfl, rfl, rfl, by omega, by omega, Lib.hid rfl, Lib.hid rfl, Lib.hid (Grow.refl _)⟩
        case round =>
          obtain ⟨k, u, v, hk, rfl, rfl, rfl, rfl, hu, hv, HU, HV, HG⟩ := hrel
          by_cases hlt : k < nk
          · have hlti : ((k : Nat) : Int) < ((nk : Nat) : Int) := by omega
            have hkl : k < ks.length := by rw [HNK.out]; exact hlt
            obtain ⟨bk, ok, rfl, hbk, hat⟩ := HK4.out.grow HG.out (by omega)
            obtain ⟨A', c', hc0, hlc, hnk'⟩ := hat k hkl
            have HNK' := Lib.hid hnk'
            have HBK' := Lib.hid hbk
            have HRI : Hid (rightA (ks.getD k []) = true) := Lib.hid (HRK.out _ (by rw [show ks.getD k [] = ks[k] by simp [List.getD, hkl]]; exact List.getElem_mem hkl))
            obtain ⟨hl, hfk⟩ := HFK.out.at_ hkl
            have HIS := Lib.hid (isum_step hkl)
            have HDS := Lib.hid (dmax_step hkl)
            have hie := isum_le ks (k + 1)
            have hde := dmax_le ks (k + 1)
            rw [HIS.out] at hie
            rw [HDS.out] at hde
            have hu2 : u = nk + isum (ks.take k) := HU.out
            have hv2 : v = dmax (ks.take k) := HV.out
            have HFI := Lib.hid hfk
            clear hat hnk' hfk hbk
            generalize ks.getD k [] = kid at *
            obtain ⟨wi, hwi⟩ : ∃ wi, (ws kid).i = wi := ⟨_, rfl⟩
            obtain ⟨wd, hwd⟩ : ∃ wd, (ws kid).d = wd := ⟨_, rfl⟩
            rw [hwi] at hie HIS
            rw [hwd] at hde HDS
            have HWI := Lib.hid hwi
            have HWD := Lib.hid hwd
            obtain ⟨lk, hlk⟩ : ∃ lk, kid.length = lk := ⟨_, rfl⟩
            rw [hlk] at hc0 hl hlc
            have HLK := Lib.hid hlk
            have hui : u + wi ≤ 1100 := by omega
            have hvd : max v wd ≤ 16 := by omega
            have HU2 : Hid (u + wi = nk + isum (ks.take (k + 1))) := Lib.hid (by rw [HIS.out]; omega)
            have HV2 : Hid (max v wd = dmax (ks.take (k + 1))) := Lib.hid (by rw [HDS.out]; omega)
            have hmx := max_is v wd
            have hmx' := max_is' v wd
            have HC0 := Lib.hid hc0
            clear hie hde hu2 hv2 hwi hwd hlk HIS HDS HU HV
            generalize max v wd = M at *
            have hw1 : IntKind.i64.wrap (((u : Nat) : Int) + ((wi : Nat) : Int)) = ((u + wi : Nat) : Int) := by rw [IntKind.wrap_i64]; omega
            go_wp2_with fail
            refine (items_says HWI.out A' lk c' _ HLK.out hl HFI.out HNK'.out).mono ?_
            rintro e w6 ⟨rfl, hg6⟩
            have HG6 := Lib.hid (HG.out.trans hg6)
            have HN6 := Lib.hid (HNK'.out.grow hg6)
            have HC6 := Lib.hid ((hg6.cell (p := ⟨bk, ok + k, none⟩) HBK'.out).trans HC0.out)
            have HB6 := Lib.hid (Nat.lt_of_lt_of_le HBK'.out hg6.size)
            have hc6 := HC6.out
            clear hg6 HG HNK' HC0 hc0
            go_wp2_with fail
            refine (depth_says HWD.out A' lk c' _ HLK.out hl HFI.out HN6.out).mono ?_
            rintro e w7 ⟨rfl, hg7⟩
            have HG7 := Lib.hid (HG6.out.trans hg7)
            have HN7 := Lib.hid (HN6.out.grow hg7)
            have hc7 := (hg7.cell (p := ⟨bk, ok + k, none⟩) HB6.out).trans hc6
            clear hg7 HG6 HN6 hc6 HC6
            go_wp2_with fail
            refine (right_says HRI.out A' lk c' _ HLK.out hl HFI.out HN7.out).mono ?_
            rintro e w8 ⟨rfl, hg8⟩
            have HG8 := Lib.hid (HG7.out.trans hg8)
            clear hg8 HG7 HN7 hc7
            go_wp2
            go_roundg (nk - (k + 1))
            case rel => exact ⟨k + 1, u + wi, M, by omega, rfl, by go_num, by go_num, by go_num, hui, hvd, HU2, HV2, HG8⟩
            case measure => omega
          · obtain rfl : nk = k := by omega
            have hnn : ¬ ((nk : Nat) : Int) < ((nk : Nat) : Int) := by omega
            have HTA := Lib.hid (show ks.take nk = ks from List.take_of_length_le (by rw [HNK.out]; exact Nat.le_refl _))
            rw [HTA.out] at HU HV
            have HIW : Hid ((ws xs).i = u) := Lib.hid (by rw [HIT.out, HU.out])
            have HDW : Hid ((ws xs).d = v + 1) := Lib.hid (by rw [HDP.out, HV.out])
            have p1 := (HG.out.cell (p := ⟨b, off + 1, none⟩) HBK.out).trans P1.out
            go_wp2_with fail
            refine (nest_yes HNB.out HFL.out A1 L1 c1 AK nk cK _ HL1.out hl6 (HSH.out.grow HG.out) HNK.out (by omega) HFK.out hn6 (HK4.out.grow HG.out)).mono ?_
            rintro e w9 ⟨g9, -, rfl, hg9, hcp⟩
            rw [HEQ.out] at hcp
            have HCP := Lib.hid hcp.nodes
            have HG9 := Lib.hid (HG4.out.trans (HG.out.trans hg9))
            have HN9 := Lib.hid (HN4.out.grow (HG.out.trans hg9))
            clear hg9 hcp HG p1
            have hw2 : IntKind.i64.wrap (((v : Nat) : Int) + 1) = ((v : Nat) : Int) + 1 := by rw [IntKind.wrap_i64]; omega
            go_wp2_with fail
            refine (items_says HIW.out _ n c _ HN.out hn6 HFX.out HN9.out).mono ?_
            rintro e w10 ⟨rfl, hg10⟩
            have HG10 := Lib.hid (HG9.out.trans hg10)
            have HN10 := Lib.hid (HN9.out.grow hg10)
            have HC10 := Lib.hid (HCP.out.grow hg10)
            clear hg10 HG9 HN9 HCP
            go_wp2_with fail
            refine (depth_says HDW.out _ n c _ HN.out hn6 HFX.out HN10.out).mono ?_
            rintro e w11 ⟨rfl, hg11⟩
            have HG11 := Lib.hid (HG10.out.trans hg11)
            have HN11 := Lib.hid (HN10.out.grow hg11)
            have HC11 := Lib.hid (HC10.out.grow hg11)
            clear hg11 HG10 HN10 HC10
            go_wp2_with fail
            refine (same_says (xs := xs) (ys := xs) (β := true) (decide_eq_true rfl) _ _ n n n c w11 HN.out HN.out hn6 hn6 HFX.out HFX.out HC11.out HN11.out).mono ?_
            rintro e w12 ⟨rfl, hg12⟩
            have HG12 := Lib.hid (HG11.out.trans hg12)
            clear hg12 HG11
            go_wp2
            go_ret
            exact ⟨rfl, HG12.out⟩
      · obtain ⟨q1, q2, q3, q4⟩ := HPL.out hkd
        have hkb : (nd.kind != 5) = true := by simpa using hkd
        have h1 : n = 1 := by rw [← HN.out, q1]
        have h2 : nk = 0 := by rw [← HNK.out, q2]; rfl
        have HD := Lib.hid q3
        have HII := Lib.hid q4
        clear HPL HNE q1 q2 q3 q4 hkd
        generalize nd.kind = kd0 at *
        subst h1 h2
        go_wp2_with fail
        refine (depth_says HD.out _ 1 c _ HN.out hn6 HFX.out HN4.out).mono ?_
        rintro e w6 ⟨rfl, hg6⟩
        have HG6 := Lib.hid (HG4.out.trans hg6)
        have HN6 := Lib.hid (HN4.out.grow hg6)
        clear hg6
        go_wp2_with fail
        refine (items_says HII.out _ 1 c _ HN.out hn6 HFX.out HN6.out).mono ?_
        rintro e w7 ⟨rfl, hg7⟩
        have HG7 := Lib.hid (HG6.out.trans hg7)
        clear hg7
        have hcc : (((C : Nat) : Int) == ((C : Nat) : Int)) = true := by simp
        go_wp2
        go_ret
        exact ⟨rfl, HG7.out⟩
end Go.Proofs.Ytfdlngcaopcaoaa
