/-
  What the document's own Encode comes to, called with any bytes.
-/
import Derived.Test.YtoapfegmipopkaaREnc
import Derived.Deep.DeepCutAuto
namespace Go.Proofs.Ytoapfegmipopkaa
open Go.RowKit

/-- the place k is reached; q is laid -/
structure RefAt (w : World) (n : Nat) (xs : List Int) (k Q : Nat) (q : List Int) (v : Value) (wr : World) : Prop where
  qlen : q.length = Q
  le : k ≤ n
  eq : q ++ enc (xs.drop k) = enc xs
  own : wr.ownsRow w.heap.size 5 1 v Q (u8s q)
  grow : Grow w wr

theorem RefAt.step {w : World} {n : Nat} {xs : List Int} {k Q d Q' : Nat} {q p : List Int} {v v' : Value} {wr w' : World} (h : RefAt w n xs k Q q v wr) (hd : k + d ≤ n) (he : enc (xs.drop k) = p ++ enc ((xs.drop k).drop d)) (hq : Q' = Q + p.length)
    (hown : w'.ownsRow w.heap.size 5 1 v' Q' (u8s (q ++ p))) (hg : Grow w w') : RefAt w n xs (k + d) Q' (q ++ p) v' w' := by
  refine ⟨by rw [List.length_append, h.qlen, hq], hd, ?_, hown, hg⟩
  rw [List.drop_drop] at he
  rw [List.append_assoc, ← he, h.eq]

set_option maxRecDepth 10000 in
set_option maxHeartbeats 3200000 in
theorem rencode_any (A : Option Addr) (n cap : Nat) (xs : List Int) (w : World) (hn : xs.length = n) (hl : n ≤ 1000000000) (hcap : n ≤ cap) (hA : A = none → cap = 0) (hr : Nums .u8 w w.heap.size A xs) :
    Calls Try.prog 13 #[.slice A n cap] w (News (enc xs) w) := by
  have hel := enc_len xs.length xs (Nat.le_refl _) (by omega)
  have HEL := Lib.hid (show (enc xs).length ≤ 33000000000 by omega)
  have HN := Lib.hid hn
  have HR := Lib.hid hr
  clear hel hn hr
  go_enter Try.func13, Try.ntmps13
  go_wp2
  go_loopg [3, 4] n (fun gk s3 s4 wr => ∃ (k Q : Nat) (q : List Int) (v : Value), gk = n - k ∧ v = s3 ∧ s4 = .int .i64 k ∧ RefAt w n xs k Q q v wr)
  case atStart => exact ⟨0, 0, [], _, rfl, rfl, rfl, rfl, Nat.zero_le _, rfl, World.ownsRow_nil _ _ _ _, Grow.refl _⟩
  case round =>
    obtain ⟨k, Q, q, v, rfl, rfl, rfl, hat⟩ := hrel
    have hkn := hat.le
    have HT := Lib.hid hat
    clear hat
    obtain ⟨w1, hw1⟩ : ∃ w1, w1 = wr := ⟨_, rfl⟩
    subst hw1
    by_cases hlt : k < n
    · have hne : xs.drop k ≠ [] := fun e => by
        have := congrArg List.length e
        rw [List.length_drop, HN.out] at this
        simp at this
        omega
      have hQ : Q ≤ 33000000000 := by
        have h1 := HEL.out
        rw [← HT.out.eq, List.length_append, HT.out.qlen] at h1
        omega
      obtain ⟨m, hm⟩ : ∃ m, lik ((xs.drop k).getD 0 0) (xs.drop k) = m := ⟨_, rfl⟩
      have hmN : k + m ≤ n := by have := lik_le ((xs.drop k).getD 0 0) (xs.drop k); rw [hm, List.length_drop, HN.out] at this; omega
      have HAL := Lib.hid (alike_any A n cap k xs w1 HN.out hlt (by omega) (HR.out.grow HT.out.grow))
      rw [hm] at HAL
      by_cases h3 : 3 ≤ m
      · obtain ⟨a, ha⟩ : ∃ a, (xs.drop k).getD 0 0 = a := ⟨_, rfl⟩
        obtain ⟨j, hj⟩ : ∃ j, m = j + 3 := ⟨m - 3, by omega⟩
        have hb0 : bef (xs.drop k) = 0 := bef_like (by rw [hm]; exact h3)
        rw [ha] at hm
        have HE := Lib.hid (grp_run hne hb0 ha (by rw [hm, hj]))
        have HA0 := Lib.hid (show xs.getD k 0 = a by rw [← ha]; simp)
        obtain ⟨D, hD⟩ : ∃ D, (digs (2 * j + 1)).length = D := ⟨_, rfl⟩
        have hD10 : D ≤ 10 := by have := digs_ten (n := 2 * j + 1) (by omega); omega
        have HP := Lib.hid (fun W => rput_one (2 * ((m : Int) - 3) + 1) (2 * j + 1) D W (by omega) (by omega) hD)
        have HD := Lib.hid hD
        have HJ := Lib.hid hj
        have hw1 : IntKind.u64.wrap ((m : Int) - 3) = (m : Int) - 3 := by rw [IntKind.wrap_u64]; omega
        have hw2 : IntKind.u64.wrap (2 * ((m : Int) - 3)) = 2 * ((m : Int) - 3) := by rw [IntKind.wrap_u64]; omega
        have hw3 : IntKind.u64.wrap (2 * ((m : Int) - 3) + 1) = 2 * ((m : Int) - 3) + 1 := by rw [IntKind.wrap_u64]; omega
        obtain ⟨b, off, rfl, _, _⟩ := HR.out (by rw [HN.out]; omega)
        clear hD hj ha hm hne hb0
        go_wp2_with fail
        refine (HAL.out).mono ?_
        rintro e w2 ⟨rfl, hg2⟩
        have HG2 := Lib.hid (HT.out.grow.trans hg2)
        have HO2 := Lib.hid (own_any HT.out.own hg2)
        clear hg2 HAL
        go_wp2_with fail
        refine (HP.out w2).mono ?_
        rintro e w3 ⟨A3, c3, rfl, hA3, hnu, hg3⟩
        have HG3 := Lib.hid (HG2.out.trans hg3)
        have HO3 := Lib.hid (own_any HO2.out hg3)
        have HN3 := Lib.hid hnu
        clear hnu hg3 HP hw1 hw2 hw3
        go_upto_region 7 with (at_builtin; refine wpList_append_bytes rfl _ _ rfl w.heap.size v Q D c3 q (digs (2 * j + 1)) A3 w3.heap.size rfl HO3.out rfl HD.out.symm hA3 HN3.out (by omega) HG3.out.size ?_; intro v4 w4 hown4 hb4)
        have HG4 := Lib.hid (show Grow w w4 from Below.trans HG3.out hb4)
        have HO4 := Lib.hid (hown4.alloc (.cells #[.int .u8 a] 5))
        have hcell : w4.cell? ⟨b, off + k, none⟩ = some (.int .u8 a) := by
          obtain ⟨b', off', hb', _, hc⟩ := HR.out.grow HG4.out (by rw [HN.out]; omega)
          cases hb'
          have := hc k (by rw [HN.out]; exact hlt)
          rw [HA0.out] at this
          exact this
        have HN4 := Lib.hid (lit_nums w4 .u8 5 [a])
        have HG4' := Lib.hid (HG4.out.trans (grow_new w4 (.cells #[.int .u8 a] 5)))
        clear hown4 hb4
        go_upto_region 8 with (at_builtin; refine wpList_append_bytes rfl _ _ rfl w.heap.size v4 (Q + D) 1 1 (q ++ digs (2 * j + 1)) [a] (some ⟨w4.heap.size, 0, none⟩) _ rfl HO4.out rfl rfl (by simp) HN4.out (by omega) HG4'.out.size ?_; intro v5 w5 hown5 hb5)
        have HG5 := Lib.hid (show Grow w w5 from Below.trans HG4'.out hb5)
        have HF := Lib.hid (show RefAt w n xs (k + m) (Q + D + 1) (q ++ (digs (2 * j + 1) ++ [a])) v5 w5 by
          refine HT.out.step hmN ?_ ?_ ?_ HG5.out
          · rw [HE.out, ← HJ.out, List.append_assoc]; rfl
          · exact (Nat.add_assoc _ _ _).trans (by rw [List.length_append, HD.out]; rfl)
          · rw [← List.append_assoc]; exact hown5)
        clear hown5 hb5 hcell
        go_wp2
        go_roundg (n - (k + m))
        case rel => exact ⟨k + m, Q + D + 1, _, v5, rfl, rfl, by go_num, HF.out⟩
        case measure => omega
      · have h3' : m < 3 := by omega
        obtain ⟨hm1, hbm⟩ := bef_two hne hm h3'
        have HBM := Lib.hid hbm
        clear hbm
        go_wp2_with fail
        refine (HAL.out).mono ?_
        rintro e w2 ⟨rfl, hg2⟩
        have HG2 := Lib.hid (HT.out.grow.trans hg2)
        have HO2 := Lib.hid (own_any HT.out.own hg2)
        clear hg2 HAL hm hne
        go_wp2_with fail
        go_loopg [6] (n - k) (fun gz s6 wz => ∃ e : Nat, k ≤ e ∧ e ≤ n ∧ gz = n - e ∧ s6 = .int .i64 e ∧ bef (xs.drop k) = (e - k) + bef (xs.drop e) ∧ wz.ownsRow w.heap.size 5 1 v Q (u8s q) ∧ Grow w wz)
        case atStart => exact ⟨k, Nat.le_refl _, hkn, rfl, rfl, by simp, HO2.out, HG2.out⟩
        case round =>
          obtain ⟨e, hke, hen, rfl, rfl, hbe, hoz, hgz⟩ := hrel
          have HBE := Lib.hid hbe
          have HOZ := Lib.hid hoz
          have HGZ := Lib.hid hgz
          clear hbe hoz hgz
          have hfin : bef (xs.drop e) = 0 → 1 ≤ e - k ∧ bef (xs.drop k) = e - k := fun h => by
            have q1 := HBE.out
            have q2 := HBM.out
            omega
          have HFIN := Lib.hid hfin
          clear hfin
          obtain ⟨w3, hw3⟩ : ∃ w3, w3 = wr := ⟨_, rfl⟩
          subst hw3
          obtain ⟨m2, hm2⟩ : ∃ m2, lik ((xs.drop e).getD 0 0) (xs.drop e) = m2 := ⟨_, rfl⟩
          obtain ⟨β, hβ⟩ : ∃ β : Bool, β = (decide (e < n) && decide (m2 < 3)) := ⟨_, rfl⟩
          have HM2 := Lib.hid hm2
          have HBT := Lib.hid hβ
          clear hm2 hβ
          have HAL : Hid (e < n → ∀ W, Grow w W → Calls Try.prog 23 #[.slice A n cap, .int .i64 (e : Nat)] W fun e w' => e = .returned (.int .i64 (m2 : Nat)) ∧ Grow W w') := Lib.hid fun h W G => by
            have := alike_any A n cap e xs W HN.out h (by omega) (HR.out.grow G)
            rw [HM2.out] at this
            exact this
          go_upto_region 10 with fail
          go_cut [45] from 36 to 50 (fun z wx => z = .bool β ∧ wx.ownsRow w.heap.size 5 1 v Q (u8s q) ∧ Grow w wx)
          case first =>
            by_cases hlt2 : e < n
            · have hA2 := Lib.hid (HAL.out hlt2 w3 HGZ.out)
              go_wp2_with fail
              refine (hA2.out).mono ?_
              rintro e' w4 ⟨rfl, hg4⟩
              have HO4 := Lib.hid (own_any HOZ.out hg4)
              have HG4 := Lib.hid (HGZ.out.trans hg4)
              clear hg4
              by_cases hm3 : m2 < 3
              · have HV := Lib.hid (show Value.bool true = .bool β by rw [HBT.out]; simp [hlt2, hm3])
                go_wp2
                go_meet
                case rel => exact ⟨by rw [← HV.out]; simp; omega, HO4.out, HG4.out⟩
              · have HV := Lib.hid (show Value.bool false = .bool β by rw [HBT.out]; simp [hm3])
                go_wp2
                go_meet
                case rel => exact ⟨by rw [← HV.out]; simp; omega, HO4.out, HG4.out⟩
            · have HV := Lib.hid (show Value.bool false = .bool β by rw [HBT.out]; simp [hlt2])
              have hge : ¬ ((e : Int) < (n : Int)) := by omega
              go_wp2
              go_meet
              case rel => exact ⟨by rw [← HV.out], HOZ.out, HGZ.out⟩
          case rest =>
            obtain ⟨rfl, hoc, hgc⟩ := hcut
            have HOC := Lib.hid hoc
            have HGC := Lib.hid hgc
            clear hoc hgc HOZ HGZ
            by_cases hb : e < n ∧ m2 < 3
            · obtain ⟨hlt2, hm3⟩ := hb
              have hbt : β = true := by rw [HBT.out]; simp [hlt2, hm3]
              subst hbt
              have hne2 : xs.drop e ≠ [] := fun e' => by
                have := congrArg List.length e'
                rw [List.length_drop, HN.out] at this
                simp at this
                omega
              obtain ⟨hm21, hb2⟩ := bef_two hne2 HM2.out hm3
              have hm2n : e + m2 ≤ n := by have := lik_le ((xs.drop e).getD 0 0) (xs.drop e); rw [HM2.out, List.length_drop, HN.out] at this; omega
              have HBN := Lib.hid (show bef (xs.drop k) = (e + m2 - k) + bef (xs.drop (e + m2)) by
                have q1 := HBE.out
                rw [List.drop_drop] at hb2
                omega)
              have hA2 := Lib.hid (HAL.out hlt2 wc HGC.out)
              clear hne2 hb2
              go_wp2_with fail
              refine (hA2.out).mono ?_
              rintro e' w4 ⟨rfl, hg4⟩
              have HO4 := Lib.hid (own_any HOC.out hg4)
              have HG4 := Lib.hid (HGC.out.trans hg4)
              clear hg4
              go_wp2
              go_roundg (n - (e + m2))
              case rel => exact ⟨e + m2, by omega, hm2n, rfl, by go_num, HBN.out, HO4.out, HG4.out⟩
              case measure => omega
            · have hbt : β = false := by
                rw [HBT.out]
                by_cases h5 : e < n
                · have : ¬ m2 < 3 := fun h => hb ⟨h5, h⟩
                  simp [this]
                · simp [h5]
              subst hbt
              have hz : bef (xs.drop e) = 0 := by
                by_cases h5 : e < n
                · have : ¬ m2 < 3 := fun h => hb ⟨h5, h⟩
                  exact bef_like (by rw [HM2.out]; omega)
                · rw [List.drop_of_length_le (by rw [HN.out]; omega)]
                  rfl
              obtain ⟨he1, hbk⟩ := HFIN.out hz
              obtain ⟨j, hj⟩ : ∃ j, e - k = j + 1 := ⟨e - k - 1, by omega⟩
              have HE := Lib.hid (grp_oth (xs := xs.drop k) (k := j) (by rw [hbk, hj]))
              have HJ := Lib.hid hj
              obtain ⟨D, hD⟩ : ∃ D, (digs (2 * j)).length = D := ⟨_, rfl⟩
              have hD10 : D ≤ 10 := by have := digs_ten (n := 2 * j) (by omega); omega
              have HP := Lib.hid (rput_one (2 * ((e : Int) - (k : Int) - 1)) (2 * j) D wc (by omega) (by omega) hD)
              have HD := Lib.hid hD
              have hw1 : IntKind.u64.wrap ((e : Int) - (k : Int) - 1) = (e : Int) - (k : Int) - 1 := by rw [IntKind.wrap_u64]; omega
              have hw2 : IntKind.u64.wrap (2 * ((e : Int) - (k : Int) - 1)) = 2 * ((e : Int) - (k : Int) - 1) := by rw [IntKind.wrap_u64]; omega
              obtain ⟨AK, hAK⟩ : ∃ AK, (if cap = k then A else Option.map (fun x => x.add k) A) = AK := ⟨_, rfl⟩
              have hAKn : AK = none → cap - k = 0 := fun h => by
                rw [← hAK] at h
                split at h
                · omega
                · cases A with
                  | none => have := hA rfl; omega
                  | some a => cases h
              have HTL := Lib.hid (show ((xs.drop k).take (e - k)).length = e - k by rw [List.length_take, List.length_drop, HN.out]; omega)
              have HNK := Lib.hid (show ∀ W, Grow w W → Nums .u8 W W.heap.size AK ((xs.drop k).take (e - k)) from fun W G => by
                rw [← hAK]
                exact (cut_addr (HR.out.grow G) (by rw [HN.out]; exact hcap)).take (e - k))
              have heks : k ≤ e := hke
              clear hD hj hz hbk hb HAL HM2 HBT HFIN HBE HBM
              go_wp2_with fail
              refine (HP.out).mono ?_
              rintro e' w4 ⟨A4, c4, rfl, hA4, hnu, hg4⟩
              have HG4 := Lib.hid (HGC.out.trans hg4)
              have HO4 := Lib.hid (own_any HOC.out hg4)
              have HN4 := Lib.hid hnu
              clear hnu hg4 HP hw1 hw2
              go_upto_region 13 with (at_builtin; refine wpList_append_bytes rfl _ _ rfl w.heap.size v Q D c4 q (digs (2 * j)) A4 w4.heap.size rfl HO4.out rfl HD.out.symm hA4 HN4.out (by omega) HG4.out.size ?_; intro v5 w5 hown5 hb5)
              have HG5 := Lib.hid (show Grow w w5 from Below.trans HG4.out hb5)
              have HO5 := Lib.hid hown5
              have HN5 := Lib.hid (HNK.out w5 HG5.out)
              clear hown5 hb5
              go_upto_region 14 with (at_builtin; refine wpList_append_bytes rfl _ _ rfl w.heap.size v5 (Q + D) (e - k) (cap - k) (q ++ digs (2 * j)) ((xs.drop k).take (e - k)) AK w5.heap.size rfl HO5.out rfl HTL.out.symm hAKn HN5.out (by omega) HG5.out.size ?_; intro v6 w6 hown6 hb6)
              have HG6 := Lib.hid (show Grow w w6 from Below.trans HG5.out hb6)
              have HF := Lib.hid (show RefAt w n xs (k + (e - k)) (Q + D + (e - k)) (q ++ (digs (2 * j) ++ (xs.drop k).take (e - k))) v6 w6 by
                refine HT.out.step (by omega) ?_ ?_ ?_ HG6.out
                · have := HE.out
                  rw [← HJ.out] at this
                  rw [this, List.append_assoc]
                · exact (Nat.add_assoc _ _ _).trans (by rw [List.length_append, HD.out, HTL.out])
                · rw [← List.append_assoc]; exact hown6)
              rw [show k + (e - k) = e by omega] at HF
              clear hown6 hb6 hAK
              go_wp2
              go_roundg (n - e)
              case rel => exact ⟨e, Q + D + (e - k), _, v6, rfl, rfl, rfl, HF.out⟩
              case measure => omega
    · obtain rfl : n = k := by omega
      have HE := Lib.hid (show q = enc xs by
        have := HT.out.eq
        rw [List.drop_of_length_le (by rw [HN.out]; exact Nat.le_refl _), enc_nil, List.append_nil] at this
        exact this)
      go_wp2
      go_ret
      exact ⟨v, rfl, by rw [← HE.out, HT.out.qlen]; exact HT.out.own, HT.out.grow⟩
end Go.Proofs.Ytoapfegmipopkaa
