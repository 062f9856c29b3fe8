/-
  What runs.Encode comes to.
-/
import Derived.Test.YtoapfegmipopkaaLikes
import Derived.Deep.CutRange
import Derived.Deep.CutBlock
namespace Go.Proofs.Ytoapfegmipopkaa
open Go.RowKit

/-- bytes in new memory, and nothing that was there has turned -/
def News (bs : List Int) (w : World) (e : Ending) (w' : World) : Prop := ∃ v, e = .returned v ∧ w'.ownsRow w.heap.size 5 1 v bs.length (u8s bs) ∧ Grow w w'

/-- ys are left, of xs; q is laid -/
structure EncAt (w : World) (n : Nat) (xs ys : List Int) (A : Option Addr) (c N Q : Nat) (q : List Int) (v : Value) (wr : World) : Prop where
  len : ys.length = N
  qlen : q.length = Q
  le : N ≤ n
  cap : N ≤ c
  nil : A = none → c = 0
  byt : Byt ys
  num : Nums .u8 w w.heap.size A ys
  eq : q ++ enc ys = enc xs
  own : wr.ownsRow w.heap.size 5 1 v Q (u8s q)
  grow : Grow w wr

theorem EncAt.drop {w : World} {n : Nat} {xs ys : List Int} {A AK : Option Addr} {c N Q d Q' : Nat} {q p : List Int} {v v' : Value} {wr w' : World} (h : EncAt w n xs ys A c N Q q v wr) (hd : d ≤ N) (he : enc ys = p ++ enc (ys.drop d)) (hq : Q' = Q + p.length)
    (hown : w'.ownsRow w.heap.size 5 1 v' Q' (u8s (q ++ p))) (hg : Grow w w') (hAK : (if c = d then A else Option.map (fun x => x.add d) A) = AK) : EncAt w n xs (ys.drop d) AK (c - d) (N - d) Q' (q ++ p) v' w' := by
  have hc := h.cap
  refine ⟨by rw [List.length_drop, h.len], by rw [List.length_append, h.qlen, hq], by have := h.le; omega, by omega, ?_, h.byt.drop d, ?_, by rw [List.append_assoc, ← he, h.eq], hown, hg⟩
  · rw [← hAK]
    intro hn
    by_cases e : c = d
    · omega
    · rw [if_neg e] at hn
      cases A with
      | none => have := h.nil rfl; omega
      | some a => cases hn
  · rw [← hAK]
    exact cut_addr h.num (by rw [h.len]; exact hc)

theorem put_one (X : Int) (x D : Nat) (w : World) (hX : X = (x : Int)) (hx : x < 18446744073709551616) (hD : (digs x).length = D) :
    Calls Try.prog 14 #[.slice none 0 0, .slice (some ⟨w.heap.size, 0, none⟩) 1 1] (w.alloc (.cells #[.int .u64 X] 29)) fun e w' =>
      ∃ g, e = .returned (.slice (some ⟨g, 0, none⟩) D D) ∧ Nums .u8 w' w'.heap.size (some ⟨g, 0, none⟩) (digs x) ∧ Grow w w' ∧ w.heap.size ≤ g ∧ w'.ownsRow w.heap.size 5 1 (.slice (some ⟨g, 0, none⟩) D D) D (u8s (digs x)) := by
  subst hX
  have hten := digs_ten hx
  have h := put_nil (some ⟨w.heap.size, 0, none⟩) 1 1 D [(x : Int)] (w.alloc (.cells #[.int .u64 (x : Int)] 29)) rfl (by decide) (fun y hy => by simp at hy; omega) (lit_nums w .u64 29 [(x : Int)]) (by rw [flat_one]; simpa using hD)
  refine h.mono ?_
  rintro e w' ⟨g, rfl, hrow, hg, hs⟩
  rw [flat_one, Int.toNat_natCast] at hrow
  have hs' : w.heap.size ≤ g := by simp at hs; omega
  refine ⟨g, rfl, ?_, grow_alloc hg, hs', own_of_row hD.symm hs' (by unfold maxLen; omega) hrow⟩
  rw [← hD] at hrow
  exact Nums.of_row hrow

theorem one_u64 {x : Int} (h0 : 0 ≤ x) (h1 : x < 18446744073709551616) : U64 [x] := fun y hy => by simp at hy; omega

set_option maxRecDepth 10000 in
set_option maxHeartbeats 1600000 in
theorem encode_any (A : Option Addr) (n cap : Nat) (xs : List Int) (w : World) (hn : xs.length = n) (hl : n ≤ 3000000000) (hcap : n ≤ cap) (hA : A = none → cap = 0) (hb : Byt xs) (hr : Nums .u8 w w.heap.size A xs) :
    Calls Try.prog 12 #[.slice A n cap] w (News (enc xs) w) := by
  have hel := enc_len xs.length xs (Nat.le_refl _) (by omega)
  have HEL := Lib.hid (show (enc xs).length ≤ 33000000000 by omega)
  clear hel
  have HS := Lib.hid (show EncAt w n xs xs A cap n 0 [] (.slice none 0 0) w from ⟨hn, rfl, Nat.le_refl _, hcap, hA, hb, hr, rfl, World.ownsRow_nil _ _ _ _, Grow.refl _⟩)
  clear hn hcap hA hb hr
  go_enter Try.func12, Try.ntmps12
  go_wp2
  go_loopg [0, 3] n (fun gk s0 s3 wr => ∃ (ys : List Int) (A' : Option Addr) (c N Q : Nat) (q : List Int) (v : Value), N = gk ∧ s0 = .slice A' N c ∧ v = s3 ∧ EncAt w n xs ys A' c N Q q v wr)
  case atStart => exact ⟨xs, A, cap, n, 0, [], _, rfl, rfl, rfl, HS.out⟩
  case round =>
    obtain ⟨ys, A', c, N, Q, q, v, rfl, rfl, rfl, hat⟩ := hrel
    have hNn := hat.le
    have HT := Lib.hid hat
    clear hat
    by_cases h0 : N = 0
    · subst h0
      have HE := Lib.hid (show q = enc xs by
        have := HT.out.eq
        rw [List.eq_nil_of_length_eq_zero HT.out.len, enc_nil, List.append_nil] at this
        exact this)
      go_wp2
      go_ret
      exact ⟨v, rfl, by rw [← HE.out, HT.out.qlen]; exact HT.out.own, HT.out.grow⟩
    · have hpos : 0 < N := by omega
      have HB := Lib.hid (before_any A' N c ys wr HT.out.len (by omega) (HT.out.num.grow HT.out.grow))
      go_wp2_with fail
      refine (HB.out).mono ?_
      rintro e w1 ⟨rfl, hg1⟩
      have HG1 := Lib.hid (HT.out.grow.trans hg1)
      have HO1 := Lib.hid (own_any HT.out.own hg1)
      clear hg1 HB
      obtain ⟨k, hk⟩ : ∃ k, bef ys = k := ⟨_, rfl⟩
      have HK := Lib.hid hk
      have hkN : k ≤ N := by have := bef_le ys; rw [HT.out.len] at this; omega
      rw [hk]
      clear hk
      go_upto_if 12 with fail
      go_cut [0, 3] from 6 to 51 (fun s0 s3 wx => ∃ (zs : List Int) (A2 : Option Addr) (c2 N2 Q2 : Nat) (q2 : List Int) (v2 : Value), s0 = .slice A2 N2 c2 ∧ v2 = s3 ∧ N2 ≤ N ∧ bef zs = 0 ∧ EncAt w n xs zs A2 c2 N2 Q2 q2 v2 wx)
      case first =>
        by_cases hk0 : k = 0
        · subst hk0
          go_wp2
          go_meet
          case rel => exact ⟨ys, A', c, N, Q, q, v, rfl, rfl, Nat.le_refl _, HK.out, HT.out.len, HT.out.qlen, hNn, HT.out.cap, HT.out.nil, HT.out.byt, HT.out.num, HT.out.eq, HO1.out, HG1.out⟩
        · obtain ⟨j, hj⟩ : ∃ j, k = j + 1 := ⟨k - 1, by omega⟩
          have hkp : 0 < k := by omega
          clear hk0
          obtain ⟨D, hD⟩ : ∃ D, (digs (2 * j)).length = D := ⟨_, rfl⟩
          have hD10 : D ≤ 10 := by have := digs_ten (n := 2 * j) (by omega); omega
          have HP := Lib.hid (put_one (2 * ((k : Int) - 1)) (2 * j) D w1 (by omega) (by omega) hD)
          have HD := Lib.hid hD
          have HJ := Lib.hid hj
          have hw1 : IntKind.u64.wrap ((k : Int) - 1) = (k : Int) - 1 := by rw [IntKind.wrap_u64]; omega
          have hw2 : IntKind.u64.wrap (2 * ((k : Int) - 1)) = 2 * ((k : Int) - 1) := by rw [IntKind.wrap_u64]; omega
          obtain ⟨AK, hAK⟩ : ∃ AK, (if c = k then A' else Option.map (fun x => x.add k) A') = AK := ⟨_, rfl⟩
          have hQ : Q ≤ 33000000000 := by
            have h1 := HEL.out
            rw [← HT.out.eq, List.length_append, HT.out.qlen] at h1
            omega
          have hc0 := HT.out.cap
          have hnil := HT.out.nil
          have HTL := Lib.hid (show (ys.take k).length = k by rw [List.length_take, HT.out.len]; omega)
          have HAK := Lib.hid hAK
          clear hD hj
          go_wp2_with fail
          refine (HP.out).mono ?_
          rintro e w2 ⟨g, rfl, hnu, hg2, hgs, -⟩
          have HG2 := Lib.hid (HG1.out.trans hg2)
          have HO2 := Lib.hid (own_any HO1.out hg2)
          have HN2 := Lib.hid hnu
          clear hnu hg2 hgs HP hw1 hw2
          go_upto_region 6 with (at_builtin; refine wpList_append_bytes rfl _ _ rfl w.heap.size v Q D D q (digs (2 * j)) (some ⟨g, 0, none⟩) w2.heap.size rfl HO2.out rfl HD.out.symm (by simp) HN2.out (by omega) HG2.out.size ?_; intro v3 w3 hown3 hb3)
          have HG3 := Lib.hid (show Grow w w3 from Below.trans HG2.out hb3)
          have HO3 := Lib.hid hown3
          have HN3 := Lib.hid ((HT.out.num.grow HG3.out).take k)
          clear hown3 hb3
          go_upto_region 7 with (at_builtin; refine wpList_append_bytes rfl _ _ rfl w.heap.size v3 (Q + D) k c (q ++ digs (2 * j)) (ys.take k) A' w3.heap.size rfl HO3.out rfl HTL.out.symm hnil HN3.out (by omega) HG3.out.size ?_; intro v4 w4 hown4 hb4)
          have HG4 := Lib.hid (show Grow w w4 from Below.trans HG3.out hb4)
          have HO4 := Lib.hid hown4
          clear hown4 hb4
          go_wp2
          go_meet
          case rel =>
            refine ⟨ys.drop k, AK, c - k, N - k, Q + D + k, q ++ (digs (2 * j) ++ ys.take k), v4, rfl, rfl, by omega, by have := bef_drop ys; rw [HK.out] at this; exact this, HT.out.drop (p := digs (2 * j) ++ ys.take k) (by omega) ?_ ?_ ?_ HG4.out HAK.out⟩
            · have := grp_oth (xs := ys) (k := j) (by rw [HK.out, HJ.out])
              rw [← HJ.out] at this
              rw [this, List.append_assoc]
            · exact (Nat.add_assoc _ _ _).trans (by rw [List.length_append, HD.out, HTL.out])
            · rw [← List.append_assoc]; exact HO4.out
      case rest =>
        obtain ⟨zs, A2, c2, N2, Q2, q2, v2, rfl, rfl, hN2, hbz, hat⟩ := hcut
        have HT2 := Lib.hid hat
        have HBZ := Lib.hid hbz
        clear hat hbz
        by_cases hz0 : N2 = 0
        · subst hz0
          go_wp2
          go_roundg 0
          case rel => exact ⟨zs, A2, c2, 0, Q2, q2, v2, rfl, rfl, rfl, HT2.out⟩
          case measure => omega
        · have hzp : 0 < N2 := by omega
          have hzn : zs ≠ [] := fun e => by have := HT2.out.len; rw [e] at this; simp at this; omega
          obtain ⟨a, ha⟩ : ∃ a, zs.getD 0 0 = a := ⟨_, rfl⟩
          have HA := Lib.hid ha
          have HL := Lib.hid (like_any A2 N2 c2 zs wc HT2.out.len (by omega) (by omega) (HT2.out.num.grow HT2.out.grow))
          obtain ⟨m, hm⟩ : ∃ m, lik a zs = m := ⟨_, rfl⟩
          rw [ha, hm] at HL
          have hm3 : 3 ≤ m := by have := bef_run hzn HBZ.out; rw [ha, hm] at this; exact this
          have hmN : m ≤ N2 := by have := lik_le a zs; rw [hm, HT2.out.len] at this; exact this
          obtain ⟨j, hj⟩ : ∃ j, m = j + 3 := ⟨m - 3, by omega⟩
          have HE := Lib.hid (grp_run hzn HBZ.out ha (by rw [hm, hj] : lik a zs = j + 3))
          obtain ⟨D, hD⟩ : ∃ D, (digs (2 * j + 1)).length = D := ⟨_, rfl⟩
          have hD10 : D ≤ 10 := by have := digs_ten (n := 2 * j + 1) (by omega); omega
          have HP := Lib.hid (fun W => put_one (2 * ((m : Int) - 3) + 1) (2 * j + 1) D W (by omega) (by omega) hD)
          have HD := Lib.hid hD
          have HJ := Lib.hid hj
          have hw1 : IntKind.u64.wrap ((m : Int) - 3) = (m : Int) - 3 := by rw [IntKind.wrap_u64]; omega
          have hw2 : IntKind.u64.wrap (2 * ((m : Int) - 3)) = 2 * ((m : Int) - 3) := by rw [IntKind.wrap_u64]; omega
          have hw3 : IntKind.u64.wrap (2 * ((m : Int) - 3) + 1) = 2 * ((m : Int) - 3) + 1 := by rw [IntKind.wrap_u64]; omega
          obtain ⟨AK, hAK⟩ : ∃ AK, (if c2 = m then A2 else Option.map (fun x => x.add m) A2) = AK := ⟨_, rfl⟩
          have hQ : Q2 ≤ 33000000000 := by
            have h1 := HEL.out
            rw [← HT2.out.eq, List.length_append, HT2.out.qlen] at h1
            omega
          have hc0 := HT2.out.cap
          have HAK := Lib.hid hAK
          obtain ⟨b, off, rfl, _, _⟩ := HT2.out.num (by rw [HT2.out.len]; exact hzp)
          clear hD hj ha hm hzn
          go_wp2_with fail
          refine (HL.out).mono ?_
          rintro e w2 ⟨rfl, hg2⟩
          have HG2 := Lib.hid (HT2.out.grow.trans hg2)
          have HO2 := Lib.hid (own_any HT2.out.own hg2)
          clear hg2 HL
          go_wp2_with fail
          refine (HP.out w2).mono ?_
          rintro e w3 ⟨g, rfl, hnu, hg3, hgs, -⟩
          have HG3 := Lib.hid (HG2.out.trans hg3)
          have HO3 := Lib.hid (own_any HO2.out hg3)
          have HN3 := Lib.hid hnu
          clear hnu hg3 hgs HP hw1 hw2 hw3
          go_upto_region 11 with (at_builtin; refine wpList_append_bytes rfl _ _ rfl w.heap.size v2 Q2 D D q2 (digs (2 * j + 1)) (some ⟨g, 0, none⟩) w3.heap.size rfl HO3.out rfl HD.out.symm (by simp) HN3.out (by omega) HG3.out.size ?_; intro v4 w4 hown4 hb4)
          have HG4 := Lib.hid (show Grow w w4 from Below.trans HG3.out hb4)
          have HO4 := Lib.hid (hown4.alloc (.cells #[.int .u8 a] 5))
          have hcell : w4.cell? ⟨b, off, none⟩ = some (.int .u8 a) := by
            obtain ⟨b', off', hb', _, hc⟩ := HT2.out.num.grow HG4.out (by rw [HT2.out.len]; exact hzp)
            cases hb'
            have := hc 0 (by rw [HT2.out.len]; exact hzp)
            rw [HA.out, Nat.add_zero] at this
            exact this
          have HN4 := Lib.hid (lit_nums w4 .u8 5 [a])
          have HG4' := Lib.hid (HG4.out.trans (grow_new w4 (.cells #[.int .u8 a] 5)))
          clear hown4 hb4
          go_upto_region 12 with (at_builtin; refine wpList_append_bytes rfl _ _ rfl w.heap.size v4 (Q2 + D) 1 1 (q2 ++ digs (2 * j + 1)) [a] (some ⟨w4.heap.size, 0, none⟩) _ rfl HO4.out rfl rfl (by simp) HN4.out (by omega) HG4'.out.size ?_; intro v5 w5 hown5 hb5)
          have HG5 := Lib.hid (show Grow w w5 from Below.trans HG4'.out hb5)
          have HO5 := Lib.hid hown5
          clear hown5 hb5 hcell
          have HF := Lib.hid (show EncAt w n xs (zs.drop m) AK (c2 - m) (N2 - m) (Q2 + D + 1) (q2 ++ (digs (2 * j + 1) ++ [a])) v5 w5 by
            refine HT2.out.drop hmN ?_ ?_ ?_ HG5.out HAK.out
            · rw [HE.out, ← HJ.out, List.append_assoc]; rfl
            · exact (Nat.add_assoc _ _ _).trans (by rw [List.length_append, HD.out]; rfl)
            · rw [← List.append_assoc]; exact HO5.out)
          clear hAK
          by_cases hcm : c2 = m
          · have HV := Lib.hid (show Value.slice (some ⟨b, off, none⟩) (N2 - m) 0 = .slice AK (N2 - m) (c2 - m) by rw [← HAK.out, if_pos hcm, hcm, Nat.sub_self])
            go_wp2
            go_roundg (N2 - m)
            case rel => exact ⟨zs.drop m, AK, c2 - m, N2 - m, Q2 + D + 1, q2 ++ (digs (2 * j + 1) ++ [a]), v5, rfl, HV.out, rfl, HF.out⟩
            case measure => omega
          · have HV := Lib.hid (show Value.slice (some ⟨b, off + m, none⟩) (N2 - m) (c2 - m) = .slice AK (N2 - m) (c2 - m) by rw [← HAK.out, if_neg hcm, Option.map_some, Addr.add_lit])
            go_wp2
            go_roundg (N2 - m)
            case rel => exact ⟨zs.drop m, AK, c2 - m, N2 - m, Q2 + D + 1, q2 ++ (digs (2 * j + 1) ++ [a]), v5, rfl, HV.out, rfl, HF.out⟩
            case measure => omega
end Go.Proofs.Ytoapfegmipopkaa
