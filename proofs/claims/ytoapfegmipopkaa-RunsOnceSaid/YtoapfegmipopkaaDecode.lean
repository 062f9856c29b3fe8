/-
  What runs.Decode comes to.
-/
import Derived.Test.YtoapfegmipopkaaComes
namespace Go.Proofs.Ytoapfegmipopkaa
open Go.RowKit

/-- there are n bytes of which this is the one form -/
def IsEnc (xs : List Int) (n : Int) : Prop := ∃ ys, enc ys = xs ∧ (ys.length : Int) = n
/-- bytes in new memory of which this is the one form, or none -/
def Decoded (xs : List Int) (n : Int) (w : World) (e : Ending) (w' : World) : Prop :=
  Grow w w' ∧ ((∃ ys v, enc ys = xs ∧ (ys.length : Int) = n ∧ Byt ys ∧ e = .returned (.tuple #[v, .bool true]) ∧ w'.ownsRow w.heap.size 5 1 v ys.length (u8s ys)) ∨
    (¬ IsEnc xs n ∧ e = .returned (.tuple #[.slice none 0 0, .bool false])))

theorem IsEnc.comes {xs : List Int} {n : Int} (h : IsEnc xs n) : Comes xs n := by
  obtain ⟨ys, rfl, hn⟩ := h
  exact ⟨ys, enc_grps _ ys (Nat.le_refl _), hn⟩

theorem grown_kept {w w' : World} {p : Nat} (h : w.grownBy w' (some p)) : Kept (fun k => k = p) w w' := ⟨h.os, h.tape, h.output, h.size, fun k hk hne => h.block k hk (fun e => hne (Option.some.inj e))⟩

theorem own_kept {T : Nat → Prop} {w w' : World} {base n : Nat} {v : Value} {xs : List Value} (h : w.ownsRow base 5 1 v n xs) (hk : Kept T w w') (hT : ∀ k, v.ownBlock = some k → ¬ T k) : w'.ownsRow base 5 1 v n xs := by
  refine ⟨h.1, ?_⟩
  rcases h.2 with h0 | ⟨g, cap, cur, rfl, hbg, hgg, rest⟩
  · exact .inl h0
  · exact .inr ⟨g, cap, cur, rfl, hbg, (hk.block g (Array.getElem?_eq_some_iff.1 hgg).1 (hT g rfl)).trans hgg, rest⟩

structure DecAt (T : TypeId) (S : Nat → Prop) (g p N : Nat) (ys : List Int) (w3 : World) (s : St) (done : List Int) (D : Nat) (wr : World) : Prop where
  isC : IsC T S wr g s
  good : Good s
  e0 : s.e = 0
  grps : ∃ zs, Grps s.bs zs ∧ done ++ zs = ys
  dlen : done.length = D
  own : wr.ownsRow p 5 1 (.slice (some ⟨p, 0, none⟩) D N) D (u8s done)
  kept : Kept S w3 wr

/-- a group's bytes are there, and the room for them -/
structure GrpAt (p N R L tm : Nat) (ad : Addr) (c : Nat) (own done : List Int) (w5 : World) (j : Nat) (F : Nat) (wz : World) : Prop where
  flen : (done ++ rep j own).length = F
  row : wz.ownsRow p 5 1 (.slice (some ⟨p, 0, none⟩) F N) F (u8s (done ++ rep j own))
  cell : wz.cell? ⟨R, 0, none⟩ = some (.slice (some ad) L c)
  num : Nums .u8 wz wz.heap.size (some ad) own
  kept : Kept (fun k => k = p) w5 wz

theorem GrpAt.step {p N R L tm : Nat} {ad : Addr} {c : Nat} {own done : List Int} {w5 : World} {j F : Nat} {wz w' : World} (h : GrpAt p N R L tm ad c own done w5 j F wz) (hL : own.length = L) (hR : R ≠ p) (hRl : R < wz.heap.size) (had : ad.block ≠ p)
    (hrow : w'.ownsRow p 5 1 (.slice (some ⟨p, 0, none⟩) (F + L) N) (F + L) (u8s (done ++ rep j own) ++ u8s own)) (hg : wz.grownBy w' (some p)) : GrpAt p N R L tm ad c own done w5 (j + 1) (F + L) w' := by
  have hk := grown_kept hg
  refine ⟨by rw [rep_snoc, ← List.append_assoc, List.length_append, h.flen, hL], by rw [rep_snoc, ← List.append_assoc, u8s_app]; exact hrow, ?_, ?_, h.kept.trans hk⟩
  · exact (hk.cell (p := ⟨R, 0, none⟩) hRl hR).trans h.cell
  · exact (h.num.kept (S := fun k => k = p) (fun a e x => by cases e; exact had x) hk (Nat.le_refl _)).more hk.size

set_option maxRecDepth 10000 in
set_option maxHeartbeats 1600000 in
theorem decode_none (A : Option Addr) (m cap : Nat) (xs : List Int) (n : Int) (w : World) (hm : xs.length = m) (hl : m ≤ 1000000) (hc : A = none → cap = 0) (hb : Byt xs) (hr : Nums .u8 w w.heap.size A xs)
    (hbig : 2147483647 < n → ¬ IsEnc xs n) (hno : n < 0 ∨ 2147483647 < n ∨ ¬ Comes xs n) :
    Calls Try.prog 10 #[.slice A m cap, .int .i64 n] w (Decoded xs n w) := by
  have HNO := Lib.hid (show ¬ IsEnc xs n by
    rcases hno with h | h | h
    · rintro ⟨ys, -, h2⟩; omega
    · exact hbig h
    · exact fun h2 => h h2.comes)
  by_cases h0 : n < 0
  · clear hno hbig
    go_enter Try.func10, Try.ntmps10
    go_wp2
    go_ret2
    exact ⟨Grow.refl _, .inr ⟨HNO.out, rfl⟩⟩
  · by_cases h1 : 2147483647 < n
    · clear hno hbig
      go_enter Try.func10, Try.ntmps10
      go_wp2
      go_ret2
      exact ⟨Grow.refl _, .inr ⟨HNO.out, rfl⟩⟩
    · have HC := Lib.hid (comes_any A m cap xs n w hm hl hc hb hr (by omega) (by omega))
      have hnc : ¬ Comes xs n := by
        rcases hno with h | h | h
        · omega
        · omega
        · exact h
      have HNC := Lib.hid hnc
      clear hno hbig hnc hm hb hr
      go_enter Try.func10, Try.ntmps10
      go_wp2_with fail
      refine (HC.out).mono ?_
      rintro e w1 ⟨b, rfl, hbi, hg1⟩
      have hbf : b = false := by
        cases b with
        | false => rfl
        | true => exact absurd (hbi.1 rfl) HNC.out
      subst hbf
      have HG1 := Lib.hid hg1
      clear hbi hg1
      go_wp2
      go_ret2
      exact ⟨HG1.out, .inr ⟨HNO.out, rfl⟩⟩

theorem grp_own {n : Int} {s : St} {ys : List Int} (hg : Good s) (h : Grps s.bs ys) (hne : s.bs ≠ []) (hn : (ys.length : Int) ≤ n) (hn1 : n ≤ 2147483647) : 0 < (grpS n s).1.length := by
  obtain ⟨v, r, hv, hvl⟩ := grps_first h hne
  obtain ⟨h1, h2, h3⟩ := num_ok (2 * n) s v r hv (by omega) (by omega)
  have hg1 := hg.num (2 * n)
  rw [hv] at h
  rw [grpS_eq, h1]
  by_cases ho : v % 2 = 1
  · rw [if_pos ho]
    obtain ⟨c, t, zs, hr, hz, rfl⟩ := grps_odd h ho
    rcases take_cases 1 (numS (2 * n) s).2 hg1 with ⟨-, -, -, h4⟩ | ⟨-, h5, h6, h7⟩
    · rw [h2, hr] at h4; simp at h4
    · simp only
      rw [h5, h2, hr]
      simp
  · rw [if_neg ho]
    obtain ⟨hl, zs, hz, rfl⟩ := grps_even h (by omega)
    rcases take_cases (v / 2 + 1) (numS (2 * n) s).2 hg1 with ⟨-, -, -, h4⟩ | ⟨-, h5, h6, h7⟩
    · rw [h2] at h4; omega
    · simp only
      rw [h5, h2, List.length_take]
      omega

set_option maxRecDepth 10000 in
set_option maxHeartbeats 3200000 in
theorem decode_some (A : Option Addr) (m cap N : Nat) (xs : List Int) (w : World) (hm : xs.length = m) (hl : m ≤ 1000000) (hc : A = none → cap = 0) (hb : Byt xs) (hr : Nums .u8 w w.heap.size A xs)
    (hN : N ≤ 2147483647) (hco : Comes xs N) :
    Calls Try.prog 10 #[.slice A m cap, .int .i64 (N : Nat)] w (Decoded xs N w) := by
  obtain ⟨ys, hys, hyl⟩ := hco
  have HYB := Lib.hid (grps_byt hys hb)
  have HYS := Lib.hid hys
  have HYL := Lib.hid (show ys.length = N by omega)
  have HC := Lib.hid (comes_any A m cap xs N w hm hl hc hb hr (by omega) (by omega))
  have HCO := Lib.hid (show Comes xs N from ⟨ys, hys, hyl⟩)
  have HM := Lib.hid hm
  have HB := Lib.hid hb
  have HR := Lib.hid hr
  obtain ⟨i0, hi, hz0, hz1, hz2⟩ := info_parts info5
  clear hm hb hr hys hyl
  go_enter Try.func10, Try.ntmps10
  go_wp2_with fail
  refine (HC.out).mono ?_
  rintro e w1 ⟨b, rfl, hbi, hg1⟩
  have hbt : b = true := hbi.2 HCO.out
  subst hbt
  have HG1 := Lib.hid hg1
  clear hbi hg1 HC
  obtain ⟨w2, hmk, hown2, hgr2⟩ := run_make_own (P := Try.prog) w1 w1.heap.size 22 5 i0 (.int .u8 0) 1 Try.underlying22 hi hz0 hz1 .i64 .i64 N (by rw [hz2]; omega) (by unfold maxLen; omega) (Nat.le_refl _)
  obtain ⟨p, hp⟩ : ∃ p, p = w1.heap.size := ⟨_, rfl⟩
  rw [← hp] at hmk hown2
  have HG2 := Lib.hid (show Grow w w2 from HG1.out.trans ((Below.refl _ _).grown hgr2 (Nat.le_refl _) (fun k hk => by cases hk)))
  have HPW := Lib.hid (show w.heap.size ≤ p by rw [hp]; exact HG1.out.size)
  have HPL := Lib.hid (show p < w2.heap.size from (hown2.lt p rfl).2)
  have HO2 := Lib.hid hown2
  have HOP := Lib.hid (open_any A m cap xs 0 w2 HM.out hl hc (HR.out.grow HG2.out))
  clear hown2 hgr2 hp
  go_wp2_with fail
  refine (HOP.out).mono ?_
  rintro e w3 ⟨g, rfl, hgw, hgl, hg3, hic⟩
  clear hmk HOP
  obtain ⟨S, hS⟩ : ∃ S : Nat → Prop, S = fun k => k = p ∨ k = g ∨ w3.heap.size ≤ k := ⟨_, rfl⟩
  have hpg : p < g := by have := HPL.out; omega
  have HST := Lib.hid (show DecAt 44 S g p N ys w3 (openS xs 0) [] 0 w3 from
    ⟨hic S (by rw [hS]; exact .inr (.inl rfl)) (fun k hk => by
        rw [hS] at hk
        rcases hk with rfl | hk
        · exact .inl HPL.out
        · exact .inr hk), open_good xs 0 HB.out (by rw [HM.out]; omega), rfl, ⟨ys, HYS.out, rfl⟩, rfl, own_any HO2.out hg3, Kept.refl _ _⟩)
  have HS := Lib.hid hS
  have HG3 := Lib.hid (HG2.out.trans hg3)
  have HSW := Lib.hid (show ∀ k, S k → w.heap.size ≤ k from fun k hk => by
    rw [hS] at hk
    have h1 := HPW.out
    have h2 := (HG2.out.trans hg3).size
    rcases hk with rfl | rfl | hk
    · omega
    · omega
    · omega)
  have HP3 := Lib.hid (show p < w3.heap.size from Nat.lt_of_lt_of_le HPL.out hg3.size)
  clear hic hg3 hS hgw hgl HO2
  go_wp2_with fail
  go_loopg [6] m (fun gk s6 wr => ∃ (s : St) (L : Nat) (done : List Int) (D : Nat), gk = L ∧ s6 = .slice (some ⟨p, 0, none⟩) D N ∧ s.bs.length = L ∧ DecAt 44 S g p N ys w3 s done D wr)
  case atStart => exact ⟨openS xs 0, m, [], 0, rfl, rfl, HM.out, HST.out⟩
  case round =>
    obtain ⟨s, L, done, D, rfl, rfl, hL, hat⟩ := hrel
    have HT := Lib.hid hat
    have HL := Lib.hid hL
    have HLE := Lib.hid (left_any wr hat.isC)
    have hlen := hat.good.len
    rw [hL] at HLE hlen
    clear hat hL
    obtain ⟨w4, hw4⟩ : ∃ w4, w4 = wr := ⟨_, rfl⟩
    subst hw4
    by_cases hz : gk = 0
    · subst hz
      have hdone : done = ys := by
        obtain ⟨zs, h1, h2⟩ := HT.out.grps
        rw [List.eq_nil_of_length_eq_zero HL.out] at h1
        rw [grps_nil h1, List.append_nil] at h2
        exact h2
      have hD : D = N := by rw [← HT.out.dlen, hdone, HYL.out]
      have HOW := Lib.hid HT.out.own
      rw [hdone] at HOW
      subst hD
      have HG4 := Lib.hid (Kept.grow HG3.out HT.out.kept HSW.out)
      obtain ⟨A5, c5, hv5, -, hn5, -⟩ := own_nums HOW.out
      cases hv5
      have HEN := Lib.hid (encode_any (some ⟨p, 0, none⟩) D D ys w4 HYL.out (by omega) (Nat.le_refl _) (by simp) HYB.out hn5)
      clear hn5 hdone
      go_wp2_with fail
      refine (HLE.out).mono ?_
      rintro e w' ⟨rfl, rfl⟩
      go_wp2_with fail
      refine (HEN.out).mono ?_
      rintro e w5 ⟨v, rfl, hown5, hg5⟩
      obtain ⟨A6, c6, rfl, -, hn6, -⟩ := own_nums hown5
      have HG5 := Lib.hid (HG4.out.trans hg5)
      have HEQ := Lib.hid (equal_any A6 A (enc ys).length m c6 cap (enc ys) xs w5 _ _ rfl HM.out (enc_byt _ ys (Nat.le_refl _) HYB.out) HB.out hn6 (HR.out.grow HG5.out))
      have HO5 := Lib.hid (own_any HOW.out hg5)
      clear hown5 hg5 hn6 HEN
      go_wp2_with fail
      refine (HEQ.out).mono ?_
      rintro e w' ⟨rfl, rfl⟩
      by_cases heq : enc ys = xs
      · rw [show decide (enc ys = xs) = true by simpa using heq]
        have HE := Lib.hid heq
        clear heq
        go_wp2
        go_ret2
        exact ⟨HG5.out, .inl ⟨ys, _, HE.out, by rw [HYL.out], HYB.out, rfl, by rw [HYL.out]; exact own_base HO5.out HPW.out⟩⟩
      · rw [show decide (enc ys = xs) = false by simpa using heq]
        have HE := Lib.hid (show ¬ IsEnc xs D by
          rintro ⟨zs, rfl, -⟩
          exact heq (by rw [grps_one HYS.out zs (enc_grps _ zs (Nat.le_refl _))]))
        clear heq
        go_wp2
        go_ret2
        exact ⟨HG5.out, .inr ⟨HE.out, rfl⟩⟩
    · have hpos : 0 < gk := by omega
      have hne : s.bs ≠ [] := fun e => by have := HL.out; rw [e] at this; simp at this; omega
      obtain ⟨zs0, hz0', hz1'⟩ := HT.out.grps
      have hzl : zs0.length ≤ N := by rw [← HYL.out, ← hz1', List.length_append]; omega
      have HGR := Lib.hid (group_any (N : Int) w4 HT.out.isC HT.out.good (fun k hk => by rw [HS.out]; exact .inr (.inr (Nat.le_trans HT.out.kept.size hk))) (by omega) (by omega))
      have hrd := grp_reads HT.out.good hz0' hne HT.out.e0 (n := (N : Int)) (by omega) (by omega)
      have hbd := grp_bounds (n := (N : Int)) HT.out.good (by omega) (by omega)
      have HLS := Lib.hid (grp_less (n := (N : Int)) HT.out.good hne)
      have HGD := Lib.hid (grp_good (n := (N : Int)) HT.out.good)
      have hop := grp_own (n := (N : Int)) HT.out.good hz0' hne (by omega) (by omega)
      rw [HL.out] at HLS
      clear hne
      obtain ⟨⟨own, tm, s2⟩, hr⟩ : ∃ r, grpS (N : Int) s = r := ⟨_, rfl⟩
      rw [hr] at HGR hbd HLS HGD hrd hop
      simp only at HGR hbd HLS HGD hrd hop
      obtain ⟨zs, hz2', hz3', hz4'⟩ := hrd
      have htm : tm ≤ 2147483650 := hbd.2.2.1
      have HZ := Lib.hid (show Grps s2.bs zs ∧ s2.e = 0 ∧ done ++ rep tm own ++ zs = ys from ⟨hz2', hz3', by rw [List.append_assoc, ← hz4', hz1']⟩)
      clear hr hz0' hz1' hz2' hz3' hz4' hzl
      have HROOM := Lib.hid (show ∀ j, j < tm → (done ++ rep j own).length + own.length ≤ N from fun j hj => by
        rw [← HYL.out, ← HZ.out.2.2, List.length_append, List.length_append, List.length_append, rep_len, rep_len]
        have : own.length * (j + 1) ≤ own.length * tm := Nat.mul_le_mul_left _ hj
        rw [Nat.mul_succ] at this
        omega)
      go_wp2_with fail
      refine (HLE.out).mono ?_
      rintro e w' ⟨rfl, rfl⟩
      go_wp2_with fail
      refine (HGR.out).mono ?_
      rintro e w5 ⟨v, hown, rfl, hi2, hkp2⟩
      obtain ⟨A2, c2, rfl, -, hn2, -⟩ := own_nums hown
      simp only at hn2 hi2
      obtain ⟨ad, had⟩ : ∃ ad, A2 = some ad := by
        obtain ⟨b, off, e, _⟩ := hn2 hop
        exact ⟨_, e⟩
      subst had
      have hadb := hown.lt ad.block (by rfl)
      have HI2 := Lib.hid hi2
      have HK2 := Lib.hid hkp2
      have hp4 : p < w4.heap.size := Nat.lt_of_lt_of_le HP3.out HT.out.kept.size
      have hp5 : p < w5.heap.size := Nat.lt_of_lt_of_le hp4 hkp2.size
      obtain ⟨R, hR⟩ : ∃ R, w5.heap.size = R := ⟨_, rfl⟩
      have hRp : R ≠ p := by omega
      have hadp : ad.block ≠ p := by omega
      have HAT := Lib.hid (show GrpAt p N R own.length tm ad c2 own done (w5.alloc (.cells #[.slice (some ad) own.length c2, .int .i64 (tm : Nat)] 46)) 0 D (w5.alloc (.cells #[.slice (some ad) own.length c2, .int .i64 (tm : Nat)] 46)) by
        have hgn := grow_new w5 (.cells #[.slice (some ad) own.length c2, .int .i64 (tm : Nat)] 46)
        refine ⟨by rw [rep_zero, List.append_nil, HT.out.dlen], ?_, ?_, hn2.grow hgn, Kept.refl _ _⟩
        · rw [rep_zero, List.append_nil]
          refine own_any (own_kept HT.out.own hkp2 (fun k e hk => ?_)) hgn
          cases e
          have hk' : p = g := hk
          omega
        · rw [← hR]
          exact (pair_cells (heap_alloc_new w5 _)).1)
      have HRS := Lib.hid hR
      clear hown hn2 hi2 hkp2 hR hadb
      go_wp2_with fail
      go_loopg [6, 35] tm (fun gz s6 s35 wz => ∃ j F : Nat, j ≤ tm ∧ gz = tm - j ∧ s6 = .slice (some ⟨p, 0, none⟩) F N ∧ s35 = .int .i64 j ∧ GrpAt p N R own.length tm ad c2 own done (w5.alloc (.cells #[.slice (some ad) own.length c2, .int .i64 (tm : Nat)] 46)) j F wz)
      case atStart => exact ⟨0, D, Nat.zero_le _, rfl, rfl, rfl, HAT.out⟩
      case round =>
        obtain ⟨j, F, hj, rfl, rfl, rfl, hat⟩ := hrel
        have HT2 := Lib.hid hat
        clear hat
        by_cases hjt : j < tm
        · have hroom : F + own.length ≤ N := by have := HROOM.out j hjt; rw [HT2.out.flen] at this; exact this
          have hcell := HT2.out.cell
          rw [← HRS.out] at hcell
          have hRl : R < wr.heap.size := block_lt HT2.out.cell
          go_wp2_with (at_builtin; refine wpList_append_own_spare _ rfl _ _ 22 rfl p 5 i0 1 Try.underlying22 hi hz1 p F N _ rfl HT2.out.row ad own.length c2 (u8s own) rfl (by rw [u8s_len]; omega) (nums_news HT2.out.num) (u8s_one own) hroom ?_; intro w7 hown7 hgrow7)
          have HF := Lib.hid (HT2.out.step rfl hRp hRl hadp hown7 hgrow7)
          clear hown7 hgrow7 hcell
          go_wp2
          go_roundg (tm - (j + 1))
          case rel => exact ⟨j + 1, F + own.length, by omega, rfl, rfl, by go_num, HF.out⟩
          case measure => omega
        · obtain rfl : j = tm := by omega
          go_wp2
          go_roundg s2.bs.length
          case rel =>
            have hkw : Kept S w4 wr := (HK2.out.mono (fun k e => by rw [HS.out]; exact .inr (.inl e))).trans ((Kept.of_grow (grow_new _ _)).trans (HT2.out.kept.mono (fun k e => by rw [HS.out]; exact .inl e)))
            refine ⟨s2, s2.bs.length, done ++ rep j own, F, rfl, rfl, rfl, ?_, HGD.out, HZ.out.2.1, ⟨zs, HZ.out.1, HZ.out.2.2⟩, HT2.out.flen, HT2.out.row, HT.out.kept.trans hkw⟩
            exact (HI2.out.grow (grow_new _ _)).kept HT2.out.kept (fun k e => by rw [HS.out]; exact .inl e) (by omega)
          case measure => exact HLS.out

theorem decode_any (A : Option Addr) (m cap : Nat) (xs : List Int) (n : Int) (w : World) (hm : xs.length = m) (hl : m ≤ 1000000) (hc : A = none → cap = 0) (hb : Byt xs) (hr : Nums .u8 w w.heap.size A xs)
    (hbig : 2147483647 < n → ¬ IsEnc xs n) : Calls Try.prog 10 #[.slice A m cap, .int .i64 n] w (Decoded xs n w) := by
  by_cases h : n < 0 ∨ 2147483647 < n ∨ ¬ Comes xs n
  · exact decode_none A m cap xs n w hm hl hc hb hr hbig h
  · have h0 : 0 ≤ n ∧ n ≤ 2147483647 ∧ Comes xs n := ⟨by omega, by omega, Classical.not_not.1 (fun x => h (.inr (.inr x)))⟩
    obtain ⟨N, rfl⟩ := Int.eq_ofNat_of_zero_le h0.1
    exact decode_some A m cap N xs w hm hl hc hb hr (by omega) h0.2.2
end Go.Proofs.Ytoapfegmipopkaa
