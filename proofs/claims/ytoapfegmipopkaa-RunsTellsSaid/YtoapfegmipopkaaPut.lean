/-
  What varint.Put comes to, called with any bytes and any numbers.
-/
import Derived.Test.YtoapfegmipopkaaOwn
namespace Go.Proofs.Ytoapfegmipopkaa
open Go.RowKit

theorem nil_of_none {k : IntKind} {w : World} {B : Nat} {p : List Int} (h : Nums k w B none p) : p = [] := by
  apply List.eq_nil_of_length_eq_zero
  apply Nat.eq_zero_of_not_pos
  intro hp
  obtain ⟨_, _, h, _⟩ := h hp
  cases h

/-- bytes in a row of their own that was not there before -/
def SealedNew (bs : List Int) (w : World) (e : Ending) (w' : World) : Prop :=
  ∃ g, e = .returned (.slice (some ⟨g, 0, none⟩) bs.length bs.length) ∧ w'.rowIs g 5 bs.length (fun i => .int .u8 (bs.getD i 0)) ∧ Grow w w' ∧ w.heap.size ≤ g

set_option maxRecDepth 10000 in
set_option maxHeartbeats 1600000 in
theorem put_new (A Al : Option Addr) (n m cap capl : Nat) (bs ns : List Int) (w : World) (hn : n = bs.length) (hm : m = ns.length) (hnl : n ≤ 100000000000000) (hml : m ≤ 10000000000000) (hu : U64 ns) (hc : A = none → cap = 0)
    (hr : Nums .u8 w w.heap.size A bs) (hrn : Nums .u64 w w.heap.size Al ns) : Calls Try.prog 14 #[.slice A n cap, .slice Al m capl] w (SealedNew (bs ++ flat ns) w) := by
  subst hn hm
  have hfl := flat_len ns hu
  obtain ⟨T, hT⟩ : ∃ T, bs.length + (flat ns).length = T := ⟨_, rfl⟩
  have hTl : T ≤ 200000000000000 := by omega
  obtain ⟨i0, hi, hz0, hz1, hz2⟩ := info_parts info5
  obtain ⟨w2, hmk, hown2, hgr2⟩ := run_make_own (P := Try.prog) w w.heap.size 22 5 i0 (.int .u8 0) 1 Try.underlying22 hi hz0 hz1 .i64 .i64 T (by rw [hz2]; omega) (by unfold maxLen; omega) (Nat.le_refl _)
  have hb2 : Grow w w2 := (Below.refl _ _).grown hgr2 (Nat.le_refl _) (fun k hk => by cases hk)
  have HR := Lib.hid hr
  have HN := Lib.hid hrn
  have HU := Lib.hid hu
  have HO2 := Lib.hid hown2
  have HT := Lib.hid hT
  have hbl : bs.length ≤ T := by omega
  clear hr hrn hu hown2 hgr2
  go_enter Try.func14, Try.ntmps14
  go_wp2
  go_loopw [5, 15] (fun v i wr => ∃ k : Nat, k ≤ ns.length ∧ i = .int .i64 k ∧ v = .int .i64 (bs.length + (flat (ns.take k)).length : Nat) ∧ w = wr)
    (fun _ i _ => ns.length - (intOf i).toNat)
  case atStart => exact ⟨0, Nat.zero_le _, rfl, rfl, rfl⟩
  case round =>
    obtain ⟨k, hk, rfl, rfl, rfl⟩ := hrel
    by_cases hlt : k < ns.length
    · obtain ⟨b, off, rfl, hb, hcl⟩ := HN.out (by omega)
      have hcell := hcl k hlt
      have hN := HU.out.at_ k
      have hnext := flat_take ns k hlt
      have hnl' : (flat (ns.take (k + 1))).length = (flat (ns.take k)).length + (digs (ns.getD k 0).toNat).length := by rw [hnext, List.length_append]
      have htot := flat_le ns (k + 1)
      rw [hnl'] at htot
      have HL := Lib.hid hnl'
      clear hcl hnext hnl' hmk
      generalize (flat (ns.take k)).length = q at *
      generalize ns.getD k 0 = x at *
      obtain ⟨X, rfl⟩ := Int.eq_ofNat_of_zero_le hN.1
      rw [Int.toNat_natCast] at htot HL
      have hS := size_any X w (by omega)
      generalize (digs X).length = d at *
      have HS := Lib.hid hS
      have hsum : bs.length + q + d ≤ T := by omega
      clear hS hT hfl htot
      go_wp2_with fail
      refine (HS.out).mono ?_
      rintro e w' ⟨rfl, rfl⟩
      go_wp2
      go_roundw
      case rel => exact ⟨k + 1, by omega, by go_num, by rw [HL.out]; simp; omega, trivial⟩
      case measure => simp [intOf]; omega
    · have e : k = ns.length := by omega
      subst e
      rw [List.take_length, hT]
      obtain ⟨g, hgq⟩ : ∃ g, w.heap.size = g := ⟨_, rfl⟩
      rw [hgq] at HO2 hmk
      have HGQ := Lib.hid hgq
      clear hgq hT hfl hlt
      cases A with
      | none =>
        have hl0 : bs.length = 0 := by rw [nil_of_none HR.out]; rfl
        have hci := hc rfl
        subst hci
        have HO3 := Lib.hid (show w2.ownsRow g 5 1 (.slice (some ⟨g, 0, none⟩) bs.length T) bs.length (u8s bs) by rw [nil_of_none HR.out]; exact HO2.out)
        have HL0 := Lib.hid hl0
        rw [hl0]
        clear hl0
        go_wp2_with (at_builtin; refine wpList_append_own_none rfl _ _ 22 rfl g 5 i0 1 Try.underlying22 hi _ _ _ rfl HO2.out rfl ?_)
        have HV := Lib.hid (show Value.slice (some ⟨g, 0, none⟩) 0 T = Value.slice (some ⟨g, 0, none⟩) bs.length T by rw [HL0.out])
        have hb3 := hb2
        clear HO2 hmk hb2 HR HL0
        go_wp2
        go_loopw [8, 30] (fun v i wq => ∃ k : Nat, k ≤ ns.length ∧ i = .int .i64 k ∧ ∃ q : List Int, q = bs ++ flat (ns.take k) ∧ v = .slice (some ⟨g, 0, none⟩) q.length T ∧ wq.ownsRow g 5 1 (.slice (some ⟨g, 0, none⟩) q.length T) q.length (u8s q) ∧ Grow w wq)
          (fun _ i _ => ns.length - (intOf i).toNat)
        case atStart => exact ⟨0, Nat.zero_le _, rfl, bs, by simp [flat_nil], HV.out, HO3.out, hb3⟩
        case round =>
          obtain ⟨k, hk, rfl, q, hq, rfl, hown, hbel⟩ := hrel
          by_cases hlt : k < ns.length
          · obtain ⟨b, off, rfl, hb, hcl⟩ := HN.out (by omega)
            have hcell := (hbel.cell (p := ⟨b, off + k, none⟩) hb).trans (hcl k hlt)
            have hN := HU.out.at_ k
            have hfin : q ++ digs (ns.getD k 0).toNat = bs ++ flat (ns.take (k + 1)) := by rw [hq, flat_take ns k hlt, List.append_assoc]
            have hroom : (q ++ digs (ns.getD k 0).toNat).length ≤ T := by
              rw [hfin, List.length_append]
              have := flat_le ns (k + 1)
              have := HT.out
              omega
            clear hcl hq
            generalize ns.getD k 0 = x at *
            obtain ⟨X, rfl⟩ := Int.eq_ofNat_of_zero_le hN.1
            rw [Int.toNat_natCast] at hfin hroom
            have hX : X < 18446744073709551616 := by omega
            have HF := Lib.hid hfin
            have HM := Lib.hid hroom
            have HOQ := Lib.hid hown
            clear hfin hroom hown
            go_wp2
            go_loopw [8, 10] (fun v y wz => ∃ (p : List Int) (Y : Nat), v = .slice (some ⟨g, 0, none⟩) p.length T ∧ y = .int .u64 Y ∧ Y < 18446744073709551616 ∧ p ++ digs Y = q ++ digs X ∧ wz.ownsRow g 5 1 (.slice (some ⟨g, 0, none⟩) p.length T) p.length (u8s p) ∧ Grow w wz)
              (fun _ y _ => (intOf y).toNat)
            case atStart => exact ⟨q, X, rfl, rfl, hX, rfl, HOQ.out, hbel⟩
            case round =>
              obtain ⟨p, Y, rfl, rfl, hY, hpq, hown, hbelz⟩ := hrel
              have hpl : p.length + 1 ≤ T := by
                have h1 := HM.out
                rw [← hpq, List.length_append] at h1
                have := digs_pos Y
                omega
              by_cases h128 : 128 ≤ Y
              · rw [digs_hi h128] at hpq
                have hby : bits .or .u8 ((Y : Int) % 256) 128 = ((Y % 128 + 128 : Nat) : Int) := by
                  have h := u8_or_nat (Y % 256) 128 (by omega) (by decide)
                  rw [or7] at h
                  simpa using h
                generalize Y % 128 + 128 = D at *
                have HPQ := Lib.hid hpq
                have HOJ := Lib.hid (hown.alloc (.cells #[.int .u8 (D : Int)] 5))
                clear hpq hown
                go_wp2_with (at_builtin; refine wpList_append_own_spare _ rfl _ _ 22 rfl g 5 i0 1 Try.underlying22 hi hz1 g p.length T _ rfl HOJ.out ⟨World.heap _ |>.size, 0, none⟩ 1 1 [.int .u8 (D : Int)] rfl rfl (lit_news _ _ _) (by intro u hu; simp at hu; subst hu; rfl) (by omega) ?_; intro w4 hown4 hgrow4)
                have hb4 : Grow w w4 := Below.grown (Below.alloc hbelz hbelz.size _) hgrow4 (by have := hbelz.size; simp; omega) (fun k hk => by cases hk; rw [HGQ.out]; exact Nat.le_refl _)
                have HO4 := Lib.hid hown4
                clear hown4 hgrow4
                go_wp2
                go_roundw
                case rel => exact ⟨p ++ [(D : Int)], Y / 128, by simp, by simp, by omega, by rw [List.append_assoc]; exact HPQ.out, by rw [List.length_append, u8s_app]; exact HO4.out, hb4⟩
                case measure => simp [intOf]; omega
              · rw [digs_lo (by omega)] at hpq
                have HPQ := Lib.hid hpq
                have hmod : (Y : Int) % 256 = (Y : Int) := by omega
                have hwr : IntKind.u8.wrap (Y : Int) = (Y : Int) := by rw [IntKind.wrap_u8']; omega
                have HOJ := Lib.hid (hown.alloc (.cells #[.int .u8 (Y : Int)] 5))
                clear hpq hown
                go_wp2_with (at_builtin; refine wpList_append_own_spare _ rfl _ _ 22 rfl g 5 i0 1 Try.underlying22 hi hz1 g p.length T _ rfl HOJ.out ⟨World.heap _ |>.size, 0, none⟩ 1 1 [.int .u8 (Y : Int)] rfl rfl (lit_news _ _ _) (by intro u hu; simp at hu; subst hu; rfl) (by omega) ?_; intro w4 hown4 hgrow4)
                have hb4 : Grow w w4 := Below.grown (Below.alloc hbelz hbelz.size _) hgrow4 (by have := hbelz.size; simp; omega) (fun k hk => by cases hk; rw [HGQ.out]; exact Nat.le_refl _)
                have HO4 := Lib.hid hown4
                clear hown4 hgrow4
                go_wp2
                go_roundw
                case rel => exact ⟨k + 1, by omega, by go_num, p ++ [(Y : Int)], by rw [HPQ.out, HF.out], by simp, by rw [List.length_append, u8s_app]; exact HO4.out, hb4⟩
                case measure => simp [intOf]; omega
          · have e : k = ns.length := by omega
            subst e
            rw [List.take_length] at hq
            have hql : T = q.length := by rw [hq, List.length_append]; exact HT.out.symm
            have HW := Lib.hid (own_row (bs := q) rfl (by rw [hql] at hown; exact hown))
            have HQ := Lib.hid hq
            have HQL := Lib.hid hql
            clear hq hown hql
            go_wp2
            go_ret
            exact ⟨g, by rw [← HQ.out, HQL.out]; rfl, by rw [← HQ.out]; exact HW.out, hbel, by rw [HGQ.out]; exact Nat.le_refl _⟩
      | some ad =>
        have HNW := Lib.hid (nums_news (HR.out.below hb2))
        go_wp2_with (at_builtin; refine wpList_append_own_spare _ rfl _ _ 22 rfl g 5 i0 1 Try.underlying22 hi hz1 g 0 T _ rfl HO2.out ad bs.length cap (u8s bs) rfl (by rw [u8s_len]; omega) HNW.out (u8s_one bs) (by omega) ?_; intro w3 hown3 hgrow3)
        have hb3 : Grow w w3 := Below.grown hb2 hgrow3 hb2.size (fun k hk => by cases hk; rw [HGQ.out]; exact Nat.le_refl _)
        rw [Nat.zero_add, List.nil_append] at hown3
        have HO3 := Lib.hid hown3
        clear HO2 hmk hb2 HR HNW hgrow3 hown3
        go_wp2
        go_loopw [8, 30] (fun v i wq => ∃ k : Nat, k ≤ ns.length ∧ i = .int .i64 k ∧ ∃ q : List Int, q = bs ++ flat (ns.take k) ∧ v = .slice (some ⟨g, 0, none⟩) q.length T ∧ wq.ownsRow g 5 1 (.slice (some ⟨g, 0, none⟩) q.length T) q.length (u8s q) ∧ Grow w wq)
          (fun _ i _ => ns.length - (intOf i).toNat)
        case atStart => exact ⟨0, Nat.zero_le _, rfl, bs, by simp [flat_nil], rfl, HO3.out, hb3⟩
        case round =>
          obtain ⟨k, hk, rfl, q, hq, rfl, hown, hbel⟩ := hrel
          by_cases hlt : k < ns.length
          · obtain ⟨b, off, rfl, hb, hcl⟩ := HN.out (by omega)
            have hcell := (hbel.cell (p := ⟨b, off + k, none⟩) hb).trans (hcl k hlt)
            have hN := HU.out.at_ k
            have hfin : q ++ digs (ns.getD k 0).toNat = bs ++ flat (ns.take (k + 1)) := by rw [hq, flat_take ns k hlt, List.append_assoc]
            have hroom : (q ++ digs (ns.getD k 0).toNat).length ≤ T := by
              rw [hfin, List.length_append]
              have := flat_le ns (k + 1)
              have := HT.out
              omega
            clear hcl hq
            generalize ns.getD k 0 = x at *
            obtain ⟨X, rfl⟩ := Int.eq_ofNat_of_zero_le hN.1
            rw [Int.toNat_natCast] at hfin hroom
            have hX : X < 18446744073709551616 := by omega
            have HF := Lib.hid hfin
            have HM := Lib.hid hroom
            have HOQ := Lib.hid hown
            clear hfin hroom hown
            go_wp2
            go_loopw [8, 10] (fun v y wz => ∃ (p : List Int) (Y : Nat), v = .slice (some ⟨g, 0, none⟩) p.length T ∧ y = .int .u64 Y ∧ Y < 18446744073709551616 ∧ p ++ digs Y = q ++ digs X ∧ wz.ownsRow g 5 1 (.slice (some ⟨g, 0, none⟩) p.length T) p.length (u8s p) ∧ Grow w wz)
              (fun _ y _ => (intOf y).toNat)
            case atStart => exact ⟨q, X, rfl, rfl, hX, rfl, HOQ.out, hbel⟩
            case round =>
              obtain ⟨p, Y, rfl, rfl, hY, hpq, hown, hbelz⟩ := hrel
              have hpl : p.length + 1 ≤ T := by
                have h1 := HM.out
                rw [← hpq, List.length_append] at h1
                have := digs_pos Y
                omega
              by_cases h128 : 128 ≤ Y
              · rw [digs_hi h128] at hpq
                have hby : bits .or .u8 ((Y : Int) % 256) 128 = ((Y % 128 + 128 : Nat) : Int) := by
                  have h := u8_or_nat (Y % 256) 128 (by omega) (by decide)
                  rw [or7] at h
                  simpa using h
                generalize Y % 128 + 128 = D at *
                have HPQ := Lib.hid hpq
                have HOJ := Lib.hid (hown.alloc (.cells #[.int .u8 (D : Int)] 5))
                clear hpq hown
                go_wp2_with (at_builtin; refine wpList_append_own_spare _ rfl _ _ 22 rfl g 5 i0 1 Try.underlying22 hi hz1 g p.length T _ rfl HOJ.out ⟨World.heap _ |>.size, 0, none⟩ 1 1 [.int .u8 (D : Int)] rfl rfl (lit_news _ _ _) (by intro u hu; simp at hu; subst hu; rfl) (by omega) ?_; intro w4 hown4 hgrow4)
                have hb4 : Grow w w4 := Below.grown (Below.alloc hbelz hbelz.size _) hgrow4 (by have := hbelz.size; simp; omega) (fun k hk => by cases hk; rw [HGQ.out]; exact Nat.le_refl _)
                have HO4 := Lib.hid hown4
                clear hown4 hgrow4
                go_wp2
                go_roundw
                case rel => exact ⟨p ++ [(D : Int)], Y / 128, by simp, by simp, by omega, by rw [List.append_assoc]; exact HPQ.out, by rw [List.length_append, u8s_app]; exact HO4.out, hb4⟩
                case measure => simp [intOf]; omega
              · rw [digs_lo (by omega)] at hpq
                have HPQ := Lib.hid hpq
                have hmod : (Y : Int) % 256 = (Y : Int) := by omega
                have hwr : IntKind.u8.wrap (Y : Int) = (Y : Int) := by rw [IntKind.wrap_u8']; omega
                have HOJ := Lib.hid (hown.alloc (.cells #[.int .u8 (Y : Int)] 5))
                clear hpq hown
                go_wp2_with (at_builtin; refine wpList_append_own_spare _ rfl _ _ 22 rfl g 5 i0 1 Try.underlying22 hi hz1 g p.length T _ rfl HOJ.out ⟨World.heap _ |>.size, 0, none⟩ 1 1 [.int .u8 (Y : Int)] rfl rfl (lit_news _ _ _) (by intro u hu; simp at hu; subst hu; rfl) (by omega) ?_; intro w4 hown4 hgrow4)
                have hb4 : Grow w w4 := Below.grown (Below.alloc hbelz hbelz.size _) hgrow4 (by have := hbelz.size; simp; omega) (fun k hk => by cases hk; rw [HGQ.out]; exact Nat.le_refl _)
                have HO4 := Lib.hid hown4
                clear hown4 hgrow4
                go_wp2
                go_roundw
                case rel => exact ⟨k + 1, by omega, by go_num, p ++ [(Y : Int)], by rw [HPQ.out, HF.out], by simp, by rw [List.length_append, u8s_app]; exact HO4.out, hb4⟩
                case measure => simp [intOf]; omega
          · have e : k = ns.length := by omega
            subst e
            rw [List.take_length] at hq
            have hql : T = q.length := by rw [hq, List.length_append]; exact HT.out.symm
            have HW := Lib.hid (own_row (bs := q) rfl (by rw [hql] at hown; exact hown))
            have HQ := Lib.hid hq
            have HQL := Lib.hid hql
            clear hq hown hql
            go_wp2
            go_ret
            exact ⟨g, by rw [← HQ.out, HQL.out]; rfl, by rw [← HQ.out]; exact HW.out, hbel, by rw [HGQ.out]; exact Nat.le_refl _⟩

theorem put_any (A Al : Option Addr) (n m cap capl : Nat) (bs ns : List Int) (w : World) (hn : n = bs.length) (hm : m = ns.length) (hnl : n ≤ 100000000000000) (hml : m ≤ 10000000000000) (hu : U64 ns) (hc : A = none → cap = 0)
    (hr : Nums .u8 w w.heap.size A bs) (hrn : Nums .u64 w w.heap.size Al ns) : Calls Try.prog 14 #[.slice A n cap, .slice Al m capl] w (Sealed (bs ++ flat ns) w) :=
  (put_new A Al n m cap capl bs ns w hn hm hnl hml hu hc hr hrn).mono fun _ _ ⟨g, h1, h2, h3, _⟩ => ⟨g, h1, h2, h3⟩

/-- such a row may be appended to -/
theorem own_of_row {w : World} {g n base : Nat} {bs : List Int} (hn : n = bs.length) (hg : base ≤ g) (hm : n ≤ maxLen) (h : w.rowIs g 5 n fun i => .int .u8 (bs.getD i 0)) : w.ownsRow base 5 1 (.slice (some ⟨g, 0, none⟩) n n) n (u8s bs) := by
  obtain ⟨cur, hgg, hs, hc⟩ := h
  refine ⟨by rw [u8s_len]; omega, .inr ⟨g, n, cur, rfl, hg, hgg, Nat.le_refl _, hm, by omega, ?_⟩⟩
  apply List.ext_getElem?
  intro i
  rw [List.getElem?_take]
  by_cases hi : i < n
  · rw [if_pos (by omega), Array.getElem?_toList, hc i hi]
    simp [u8s, show i < bs.length by omega]
  · rw [if_neg (by omega), List.getElem?_eq_none (by rw [u8s_len]; omega)]
end Go.Proofs.Ytoapfegmipopkaa
