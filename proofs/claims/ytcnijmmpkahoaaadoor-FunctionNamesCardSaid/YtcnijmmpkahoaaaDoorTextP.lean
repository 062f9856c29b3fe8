/-
  What header.Text and the closure in it come to, called with any head. Nothing is claimed here by itself.
-/
import Derived.Test.YtcnijmmpkahoaaaDoorRightP
import Derived.Test.YtcnijmmpkahoaaaDoorCutsP
namespace Go.Proofs.YtcnijmmpkahoaaaDoor
open Go.RowKit Go.Lib
set_option linter.unusedSimpArgs false
set_option linter.unusedVariables false
set_option maxRecDepth 10000

/-- a builder holds q, no longer than m -/
def BldL (B b : Nat) (q : List UInt8) (m : Nat) (w : World) : Prop := Bld B b q w ∧ q.length ≤ m
theorem BldL.grow {B b : Nat} {q : List UInt8} {m : Nat} {w w' : World} (h : BldL B b q m w) (hg : Grow w w') : BldL B b q m w' := ⟨h.1.grow hg, h.2⟩
def Lays (B b : Nat) (q : List UInt8) (m : Nat) (w : World) (e : Ending) (w' : World) : Prop := (∃ x, e = .returned x) ∧ BldL B b q m w' ∧ Below B w w' ∧ B ≤ w'.heap.size

theorem put_any (B b : Nat) (q s : List UInt8) (m : Nat) (w : World) (h : BldL B b q m w) (hm : m ≤ 2000000000000) (hs : s.length ≤ 1100010) (hB : B ≤ w.heap.size) :
    Calls Tryd.prog 47 #[.pointer (some ⟨b, 0, none⟩), .string ⟨s.toArray⟩] w (Lays B b (q ++ s) (m + 1100010) w) := by
  have h2 := h.2
  refine (write_any B b q s w h.1 (by omega) hB).mono ?_
  rintro e w' ⟨h1, h3, h4⟩
  exact ⟨h1, ⟨h3, by rw [List.length_append]; omega⟩, h4, Nat.le_trans hB h4.size⟩

theorem lay_any (B b : Nat) (q a x c : List UInt8) (m : Nat) (w : World) (h : BldL B b q m w) (hm : m ≤ 2000000000000) (hac : a.length + c.length ≤ 10) (hx : x.length ≤ 1100000) (hB : B ≤ w.heap.size) :
    Calls Tryd.prog 46 #[.string ⟨a.toArray⟩, .string ⟨x.toArray⟩, .string ⟨c.toArray⟩, .pointer (some ⟨b, 0, none⟩)] w (Lays B b (q ++ partD a x c) (m + 1100010) w) := by
  by_cases h0 : x = []
  · have HE := Lib.hid (show q ++ partD a x c = q by unfold partD; rw [if_pos h0, List.append_nil])
    have HQ := Lib.hid (show Lays B b (q ++ partD a x c) (m + 1100010) w (.returned (.tuple #[])) w from ⟨⟨_, rfl⟩, ⟨by rw [HE.out]; exact h.1, by rw [HE.out]; have := h.2; omega⟩, Below.refl _ _, hB⟩)
    subst h0
    clear h hm hac hx hB HE
    go_enter Tryd.func46, Tryd.ntmps46
    go_wp2
    go_end0
    exact HQ.out
  · have hxb : (x == []) = false := beq_eq_false_iff_ne.2 h0
    have HE := Lib.hid (show partD a x c = a ++ x ++ c by unfold partD; rw [if_neg h0])
    have hl1 : ¬ 140737488355327 < a.length + x.length := by omega
    have hl2 : ¬ 140737488355327 < (a ++ x).length + c.length := by rw [List.length_append]; omega
    have ha1 := str_app a x
    have ha2 := str_app (a ++ x) c
    have HP := Lib.hid (put_any B b q (a ++ x ++ c) m w h hm (by rw [List.length_append, List.length_append]; omega) hB)
    rw [← HE.out] at HP ha2
    clear h hm hac hx hB h0
    go_enter Tryd.func46, Tryd.ntmps46
    go_wp2_with fail
    refine (HP.out).mono ?_
    rintro e w1 ⟨⟨v, rfl⟩, hb, hbl, hsz⟩
    have HQ := Lib.hid (show Lays B b (q ++ partD a x c) (m + 1100010) w (.returned (.tuple #[])) w1 from ⟨⟨_, rfl⟩, hb, hbl, hsz⟩)
    clear hb hbl hsz
    go_wp2
    go_end0
    exact HQ.out

theorem part_id (x : List UInt8) : partD [] x [] = x := by
  unfold partD
  split
  · rename_i h; exact h.symm
  · simp
theorem loc_app (a b : List (List UInt8)) : locT (a ++ b) = locT a ++ locT b := by
  induction a with
  | nil => rfl
  | cons x a ih => simp only [List.cons_append, locT, ih, List.append_assoc]
theorem loc_step {ls : List (List UInt8)} {k : Nat} (h : k < ls.length) : locT (ls.take (k + 1)) = locT (ls.take k) ++ partD [59] (ls.getD k []) [] := by
  rw [List.take_add_one, loc_app]
  congr 1
  rw [List.getElem?_eq_getElem h]
  simp [locT, List.getD, h]

theorem BoxH.below {w w' : World} {b B : Nat} {h : Hd} {A : Option Addr} {n c : Nat} (k : BoxH w b h A n c) (hg : Below B w w') (hb : b < B) : BoxH w' b h A n c := (hg.block b hb).trans k
/-- the world while a text is written -/
structure TextAt (w W : World) (B nb : Nat) (h : Hd) (A : Option Addr) (n c : Nat) : Prop where
  box : BoxH W nb h A n c
  strs : Strs W B A h.locs
  grow : Grow w W
  size : B ≤ W.heap.size
  lt : nb < B
  le : w.heap.size ≤ B
theorem TextAt.step {w W W' : World} {B nb : Nat} {h : Hd} {A : Option Addr} {n c : Nat} (k : TextAt w W B nb h A n c) (hb : Below B W W') (hs : B ≤ W'.heap.size) : TextAt w W' B nb h A n c :=
  ⟨k.box.below hb k.lt, k.strs.below hb, Below.trans k.grow (Below.mono hb k.le), hs, k.lt, k.le⟩

def Gave (s : List UInt8) (w : World) (e : Ending) (w' : World) : Prop := e = .returned (.string ⟨s.toArray⟩) ∧ Grow w w'

set_option maxHeartbeats 6400000 in
theorem ptext_any (h : Hd) (A : Option Addr) (n c : Nat) (w : World) (k : HdIn w A n c h) :
    Calls Tryd.prog 27 #[hdV h A n c] w (Gave (headD h) w) := by
  obtain ⟨l1, l2, l3, l4, l5, l6, l7⟩ := k.parts
  have htop := k.top
  have HLN := Lib.hid k.len
  have HBX := Lib.hid (boxH_new w h A n c)
  have hg1 := grow_new w (.cells #[.string ⟨h.res.toArray⟩, .string ⟨h.left.toArray⟩, .string ⟨h.name.toArray⟩, .string ⟨h.right.toArray⟩, .string ⟨h.f.toArray⟩, .string ⟨h.g.toArray⟩, .slice A n c] 33)
  have HG1 := Lib.hid hg1
  have HK := Lib.hid (k.grow hg1)
  obtain ⟨nb, hnb⟩ : ∃ nb, w.heap.size = nb := ⟨_, rfl⟩
  have HNB := Lib.hid hnb
  rw [hnb] at HBX
  unfold hdV strv
  clear k hnb hg1
  go_enter Tryd.func27, Tryd.ntmps27
  go_upto_region 1 with fail
  rw [HNB.out]
  generalize w.alloc (.cells #[.string ⟨h.res.toArray⟩, .string ⟨h.left.toArray⟩, .string ⟨h.name.toArray⟩, .string ⟨h.right.toArray⟩, .string ⟨h.f.toArray⟩, .string ⟨h.g.toArray⟩, .slice A n c] 33) = w1 at HBX HG1 HK ⊢
  have b0 := HBX.out.at0
  have b1 := HBX.out.at1
  have b2 := HBX.out.at2
  have b3 := HBX.out.at3
  have b4 := HBX.out.at4
  have b5 := HBX.out.at5
  have b6 := HBX.out.at6
  have hc := pright_any h A n c w1 HK.out
  unfold hdV strv at hc
  obtain ⟨α, hα⟩ : ∃ α, rightH h = α := ⟨_, rfl⟩
  rw [hα] at hc
  have HC := Lib.hid hc
  have HA := Lib.hid hα
  clear hc hα
  cases α with
  | false =>
    have HF := Lib.hid (head_wrong HA.out)
    go_wp2_with fail
    refine (HC.out).mono ?_
    rintro e w2 ⟨rfl, hg⟩
    have HG2 := Lib.hid (HG1.out.trans hg)
    clear hg
    go_wp2
    go_ret
    exact ⟨by rw [HF.out]; rfl, HG2.out⟩
  | true =>
    have HF := Lib.hid (head_right HA.out)
    have HNE := Lib.hid (text_ne HA.out)
    go_wp2_with fail
    refine (HC.out).mono ?_
    rintro e w2 ⟨rfl, hg⟩
    obtain ⟨B, hB⟩ : ∃ B, w2.heap.size = B := ⟨_, rfl⟩
    have hgn := grow_new w2 (.cells #[.pointer none, .slice none 0 0] 57)
    have hbn := bld_new w2
    have hst := HK.out.strs.grow hg
    have hbx := HBX.out.grow hg
    have hlt := hbx.lt
    have hwB : w.heap.size ≤ B := by rw [← hB]; exact Nat.le_trans HG1.out.size hg.size
    rw [hB] at hbn hst hlt
    have HT3 : Hid (TextAt w (w2.alloc (.cells #[.pointer none, .slice none 0 0] 57)) B nb h A n c) := Lib.hid ⟨hbx.grow hgn, hst.below (Below.mono hgn (by rw [hB]; exact Nat.le_refl _)), (HG1.out.trans hg).trans hgn, by rw [← hB]; exact hgn.size, hlt, hwB⟩
    have HQ3 : Hid (BldL B B [] 0 (w2.alloc (.cells #[.pointer none, .slice none 0 0] 57))) := Lib.hid ⟨hbn, Nat.le_refl _⟩
    have HBE := Lib.hid hB
    clear hg hgn hbn hst hbx hlt hwB hB b0 b1 b2 b3 b4 b5 b6 HC HK HBX
    go_upto_region 5 with fail
    rw [HBE.out]
    generalize w2.alloc (.cells #[.pointer none, .slice none 0 0] 57) = w3 at HT3 HQ3 ⊢
    obtain ⟨q3, HE3⟩ : ∃ q : List UInt8, Hid (q = []) := ⟨_, Lib.hid rfl⟩
    rw [← HE3.out] at HQ3
    have c0 := HT3.out.box.at0
    have HL := Lib.hid (lay_any B B q3 [] h.res [226, 134, 144] 0 w3 HQ3.out (by omega) (by decide) l1 HT3.out.size)
    go_wp2_with fail
    go_at_call 46
    refine (HL.out).mono ?_
    rintro e w4 ⟨⟨v4, rfl⟩, hq, hbl, hsz⟩
    obtain ⟨q4, HE4⟩ : ∃ q, Hid (q = q3 ++ partD [] h.res [226, 134, 144]) := ⟨_, Lib.hid rfl⟩
    rw [← HE4.out] at hq
    have HQ4 := Lib.hid hq
    have HT4 := Lib.hid (HT3.out.step hbl hsz)
    clear hq hbl hsz c0 HL HQ3 HT3
    have c1 := HT4.out.box.at1
    have HL := Lib.hid (lay_any B B q4 [] h.left [32] 1100010 w4 HQ4.out (by omega) (by decide) l2 HT4.out.size)
    go_wp2_with fail
    go_at_call 46
    refine (HL.out).mono ?_
    rintro e w5 ⟨⟨v5, rfl⟩, hq, hbl, hsz⟩
    obtain ⟨q5, HE5⟩ : ∃ q, Hid (q = q4 ++ partD [] h.left [32]) := ⟨_, Lib.hid rfl⟩
    rw [← HE5.out] at hq
    have HQ5 := Lib.hid hq
    have HT5 := Lib.hid (HT4.out.step hbl hsz)
    clear hq hbl hsz c1 HL HQ4 HT4
    have c4 := HT5.out.box.at4
    have HL := Lib.hid (lay_any B B q5 [40] h.f [32] 2200020 w5 HQ5.out (by omega) (by decide) l5 HT5.out.size)
    go_wp2_with fail
    go_at_call 46
    refine (HL.out).mono ?_
    rintro e w6 ⟨⟨v6, rfl⟩, hq, hbl, hsz⟩
    obtain ⟨q6, HE6⟩ : ∃ q, Hid (q = q5 ++ partD [40] h.f [32]) := ⟨_, Lib.hid rfl⟩
    rw [← HE6.out] at hq
    have HQ6 := Lib.hid hq
    have HT6 := Lib.hid (HT5.out.step hbl hsz)
    clear hq hbl hsz c4 HL HQ5 HT5
    have c2 := HT6.out.box.at2
    have HL := Lib.hid (lay_any B B q6 [] h.name [] 3300030 w6 HQ6.out (by omega) (by decide) l3 HT6.out.size)
    go_wp2_with fail
    go_at_call 46
    refine (HL.out).mono ?_
    rintro e w7 ⟨⟨v7, rfl⟩, hq, hbl, hsz⟩
    obtain ⟨q7, HE7⟩ : ∃ q, Hid (q = q6 ++ partD [] h.name []) := ⟨_, Lib.hid rfl⟩
    rw [← HE7.out] at hq
    have HQ7 := Lib.hid hq
    have HT7 := Lib.hid (HT6.out.step hbl hsz)
    clear hq hbl hsz c2 HL HQ6 HT6
    have c5 := HT7.out.box.at5
    have HL := Lib.hid (lay_any B B q7 [32] h.g [] 4400040 w7 HQ7.out (by omega) (by decide) l6 HT7.out.size)
    go_wp2_with fail
    go_at_call 46
    refine (HL.out).mono ?_
    rintro e w8 ⟨⟨v8, rfl⟩, hq, hbl, hsz⟩
    obtain ⟨q8, HE8⟩ : ∃ q, Hid (q = q7 ++ partD [32] h.g []) := ⟨_, Lib.hid rfl⟩
    rw [← HE8.out] at hq
    have HQ8 := Lib.hid hq
    have HT8 := Lib.hid (HT7.out.step hbl hsz)
    clear hq hbl hsz c5 HL HQ7 HT7
    have c4 := HT8.out.box.at4
    by_cases h0 : h.f = []
    · have t4 : (h.f == []) = true := by rw [h0]; rfl
      obtain ⟨q9, HE9⟩ : ∃ q, Hid (q = q8 ++ []) := ⟨_, Lib.hid rfl⟩
      have HQ9 : Hid (BldL B B q9 6600060 w8) := Lib.hid ⟨by rw [HE9.out, List.append_nil]; exact HQ8.out.1, by rw [HE9.out, List.append_nil]; have := HQ8.out.2; omega⟩
      have HT9 := HT8
      have HF0 := Lib.hid h0
      clear HQ8 HT8 h0
      have c3 := HT9.out.box.at3
      have HL := Lib.hid (lay_any B B q9 [32] h.right [] 6600060 w8 HQ9.out (by omega) (by decide) l4 HT9.out.size)
      go_wp2_with fail
      go_at_call 46
      refine (HL.out).mono ?_
      rintro e w10 ⟨⟨v10, rfl⟩, hq, hbl, hsz⟩
      obtain ⟨q10, HE10⟩ : ∃ q, Hid (q = q9 ++ partD [32] h.right []) := ⟨_, Lib.hid rfl⟩
      rw [← HE10.out] at hq
      have HQ10 := Lib.hid hq
      have HT10 := Lib.hid (HT9.out.step hbl hsz)
      clear hq hbl hsz c3 HL HQ9 HT9
      have HFR := Lib.hid (show q10 = frontT h from by rw [HE10.out, HE9.out, HE8.out, HE7.out, HE6.out, HE5.out, HE4.out, HE3.out, part_id]; unfold frontT; rw [if_pos HF0.out]; simp only [List.nil_append]; rfl)
      rw [HFR.out] at HQ10
      clear HE3 HE4 HE5 HE6 HE7 HE8 HE9 HE10 HFR
      have c6 := HT10.out.box.at6
      go_wp2
      go_loopg [42] n (fun g s42 wr => ∃ (k : Nat) (q : List UInt8), k ≤ n ∧ g = n - k ∧ s42 = .int .i64 k ∧ Hid (q = frontT h ++ locT (h.locs.take k)) ∧ Hid (BldL B B q (7700070 + k * 1100010) wr) ∧ Hid (TextAt w wr B nb h A n c))
      case atStart => exact ⟨0, frontT h, Nat.zero_le _, rfl, rfl, Lib.hid (by simp [locT]), HQ10, HT10⟩
      case round =>
        obtain ⟨k, q, hk, rfl, rfl, HQE, HQ, HT⟩ := hrel
        by_cases hlt : k < n
        · have hkl : k < h.locs.length := by rw [HLN.out]; exact hlt
          obtain ⟨b, off, rfl, hb, hcl⟩ := HT.out.strs (by omega)
          have hc := hcl k hkl
          have HST := Lib.hid (loc_step hkl)
          have hxl := getD_len l7 k
          have hm : 7700070 + k * 1100010 ≤ 2000000000000 := by
            have : k * 1100010 ≤ 1050000 * 1100010 := Nat.mul_le_mul (by omega) (Nat.le_refl _)
            omega
          clear hcl hkl
          generalize h.locs.getD k [] = x at hc HST hxl
          have HL := Lib.hid (lay_any B B q [59] x [] (7700070 + k * 1100010) wr HQ.out hm (by decide) hxl HT.out.size)
          clear hm hxl
          go_wp2_with fail
          go_at_call 46
          refine (HL.out).mono ?_
          rintro e w11 ⟨⟨v11, rfl⟩, hq, hbl, hsz⟩
          have HQ2 := Lib.hid (show BldL B B (q ++ partD [59] x []) (7700070 + (k + 1) * 1100010) w11 from ⟨hq.1, by have := hq.2; omega⟩)
          have HQ2E := Lib.hid (show q ++ partD [59] x [] = frontT h ++ locT (h.locs.take (k + 1)) by rw [HST.out, HQE.out, List.append_assoc])
          have HT2 := Lib.hid (HT.out.step hbl hsz)
          clear hq hbl hsz
          go_wp2
          go_roundg (n - (k + 1))
          case rel => exact ⟨k + 1, _, by omega, rfl, by go_num, HQ2E, HQ2, HT2⟩
          case measure => omega
        · obtain rfl : n = k := by omega
          have HQT := Lib.hid (show q = textH h by rw [HQE.out, List.take_of_length_le (by rw [HLN.out]; exact Nat.le_refl _)]; rfl)
          have HS := Lib.hid (build_any B B q wr HQ.out.1 (by rw [HQT.out]; exact HNE.out))
          go_wp2_with fail
          refine (HS.out).mono ?_
          rintro e w12 ⟨rfl, hbl⟩
          have HG := Lib.hid (show Grow w w12 from Below.trans HT.out.grow (Below.mono hbl HT.out.le))
          clear hbl
          go_wp2
          go_ret
          exact ⟨by rw [HF.out, ← HQT.out]; rfl, HG.out⟩
    · have t4 : (h.f == []) = false := beq_eq_false_iff_ne.2 h0
      have HF0 := Lib.hid h0
      have HL := Lib.hid (put_any B B q8 [41] 5500050 w8 HQ8.out (by omega) (by decide) HT8.out.size)
      clear h0
      go_wp2_with fail
      refine (HL.out).mono ?_
      rintro e w9 ⟨⟨v9, rfl⟩, hq, hbl, hsz⟩
      obtain ⟨q9, HE9⟩ : ∃ q, Hid (q = q8 ++ [41]) := ⟨_, Lib.hid rfl⟩
      rw [← HE9.out] at hq
      have HQ9 := Lib.hid hq
      have HT9 := Lib.hid (HT8.out.step hbl hsz)
      clear hq hbl hsz c4 HL HQ8 HT8
      have c3 := HT9.out.box.at3
      have HL := Lib.hid (lay_any B B q9 [32] h.right [] 6600060 w9 HQ9.out (by omega) (by decide) l4 HT9.out.size)
      go_wp2_with fail
      go_at_call 46
      refine (HL.out).mono ?_
      rintro e w10 ⟨⟨v10, rfl⟩, hq, hbl, hsz⟩
      obtain ⟨q10, HE10⟩ : ∃ q, Hid (q = q9 ++ partD [32] h.right []) := ⟨_, Lib.hid rfl⟩
      rw [← HE10.out] at hq
      have HQ10 := Lib.hid hq
      have HT10 := Lib.hid (HT9.out.step hbl hsz)
      clear hq hbl hsz c3 HL HQ9 HT9
      have HFR := Lib.hid (show q10 = frontT h from by rw [HE10.out, HE9.out, HE8.out, HE7.out, HE6.out, HE5.out, HE4.out, HE3.out, part_id]; unfold frontT; rw [if_neg HF0.out]; simp only [List.nil_append]; rfl)
      rw [HFR.out] at HQ10
      clear HE3 HE4 HE5 HE6 HE7 HE8 HE9 HE10 HFR
      have c6 := HT10.out.box.at6
      go_wp2
      go_loopg [42] n (fun g s42 wr => ∃ (k : Nat) (q : List UInt8), k ≤ n ∧ g = n - k ∧ s42 = .int .i64 k ∧ Hid (q = frontT h ++ locT (h.locs.take k)) ∧ Hid (BldL B B q (7700070 + k * 1100010) wr) ∧ Hid (TextAt w wr B nb h A n c))
      case atStart => exact ⟨0, frontT h, Nat.zero_le _, rfl, rfl, Lib.hid (by simp [locT]), HQ10, HT10⟩
      case round =>
        obtain ⟨k, q, hk, rfl, rfl, HQE, HQ, HT⟩ := hrel
        by_cases hlt : k < n
        · have hkl : k < h.locs.length := by rw [HLN.out]; exact hlt
          obtain ⟨b, off, rfl, hb, hcl⟩ := HT.out.strs (by omega)
          have hc := hcl k hkl
          have HST := Lib.hid (loc_step hkl)
          have hxl := getD_len l7 k
          have hm : 7700070 + k * 1100010 ≤ 2000000000000 := by
            have : k * 1100010 ≤ 1050000 * 1100010 := Nat.mul_le_mul (by omega) (Nat.le_refl _)
            omega
          clear hcl hkl
          generalize h.locs.getD k [] = x at hc HST hxl
          have HL := Lib.hid (lay_any B B q [59] x [] (7700070 + k * 1100010) wr HQ.out hm (by decide) hxl HT.out.size)
          clear hm hxl
          go_wp2_with fail
          go_at_call 46
          refine (HL.out).mono ?_
          rintro e w11 ⟨⟨v11, rfl⟩, hq, hbl, hsz⟩
          have HQ2 := Lib.hid (show BldL B B (q ++ partD [59] x []) (7700070 + (k + 1) * 1100010) w11 from ⟨hq.1, by have := hq.2; omega⟩)
          have HQ2E := Lib.hid (show q ++ partD [59] x [] = frontT h ++ locT (h.locs.take (k + 1)) by rw [HST.out, HQE.out, List.append_assoc])
          have HT2 := Lib.hid (HT.out.step hbl hsz)
          clear hq hbl hsz
          go_wp2
          go_roundg (n - (k + 1))
          case rel => exact ⟨k + 1, _, by omega, rfl, by go_num, HQ2E, HQ2, HT2⟩
          case measure => omega
        · obtain rfl : n = k := by omega
          have HQT := Lib.hid (show q = textH h by rw [HQE.out, List.take_of_length_le (by rw [HLN.out]; exact Nat.le_refl _)]; rfl)
          have HS := Lib.hid (build_any B B q wr HQ.out.1 (by rw [HQT.out]; exact HNE.out))
          go_wp2_with fail
          refine (HS.out).mono ?_
          rintro e w12 ⟨rfl, hbl⟩
          have HG := Lib.hid (show Grow w w12 from Below.trans HT.out.grow (Below.mono hbl HT.out.le))
          clear hbl
          go_wp2
          go_ret
          exact ⟨by rw [HF.out, ← HQT.out]; rfl, HG.out⟩
end Go.Proofs.YtcnijmmpkahoaaaDoor
