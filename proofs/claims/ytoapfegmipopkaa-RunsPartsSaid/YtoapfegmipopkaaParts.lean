/-
  The law RunsParts at every input.
-/
import Derived.Test.YtoapfegmipopkaaGrows
import Derived.Test.YtoapfegmipopkaaPartsMath
import Derived.Maps.AppendAt
import Derived.Deep.DeepCutAuto
namespace Go.Proofs.Ytoapfegmipopkaa
open Go.RowKit

theorem wpList_append_at {ops : Array Oper} {rest : List Oper} {o : Oper} {a : Act} {w : World} {Q : Exit → Act → World → Prop} (hgd : o.guard = none) (s x : Operand)
    (ho : o.op = .call { callee := .builtin .append, args := #[s, x], argTypes := #[22, 22] }) (base : Nat) (v : Value) (n m c : Nat) (q p : List Int) (A : Option Addr) (B : Nat)
    (hs : a.eval s = v) (hown : w.ownsRow base 5 1 v n (u8s q)) (hx : a.eval x = .slice A m c) (hm : m = p.length) (hc : A = none → c = 0) (hr : Nums .u8 w B A p) (hb : n + m ≤ 140737488355328) (hbase : base ≤ w.heap.size)
    (h : ∀ v' w', w'.ownsRow base 5 1 v' (n + m) (u8s (q ++ p)) → Kept (fun k => v.ownBlock = some k) w w' → (v'.ownBlock = v.ownBlock ∨ v'.ownBlock = some w.heap.size) → wpList Try.prog ops Q rest (a.put o.dst v') w') : wpList Try.prog ops Q (o :: rest) a w := by
  obtain ⟨i0, hi, hz0, hz1, hz2⟩ := info_parts info5
  cases A with
  | none =>
    have hp := nil_of_none hr
    have hc0 := hc rfl
    subst hp hm hc0
    refine wpList_append_own_none hgd s x 22 ho base 5 i0 1 Try.underlying22 hi v n (u8s q) hs hown hx (h v w ?_ (Kept.refl _ _) (.inl rfl))
    rw [List.append_nil]
    exact hown
  | some ad =>
    subst hm
    refine wpList_append_own_at w hgd s x 22 ho base 5 i0 (.int .u8 0) 1 1 Try.underlying22 hi hz0 hz1 hz2 rfl (by decide) v n (u8s q) hs hown ad p.length c (u8s p) hx (by rw [u8s_len]; omega) (nums_news hr) (u8s_one p) (by unfold maxLen; omega) (by omega) hbase ?_
    intro v' w' hown' hgrow _ hat
    exact h v' w' (by rw [u8s_app]; exact hown') ⟨hgrow.os, hgrow.tape, hgrow.output, hgrow.size, fun k hk hne => hgrow.block k hk (fun e => hne e.symm)⟩ hat

/-- the law goes on -/
def Goes (n1 n2 : Nat) (x C : Int) (ys bs : List Int) : Prop := n1 ≤ 500 ∧ n2 ≤ 500 ∧ 3 ≤ x ∧ x ≤ 500 ∧ (n1 = 0 ∨ ys.getD (n1 - 1) 0 ≠ C) ∧ (n2 = 0 ∨ bs.getD 0 0 ≠ C)

theorem last_of {ys : List Int} {n : Nat} {C : Int} (h : ys.length = n) (hl : n = 0 ∨ ys.getD (n - 1) 0 ≠ C) : ys.getLast? ≠ some C := by
  by_cases e : ys = []
  · subst e; simp
  · have hp := List.length_pos_iff.2 e
    rcases hl with h0 | h0
    · omega
    · rw [List.getLast?_eq_getElem?, h]
      intro hx
      apply h0
      simp [hx]
theorem head_of {bs : List Int} {n : Nat} {C : Int} (h : bs.length = n) (hl : n = 0 ∨ bs.getD 0 0 ≠ C) : bs.head? ≠ some C := by
  cases bs with
  | nil => simp
  | cons b t =>
    rcases hl with h0 | h0
    · simp at h; omega
    · simpa using h0

set_option linter.unusedSimpArgs false
set_option maxRecDepth 10000 in
set_option maxHeartbeats 3200000 in
theorem parts_walk (A1 A2 : Option Addr) (n1 n2 c1 c2 : Nat) (ys bs : List Int) (C x : Int) (w : World) (hC0 : 0 ≤ C) (hC1 : C < 256) (h1 : ys.length = n1) (h2 : bs.length = n2) (hn1 : n1 ≤ 9223372036854775807) (hn2 : n2 ≤ 9223372036854775807)
    (hl1 : n1 ≤ c1) (hl2 : n2 ≤ c2) (hc1 : A1 = none → c1 = 0) (hc2 : A2 = none → c2 = 0) (b1 : Byt ys) (b2 : Byt bs) (r1 : Nums .u8 w w.heap.size A1 ys) (r2 : Nums .u8 w w.heap.size A2 bs) :
    Calls Try.prog 7 #[.slice A1 n1 c1, .int .u8 C, .int .i64 x, .slice A2 n2 c2] w (Fine w) := by
  have HS := Lib.hid (small_any w)
  have HR1 := Lib.hid r1
  have HR2 := Lib.hid r2
  have HN1 := Lib.hid h1
  have HN2 := Lib.hid h2
  have HB1 := Lib.hid b1
  have HB2 := Lib.hid b2
  clear h1 h2 b1 b2 r1 r2
  have : Decidable (Goes n1 n2 x C ys bs) := Classical.propDecidable _
  obtain ⟨β, hβ⟩ : ∃ β : Bool, β = decide (¬ Goes n1 n2 x C ys bs) := ⟨_, rfl⟩
  have HT : Hid ((β = true ↔ ¬ Goes n1 n2 x C ys bs)) := by rw [hβ]; exact Lib.hid (by simp)
  clear hβ this
  go_enter Try.func7, Try.ntmps7
  go_wp2_with fail
  refine (HS.out).mono ?_
  rintro e w1 ⟨rfl, hb1⟩
  have HG1 := Lib.hid hb1
  clear hb1
  go_upto_region 2 with fail
  go_cut [57] from 15 to 57 (fun z wx => z = .bool β ∧ w1 = wx)
  case first =>
    have HF : Hid (¬ Goes n1 n2 x C ys bs → Value.bool true = .bool β) := Lib.hid fun h => by rw [HT.out.2 h]
    have HFF : Hid (Goes n1 n2 x C ys bs → Value.bool false = .bool β) := Lib.hid fun h => by
      have : β ≠ true := fun e => HT.out.1 e h
      simp at this
      rw [this]
    by_cases g1 : 500 < n1
    · go_wp2
      go_meet
      case rel => exact ⟨HF.out (fun h => by have := h.1; omega), rfl⟩
    · have g1' : n1 ≤ 500 := by omega
      by_cases g2 : 500 < n2
      · go_wp2
        go_meet
        case rel => exact ⟨HF.out (fun h => by have := h.2.1; omega), rfl⟩
      · have g2' : n2 ≤ 500 := by omega
        by_cases g3 : x < 3
        · go_wp2
          go_meet
          case rel => exact ⟨HF.out (fun h => by have := h.2.2.1; omega), rfl⟩
        · have g3' : 3 ≤ x := by omega
          by_cases g4 : 500 < x
          · go_wp2
            go_meet
            case rel => exact ⟨HF.out (fun h => by have := h.2.2.2.1; omega), rfl⟩
          · have g4' : x ≤ 500 := by omega
            clear g1 g2 g3 g4 hn1 hn2
            by_cases g5 : n1 = 0
            · subst g5
              by_cases g6 : n2 = 0
              · subst g6
                go_wp2
                go_meet
                case rel => exact ⟨by rw [← HFF.out ⟨by omega, by omega, g3', g4', .inl rfl, .inl rfl⟩]; simp; omega, rfl⟩
              · have g6' : 0 < n2 := by omega
                obtain ⟨o2, f2, rfl, _, hk2⟩ := HR2.out.grow HG1.out (by rw [HN2.out]; exact g6')
                have hcell2 := hk2 0 (by rw [HN2.out]; exact g6')
                rw [Nat.add_zero] at hcell2
                clear hk2
                by_cases g7 : bs.getD 0 0 = C
                · rw [g7] at hcell2
                  go_wp2
                  go_meet
                  case rel => exact ⟨HF.out (fun h => h.2.2.2.2.2.elim (fun e => by omega) (fun e => e g7)), rfl⟩
                · have HY := Lib.hid (HFF.out ⟨by omega, by omega, g3', g4', .inl rfl, .inr g7⟩)
                  generalize bs.getD 0 0 = y2 at *
                  have g7' : (y2 == C) = false := by simpa using g7
                  go_wp2
                  go_meet
                  case rel => exact ⟨by rw [← HY.out]; simp; omega, rfl⟩
            · have g5' : 0 < n1 := by omega
              obtain ⟨o1, f1, rfl, _, hk1⟩ := HR1.out.grow HG1.out (by rw [HN1.out]; exact g5')
              have hcell1 := hk1 (n1 - 1) (by rw [HN1.out]; omega)
              clear hk1
              by_cases g8 : ys.getD (n1 - 1) 0 = C
              · rw [g8] at hcell1
                have HY := Lib.hid (HF.out (fun h => h.2.2.2.2.1.elim (fun e => by omega) (fun e => e g8)))
                go_wp2
                go_meet
                case rel => exact ⟨HY.out, rfl⟩
              · by_cases g6 : n2 = 0
                · subst g6
                  have HY := Lib.hid (HFF.out ⟨by omega, by omega, g3', g4', .inr g8, .inl rfl⟩)
                  generalize ys.getD (n1 - 1) 0 = y1 at *
                  have g8' : (y1 == C) = false := by simpa using g8
                  go_wp2
                  go_meet
                  case rel => exact ⟨by rw [← HY.out]; simp; omega, rfl⟩
                · have g6' : 0 < n2 := by omega
                  obtain ⟨o2, f2, rfl, _, hk2⟩ := HR2.out.grow HG1.out (by rw [HN2.out]; exact g6')
                  have hcell2 := hk2 0 (by rw [HN2.out]; exact g6')
                  rw [Nat.add_zero] at hcell2
                  clear hk2
                  by_cases g7 : bs.getD 0 0 = C
                  · have HY := Lib.hid (HF.out (fun h => h.2.2.2.2.2.elim (fun e => by omega) (fun e => e g7)))
                    rw [g7] at hcell2
                    generalize ys.getD (n1 - 1) 0 = y1 at *
                    have g8' : (y1 == C) = false := by simpa using g8
                    go_wp2
                    go_meet
                    case rel => exact ⟨HY.out, rfl⟩
                  · have HY := Lib.hid (HFF.out ⟨by omega, by omega, g3', g4', .inr g8, .inr g7⟩)
                    generalize ys.getD (n1 - 1) 0 = y1 at *
                    generalize bs.getD 0 0 = y2 at *
                    have g8' : (y1 == C) = false := by simpa using g8
                    have g7' : (y2 == C) = false := by simpa using g7
                    go_wp2
                    go_meet
                    case rel => exact ⟨by rw [← HY.out]; simp; omega, rfl⟩
  case rest =>
    obtain ⟨rfl, rfl⟩ := hcut
    by_cases hgo : Goes n1 n2 x C ys bs
    · have hβ : β = false := by
        cases β with
        | false => rfl
        | true => exact absurd hgo (HT.out.1 rfl)
      subst hβ
      have g1 := hgo.1
      have g2 := hgo.2.1
      have g3 := hgo.2.2.1
      have g4 := hgo.2.2.2.1
      obtain ⟨N, rfl⟩ := Int.eq_ofNat_of_zero_le (show 0 ≤ x by omega)
      obtain ⟨M, hM⟩ : ∃ M, N = M + 3 := ⟨N - 3, by omega⟩
      have hNl : N ≤ 500 := by omega
      have HP := Lib.hid (show enc (ys ++ List.replicate N C ++ bs) = enc ys ++ enc (List.replicate N C) ++ enc bs by
        have h := enc_parts C M bs (head_of HN2.out hgo.2.2.2.2.2) _ ys (Nat.le_refl _) (last_of HN1.out hgo.2.2.2.2.1)
        rw [hM, List.append_assoc, h, enc_like, List.append_assoc, List.append_assoc]
        rfl)
      have HCB := Lib.hid (show Byt (List.replicate N C) from fun y hy => by rw [List.eq_of_mem_replicate hy]; exact ⟨hC0, hC1⟩)
      obtain ⟨E1, hE1⟩ : ∃ E1, (enc ys).length = E1 := ⟨_, rfl⟩
      obtain ⟨E2, hE2⟩ : ∃ E2, (enc (List.replicate N C)).length = E2 := ⟨_, rfl⟩
      obtain ⟨E3, hE3⟩ : ∃ E3, (enc bs).length = E3 := ⟨_, rfl⟩
      have l1 : E1 ≤ 5500 := by have := enc_len _ ys (Nat.le_refl _) (by rw [HN1.out]; omega); rw [hE1, HN1.out] at this; omega
      have l2 : E2 ≤ 5500 := by have := enc_len _ (List.replicate N C) (Nat.le_refl _) (by simp; omega); rw [hE2, List.length_replicate] at this; omega
      have l3 : E3 ≤ 5500 := by have := enc_len _ bs (Nat.le_refl _) (by rw [HN2.out]; omega); rw [hE3, HN2.out] at this; omega
      have HE1 := Lib.hid hE1
      have HE2 := Lib.hid hE2
      have HE3 := Lib.hid hE3
      have HO0 := Lib.hid (own_empty w1)
      have HG1' := Lib.hid (HG1.out.trans (grow_new w1 (.cells #[] 5)))
      clear hgo hM hE1 hE2 hE3 hn1 hn2
      go_upto_region 5 with (at_builtin; refine wpList_append_at rfl _ _ rfl w1.heap.size _ 0 n1 c1 [] ys A1 _ rfl HO0.out rfl HN1.out.symm hc1 (HR1.out.grow HG1'.out) (by omega) (by simp) ?_; intro v2 w2 hown2 hb2 hat2)
      rw [Nat.zero_add, List.nil_append] at hown2
      have hk2 : Grow w1 w2 := Kept.grow (grow_new w1 (.cells #[] 5)) hb2 (fun k e => by cases e; exact Nat.le_refl _)
      have HG2 := Lib.hid (HG1.out.trans hk2)
      have HW12 := Lib.hid hk2.size
      have HO2 := Lib.hid hown2
      have HV2 := Lib.hid (show ∀ k, v2.ownBlock = some k → k < w2.heap.size from fun k e => (hown2.lt k e).2)
      clear hown2 hb2 hat2 hk2
      go_wp2_with fail
      go_loopg [11, 12] N (fun gk s11 s12 wr => ∃ (k : Nat) (v : Value), k ≤ N ∧ gk = N - k ∧ v = s11 ∧ s12 = .int .i64 k ∧ wr.ownsRow w2.heap.size 5 1 v k (u8s (List.replicate k C)) ∧ Grow w2 wr)
      case atStart => exact ⟨0, _, Nat.zero_le _, rfl, rfl, rfl, World.ownsRow_nil _ _ _ _, Grow.refl _⟩
      case round =>
        obtain ⟨k, v, hk, rfl, rfl, rfl, hown, hg⟩ := hrel
        by_cases hlt : k < N
        · have HO := Lib.hid (hown.alloc (.cells #[.int .u8 C] 5))
          have HL := Lib.hid (lit_nums wr .u8 5 [C])
          have HG := Lib.hid (hg.trans (grow_new wr (.cells #[.int .u8 C] 5)))
          clear hown hg
          go_wp2_with (at_builtin; refine wpList_append_bytes rfl _ _ rfl w2.heap.size v k 1 1 (List.replicate k C) [C] (some ⟨wr.heap.size, 0, none⟩) _ rfl HO.out rfl rfl (by simp) HL.out (by omega) HG.out.size ?_; intro v3 w3 hown3 hb3)
          have HO3 := Lib.hid (show w3.ownsRow w2.heap.size 5 1 v3 (k + 1) (u8s (List.replicate (k + 1) C)) by rw [List.replicate_succ']; exact hown3)
          have HG3 := Lib.hid (show Grow w2 w3 from Below.trans HG.out hb3)
          clear hown3 hb3
          go_wp2
          go_roundg (N - (k + 1))
          case rel => exact ⟨k + 1, v3, by omega, rfl, rfl, by go_num, HO3.out, HG3.out⟩
          case measure => omega
        · obtain rfl : N = k := by omega
          obtain ⟨w3, hw3⟩ : ∃ w3, w3 = wr := ⟨_, rfl⟩
          subst hw3
          obtain ⟨A3, c3, rfl, hA3, hn3, -⟩ := own_nums hown
          have hcap3 := own_cap hown
          have hA3b : ∀ a, A3 = some a → w2.heap.size ≤ a.block ∧ a.block < w3.heap.size := fun a ha => hown.lt a.block (by rw [ha]; rfl)
          have HG3 := Lib.hid (HG2.out.trans hg)
          have HW13 := Lib.hid (Nat.le_trans HW12.out hg.size)
          have HO3 := Lib.hid (own_any HO2.out hg)
          have HN3 := Lib.hid hn3
          have HA3 := Lib.hid hA3b
          clear hown hg hn3 hA3b
          have HL4 := Lib.hid (show (ys ++ List.replicate N C).length = n1 + N by rw [List.length_append, HN1.out, List.length_replicate])
          have HL5 := Lib.hid (show (ys ++ List.replicate N C ++ bs).length = n1 + N + n2 by rw [List.length_append, HL4.out, HN2.out])
          go_upto_region 11 with (first
            | (at_builtin; refine wpList_append_at rfl _ _ rfl w1.heap.size v2 n1 N c3 ys (List.replicate N C) A3 w3.heap.size rfl HO3.out rfl (by simp) hA3 HN3.out (by omega) HW13.out ?_; intro v4 w4 hown4 hb4 hat4; have HG4 := Lib.hid (Kept.grow HG3.out hb4 (fun i e => Nat.le_trans HG1.out.size (HO3.out.lt i e).1)))
            | (at_builtin; refine wpList_append_at rfl _ _ rfl w1.heap.size v4 (n1 + N) n2 c2 (ys ++ List.replicate N C) bs A2 _ rfl hown4 rfl HN2.out.symm hc2 (HR2.out.grow HG4.out) (by omega) (Nat.le_trans HW13.out hb4.size) ?_; intro v5 w5 hown5 hb5 hat5))
          have HG5 := Lib.hid (Kept.grow HG4.out hb5 (fun i e => Nat.le_trans HG1.out.size (hown4.lt i e).1))
          have HN5 := Lib.hid (show Nums .u8 w5 w5.heap.size A3 (List.replicate N C) from by
            have h4 := (HN3.out.kept (S := fun k => v2.ownBlock = some k) (fun a ha e => by
              have q1 := HV2.out _ e
              have q2 := HA3.out a ha
              omega) hb4 (Nat.le_refl _)).more hb4.size
            refine (h4.kept (S := fun k => v4.ownBlock = some k) (fun a ha e => ?_) hb5 (Nat.le_refl _)).more hb5.size
            have q2 := HA3.out a ha
            rcases hat4 with h | h
            · rw [h] at e
              have q1 := HV2.out _ e
              omega
            · rw [h] at e
              have q3 := Option.some.inj e
              omega)
          obtain ⟨A5, d5, rfl, hA5, hn5, -⟩ := own_nums hown5
          have hcap5 := own_cap hown5
          have HO5 := Lib.hid hn5
          clear hown4 hb4 hat4 hown5 hb5 hat5 hn5 HN3 HA3 HV2 HO2 HO3
          have HEN1 := Lib.hid (fun W G => (encode_any A1 n1 c1 ys W HN1.out (by omega) hl1 hc1 HB1.out G).mono fun _ _ x => x.bytes HE1.out)
          have HEN2 := Lib.hid (fun W G => (encode_any A3 N c3 (List.replicate N C) W (by simp) (by omega) hcap3 hA3 HCB.out G).mono fun _ _ x => x.bytes HE2.out)
          have HEN3 := Lib.hid (fun W G => (encode_any A2 n2 c2 bs W HN2.out (by omega) hl2 hc2 HB2.out G).mono fun _ _ x => x.bytes HE3.out)
          have HO6 := Lib.hid (own_empty w5)
          have HG6 := Lib.hid (grow_new w5 (.cells #[] 5))
          go_wp2_with fail
          refine (HEN1.out _ (HR1.out.grow (HG5.out.trans HG6.out))).mono ?_
          rintro e w6 ⟨A6, d6, rfl, hA6, -, hn6, hb6⟩
          have HN6 := Lib.hid hn6
          have HO6' := Lib.hid (own_any HO6.out hb6)
          have HG6' := Lib.hid (HG6.out.trans hb6)
          clear hn6 hb6 HEN1 HO6
          go_wp2_with (at_builtin; refine wpList_append_bytes rfl _ _ rfl w5.heap.size _ 0 E1 d6 [] (enc ys) A6 w6.heap.size rfl HO6'.out rfl HE1.out.symm hA6 HN6.out (by omega) HG6'.out.size ?_; intro v7 w7 hown7 hb7)
          rw [Nat.zero_add, List.nil_append] at hown7
          have HG7 := Lib.hid (show Grow w5 w7 from Below.trans HG6'.out hb7)
          have HO7 := Lib.hid hown7
          clear hown7 hb7
          refine (HEN2.out w7 (HN5.out.grow HG7.out)).mono ?_
          rintro e w8 ⟨A8, d8, rfl, hA8, -, hn8, hb8⟩
          have HN8 := Lib.hid hn8
          have HO8 := Lib.hid (own_any HO7.out hb8)
          have HG8 := Lib.hid (HG7.out.trans hb8)
          clear hn8 hb8 HEN2 HO7
          go_wp2_with (at_builtin; refine wpList_append_bytes rfl _ _ rfl w5.heap.size v7 E1 E2 d8 (enc ys) (enc (List.replicate N C)) A8 w8.heap.size rfl HO8.out rfl HE2.out.symm hA8 HN8.out (by omega) HG8.out.size ?_; intro v9 w9 hown9 hb9)
          have HG9 := Lib.hid (show Grow w5 w9 from Below.trans HG8.out hb9)
          have HO9 := Lib.hid hown9
          clear hown9 hb9
          refine (HEN3.out w9 (HR2.out.grow (HG5.out.trans HG9.out))).mono ?_
          rintro e w10 ⟨A10, d10, rfl, hA10, -, hn10, hb10⟩
          have HN10 := Lib.hid hn10
          have HO10 := Lib.hid (own_any HO9.out hb10)
          have HG10 := Lib.hid (HG9.out.trans hb10)
          clear hn10 hb10 HEN3 HO9
          go_upto_region 12 with (at_builtin; refine wpList_append_bytes rfl _ _ rfl w5.heap.size v9 (E1 + E2) E3 d10 (enc ys ++ enc (List.replicate N C)) (enc bs) A10 w10.heap.size rfl HO10.out rfl HE3.out.symm hA10 HN10.out (by omega) HG10.out.size ?_; intro v11 w11 hown11 hb11)
          have HG11 := Lib.hid (show Grow w5 w11 from Below.trans HG10.out hb11)
          obtain ⟨A11, d11, rfl, -, hn11, -⟩ := own_nums hown11
          have HPL := Lib.hid (show (enc ys ++ enc (List.replicate N C) ++ enc bs).length = E1 + E2 + E3 by rw [List.length_append, List.length_append, HE1.out, HE2.out, HE3.out])
          have HLB := Lib.hid (show Byt (ys ++ List.replicate N C ++ bs) from (HB1.out.app HCB.out).app HB2.out)
          have HEN4 := Lib.hid (fun W G => (encode_any A5 (n1 + N + n2) d5 (ys ++ List.replicate N C ++ bs) W HL5.out (by omega) hcap5 hA5 HLB.out G).mono fun _ _ x => x.bytes (show _ = E1 + E2 + E3 by rw [HP.out]; exact HPL.out))
          rw [HP.out] at HEN4
          obtain ⟨S, hS⟩ : ∃ S, strOfNums (enc ys ++ enc (List.replicate N C) ++ enc bs) = S := ⟨_, rfl⟩
          have HSS := Lib.hid hS
          have hs2 : ∀ wg, Grow w11.drew wg → (convert 22 9 (.slice A11 (E1 + E2 + E3) d11)).run Try.prog wg = .ok (.string S) wg := fun wg hg => by
            rw [← HSS.out]
            exact conv_at (E1 + E2 + E3) d11 hn11 HPL.out wg (Grow.of_drew hg)
          clear hS hown11 hb11 hn11
          refine wp_region_grow (n := 10) rfl (by kernel_rfl) ?_
          refine wpAnyG_take (i := 0) (v := ?v1) rfl (by kernel_rfl) (by kernel_rfl) (by kernel_rfl) (fun _ _ _ h => h) (by rfl) ?h1 ?r1
          case h1 => (intro wg hSw; go_simp <;> with_reducible rfl)
          simp only [Act.put, List.setIfInBounds_toArray, List.set_cons_zero, List.set_cons_succ]
          refine wpAnyG_take (i := 1) (v := ?v2) rfl (by kernel_rfl) (by kernel_rfl) (by kernel_rfl) (fun _ _ _ h => h) (by rfl) ?h2 ?r2
          case h2 => (intro wg hSw; go_simp <;> with_reducible rfl)
          simp only [Act.put, List.setIfInBounds_toArray, List.set_cons_zero, List.set_cons_succ]
          refine wpAnyG_take (i := 2) (v := ?v3) rfl (by kernel_rfl) (by kernel_rfl) (by kernel_rfl) (fun _ _ _ h => h) (by rfl) ?h3 ?r3
          case h3 => (intro wg hSw; go_simp <;> with_reducible rfl)
          simp only [Act.put, List.setIfInBounds_toArray, List.set_cons_zero, List.set_cons_succ]
          refine wpAnyG_take (i := 5) (v := ?v4) rfl (by kernel_rfl) (by kernel_rfl) (by kernel_rfl) (fun _ _ _ h => h) (by rfl) ?h4 ?r4
          case h4 => (intro wg hSw; go_simp <;> with_reducible rfl)
          simp only [Act.put, List.setIfInBounds_toArray, List.set_cons_zero, List.set_cons_succ]
          refine wpAnyG_take (i := 6) (v := ?v5) rfl (by kernel_rfl) (by kernel_rfl) (by kernel_rfl) (fun _ _ _ h => h) (by rfl) ?h5 ?r5
          case h5 => (intro wg hSw; go_simp <;> with_reducible rfl)
          simp only [Act.put, List.setIfInBounds_toArray, List.set_cons_zero, List.set_cons_succ]
          refine wpAnyG_one (i := 3) rfl (by kernel_rfl) (by rfl) (fun K hK => ?_)
          go_simp
          refine (HEN4.out _ (HO5.out.grow (HG11.out.drew))).mono ?_
          rintro e w12 ⟨A12, d12, rfl, -, -, hn12, hb12⟩
          have hs1 : ∀ wg, Grow w12 wg → (convert 22 9 (.slice A12 (E1 + E2 + E3) d12)).run Try.prog wg = .ok (.string S) wg := fun wg hg => by
            rw [← HSS.out]
            exact conv_at (E1 + E2 + E3) d12 hn12 HPL.out wg hg
          refine hK.out _ _ (hb12) ?_
          clear hK K
          try simp only [Act.put, List.setIfInBounds_toArray, List.set_cons_zero, List.set_cons_succ]
          refine wpAnyG_take (i := 4) (v := ?v6) rfl (by kernel_rfl) (by kernel_rfl) (by kernel_rfl) (fun _ _ _ h => h) (by rfl) ?h6 ?r6
          case h6 => (intro wg hSw; go_simp <;> with_reducible rfl)
          simp only [Act.put, List.setIfInBounds_toArray, List.set_cons_zero, List.set_cons_succ]
          refine wpAnyG_take (i := 7) (v := ?v7) rfl (by kernel_rfl) (by kernel_rfl) (by kernel_rfl) (fun _ _ _ h => h) (by rfl) ?h7 ?r7
          case h7 => (intro wg hSw; go_simp <;> with_reducible rfl)
          simp only [Act.put, List.setIfInBounds_toArray, List.set_cons_zero, List.set_cons_succ]
          refine wpAnyG_take (i := 8) (v := ?v8) rfl (by kernel_rfl) (by kernel_rfl) (by kernel_rfl) (fun _ _ _ h => h) (by rfl) ?h8 ?r8
          case h8 => (intro wg hSw; go_simp <;> with_reducible rfl)
          simp only [Act.put, List.setIfInBounds_toArray, List.set_cons_zero, List.set_cons_succ]
          refine wpAnyG_take (i := 9) (v := ?v9) rfl (by kernel_rfl) (by kernel_rfl) (by kernel_rfl) (fun _ _ _ h => h) (by rfl) ?h9 ?r9
          case h9 => (intro wg hSw; go_simp <;> with_reducible rfl)
          simp only [Act.put, List.setIfInBounds_toArray, List.set_cons_zero, List.set_cons_succ]
          refine wpAnyG_done (by kernel_rfl) ?_
          go_wp2
          go_ret
          exact ⟨rfl, (HG5.out.trans HG11.out).trans (Grow.of_drew hb12)⟩
    · have hβ : β = true := HT.out.2 hgo
      subst hβ
      go_wp2
      go_ret
      exact ⟨rfl, HG1.out⟩
end Go.Proofs.Ytoapfegmipopkaa
