/-
  What quote.Text comes to, called with any numbers.
-/
import Derived.Test.YthmhpjjpjgmdaaaDoorFull
import Derived.Deep.LoopGhost
namespace Go.Proofs.YthmhpjjpjgmdaaaDoor
open Go.RowKit Go.Lib
set_option linter.unusedSimpArgs false
set_option linter.unusedVariables false

/-- what is answered: a text, and is it so? -/
def TextP (l : List UInt8) (ok : Bool) (w : World) (e : Ending) (w' : World) : Prop := e = .returned (.tuple #[.string ⟨l.toArray⟩, .bool ok]) ∧ Grow w w'

theorem all_step {xs : List Int} {k : Nat} (hk : k < xs.length) (h : (xs.take k).all signZ = true) (h2 : signZ (xs.getD k 0) = true) : (xs.take (k + 1)).all signZ = true := by
  have e : xs.getD k 0 = xs[k] := by simp [List.getD, hk]
  rw [List.take_succ_eq_append_getElem hk, List.all_append, h, ← e, List.all_cons, h2]
  rfl
theorem all_not {xs : List Int} {k : Nat} (hk : k < xs.length) (h2 : signZ (xs.getD k 0) = false) : xs.all signZ = false := by
  have e : xs.getD k 0 = xs[k] := by simp [List.getD, hk]
  rw [Bool.eq_false_iff]
  intro h
  have := List.all_eq_true.1 h xs[k] (List.getElem_mem hk)
  rw [← e, h2] at this
  cases this
theorem qT_step {xs : List Int} {k : Nat} (hk : k < xs.length) : qT (natsZ (xs.take (k + 1))) = qT (natsZ (xs.take k)) ++ qC (xs.getD k 0).toNat := by
  have e : xs.getD k 0 = xs[k] := by simp [List.getD, hk]
  rw [List.take_succ_eq_append_getElem hk, nats_append, qT_append, e]
  show _ ++ (qC (xs[k]).toNat ++ []) = _
  rw [List.append_nil]
theorem textQ_not {xs : List Int} (h : xs.all signZ = false) : textQ xs = [] := by unfold textQ; rw [if_neg (by rw [h]; simp)]
theorem textQ_all {xs : List Int} (h : xs.all signZ = true) : textQ xs = 39 :: (qT (natsZ xs) ++ [39]) := by unfold textQ; rw [if_pos h]; rfl
theorem nats_take (xs : List Int) (k : Nat) : (natsZ (xs.take k)).length ≤ k := by rw [nats_len, List.length_take]; omega

set_option maxRecDepth 10000 in
set_option maxHeartbeats 1600000 in
theorem text_any (A : Option Addr) (n c : Nat) (xs : List Int) (w : World) (hn : xs.length = n) (hnb : n ≤ 100000) (hr : Nums .i64 w w.heap.size A xs) :
    Calls Tryd.prog 9 #[.slice A n c] w (TextP (textQ xs) (xs.all signZ) w) := by
  have HN := Lib.hid hn
  have HR := Lib.hid hr
  obtain ⟨B, hB⟩ : ∃ B, w.heap.size = B := ⟨_, rfl⟩
  have HBE := Lib.hid hB
  clear hn hr hB
  have hcv := Lib.run_convert_bytes_const (P := Tryd.prog) w 33 5 #[.int .u8 39] 1 1 Tryd.underlying33 Tryd.underlying5
  have HOW : Hid (OwnM B (.slice (some ⟨w.heap.size, 0, none⟩) 1 1) [39] (w.alloc (.cells #[.int .u8 39] 5 (1, 2)))) :=
    Lib.hid (.inr ⟨w.heap.size, rfl, by simp, fun j u hj => by rw [cell_of_row _ w.heap.size j #[.int .u8 39] 5 (1, 2) (heap_alloc_new w _)]; simpa [byteCells] using hj⟩)
  have HG0 := Lib.hid (show Below B w (w.alloc (.cells #[.int .u8 39] 5 (1, 2))) from Below.mono (grow_new w _) (by rw [HBE.out]; exact Nat.le_refl _))
  go_enter Tryd.func9, Tryd.ntmps9
  go_wp2
  go_loopg [4, 11] n (fun g s4 s11 wr => ∃ (k : Nat) (v : Value), k ≤ n ∧ g = n - k ∧ v = s4 ∧ s11 = .int .i64 k ∧ Hid ((xs.take k).all signZ = true) ∧ Hid (OwnM B v (39 :: qT (natsZ (xs.take k))) wr) ∧ Hid (Below B w wr))
  case atStart => exact ⟨0, _, Nat.zero_le _, rfl, rfl, rfl, Lib.hid rfl, HOW, HG0⟩
  case round =>
    obtain ⟨k, v, hk, rfl, rfl, rfl, HS, HO, HG⟩ := hrel
    have HGW : Hid (Grow w wr) := Lib.hid (by unfold Grow; rw [HBE.out]; exact HG.out)
    have HZ : Hid (B ≤ wr.heap.size) := Lib.hid (by rw [← HBE.out]; exact HG.out.size)
    clear HOW HG0
    by_cases hlt : k < n
    · have hkl : k < xs.length := by rw [HN.out]; exact hlt
      obtain ⟨b, off, rfl, hb, hcl⟩ := (HR.out.below HGW.out) (by omega)
      have hck := hcl k hkl
      have HQ := Lib.hid (qT_step hkl)
      have HA := Lib.hid (all_step hkl HS.out)
      have HX := Lib.hid (all_not (xs := xs) hkl)
      have hql : (39 :: qT (natsZ (xs.take k))).length ≤ 1000000 := by
        have h1 := qT_le (natsZ (xs.take k))
        have h2 := nats_take xs k
        rw [List.length_cons]
        omega
      clear hcl
      obtain ⟨x, hx⟩ : ∃ x, xs.getD k 0 = x := ⟨_, rfl⟩
      rw [hx] at hck HQ HA HX
      clear hx hkl
      have HI := Lib.hid (fun W => issign_any x W)
      cases hs : signZ x with
      | false =>
        rw [hs] at HI
        have HV := Lib.hid (HX.out hs)
        clear HX HA HQ hs hql
        go_wp2_with fail
        refine (HI.out _).mono ?_
        rintro e w2 ⟨rfl, rfl⟩
        go_wp2
        go_ret2
        exact ⟨by rw [textQ_not HV.out, HV.out]; rfl, HGW.out⟩
      | true =>
        rw [hs] at HI
        have hsx := signZ_iff.1 hs
        obtain ⟨y, rfl⟩ : ∃ y : Nat, x = (y : Int) := ⟨x.toNat, by omega⟩
        rw [Int.toNat_natCast] at HQ
        have hw : IntKind.i32.wrap ((y : Nat) : Int) = ((y : Nat) : Int) := by rw [IntKind.wrap_i32]; omega
        have HP := Lib.hid (fun W (h : B ≤ W.heap.size) h2 => append_both B v (39 :: qT (natsZ (xs.take k))) y W (by have := (signZ_nat hs).1; rwa [Int.toNat_natCast] at this) hql h2 h)
        have HA' := Lib.hid (HA.out hs)
        have hwk : IntKind.i64.wrap (((k : Nat) : Int) + 1) = ((k : Nat) : Int) + 1 := by rw [IntKind.wrap_i64]; omega
        clear HX HA hs hql hsx
        go_wp2_with fail
        refine (HI.out _).mono ?_
        rintro e w2 ⟨rfl, rfl⟩
        go_wp2_with fail
        refine (HP.out _ HZ.out HO.out).mono ?_
        rintro e w3 ⟨v3, rfl, ho, hb3⟩
        have HO3 : Hid (Own B v3 (39 :: qT (natsZ (xs.take (k + 1)))) w3) := Lib.hid (by rw [HQ.out]; exact ho)
        have HG3 := Lib.hid (Below.trans HG.out hb3)
        clear ho hb3 HP HQ
        go_wp2
        go_roundg (n - (k + 1))
        case rel => exact ⟨k + 1, v3, by omega, rfl, rfl, by go_num, HA', Lib.hid (.inl HO3.out), HG3⟩
        case measure => omega
    · obtain rfl : k = n := by omega
      have hall : xs.take k = xs := List.take_of_length_le (by rw [HN.out]; exact Nat.le_refl _)
      have HV : Hid (xs.all signZ = true) := Lib.hid (by have := HS.out; rwa [hall] at this)
      have HO1 : Hid (OwnM B v (39 :: qT (natsZ xs)) wr) := Lib.hid (by have := HO.out; rwa [hall] at this)
      have hcv := HO1.out.conv
      have HC : Hid ((⟨(39 :: qT (natsZ xs)).toArray⟩ : ByteArray) ++ ⟨#[39]⟩ = ⟨(39 :: (qT (natsZ xs) ++ [39])).toArray⟩) := Lib.hid (str_app (39 :: qT (natsZ xs)) [39])
      have hlq : (qT (natsZ xs)).length ≤ 400000 := by
        have h1 := qT_le (natsZ xs)
        rw [nats_len, HN.out] at h1
        omega
      obtain ⟨q, hq⟩ : ∃ q, 39 :: qT (natsZ xs) = q := ⟨_, rfl⟩
      have hql : q.length ≤ 400001 := by rw [← hq, List.length_cons]; omega
      have HQ : Hid (39 :: (qT (natsZ xs) ++ [39]) = q ++ [39]) := Lib.hid (by rw [← hq]; rfl)
      rw [hq] at hcv HC
      rw [HQ.out] at HC
      clear hq hall HS HO hlq
      obtain ⟨s, hs⟩ : ∃ s : ByteArray, s = ⟨q.toArray⟩ := ⟨_, rfl⟩
      have hsz : s.size ≤ 400001 := by rw [hs, str_size]; exact hql
      rw [← hs] at hcv HC
      clear hs
      go_wp2
      go_ret2
      exact ⟨by rw [textQ_all HV.out, HV.out, HQ.out, ← HC.out]; rfl, HGW.out⟩
theorem text_says (A : Option Addr) (n c : Nat) (xs : List Int) (w : World) (hn : xs.length = n) (hnb : n ≤ 100000) (hr : Nums .i64 w w.heap.size A xs) {l : List UInt8} {ok : Bool} (hl : textQ xs = l) (ho : xs.all signZ = ok) :
    Calls Tryd.prog 9 #[.slice A n c] w (TextP l ok w) := by
  subst hl ho
  exact text_any A n c xs w hn hnb hr
end Go.Proofs.YthmhpjjpjgmdaaaDoor
