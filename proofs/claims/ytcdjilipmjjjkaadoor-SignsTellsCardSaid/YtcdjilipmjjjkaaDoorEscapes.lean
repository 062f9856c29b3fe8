/-
  What signs.Escape comes to, called with any text.
-/
import Derived.Test.YtcdjilipmjjjkaaDoorAppends
import Derived.Laws.BytesArg
namespace Go.Proofs.YtcdjilipmjjjkaaDoor
open Go.RowKit Go.Lib

theorem conv_own {B : Nat} {v : Value} {q : List UInt8} {w : World} (h : Own B v q w) : (convert 27 9 v).run Tryd.prog w = .ok (.string ⟨q.toArray⟩) w := by
  rcases h.2 with ⟨rfl, hx⟩ | ⟨g, cap, cur, rfl, hbg, hgg, hnc, _, hsz, htake⟩
  · have hq : q = [] := by
      exact List.eq_nil_of_length_eq_zero hx
    subst hq
    exact run_convert_bytes_nil w 27 5 Tryd.underlying27 Tryd.underlying5 0 0 9 Tryd.underlying9
  · refine run_convert_bytes_back (P := Tryd.prog) w 27 9 5 ⟨g, 0, none⟩ cap q (by kernel_rfl) (by kernel_rfl) (by kernel_rfl) (fun j hj => ?_)
    rw [Addr.add_lit, Nat.zero_add, cell_of_row w g j cur 5 (0, 0) hgg]
    have h1 : (cur.toList.take (q.length * 1))[j]? = (byteCells q)[j]? := by rw [htake]
    rw [List.getElem?_take, if_pos (by omega), Array.getElem?_toList] at h1
    rw [h1]
    simp [byteCells, hj]

/-- the signs done are escaped, rest is left from pos on -/
structure EscAt (l : List UInt8) (cs : List Nat) (k : Nat) (w : World) (pos : Nat) (done rest : List Nat) (v : Value) (wr : World) : Prop where
  split : cs = done ++ rest
  left : l.drop pos = textD rest
  le : pos ≤ l.length
  own : Own (k + 1) v (escD done) wr
  go : Going k l pos wr
  size : k + 1 ≤ wr.heap.size
  grow : Below k w wr

theorem text_ne {c : Nat} {t : List Nat} (h : isSign c = true) : textD (c :: t) ≠ [] := fun e => by
  have h1 := bytes_pos h
  have h2 := congrArg List.length e
  rw [textD, List.length_append, List.length_nil] at h2
  omega

def Escaped (l : List UInt8) (w : World) (e : Ending) (w' : World) : Prop := e = .returned (.tuple #[.string ⟨((escT l).getD []).toArray⟩, .bool (escT l).isSome]) ∧ Grow w w'

theorem rest_empty {rest : List Nat} (h : ∀ c ∈ rest, isSign c = true) (he : textD rest = []) : rest = [] := by
  cases rest with
  | nil => rfl
  | cons c t => exact absurd he (text_ne (h c (by simp)))

set_option maxRecDepth 10000 in
set_option maxHeartbeats 1600000 in
theorem escape_any (l : List UInt8) (w : World) (hl : l.length ≤ 100000) (hL : Laid w) : Calls Tryd.prog 9 #[.string ⟨l.toArray⟩] w (Escaped l w) := by
  have HL := Lib.hid hL
  have HR := Lib.hid (right_any l w)
  clear hL
  cases hs : signsD l with
  | none =>
    have HE : Hid (escT l = none) := Lib.hid (by unfold escT; rw [hs]; rfl)
    rw [hs] at HR
    clear hs
    go_enter Tryd.func9, Tryd.ntmps9
    go_wp2_with fail
    refine (HR.out).mono ?_
    rintro e w1 ⟨rfl, hg⟩
    have HG := Lib.hid hg
    clear hg HR
    simp only [Option.isSome_none]
    go_wp2
    go_ret2
    exact ⟨by rw [HE.out]; rfl, HG.out⟩
  | some cs =>
    have HE : Hid (escT l = some (escD cs)) := Lib.hid (by unfold escT; rw [hs]; rfl)
    have HI := Lib.hid (signs_inv hs)
    rw [hs] at HR
    clear hs
    go_enter Tryd.func9, Tryd.ntmps9
    go_wp2_with fail
    refine (HR.out).mono ?_
    rintro e w1 ⟨rfl, hg⟩
    have HG := Lib.hid hg
    clear hg HR
    simp only [Option.isSome_some]
    go_wp2_with fail
    go_loopg [4] l.length (fun g s4 wr => ∃ (pos : Nat) (done rest : List Nat) (v : Value), g = l.length - pos ∧ v = s4 ∧ EscAt l cs w1.heap.size w1 pos done rest v wr)
    case atStart =>
      exact ⟨0, [], cs, _, rfl, rfl, rfl, by rw [HI.out.2]; rfl, Nat.zero_le _, own_nil _ _, going_new w1 l, by simp [World.iter], grow_new _ _⟩
    case round =>
      obtain ⟨pos, done, rest, v, rfl, rfl, hat⟩ := hrel
      have HT := Lib.hid hat
      have hle := hat.le
      by_cases hp : pos < l.length
      · cases rest with
        | nil =>
          exfalso
          have := congrArg List.length hat.left
          rw [List.length_drop] at this
          simp [textD] at this
          omega
        | cons c t =>
          have hall := HI.out.1
          rw [hat.split] at hall
          have hcs : isSign c = true := hall c (by simp)
          have hnx := fun ty => hat.go.next hp ty
          have hnd : nextD (l.drop pos) = (c, (bytesD c).length) := by rw [hat.left]; exact next_bytes hcs _
          have hb1 := bytes_pos hcs
          rw [rune_yes (by rw [hnd]; simp only; omega), hnd] at hnx
          simp only at hnx
          obtain ⟨n, hn⟩ : ∃ n, (bytesD c).length = n := ⟨_, rfl⟩
          rw [hn] at hnx hb1
          have HD : Hid (l.drop (pos + n) = textD t) := Lib.hid (by
            rw [← List.drop_drop, hat.left, ← hn]
            show (bytesD c ++ textD t).drop _ = _
            rw [List.drop_left])
          have hle2 : pos + n ≤ l.length := by
            have h1 := congrArg List.length hat.left
            rw [List.length_drop] at h1
            have h2 : (textD (c :: t)).length = (bytesD c).length + (textD t).length := by rw [textD, List.length_append]
            omega
          have hql : (escD done).length ≤ 1000000 := by
            have h1 := esc_le HI.out.1
            rw [HI.out.2, hat.split, esc_append, List.length_append] at h1
            omega
          have HO1 := Lib.hid (hat.own.iter (Nat.lt_succ_self _) ⟨l.toArray⟩ (pos + n))
          have HG1 := Lib.hid (hat.go.step (pos + n))
          have HB1 := Lib.hid (below_iterAt hat.grow (Nat.le_refl _) ⟨l.toArray⟩ (pos + n))
          have hsz : w1.heap.size + 1 ≤ (wr.iterAt w1.heap.size ⟨l.toArray⟩ (pos + n)).heap.size := by rw [iterAt_size]; exact hat.size
          have HSP := Lib.hid hat.split
          clear hat HT hnd hall
          generalize wr.iterAt w1.heap.size ⟨l.toArray⟩ (pos + n) = w2 at hnx HO1 HG1 HB1 hsz
          have HA := Lib.hid (append_any (w1.heap.size + 1) v (escD done) c w2 hcs hql HO1.out hsz (HL.out.grow (HG.out.trans HB1.out)))
          clear hcs
          go_wp2_with fail
          refine (HA.out).mono ?_
          rintro e w3 ⟨v3, rfl, ho3, hb3⟩
          have HN : Hid (EscAt l cs w1.heap.size w1 (pos + n) (done ++ [c]) t v3 w3) := Lib.hid ⟨by rw [HSP.out]; simp, HD.out, hle2, by rw [esc_append]; show Own _ _ (_ ++ (oneD c ++ [])) _; rw [List.append_nil]; exact ho3, HG1.out.below hb3 (Nat.lt_succ_self _), Nat.le_trans hsz hb3.size, HB1.out.trans (Below.mono hb3 (Nat.le_succ _))⟩
          clear ho3 hb3 HA
          go_wp2
          go_roundg (l.length - (pos + n))
          case rel => exact ⟨pos + n, _, _, _, rfl, rfl, HN.out⟩
          case measure => omega
      · obtain rfl : pos = l.length := by omega
        have hnx := fun ty => hat.go.stop hp ty
        have hre : rest = [] := by
          refine rest_empty (fun c hc => HI.out.1 c (by rw [hat.split]; exact List.mem_append_right _ hc)) ?_
          rw [← hat.left, List.drop_length]
        subst hre
        have hcv := conv_own hat.own
        have HF : Hid (escT l = some (escD done)) := Lib.hid (by rw [HE.out, hat.split, List.append_nil])
        have HGF := Lib.hid (HG.out.trans hat.grow)
        clear hat HT
        go_wp2
        go_ret2
        exact ⟨by rw [HF.out]; rfl, HGF.out⟩
end Go.Proofs.YtcdjilipmjjjkaaDoor
