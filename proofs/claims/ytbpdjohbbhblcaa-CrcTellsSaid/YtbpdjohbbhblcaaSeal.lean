/-
  What crc.Seal comes to, called with any table and any parts.
-/
import Derived.Test.YtbpdjohbbhblcaaSum
import Derived.Deep.DeepAppendRoom
import Derived.Laws.AppendOwnNone
import Derived.Laws.MakeOwn
namespace Go.Proofs.Ytbpdjohbbhblcaa
open Go.RowKit

theorem info5 : (Try.prog.info? 5).map (fun i => (i.zero, i.size, i.bytes)) = some (some (.int .u8 0), 1, 1) := by kernel_rfl

/-- numbers as bytes in cells -/
def u8s (bs : List Int) : List Value := bs.map (Value.int .u8)
theorem u8s_len (bs : List Int) : (u8s bs).length = bs.length := by simp [u8s]
theorem u8s_app (a b : List Int) : u8s (a ++ b) = u8s a ++ u8s b := by simp [u8s]
theorem u8s_one (bs : List Int) : ∀ u ∈ u8s bs, u.oneCell' = true := by
  intro u hu
  simp only [u8s, List.mem_map] at hu
  obtain ⟨c, _, rfl⟩ := hu
  rfl

theorem nums_news {w : World} {B : Nat} {ad : Addr} {p : List Int} (h : Nums .u8 w B (some ad) p) : ∀ j u, (u8s p)[j]? = some u → w.cell? (ad.add j) = some u := by
  intro j u hj
  have hjl : j < p.length := by
    have := (List.getElem?_eq_some_iff.1 hj).1
    rwa [u8s_len] at this
  obtain ⟨b, off, e, _, hc⟩ := h (by omega)
  cases e
  rw [Addr.add_lit, hc j hjl]
  rw [← hj]
  simp [u8s, hjl]

theorem own_grow {w w' : World} {base : Nat} {e : TypeId} {size : Nat} {g n cap : Nat} {xs : List Value} (h : w.ownsRow base e size (.slice (some ⟨g, 0, none⟩) n cap) n xs) (hg : Grow w w') :
    w'.ownsRow base e size (.slice (some ⟨g, 0, none⟩) n cap) n xs := by
  refine ⟨h.1, ?_⟩
  rcases h.2 with ⟨h0, _⟩ | ⟨g', cap', cur, hv, hbg, hgg, rest⟩
  · cases h0
  · cases hv
    have hlt : g < w.heap.size := (Array.getElem?_eq_some_iff.1 hgg).1
    exact .inr ⟨g, cap, cur, rfl, hbg, (hg.block g hlt).trans hgg, rest⟩

theorem own_row {w : World} {base : Nat} {g n : Nat} {bs : List Int} (hn : n = bs.length) (h : w.ownsRow base 5 1 (.slice (some ⟨g, 0, none⟩) n n) n (u8s bs)) : w.rowIs g 5 n fun i => .int .u8 (bs.getD i 0) := by
  rcases h.2 with ⟨h0, _⟩ | ⟨g', cap', cur, hv, hbg, hgg, _, _, hsz, htake⟩
  · cases h0
  · cases hv
    refine ⟨cur, hgg, by omega, fun i hi => ?_⟩
    have h1 : cur.toList.take (n * 1) = cur.toList := List.take_of_length_le (by simp; omega)
    rw [h1] at htake
    rw [← Array.getElem?_toList, htake]
    simp [u8s, show i < bs.length by omega]

theorem lit_news (w : World) (xs : List Value) (t : TypeId) : ∀ j u, xs[j]? = some u → (w.alloc (.cells xs.toArray t)).cell? ((⟨w.heap.size, 0, none⟩ : Addr).add j) = some u := by
  intro j u hj
  rw [Addr.add_lit, World.cell?_alloc_new]
  simpa using hj

theorem le4_get (n j : Nat) (hj : j < 4) : (le4 n).take (j + 1) = (le4 n).take j ++ [((n / 256 ^ j % 256 : Nat) : Int)] := by
  match j, hj with
  | 0, _ => simp [le4]
  | 1, _ => simp [le4]
  | 2, _ => simp [le4]
  | 3, _ => simp [le4]

def Sealed (bs : List Int) (w : World) (e : Ending) (w' : World) : Prop :=
  ∃ g, e = .returned (.slice (some ⟨g, 0, none⟩) bs.length bs.length) ∧ w'.rowIs g 5 bs.length (fun i => .int .u8 (bs.getD i 0)) ∧ Grow w w'
def sealN (T : Nat → Nat) (bs : List Int) : List Int := bs ++ le4 (moreN T 0 bs)
theorem sealN_len (T : Nat → Nat) (bs : List Int) : (sealN T bs).length = bs.length + 4 := by simp [sealN, le4_len]
theorem moreN_lt {T : Nat → Nat} (hT : Small T) (s : Nat) (bs : List Int) (hs : s < 4294967296) : moreN T s bs < 4294967296 := ones_lt _ (raw_lt hT bs _ (ones_lt _ hs))

set_option maxRecDepth 10000 in
set_option maxHeartbeats 1000000 in
theorem seal_any (A : Option Addr) (cap : Nat) (cs : Array Value) (T : Nat → Nat) (ps : List (List Int)) (w : World) (hT : IsTab cs T) (hf : Fits ps) (ht : (flat ps).length ≤ 200000000000000) (hr : Prts w w.heap.size A ps) :
    Calls Try.prog 15 #[.agg cs, .slice A ps.length cap] w (Sealed (sealN T (flat ps)) w) := by
  have hb1 : Grow w (w.alloc (.cells cs 24)) := (Below.refl _ _).alloc (Nat.le_refl _) _
  have hr1 := (hr.below hb1).more hb1.size
  have hg1 := heap_alloc_new w (.cells cs 24)
  have hlen := hf.1
  have hs1 : (w.alloc (.cells cs 24)).heap.size = w.heap.size + 1 := by simp
  obtain ⟨i0, hi, hz0, hz1, hz2⟩ := info_parts info5
  obtain ⟨w2, hmk, hown2, hgr2⟩ := run_make_own (P := Try.prog) (w.alloc (.cells cs 24)) (w.heap.size + 1) 28 5 i0 (.int .u8 0) 1 Try.underlying28 hi hz0 hz1 .i64 .i64 ((flat ps).length + 4) (by rw [hz2]; omega) (by unfold maxLen; omega) (by simp)
  have hb2 : Grow (w.alloc (.cells cs 24)) w2 := (Below.refl _ _).grown hgr2 (Nat.le_refl _) (fun k hk => by cases hk)
  rw [hs1] at hmk hown2
  have HR1 := Lib.hid hr1
  have HT := Lib.hid hT
  have HF := Lib.hid hf
  have HO2 := Lib.hid hown2
  have HG1 := Lib.hid hg1
  have HB1 := Lib.hid hb1
  clear hr1 hr hown2 hgr2 hg1 hb1 hf
  have hcast : (((flat ps).length + 4 : Nat) : Int) = ((flat ps).length : Int) + 4 := by simp
  rw [hcast] at hmk
  clear hcast
  go_enter Try.func15, Try.ntmps15
  go_wp2_with (go_at_call 23; refine (length_any A cap ps _ HF.out (by omega) HR1.out).mono ?_; rintro e w' ⟨rfl, rfl⟩)
  generalize w.alloc (.cells cs 24) = w1 at *
  obtain ⟨g, hgq⟩ : ∃ g, w.heap.size + 1 = g := ⟨_, rfl⟩
  rw [hgq] at HO2 ⊢
  have HGQ := Lib.hid hgq
  clear hmk
  go_loopw [5, 15] (fun v i wr => ∃ k : Nat, k ≤ ps.length ∧ i = .int .i64 k ∧ v = .slice (some ⟨g, 0, none⟩) (flat (ps.take k)).length ((flat ps).length + 4) ∧
      wr.ownsRow g 5 1 (.slice (some ⟨g, 0, none⟩) (flat (ps.take k)).length ((flat ps).length + 4)) (flat (ps.take k)).length (u8s (flat (ps.take k))) ∧ Grow w1 wr)
    (fun _ i _ => ps.length - (intOf i).toNat)
  case atStart => exact ⟨0, Nat.zero_le _, rfl, by simp [flat_none], by simpa [u8s, flat_none] using HO2.out, hb2⟩
  case round =>
    obtain ⟨k, hk, rfl, rfl, hown, hbel⟩ := hrel
    by_cases hlt : k < ps.length
    · obtain ⟨b, off, rfl, hb, hc⟩ := HR1.out (by omega)
      obtain ⟨Ai, ci, hcell, hnil, hnums⟩ := hc k hlt
      have hcell' := (hbel.cell (p := ⟨b, off + k, none⟩) hb).trans hcell
      have hnums' := hnums.below hbel
      have hnext := take_flat ps k hlt
      have hnl : (flat (ps.take (k + 1))).length = (flat (ps.take k)).length + (ps.getD k []).length := by rw [hnext, List.length_append]
      have htot : (flat (ps.take (k + 1))).length ≤ (flat ps).length := by
        exact flat_le ps (k + 1)
      rw [hnl] at htot
      have HX := Lib.hid hnext
      have HL := Lib.hid hnl
      clear hc hcell hnums hnext hnl
      generalize (flat (ps.take k)) = q at *
      generalize ps.getD k [] = p at *
      cases Ai with
      | none =>
        have hp0 : p = [] := by
          apply List.eq_nil_of_length_eq_zero
          apply Nat.eq_zero_of_not_pos
          intro hp
          obtain ⟨_, _, h, _⟩ := hnums' hp
          cases h
        have hci := hnil rfl
        subst hp0 hci
        have HOW := Lib.hid hown
        clear hnums' hnil hown
        go_wp2_with (at_builtin; refine wpList_append_own_none rfl _ _ 28 rfl g 5 i0 1 Try.underlying28 hi _ _ _ rfl HOW.out rfl ?_)
        go_roundw
        case rel => exact ⟨k + 1, by omega, by go_num, by rw [HX.out]; simp, by rw [HX.out]; simpa using HOW.out, hbel⟩
        case measure => simp [intOf]; omega
      | some ad =>
        have hnews := nums_news hnums'
        have HOW := Lib.hid hown
        have HNW := Lib.hid hnews
        clear hnums' hnil hown hnews
        go_wp2_with (at_builtin; refine wpList_append_own_spare _ rfl _ _ 28 rfl g 5 i0 1 Try.underlying28 hi hz1 g q.length ((flat ps).length + 4) _ rfl HOW.out ad p.length ci (u8s p) rfl (by rw [u8s_len]; omega) HNW.out (u8s_one p) (by omega) ?_; intro w3 hown3 hgrow3)
        have hb3 : Grow w1 w3 := Below.grown hbel hgrow3 hbel.size (fun k hk => by cases hk; rw [hs1, hgq]; exact Nat.le_refl _)
        have HO3 := Lib.hid hown3
        clear hown3 hgrow3
        go_wp2
        go_roundw
        case rel => exact ⟨k + 1, by omega, by go_num, by rw [HX.out]; simp, by rw [HX.out, u8s_app, List.length_append]; exact HO3.out, hb3⟩
        case measure => simp [intOf]; omega
    · have e : k = ps.length := by omega
      subst e
      rw [List.take_length] at hown ⊢
      have hgt := (hbel.block w.heap.size (by omega)).trans HG1.out
      have HOW := Lib.hid hown
      have HRK := Lib.hid ((HR1.out.below hbel).more hbel.size)
      clear hown
      go_wp2_with (refine wpList_tab rfl _ rfl w.heap.size rfl cs hgt HT.out.1 ?_)
      refine (sum_any A cap cs T ps wr HT.out HF.out HRK.out).mono ?_
      rintro e w3 ⟨rfl, hb3⟩
      have HO3 := Lib.hid (own_grow HOW.out hb3)
      have hbel3 : Grow w1 w3 := hbel.trans hb3
      have hM := moreN_lt HT.out.2.2 0 (flat ps) (by decide)
      clear hgt
      have hse : sealN T (flat ps) = flat ps ++ le4 (moreN T 0 (flat ps)) := rfl
      generalize moreN T 0 (flat ps) = M at *
      have HSE := Lib.hid hse
      clear hse
      generalize (flat ps) = q at *
      go_wp2
      go_loopw [5, 8, 26] (fun v x i wq => ∃ j : Nat, j ≤ 4 ∧ i = .int .i64 j ∧ x = .int .u32 ((M / 256 ^ j : Nat) : Int) ∧ v = .slice (some ⟨g, 0, none⟩) (q.length + j) (q.length + 4) ∧
          wq.ownsRow g 5 1 (.slice (some ⟨g, 0, none⟩) (q.length + j) (q.length + 4)) (q.length + j) (u8s (q ++ (le4 M).take j)) ∧ Grow w1 wq)
        (fun _ _ i _ => 4 - (intOf i).toNat)
      case atStart => exact ⟨0, Nat.zero_le _, rfl, by simp, rfl, by simpa using HO3.out, hbel3⟩
      case round =>
        obtain ⟨j, hj, rfl, rfl, rfl, hownj, hbelj⟩ := hrel
        by_cases hlt4 : j < 4
        · have hnx := le4_get M j hlt4
          have hdiv : M / 256 ^ (j + 1) = M / 256 ^ j / 256 := by rw [Nat.pow_succ, Nat.div_div_eq_div_mul]
          have hxl : M / 256 ^ j < 4294967296 := Nat.lt_of_le_of_lt (Nat.div_le_self _ _) hM
          have HNX := Lib.hid hnx
          have HDV := Lib.hid hdiv
          clear hnx hdiv
          generalize M / 256 ^ j = x at *
          have HOJ := Lib.hid (hownj.alloc (.cells #[.int .u8 ((x : Int) % 256)] 5))
          clear hownj
          go_wp2_with (at_builtin; refine wpList_append_own_spare _ rfl _ _ 28 rfl g 5 i0 1 Try.underlying28 hi hz1 g (q.length + j) (q.length + 4) _ rfl HOJ.out ⟨wr.heap.size, 0, none⟩ 1 1 [.int .u8 ((x : Int) % 256)] rfl rfl (lit_news _ _ _) (by intro u hu; simp at hu; subst hu; rfl) (by omega) ?_; intro w4 hown4 hgrow4)
          have hb4 : Grow w1 w4 := Below.grown (Below.alloc hbelj hbelj.size _) hgrow4 (by have := hbelj.size; simp; omega) (fun k hk => by cases hk; rw [hs1, hgq]; exact Nat.le_refl _)
          have HO4 := Lib.hid hown4
          clear hown4 hgrow4
          go_wp2
          go_roundw
          case rel => exact ⟨j + 1, by omega, by go_num, by rw [HDV.out]; simp, rfl, by rw [HNX.out, ← List.append_assoc, u8s_app]; exact HO4.out, hb4⟩
          case measure => simp [intOf]; omega
        · have e : j = 4 := by omega
          subst e
          have h4 : (le4 M).take 4 = le4 M := rfl
          rw [h4] at hownj
          have hll : (q ++ le4 M).length = q.length + 4 := by simp [le4]
          have hrow := own_row hll.symm hownj
          have HRW := Lib.hid hrow
          clear hownj h4 hrow
          go_wp2
          go_ret
          exact ⟨g, by rw [HSE.out, hll]; rfl, by rw [HSE.out, hll]; exact HRW.out, HB1.out.trans hbelj⟩
end Go.Proofs.Ytbpdjohbbhblcaa
