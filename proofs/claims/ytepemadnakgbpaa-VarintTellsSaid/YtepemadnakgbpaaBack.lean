/-
  The law VarintBack at every input.
-/
import Derived.Test.YtepemadnakgbpaaEnds
namespace Go.Proofs.Ytepemadnakgbpaa
open Go.RowKit

theorem cut_addr {k : IntKind} {w : World} {B cap d : Nat} {A : Option Addr} {xs : List Int} (h : Nums k w B A xs) (hc : xs.length ≤ cap) : Nums k w B (if cap = d then A else Option.map (fun x => x.add d) A) (xs.drop d) := by
  by_cases e : cap = d
  · rw [if_pos e]
    have : xs.drop d = [] := List.drop_of_length_le (by omega)
    rw [this]
    exact Nums.none_
  · rw [if_neg e]
    exact h.drop_ d

theorem own_cap {w : World} {base n n' cap : Nat} {A : Option Addr} {xs : List Value} (h : w.ownsRow base 5 1 (.slice A n' cap) n xs) : n ≤ cap := by
  rcases h.2 with ⟨h0, hn⟩ | ⟨g, c, cur, hv, _, _, hnc, _⟩
  · omega
  · cases hv
    exact hnc

theorem put_nil (Al : Option Addr) (n cl N : Nat) (ls : List Int) (w : World) (h1 : ls.length = n) (hn : n ≤ 10000000000000) (hu : U64 ls) (hr : Nums .u64 w w.heap.size Al ls) (hN : (flat ls).length = N) :
    Calls Try.prog 12 #[.slice none 0 0, .slice Al n cl] w fun e w' => ∃ g, e = .returned (.slice (some ⟨g, 0, none⟩) N N) ∧ w'.rowIs g 5 N (fun i => .int .u8 ((flat ls).getD i 0)) ∧ Grow w w' ∧ w.heap.size ≤ g := by
  subst hN
  have h := put_new none Al 0 n 0 cl [] ls w rfl h1.symm (by decide) hn hu (fun _ => rfl) Nums.none_ hr
  rw [List.nil_append] at h
  exact h

set_option maxRecDepth 10000 in
set_option maxHeartbeats 800000 in
theorem back_no (A1 A2 : Option Addr) (n m c1 c2 : Nat) (w : World) (h1 : n ≤ 9223372036854775807) (h2 : m ≤ 9223372036854775807) (h : ¬ (n ≤ 50 ∧ m ≤ 200)) :
    Calls Try.prog 4 #[.slice A1 n c1, .slice A2 m c2] w (Fine w) := by
  by_cases hn : n ≤ 50
  · have hm : 200 < m := by omega
    clear h
    go_enter Try.func4, Try.ntmps4
    go_wp2_with fail
    refine (small_any w).mono ?_
    rintro e w1 ⟨rfl, hb1⟩
    go_wp2
    go_ret
    exact ⟨rfl, hb1⟩
  · have hn' : 50 < n := by omega
    clear h hn
    go_enter Try.func4, Try.ntmps4
    go_wp2_with fail
    refine (small_any w).mono ?_
    rintro e w1 ⟨rfl, hb1⟩
    go_wp2
    go_ret
    exact ⟨rfl, hb1⟩

set_option maxRecDepth 10000 in
set_option maxHeartbeats 3200000 in
theorem back_yes (A1 A2 : Option Addr) (n m c1 c2 : Nat) (ls ms : List Int) (w : World) (h1 : ls.length = n) (h2 : ms.length = m) (hn : n ≤ 50) (hm : m ≤ 200) (e2 : A2 = none → c2 = 0)
    (u1 : U64 ls) (b2 : Byt ms) (r1 : Nums .u64 w w.heap.size A1 ls) (r2 : Nums .u8 w w.heap.size A2 ms) : Calls Try.prog 4 #[.slice A1 n c1, .slice A2 m c2] w (Fine w) := by
  have hfl := flat_len ls u1
  obtain ⟨N, hN⟩ : ∃ N, (flat ls).length = N := ⟨_, rfl⟩
  have hNl : N ≤ 500 := by omega
  have H1 := Lib.hid h1
  have H2 := Lib.hid h2
  have R1 := Lib.hid r1
  have R2 := Lib.hid r2
  have U1 := Lib.hid u1
  have B2 := Lib.hid b2
  have HN := Lib.hid hN
  clear h1 h2 r1 r2 u1 b2 hN hfl
  go_enter Try.func4, Try.ntmps4
  go_wp2_with fail
  refine (small_any w).mono ?_
  rintro e w1 ⟨rfl, hb1⟩
  have R1' := Lib.hid (R1.out.grow hb1)
  have R2' := Lib.hid (R2.out.grow hb1)
  clear R1 R2
  go_wp2_with fail
  refine (put_nil A1 n c1 N ls w1 H1.out (by omega) U1.out R1'.out HN.out).mono ?_
  rintro e w2 ⟨g, rfl, hrow, hb2, hg⟩
  have HO := Lib.hid (own_of_row (base := w1.heap.size) HN.out.symm hg (by unfold maxLen; omega) hrow)
  clear hrow hg
  go_wp2_with (at_builtin; refine wpList_append_bytes rfl _ _ rfl w1.heap.size _ N m c2 (flat ls) ms A2 _ rfl HO.out rfl H2.out.symm e2 (R2'.out.below hb2) (by omega) hb2.size ?_; intro v3 w3 hown3 hb3)
  obtain ⟨A3, c3, rfl, hA3, hN3, hl3⟩ := own_nums hown3
  have hc3 := own_cap hown3
  have hb13 : Grow w1 w3 := Below.trans hb2 hb3
  have R1'' := Lib.hid (R1'.out.grow hb13)
  have R2'' := Lib.hid (R2'.out.grow hb13)
  have HN3 := Lib.hid hN3
  have HL3 := Lib.hid hl3
  clear R1' R2' hown3 hb3 hN3 hl3 HO
  go_wp2
  go_loopw [6, 7] (fun v i wr => ∃ (k : Nat) (Ab : Option Addr) (len cb : Nat), k ≤ n ∧ i = .int .i64 k ∧ v = .slice Ab len cb ∧ len = (flat (ls.drop k) ++ ms).length ∧ len ≤ cb ∧ len ≤ 700 ∧ Nums .u8 w3 w3.heap.size Ab (flat (ls.drop k) ++ ms) ∧ w3 = wr)
    (fun _ i _ => n - (intOf i).toNat)
  case atStart => exact ⟨0, A3, N + m, c3, Nat.zero_le _, rfl, rfl, by rw [List.drop_zero]; exact HL3.out.symm, hc3, by omega, by rw [List.drop_zero]; exact HN3.out, rfl⟩
  case round =>
    obtain ⟨k, Ab, len, cb, hk, rfl, rfl, hlen, hlc, hl7, hnum, rfl⟩ := hrel
    by_cases hlt : k < n
    · have hkl : k < ls.length := by rw [H1.out]; exact hlt
      obtain ⟨b, off, rfl, hb, hcl⟩ := R1''.out (by omega)
      have hcell := hcl k hkl
      have hX := U1.out.at_ k
      have hsplit : flat (ls.drop k) ++ ms = digs (ls.getD k 0).toNat ++ (flat (ls.drop (k + 1)) ++ ms) := by rw [flat_drop ls k hkl, List.append_assoc]
      have hbyt : Byt (flat (ls.drop k) ++ ms) := (flat_byt _).app B2.out
      rw [hsplit] at hlen hnum hbyt
      clear hcl hsplit hkl
      generalize ls.getD k 0 = x at *
      obtain ⟨X, rfl⟩ := Int.eq_ofNat_of_zero_le hX.1
      rw [Int.toNat_natCast] at hlen hnum hbyt
      obtain ⟨R, hR⟩ : ∃ R, flat (ls.drop (k + 1)) ++ ms = R := ⟨_, rfl⟩
      rw [hR] at hlen hnum hbyt
      have HR := Lib.hid hR
      have htk := takeN_back X R (by omega)
      have hsz := size_any X w3 (by omega)
      have hd1 := digs_pos X
      have HT := Lib.hid (take_is Ab len cb (digs X ++ R) X (digs X).length 0 w3 _ hlen (by omega) hbyt hnum htk)
      rw [List.length_append] at hlen
      obtain ⟨d, hd⟩ : ∃ d, (digs X).length = d := ⟨_, rfl⟩
      have hdrop : (digs X ++ R).drop d = R := by rw [← hd, List.drop_left]
      rw [hd] at hlen hsz hd1 HT
      have HS := Lib.hid hsz
      obtain ⟨AK, hAK⟩ : ∃ AK, (if cb = d then Ab else Option.map (fun x => x.add d) Ab) = AK := ⟨_, rfl⟩
      have hnk : Nums .u8 w3 w3.heap.size AK R := by
        have h := cut_addr (d := d) hnum (cap := cb) (by rw [List.length_append, hd]; omega)
        rw [hAK, hdrop] at h
        exact h
      have HNK := Lib.hid hnk
      have hdl : d ≤ len := by omega
      have HLR := Lib.hid (show R.length = len - d by omega)
      clear hnk hdrop hnum hbyt htk hsz hd hlen hR
      go_wp2_with fail
      refine (HT.out).mono ?_
      rintro e w' ⟨rfl, rfl⟩
      go_wp2_with fail
      refine (HS.out).mono ?_
      rintro e w' ⟨rfl, rfl⟩
      go_wp2
      go_roundw
      case rel => exact ⟨k + 1, AK, len - d, cb - d, by omega, by go_num, rfl, by rw [HR.out]; exact HLR.out.symm, by omega, by omega, by rw [HR.out]; exact HNK.out, trivial⟩
      case measure => simp [intOf]; omega
    · have e : k = n := by omega
      subst e
      have hdr : flat (ls.drop k) ++ ms = ms := by rw [List.drop_of_length_le (by rw [H1.out]; exact Nat.le_refl _)]; rfl
      rw [hdr] at hlen hnum
      subst hlen
      have hs1 := conv_any (k := 22) cb hnum rfl
      have hs2 := conv_any (k := 22) c2 R2''.out rfl
      rw [H2.out] at hs2
      generalize strOfNums ms = S at *
      have HB : Grow w w3 := hb1.trans hb13
      clear hnum hdr
      go_wp2
      go_ret
      exact ⟨rfl, HB⟩

theorem back_walk (A1 A2 : Option Addr) (n m c1 c2 : Nat) (ls ms : List Int) (w : World) (h1 : ls.length = n) (h2 : ms.length = m) (hn : n ≤ 9223372036854775807) (hm : m ≤ 9223372036854775807) (e2 : A2 = none → c2 = 0)
    (u1 : U64 ls) (b2 : Byt ms) (r1 : Nums .u64 w w.heap.size A1 ls) (r2 : Nums .u8 w w.heap.size A2 ms) : Calls Try.prog 4 #[.slice A1 n c1, .slice A2 m c2] w (Fine w) := by
  by_cases h : n ≤ 50 ∧ m ≤ 200
  · exact back_yes A1 A2 n m c1 c2 ls ms w h1 h2 h.1 h.2 e2 u1 b2 r1 r2
  · exact back_no A1 A2 n m c1 c2 w hn hm h
end Go.Proofs.Ytepemadnakgbpaa
