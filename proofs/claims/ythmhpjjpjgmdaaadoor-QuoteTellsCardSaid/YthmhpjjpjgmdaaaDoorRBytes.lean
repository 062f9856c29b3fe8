/-
  What the document's own Bytes comes to, called with any number.
-/
import Derived.Test.YthmhpjjpjgmdaaaDoorSmall
namespace Go.Proofs.YthmhpjjpjgmdaaaDoor
open Go.RowKit Go.Lib
set_option linter.unusedSimpArgs false

def Str (l : List UInt8) (w : World) (e : Ending) (w' : World) : Prop := e = .returned (.string ⟨l.toArray⟩) ∧ Grow w w'

set_option maxRecDepth 10000 in
set_option maxHeartbeats 800000 in
theorem rbytes_any (c : Nat) (w : World) (hc : c ≤ 9223372036854775807) : Calls Tryd.prog 16 #[.int .i64 (c : Nat)] w (Str (bytesD c) w) := by
  have h0 : ¬ ((c : Nat) : Int) < 0 := by omega
  by_cases h1 : 1114111 < c
  · have HB : Hid (bytesD c = []) := Lib.hid (by unfold bytesD; rw [if_neg (by rw [isSign_iff]; omega)])
    have h1' : 1114111 < ((c : Nat) : Int) := by omega
    clear hc h1
    go_enter Tryd.func16, Tryd.ntmps16
    go_wp2
    go_ret
    exact ⟨by rw [HB.out]; rfl, Grow.refl _⟩
  have h1' : ¬ 1114111 < ((c : Nat) : Int) := by omega
  by_cases h2 : 55296 ≤ c ∧ c ≤ 57343
  · have HB : Hid (bytesD c = []) := Lib.hid (by unfold bytesD; rw [if_neg (by rw [isSign_iff]; omega)])
    have h2' : 55296 ≤ ((c : Nat) : Int) := by omega
    have h3' : ((c : Nat) : Int) ≤ 57343 := by omega
    clear hc h1 h2
    go_enter Tryd.func16, Tryd.ntmps16
    go_wp2
    go_ret
    exact ⟨by rw [HB.out]; rfl, Grow.refl _⟩
  have hs : isSign c = true := isSign_iff.2 ⟨by omega, h2⟩
  by_cases h3 : c < 128
  · have h2' : ¬ 55296 ≤ ((c : Nat) : Int) := by omega
    obtain ⟨x, hx⟩ : ∃ x : UInt8, UInt8.ofNat (c) = x := ⟨_, rfl⟩
    have HB : Hid (bytesD c = [x]) := Lib.hid (by unfold bytesD; rw [if_pos hs, if_pos (by omega), hx])
    have nx : x.toNat = c := by rw [← hx, u8_nat (by omega)]
    have vx : IntKind.u8.wrap ((c : Nat) : Int) = ((x.toNat : Nat) : Int) := by rw [IntKind.wrap_u8]; omega
    have hcv := conv_lit w [x] _ 1 rfl rfl
    simp only [byteCells, List.map_cons, List.map_nil] at hcv
    have c1 : ((c : Nat) : Int) < 128 := by omega
    clear hc h1 h2 hs hx nx  
    go_enter Tryd.func16, Tryd.ntmps16
    go_wp2
    go_ret
    exact ⟨by rw [HB.out]; rfl, grow_new _ _⟩
  by_cases h4 : c < 2048
  · have h2' : ¬ 55296 ≤ ((c : Nat) : Int) := by omega
    obtain ⟨x, hx⟩ : ∃ x : UInt8, UInt8.ofNat (192 + c / 64) = x := ⟨_, rfl⟩
    obtain ⟨y, hy⟩ : ∃ y : UInt8, UInt8.ofNat (128 + c % 64) = y := ⟨_, rfl⟩
    have HB : Hid (bytesD c = [x, y]) := Lib.hid (by unfold bytesD; rw [if_pos hs, if_neg (by omega), if_pos (by omega), hx, hy])
    have nx : x.toNat = 192 + c / 64 := by rw [← hx, u8_nat (by omega)]
    have ny : y.toNat = 128 + c % 64 := by rw [← hy, u8_nat (by omega)]
    obtain ⟨q1, eq1⟩ : ∃ q1 : Nat, c / 64 = q1 := ⟨_, rfl⟩
    have iq1 : ((c : Nat) : Int) / 64 = ((q1 : Nat) : Int) := by omega
    have jq1 : ((c : Nat) : Int).tdiv 64 = ((q1 : Nat) : Int) := by rw [Int.tdiv_eq_ediv_of_nonneg (by omega)]; omega
    obtain ⟨r0, er0⟩ : ∃ r0 : Nat, c % 64 = r0 := ⟨_, rfl⟩
    have ir0 : ((c : Nat) : Int) % 64 = ((r0 : Nat) : Int) := by omega
    have jr0 : ((c : Nat) : Int).tmod 64 = ((r0 : Nat) : Int) := by rw [Int.tmod_eq_emod_of_nonneg (by omega)]; omega
    have bq1 : q1 < 64 := by omega
    have wx : IntKind.i64.wrap (192 + ((q1 : Nat) : Int)) = 192 + ((q1 : Nat) : Int) := by rw [IntKind.wrap_i64]; omega
    have vx : IntKind.u8.wrap (192 + ((q1 : Nat) : Int)) = ((x.toNat : Nat) : Int) := by rw [IntKind.wrap_u8]; omega
    have br0 : r0 < 64 := by omega
    have wy : IntKind.i64.wrap (128 + ((r0 : Nat) : Int)) = 128 + ((r0 : Nat) : Int) := by rw [IntKind.wrap_i64]; omega
    have vy : IntKind.u8.wrap (128 + ((r0 : Nat) : Int)) = ((y.toNat : Nat) : Int) := by rw [IntKind.wrap_u8]; omega
    have hcv := conv_lit w [x, y] _ 2 rfl rfl
    simp only [byteCells, List.map_cons, List.map_nil] at hcv
    have c1 : ¬ ((c : Nat) : Int) < 128 := by omega
    have c2 : ((c : Nat) : Int) < 2048 := by omega
    clear hc h1 h2 hs hx hy nx ny eq1 er0
    go_enter Tryd.func16, Tryd.ntmps16
    go_wp2
    go_ret
    exact ⟨by rw [HB.out]; rfl, grow_new _ _⟩
  by_cases h5 : c < 55296
  · have h2' : ¬ 55296 ≤ ((c : Nat) : Int) := by omega
    obtain ⟨x, hx⟩ : ∃ x : UInt8, UInt8.ofNat (224 + c / 4096) = x := ⟨_, rfl⟩
    obtain ⟨y, hy⟩ : ∃ y : UInt8, UInt8.ofNat (128 + c / 64 % 64) = y := ⟨_, rfl⟩
    obtain ⟨z, hz⟩ : ∃ z : UInt8, UInt8.ofNat (128 + c % 64) = z := ⟨_, rfl⟩
    have HB : Hid (bytesD c = [x, y, z]) := Lib.hid (by unfold bytesD; rw [if_pos hs, if_neg (by omega), if_neg (by omega), if_pos (by omega), hx, hy, hz])
    have nx : x.toNat = 224 + c / 4096 := by rw [← hx, u8_nat (by omega)]
    have ny : y.toNat = 128 + c / 64 % 64 := by rw [← hy, u8_nat (by omega)]
    have nz : z.toNat = 128 + c % 64 := by rw [← hz, u8_nat (by omega)]
    obtain ⟨q2, eq2⟩ : ∃ q2 : Nat, c / 4096 = q2 := ⟨_, rfl⟩
    have iq2 : ((c : Nat) : Int) / 4096 = ((q2 : Nat) : Int) := by omega
    have jq2 : ((c : Nat) : Int).tdiv 4096 = ((q2 : Nat) : Int) := by rw [Int.tdiv_eq_ediv_of_nonneg (by omega)]; omega
    obtain ⟨q1, eq1⟩ : ∃ q1 : Nat, c / 64 = q1 := ⟨_, rfl⟩
    have iq1 : ((c : Nat) : Int) / 64 = ((q1 : Nat) : Int) := by omega
    have jq1 : ((c : Nat) : Int).tdiv 64 = ((q1 : Nat) : Int) := by rw [Int.tdiv_eq_ediv_of_nonneg (by omega)]; omega
    obtain ⟨r1, er1⟩ : ∃ r1 : Nat, q1 % 64 = r1 := ⟨_, rfl⟩
    have ir1 : ((q1 : Nat) : Int) % 64 = ((r1 : Nat) : Int) := by omega
    have jr1 : ((q1 : Nat) : Int).tmod 64 = ((r1 : Nat) : Int) := by rw [Int.tmod_eq_emod_of_nonneg (by omega)]; omega
    obtain ⟨r0, er0⟩ : ∃ r0 : Nat, c % 64 = r0 := ⟨_, rfl⟩
    have ir0 : ((c : Nat) : Int) % 64 = ((r0 : Nat) : Int) := by omega
    have jr0 : ((c : Nat) : Int).tmod 64 = ((r0 : Nat) : Int) := by rw [Int.tmod_eq_emod_of_nonneg (by omega)]; omega
    have bq2 : q2 < 64 := by omega
    have wx : IntKind.i64.wrap (224 + ((q2 : Nat) : Int)) = 224 + ((q2 : Nat) : Int) := by rw [IntKind.wrap_i64]; omega
    have vx : IntKind.u8.wrap (224 + ((q2 : Nat) : Int)) = ((x.toNat : Nat) : Int) := by rw [IntKind.wrap_u8]; omega
    have br1 : r1 < 64 := by omega
    have wy : IntKind.i64.wrap (128 + ((r1 : Nat) : Int)) = 128 + ((r1 : Nat) : Int) := by rw [IntKind.wrap_i64]; omega
    have vy : IntKind.u8.wrap (128 + ((r1 : Nat) : Int)) = ((y.toNat : Nat) : Int) := by rw [IntKind.wrap_u8]; omega
    have br0 : r0 < 64 := by omega
    have wz : IntKind.i64.wrap (128 + ((r0 : Nat) : Int)) = 128 + ((r0 : Nat) : Int) := by rw [IntKind.wrap_i64]; omega
    have vz : IntKind.u8.wrap (128 + ((r0 : Nat) : Int)) = ((z.toNat : Nat) : Int) := by rw [IntKind.wrap_u8]; omega
    have hcv := conv_lit w [x, y, z] _ 3 rfl rfl
    simp only [byteCells, List.map_cons, List.map_nil] at hcv
    have c1 : ¬ ((c : Nat) : Int) < 128 := by omega
    have c2 : ¬ ((c : Nat) : Int) < 2048 := by omega
    have c3 : ((c : Nat) : Int) < 65536 := by omega
    clear hc h1 h2 hs hx hy hz nx ny nz eq2 eq1 er1 er0
    go_enter Tryd.func16, Tryd.ntmps16
    go_wp2
    go_ret
    exact ⟨by rw [HB.out]; rfl, grow_new _ _⟩
  have h2' : 55296 ≤ ((c : Nat) : Int) := by omega
  have h3' : ¬ ((c : Nat) : Int) ≤ 57343 := by omega
  by_cases h6 : c < 65536
  · skip
    obtain ⟨x, hx⟩ : ∃ x : UInt8, UInt8.ofNat (224 + c / 4096) = x := ⟨_, rfl⟩
    obtain ⟨y, hy⟩ : ∃ y : UInt8, UInt8.ofNat (128 + c / 64 % 64) = y := ⟨_, rfl⟩
    obtain ⟨z, hz⟩ : ∃ z : UInt8, UInt8.ofNat (128 + c % 64) = z := ⟨_, rfl⟩
    have HB : Hid (bytesD c = [x, y, z]) := Lib.hid (by unfold bytesD; rw [if_pos hs, if_neg (by omega), if_neg (by omega), if_pos (by omega), hx, hy, hz])
    have nx : x.toNat = 224 + c / 4096 := by rw [← hx, u8_nat (by omega)]
    have ny : y.toNat = 128 + c / 64 % 64 := by rw [← hy, u8_nat (by omega)]
    have nz : z.toNat = 128 + c % 64 := by rw [← hz, u8_nat (by omega)]
    obtain ⟨q2, eq2⟩ : ∃ q2 : Nat, c / 4096 = q2 := ⟨_, rfl⟩
    have iq2 : ((c : Nat) : Int) / 4096 = ((q2 : Nat) : Int) := by omega
    have jq2 : ((c : Nat) : Int).tdiv 4096 = ((q2 : Nat) : Int) := by rw [Int.tdiv_eq_ediv_of_nonneg (by omega)]; omega
    obtain ⟨q1, eq1⟩ : ∃ q1 : Nat, c / 64 = q1 := ⟨_, rfl⟩
    have iq1 : ((c : Nat) : Int) / 64 = ((q1 : Nat) : Int) := by omega
    have jq1 : ((c : Nat) : Int).tdiv 64 = ((q1 : Nat) : Int) := by rw [Int.tdiv_eq_ediv_of_nonneg (by omega)]; omega
    obtain ⟨r1, er1⟩ : ∃ r1 : Nat, q1 % 64 = r1 := ⟨_, rfl⟩
    have ir1 : ((q1 : Nat) : Int) % 64 = ((r1 : Nat) : Int) := by omega
    have jr1 : ((q1 : Nat) : Int).tmod 64 = ((r1 : Nat) : Int) := by rw [Int.tmod_eq_emod_of_nonneg (by omega)]; omega
    obtain ⟨r0, er0⟩ : ∃ r0 : Nat, c % 64 = r0 := ⟨_, rfl⟩
    have ir0 : ((c : Nat) : Int) % 64 = ((r0 : Nat) : Int) := by omega
    have jr0 : ((c : Nat) : Int).tmod 64 = ((r0 : Nat) : Int) := by rw [Int.tmod_eq_emod_of_nonneg (by omega)]; omega
    have bq2 : q2 < 64 := by omega
    have wx : IntKind.i64.wrap (224 + ((q2 : Nat) : Int)) = 224 + ((q2 : Nat) : Int) := by rw [IntKind.wrap_i64]; omega
    have vx : IntKind.u8.wrap (224 + ((q2 : Nat) : Int)) = ((x.toNat : Nat) : Int) := by rw [IntKind.wrap_u8]; omega
    have br1 : r1 < 64 := by omega
    have wy : IntKind.i64.wrap (128 + ((r1 : Nat) : Int)) = 128 + ((r1 : Nat) : Int) := by rw [IntKind.wrap_i64]; omega
    have vy : IntKind.u8.wrap (128 + ((r1 : Nat) : Int)) = ((y.toNat : Nat) : Int) := by rw [IntKind.wrap_u8]; omega
    have br0 : r0 < 64 := by omega
    have wz : IntKind.i64.wrap (128 + ((r0 : Nat) : Int)) = 128 + ((r0 : Nat) : Int) := by rw [IntKind.wrap_i64]; omega
    have vz : IntKind.u8.wrap (128 + ((r0 : Nat) : Int)) = ((z.toNat : Nat) : Int) := by rw [IntKind.wrap_u8]; omega
    have hcv := conv_lit w [x, y, z] _ 3 rfl rfl
    simp only [byteCells, List.map_cons, List.map_nil] at hcv
    have c1 : ¬ ((c : Nat) : Int) < 128 := by omega
    have c2 : ¬ ((c : Nat) : Int) < 2048 := by omega
    have c3 : ((c : Nat) : Int) < 65536 := by omega
    clear hc h1 h2 hs hx hy hz nx ny nz eq2 eq1 er1 er0
    go_enter Tryd.func16, Tryd.ntmps16
    go_wp2
    go_ret
    exact ⟨by rw [HB.out]; rfl, grow_new _ _⟩
  · skip
    obtain ⟨x, hx⟩ : ∃ x : UInt8, UInt8.ofNat (240 + c / 262144) = x := ⟨_, rfl⟩
    obtain ⟨y, hy⟩ : ∃ y : UInt8, UInt8.ofNat (128 + c / 4096 % 64) = y := ⟨_, rfl⟩
    obtain ⟨z, hz⟩ : ∃ z : UInt8, UInt8.ofNat (128 + c / 64 % 64) = z := ⟨_, rfl⟩
    obtain ⟨u, hu⟩ : ∃ u : UInt8, UInt8.ofNat (128 + c % 64) = u := ⟨_, rfl⟩
    have HB : Hid (bytesD c = [x, y, z, u]) := Lib.hid (by unfold bytesD; rw [if_pos hs, if_neg (by omega), if_neg (by omega), if_neg (by omega), hx, hy, hz, hu])
    have nx : x.toNat = 240 + c / 262144 := by rw [← hx, u8_nat (by omega)]
    have ny : y.toNat = 128 + c / 4096 % 64 := by rw [← hy, u8_nat (by omega)]
    have nz : z.toNat = 128 + c / 64 % 64 := by rw [← hz, u8_nat (by omega)]
    have nu : u.toNat = 128 + c % 64 := by rw [← hu, u8_nat (by omega)]
    obtain ⟨q3, eq3⟩ : ∃ q3 : Nat, c / 262144 = q3 := ⟨_, rfl⟩
    have iq3 : ((c : Nat) : Int) / 262144 = ((q3 : Nat) : Int) := by omega
    have jq3 : ((c : Nat) : Int).tdiv 262144 = ((q3 : Nat) : Int) := by rw [Int.tdiv_eq_ediv_of_nonneg (by omega)]; omega
    obtain ⟨q2, eq2⟩ : ∃ q2 : Nat, c / 4096 = q2 := ⟨_, rfl⟩
    have iq2 : ((c : Nat) : Int) / 4096 = ((q2 : Nat) : Int) := by omega
    have jq2 : ((c : Nat) : Int).tdiv 4096 = ((q2 : Nat) : Int) := by rw [Int.tdiv_eq_ediv_of_nonneg (by omega)]; omega
    obtain ⟨q1, eq1⟩ : ∃ q1 : Nat, c / 64 = q1 := ⟨_, rfl⟩
    have iq1 : ((c : Nat) : Int) / 64 = ((q1 : Nat) : Int) := by omega
    have jq1 : ((c : Nat) : Int).tdiv 64 = ((q1 : Nat) : Int) := by rw [Int.tdiv_eq_ediv_of_nonneg (by omega)]; omega
    obtain ⟨r2, er2⟩ : ∃ r2 : Nat, q2 % 64 = r2 := ⟨_, rfl⟩
    have ir2 : ((q2 : Nat) : Int) % 64 = ((r2 : Nat) : Int) := by omega
    have jr2 : ((q2 : Nat) : Int).tmod 64 = ((r2 : Nat) : Int) := by rw [Int.tmod_eq_emod_of_nonneg (by omega)]; omega
    obtain ⟨r1, er1⟩ : ∃ r1 : Nat, q1 % 64 = r1 := ⟨_, rfl⟩
    have ir1 : ((q1 : Nat) : Int) % 64 = ((r1 : Nat) : Int) := by omega
    have jr1 : ((q1 : Nat) : Int).tmod 64 = ((r1 : Nat) : Int) := by rw [Int.tmod_eq_emod_of_nonneg (by omega)]; omega
    obtain ⟨r0, er0⟩ : ∃ r0 : Nat, c % 64 = r0 := ⟨_, rfl⟩
    have ir0 : ((c : Nat) : Int) % 64 = ((r0 : Nat) : Int) := by omega
    have jr0 : ((c : Nat) : Int).tmod 64 = ((r0 : Nat) : Int) := by rw [Int.tmod_eq_emod_of_nonneg (by omega)]; omega
    have bq3 : q3 < 64 := by omega
    have wx : IntKind.i64.wrap (240 + ((q3 : Nat) : Int)) = 240 + ((q3 : Nat) : Int) := by rw [IntKind.wrap_i64]; omega
    have vx : IntKind.u8.wrap (240 + ((q3 : Nat) : Int)) = ((x.toNat : Nat) : Int) := by rw [IntKind.wrap_u8]; omega
    have br2 : r2 < 64 := by omega
    have wy : IntKind.i64.wrap (128 + ((r2 : Nat) : Int)) = 128 + ((r2 : Nat) : Int) := by rw [IntKind.wrap_i64]; omega
    have vy : IntKind.u8.wrap (128 + ((r2 : Nat) : Int)) = ((y.toNat : Nat) : Int) := by rw [IntKind.wrap_u8]; omega
    have br1 : r1 < 64 := by omega
    have wz : IntKind.i64.wrap (128 + ((r1 : Nat) : Int)) = 128 + ((r1 : Nat) : Int) := by rw [IntKind.wrap_i64]; omega
    have vz : IntKind.u8.wrap (128 + ((r1 : Nat) : Int)) = ((z.toNat : Nat) : Int) := by rw [IntKind.wrap_u8]; omega
    have br0 : r0 < 64 := by omega
    have wu : IntKind.i64.wrap (128 + ((r0 : Nat) : Int)) = 128 + ((r0 : Nat) : Int) := by rw [IntKind.wrap_i64]; omega
    have vu : IntKind.u8.wrap (128 + ((r0 : Nat) : Int)) = ((u.toNat : Nat) : Int) := by rw [IntKind.wrap_u8]; omega
    have hcv := conv_lit w [x, y, z, u] _ 4 rfl rfl
    simp only [byteCells, List.map_cons, List.map_nil] at hcv
    have c1 : ¬ ((c : Nat) : Int) < 128 := by omega
    have c2 : ¬ ((c : Nat) : Int) < 2048 := by omega
    have c3 : ¬ ((c : Nat) : Int) < 65536 := by omega
    clear hc h1 h2 hs hx hy hz hu nx ny nz nu eq3 eq2 eq1 er2 er1 er0
    go_enter Tryd.func16, Tryd.ntmps16
    go_wp2
    go_ret
    exact ⟨by rw [HB.out]; rfl, grow_new _ _⟩

/-- a number's bytes (none, if it is no sign) -/
def bytesZ (x : Int) : List UInt8 := if signZ x = true then bytesD x.toNat else []
set_option maxRecDepth 10000 in
theorem rbytesZ_any (x : Int) (w : World) (hx : In x) : Calls Tryd.prog 16 #[.int .i64 x] w (Str (bytesZ x) w) := by
  by_cases h0 : x < 0
  · have hb : bytesZ x = [] := by unfold bytesZ signZ; rw [if_neg]; simp; omega
    rw [hb]
    clear hb
    go_enter Tryd.func16, Tryd.ntmps16
    go_wp2
    go_ret
    exact ⟨rfl, Grow.refl _⟩
  · obtain ⟨c, rfl⟩ : ∃ c : Nat, x = (c : Int) := ⟨x.toNat, by omega⟩
    have hb : bytesZ (c : Int) = bytesD c := by
      unfold bytesZ
      by_cases hs : signZ (c : Int) = true
      · rw [if_pos hs, Int.toNat_natCast]
      · rw [if_neg hs]
        unfold bytesD
        rw [if_neg]
        intro h
        exact hs (signZ_of h)
    rw [hb]
    exact rbytes_any c w (by have := hx.2; omega)
end Go.Proofs.YthmhpjjpjgmdaaaDoor
