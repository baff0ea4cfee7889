/-
  A message that comes in, opened.
-/
import Derived.Test.YthajnkcipifhcaaGreatDoorKWOpen
import Derived.Test.YthajnkcipifhcaaGreatDoorKWMsgLaw
open Go Go.RowKit
namespace Go.Proofs.YthajnkcipifhcaaGreatDoor
open WW BB Go.WideShapes Go.ChangeShapes Go.Deep
section
variable {H : Type} {enc : TypeId × Value → H} {W : World}
theorem cells_msg : Tryz.prog.cellsOf 43 = 21 := by kernel_rfl
set_option maxRecDepth 100000 in
set_option maxHeartbeats 4000000 in
theorem open_msg {fuel : Nat} {cs : List Value} {x : DataW H × List MemPlace} (h : TrodW enc W fuel 43 cs x) :
    ∃ f k fr dst v h x c s r ix tg s9 r10 s13 t15, cs = (row 21 f).toList ∧ MsgAt W f k fr dst v h x c s r ix tg s9 r10 s13 t15 ∧ MemM x c s := by
  obtain ⟨xs, n, _, hx, hl, hlen, hf⟩ := DataW.trod_struct Tryz.underlying43 h
  rw [cells_msg] at hl
  match cs, hl, xs, hlen with
  | [u0, u1, u2, u3, u4, u5, u6, u7, u8, u9, u10, u11, u12, u13, u14, u15, u16, u17, u18, u19, u20], _, [z0, z1, z2, z3, z4, z5, z6, z7, z8, z9, z10], _ =>
    have g0 := hf 0 _ rfl
    have g1 := hf 1 _ rfl
    have g2 := hf 2 _ rfl
    have g3 := hf 3 _ rfl
    have g4 := hf 4 _ rfl
    have g5 := hf 5 _ rfl
    have g6 := hf 6 _ rfl
    have g7 := hf 7 _ rfl
    have g8 := hf 8 _ rfl
    have g9 := hf 9 _ rfl
    have g10 := hf 10 _ rfl
    obtain ⟨k, hk, _⟩ := DataW.trod_int Tryz.underlying3 (x := z0) g0
    obtain ⟨fr, hfr, _⟩ := DataW.trod_int Tryz.underlying3 (x := z1) g1
    obtain ⟨dst, hdst, _⟩ := DataW.trod_int Tryz.underlying3 (x := z2) g2
    obtain ⟨v, hv, _⟩ := DataW.trod_int Tryz.underlying3 (x := z3) g3
    obtain ⟨hh, hhh, _, _⟩ := DataW.trod_string Tryz.underlying9 (x := z4) g4
    obtain ⟨bv, bp, cv, ck, sv, rv, l, m, hb, hS, hR, hM, hck, hm⟩ := open_block (x := z5) g5
    obtain ⟨v2, k2, sv2, l2, hc, hS2, hM2, hk2⟩ := open_cert (x := z6) g6
    obtain ⟨sf, tv, ts, hs, hT, hts⟩ := open_sig (x := z7) g7
    obtain ⟨rc, rq, rb, hr, _⟩ := open_req (x := z8) g8
    obtain ⟨ix, hix, _⟩ := DataW.trod_int Tryz.underlying3 (x := z9) g9
    obtain ⟨tg, htg, _, _⟩ := DataW.trod_string Tryz.underlying9 (x := z10) g10
    have e0 : [u0] = [.int .i64 k] := hk
    have e1 : [u1] = [.int .i64 fr] := hfr
    have e2 : [u2] = [.int .i64 dst] := hdst
    have e3 : [u3] = [.int .i64 v] := hv
    have e4 : [u4] = [.string hh] := hhh
    have e5 : [u5, u6, u7, u8, u9, u10] = [.int .i64 bv, .int .i64 bp, .int .i64 cv, .string ck, sv, rv] := hb
    have e6 : [u11, u12, u13] = [.int .i64 v2, .string k2, sv2] := hc
    have e7 : [u14, u15] = [.int .i64 sf, tv] := hs
    have e8 : [u16, u17, u18] = [.int .i64 rc, .int .i64 rq, .string rb] := hr
    have e9 : [u19] = [.int .i64 ix] := hix
    have e10 : [u20] = [.string tg] := htg
    simp only [List.cons.injEq, and_true] at e0 e1 e2 e3 e4 e5 e6 e7 e8 e9 e10
    obtain ⟨q5, q6, q7, q8, q9, q10⟩ := e5
    obtain ⟨q11, q12, q13⟩ := e6
    obtain ⟨q14, q15⟩ := e7
    obtain ⟨q16, q17, q18⟩ := e8
    subst e0 e1 e2 e3 e4 q5 q6 q7 q8 q9 q10 q11 q12 q13 q14 q15 q16 q17 q18 e9 e10
    refine ⟨fun i => [Value.int .i64 k, .int .i64 fr, .int .i64 dst, .int .i64 v, .string hh, .int .i64 bv, .int .i64 bp, .int .i64 cv, .string ck, u9, u10, .int .i64 v2, .string k2, u13, .int .i64 sf, u15, .int .i64 rc, .int .i64 rq, .string rb, .int .i64 ix, .string tg].getD i undef, k, fr, dst, v, hh, (((bv, bp), ((cv, ck), l)), m), ((v2, k2), l2), (sf, ts), (rc, rq, rb), ix, tg, u9, u10, u13, u15, rfl, ⟨rfl, rfl, rfl, rfl, rfl, rfl, rfl, rfl, rfl, rfl, rfl, rfl, rfl, rfl, rfl, rfl, rfl, rfl, rfl, rfl, rfl, hS, hR, hS2, hT⟩, ⟨hM, hck, hm, hM2, hk2, hts⟩⟩
end
end Go.Proofs.YthajnkcipifhcaaGreatDoor
