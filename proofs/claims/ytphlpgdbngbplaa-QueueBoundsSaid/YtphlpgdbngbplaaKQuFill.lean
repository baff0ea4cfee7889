/-
  The walks of the code's Push and Pop, and the bundle (layer 17).
-/
import Derived.Test.YtphlpgdbngbplaaKQuTake
open Go Go.RowKit
namespace QU
open RR FF JJ WW BB
theorem below_eqU {w w' : World} (h : w = w') : Below w.heap.size w w' := h ▸ Below.refl _ _
theorem cells1_newU (w : World) (u : Value) (t : TypeId) : ∀ j x, [u][j]? = some x → (w.alloc (.cells #[u] t)).cell? ((⟨w.heap.size, 0, none⟩ : Addr).add j) = some x := by
  intro j x hj
  match j, hj with
  | 0, hj => simp at hj; subst hj; rw [Addr.add_lit]; exact cell_new w _ t 0 _ rfl
  | j + 1, hj => simp at hj
theorem cells1_oneU (d : ByteArray) : ∀ u ∈ [Value.string d], u.oneCell' = true := by
  intro u hu
  simp only [List.mem_cons, List.not_mem_nil, or_false] at hu
  subst hu; rfl
theorem wpl_append_runU {P : Program} {w w' : World} {ops : Array Oper} {rest : List Oper} {o : Oper} {a : Act} {Q : Exit → Act → World → Prop} {v' : Value} (hgd : o.guard = none) (s x : Operand) (t : TypeId)
    (ho : o.op = .call { callee := .builtin .append, args := #[s, x], argTypes := #[t, t] }) (hr : (Builtin.append_ #[t, t] o.type #[a.eval s, a.eval x]).run P w = .ok v' w') (h : wpList P ops Q rest (a.put o.dst v') w') : wpList P ops Q (o :: rest) a w := by
  refine wpList_plain hgd fun K hK => ?_
  unfold Oper.wp execOp
  simp only [ho, resolve, invoke, builtin, Sem.run_bind, Sem.run_pure, Result.andThen_ok, List.map_toArray, List.map_cons, List.map_nil, hr]
  exact hK _ _ h
theorem all_mem {t : Qu} (h : InvQ t) {i : Nat} (hi : i < (allQ t).length) : ((allQ t).getD i ⟨#[]⟩).size ≤ 1000000 ∧ ∃ d, msgRd ((allQ t).getD i ⟨#[]⟩) = some d := by
  have hm : (allQ t).getD i ⟨#[]⟩ ∈ allQ t := by rw [List.getD_eq_getElem?_getD, List.getElem?_eq_getElem hi]; exact List.getElem_mem hi
  rcases List.mem_append.1 hm with h1 | h1
  · obtain ⟨h2, d, h3, _⟩ := h.m1 _ h1; exact ⟨h2, d, h3⟩
  · obtain ⟨h2, d, h3, _⟩ := h.m2 _ h1; exact ⟨h2, d, h3⟩
theorem popQ_nil {t : Qu} (h : allQ t = []) (i : Int) : popQ t i = t := by
  unfold allQ at h
  rw [List.append_eq_nil_iff] at h
  obtain ⟨F, S, d⟩ := t
  obtain ⟨rfl, rfl⟩ := h
  unfold popQ
  rw [if_neg (show ¬ _ < ([] : List ByteArray).length from Nat.not_lt_zero _)]
  rfl
end QU
namespace Go.Proofs.Ytphlpgdbngbplaa
open QU RR FF JJ CC MM WW BB
theorem und_strsU : Try.prog.underlying 36 = some (.slice 9) := by kernel_rfl
theorem info_strU : (Try.prog.info? 9).map (fun i => (i.zero, i.size, i.bytes)) = some (some (.string ⟨#[]⟩), 1, 16) := by kernel_rfl
/-- one more was dropped -/
theorem QM.drop {w : World} {g : Nat} {t : Qu} {v1 v2 : Value} (h : QM w g t v1 v2) : QM (w.setCell ⟨g, 2, none⟩ (.int .i64 (t.dropped + 1))) g ⟨t.first, t.second, t.dropped + 1⟩ v1 v2 ∧ Keeps (fun b => ¬ OwnQ g v1 v2 b) w (w.setCell ⟨g, 2, none⟩ (.int .i64 (t.dropped + 1))) := by
  have hu := Upd.set w g 2 (.int .i64 (t.dropped + 1))
  refine ⟨⟨?_, row_keep h.r1 fun c hc => hu.block c (fun e => h.g1 (e ▸ hc)), row_keep h.r2 fun c hc => hu.block c (fun e => h.g2 (e ▸ hc)), h.g1, h.g2, h.ne⟩, Keeps.upd' hu fun c => c (.inl rfl)⟩
  refine (h.blk.set 2 _).congr _ fun i hi => ?_
  match i, hi with
  | 0, _ => rfl
  | 1, _ => rfl
  | 2, _ => rfl
theorem takeQ_pop (t : Qu) (i : Int) : takeQ t (ixQ t i) = popQ t i := rfl
/-- what is read of bytes that are a message's -/
theorem read17 {b : ByteArray} {d : MsgD} (hb : b.size ≤ 1000000) (hd : msgRd b = some d) (w : World) :
    Calls Try.prog 27 #[.string b] w fun e w' => (∃ f, e = .returned (.tuple #[.agg (row 21 f), .int .i64 0]) ∧ f 0 = .int .i64 (kindD d) ∧ (∀ i, i < 21 → (f i).oneCell' = true) ∧ ∀ wz, Keeps (fun c => w.heap.size ≤ c) w' wz → MsgOf wz f b) ∧ Below w.heap.size w w' :=
  (read_msg b hb w).mono fun e w' ⟨he, h2⟩ => ⟨by
    rw [hd] at he
    obtain ⟨f', lo, hi, rfl, hlo, hhi, hR⟩ := he
    obtain ⟨_, _, _, _, hMA⟩ := msgR_cells hR
    refine ⟨f', rfl, hMA.y0, msg_one hR, fun wz hk => ?_⟩
    obtain ⟨u9, u10, u13, u15, hMA⟩ := msgR_cells (sound_msg.keep hR fun c h1 h2 => hk.block c (Nat.le_trans hlo h1) (Nat.lt_of_lt_of_le h2 hhi))
    exact ⟨msg_one hR, d, u9, u10, u13, u15, hd, hMA⟩, h2⟩
theorem read17n {b : ByteArray} (hb : b.size ≤ 1000000) (hd : msgRd b = none) (w : World) :
    Calls Try.prog 27 #[.string b] w fun e w' => e = .returned (.tuple #[.agg (row 21 zM), .int .i64 2]) ∧ Below w.heap.size w w' :=
  (read_msg b hb w).mono fun e w' ⟨he, h2⟩ => ⟨by rw [hd] at he; exact he, h2⟩
set_option maxRecDepth 100000 in
set_option maxHeartbeats 4000000 in
theorem pop17 (O : Nat → Prop) (w : World) (g : Nat) (t : Qu) (i : Int) (h : At17 O w g t) (hI : InvQ t) (_hr : -9223372036854775808 ≤ i ∧ i ≤ 9223372036854775807) : Calls Try.prog 14 #[.pointer (some ⟨g, 0, none⟩), .int .i64 i] w fun e w' => ∃ f B, e = .returned (.tuple #[.agg (row 21 f), .bool B]) ∧ Popped t i f B w' ∧ Next17 At17 O w g (popQ t i) w' := by
  obtain ⟨v1, v2, hM, hO⟩ := h
  have HM := Lib.hid hM
  have HO := Lib.hid hO
  have HI := Lib.hid hI
  have l1 := hI.l1
  have l2 := hI.l2
  obtain ⟨N, hN⟩ : ∃ N, t.first.length + t.second.length = N := ⟨_, rfl⟩
  have HN := Lib.hid (show (allQ t).length = N by unfold allQ; rw [List.length_append, hN])
  have hN1 : (N : Int) ≤ 128 := by omega
  have hN0 : (0 : Int) ≤ (N : Int) := by omega
  have HLN := Lib.hid (fun (wx : World) (hx : QM wx g t v1 v2) => hN ▸ lenM17 hx hI)
  clear hM hO hI l1 l2 hN
  go_enter Try.func14, Try.ntmps14
  go_wp2_with fail
  obtain ⟨a, ha⟩ : ∃ a, w.heap.size = a := ⟨_, rfl⟩
  have k0 : Blk (w.alloc (.cells #[.int .i64 0, .int .i64 0, .int .i64 0, .int .i64 0, .string ⟨#[]⟩, .int .i64 0, .int .i64 0, .int .i64 0, .string ⟨#[]⟩, .slice none 0 0, .slice none 0 0, .int .i64 0, .string ⟨#[]⟩, .slice none 0 0, .int .i64 0, .slice none 0 0, .int .i64 0, .int .i64 0, .string ⟨#[]⟩, .int .i64 0, .string ⟨#[]⟩] 42)) a 21 zM := Blk.new' ha.symm zM_row
  have b0 := (Below.refl w.heap.size w).alloc (Nat.le_refl _) (.cells #[.int .i64 0, .int .i64 0, .int .i64 0, .int .i64 0, .string ⟨#[]⟩, .int .i64 0, .int .i64 0, .int .i64 0, .string ⟨#[]⟩, .slice none 0 0, .slice none 0 0, .int .i64 0, .string ⟨#[]⟩, .slice none 0 0, .int .i64 0, .slice none 0 0, .int .i64 0, .int .i64 0, .string ⟨#[]⟩, .int .i64 0, .string ⟨#[]⟩] 42)
  have hz1 : (w.alloc (.cells #[.int .i64 0, .int .i64 0, .int .i64 0, .int .i64 0, .string ⟨#[]⟩, .int .i64 0, .int .i64 0, .int .i64 0, .string ⟨#[]⟩, .slice none 0 0, .slice none 0 0, .int .i64 0, .string ⟨#[]⟩, .slice none 0 0, .int .i64 0, .slice none 0 0, .int .i64 0, .int .i64 0, .string ⟨#[]⟩, .int .i64 0, .string ⟨#[]⟩] 42)).heap.size = a + 1 := by simp [ha]
  rw [ha] at b0 ⊢
  generalize w.alloc (.cells #[.int .i64 0, .int .i64 0, .int .i64 0, .int .i64 0, .string ⟨#[]⟩, .int .i64 0, .int .i64 0, .int .i64 0, .string ⟨#[]⟩, .slice none 0 0, .slice none 0 0, .int .i64 0, .string ⟨#[]⟩, .slice none 0 0, .int .i64 0, .slice none 0 0, .int .i64 0, .int .i64 0, .string ⟨#[]⟩, .int .i64 0, .string ⟨#[]⟩] 42) = w1 at *
  have B1 := Lib.hid b0
  have K1 := Lib.hid k0
  have Z1 := Lib.hid hz1
  have HA := Lib.hid ha
  have M1 := Lib.hid (HM.out.below (ha ▸ b0))
  clear k0 b0 hz1 ha
  refine (HLN.out w1 M1.out).mono ?_
  rintro e w2 ⟨rfl, hb2⟩
  have B2 := Lib.hid (B1.out.trans (hb2.mono (by have := Z1.out; omega)))
  have K2 := Lib.hid (K1.out.below hb2 K1.out.lt)
  have Z2 := Lib.hid (show a + 1 ≤ w2.heap.size from Z1.out ▸ hb2.size)
  have M2 := Lib.hid (M1.out.below hb2)
  clear hb2 B1 K1 Z1 M1
  by_cases h0 : N = 0
  · subst h0
    have HP := Lib.hid (show allQ t = [] from List.eq_nil_of_length_eq_zero HN.out)
    have HQ := Lib.hid (popQ_nil HP.out i)
    go_wp2_with (with_reducible refine hold_store (.tmp 4) (.tmp 13) rfl ?_)
    refine wpl_store (.tmp 4) (.tmp 13) a 0 21 21 zM zM rfl rfl (by rfl) (by rfl) (size_msg _) K2.out (by omega) zM_one ?_
    intro w6 h6
    have K6 := Lib.hid (h6.1.congr zM fun i hi => by simp)
    have U6 := Lib.hid h6.2
    clear h6
    go_wp2_with fail
    refine bodyPost_ret (v := .tuple #[.agg (row 21 zM), .bool false]) (results_row2 (b := a) (N := 21) (m := 21) (f := zM) Try.results14 (by simp) (by simp) (agg_msg _) (size_msg _) K6.out.cells (Nat.le_refl _)) rfl ⟨zM, false, rfl, .inl ⟨rfl, HP.out, rfl⟩, ?_⟩
    rw [HQ.out]
    have hb := B2.out.trans (U6.out.below (Nat.le_refl a))
    rw [← HA.out] at hb
    exact at17_same ⟨v1, v2, HM.out, HO.out⟩ hb
  · have hn0 : (0 : Int) < (N : Int) := by omega
    have HIX := Lib.hid (show i % (N : Int) = ((ixQ t i : Nat) : Int) by
      unfold ixQ; rw [HN.out]
      have := Int.emod_nonneg i (show (N : Int) ≠ 0 by omega)
      omega)
    have HLT := Lib.hid (show ixQ t i < (allQ t).length by
      have := HIX.out
      have := Int.emod_lt_of_pos i hn0
      rw [HN.out]; omega)
    have en0 : ((N : Int) == 0) = false := by rw [beq_eq_false_iff_ne]; omega
    clear h0
    go_wp2_with fail
    refine (fromZ_any i (N : Int) hn0 (by omega) w2).mono ?_
    rintro e w3 ⟨rfl, rfl⟩
    rw [HIX.out]
    go_wp2_with fail
    refine (takeM17 M2.out HI.out (ixQ t i) HLT.out).mono ?_
    rintro e w4 ⟨rfl, u1, u2, hM4, hK4, hL4⟩
    rw [takeQ_pop] at hM4
    obtain ⟨hsz, d, hd⟩ := all_mem HI.out HLT.out
    obtain ⟨b, hb⟩ : ∃ b, (allQ t).getD (ixQ t i) ⟨#[]⟩ = b := ⟨_, rfl⟩
    have HB := Lib.hid hb
    rw [hb] at hsz hd ⊢
    have M4 := Lib.hid hM4
    have K4 := Lib.hid (show Keeps (fun b => ¬ OwnQ g v1 v2 b) w w4 from (Keeps.of (HA.out ▸ B2.out)).trans hK4)
    have L4 := Lib.hid (show ∀ b, OwnQ g u1 u2 b → OwnQ g v1 v2 b ∨ a + 1 ≤ b from fun b hb => (hL4 b hb).imp id fun h => by have := Z2.out; omega)
    have KA4 := Lib.hid (show Blk w4 a 21 zM from K2.out.of_heap (hK4.block a (fun h => by have := HM.out.lt a h; have := HA.out; omega) K2.out.lt))
    have HS := Lib.hid hsz
    have HD := Lib.hid hd
    clear hM4 hK4 hL4 hsz hd hb
    go_wp2_with fail
    refine (read17 HS.out HD.out w4).mono ?_
    rintro e w5 ⟨⟨f, rfl, hf0, hone, hmo⟩, hb5⟩
    have MO := Lib.hid hmo
    have ONE := Lib.hid hone
    have B5 := Lib.hid hb5
    have M5 := Lib.hid (M4.out.below hb5)
    have KA5 := Lib.hid (KA4.out.below hb5 KA4.out.lt)
    clear hf0 hmo hone hb5
    go_wp2_with (with_reducible refine hold_store (.tmp 7) (.tmp 21) rfl ?_)
    obtain ⟨y, hy⟩ : ∃ y, w5.heap.size = y := ⟨_, rfl⟩
    have k0 : Blk (w5.alloc (.cells #[.int .i64 0, .int .i64 0, .int .i64 0, .int .i64 0, .string ⟨#[]⟩, .int .i64 0, .int .i64 0, .int .i64 0, .string ⟨#[]⟩, .slice none 0 0, .slice none 0 0, .int .i64 0, .string ⟨#[]⟩, .slice none 0 0, .int .i64 0, .slice none 0 0, .int .i64 0, .int .i64 0, .string ⟨#[]⟩, .int .i64 0, .string ⟨#[]⟩] 42)) y 21 zM := Blk.new' hy.symm zM_row
    have b0 := (Below.refl w5.heap.size w5).alloc (Nat.le_refl _) (.cells #[.int .i64 0, .int .i64 0, .int .i64 0, .int .i64 0, .string ⟨#[]⟩, .int .i64 0, .int .i64 0, .int .i64 0, .string ⟨#[]⟩, .slice none 0 0, .slice none 0 0, .int .i64 0, .string ⟨#[]⟩, .slice none 0 0, .int .i64 0, .slice none 0 0, .int .i64 0, .int .i64 0, .string ⟨#[]⟩, .int .i64 0, .string ⟨#[]⟩] 42)
    rw [hy] at b0 ⊢
    generalize w5.alloc (.cells #[.int .i64 0, .int .i64 0, .int .i64 0, .int .i64 0, .string ⟨#[]⟩, .int .i64 0, .int .i64 0, .int .i64 0, .string ⟨#[]⟩, .slice none 0 0, .slice none 0 0, .int .i64 0, .string ⟨#[]⟩, .slice none 0 0, .int .i64 0, .slice none 0 0, .int .i64 0, .int .i64 0, .string ⟨#[]⟩, .int .i64 0, .string ⟨#[]⟩] 42) = w6 at *
    have B6 := Lib.hid b0
    have K6 := Lib.hid k0
    have HY := Lib.hid hy
    have HAY := Lib.hid (show a < y by have := KA5.out.lt; omega)
    clear k0 b0 hy
    refine wpl_store (.tmp 7) (.tmp 21) y 0 21 21 zM f rfl rfl (by rfl) (by rfl) (size_msg _) K6.out (by omega) ONE.out ?_
    intro w7 h7
    have K7 := Lib.hid (h7.1.congr f fun i hi => by simp [hi])
    have U7 := Lib.hid h7.2
    clear h7
    go_wp2_with (with_reducible refine hold_load (.tmp 7) rfl ?_)
    refine wpl_load (.tmp 7) y 0 21 21 f rfl rfl (by rfl) (agg_msg _) (size_msg _) K7.out.cells (by omega) ?_
    simp only [Nat.zero_add]
    have B7 := Lib.hid (show Below y w5 w7 from B6.out.trans (U7.out.below (Nat.le_refl y)))
    have KA7 := Lib.hid (show Blk w7 a 21 zM from KA5.out.of_heap (B7.out.block a HAY.out))
    go_wp2_with (with_reducible refine hold_store (.tmp 4) (.tmp 23) rfl ?_)
    refine wpl_store (.tmp 4) (.tmp 23) a 0 21 21 zM f rfl rfl (by rfl) (by rfl) (size_msg _) KA7.out (by omega) ONE.out ?_
    intro w8 h8
    have K8 := Lib.hid (h8.1.congr f fun i hi => by simp [hi])
    have U8 := Lib.hid h8.2
    clear h8
    go_wp2_with fail
    have hB7 : Below w5.heap.size w5 w7 := HY.out ▸ B7.out
    have hK8 : Keeps (fun b => b ≠ a) w5 w8 := (Keeps.of hB7).trans (Keeps.upd U8.out fun _ h => h)
    have ha4 : ¬ OwnQ g u1 u2 a := fun h => by
      rcases L4.out a h with h1 | h1
      · have := HM.out.lt a h1; have := HA.out; omega
      · omega
    refine bodyPost_ret (v := .tuple #[.agg (row 21 f), .bool true]) (results_row2 (b := a) (N := 21) (m := 21) (f := f) Try.results14 (by simp) (by simp) (agg_msg _) (size_msg _) K8.out.cells (Nat.le_refl _)) rfl ⟨f, true, rfl, .inr ⟨rfl, fun e => by have := HLT.out; rw [e] at this; simp at this, ?_⟩, OwnQ g u1 u2, ⟨u1, u2, ?_, fun _ => Iff.rfl⟩, ?_, ?_⟩
    · rw [HB.out]
      exact MO.out w8 (hK8.sub fun b hb _ => by have := KA4.out.lt; have hb : w4.heap.size ≤ b := hb; omega)
    · exact M5.out.on (hK8.sub fun b hb _ e => ha4 (e ▸ hb))
    · have hK5 := K4.out.trans (Keeps.of B5.out)
      exact ⟨hK5.b0.trans hK8.b0, fun b hb hl => (hK8.block b (by have := HA.out; omega) (Nat.lt_of_lt_of_le hl hK5.b0.size)).trans (hK5.block b (fun h => hb ((HO.out b).2 h)) hl)⟩
    · exact fun b hb => (L4.out b hb).imp (HO.out b).2 fun h => by have := HA.out; omega
set_option maxRecDepth 100000 in
set_option maxHeartbeats 4000000 in
theorem push17_0 (O : Nat → Prop) (w : World) (g : Nat) (t : Qu) (b : ByteArray) (h : At17 O w g t) (hI : InvQ t) (hd : t.dropped ≤ 1000000) (hb : b.size ≤ 1000000) (d : MsgD) (hr : msgRd b = some d) (hc : clientD d = false) : Calls Try.prog 11 #[.pointer (some ⟨g, 0, none⟩), .string b] w fun e w' => e = .returned (.int .i64 (pushQ t b).2) ∧ Next17 At17 O w g (pushQ t b).1 w' := by
  obtain ⟨v1, v2, hM, hO⟩ := h
  have HM := Lib.hid hM
  have HO := Lib.hid hO
  have HSZ := Lib.hid hb
  have HR := Lib.hid hr
  have HL := Lib.hid hI.l1
  have HD0 := Lib.hid hI.d0
  have HDR := Lib.hid hd
  have HC := Lib.hid hc
  have HPU := Lib.hid (show pushQ t b = (if 64 ≤ t.first.length then (⟨t.first, t.second, t.dropped + 1⟩, 7) else (⟨t.first ++ [b], t.second, t.dropped⟩, 0)) by unfold pushQ; rw [hr]; simp only [hc]; rfl)
  obtain ⟨sa, sc, rfl⟩ := row_shapeU HM.out.r1
  have M := Lib.hid (fun (wx : World) (hb : Below w.heap.size w wx) => HM.out.below hb)
  clear hM hO hb hr hI hd hc
  go_enter Try.func11, Try.ntmps11
  go_wp2_with fail
  refine (read17 HSZ.out HR.out w).mono ?_
  rintro e w1 ⟨⟨f, rfl, hf0, hone, _⟩, hb1⟩
  have B1 := Lib.hid hb1
  have F0 := Lib.hid hf0
  have ONE := Lib.hid hone
  clear hb1 hf0 hone
  go_wp2_with (with_reducible refine hold_store (.tmp 5) (.tmp 11) rfl ?_)
  obtain ⟨y, hy⟩ : ∃ y, w1.heap.size = y := ⟨_, rfl⟩
  have k0 : Blk (w1.alloc (.cells #[.int .i64 0, .int .i64 0, .int .i64 0, .int .i64 0, .string ⟨#[]⟩, .int .i64 0, .int .i64 0, .int .i64 0, .string ⟨#[]⟩, .slice none 0 0, .slice none 0 0, .int .i64 0, .string ⟨#[]⟩, .slice none 0 0, .int .i64 0, .slice none 0 0, .int .i64 0, .int .i64 0, .string ⟨#[]⟩, .int .i64 0, .string ⟨#[]⟩] 42)) y 21 zM := Blk.new' hy.symm zM_row
  have b0 := (Below.refl w1.heap.size w1).alloc (Nat.le_refl _) (.cells #[.int .i64 0, .int .i64 0, .int .i64 0, .int .i64 0, .string ⟨#[]⟩, .int .i64 0, .int .i64 0, .int .i64 0, .string ⟨#[]⟩, .slice none 0 0, .slice none 0 0, .int .i64 0, .string ⟨#[]⟩, .slice none 0 0, .int .i64 0, .slice none 0 0, .int .i64 0, .int .i64 0, .string ⟨#[]⟩, .int .i64 0, .string ⟨#[]⟩] 42)
  rw [hy] at b0 ⊢
  generalize w1.alloc (.cells #[.int .i64 0, .int .i64 0, .int .i64 0, .int .i64 0, .string ⟨#[]⟩, .int .i64 0, .int .i64 0, .int .i64 0, .string ⟨#[]⟩, .slice none 0 0, .slice none 0 0, .int .i64 0, .string ⟨#[]⟩, .slice none 0 0, .int .i64 0, .slice none 0 0, .int .i64 0, .int .i64 0, .string ⟨#[]⟩, .int .i64 0, .string ⟨#[]⟩] 42) = w2 at *
  have B2 := Lib.hid b0
  have K2 := Lib.hid k0
  have HY := Lib.hid hy
  clear k0 b0 hy
  refine wpl_store (.tmp 5) (.tmp 11) y 0 21 21 zM f rfl rfl (by rfl) (by rfl) (size_msg _) K2.out (by omega) ONE.out ?_
  intro w3 h3
  have K3 := Lib.hid (h3.1.congr f fun i hi => by simp [hi])
  have B3 := Lib.hid (show Below w.heap.size w w3 from B1.out.trans ((show Below w1.heap.size w1 w3 from HY.out ▸ (B2.out.trans (h3.2.below (Nat.le_refl y)))).mono B1.out.size))
  clear h3
  go_upto_region 4 with fail
  refine plan_abs (fun wx => Below w3.heap.size w3 wx) [(true, 0), (true, 1), (true, 2), (true, 4), (true, 5), (false, 3), (true, 6), (true, 7)] (by kernel_rfl) (by kernel_rfl) (fun _ _ d _ _ h => by cases d <;> exact h) fun w5 hs5 => ⟨hs5.below _, ?_⟩
  have B5 := Lib.hid (hs5.below w3.heap.size)
  clear hs5
  iterate 5 (refine pl_run _ ?_ rfl rfl ?_ ?_; rotate_left; (focus (intro w' hS; have c9 := ((K3.out.below hS K3.out.lt).get 0 (by omega)).trans (congrArg some F0.out); go_simp; exact rfl)); simp only [Act.put, List.setIfInBounds_toArray, List.set_cons_zero, List.set_cons_succ, List.getElem_toArray, List.getElem_cons_zero, List.getElem_cons_succ])
  refine pl_call1 _ rfl rfl (by go_simp) ((lane_is (kindD d) w5).mono fun e w' ⟨h1, h2⟩ => ⟨h1, below_eqU h2⟩) (fun w9 hb => (B5.out.trans (hb.mono B5.out.size))) fun w6 hb6 => ?_
  have B6 := Lib.hid (B5.out.trans (hb6.mono B5.out.size))
  clear hb6
  rw [show (if (decide (kindD d = 4) || decide (kindD d = 5)) = true then (1 : Int) else 0) = 0 from by rw [show (decide (kindD d = 4) || decide (kindD d = 5)) = false from HC.out]; rfl]
  simp only [Act.put, List.setIfInBounds_toArray, List.set_cons_zero, List.set_cons_succ, List.getElem_toArray, List.getElem_cons_zero, List.getElem_cons_succ]
  iterate 2 (refine pl_run _ ?_ rfl rfl ?_ ?_; rotate_left; (focus (intro w' hS; go_simp; exact rfl)); simp only [Act.put, List.setIfInBounds_toArray, List.set_cons_zero, List.set_cons_succ, List.getElem_toArray, List.getElem_cons_zero, List.getElem_cons_succ])
  refine pl_end ?_
  have W6 := Lib.hid (show Below w.heap.size w w6 from B3.out.trans (B6.out.mono B3.out.size))
  have M6 := Lib.hid (M.out w6 W6.out)
  obtain ⟨c0, _, c2⟩ := RR.cells3 M6.out.blk
  have f2 := M6.out.blk.frz 2
  have hl0 : (t.first.length : Int) ≤ 64 := by have := HL.out; omega
  have d0 := HD0.out
  have d1 := HDR.out
  by_cases h64 : 64 ≤ t.first.length
  · have h64' : (64 : Int) ≤ (t.first.length : Int) := by omega
    have HQ := Lib.hid (show pushQ t b = (⟨t.first, t.second, t.dropped + 1⟩, 7) by rw [HPU.out, if_pos h64])
    clear h64
    go_wp2_with fail
    go_ret
    rw [HQ.out]
    obtain ⟨k1, k2⟩ := M6.out.drop
    exact ⟨rfl, OwnQ g (.slice sa t.first.length sc) v2, ⟨_, _, k1, fun _ => Iff.rfl⟩, ((Keeps.of W6.out).trans k2).sub fun b hb _ h => hb ((HO.out b).2 h), fun b hb => .inl ((HO.out b).2 hb)⟩
  · have h64' : ¬ (64 : Int) ≤ (t.first.length : Int) := by omega
    have HQ := Lib.hid (show pushQ t b = (⟨t.first ++ [b], t.second, t.dropped⟩, 0) by rw [HPU.out, if_neg h64])
    clear h64
    go_wp2_with (with_reducible refine hold_app rfl ?_)
    have BA := (Below.refl w6.heap.size w6).alloc (Nat.le_refl _) (.cells #[.string b] 9)
    have HNW := cells1_newU w6 (.string b) 9
    obtain ⟨wa, hwa⟩ : ∃ wa, w6.alloc (.cells #[.string b] 9) = wa := ⟨_, rfl⟩
    rw [hwa] at BA HNW ⊢
    clear hwa
    have MA := Lib.hid (M6.out.below BA)
    have WA := Lib.hid (W6.out.trans (BA.mono W6.out.size))
    obtain ⟨ti, i1, i2, i3, i4⟩ := info_parts info_strU
    obtain ⟨u', w12, hrun, hown, hgr, _, hloc⟩ := run_append_own_at (P := Try.prog) (w := wa) 0 36 36 9 ti _ 1 16 und_strsU i1 i2 i3 i4 rfl (by decide) _ t.first.length (t.first.map Value.string) MA.out.r1 ⟨w6.heap.size, 0, none⟩ 1 1 [.string b] rfl HNW (cells1_oneU b) (by have := HL.out; unfold maxLen; omega) (by have := HL.out; omega) (Nat.zero_le _)
    obtain ⟨ua, uc, rfl⟩ := row_shapeU hown
    have HOD := Lib.hid (show w12.ownsRow 0 9 1 (.slice ua (t.first.length + 1) uc) (t.first ++ [b]).length ((t.first ++ [b]).map Value.string) by rw [List.map_append, List.length_append]; exact hown)
    have HLD := Lib.hid (show ∀ b, (Value.slice ua (t.first.length + 1) uc).ownBlock = some b → (Value.slice sa t.first.length sc).ownBlock = some b ∨ wa.heap.size ≤ b from fun b hb => by
      rcases hloc with h | h
      · exact Or.inl (h ▸ hb)
      · rw [h] at hb; injection hb with hb; exact Or.inr (by omega))
    have HKG := Lib.hid (show Keeps (fun b => (Value.slice sa t.first.length sc).ownBlock ≠ some b) wa w12 from Keeps.grown hgr fun b e c => c e)
    refine wpl_append_runU rfl (.tmp 37) (.tmp 39) 36 rfl (by simpa [Act.eval] using hrun) ?_
    clear hgr hown hloc i1 i2 i3 i4 hrun HNW BA c0 c2 f2
    have HG := Lib.hid ((MA.out.blk).of_heap (HKG.out.block g MA.out.g1 MA.out.blk.lt))
    obtain ⟨e0, e1, _⟩ := RR.cells3 HG.out
    have f0 := HG.out.frz 0
    go_wp2_with fail
    go_ret
    rw [HQ.out]
    obtain ⟨k1, k2, k3⟩ := MA.out.lane1 HOD.out HKG.out HLD.out
    exact ⟨rfl, OwnQ g (.slice ua (t.first.length + 1) uc) v2, ⟨_, _, k1, fun _ => Iff.rfl⟩, ((Keeps.of WA.out).trans k2).sub fun b hb _ h => hb ((HO.out b).2 h), fun b hb => (k3 b hb).imp (HO.out b).2 fun h => Nat.le_trans WA.out.size h⟩
set_option maxRecDepth 100000 in
set_option maxHeartbeats 4000000 in
theorem push17_1 (O : Nat → Prop) (w : World) (g : Nat) (t : Qu) (b : ByteArray) (h : At17 O w g t) (hI : InvQ t) (hd : t.dropped ≤ 1000000) (hb : b.size ≤ 1000000) (d : MsgD) (hr : msgRd b = some d) (hc : clientD d = true) : Calls Try.prog 11 #[.pointer (some ⟨g, 0, none⟩), .string b] w fun e w' => e = .returned (.int .i64 (pushQ t b).2) ∧ Next17 At17 O w g (pushQ t b).1 w' := by
  obtain ⟨v1, v2, hM, hO⟩ := h
  have HM := Lib.hid hM
  have HO := Lib.hid hO
  have HSZ := Lib.hid hb
  have HR := Lib.hid hr
  have HL := Lib.hid hI.l2
  have HD0 := Lib.hid hI.d0
  have HDR := Lib.hid hd
  have HC := Lib.hid hc
  have HPU := Lib.hid (show pushQ t b = (if 64 ≤ t.second.length then (⟨t.first, t.second, t.dropped + 1⟩, 7) else (⟨t.first, t.second ++ [b], t.dropped⟩, 0)) by unfold pushQ; rw [hr]; simp only [hc]; rfl)
  obtain ⟨sa, sc, rfl⟩ := row_shapeU HM.out.r2
  have M := Lib.hid (fun (wx : World) (hb : Below w.heap.size w wx) => HM.out.below hb)
  clear hM hO hb hr hI hd hc
  go_enter Try.func11, Try.ntmps11
  go_wp2_with fail
  refine (read17 HSZ.out HR.out w).mono ?_
  rintro e w1 ⟨⟨f, rfl, hf0, hone, _⟩, hb1⟩
  have B1 := Lib.hid hb1
  have F0 := Lib.hid hf0
  have ONE := Lib.hid hone
  clear hb1 hf0 hone
  go_wp2_with (with_reducible refine hold_store (.tmp 5) (.tmp 11) rfl ?_)
  obtain ⟨y, hy⟩ : ∃ y, w1.heap.size = y := ⟨_, rfl⟩
  have k0 : Blk (w1.alloc (.cells #[.int .i64 0, .int .i64 0, .int .i64 0, .int .i64 0, .string ⟨#[]⟩, .int .i64 0, .int .i64 0, .int .i64 0, .string ⟨#[]⟩, .slice none 0 0, .slice none 0 0, .int .i64 0, .string ⟨#[]⟩, .slice none 0 0, .int .i64 0, .slice none 0 0, .int .i64 0, .int .i64 0, .string ⟨#[]⟩, .int .i64 0, .string ⟨#[]⟩] 42)) y 21 zM := Blk.new' hy.symm zM_row
  have b0 := (Below.refl w1.heap.size w1).alloc (Nat.le_refl _) (.cells #[.int .i64 0, .int .i64 0, .int .i64 0, .int .i64 0, .string ⟨#[]⟩, .int .i64 0, .int .i64 0, .int .i64 0, .string ⟨#[]⟩, .slice none 0 0, .slice none 0 0, .int .i64 0, .string ⟨#[]⟩, .slice none 0 0, .int .i64 0, .slice none 0 0, .int .i64 0, .int .i64 0, .string ⟨#[]⟩, .int .i64 0, .string ⟨#[]⟩] 42)
  rw [hy] at b0 ⊢
  generalize w1.alloc (.cells #[.int .i64 0, .int .i64 0, .int .i64 0, .int .i64 0, .string ⟨#[]⟩, .int .i64 0, .int .i64 0, .int .i64 0, .string ⟨#[]⟩, .slice none 0 0, .slice none 0 0, .int .i64 0, .string ⟨#[]⟩, .slice none 0 0, .int .i64 0, .slice none 0 0, .int .i64 0, .int .i64 0, .string ⟨#[]⟩, .int .i64 0, .string ⟨#[]⟩] 42) = w2 at *
  have B2 := Lib.hid b0
  have K2 := Lib.hid k0
  have HY := Lib.hid hy
  clear k0 b0 hy
  refine wpl_store (.tmp 5) (.tmp 11) y 0 21 21 zM f rfl rfl (by rfl) (by rfl) (size_msg _) K2.out (by omega) ONE.out ?_
  intro w3 h3
  have K3 := Lib.hid (h3.1.congr f fun i hi => by simp [hi])
  have B3 := Lib.hid (show Below w.heap.size w w3 from B1.out.trans ((show Below w1.heap.size w1 w3 from HY.out ▸ (B2.out.trans (h3.2.below (Nat.le_refl y)))).mono B1.out.size))
  clear h3
  go_upto_region 4 with fail
  refine plan_abs (fun wx => Below w3.heap.size w3 wx) [(true, 0), (true, 1), (true, 2), (true, 4), (true, 5), (false, 3), (true, 6), (true, 7)] (by kernel_rfl) (by kernel_rfl) (fun _ _ d _ _ h => by cases d <;> exact h) fun w5 hs5 => ⟨hs5.below _, ?_⟩
  have B5 := Lib.hid (hs5.below w3.heap.size)
  clear hs5
  iterate 5 (refine pl_run _ ?_ rfl rfl ?_ ?_; rotate_left; (focus (intro w' hS; have c9 := ((K3.out.below hS K3.out.lt).get 0 (by omega)).trans (congrArg some F0.out); go_simp; exact rfl)); simp only [Act.put, List.setIfInBounds_toArray, List.set_cons_zero, List.set_cons_succ, List.getElem_toArray, List.getElem_cons_zero, List.getElem_cons_succ])
  refine pl_call1 _ rfl rfl (by go_simp) ((lane_is (kindD d) w5).mono fun e w' ⟨h1, h2⟩ => ⟨h1, below_eqU h2⟩) (fun w9 hb => (B5.out.trans (hb.mono B5.out.size))) fun w6 hb6 => ?_
  have B6 := Lib.hid (B5.out.trans (hb6.mono B5.out.size))
  clear hb6
  rw [show (if (decide (kindD d = 4) || decide (kindD d = 5)) = true then (1 : Int) else 0) = 1 from by rw [show (decide (kindD d = 4) || decide (kindD d = 5)) = true from HC.out]; rfl]
  simp only [Act.put, List.setIfInBounds_toArray, List.set_cons_zero, List.set_cons_succ, List.getElem_toArray, List.getElem_cons_zero, List.getElem_cons_succ]
  iterate 2 (refine pl_run _ ?_ rfl rfl ?_ ?_; rotate_left; (focus (intro w' hS; go_simp; exact rfl)); simp only [Act.put, List.setIfInBounds_toArray, List.set_cons_zero, List.set_cons_succ, List.getElem_toArray, List.getElem_cons_zero, List.getElem_cons_succ])
  refine pl_end ?_
  have W6 := Lib.hid (show Below w.heap.size w w6 from B3.out.trans (B6.out.mono B3.out.size))
  have M6 := Lib.hid (M.out w6 W6.out)
  obtain ⟨_, c0, c2⟩ := RR.cells3 M6.out.blk
  have f2 := M6.out.blk.frz 2
  have hl0 : (t.second.length : Int) ≤ 64 := by have := HL.out; omega
  have d0 := HD0.out
  have d1 := HDR.out
  by_cases h64 : 64 ≤ t.second.length
  · have h64' : (64 : Int) ≤ (t.second.length : Int) := by omega
    have HQ := Lib.hid (show pushQ t b = (⟨t.first, t.second, t.dropped + 1⟩, 7) by rw [HPU.out, if_pos h64])
    clear h64
    go_wp2_with fail
    go_ret
    rw [HQ.out]
    obtain ⟨k1, k2⟩ := M6.out.drop
    exact ⟨rfl, OwnQ g v1 (.slice sa t.second.length sc), ⟨_, _, k1, fun _ => Iff.rfl⟩, ((Keeps.of W6.out).trans k2).sub fun b hb _ h => hb ((HO.out b).2 h), fun b hb => .inl ((HO.out b).2 hb)⟩
  · have h64' : ¬ (64 : Int) ≤ (t.second.length : Int) := by omega
    have HQ := Lib.hid (show pushQ t b = (⟨t.first, t.second ++ [b], t.dropped⟩, 0) by rw [HPU.out, if_neg h64])
    clear h64
    go_wp2_with (with_reducible refine hold_app rfl ?_)
    have BA := (Below.refl w6.heap.size w6).alloc (Nat.le_refl _) (.cells #[.string b] 9)
    have HNW := cells1_newU w6 (.string b) 9
    obtain ⟨wa, hwa⟩ : ∃ wa, w6.alloc (.cells #[.string b] 9) = wa := ⟨_, rfl⟩
    rw [hwa] at BA HNW ⊢
    clear hwa
    have MA := Lib.hid (M6.out.below BA)
    have WA := Lib.hid (W6.out.trans (BA.mono W6.out.size))
    obtain ⟨ti, i1, i2, i3, i4⟩ := info_parts info_strU
    obtain ⟨u', w12, hrun, hown, hgr, _, hloc⟩ := run_append_own_at (P := Try.prog) (w := wa) 0 36 36 9 ti _ 1 16 und_strsU i1 i2 i3 i4 rfl (by decide) _ t.second.length (t.second.map Value.string) MA.out.r2 ⟨w6.heap.size, 0, none⟩ 1 1 [.string b] rfl HNW (cells1_oneU b) (by have := HL.out; unfold maxLen; omega) (by have := HL.out; omega) (Nat.zero_le _)
    obtain ⟨ua, uc, rfl⟩ := row_shapeU hown
    have HOD := Lib.hid (show w12.ownsRow 0 9 1 (.slice ua (t.second.length + 1) uc) (t.second ++ [b]).length ((t.second ++ [b]).map Value.string) by rw [List.map_append, List.length_append]; exact hown)
    have HLD := Lib.hid (show ∀ b, (Value.slice ua (t.second.length + 1) uc).ownBlock = some b → (Value.slice sa t.second.length sc).ownBlock = some b ∨ wa.heap.size ≤ b from fun b hb => by
      rcases hloc with h | h
      · exact Or.inl (h ▸ hb)
      · rw [h] at hb; injection hb with hb; exact Or.inr (by omega))
    have HKG := Lib.hid (show Keeps (fun b => (Value.slice sa t.second.length sc).ownBlock ≠ some b) wa w12 from Keeps.grown hgr fun b e c => c e)
    refine wpl_append_runU rfl (.tmp 37) (.tmp 39) 36 rfl (by simpa [Act.eval] using hrun) ?_
    clear hgr hown hloc i1 i2 i3 i4 hrun HNW BA c0 c2 f2
    have HG := Lib.hid ((MA.out.blk).of_heap (HKG.out.block g MA.out.g2 MA.out.blk.lt))
    obtain ⟨e0, e1, _⟩ := RR.cells3 HG.out
    have f0 := HG.out.frz 1
    go_wp2_with fail
    go_ret
    rw [HQ.out]
    obtain ⟨k1, k2, k3⟩ := MA.out.lane2 HOD.out HKG.out HLD.out
    exact ⟨rfl, OwnQ g v1 (.slice ua (t.second.length + 1) uc), ⟨_, _, k1, fun _ => Iff.rfl⟩, ((Keeps.of WA.out).trans k2).sub fun b hb _ h => hb ((HO.out b).2 h), fun b hb => (k3 b hb).imp (HO.out b).2 fun h => Nat.le_trans WA.out.size h⟩
set_option maxRecDepth 100000 in
set_option maxHeartbeats 4000000 in
theorem push17 (O : Nat → Prop) (w : World) (g : Nat) (t : Qu) (b : ByteArray) (h : At17 O w g t) (hI : InvQ t) (hd : t.dropped ≤ 1000000) (hb : b.size ≤ 1000000) : Calls Try.prog 11 #[.pointer (some ⟨g, 0, none⟩), .string b] w fun e w' => e = .returned (.int .i64 (pushQ t b).2) ∧ Next17 At17 O w g (pushQ t b).1 w' := by
  obtain ⟨v1, v2, hM, hO⟩ := h
  have HM := Lib.hid hM
  have HO := Lib.hid hO
  have HI := Lib.hid hI
  have HDR := Lib.hid hd
  have HSZ := Lib.hid hb
  clear hM hO hd hb hI
  cases hr : msgRd b with
  | none =>
    have HR := Lib.hid hr
    have HP := Lib.hid (push_none (q := t) hr)
    clear hr
    go_enter Try.func11, Try.ntmps11
    go_wp2_with fail
    refine (read17n HSZ.out HR.out w).mono ?_
    rintro e w1 ⟨rfl, hb1⟩
    have B1 := Lib.hid hb1
    clear hb1
    go_wp2_with (with_reducible refine hold_store (.tmp 5) (.tmp 11) rfl ?_)
    obtain ⟨y, hy⟩ : ∃ y, w1.heap.size = y := ⟨_, rfl⟩
    have k0 : Blk (w1.alloc (.cells #[.int .i64 0, .int .i64 0, .int .i64 0, .int .i64 0, .string ⟨#[]⟩, .int .i64 0, .int .i64 0, .int .i64 0, .string ⟨#[]⟩, .slice none 0 0, .slice none 0 0, .int .i64 0, .string ⟨#[]⟩, .slice none 0 0, .int .i64 0, .slice none 0 0, .int .i64 0, .int .i64 0, .string ⟨#[]⟩, .int .i64 0, .string ⟨#[]⟩] 42)) y 21 zM := Blk.new' hy.symm zM_row
    have b0 := (Below.refl w1.heap.size w1).alloc (Nat.le_refl _) (.cells #[.int .i64 0, .int .i64 0, .int .i64 0, .int .i64 0, .string ⟨#[]⟩, .int .i64 0, .int .i64 0, .int .i64 0, .string ⟨#[]⟩, .slice none 0 0, .slice none 0 0, .int .i64 0, .string ⟨#[]⟩, .slice none 0 0, .int .i64 0, .slice none 0 0, .int .i64 0, .int .i64 0, .string ⟨#[]⟩, .int .i64 0, .string ⟨#[]⟩] 42)
    rw [hy] at b0 ⊢
    generalize w1.alloc (.cells #[.int .i64 0, .int .i64 0, .int .i64 0, .int .i64 0, .string ⟨#[]⟩, .int .i64 0, .int .i64 0, .int .i64 0, .string ⟨#[]⟩, .slice none 0 0, .slice none 0 0, .int .i64 0, .string ⟨#[]⟩, .slice none 0 0, .int .i64 0, .slice none 0 0, .int .i64 0, .int .i64 0, .string ⟨#[]⟩, .int .i64 0, .string ⟨#[]⟩] 42) = w2 at *
    have B2 := Lib.hid b0
    have K2 := Lib.hid k0
    have HY := Lib.hid hy
    clear k0 b0 hy
    refine wpl_store (.tmp 5) (.tmp 11) y 0 21 21 zM zM rfl rfl (by rfl) (by rfl) (size_msg _) K2.out (by omega) zM_one ?_
    intro w3 h3
    have U3 := Lib.hid h3.2
    clear h3
    go_wp2_with fail
    go_ret
    rw [HP.out]
    refine ⟨rfl, at17_same ⟨v1, v2, HM.out, HO.out⟩ ?_⟩
    have h2 : Below w1.heap.size w1 w3 := HY.out ▸ (B2.out.trans (U3.out.below (Nat.le_refl y)))
    exact B1.out.trans (h2.mono B1.out.size)
  | some d =>
    rcases hc : clientD d with _ | _
    · exact push17_0 O w g t b ⟨v1, v2, HM.out, HO.out⟩ HI.out HDR.out HSZ.out d hr hc
    · exact push17_1 O w g t b ⟨v1, v2, HM.out, HO.out⟩ HI.out HDR.out HSZ.out d hr hc
/-- the code's calls -/
def theCode17 : Code17 where
  At := At17
  keep := at17_keep
  lt := at17_lt
  new := new17
  push := push17
  pop := pop17
  len := fun O w g t h hI => by obtain ⟨v1, v2, hM, _⟩ := h; exact lenM17 hM hI
  lanes := fun O w g t h _ => by obtain ⟨v1, v2, hM, _⟩ := h; exact lanesM17 hM
  dropped := fun O w g t h _ => by
    obtain ⟨v1, v2, hM, _⟩ := h
    exact (droppedM17 hM).mono fun _ _ ⟨h1, h2⟩ => ⟨h1, below_eqU h2⟩
  clear := fun O w g t h _ => clear17 O w g t h
end Go.Proofs.Ytphlpgdbngbplaa
