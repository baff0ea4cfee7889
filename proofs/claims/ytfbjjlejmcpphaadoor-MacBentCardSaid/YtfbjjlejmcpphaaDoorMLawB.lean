/-
  The walk of the law MacBent.
-/
import Derived.Test.YtfbjjlejmcpphaaDoorMLawS
import Derived.Test.YtfbjjlejmcpphaaDoorRefSum
import Derived.StillTailTactics
open Go Go.RowKit
namespace MM
open WW BB
/-- 16 bytes of block M that may be written -/
def Row16 (M : Nat) (B : Nat → Nat) (w : World) : Prop := ∀ j, j < 16 → w.cell? ⟨M, j, none⟩ = some (.int .u8 (B j : Int)) ∧ w.frozen? ⟨M, j, none⟩ = false
theorem row16_conv (w : World) (e : TypeId) (T0 : ByteArray) (cap M : Nat) (h : T0.size = 16) (hc : 16 ≤ cap) (hM : M = w.heap.size) : Row16 M (sb T0.data.toList) (w.alloc (.cells (bytesRow T0 cap) e ((bytesRow T0 cap).size, (bytesRow T0 cap).size + 1))) := by
  subst hM
  intro j hj
  have hs : T0.data.size = 16 := h
  have hz : (bytesRow T0 cap).size = cap := by
    unfold bytesRow
    simp only [Array.size_append, Array.size_map, Array.size_replicate]
    omega
  have hh : (w.alloc (.cells (bytesRow T0 cap) e ((bytesRow T0 cap).size, (bytesRow T0 cap).size + 1))).heap[w.heap.size]? = some (.cells (bytesRow T0 cap) e ((bytesRow T0 cap).size, (bytesRow T0 cap).size + 1)) := by
    show (w.heap.push _)[w.heap.size]? = _; simp
  constructor
  · unfold World.cell?
    rw [hh]
    show (bytesRow T0 cap)[j]? = _
    unfold bytesRow
    rw [Array.getElem?_append_left (by simp; omega)]
    simp only [sb, List.getD_eq_getElem?_getD, Array.getElem?_toList, Array.getElem?_map, Array.getElem?_eq_getElem (show j < T0.data.size by omega), Option.map_some, Option.getD_some]
  · unfold World.frozen?
    rw [hh]
    simp only [hz]
    simp
    omega
theorem Row16.of_heap {M : Nat} {B : Nat → Nat} {w w' : World} (h : Row16 M B w) (e : w'.heap[M]? = w.heap[M]?) : Row16 M B w' := fun j hj => by
  unfold World.cell? World.frozen?
  have h1 := h j hj
  unfold World.cell? World.frozen? at h1
  rw [e]; exact h1
theorem xor8 (a b : Nat) (ha : a < 256) (hb : b < 256) : bits .xor .u8 (a : Int) (b : Int) = ((a ^^^ b : Nat) : Int) := by
  have hx : a ^^^ b < 2 ^ 8 := Nat.xor_lt_two_pow (by omega) (by omega)
  have h1 : (BitVec.ofInt 8 (a : Int)).toNat = a := by
    rw [BitVec.ofInt_natCast, BitVec.toNat_ofNat]; exact Nat.mod_eq_of_lt (by omega)
  have h2 : (BitVec.ofInt 8 (b : Int)).toNat = b := by
    rw [BitVec.ofInt_natCast, BitVec.toNat_ofNat]; exact Nat.mod_eq_of_lt (by omega)
  show IntKind.u8.wrap ((BitVec.ofInt 8 (a : Int) ^^^ BitVec.ofInt 8 (b : Int)).toNat : Int) = _
  rw [BitVec.toNat_xor, h1, h2, IntKind.wrap_u8]
  omega
theorem xor_ne (a b : Nat) (h : b ≠ 0) : a ^^^ b ≠ a := fun e => h (by
  have := congrArg (fun x => a ^^^ x) e
  simpa [← Nat.xor_assoc] using this)
/-- 16 bytes as a string -/
def str16 (B : Nat → Nat) : ByteArray := strOfNums ((List.range 16).map fun j => (B j : Int))
theorem str16_size (B : Nat → Nat) : (str16 B).size = 16 := by
  unfold str16 strOfNums ByteArray.size
  simp
theorem str16_get (B : Nat → Nat) (i : Nat) (h : i < 16) (hb : B i < 256) : sb (str16 B).data.toList i = B i := by
  unfold sb str16 strOfNums
  simp only [List.map_map, List.getD_eq_getElem?_getD, List.getElem?_map, List.getElem?_range h, Option.map_some, Option.getD_some, Function.comp]
  simp
  omega
theorem row16_str {P : Program} {src dst e : TypeId} {M cap : Nat} {B : Nat → Nat} {w : World} (h : Row16 M B w) (hs : P.underlying src = some (.slice e)) (he : P.underlying e = some (.int .u8)) (hd : P.underlying dst = some .string) :
    (convert src dst (.slice (some ⟨M, 0, none⟩) 16 cap)).run P w = .ok (.string (str16 B)) w :=
  run_convert_bytes_arg w src e hs he M 0 16 cap ((List.range 16).map fun j => (B j : Int)) (by simp) (fun j hj => by
    rw [Nat.zero_add, (h j hj).1]
    simp [List.getD, hj]) dst hd
theorem Row16.set {M : Nat} {B : Nat → Nat} {w : World} (h : Row16 M B w) (i x : Nat) : Row16 M (put B i x) (w.setCell ⟨M, i, none⟩ (.int .u8 (x : Int))) := by
  intro j hj
  obtain ⟨h1, h2⟩ := h j hj
  obtain ⟨o, ho⟩ : ∃ o, w.heap[M]? = some o := by
    unfold World.cell? at h1
    rcases hh : w.heap[M]? with _ | o
    · rw [hh] at h1; cases h1
    · exact ⟨o, rfl⟩
  have h1' := h1
  unfold World.cell? at h1'
  rw [ho] at h1'
  cases o
  case cells cs ty fr =>
    have hn : (w.setCell ⟨M, i, none⟩ (.int .u8 (x : Int))).heap[M]? = some (.cells (cs.setIfInBounds i (.int .u8 (x : Int))) ty fr) := by
      unfold World.setCell
      simp only [Array.getElem?_modify, if_true, ho, Option.map_some]
      rfl
    constructor
    · unfold World.cell?
      rw [hn]
      show (cs.setIfInBounds i _)[j]? = _
      rw [Array.getElem?_setIfInBounds]
      have h1c : cs[j]? = some (.int .u8 (B j : Int)) := h1'
      unfold put
      by_cases hji : i = j
      · subst hji
        have : i < cs.size := by
          rcases Nat.lt_or_ge i cs.size with h | h
          · exact h
          · rw [Array.getElem?_eq_none h] at h1c; cases h1c
        rw [if_pos rfl, if_pos this, if_pos rfl]
      · rw [if_neg hji, h1c, if_neg (fun h => hji h.symm)]
    · unfold World.frozen? at h2 ⊢
      rw [hn]; rw [ho] at h2; exact h2
  all_goals cases h1'
/-- the tags, one of them bent -/
theorem strs_bent {ty : TypeId} {w : World} {b n k : Nat} {s tx T1 : ByteArray} {f : Int} (h : TBlk ty w b n (put (tagsF s f tx n) k (.string T1))) : StrsAt w (.slice (some ⟨b, 0, none⟩) n n) ((tagsL s f tx n).set k T1) := by
  refine ⟨_, n, by rw [List.length_set, tagsL_len], Or.inr ⟨b, 0, rfl, h.lt, fun i hi => ?_⟩⟩
  rw [List.length_set, tagsL_len] at hi
  rw [Nat.zero_add, h.blk.get i hi]
  unfold put
  by_cases hik : i = k
  · subst hik
    rw [if_pos rfl]
    simp [List.getD, tagsL_len, hi]
  · rw [if_neg hik]
    have := tagsL_get s f tx n i hi
    unfold tagsF
    rw [if_pos hi, ← this]
    simp only [List.getD_eq_getElem?_getD, List.getElem?_set]
    rw [if_neg (fun h => hik h.symm)]
theorem shaped_bent (s t T1 : ByteArray) (f : Int) (n k : Nat) (h1 : T1.size = 16) : shapedB ((tagsL s f t n).set k T1) (n : Int) = true := by
  unfold shapedB
  rw [List.length_set, tagsL_len]
  simp only [decide_true, Bool.true_and, List.all_eq_true, decide_eq_true_eq]
  intro x hx
  rcases List.mem_or_eq_of_mem_set hx with h | h
  · simp only [tagsL, List.mem_map] at h
    obtain ⟨j, _, rfl⟩ := h
    exact tagB_size _ _ _ _
  · rw [h]; exact h1
theorem holds_bent (s t T1 : ByteArray) (f : Int) (n k i : Nat) (h : amongB f (n : Int) = true) (hi : i < n) (h1 : T1.size = 16) (hne : T1 ≠ tagB s f (k : Int) t) : holdsB s (i : Int) (n : Int) t f ((tagsL s f t n).set k T1) = ((i : Int) != (k : Int)) := by
  obtain ⟨a1, a2, a3, a4⟩ := among_of h
  unfold holdsB
  rw [among_mk a1 a2 (by omega) (by omega), h, shaped_bent _ _ _ _ _ _ h1, Int.toNat_natCast]
  simp only [Bool.true_and]
  by_cases hik : i = k
  · subst hik
    have e1 : ((tagsL s f t n).set i T1).getD i ⟨#[]⟩ = T1 := by simp [List.getD, tagsL_len, hi]
    rw [e1]
    have : ¬ T1.toList = (tagB s f (i : Int) t).toList := fun e => hne (by
      rw [ByteArray.toList_eq, ByteArray.toList_eq] at e
      exact ByteArray.ext (Array.toList_inj.1 e))
    simpa using this
  · have e1 : ((tagsL s f t n).set k T1).getD i ⟨#[]⟩ = tagB s f (i : Int) t := by
      rw [← tagsL_get s f t n i hi]
      simp only [List.getD_eq_getElem?_getD, List.getElem?_set]
      rw [if_neg (fun h => hik h.symm)]
    rw [e1]
    have : ¬ (i : Int) = (k : Int) := by omega
    simp [this]
theorem strs_more {e : TypeId} {w : World} {base : Nat} {v : Value} {L : List ByteArray} {x : ByteArray} (h : w.ownsRow base e 1 v (L.length + 1) ((L ++ [x]).map Value.string)) : ∃ g cap, v = .slice (some ⟨g, 0, none⟩) (L.length + 1) cap ∧ base ≤ g ∧ g < w.heap.size ∧ StrsAt w v (L ++ [x]) := by
  rcases h.2 with ⟨_, h0⟩ | ⟨g, cap, cur, rfl, hg, hh, hn, _, hsz, htk⟩
  · omega
  · have hlt : g < w.heap.size := by
      rcases Nat.lt_or_ge g w.heap.size with h | h
      · exact h
      · rw [Array.getElem?_eq_none h] at hh; cases hh
    refine ⟨g, cap, rfl, hg, hlt, ⟨some ⟨g, 0, none⟩, cap, by simp, Or.inr ⟨g, 0, rfl, hlt, fun i hi => ?_⟩⟩⟩
    have h6 := congrArg (·[i]?) htk
    have hi' : i < L.length + 1 := by simpa using hi
    simp only [Nat.mul_one, List.getElem?_take, if_pos hi', Array.getElem?_toList] at h6
    unfold World.cell?
    rw [hh, Nat.zero_add]
    show cur[i]? = _
    rw [h6, List.getElem?_map, List.getElem?_eq_getElem hi]
    simp [List.getD, List.getElem?_eq_getElem hi]
theorem strs_cells {w : World} {q n c : Nat} {L : List ByteArray} (h : StrsAt w (.slice (some ⟨q, 0, none⟩) n c) L) : ∀ j u, (L.map Value.string)[j]? = some u → w.cell? ⟨q, j, none⟩ = some u := by
  obtain ⟨a0, cap, he, h | ⟨b, off, rfl, hlt, hc⟩⟩ := h
  · subst h; intro j u hj; simp at hj
  · injection he with e1 e2 e3
    injection e1 with e1
    injection e1 with e4 e5
    subst e4 e5
    intro j u hj
    rw [List.getElem?_map] at hj
    have hl : j < L.length := by
      rcases Nat.lt_or_ge j L.length with h | h
      · exact h
      · rw [List.getElem?_eq_none h] at hj; cases hj
    have := hc j hl
    rw [Nat.zero_add] at this
    rw [this, ← hj, List.getElem?_eq_getElem hl]
    simp [List.getD, List.getElem?_eq_getElem hl]
theorem strs_other {w : World} {g n c : Nat} {L : List ByteArray} (h : StrsAt w (.slice (some ⟨g, 0, none⟩) n c) L) (a : Addr) (u : Value) (hne : g ≠ a.block) : StrsAt (w.setCell a u) (.slice (some ⟨g, 0, none⟩) n c) L := by
  obtain ⟨a0, cap, he, h | ⟨b, off, rfl, hlt, hc⟩⟩ := h
  · exact ⟨a0, cap, he, Or.inl h⟩
  · have he' := he
    injection he with e1 e2 e3
    injection e1 with e1
    injection e1 with e4 e5
    subst e4 e5
    refine ⟨_, cap, he', Or.inr ⟨g, 0, rfl, by rw [show (w.setCell a u).heap.size = w.heap.size by simp [World.setCell]]; exact hlt, fun i hi => ?_⟩⟩
    rw [← hc i hi]
    exact World.cell?_of_block (w := w) (Below.heap_setCell w a u g hne)
end MM
namespace Go.Proofs.YtfbjjlejmcpphaaDoor
open MM WW BB
theorem info_str' : ∃ i, Tryd.prog.info? 9 = some i ∧ i.zero = some (.string ⟨#[]⟩) ∧ i.size = 1 ∧ i.bytes = 16 := by
  have h := info_str
  rcases hi : Tryd.prog.info? 9 with _ | i
  · rw [hi] at h; cases h
  · rw [hi] at h
    simp only [Option.map_some, Option.some.injEq, Prod.mk.injEq] at h
    exact ⟨i, rfl, h.1, h.2.1, h.2.2⟩
set_option maxRecDepth 100000 in
set_option maxHeartbeats 8000000 in
theorem mbent_in (s t : ByteArray) (a b c e : Nat) (ha : a < 256) (hb : b < 256) (hc : c < 256) (he : e < 256) (hs : s.size ≤ 60) (ht : t.size ≤ 60) (w : World) (hT : Tabs w) :
    Calls Tryd.prog 6 #[.string s, .string t, .agg #[.int .u8 (a : Int), .int .u8 (b : Int), .int .u8 (c : Int), .int .u8 (e : Int)]] w fun e w' => e = .returned (.bool true) ∧ Below w.heap.size w w' := by
  have t1 : ¬ (60 : Int) < (s.size : Int) := by omega
  have t2 : ¬ (60 : Int) < (t.size : Int) := by omega
  have HS := Lib.hid (show s.size ≤ 1000 by omega)
  have HL := Lib.hid (show t.size ≤ 100000 by omega)
  have HT := Lib.hid hT
  have HE := Lib.hid he
  have a0 : (0 : Int) ≤ (a : Int) := by omega
  have a1 : (a : Int) ≤ 255 := by omega
  have HB := Lib.hid hb
  have HC := Lib.hid hc
  have HA := Lib.hid ha
  clear hs ht hT hb hc he ha
  go_enter Tryd.func6, Tryd.ntmps6
  go_wp2_with fail
  have X0 := Lib.hid (box_mk w [.int .u8 (a : Int), .int .u8 (b : Int), .int .u8 (c : Int), .int .u8 (e : Int)] 37)
  obtain ⟨g, hg⟩ : ∃ g, w.heap.size = g := ⟨_, rfl⟩
  rw [hg] at X0
  have HG := Lib.hid hg
  rw [hg]
  clear hg
  generalize w.alloc (.cells #[.int .u8 (a : Int), .int .u8 (b : Int), .int .u8 (c : Int), .int .u8 (e : Int)] 37) = w0 at *
  refine (awake3_any w0).mono ?_
  rintro r w1 ⟨rfl, hb1⟩
  have X1 := Lib.hid (X0.out.on hb1)
  clear X0 hb1
  have c0 := X1.out.cell 0 _ rfl
  have c1 := X1.out.cell 1 _ rfl
  have c2 := X1.out.cell 2 _ rfl
  go_wp2_with fail
  obtain ⟨n, hn⟩ : ∃ n : Nat, (1 + (a : Int) % 7) = (n : Int) := ⟨1 + a % 7, by omega⟩
  rw [hn]
  have HN := Lib.hid (show 1 ≤ n ∧ n ≤ 7 by omega)
  have n1 : (1 : Int) ≤ (n : Int) := by omega
  have n7 : (n : Int) ≤ 7 := by omega
  have nz : ¬ (n : Int) = 0 := by omega
  clear hn a0 a1
  obtain ⟨f, hf⟩ : ∃ f : Nat, f = b % n := ⟨_, rfl⟩
  obtain ⟨k, hk⟩ : ∃ k : Nat, k = c % n := ⟨_, rfl⟩
  have HF := Lib.hid (show f < n by rw [hf]; exact Nat.mod_lt _ (by omega))
  have HK := Lib.hid (show k < n by rw [hk]; exact Nat.mod_lt _ (by omega))
  have m1 : (b : Int).tmod (n : Int) = (f : Int) := by rw [hf]; rfl
  have m2 : (c : Int).tmod (n : Int) = (k : Int) := by rw [hk]; rfl
  have b0 : (0 : Int) ≤ (b : Int) := by omega
  have b1 : (b : Int) ≤ 255 := by have := HB.out; omega
  have d0 : (0 : Int) ≤ (c : Int) := by omega
  have d1 : (c : Int) ≤ 255 := by have := HC.out; omega
  clear hf hk
  go_quiet (fail)
  have X2 : ∀ m, Hid (BoxAt w g [.int .u8 (a : Int), .int .u8 (b : Int), .int .u8 (c : Int), .int .u8 (e : Int)] (w1.drewN m)) := fun m => Lib.hid (X1.out.on (below_drewN (Below.refl _ _) m))
  have HA := Lib.hid (among_mk n1 n7 (show (0 : Int) ≤ (f : Int) by omega) (show (f : Int) < (n : Int) by have := HF.out; omega))
  clear X1 c0 c1 c2 m1 m2 b0 b1 d0 d1 nz
  go_wp2_with fail
  refine (sign_ok s (f : Int) n t HA.out HS.out HL.out _ (HT.out.below (X2 _).out.below (Nat.le_refl _))).mono ?_
  rintro r w2 ⟨q, hqb, rfl, hTB, hb2⟩
  have X3 := Lib.hid ((X2 _).out.on hb2)
  have TB := Lib.hid hTB
  have QB := Lib.hid (Nat.lt_of_lt_of_le (X2 nq).out.lt hqb)
  clear hb2 X2 hqb hTB
  have k0 : (0 : Int) ≤ (k : Int) := by omega
  have kn : (k : Int) < (n : Int) := by have := HK.out; omega
  obtain ⟨T0, hT0⟩ : ∃ T0, tagB s (f : Int) (k : Int) t = T0 := ⟨_, rfl⟩
  have HT0 := Lib.hid hT0
  have hz : T0.size = 16 := by rw [← hT0]; exact tagB_size _ _ _ _
  have HZ := Lib.hid hz
  have e16 : ((T0.size : Int) != 16) = false := by rw [hz]; rfl
  have hq : w2.cell? ⟨q, k, none⟩ = some (.string T0) := by
    rw [TB.out.blk.get k HK.out]
    unfold tagsF; rw [if_pos HK.out, hT0]
  have QL := Lib.hid TB.out.lt
  have hq2 : ∀ o, (w2.alloc o).cell? ⟨q, k, none⟩ = some (.string T0) := fun o => by
    rw [World.cell?_of_block (w := w2) (Below.heap_alloc _ _ _ QL.out)]; exact hq
  have hconv := run_bytes_of_string (P := Tryd.prog) (w2.alloc (.cells #[.int .i64 (f : Int), .slice (some ⟨q, 0, none⟩) n n] 29)) 9 38 5 T0 (by kernel_rfl) (by kernel_rfl) (by kernel_rfl)
  have hge := grownCap_ge (w2.alloc (.cells #[.int .i64 (f : Int), .slice (some ⟨q, 0, none⟩) n n] 29)) T0.size 0 5
  rw [hz] at hconv hge
  generalize grownCap (w2.alloc (.cells #[.int .i64 (f : Int), .slice (some ⟨q, 0, none⟩) n n] 29)) 16 0 5 = cap at hconv hge
  have GE := Lib.hid hge
  clear hT0 hz hq hge
  go_wp2_with fail
  clear hconv hq2 e16
  obtain ⟨M, hM⟩ : ∃ M, w2.heap.size = M := ⟨_, rfl⟩
  have z3 : (w2.alloc (.cells #[.int .i64 (f : Int), .slice (some ⟨q, 0, none⟩) n n] 29)).heap.size = M + 1 := by simp [hM]
  have bA := (Below.refl w2.heap.size w2).alloc (Nat.le_refl _) (.cells #[.int .i64 (f : Int), .slice (some ⟨q, 0, none⟩) n n] 29)
  have bB := bA.alloc bA.size (.cells (bytesRow T0 cap) 5 ((bytesRow T0 cap).size, (bytesRow T0 cap).size + 1))
  have X5 := Lib.hid (X3.out.on bB.drew)
  have TB5 := Lib.hid (TB.out.below bB.drew QL.out)
  have S5 := Lib.hid (((Blk.new' (f := fun i => if i = 0 then .int .i64 (f : Int) else .slice (some ⟨q, 0, none⟩) n n) hM.symm (show #[Value.int .i64 (f : Int), .slice (some ⟨q, 0, none⟩) n n] = row 2 _ by rfl) : Blk (w2.alloc (.cells #[.int .i64 (f : Int), .slice (some ⟨q, 0, none⟩) n n] 29)) M 2 _).alloc (.cells (bytesRow T0 cap) 5 ((bytesRow T0 cap).size, (bytesRow T0 cap).size + 1))).of_heap (w' := ((w2.alloc (.cells #[.int .i64 (f : Int), .slice (some ⟨q, 0, none⟩) n n] 29)).alloc (.cells (bytesRow T0 cap) 5 ((bytesRow T0 cap).size, (bytesRow T0 cap).size + 1))).drew) rfl)
  have R5 := Lib.hid ((row16_conv (w2.alloc (.cells #[.int .i64 (f : Int), .slice (some ⟨q, 0, none⟩) n n] 29)) 5 T0 cap (M + 1) HZ.out GE.out z3.symm).of_heap (w' := ((w2.alloc (.cells #[.int .i64 (f : Int), .slice (some ⟨q, 0, none⟩) n n] 29)).alloc (.cells (bytesRow T0 cap) 5 ((bytesRow T0 cap).size, (bytesRow T0 cap).size + 1))).drew) rfl)
  have QM := Lib.hid (show q < M by rw [← hM]; exact QL.out)
  have L5 := Lib.hid (show M + 1 < ((w2.alloc (.cells #[.int .i64 (f : Int), .slice (some ⟨q, 0, none⟩) n n] 29)).alloc (.cells (bytesRow T0 cap) 5 ((bytesRow T0 cap).size, (bytesRow T0 cap).size + 1))).drew.heap.size by simp [hM])
  rw [hM]
  clear X3 TB QL z3 bA bB hM
  have X5' := X5.out
  have TB5' := TB5.out
  have S5' := S5.out
  have R5' := R5.out
  have L5' := L5.out
  clear X5 TB5 S5 R5 L5
  revert X5' TB5' S5' R5' L5'
  generalize ((w2.alloc (.cells #[.int .i64 (f : Int), .slice (some ⟨q, 0, none⟩) n n] 29)).alloc (.cells (bytesRow T0 cap) 5 ((bytesRow T0 cap).size, (bytesRow T0 cap).size + 1))).drew = w5
  intro X5' TB5' S5' R5' L5'
  have X5 := Lib.hid X5'
  have TB5 := Lib.hid TB5'
  have S5 := Lib.hid S5'
  have R5 := Lib.hid R5'
  have L5 := Lib.hid L5'
  clear X5' TB5' S5' R5' L5' w2
  obtain ⟨i, hi⟩ : ∃ i : Nat, i = e % 16 := ⟨_, rfl⟩
  obtain ⟨d, hd⟩ : ∃ d : Nat, d = e / 16 := ⟨_, rfl⟩
  obtain ⟨j, hj⟩ : ∃ j : Nat, j = d % 8 := ⟨_, rfl⟩
  have HI := Lib.hid (show i < 16 by omega)
  have HJ := Lib.hid (show j < 8 by omega)
  have m1 : (e : Int).tmod 16 = (i : Int) := by rw [hi]; rfl
  have m1' : (e : Int) % 16 = (i : Int) := by rw [hi]; rfl
  have m2 : (e : Int).tdiv 16 = (d : Int) := by rw [hd]; rfl
  have m2' : (e : Int) / 16 = (d : Int) := by rw [hd]; rfl
  have m3 : (d : Int).tmod 8 = (j : Int) := by rw [hj]; rfl
  have m3' : (d : Int) % 8 = (j : Int) := by rw [hj]; rfl
  have i0 : (0 : Int) ≤ (i : Int) := by omega
  have i1 : (i : Int) < 16 := by have := HI.out; omega
  have j0 : (0 : Int) ≤ (j : Int) := by omega
  have j1 : (j : Int) ≤ 8 := by have := HJ.out; omega
  have e0 : (0 : Int) ≤ (e : Int) := by omega
  have e1 : (e : Int) ≤ 255 := by have := HE.out; omega
  have c3 := X5.out.cell 3 _ rfl
  have ci := (R5.out i HI.out).1
  have fi := (R5.out i HI.out).2
  obtain ⟨p, hp⟩ : ∃ p : Nat, p = 2 ^ j := ⟨_, rfl⟩
  have p8 : p ≤ 128 := by rw [hp]; exact Nat.pow_le_pow_right (by omega) (show j ≤ 7 by have := HJ.out; omega)
  have m5 : IntKind.u8.wrap (d : Int) = (d : Int) := IntWalk.u8_in _ (by have := HE.out; omega)
  have m6 : IntKind.u8.wrap ((2 : Int) ^ j) = (p : Int) := by rw [show ((2 : Int) ^ j) = (p : Int) by rw [hp]; simp]; exact IntWalk.u8_in _ (by omega)
  have m7 : IntKind.u8.wrap (1 * (2 : Int) ^ j) = (p : Int) := by rw [Int.one_mul]; exact m6
  have HP := Lib.hid hp
  have HP8 := Lib.hid p8
  clear hi hd hj hp p8
  go_still_tail 13, (by kernel_rfl)
  change wpList _ _ _ _ _ w5.drew
  clear m1 m1' m2 m2' m3 m3' m5 m6 m7 i0 i1 j0 j1 e0 e1 c3
  obtain ⟨y, hy⟩ : ∃ y : Nat, y = sb T0.data.toList i ^^^ p := ⟨_, rfl⟩
  have hp0 : p ≠ 0 := by rw [HP.out]; exact Nat.ne_of_gt (Nat.pow_pos (by omega))
  have hxy := xor8 (sb T0.data.toList i) p (sb_lt _ _) (by have := HP8.out; omega)
  rw [← hy] at hxy
  have HYN := Lib.hid (show y ≠ sb T0.data.toList i by rw [hy]; exact xor_ne _ _ hp0)
  have HY8 := Lib.hid (show y < 256 by rw [hy]; exact Nat.xor_lt_two_pow (n := 8) (sb_lt _ _) (by have := HP8.out; omega))
  rw [hxy]
  have BW := Lib.hid X5.out.below.drew
  have R6 := Lib.hid (R5.out.of_heap (w' := w5.drew) rfl)
  have TB6 := Lib.hid (show TBlk 9 w5.drew q n (tagsF s (f : Int) t n) from TB5.out)
  have S6 := Lib.hid (S5.out.of_heap (w' := w5.drew) rfl)
  have L6 := Lib.hid (show M + 1 < w5.drew.heap.size from L5.out)
  have ci' : w5.drew.cell? ⟨M + 1, i, none⟩ = some (.int .u8 (sb T0.data.toList i : Int)) := ci
  have fi' : w5.drew.frozen? ⟨M + 1, i, none⟩ = false := fi
  clear ci fi hy hp0 hxy X5 R5 TB5 S5 L5
  generalize w5.drew = w6 at *
  have R7 := Lib.hid (R6.out.set i y)
  have TB7 := Lib.hid (TB6.out.set_other ⟨M + 1, i, none⟩ (.int .u8 (y : Int)) (by show q ≠ M + 1; have := QM.out; omega))
  have S7 := Lib.hid (S6.out.set_other ⟨M + 1, i, none⟩ (.int .u8 (y : Int)) (by show M ≠ M + 1; omega))
  have BW7 := Lib.hid (BW.out.trans ((Upd.set w6 (M + 1) i (.int .u8 (y : Int))).below (show w.heap.size ≤ M + 1 by rw [HG.out]; have := QB.out; have := QM.out; omega)))
  have L7 := Lib.hid (show M + 1 < (w6.setCell ⟨M + 1, i, none⟩ (.int .u8 (y : Int))).heap.size by rw [(Upd.set w6 (M + 1) i (.int .u8 (y : Int))).size]; exact L6.out)
  obtain ⟨T1, hT1⟩ : ∃ T1, str16 (put (sb T0.data.toList) i y) = T1 := ⟨_, rfl⟩
  have hcv := row16_str (P := Tryd.prog) (src := 38) (dst := 9) (e := 5) (cap := cap) R7.out (by kernel_rfl) (by kernel_rfl) (by kernel_rfl)
  rw [hT1] at hcv
  have HT1 := Lib.hid (show T1.size = 16 by rw [← hT1]; exact str16_size _)
  have HNE := Lib.hid (show T1 ≠ tagB s (f : Int) (k : Int) t by
    rw [HT0.out]
    intro e
    have h1 := str16_get (put (sb T0.data.toList) i y) i HI.out (by rw [put_same]; exact HY8.out)
    rw [put_same, hT1, e] at h1
    exact HYN.out h1.symm)
  have sg1 : (w6.setCell ⟨M + 1, i, none⟩ (.int .u8 (y : Int))).cell? ⟨M, 1, none⟩ = some (.slice (some ⟨q, 0, none⟩) n n) := S7.out.get 1 (by omega)
  have tq : (w6.setCell ⟨M + 1, i, none⟩ (.int .u8 (y : Int))).cell? ⟨q, k, none⟩ = some (tagsF s (f : Int) t n k) := TB7.out.blk.get k HK.out
  have fq := TB7.out.blk.frz k
  clear hT1
  go_wp2_with fail
  clear hcv sg1 tq fq
  have TB8 := Lib.hid (TB7.out.set k (.string T1))
  have S8 := Lib.hid (S7.out.set_other ⟨q, k, none⟩ (.string T1) (by show M ≠ q; have := QM.out; omega))
  have BW8 := Lib.hid (BW7.out.trans ((Upd.set (w6.setCell ⟨M + 1, i, none⟩ (.int .u8 (y : Int))) q k (.string T1)).below (show w.heap.size ≤ q by rw [HG.out]; exact Nat.le_of_lt QB.out)))
  have TB8' := TB8.out
  have S8' := S8.out
  have BW8' := BW8.out
  clear TB8 S8 BW8 TB7 S7 BW7 L7 R7 R6 TB6 S6 L6 BW
  revert TB8' S8' BW8'
  generalize (w6.setCell ⟨M + 1, i, none⟩ (.int .u8 (y : Int))).setCell ⟨q, k, none⟩ (.string T1) = w8
  intro TB8' S8' BW8'
  have S8 := Lib.hid S8'
  have BW8 := Lib.hid BW8'
  have HST := Lib.hid (strs_bent TB8')
  have TB8 := Lib.hid TB8'
  clear TB8' S8' BW8' ci' fi' w6
  obtain ⟨B8, hB8⟩ : ∃ B8, w8.heap.size = B8 := ⟨_, rfl⟩
  have HB8 := Lib.hid hB8
  clear hB8
  have HT8 := Lib.hid (HT.out.below BW8.out (Nat.le_refl _))
  have HLL := Lib.hid (show ((tagsL s (f : Int) t n).set k T1).length = n by rw [List.length_set, tagsL_len])
  have HLN := Lib.hid (show ((tagsL s (f : Int) t n).set k T1).length ≤ 9223372036854775807 by rw [List.length_set, tagsL_len]; have := HN.out; omega)
  go_loopw [13] (fun v wr => ∃ m : Nat, m ≤ n ∧ v = .int .i64 (m : Int) ∧ (Below B8 w8 wr ∧ B8 ≤ wr.heap.size)) (fun v _ => n - (intOf v).toNat)
  case atStart => exact ⟨0, Nat.zero_le _, rfl, Below.refl _ _, by rw [HB8.out]; exact Nat.le_refl _⟩
  case round =>
    obtain ⟨m, hm, rfl, hK⟩ := hrel
    have k0 : Below w8.heap.size w8 wr := by rw [HB8.out]; exact hK.1
    have KW := Lib.hid k0
    have d0 : wr.cell? ⟨M, 0, none⟩ = some (.int .i64 (f : Int)) := (k0.cell (p := ⟨M, 0, none⟩) S8.out.lt).trans (S8.out.get 0 (by omega))
    have d1 : wr.cell? ⟨M, 1, none⟩ = some (.slice (some ⟨q, 0, none⟩) n n) := (k0.cell (p := ⟨M, 1, none⟩) S8.out.lt).trans (S8.out.get 1 (by omega))
    have SR := Lib.hid (S8.out.below k0 S8.out.lt)
    clear hK k0
    by_cases hlt : m < n
    · have hlt' : (m : Int) < (n : Int) := by omega
      have m0 : (0 : Int) ≤ (m : Int) := by omega
      have mb : (m : Int) ≤ 7 := by have := HN.out; omega
      have HLT := Lib.hid hlt
      have HHB := Lib.hid (holds_bent s t T1 (f : Int) n k m HA.out hlt HT1.out HNE.out)
      clear hm hlt
      by_cases hmk : m = k
      · have e3 : ((m : Int) != (k : Int)) = false := by rw [hmk]; simp
        have HHC := Lib.hid (HHB.out.trans e3)
        clear hmk
        go_wp2_with fail
        refine (holds_is s (m : Int) (n : Int) t (f : Int) _ _ false HHC.out _ (HST.out.later KW.out) HLN.out HS.out HL.out (HT8.out.below KW.out (Nat.le_refl _))).mono ?_
        rintro r w9 ⟨rfl, hb9⟩
        have K9 := Lib.hid (KW.out.trans (hb9.mono KW.out.size))
        clear hb9 d0 d1
        go_wp2_with fail
        go_roundw
        case rel => exact ⟨m + 1, by have := HLT.out; omega, by go_num, by rw [← HB8.out]; exact K9.out, by rw [← HB8.out]; exact K9.out.size⟩
        case measure => have := HLT.out; simp [intOf]; omega
      · have e3 : ((m : Int) != (k : Int)) = true := by rw [bne_iff_ne]; omega
        have HHC := Lib.hid (HHB.out.trans e3)
        clear hmk
        go_wp2_with fail
        refine (holds_is s (m : Int) (n : Int) t (f : Int) _ _ true HHC.out _ (HST.out.later KW.out) HLN.out HS.out HL.out (HT8.out.below KW.out (Nat.le_refl _))).mono ?_
        rintro r w9 ⟨rfl, hb9⟩
        have K9 := Lib.hid (KW.out.trans (hb9.mono KW.out.size))
        clear hb9 d0 d1
        go_wp2_with fail
        go_roundw
        case rel => exact ⟨m + 1, by have := HLT.out; omega, by go_num, by rw [← HB8.out]; exact K9.out, by rw [← HB8.out]; exact K9.out.size⟩
        case measure => have := HLT.out; simp [intOf]; omega
    · obtain rfl : m = n := by omega
      have hlt' : ¬ (m : Int) < (m : Int) := by omega
      clear hm hlt
      go_wp2_with (with_reducible refine hold_append rfl ?_)
      obtain ⟨ti, i1, i2, i3, i4⟩ := info_str'
      have bal := (Below.refl wr.heap.size wr).alloc (Nat.le_refl _) (.cells #[.string ⟨#[120]⟩] 9)
      have HST2 := Lib.hid ((HST.out.later KW.out).later bal)
      have SR2 := Lib.hid (SR.out.alloc (.cells #[.string ⟨#[120]⟩] 9))
      have K2 := Lib.hid (KW.out.trans (bal.mono KW.out.size))
      have cx := cell_new wr #[.string ⟨#[120]⟩] 9 0 _ rfl
      have CX := Lib.hid cx
      clear bal cx SR d0 d1 KW
      obtain ⟨W, hW⟩ : ∃ W, wr.alloc (.cells #[.string ⟨#[120]⟩] 9) = W := ⟨_, rfl⟩
      rw [hW] at HST2 SR2 K2 CX ⊢
      clear hW
      obtain ⟨L1, hL1⟩ : ∃ L1, (tagsL s (f : Int) t m).set k T1 = L1 := ⟨_, rfl⟩
      rw [hL1] at HST2 HLL HLN
      clear hL1 HST TB8 S8
      refine wpList_append_grows W rfl (.tmp 109) (.tmp 110) 27 rfl 9 ti (.string ⟨#[]⟩) 1 16 (by kernel_rfl) i1 i2 i3 i4 rfl (by decide) (some ⟨q, 0, none⟩) m m (L1.map Value.string) rfl (fun h => by cases h) (by rw [List.length_map, HLL.out]; omega)
        (fun b hb j u hj => by injection hb with hb; subst hb; rw [Addr.add_lit, Nat.zero_add]; exact strs_cells HST2.out j u hj) ⟨wr.heap.size, 0, none⟩ 1 1 [.string ⟨#[120]⟩] rfl rfl
        (fun j u hj => by
          match j, hj with
          | 0, hj => simp at hj; subst hj; rw [Addr.add_lit]; exact CX.out
          | j + 1, hj => simp at hj) (fun u hu => by simp at hu; subst hu; rfl) (by omega) (by unfold maxLen; have := HN.out; omega) (by have := HN.out; omega) ?_
      intro v' w' hown hgr
      rw [show L1.map Value.string ++ [Value.string ⟨#[120]⟩] = (L1 ++ [(⟨#[120]⟩ : ByteArray)]).map Value.string by simp, ← HLL.out] at hown
      obtain ⟨g4, cap4, rfl, hg4, hl4, hs4⟩ := strs_more hown
      have bgr : Below W.heap.size W w' := (Below.refl _ _).grown hgr (Nat.le_refl _) (fun k hk => by cases hk)
      have MW := Lib.hid SR2.out.lt
      have SR3 := Lib.hid (SR2.out.below bgr MW.out)
      have K3 := Lib.hid (K2.out.trans (bgr.mono K2.out.size))
      have HS4 := Lib.hid hs4
      have HG4 := Lib.hid (show g4 ≠ M by have := MW.out; omega)
      have s0 : w'.cell? ⟨M, 0, none⟩ = some (.int .i64 (f : Int)) := SR3.out.get 0 (by omega)
      have s1 : w'.cell? ⟨M, 1, none⟩ = some (.slice (some ⟨q, 0, none⟩) m m) := SR3.out.get 1 (by omega)
      have fs1 := SR3.out.frz 1
      have HNO := Lib.hid (show (amongB 0 (m : Int) && (amongB (f : Int) (m : Int) && shapedB (L1 ++ [⟨#[120]⟩]) (m : Int))) = false by
        have : shapedB (L1 ++ [⟨#[120]⟩]) (m : Int) = false := by
          unfold shapedB
          rw [List.length_append, HLL.out, show decide (((m + [(⟨#[120]⟩ : ByteArray)].length : Nat) : Int) = (m : Int)) = false by simp; omega, Bool.false_and]
        rw [this, Bool.and_false, Bool.and_false])
      clear hown hgr bgr hs4 hg4 hl4 i1 i2 i3 i4 SR2 K2 HST2 CX
      rw [HLL.out] at HS4 ⊢
      go_wp2_with fail
      refine (holds_no s 0 (m : Int) t (f : Int) _ _ _ (strs_other HS4.out ⟨M, 1, none⟩ _ HG4.out) (by rw [List.length_append, HLL.out]; have := HN.out; simp; omega) HNO.out).mono ?_
      rintro r w9 ⟨rfl, hb9⟩
      go_wp2_with fail
      go_ret
      have hz : w.heap.size ≤ w8.heap.size := BW8.out.size
      refine ⟨rfl, ?_⟩
      have hset := (Upd.set w' M 1 (.slice (some ⟨g4, 0, none⟩) (m + 1) cap4)).below (show w.heap.size ≤ M by rw [HG.out]; have := QB.out; have := QM.out; omega)
      exact ((BW8.out.trans (K3.out.mono hz)).trans hset).trans (hb9.mono (by rw [(Upd.set w' M 1 (.slice (some ⟨g4, 0, none⟩) (m + 1) cap4)).size]; exact Nat.le_trans hz K3.out.size))
set_option maxRecDepth 100000 in
set_option maxHeartbeats 1000000 in
theorem mbent_walk (s t : ByteArray) (a b c e : Nat) (w : World) (hq : a < 256 ∧ b < 256 ∧ c < 256 ∧ e < 256) (hT : Tabs w) :
    Calls Tryd.prog 6 #[.string s, .string t, .agg #[.int .u8 (a : Int), .int .u8 (b : Int), .int .u8 (c : Int), .int .u8 (e : Int)]] w fun e w' => e = .returned (.bool true) ∧ Below w.heap.size w w' := by
  by_cases hs : s.size ≤ 60
  · by_cases ht : t.size ≤ 60
    · exact mbent_in s t a b c e hq.1 hq.2.1 hq.2.2.1 hq.2.2.2 hs ht w hT
    · have t1 : ¬ (60 : Int) < (s.size : Int) := by omega
      have t2 : (60 : Int) < (t.size : Int) := by omega
      clear hs ht hT hq
      go_enter Tryd.func6, Tryd.ntmps6
      go_wp2_with fail
      have B0 := Lib.hid ((Below.refl w.heap.size w).alloc (Nat.le_refl _) (.cells #[.int .u8 (a : Int), .int .u8 (b : Int), .int .u8 (c : Int), .int .u8 (e : Int)] 37))
      generalize w.alloc (.cells #[.int .u8 (a : Int), .int .u8 (b : Int), .int .u8 (c : Int), .int .u8 (e : Int)] 37) = w0 at *
      refine (awake3_any w0).mono ?_
      rintro r w1 ⟨rfl, hb1⟩
      have B1 := Lib.hid (B0.out.trans (hb1.mono B0.out.size))
      clear hb1 B0
      go_wp2_with fail
      refine (awake3_any w1).mono ?_
      rintro r w2 ⟨rfl, hb2⟩
      have B2 := Lib.hid (B1.out.trans (hb2.mono B1.out.size))
      clear hb2 B1
      go_wp2_with fail
      go_ret
      exact ⟨rfl, B2.out⟩
  · have t1 : (60 : Int) < (s.size : Int) := by omega
    clear hs hT hq
    go_enter Tryd.func6, Tryd.ntmps6
    go_wp2_with fail
    have B0 := Lib.hid ((Below.refl w.heap.size w).alloc (Nat.le_refl _) (.cells #[.int .u8 (a : Int), .int .u8 (b : Int), .int .u8 (c : Int), .int .u8 (e : Int)] 37))
    generalize w.alloc (.cells #[.int .u8 (a : Int), .int .u8 (b : Int), .int .u8 (c : Int), .int .u8 (e : Int)] 37) = w0 at *
    refine (awake3_any w0).mono ?_
    rintro r w1 ⟨rfl, hb1⟩
    have B1 := Lib.hid (B0.out.trans (hb1.mono B0.out.size))
    clear hb1 B0
    go_wp2_with fail
    refine (awake3_any w1).mono ?_
    rintro r w2 ⟨rfl, hb2⟩
    have B2 := Lib.hid (B1.out.trans (hb2.mono B1.out.size))
    clear hb2 B1
    go_wp2_with fail
    go_ret
    exact ⟨rfl, B2.out⟩
end Go.Proofs.YtfbjjlejmcpphaaDoor
