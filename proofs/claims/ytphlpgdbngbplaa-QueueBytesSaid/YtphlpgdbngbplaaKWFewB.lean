/-
  The walk of the reference's FewBlock.
-/
import Derived.Test.YtphlpgdbngbplaaKWFewS
import Derived.Lib.Builder
import Derived.Lib.AppendStr
import Derived.Lib.UnsafeStr
import Derived.Lib.MakeNoZero
import Derived.Laws.Externs
import Derived.Shelf.Strings.BuilderX
import Derived.RegionTactic
import Derived.Lib.Walk
import Derived.Lib.Slices
import Derived.Test.YtphlpgdbngbplaaKJMath
section
open Go Go.RowKit
namespace WW
open BB
theorem isBuilder_on {T e : TypeId} {B b : Nat} {bs : List Value} {w w' : World} (h : Lib.IsBuilder T e B b bs w) (hb : Below w.heap.size w w') : Lib.IsBuilder T e B b bs w' := by
  have key : ∀ p, Lib.BuilderAt T e B b p bs w → Lib.BuilderAt T e B b p bs w' := by
    rintro p ⟨hB, v, hbk, ⟨hl, ho⟩, hne⟩
    have hlt : ∀ k o, w.heap[k]? = some o → k < w.heap.size := fun k o hk => by
      rcases Nat.lt_or_ge k w.heap.size with h | h
      · exact h
      · rw [Array.getElem?_eq_none h] at hk; cases hk
    refine ⟨hB, v, (hb.block b (hlt _ _ hbk)).trans hbk, ⟨hl, ?_⟩, hne⟩
    rcases ho with h0 | ⟨g, cap, cur, h1, h2, h3, h4⟩
    · exact Or.inl h0
    · exact Or.inr ⟨g, cap, cur, h1, h2, (hb.block g (hlt _ _ h3)).trans h3, h4⟩
  rcases h with h | h
  · exact Or.inl (key _ h)
  · exact Or.inr (key _ h)
/-- all bytes, one behind the other -/
def flat (xs : List ByteArray) : List UInt8 := xs.flatMap (·.data.toList)
/-- a list: how many, and each -/
def listL (xs : List ByteArray) : List UInt8 := (be4 xs.length).data.toList ++ flat xs
def listB (xs : List ByteArray) : ByteArray := ⟨(listL xs).toArray⟩
theorem flat_snoc (xs : List ByteArray) (i : Nat) (h : i < xs.length) : flat (xs.take (i + 1)) = flat (xs.take i) ++ (xs.getD i ⟨#[]⟩).data.toList := by
  unfold flat
  rw [List.take_succ_eq_append_getElem h, List.flatMap_append]
  simp [List.getD, List.getElem?_eq_getElem h]
theorem flat_take_le (xs : List ByteArray) (i : Nat) : (flat (xs.take i)).length ≤ (flat xs).length := by
  unfold flat
  conv => rhs; rw [← List.take_append_drop i xs, List.flatMap_append]
  simp
theorem be4_ne (n : Nat) (l : List UInt8) : (be4 n).data.toList ++ l ≠ [] := by simp [be4]
end WW
namespace Go.Proofs.Ytphlpgdbngbplaa
open WW BB
end Go.Proofs.Ytphlpgdbngbplaa
end
section
open Go Go.RowKit
namespace WW
open BB
/-- a signature's bytes -/
def sigB (f : Int) (ts : List ByteArray) : ByteArray := num f ++ listB ts
/-- v is a slice of signatures -/
def SigsAt (w : World) (v : Value) (l : List (Int × List ByteArray)) : Prop :=
  ∃ a0 cap, v = .slice a0 l.length cap ∧ (l = [] ∨ ∃ b off, a0 = some ⟨b, off, none⟩ ∧ b < w.heap.size ∧
    ∀ i, i < l.length → ∃ tv, w.cell? ⟨b, off + i * 2, none⟩ = some (.int .i64 (l.getD i (0, [])).1) ∧ w.cell? ⟨b, off + i * 2 + 1, none⟩ = some tv ∧ StrsAt w tv (l.getD i (0, [])).2)
theorem SigsAt.later {w w' : World} {v : Value} {l : List (Int × List ByteArray)} (h : SigsAt w v l) (hb : Below w.heap.size w w') : SigsAt w' v l := by
  obtain ⟨a0, cap, rfl, h | ⟨b, off, rfl, hl, hc⟩⟩ := h
  · exact ⟨a0, cap, rfl, Or.inl h⟩
  · refine ⟨_, cap, rfl, Or.inr ⟨b, off, rfl, Nat.lt_of_lt_of_le hl hb.size, fun i hi => ?_⟩⟩
    obtain ⟨tv, h1, h2, h3⟩ := hc i hi
    exact ⟨tv, (hb.cell (p := ⟨b, off + i * 2, none⟩) hl).trans h1, (hb.cell (p := ⟨b, off + i * 2 + 1, none⟩) hl).trans h2, h3.later hb⟩
/-- the signatures' bytes -/
def sigsB (l : List (Int × List ByteArray)) : List ByteArray := l.map fun p => sigB p.1 p.2
theorem keep2 {w W w1 : World} {g : Nat} {v0 v1 : Value} {B : Nat} (h : W.cell? ⟨g, 0, none⟩ = some v0 ∧ W.cell? ⟨g, 1, none⟩ = some v1 ∧ Below B w W ∧ B ≤ W.heap.size) (hb : Below W.heap.size W w1) :
    w1.cell? ⟨g, 0, none⟩ = some v0 ∧ w1.cell? ⟨g, 1, none⟩ = some v1 ∧ Below B w w1 ∧ B ≤ w1.heap.size := by
  have hl := World.block_lt_of_cell? W _ h.1
  exact ⟨(hb.cell (p := ⟨g, 0, none⟩) hl).trans h.1, (hb.cell (p := ⟨g, 1, none⟩) hl).trans h.2.1, h.2.2.1.trans (hb.mono h.2.2.2), Nat.le_trans h.2.2.2 hb.size⟩
theorem flat_size (xs : List ByteArray) : (listB xs).size = 4 + (flat xs).length := by
  show (listL xs).toArray.size = _
  rw [List.size_toArray, listL, List.length_append]; rfl
end WW
namespace Go.Proofs.Ytphlpgdbngbplaa
open WW BB
end Go.Proofs.Ytphlpgdbngbplaa
end
section
open Go Go.RowKit
namespace WW
open BB
/-- v is a slice of requests -/
def ReqsAt (w : World) (v : Value) (l : List (Int × Int × ByteArray)) : Prop :=
  ∃ a0 cap, v = .slice a0 l.length cap ∧ (l = [] ∨ ∃ b off, a0 = some ⟨b, off, none⟩ ∧ b < w.heap.size ∧
    ∀ i, i < l.length → w.cell? ⟨b, off + i * 3, none⟩ = some (.int .i64 (l.getD i (0, 0, ⟨#[]⟩)).1) ∧ w.cell? ⟨b, off + i * 3 + 1, none⟩ = some (.int .i64 (l.getD i (0, 0, ⟨#[]⟩)).2.1) ∧ w.cell? ⟨b, off + i * 3 + 2, none⟩ = some (.string (l.getD i (0, 0, ⟨#[]⟩)).2.2))
theorem ReqsAt.later {w w' : World} {v : Value} {l : List (Int × Int × ByteArray)} (h : ReqsAt w v l) (hb : Below w.heap.size w w') : ReqsAt w' v l := by
  obtain ⟨a0, cap, rfl, h | ⟨b, off, rfl, hl, hc⟩⟩ := h
  · exact ⟨a0, cap, rfl, Or.inl h⟩
  · refine ⟨_, cap, rfl, Or.inr ⟨b, off, rfl, Nat.lt_of_lt_of_le hl hb.size, fun i hi => ?_⟩⟩
    obtain ⟨h1, h2, h3⟩ := hc i hi
    exact ⟨(hb.cell (p := ⟨b, off + i * 3, none⟩) hl).trans h1, (hb.cell (p := ⟨b, off + i * 3 + 1, none⟩) hl).trans h2, (hb.cell (p := ⟨b, off + i * 3 + 2, none⟩) hl).trans h3⟩
/-- the requests' bytes -/
def reqsB (l : List (Int × Int × ByteArray)) : List ByteArray := l.map fun p => reqB p.1 p.2.1 p.2.2
end WW
namespace Go.Proofs.Ytphlpgdbngbplaa
open WW BB
end Go.Proofs.Ytphlpgdbngbplaa
end
section
open Go Go.RowKit
namespace WW
open BB
/-- a certificate's bytes -/
def certB (v : Int) (k : ByteArray) (l : List (Int × List ByteArray)) : ByteArray := num v ++ k ++ listB (sigsB l)
/-- a block's bytes -/
def blockB (v p cv : Int) (k : ByteArray) (l : List (Int × List ByteArray)) (m : List (Int × Int × ByteArray)) : ByteArray := num v ++ num p ++ certB cv k l ++ listB (reqsB m)
/-- signatures of a size that is looked at -/
def SmallS (l : List (Int × List ByteArray)) : Prop := l.length ≤ 1000 ∧ (flat (sigsB l)).length ≤ 500000 ∧ ∀ i, i < l.length → (flat (l.getD i (0, [])).2).length ≤ 500000 ∧ (l.getD i (0, [])).2.length ≤ 1000
def SmallR (l : List (Int × Int × ByteArray)) : Prop := l.length ≤ 1000 ∧ (flat (reqsB l)).length ≤ 500000 ∧ ∀ i, i < l.length → (l.getD i (0, 0, ⟨#[]⟩)).2.2.size ≤ 500000
theorem certB_size (v : Int) (k : ByteArray) (l : List (Int × List ByteArray)) : (certB v k l).size = 8 + k.size + (flat (sigsB l)).length := by
  simp only [certB, ByteArray.size_append, num_size, flat_size]; omega
theorem keep6 {w W w1 : World} {g : Nat} {v0 v1 v2 v3 v4 v5 : Value} {B : Nat} (h : W.cell? ⟨g, 0, none⟩ = some v0 ∧ W.cell? ⟨g, 1, none⟩ = some v1 ∧ W.cell? ⟨g, 2, none⟩ = some v2 ∧ W.cell? ⟨g, 3, none⟩ = some v3 ∧ W.cell? ⟨g, 4, none⟩ = some v4 ∧ W.cell? ⟨g, 5, none⟩ = some v5 ∧ Below B w W ∧ B ≤ W.heap.size) (hb : Below W.heap.size W w1) :
    w1.cell? ⟨g, 0, none⟩ = some v0 ∧ w1.cell? ⟨g, 1, none⟩ = some v1 ∧ w1.cell? ⟨g, 2, none⟩ = some v2 ∧ w1.cell? ⟨g, 3, none⟩ = some v3 ∧ w1.cell? ⟨g, 4, none⟩ = some v4 ∧ w1.cell? ⟨g, 5, none⟩ = some v5 ∧ Below B w w1 ∧ B ≤ w1.heap.size := by
  obtain ⟨h0, h1, h2, h3, h4, h5, h6, h7⟩ := h
  have hl := World.block_lt_of_cell? W _ h0
  exact ⟨(hb.cell (p := ⟨g, 0, none⟩) hl).trans h0, (hb.cell (p := ⟨g, 1, none⟩) hl).trans h1, (hb.cell (p := ⟨g, 2, none⟩) hl).trans h2, (hb.cell (p := ⟨g, 3, none⟩) hl).trans h3, (hb.cell (p := ⟨g, 4, none⟩) hl).trans h4, (hb.cell (p := ⟨g, 5, none⟩) hl).trans h5, h6.trans (hb.mono h7), Nat.le_trans h7 hb.size⟩
end WW
namespace Go.Proofs.Ytphlpgdbngbplaa
open WW BB
end Go.Proofs.Ytphlpgdbngbplaa
end
section
open Go Go.RowKit
namespace WW
open BB
/-- a certificate of a size that is looked at -/
def fewCert (k : ByteArray) (l : List (Int × List ByteArray)) : Bool := (l.take 20).all (fun p => fewSig p.2) && (decide (l.length ≤ 10) && decide (k.size ≤ 50))
/-- a block of a size that is looked at -/
def fewBlock (k : ByteArray) (l : List (Int × List ByteArray)) (m : List (Int × Int × ByteArray)) : Bool := (m.take 20).all (fun p => decide (p.2.2.size ≤ 60)) && (decide (m.length ≤ 6) && fewCert k l)
/-- the tags of each signature are no more than fit into memory -/
def MemS (l : List (Int × List ByteArray)) : Prop := l.length ≤ 9223372036854775807 ∧ ∀ i, i < l.length → (l.getD i (0, [])).2.length ≤ 9223372036854775807
end WW
namespace Go.Proofs.Ytphlpgdbngbplaa
open WW BB
set_option maxRecDepth 100000 in
set_option maxHeartbeats 4000000 in
theorem fewcert_any (v : Int) (k : ByteArray) (sv : Value) (l : List (Int × List ByteArray)) (w : World) (hv : SigsAt w sv l) (hn : MemS l) (hk : k.size ≤ 9223372036854775807) :
    Calls Try.prog 39 #[.agg #[.int .i64 v, .string k, sv]] w fun e w' => e = .returned (.bool (fewCert k l)) ∧ Below w.heap.size w w' := by
  obtain ⟨X, hX⟩ : ∃ X, fewCert k l = X := ⟨_, rfl⟩
  rw [hX]
  have HX := Lib.hid hX
  have HV := Lib.hid hv
  have HN := Lib.hid hn
  have HK := Lib.hid hk
  obtain ⟨a0, cap, rfl, hx⟩ := hv
  clear hn hx hX hk
  go_enter Try.func39, Try.ntmps39
  go_wp2_with fail
  have B0 := box_mk w [.int .i64 v, .string k, .slice a0 l.length cap] 32
  rw [show [Value.int .i64 v, .string k, .slice a0 l.length cap].toArray = #[.int .i64 v, .string k, .slice a0 l.length cap] from rfl] at B0
  obtain ⟨g, hg⟩ : ∃ g, w.heap.size = g := ⟨_, rfl⟩
  rw [hg] at B0 ⊢
  clear hg
  generalize w.alloc (.cells #[.int .i64 v, .string k, .slice a0 l.length cap] 32) = w0 at *
  go_loopw [3] (fun x wr => ∃ i : Nat, i ≤ l.length ∧ i ≤ 20 ∧ x = .int .i64 (i : Int) ∧ (l.take i).all (fun p => fewSig p.2) = true ∧ BoxAt w g [.int .i64 v, .string k, .slice a0 l.length cap] wr) (fun x _ => l.length - (intOf x).toNat)
  case atStart => exact ⟨0, Nat.zero_le _, by omega, rfl, rfl, B0⟩
  case round =>
    clear B0
    clear w0
    obtain ⟨i, hi, h20, rfl, hall, hbox⟩ := hrel
    have HALL := Lib.hid hall
    have HBX := Lib.hid hbox
    have i0 : (0 : Int) ≤ (i : Int) := by omega
    have ib : (i : Int) ≤ 20 := by omega
    have c1 := hbox.cell 1 _ rfl
    have c2 := hbox.cell 2 _ rfl
    clear hall hbox
    by_cases hlt : i < l.length
    · have hlt' : (i : Int) < (l.length : Int) := by omega
      by_cases h2 : i < 20
      · have h2' : (i : Int) < 20 := by omega
        obtain ⟨a1, cap1, he, hv | ⟨gb, off, rfl, hbw, hcell⟩⟩ := HV.out
        · rw [hv] at hlt; simp at hlt
        injection he with e1 _ e3
        subst e1 e3
        obtain ⟨tv, hc0, hc1, hts⟩ := hcell i hlt
        have hcl0 := (HBX.out.below.cell (p := ⟨gb, off + i * 2, none⟩) hbw).trans hc0
        have hcl1 := (HBX.out.below.cell (p := ⟨gb, off + i * 2 + 1, none⟩) hbw).trans hc1
        have HTS := Lib.hid (hts.later HBX.out.below)
        have HSN := Lib.hid (all_take_snoc (fun p : Int × List ByteArray => fewSig p.2) l (0, []) i hlt)
        have HMi := Lib.hid (HN.out.2 i hlt)
        obtain ⟨f, hf⟩ : ∃ f, (l.getD i (0, [])).1 = f := ⟨_, rfl⟩
        obtain ⟨ts, ht⟩ : ∃ ts, (l.getD i (0, [])).2 = ts := ⟨_, rfl⟩
        rw [hf] at hcl0
        rw [ht] at HTS HMi HSN
        have HLT := Lib.hid hlt
        have H2 := Lib.hid h2
        obtain ⟨ta, tcap, htv, _⟩ := HTS.out
        subst htv
        clear hf ht hlt h2 hi h20 hcell hbw hc0 hc1 hts
        go_wp2_with fail
        refine (fewsig_any f _ ts wr HTS.out HMi.out).mono ?_
        rintro e w4 ⟨rfl, hb4⟩
        have HB4 := Lib.hid (HBX.out.on hb4)
        clear hb4 HBX
        rcases hfs : fewSig ts with _ | _
        · have HF := Lib.hid hfs
          clear hfs
          go_wp2_with fail
          go_ret
          refine ⟨?_, HB4.out.below⟩
          rw [← HX.out]
          have h1 := HSN.out
          rw [HF.out, Bool.and_false] at h1
          have h2 := all_take_mono _ l (i + 1) 20 (by have := H2.out; omega) h1
          unfold fewCert
          rw [h2]; rfl
        · have HF := Lib.hid hfs
          clear hfs
          go_wp2_with fail
          go_roundw
          case rel => exact ⟨i + 1, by have := HLT.out; omega, by have := H2.out; omega, by go_num, by rw [HSN.out, HALL.out, HF.out]; rfl, HB4.out⟩
          case measure => have := HLT.out; simp [intOf]; omega
      · obtain rfl : i = 20 := by omega
        have h2' : ¬ ((20 : Nat) : Int) < 20 := by omega
        have H20 := Lib.hid hlt
        clear h2 hi h20 hlt
        have hl10 : ¬ (l.length : Int) ≤ 10 := by have := H20.out; omega
        go_wp2_with fail
        go_ret
        refine ⟨?_, HBX.out.below⟩
        rw [← HX.out]
        unfold fewCert
        rw [show decide (l.length ≤ 10) = false by have := H20.out; simp; omega, Bool.false_and, Bool.and_false]
        rfl
    · obtain rfl : i = l.length := by omega
      have hlt' : ¬ (l.length : Int) < (l.length : Int) := by omega
      rw [List.take_length] at HALL
      by_cases h10 : l.length ≤ 10
      · have t1 : (l.length : Int) ≤ 10 := by omega
        have H10 := Lib.hid h10
        clear hlt hi h20 h10
        by_cases hk50 : k.size ≤ 50
        · have t2 : (k.size : Int) ≤ 50 := by omega
          have HK50 := Lib.hid hk50
          clear hk50
          go_wp2_with fail
          go_ret
          refine ⟨?_, HBX.out.below⟩
          rw [← HX.out]
          unfold fewCert
          rw [List.take_of_length_le (by have := H10.out; omega), HALL.out, show decide (l.length ≤ 10) = true by simpa using H10.out, show decide (k.size ≤ 50) = true by simpa using HK50.out]
          rfl
        · have t2 : ¬ (k.size : Int) ≤ 50 := by omega
          have HK50 := Lib.hid hk50
          clear hk50
          go_wp2_with fail
          go_ret
          refine ⟨?_, HBX.out.below⟩
          rw [← HX.out]
          unfold fewCert
          rw [show decide (k.size ≤ 50) = false by simpa using HK50.out, Bool.and_false, Bool.and_false]
          rfl
      · have t1 : ¬ (l.length : Int) ≤ 10 := by omega
        have H10 := Lib.hid h10
        clear hlt hi h20 h10
        go_wp2_with fail
        go_ret
        refine ⟨?_, HBX.out.below⟩
        rw [← HX.out]
        unfold fewCert
        rw [show decide (l.length ≤ 10) = false by simpa using H10.out, Bool.false_and, Bool.and_false]
        rfl
end Go.Proofs.Ytphlpgdbngbplaa
end
section
open Go Go.RowKit
namespace Go.Proofs.Ytphlpgdbngbplaa
open WW BB
set_option maxRecDepth 100000 in
set_option maxHeartbeats 4000000 in
theorem fewblock_any (v p cv : Int) (k : ByteArray) (sv rv : Value) (l : List (Int × List ByteArray)) (m : List (Int × Int × ByteArray)) (w : World) (hv : SigsAt w sv l) (hr : ReqsAt w rv m) (hn : MemS l) (hk : k.size ≤ 9223372036854775807) (hm : m.length ≤ 9223372036854775807) :
    Calls Try.prog 38 #[.agg #[.int .i64 v, .int .i64 p, .int .i64 cv, .string k, sv, rv]] w fun e w' => e = .returned (.bool (fewBlock k l m)) ∧ Below w.heap.size w w' := by
  obtain ⟨X, hX⟩ : ∃ X, fewBlock k l m = X := ⟨_, rfl⟩
  rw [hX]
  have HX := Lib.hid hX
  have HV := Lib.hid hv
  have HN := Lib.hid hn
  have HK := Lib.hid hk
  have HR := Lib.hid hr
  have HM := Lib.hid hm
  obtain ⟨a0, cap, rfl, hx⟩ := hv
  obtain ⟨a1, cap1, rfl, hx1⟩ := hr
  clear hn hx hX hk hx1 hm
  go_enter Try.func38, Try.ntmps38
  go_wp2_with fail
  have B0 := box_mk w [.int .i64 v, .int .i64 p, .int .i64 cv, .string k, .slice a0 l.length cap, .slice a1 m.length cap1] 35
  rw [show [Value.int .i64 v, .int .i64 p, .int .i64 cv, .string k, .slice a0 l.length cap, .slice a1 m.length cap1].toArray = #[.int .i64 v, .int .i64 p, .int .i64 cv, .string k, .slice a0 l.length cap, .slice a1 m.length cap1] from rfl] at B0
  obtain ⟨g, hg⟩ : ∃ g, w.heap.size = g := ⟨_, rfl⟩
  rw [hg] at B0 ⊢
  clear hg
  generalize w.alloc (.cells #[.int .i64 v, .int .i64 p, .int .i64 cv, .string k, .slice a0 l.length cap, .slice a1 m.length cap1] 35) = w0 at *
  go_loopw [3] (fun x wr => ∃ i : Nat, i ≤ m.length ∧ i ≤ 20 ∧ x = .int .i64 (i : Int) ∧ (m.take i).all (fun p => decide (p.2.2.size ≤ 60)) = true ∧ BoxAt w g [.int .i64 v, .int .i64 p, .int .i64 cv, .string k, .slice a0 l.length cap, .slice a1 m.length cap1] wr) (fun x _ => m.length - (intOf x).toNat)
  case atStart => exact ⟨0, Nat.zero_le _, by omega, rfl, rfl, B0⟩
  case round =>
    clear B0
    clear w0
    obtain ⟨i, hi, h20, rfl, hall, hbox⟩ := hrel
    have HALL := Lib.hid hall
    have HBX := Lib.hid hbox
    have i0 : (0 : Int) ≤ (i : Int) := by omega
    have ib : (i : Int) ≤ 20 := by omega
    have c2 := hbox.cell 2 _ rfl
    have c3 := hbox.cell 3 _ rfl
    have c4 := hbox.cell 4 _ rfl
    have c5 := hbox.cell 5 _ rfl
    clear hall hbox
    by_cases hlt : i < m.length
    · have hlt' : (i : Int) < (m.length : Int) := by omega
      by_cases h2 : i < 20
      · have h2' : (i : Int) < 20 := by omega
        obtain ⟨a2, cap2, he, hv | ⟨gb, off, rfl, hbw, hcell⟩⟩ := HR.out
        · rw [hv] at hlt; simp at hlt
        injection he with e1 _ e3
        subst e1 e3
        obtain ⟨hc0, hc1, hc2⟩ := hcell i hlt
        have hcl2 := (HBX.out.below.cell (p := ⟨gb, off + i * 3 + 2, none⟩) hbw).trans hc2
        have HSN := Lib.hid (all_take_snoc (fun p : Int × Int × ByteArray => decide (p.2.2.size ≤ 60)) m (0, 0, ⟨#[]⟩) i hlt)
        obtain ⟨s, hs⟩ : ∃ s, (m.getD i (0, 0, ⟨#[]⟩)).2.2 = s := ⟨_, rfl⟩
        rw [hs] at hcl2 HSN
        have HLT := Lib.hid hlt
        have H2 := Lib.hid h2
        clear hs hlt h2 hi h20 hcell hbw hc0 hc1 hc2
        by_cases h60 : s.size ≤ 60
        · have t1 : ¬ (60 : Int) < (s.size : Int) := by omega
          have H60 := Lib.hid h60
          clear h60
          go_wp2_with fail
          go_roundw
          case rel => exact ⟨i + 1, by have := HLT.out; omega, by have := H2.out; omega, by go_num, by rw [HSN.out, HALL.out]; simpa using H60.out, HBX.out⟩
          case measure => have := HLT.out; simp [intOf]; omega
        · have t1 : (60 : Int) < (s.size : Int) := by omega
          have H60 := Lib.hid h60
          clear h60
          go_wp2_with fail
          go_ret
          refine ⟨?_, HBX.out.below⟩
          rw [← HX.out]
          have h1 := HSN.out
          rw [show decide (s.size ≤ 60) = false by simpa using H60.out, Bool.and_false] at h1
          have h2 := all_take_mono _ m (i + 1) 20 (by have := H2.out; omega) h1
          unfold fewBlock
          rw [h2]; rfl
      · obtain rfl : i = 20 := by omega
        have h2' : ¬ ((20 : Nat) : Int) < 20 := by omega
        have H20 := Lib.hid hlt
        clear h2 hi h20 hlt
        have hl10 : ¬ (m.length : Int) ≤ 6 := by have := H20.out; omega
        go_wp2_with fail
        go_ret
        refine ⟨?_, HBX.out.below⟩
        rw [← HX.out]
        unfold fewBlock
        rw [show decide (m.length ≤ 6) = false by have := H20.out; simp; omega, Bool.false_and, Bool.and_false]
        rfl
    · obtain rfl : i = m.length := by omega
      have hlt' : ¬ (m.length : Int) < (m.length : Int) := by omega
      rw [List.take_length] at HALL
      by_cases h10 : m.length ≤ 6
      · have t1 : (m.length : Int) ≤ 6 := by omega
        have H10 := Lib.hid h10
        clear hlt hi h20 h10
        go_wp2_with fail
        refine (fewcert_any cv k _ l wr (HV.out.later HBX.out.below) HN.out HK.out).mono ?_
        rintro e w4 ⟨rfl, hb4⟩
        have HB4 := Lib.hid (HBX.out.on hb4)
        clear hb4
        have hfin : X = fewCert k l := by
          rw [← HX.out]
          unfold fewBlock
          rw [List.take_of_length_le (by have := H10.out; omega), HALL.out, show decide (m.length ≤ 6) = true by simpa using H10.out, Bool.true_and, Bool.true_and]
        have HFIN := Lib.hid hfin
        clear hfin
        obtain ⟨Y, hY⟩ : ∃ Y, fewCert k l = Y := ⟨_, rfl⟩
        rw [hY] at HFIN ⊢
        clear hY
        go_wp2_with fail
        go_ret
        exact ⟨by rw [HFIN.out]; rfl, HB4.out.below⟩
      · have t1 : ¬ (m.length : Int) ≤ 6 := by omega
        have H10 := Lib.hid h10
        clear hlt hi h20 h10
        go_wp2_with fail
        go_ret
        refine ⟨?_, HBX.out.below⟩
        rw [← HX.out]
        unfold fewBlock
        rw [show decide (m.length ≤ 6) = false by simpa using H10.out, Bool.false_and, Bool.and_false]
        rfl
end Go.Proofs.Ytphlpgdbngbplaa
end
