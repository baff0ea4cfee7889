/-
  Calls without crashes and cuts, by lists: what was appended, and how many are synced; a crash behind them. No walk is here.
-/
import Derived.Test.YtnahebfhhcebpaaKFAdopt
import Derived.Test.YtnahebfhhcebpaaKSSplit
import Derived.Test.YtnahebfhhcebpaaKPlanE
section
open Go Go.RowKit
namespace SS
open WW BB FF
/-- all blocks but one stay -/
def ButR (r : Nat) (w w' : World) : Prop := Keeps (fun b => b ≠ r) w w'
theorem ButR.of {r : Nat} {w w1 w2 : World} (h1 : Below w.heap.size w w1) (h2 : Upd r w1 w2) : ButR r w w2 := (Keeps.of h1).trans (Keeps.upd h2 fun _ h => h)
theorem lg_cells {w : World} {r : Nat} {s : Lg} (h : Blk w r 4 (lgRow s)) : w.cell? ⟨r, 0, none⟩ = some (.string s.safe) ∧ w.cell? ⟨r, 1, none⟩ = some (.string s.wait) ∧ w.cell? ⟨r, 2, none⟩ = some (.int .i64 s.fuse) ∧ w.cell? ⟨r, 3, none⟩ = some (.bool s.gone) := RR.cells4 h
theorem lg_set0 {w : World} {r : Nat} {s : Lg} (h : Blk w r 4 (lgRow s)) (x : ByteArray) : Blk (w.setCell ⟨r, 0, none⟩ (.string x)) r 4 (lgRow { s with safe := x }) :=
  (h.set 0 (.string x)).congr _ fun i hi => match i, hi with | 0, _ => rfl | 1, _ => rfl | 2, _ => rfl | 3, _ => rfl
theorem lg_set1 {w : World} {r : Nat} {s : Lg} (h : Blk w r 4 (lgRow s)) (x : ByteArray) : Blk (w.setCell ⟨r, 1, none⟩ (.string x)) r 4 (lgRow { s with wait := x }) :=
  (h.set 1 (.string x)).congr _ fun i hi => match i, hi with | 0, _ => rfl | 1, _ => rfl | 2, _ => rfl | 3, _ => rfl
theorem lg_set2 {w : World} {r : Nat} {s : Lg} (h : Blk w r 4 (lgRow s)) (x : Int) : Blk (w.setCell ⟨r, 2, none⟩ (.int .i64 x)) r 4 (lgRow { s with fuse := x }) :=
  (h.set 2 (.int .i64 x)).congr _ fun i hi => match i, hi with | 0, _ => rfl | 1, _ => rfl | 2, _ => rfl | 3, _ => rfl
theorem lg_set3 {w : World} {r : Nat} {s : Lg} (h : Blk w r 4 (lgRow s)) (x : Bool) : Blk (w.setCell ⟨r, 3, none⟩ (.bool x)) r 4 (lgRow { s with gone := x }) :=
  (h.set 3 (.bool x)).congr _ fun i hi => match i, hi with | 0, _ => rfl | 1, _ => rfl | 2, _ => rfl | 3, _ => rfl
theorem CC_full {b : ByteArray} (h : 0 < b.size) : b.toList.isEmpty = false := by
  cases hz : b.toList.isEmpty with
  | false => rfl
  | true =>
    rw [List.isEmpty_iff] at hz
    rw [CC.ba_toList (a := b) (b := ⟨#[]⟩) (hz.trans (by simp))] at h
    cases h
end SS
namespace Go.Proofs.Ytnahebfhhcebpaa
open SS FF CC WW BB
section
variable (s : Lg) (k k5 : Nat) (b : ByteArray) (n : Int) (r : Nat) (w : World)
end
end Go.Proofs.Ytnahebfhhcebpaa
end
section
open Go Go.RowKit
namespace SS
open WW BB FF
/-- a call: its kind, its bytes, its number -/
abbrev Op9 := Nat × ByteArray × Int
def op0 : Op9 := (0, ⟨#[]⟩, 0)
/-- the calls fit into memory -/
def MemOps (l : List Op9) : Prop := l.length ≤ 9223372036854775807 ∧ ∀ i, (l.getD i op0).1 < 256 ∧ (l.getD i op0).2.1.size ≤ 9223372036854775807 ∧ -9223372036854775808 ≤ (l.getD i op0).2.2 ∧ (l.getD i op0).2.2 ≤ 9223372036854775807
/-- v is a slice of calls -/
def OpsS (w : World) (v : Value) (l : List Op9) : Prop :=
  ∃ a0 cap, v = .slice a0 l.length cap ∧ (l = [] ∨ ∃ b off, a0 = some ⟨b, off, none⟩ ∧ b < w.heap.size ∧
    ∀ i, i < l.length → w.cell? ⟨b, off + i * 3, none⟩ = some (.int .u8 ((l.getD i op0).1 : Int)) ∧ w.cell? ⟨b, off + i * 3 + 1, none⟩ = some (.string (l.getD i op0).2.1) ∧ w.cell? ⟨b, off + i * 3 + 2, none⟩ = some (.int .i64 (l.getD i op0).2.2))
theorem OpsS.below {w w' : World} {v : Value} {l : List Op9} (h : OpsS w v l) (hb : Below w.heap.size w w') : OpsS w' v l := by
  obtain ⟨a0, cap, e, h⟩ := h
  refine ⟨a0, cap, e, h.imp id ?_⟩
  rintro ⟨b, off, e2, hl, hc⟩
  refine ⟨b, off, e2, Nat.lt_of_lt_of_le hl hb.size, fun i hi => ?_⟩
  have hk := hb.block b hl
  obtain ⟨h0, h1, h2⟩ := hc i hi
  exact ⟨(World.cell?_of_block hk).trans h0, (World.cell?_of_block hk).trans h1, (World.cell?_of_block hk).trans h2⟩
theorem ops_at {w : World} {a0 : Option Addr} {n cap : Nat} {l : List Op9} (h : OpsS w (.slice a0 n cap) l) (i : Nat) (hi : i < l.length) : ∃ b off, a0 = some ⟨b, off, none⟩ ∧ b < w.heap.size ∧ n = l.length ∧
    ∀ wx : World, (wx.heap[b]? = w.heap[b]?) → ∀ i, i < l.length → wx.cell? ⟨b, off + i * 3, none⟩ = some (.int .u8 ((l.getD i op0).1 : Int)) ∧ wx.cell? ⟨b, off + i * 3 + 1, none⟩ = some (.string (l.getD i op0).2.1) ∧ wx.cell? ⟨b, off + i * 3 + 2, none⟩ = some (.int .i64 (l.getD i op0).2.2) := by
  obtain ⟨a, c, e, h⟩ := h
  injection e with e1 e2 e3
  subst e1 e2 e3
  rcases h with rfl | ⟨b, off, e, hl, hc⟩
  · simp at hi
  · refine ⟨b, off, e, hl, rfl, fun wx hk i hi => ?_⟩
    obtain ⟨h0, h1, h2⟩ := hc i hi
    exact ⟨(World.cell?_of_block hk).trans h0, (World.cell?_of_block hk).trans h1, (World.cell?_of_block hk).trans h2⟩
/-- what Few tells -/
def FewAns9 (l : List Op9) (n : Int) (w : World) (e : Ending) (w' : World) : Prop :=
  ∃ X : Bool, e = .returned (.bool X) ∧ (X = true → (l.length : Int) ≤ n) ∧ Below w.heap.size w w'
end SS
namespace Go.Proofs.Ytnahebfhhcebpaa
open SS RR FF WW BB
end Go.Proofs.Ytnahebfhhcebpaa
end
section
open Go Go.RowKit
namespace SS
open WW BB FF
/-- v is a slice of the strings l, in a block that A holds -/
def StrsIn (A : Nat → Prop) (w : World) (v : Value) (l : List ByteArray) : Prop :=
  ∃ a0 cap, v = .slice a0 l.length cap ∧ (a0 = none → cap = 0) ∧ (l = [] ∨ ∃ b off, a0 = some ⟨b, off, none⟩ ∧ A b ∧ b < w.heap.size ∧ ∀ i, i < l.length → w.cell? ⟨b, off + i, none⟩ = some (.string (l.getD i ⟨#[]⟩)))
section
variable {A A' : Nat → Prop} {w w' : World} {v : Value} {l : List ByteArray}
theorem StrsIn.at_ (h : StrsIn A w v l) : StrsAt w v l := by
  obtain ⟨a0, cap, e, _, h⟩ := h
  exact ⟨a0, cap, e, h.imp id fun ⟨b, off, e, _, hl, hc⟩ => ⟨b, off, e, hl, hc⟩⟩
theorem StrsIn.keep (h : StrsIn A w v l) (hk : Keeps A w w') : StrsIn A w' v l := by
  obtain ⟨a0, cap, e, hn, h⟩ := h
  exact ⟨a0, cap, e, hn, h.imp id fun ⟨b, off, e, hA, hl, hc⟩ => ⟨b, off, e, hA, Nat.lt_of_lt_of_le hl hk.b0.size, fun i hi => (World.cell?_of_block (hk.block b hA hl)).trans (hc i hi)⟩⟩
theorem StrsIn.sub (h : StrsIn A w v l) (hA : ∀ b, A b → b < w.heap.size → A' b) : StrsIn A' w v l := by
  obtain ⟨a0, cap, e, hn, h⟩ := h
  exact ⟨a0, cap, e, hn, h.imp id fun ⟨b, off, e, h1, hl, hc⟩ => ⟨b, off, e, hA b h1 hl, hl, hc⟩⟩
theorem StrsIn.nil (A : Nat → Prop) (w : World) : StrsIn A w (.slice none 0 0) [] := ⟨none, 0, rfl, fun _ => rfl, Or.inl rfl⟩
end
/-- what a log's Records are -/
def recsL (s : Lg) : List ByteArray := if s.gone = true then [] else (splitS (s.safe ++ s.wait)).1
/-- its fuse is an int, -1 at least; its bytes are few -/
def OkL (s : Lg) : Prop := -1 ≤ s.fuse ∧ s.fuse ≤ 9223372036854775807
theorem ok_do {s : Lg} (h : OkL s) (k : Nat) (b : ByteArray) {n : Int} (hn : n ≤ 9223372036854775807) : OkL (doL s k b n).1 := by
  have hb : OkL (burnL s) := by unfold burnL; split; · exact ⟨by have := h.1; simp only; omega, by have := h.2; simp only; omega⟩
                                · exact h
  match k with
  | 0 =>
    show OkL (appendL s b).1
    unfold appendL
    split; · exact h
    split; · exact h
    split; · exact h
    exact hb
  | 1 =>
    show OkL (syncL s).1
    unfold syncL
    split; · exact h
    split; · exact h
    exact hb
  | 2 =>
    show OkL (fuseL s n)
    unfold fuseL
    split; · exact h
    exact ⟨by simp only; omega, by simp only; omega⟩
  | 3 => exact ⟨show (-1 : Int) ≤ -1 by omega, show (-1 : Int) ≤ 9223372036854775807 by omega⟩
  | m + 4 =>
    show OkL (cutA s).1
    unfold cutA
    split <;> exact h
/-- a new log -/
def Made9 (At : (Nat → Prop) → World → Nat → Lg → Prop) (s : Lg) (w : World) (e : Ending) (w' : World) : Prop :=
  ∃ g O, e = .returned (.pointer (some ⟨g, 0, none⟩)) ∧ At O w' g s ∧ (∀ b, O b → w.heap.size ≤ b) ∧ Below w.heap.size w w'
/-- the log behind a call -/
def Next9 (At : (Nat → Prop) → World → Nat → Lg → Prop) (O : Nat → Prop) (w : World) (g : Nat) (s : Lg) (w' : World) : Prop :=
  ∃ O', At O' w' g s ∧ Keeps (fun b => ¬ O b) w w' ∧ ∀ b, O' b → O b ∨ w.heap.size ≤ b
theorem Keeps.low9 {A : Nat → Prop} {w w' : World} {n : Nat} (h : Keeps A w w') (hA : ∀ b, b < n → A b) (hn : n ≤ w.heap.size) : Below n w w' :=
  ⟨h.b0.os, h.b0.tape, h.b0.output, h.b0.size, fun k hk => h.block k (hA k hk) (Nat.lt_of_lt_of_le hk hn)⟩
end SS
end
section
open Go Go.RowKit
namespace SS
open WW BB FF
theorem app_nil (b : ByteArray) : b ++ (⟨#[]⟩ : ByteArray) = b := by apply ba_ext; rw [app_list]; exact List.append_nil _
theorem nil_app (b : ByteArray) : (⟨#[]⟩ : ByteArray) ++ b = b := by apply ba_ext; rw [app_list]; rfl
theorem txt_enc {b : ByteArray} (h : fitR b) : txt b = encR b := by
  unfold txt encR
  rw [num_nat b.size (by have := h.2; omega)]
theorem whole_of {b : ByteArray} (h : okR b = true) : b = encR (headR b) ++ restR b ∧ fitR (headR b) := by
  have hy := ok_yes h
  have hz := head_size h
  have hr := rest_size h
  refine ⟨?_, by unfold fitR; omega⟩
  have h1 : numSp 0 4294967295 b = some (b.extract 4 b.size, rd4 b) := by
    unfold numSp; rw [if_neg (by omega), if_neg (by omega)]
  obtain ⟨e1, _, _⟩ := numSp_sound h1
  unfold encR
  rw [hz]
  refine e1.trans ?_
  rw [ByteArray.append_assoc]
  congr 1
  apply ba_ext
  have hl := ba_list b
  rw [app_list]
  unfold headR restR
  rw [ext_list, ext_list, ext_list, List.take_of_length_le (by rw [List.length_drop]; omega), List.take_of_length_le (l := List.drop (4 + rd4 b) _) (by rw [List.length_drop]; omega), Nat.add_sub_cancel_left]
  rw [← List.drop_drop, List.take_append_drop]
theorem ext_app (a b : ByteArray) (m : Nat) (h : a.size ≤ m) : (a ++ b).extract 0 m = a ++ b.extract 0 (m - a.size) := by
  apply ba_ext
  have hl := ba_list a
  rw [ext_list, app_list, app_list, ext_list, List.drop_zero, List.drop_zero, List.take_append, Nat.sub_zero, Nat.sub_zero, hl, List.take_of_length_le (by omega)]
/-- the bytes that are records are just the records' -/
theorem split_bytes : ∀ (k : Nat) (b : ByteArray), b.size < k → b.extract 0 (splitS b).2 = encL (splitS b).1 ∧ (∀ r ∈ (splitS b).1, fitR r)
  | 0, _, h => absurd h (Nat.not_lt_zero _)
  | k + 1, b, h => by
    cases ho : okR b with
    | false =>
      rw [split_no ho]
      refine ⟨?_, fun r hr => by cases hr⟩
      apply ba_ext; rw [ext_list]; rfl
    | true =>
      have hr := rest_size ho
      have hz := head_size ho
      obtain ⟨hw, hf⟩ := whole_of ho
      obtain ⟨ih1, ih2⟩ := split_bytes k (restR b) (by omega)
      have hy := split_yes ho
      have he := encR_size (headR b)
      obtain ⟨n, hn⟩ : ∃ n, rd4 b = n := ⟨_, rfl⟩
      obtain ⟨H, hH⟩ : ∃ H, headR b = H := ⟨_, rfl⟩
      obtain ⟨R, hRR⟩ : ∃ R, restR b = R := ⟨_, rfl⟩
      obtain ⟨⟨L, e⟩, hE⟩ : ∃ E, splitS R = E := ⟨_, rfl⟩
      rw [hn, hH, hRR, hE] at hy
      rw [hRR, hE] at ih1 ih2
      rw [hH, hRR] at hw
      rw [hH] at hf he hz
      rw [hn] at hz hr
      rw [hy]
      clear hy hn hH hRR hE
      simp only at ih1 ih2 ⊢
      refine ⟨?_, fun r hr => ?_⟩
      · show b.extract 0 (4 + n + e) = encR H ++ encL L
        rw [← ih1]
        obtain ⟨m, hm⟩ : ∃ m, 4 + n + e = m := ⟨_, rfl⟩
        rw [hm]
        have h2 := ext_app (encR H) R m (by omega)
        rw [← hw] at h2
        rw [h2, show m - (encR H).size = e by omega]
      · rcases List.mem_cons.1 hr with rfl | hr
        · exact hf
        · exact ih2 r hr
theorem split_encL : ∀ (l : List ByteArray), (∀ r ∈ l, fitR r) → splitS (encL l) = (l, (encL l).size)
  | [], _ => split_no (by decide)
  | r :: l, h => by
    show splitS (encR r ++ encL l) = _
    rw [split_enc (h r (List.mem_cons_self ..)), split_encL l fun x hx => h x (List.mem_cons_of_mem _ hx)]
    show (r :: l, 4 + r.size + (encL l).size) = (r :: l, (encR r ++ encL l).size)
    rw [ByteArray.size_append, encR_size]
/-- of records' bytes, cut anywhere: a beginning of the records, with all that are whole -/
theorem split_part : ∀ (l : List ByteArray) (m : Nat), (∀ r ∈ l, fitR r) → ∃ j, j ≤ l.length ∧ splitS ((encL l).extract 0 m) = (l.take j, (encL (l.take j)).size) ∧ ∀ n, n ≤ l.length → (encL (l.take n)).size ≤ m → n ≤ j
  | [], m, _ => by
    refine ⟨0, Nat.le_refl _, ?_, fun n hn _ => hn⟩
    have : (encL []).extract 0 m = ⟨#[]⟩ := by
      apply ba_nil
      rw [ByteArray.size_extract]
      show min m 0 - 0 = 0
      omega
    rw [this]
    exact split_no (by decide)
  | r :: l, m, h => by
    have hr := h r (List.mem_cons_self ..)
    by_cases hm : m < 4 + r.size
    · refine ⟨0, Nat.zero_le _, split_torn hr m hm, fun n hn hs => ?_⟩
      match n, hs with
      | 0, _ => exact Nat.le_refl _
      | n + 1, hs =>
        have hs : (encR r ++ encL (l.take n)).size ≤ m := hs
        rw [ByteArray.size_append, encR_size] at hs
        omega
    · obtain ⟨j, h1, h2, h3⟩ := split_part l (m - (encR r).size) fun x hx => h x (List.mem_cons_of_mem _ hx)
      have he := encR_size r
      refine ⟨j + 1, Nat.succ_le_succ h1, ?_, fun n hn hs => ?_⟩
      · show splitS ((encR r ++ encL l).extract 0 m) = _
        rw [ext_app _ _ _ (by omega), split_enc hr, h2]
        show (r :: l.take j, 4 + r.size + (encL (l.take j)).size) = (r :: l.take j, (encR r ++ encL (l.take j)).size)
        rw [ByteArray.size_append, he]
      · match n, hn, hs with
        | 0, _, _ => exact Nat.zero_le _
        | n + 1, hn, hs =>
          have hs : (encR r ++ encL (l.take n)).size ≤ m := hs
          rw [ByteArray.size_append] at hs
          exact Nat.succ_le_succ (h3 n (Nat.le_of_succ_le_succ hn) (by omega))
/-- a log of bytes, cut -/
theorem cut_recs (b : ByteArray) : recsL (cutL ⟨b, ⟨#[]⟩, -1, false⟩) = (splitS b).1 ∧ sizeL (cutL ⟨b, ⟨#[]⟩, -1, false⟩) = (splitS b).2 := by
  obtain ⟨h1, h2⟩ := split_bytes (b.size + 1) b (Nat.lt_succ_self _)
  have he := (split_end (b.size + 1) b (Nat.lt_succ_self _)).1
  have e : cutL ⟨b, ⟨#[]⟩, -1, false⟩ = ⟨encL (splitS b).1, ⟨#[]⟩, -1, false⟩ := by
    unfold cutL
    simp only
    rw [app_nil, Nat.min_eq_left he, h1]
    congr 1
    apply ba_nil
    rw [ByteArray.size_extract]; omega
  rw [e]
  refine ⟨?_, ?_⟩
  · unfold recsL
    rw [if_neg (by simp)]
    simp only
    rw [app_nil, split_encL _ h2]
  · unfold sizeL
    simp only
    have := congrArg ByteArray.size h1
    rw [ByteArray.size_extract] at this
    show (encL (splitS b).1).size + 0 = _
    omega
end SS
end
section
open Go Go.RowKit
namespace SS
open WW BB FF
abbrev RunS := Lg × List ByteArray × Nat
def nextS (all : List ByteArray) (n : Nat) (b : ByteArray) (k : Nat) (r : Lg × Int) : RunS := (r.1, if r.2 = 0 ∧ k = 0 then all ++ [b] else all, if r.2 = 0 ∧ k = 1 then all.length else n)
theorem next0 (all : List ByteArray) (n : Nat) (b : ByteArray) (r : Lg × Int) : nextS all n b 0 r = (r.1, if r.2 = 0 then all ++ [b] else all, n) := by unfold nextS; simp
theorem next1 (all : List ByteArray) (n : Nat) (b : ByteArray) (r : Lg × Int) : nextS all n b 1 r = (r.1, all, if r.2 = 0 then all.length else n) := by unfold nextS; simp
theorem next2 (all : List ByteArray) (n : Nat) (b : ByteArray) (r : Lg × Int) : nextS all n b 2 r = (r.1, all, n) := by unfold nextS; simp
/-- one call -/
def stepS (st : RunS) (o : Op9) : RunS := if 2 < o.1 % 5 then st else nextS st.2.1 st.2.2 o.2.1 (o.1 % 5) (doL st.1 (o.1 % 5) o.2.1 o.2.2)
def runS (l : List Op9) (st : RunS) : RunS := l.foldl stepS st
theorem run_next {l : List Op9} {i : Nat} (h : i < l.length) (st : RunS) : runS (l.take (i + 1)) st = stepS (runS (l.take i) st) (l.getD i op0) := by
  unfold runS
  rw [List.take_add_one, List.getElem?_eq_getElem h, List.foldl_append, List.getD_eq_getElem?_getD, List.getElem?_eq_getElem h]
  rfl
/-- what is safe is what was synced; with what waits it is what was appended -/
def InvS (s : Lg) (all : List ByteArray) (n : Nat) : Prop := s.safe ++ s.wait = encL all ∧ s.safe = encL (all.take n) ∧ n ≤ all.length ∧ ∀ r ∈ all, fitR r
theorem InvS.same {s s' : Lg} {all : List ByteArray} {n : Nat} (h : InvS s all n) (h1 : s'.safe = s.safe) (h2 : s'.wait = s.wait) : InvS s' all n := by
  unfold InvS; rw [h1, h2]; exact h
theorem inv_step {st : RunS} {r0 : Nat} (o : Op9) (h : InvS st.1 st.2.1 (max st.2.2 r0)) (hr : r0 ≤ st.2.1.length) :
    InvS (stepS st o).1 (stepS st o).2.1 (max (stepS st o).2.2 r0) ∧ r0 ≤ (stepS st o).2.1.length := by
  obtain ⟨s, all, n⟩ := st
  obtain ⟨k, b, i⟩ := o
  unfold stepS
  simp only at h hr ⊢
  obtain ⟨b1, b2, b3⟩ := burn_same s
  by_cases hk : 2 < k % 5
  · rw [if_pos hk]; exact ⟨h, hr⟩
  rw [if_neg hk]
  obtain ⟨j, hj⟩ : ∃ j, k % 5 = j := ⟨_, rfl⟩
  rw [hj] at hk ⊢
  match j, hk with
  | 0, _ =>
    rw [show doL s 0 b i = appendL s b from rfl, next0]
    simp only
    unfold appendL
    by_cases hg : s.gone = true
    · rw [if_pos hg, if_neg (fun c => by cases c)]; exact ⟨h, hr⟩
    · rw [if_neg hg]
      by_cases hb : b.size = 0 ∨ 4000 < b.size
      · rw [if_pos hb, if_neg (fun c => by cases c)]; exact ⟨h, hr⟩
      · rw [if_neg hb]
        by_cases hf : s.fuse = 0
        · rw [if_pos hf, if_neg (fun c => by cases c)]; exact ⟨h.same rfl rfl, hr⟩
        · rw [if_neg hf, if_pos rfl]
          have hfit : fitR b := by unfold fitR; omega
          obtain ⟨h1, h2, h3, h4⟩ := h
          refine ⟨⟨?_, ?_, ?_, ?_⟩, ?_⟩
          · show (burnL s).safe ++ (s.wait ++ txt b) = _
            rw [b1, ← ByteArray.append_assoc, h1, enc_append, txt_enc hfit]
            show _ = encL all ++ (encR b ++ ⟨#[]⟩)
            rw [app_nil]
          · show (burnL s).safe = _
            rw [b1, h2, List.take_append_of_le_length h3]
          · rw [List.length_append]; omega
          · intro r hr'
            rcases List.mem_append.1 hr' with h' | h'
            · exact h4 r h'
            · rw [List.mem_singleton.1 h']; exact hfit
          · rw [List.length_append]; omega
  | 1, _ =>
    rw [show doL s 1 b i = syncL s from rfl, next1]
    simp only
    refine ⟨?_, hr⟩
    unfold syncL
    by_cases hg : s.gone = true
    · rw [if_pos hg, if_neg (fun c => by cases c)]; exact h
    · rw [if_neg hg]
      by_cases hf : s.fuse = 0
      · rw [if_pos hf, if_neg (fun c => by cases c)]; exact h.same rfl rfl
      · rw [if_neg hf, if_pos rfl, Nat.max_eq_left hr]
        obtain ⟨h1, h2, h3, h4⟩ := h
        refine ⟨?_, ?_, Nat.le_refl _, h4⟩
        · show (s.safe ++ s.wait) ++ (⟨#[]⟩ : ByteArray) = _
          rw [app_nil, h1]
        · show s.safe ++ s.wait = _
          rw [List.take_length, h1]
  | 2, _ =>
    rw [show doL s 2 b i = (fuseL s i, 0) from rfl, next2]
    simp only
    refine ⟨?_, hr⟩
    unfold fuseL
    split
    · exact h
    · exact h.same rfl rfl
  | j + 3, hk => exact absurd (by omega) hk
theorem inv_run (l : List Op9) : ∀ (st : RunS) (r0 : Nat), InvS st.1 st.2.1 (max st.2.2 r0) → r0 ≤ st.2.1.length → InvS (runS l st).1 (runS l st).2.1 (max (runS l st).2.2 r0) ∧ r0 ≤ (runS l st).2.1.length := by
  induction l with
  | nil => intro st r0 h hr; exact ⟨h, hr⟩
  | cons o l ih =>
    intro st r0 h hr
    obtain ⟨h1, h2⟩ := inv_step o h hr
    exact ih (stepS st o) r0 h1 h2
theorem cut_is (b : ByteArray) : cutL ⟨b, ⟨#[]⟩, -1, false⟩ = ⟨encL (splitS b).1, ⟨#[]⟩, -1, false⟩ := by
  obtain ⟨h1, h2⟩ := split_bytes (b.size + 1) b (Nat.lt_succ_self _)
  have he := (split_end (b.size + 1) b (Nat.lt_succ_self _)).1
  unfold cutL
  simp only
  rw [app_nil, Nat.min_eq_left he, h1]
  congr 1
  apply ba_nil
  rw [ByteArray.size_extract]; omega
/-- behind a crash -/
theorem inv_crash {s : Lg} {all : List ByteArray} {n : Nat} (h : InvS s all n) (c : Int) : ∃ j, n ≤ j ∧ j ≤ all.length ∧ (crashL s c).gone = false ∧ recsL (crashL s c) = all.take j ∧
    cutA (crashL s c) = (⟨encL (all.take j), ⟨#[]⟩, -1, false⟩, 0) ∧ InvS ⟨encL (all.take j), ⟨#[]⟩, -1, false⟩ (all.take j) (all.take j).length := by
  obtain ⟨h1, h2, h3, h4⟩ := h
  obtain ⟨m, hm⟩ : ∃ m, keepN c s.wait.size = m := ⟨_, rfl⟩
  obtain ⟨j, j1, j2, j3⟩ := split_part all (s.safe.size + m) h4
  have e : s.safe ++ s.wait.extract 0 m = (encL all).extract 0 (s.safe.size + m) := by
    rw [← h1, ext_app _ _ _ (by omega), Nat.add_sub_cancel_left]
  have ec : crashL s c = ⟨(encL all).extract 0 (s.safe.size + m), ⟨#[]⟩, -1, false⟩ := by unfold crashL; rw [hm, e]
  have hfit : ∀ r ∈ all.take j, fitR r := fun r hr => h4 r (List.mem_of_mem_take hr)
  refine ⟨j, j3 n h3 (by rw [← h2]; omega), j1, by rw [ec], ?_, ?_, ?_, ?_, ?_, hfit⟩
  · rw [ec]; unfold recsL
    rw [if_neg (by simp)]
    simp only
    rw [app_nil, j2]
  · rw [ec]; unfold cutA
    rw [if_neg (by simp), cut_is, j2]
  · exact app_nil _
  · show encL (all.take j) = _
    rw [List.take_length]
  · exact Nat.le_refl _
theorem run_size (l : List Op9) : ∀ st : RunS, sizeL (runS l st).1 ≤ sizeL st.1 + l.length * 4004 := by
  induction l with
  | nil => intro st; show sizeL st.1 ≤ sizeL st.1 + 0 * 4004; omega
  | cons o l ih =>
    intro st
    have := ih (stepS st o)
    have hs : sizeL (stepS st o).1 ≤ sizeL st.1 + 4004 := by
      unfold stepS
      split
      · omega
      · exact do_size _ _ _ _
    show sizeL (runS l (stepS st o)).1 ≤ _
    rw [List.length_cons]; omega
theorem run_len (l : List Op9) : ∀ st : RunS, (runS l st).2.1.length ≤ st.2.1.length + l.length := by
  induction l with
  | nil => intro st; exact Nat.le_refl _
  | cons o l ih =>
    intro st
    have := ih (stepS st o)
    have hs : (stepS st o).2.1.length ≤ st.2.1.length + 1 := by
      unfold stepS
      split
      · omega
      · unfold nextS
        simp only
        split
        · rw [List.length_append]; exact Nat.le_refl _
        · omega
    show (runS l (stepS st o)).2.1.length ≤ _
    rw [List.length_cons]; omega
end SS
end
