/-
  Calls without crashes and cuts, by lists: what was appended, and how many are synced; a crash behind them. No walk is here.
-/
import Derived.Test.YthajnkcipifhcaaGreatDoorKZRow
import Derived.Test.YthajnkcipifhcaaGreatDoorKSSplit
import Derived.Test.YthajnkcipifhcaaGreatDoorKPlanN
section
open Go Go.RowKit
namespace SS
open WW BB FF
/-- all blocks but one stay -/
def ButR (r : Nat) (w w' : World) : Prop := Keeps (fun b => b ≠ r) w w'
theorem ButR.of {r : Nat} {w w1 w2 : World} (h1 : Below w.heap.size w w1) (h2 : Upd r w1 w2) : ButR r w w2 := (Keeps.of h1).trans (Keeps.upd h2 fun _ h => h)
end SS
namespace Go.Proofs.YthajnkcipifhcaaGreatDoor
open SS FF CC WW BB
section
variable (s : Lg) (k k5 : Nat) (b : ByteArray) (n : Int) (r : Nat) (w : World)
end
end Go.Proofs.YthajnkcipifhcaaGreatDoor
end
section
open Go Go.RowKit
namespace SS
open WW BB FF
/-- a call: its kind, its bytes, its number -/
abbrev Op9 := Nat × ByteArray × Int
def op0 : Op9 := (0, ⟨#[]⟩, 0)
/-- v is a slice of calls -/
def OpsS (w : World) (v : Value) (l : List Op9) : Prop :=
  ∃ a0 cap, v = .slice a0 l.length cap ∧ (l = [] ∨ ∃ b off, a0 = some ⟨b, off, none⟩ ∧ b < w.heap.size ∧
    ∀ i, i < l.length → w.cell? ⟨b, off + i * 3, none⟩ = some (.int .u8 ((l.getD i op0).1 : Int)) ∧ w.cell? ⟨b, off + i * 3 + 1, none⟩ = some (.string (l.getD i op0).2.1) ∧ w.cell? ⟨b, off + i * 3 + 2, none⟩ = some (.int .i64 (l.getD i op0).2.2))
theorem OpsS.below {w w' : World} {v : Value} {l : List Op9} (h : OpsS w v l) (hb : Below w.heap.size w w') : OpsS w' v l := by
  obtain ⟨a0, cap, e, h⟩ := h
  refine ⟨a0, cap, e, h.imp id ?_⟩
  rintro ⟨b, off, e2, hl, hc⟩
  refine ⟨b, off, e2, Nat.lt_of_lt_of_le hl hb.size, fun i hi => ?_⟩
  have hk := hb.block b hl
  obtain ⟨h0, h1, h2⟩ := hc i hi
  exact ⟨(World.cell?_of_block hk).trans h0, (World.cell?_of_block hk).trans h1, (World.cell?_of_block hk).trans h2⟩
end SS
namespace Go.Proofs.YthajnkcipifhcaaGreatDoor
open SS RR FF WW BB
end Go.Proofs.YthajnkcipifhcaaGreatDoor
end
section
open Go Go.RowKit
namespace SS
open WW BB FF
/-- v is a slice of the strings l, in a block that A holds -/
def StrsIn (A : Nat → Prop) (w : World) (v : Value) (l : List ByteArray) : Prop :=
  ∃ a0 cap, v = .slice a0 l.length cap ∧ (a0 = none → cap = 0) ∧ (l = [] ∨ ∃ b off, a0 = some ⟨b, off, none⟩ ∧ A b ∧ b < w.heap.size ∧ ∀ i, i < l.length → w.cell? ⟨b, off + i, none⟩ = some (.string (l.getD i ⟨#[]⟩)))
section
variable {A A' : Nat → Prop} {w w' : World} {v : Value} {l : List ByteArray}
theorem StrsIn.at_ (h : StrsIn A w v l) : StrsAt w v l := by
  obtain ⟨a0, cap, e, _, h⟩ := h
  exact ⟨a0, cap, e, h.imp id fun ⟨b, off, e, _, hl, hc⟩ => ⟨b, off, e, hl, hc⟩⟩
theorem StrsIn.keep (h : StrsIn A w v l) (hk : Keeps A w w') : StrsIn A w' v l := by
  obtain ⟨a0, cap, e, hn, h⟩ := h
  exact ⟨a0, cap, e, hn, h.imp id fun ⟨b, off, e, hA, hl, hc⟩ => ⟨b, off, e, hA, Nat.lt_of_lt_of_le hl hk.b0.size, fun i hi => (World.cell?_of_block (hk.block b hA hl)).trans (hc i hi)⟩⟩
theorem StrsIn.sub (h : StrsIn A w v l) (hA : ∀ b, A b → b < w.heap.size → A' b) : StrsIn A' w v l := by
  obtain ⟨a0, cap, e, hn, h⟩ := h
  exact ⟨a0, cap, e, hn, h.imp id fun ⟨b, off, e, h1, hl, hc⟩ => ⟨b, off, e, hA b h1 hl, hl, hc⟩⟩
theorem StrsIn.nil (A : Nat → Prop) (w : World) : StrsIn A w (.slice none 0 0) [] := ⟨none, 0, rfl, fun _ => rfl, Or.inl rfl⟩
end
/-- what a log's Records are -/
def recsL (s : Lg) : List ByteArray := if s.gone = true then [] else (splitS (s.safe ++ s.wait)).1
/-- its fuse is an int, -1 at least; its bytes are few -/
def OkL (s : Lg) : Prop := -1 ≤ s.fuse ∧ s.fuse ≤ 9223372036854775807
/-- a new log -/
def Made9 (At : (Nat → Prop) → World → Nat → Lg → Prop) (s : Lg) (w : World) (e : Ending) (w' : World) : Prop :=
  ∃ g O, e = .returned (.pointer (some ⟨g, 0, none⟩)) ∧ At O w' g s ∧ (∀ b, O b → w.heap.size ≤ b) ∧ Below w.heap.size w w'
/-- the log behind a call -/
def Next9 (At : (Nat → Prop) → World → Nat → Lg → Prop) (O : Nat → Prop) (w : World) (g : Nat) (s : Lg) (w' : World) : Prop :=
  ∃ O', At O' w' g s ∧ Keeps (fun b => ¬ O b) w w' ∧ ∀ b, O' b → O b ∨ w.heap.size ≤ b
end SS
end
section
open Go Go.RowKit
namespace SS
open WW BB FF
theorem app_nil (b : ByteArray) : b ++ (⟨#[]⟩ : ByteArray) = b := by apply ba_ext; rw [app_list]; exact List.append_nil _
theorem whole_of {b : ByteArray} (h : okR b = true) : b = encR (headR b) ++ restR b ∧ fitR (headR b) := by
  have hy := ok_yes h
  have hz := head_size h
  have hr := rest_size h
  refine ⟨?_, by unfold fitR; omega⟩
  have h1 : numSp 0 4294967295 b = some (b.extract 4 b.size, rd4 b) := by
    unfold numSp; rw [if_neg (by omega), if_neg (by omega)]
  obtain ⟨e1, _, _⟩ := numSp_sound h1
  unfold encR
  rw [hz]
  refine e1.trans ?_
  rw [ByteArray.append_assoc]
  congr 1
  apply ba_ext
  have hl := ba_list b
  rw [app_list]
  unfold headR restR
  rw [ext_list, ext_list, ext_list, List.take_of_length_le (by rw [List.length_drop]; omega), List.take_of_length_le (l := List.drop (4 + rd4 b) _) (by rw [List.length_drop]; omega), Nat.add_sub_cancel_left]
  rw [← List.drop_drop, List.take_append_drop]
theorem ext_app (a b : ByteArray) (m : Nat) (h : a.size ≤ m) : (a ++ b).extract 0 m = a ++ b.extract 0 (m - a.size) := by
  apply ba_ext
  have hl := ba_list a
  rw [ext_list, app_list, app_list, ext_list, List.drop_zero, List.drop_zero, List.take_append, Nat.sub_zero, Nat.sub_zero, hl, List.take_of_length_le (by omega)]
/-- the bytes that are records are just the records' -/
theorem split_bytes : ∀ (k : Nat) (b : ByteArray), b.size < k → b.extract 0 (splitS b).2 = encL (splitS b).1 ∧ (∀ r ∈ (splitS b).1, fitR r)
  | 0, _, h => absurd h (Nat.not_lt_zero _)
  | k + 1, b, h => by
    cases ho : okR b with
    | false =>
      rw [split_no ho]
      refine ⟨?_, fun r hr => by cases hr⟩
      apply ba_ext; rw [ext_list]; rfl
    | true =>
      have hr := rest_size ho
      have hz := head_size ho
      obtain ⟨hw, hf⟩ := whole_of ho
      obtain ⟨ih1, ih2⟩ := split_bytes k (restR b) (by omega)
      have hy := split_yes ho
      have he := encR_size (headR b)
      obtain ⟨n, hn⟩ : ∃ n, rd4 b = n := ⟨_, rfl⟩
      obtain ⟨H, hH⟩ : ∃ H, headR b = H := ⟨_, rfl⟩
      obtain ⟨R, hRR⟩ : ∃ R, restR b = R := ⟨_, rfl⟩
      obtain ⟨⟨L, e⟩, hE⟩ : ∃ E, splitS R = E := ⟨_, rfl⟩
      rw [hn, hH, hRR, hE] at hy
      rw [hRR, hE] at ih1 ih2
      rw [hH, hRR] at hw
      rw [hH] at hf he hz
      rw [hn] at hz hr
      rw [hy]
      clear hy hn hH hRR hE
      simp only at ih1 ih2 ⊢
      refine ⟨?_, fun r hr => ?_⟩
      · show b.extract 0 (4 + n + e) = encR H ++ encL L
        rw [← ih1]
        obtain ⟨m, hm⟩ : ∃ m, 4 + n + e = m := ⟨_, rfl⟩
        rw [hm]
        have h2 := ext_app (encR H) R m (by omega)
        rw [← hw] at h2
        rw [h2, show m - (encR H).size = e by omega]
      · rcases List.mem_cons.1 hr with rfl | hr
        · exact hf
        · exact ih2 r hr
theorem split_encL : ∀ (l : List ByteArray), (∀ r ∈ l, fitR r) → splitS (encL l) = (l, (encL l).size)
  | [], _ => split_no (by decide)
  | r :: l, h => by
    show splitS (encR r ++ encL l) = _
    rw [split_enc (h r (List.mem_cons_self ..)), split_encL l fun x hx => h x (List.mem_cons_of_mem _ hx)]
    show (r :: l, 4 + r.size + (encL l).size) = (r :: l, (encR r ++ encL l).size)
    rw [ByteArray.size_append, encR_size]
end SS
end
section
open Go Go.RowKit
namespace SS
open WW BB FF
/-- what is safe is what was synced; with what waits it is what was appended -/
def InvS (s : Lg) (all : List ByteArray) (n : Nat) : Prop := s.safe ++ s.wait = encL all ∧ s.safe = encL (all.take n) ∧ n ≤ all.length ∧ ∀ r ∈ all, fitR r
theorem InvS.same {s s' : Lg} {all : List ByteArray} {n : Nat} (h : InvS s all n) (h1 : s'.safe = s.safe) (h2 : s'.wait = s.wait) : InvS s' all n := by
  unfold InvS; rw [h1, h2]; exact h
theorem cut_is (b : ByteArray) : cutL ⟨b, ⟨#[]⟩, -1, false⟩ = ⟨encL (splitS b).1, ⟨#[]⟩, -1, false⟩ := by
  obtain ⟨h1, h2⟩ := split_bytes (b.size + 1) b (Nat.lt_succ_self _)
  have he := (split_end (b.size + 1) b (Nat.lt_succ_self _)).1
  unfold cutL
  simp only
  rw [app_nil, Nat.min_eq_left he, h1]
  congr 1
  apply ba_nil
  rw [ByteArray.size_extract]; omega
end SS
end
