/-
  Saves that come in, as a list; the walks of the reference's Few and Right.
-/
import Derived.Test.YthajnkcipifhcaaGreatDoorKTMath
import Derived.Test.YthajnkcipifhcaaGreatDoorKZMath
import Derived.Test.YthajnkcipifhcaaGreatDoorKWFew
import Derived.Test.YthajnkcipifhcaaGreatDoorKZRow
import Derived.Deep.RegionHeld3
import Derived.Test.YthajnkcipifhcaaGreatDoorKWRef2
import Derived.Test.YthajnkcipifhcaaGreatDoorKNoStr
import Derived.Test.YthajnkcipifhcaaGreatDoorKWMsgLaw
import Derived.Test.YthajnkcipifhcaaGreatDoorKPlanN
import Derived.Test.YthajnkcipifhcaaGreatDoorKCallsW
import Derived.Laws.AppendOwn
import Derived.Test.YthajnkcipifhcaaGreatDoorKJRow
import Derived.Test.YthajnkcipifhcaaGreatDoorKRState
import Derived.Test.YthajnkcipifhcaaGreatDoorKLeMath
import Derived.Test.YthajnkcipifhcaaGreatDoorKTaMath
import Derived.Test.YthajnkcipifhcaaGreatDoorKSRunM
import Derived.Test.YthajnkcipifhcaaGreatDoorKMSign
import Derived.Test.YthajnkcipifhcaaGreatDoorKJDig
import Derived.Test.YthajnkcipifhcaaGreatDoorKECopied
import Derived.Test.YthajnkcipifhcaaGreatDoorKERow
import Derived.Test.YthajnkcipifhcaaGreatDoorKJLawD
import Derived.Test.YthajnkcipifhcaaGreatDoorKNoCText
section
open Go Go.RowKit
namespace TT
open SS RR WW BB FF
/-- a block's value -/
def bvV (x : Bv) : Value := .agg #[.int .i64 (viewI x.1), .int .i64 (propI x.1), .int .i64 (jvI x.1), .string (parI x.1), x.2.1, x.2.2]
def SmallD (b : BlockD) : Prop := (parI b).size ≤ 1000000 ∧ SmallS (sigsI b) ∧ SmallR b.2
end TT
namespace Go.Proofs.YthajnkcipifhcaaGreatDoor
open TT SS RR FF JJ CC WW BB
/-- a state is read, or not -/
theorem readst_some (b : ByteArray) (s : StT) (w : World) (h : readS b = some s) : Calls Tryz.prog 235 #[.string b] w fun e w' => e = .returned (.tuple #[.agg #[.int .i64 s.1, .int .i64 s.2], .int .i64 0]) ∧ Below w.heap.size w w' := by
  have h8 : b.size = 8 := by
    unfold readS at h
    split at h
    · assumption
    · cases h
  unfold readS at h
  rw [if_pos h8] at h
  refine read_full b h8 _ _ rfl rfl s.1 s.2 0 ?_ w
  rw [h]; rfl
theorem readst_none (b : ByteArray) (w : World) (h : readS b = none) : Calls Tryz.prog 235 #[.string b] w fun e w' => e = .returned (.tuple #[.agg #[.int .i64 0, .int .i64 0], .int .i64 2]) ∧ Below w.heap.size w w' := by
  by_cases h8 : b.size = 8
  · unfold readS at h
    rw [if_pos h8] at h
    refine read_full b h8 _ _ rfl rfl 0 0 2 ?_ w
    rw [h]; rfl
  · exact read_short b h8 w
end Go.Proofs.YthajnkcipifhcaaGreatDoor
end
section
open Go Go.RowKit
namespace TT
open SS RR WW BB FF
/-- the two boxes of the results -/
structure OneSt (w : World) (wr : World) : Prop where
  below : Below w.heap.size w wr
  st : Blk wr w.heap.size 2 (rowL [.int .i64 0, .int .i64 0])
  bl : Blk wr (w.heap.size + 1) 6 (rowL [.int .i64 0, .int .i64 0, .int .i64 0, .string ⟨#[]⟩, .slice none 0 0, .slice none 0 0])
theorem OneSt.on {w wr w' : World} (h : OneSt w wr) (hb : Below wr.heap.size wr w') : OneSt w w' := ⟨h.below.trans (hb.mono h.below.size), h.st.below hb h.st.lt, h.bl.below hb h.bl.lt⟩
theorem byte0 (r : ByteArray) (h : 0 < r.size) : (r[0].toNat : Int) = ((r.data.toList.getD 0 0).toNat : Int) := by rw [get_byte]
end TT
namespace Go.Proofs.YthajnkcipifhcaaGreatDoor
open TT SS RR FF JJ CC WW BB
/-- a block that was read rests upon new blocks of memory alone -/
theorem blockans_dep {w w' : World} {d : BlockD} {e : Ending} (h : BlockAns w (some d) e w') : ∃ sv rv, e = .returned (.tuple #[bvV (d, sv, rv), .int .i64 0]) ∧ Dep (fun b => w.heap.size ≤ b) w' (fun w'' => InnB w'' (d, sv, rv)) := by
  obtain ⟨f', lo, hi, rfl, hlo, hhi, hR⟩ := h
  refine ⟨f' 4, f' 5, ?_, fun w'' hK => ?_⟩
  · obtain ⟨sv, rv, hf, _, _⟩ := blockR_cells hR
    rw [hf]; rfl
  · obtain ⟨sv, rv, hf, hsv, hrv⟩ := blockR_cells ((sound_block 0).keep hR (w' := w'') fun k h1 h2 => hK.block k (Nat.le_trans hlo h1) (Nat.lt_of_lt_of_le h2 hhi))
    have e4 : f' 4 = sv := by rw [hf]; rfl
    have e5 : f' 5 = rv := by rw [hf]; rfl
    rw [e4, e5]; exact ⟨hsv, hrv⟩
end Go.Proofs.YthajnkcipifhcaaGreatDoor
end
section
open Go Go.RowKit
namespace TT
open SS RR FF WW BB
/-- what is remembered so far -/
structure RcSt (w0 : World) (tB : TypeId) (s : StT) (L : List Bv) (x : Value) (wr : World) : Prop where
  below : Below w0.heap.size w0 wr
  rb : Blk wr w0.heap.size 2 (rowL [.int .i64 0, .int .i64 0])
  sb : Blk wr (w0.heap.size + 1) 2 (rowL [.int .i64 s.1, .int .i64 s.2])
  row : wr.ownsRow (w0.heap.size + 2) tB 6 x L.length (cellsB L)
  inn : ∀ y ∈ L, Dep (fun b => w0.heap.size + 2 ≤ b ∧ x.ownBlock ≠ some b) wr (fun w' => InnB w' y)
section
variable {w0 wr w' : World} {tB : TypeId} {s : StT} {L : List Bv} {x : Value}
theorem RcSt.on (h : RcSt w0 tB s L x wr) (hb : Below wr.heap.size wr w') : RcSt w0 tB s L x w' :=
  ⟨h.below.trans (hb.mono h.below.size), h.rb.below hb h.rb.lt, h.sb.below hb h.sb.lt, row_keep h.row fun c hc => hb.block c (h.row.lt c hc).2, fun y hy => (h.inn y hy).on (Keeps.of hb)⟩
theorem RcSt.now (h : RcSt w0 tB s L x wr) : ∀ y ∈ L, InnB wr y := fun y hy => (h.inn y hy).now
theorem RcSt.bv (h : RcSt w0 tB s L x wr) : BvAt wr x L := bv_of_own h.row h.now
/-- another state -/
theorem RcSt.set (h : RcSt w0 tB s L x wr) {s' : StT} {wq : World} (hB : Blk wq (w0.heap.size + 1) 2 (rowL [.int .i64 s'.1, .int .i64 s'.2])) (hu : Upd (w0.heap.size + 1) wr wq) : RcSt w0 tB s' L x wq :=
  ⟨h.below.trans (hu.below (Nat.le_succ _)), h.rb.of_heap (hu.block _ (by omega)), hB, row_keep h.row fun c hc => hu.block c (by have := (h.row.lt c hc).1; omega), fun y hy => (h.inn y hy).on (Keeps.upd hu fun b hb => by have := hb.1; omega)⟩
/-- a block more, in a new row -/
theorem RcSt.add (h : RcSt w0 tB s L x wr) {x' : Value} {y : Bv} {base : Nat} (hb : wr.heap.size ≤ base) (hy : Dep (fun b => w0.heap.size + 2 ≤ b) wr (fun w' => InnB w' y)) (hk : Below wr.heap.size wr w')
    (hr : w'.ownsRow base tB 6 x' (L ++ [y]).length (cellsB (L ++ [y]))) : RcSt w0 tB s (L ++ [y]) x' w' := by
  have h1 := h.on hk
  have hs2 : w0.heap.size + 2 ≤ wr.heap.size := by have := h.sb.lt; omega
  have hne : ∀ b, b < wr.heap.size → x'.ownBlock ≠ some b := fun b hl e => by have := (hr.lt b e).1; omega
  refine ⟨h1.below, h1.rb, h1.sb, CC.own_base hr (by omega), fun z hz => ?_⟩
  rcases List.mem_append.1 hz with hz | hz
  · exact ((h.inn z hz).more (A' := fun b => w0.heap.size + 2 ≤ b ∧ x'.ownBlock ≠ some b) fun b hb hl => ⟨hb.1, hne b hl⟩).on (Keeps.of hk)
  · rw [List.mem_singleton.1 hz]
    exact (hy.more (A' := fun b => w0.heap.size + 2 ≤ b ∧ x'.ownBlock ≠ some b) fun b hb hl => ⟨hb, hne b hl⟩).on (Keeps.of hk)
end
theorem take_step {l : List ByteArray} {i : Nat} (h : i < l.length) : l.take (i + 1) = l.take i ++ [l.getD i ⟨#[]⟩] := by
  rw [List.take_add_one, List.getElem?_eq_getElem h, List.getD_eq_getElem?_getD, List.getElem?_eq_getElem h]; rfl
theorem rec_step {l : List ByteArray} {i : Nat} (h : i < l.length) (hg : GoodL (l.take i)) {M : MemT} (hM : recallL (l.take i) ((0, 0), []) = M) {x : StT ⊕ BlockD} (hx : oneD (l.getD i ⟨#[]⟩) = some x) : GoodL (l.take (i + 1)) ∧ recallL (l.take (i + 1)) ((0, 0), []) = stepR M x := by
  rw [take_step h]
  refine ⟨hg.append fun r hr => by rw [List.mem_singleton.1 hr, hx]; rfl, ?_⟩
  rw [recall_append _ _ _ hg, hM, recall_cons hx]; rfl
theorem rec_halt {l : List ByteArray} {i : Nat} (h : i < l.length) (hg : GoodL (l.take i)) {M : MemT} (hM : recallL (l.take i) ((0, 0), []) = M) (hx : oneD (l.getD i ⟨#[]⟩) = none) : recallL l ((0, 0), []) = M := by
  have e : l = l.take i ++ (l.getD i ⟨#[]⟩ :: l.drop (i + 1)) := by
    rw [List.getD_eq_getElem?_getD, List.getElem?_eq_getElem h]
    show l = l.take i ++ (l[i] :: l.drop (i + 1))
    rw [← List.drop_eq_getElem_cons h, List.take_append_drop]
  rw [e, recall_append _ _ _ hg, hM, recall_stop hx]
end TT
namespace Go.Proofs.YthajnkcipifhcaaGreatDoor
open TT SS RR FF JJ CC MM WW BB
theorem tinfo_blk : (Tryz.prog.info? 36).map (fun i => (i.zero, i.size, i.bytes)) = some (some (.agg #[.int .i64 0, .int .i64 0, .int .i64 0, .string ⟨#[]⟩, .slice none 0 0, .slice none 0 0]), 6, 88) := by kernel_rfl
theorem tund_blks : Tryz.prog.underlying 62 = some (.slice 36) := by kernel_rfl
end Go.Proofs.YthajnkcipifhcaaGreatDoor
end
section
open Go Go.RowKit
namespace ND
open NO QU GA TI TA LE ZZ TT SS RR FF JJ CC MM WW BB
/-- a message -/
structure Ms where
  k : Int
  fr : Int
  node : Int
  v : Int
  h : ByteArray
  x : BlockD
  c : CertD
  s : Int × List ByteArray
  r : Int × Int × ByteArray
  ix : Int
  tg : ByteArray
def msOf (m : Mg) : Ms := ⟨m.k, m.fr, m.node, m.v, m.h, m.x, m.c, m.s, m.r, m.ix, m.tg⟩
/-- a node -/
structure Nd where
  sd : ByteArray
  id : Int
  n : Int
  lo : Lg
  me : MemT
  st : RR.St
  fo : Fo
  ch : List BlockD
  lg : List Rq
  po : Po
  ta : Ta
  ti : Tim
  ga : List Int
  hi : CertD
  wa : CertD
  pr : Int
  out : List Ms
  dead : Bool
def certD0 : CertD := ((0, ⟨#[]⟩), [])
def firstC : CertD := ((0, firstD), [])
def okB (b : BlockD) : Bool := rightBlock b.1.1.1 b.1.1.2 b.1.2.1.1 b.1.2.1.2 b.1.2.2 b.2
def bdNo : BlockD := (((0, 0), certD0), [])
def ms0 : Ms := ⟨0, 0, 0, 0, ⟨#[]⟩, bdNo, certD0, (0, []), (0, 0, ⟨#[]⟩), 0, ⟨#[]⟩⟩
/-- a message is sent -/
def textM (m : Ms) : ByteArray := textF m.k m.v m.h m.x m.c m.r m.ix
def sendX (x : Nd) (m : Ms) : Nd := { x with out := x.out ++ [{ m with fr := x.id, tg := tagB x.sd (endn x.id) (endn m.node) (textM m) }] }
def toAllX (x : Nd) (m : Ms) : Nd := (List.range x.n.toNat).foldl (fun y (i : Nat) => sendX y { m with node := (i : Int) }) x
def haltX (x : Nd) : Bool := decide (1000000 < x.ti.1)
def tellX (x : Nd) : Nd := if haltX x = true then x else toAllX x { ms0 with k := 3, v := x.ti.1, c := x.hi }
def roseX (x : Nd) (ok : Bool) : Nd := if ok = true then { x with ta := belowT x.ta (x.ti.1 - 2) } else x
def enterX (x : Nd) (v : Int) : Nd := roseX { x with ti := (enterT x.ti v).1 } (enterT x.ti v).2
def tickX (x : Nd) : Nd :=
  if x.dead = true then x else
  let y := roseX { x with ti := (tickT x.ti).1 } (tickT x.ti).2
  if (tickT x.ti).2 = true then tellX y else y
/-- a new one, on an empty log -/
def newX (sd : ByteArray) (id n : Int) (lo : Lg) : Nd := ⟨sd, id, n, lo, ((0, 0), []), (0, 0), ⟨firstD, 0, [], []⟩, [], [], ([], []), TA.newT sd id n, (1, 0, 4), newG n, firstC, certD0, 0, [], false⟩
end ND
end
section
open Go Go.RowKit
namespace TT
open SS RR FF WW BB
/-- a save: its state, its blocks (a slice of them), a fuse, a crash -/
structure Op10 where
  s : StT
  lv : Value
  L : List Bv
  fz : Bool
  n : Int
  cr : Bool
  kp : Int
/-- a save's seven cells, and its blocks -/
def OpT (w : World) (b off : Nat) (o : Op10) : Prop :=
  w.cell? ⟨b, off, none⟩ = some (.int .i64 o.s.1) ∧ w.cell? ⟨b, off + 1, none⟩ = some (.int .i64 o.s.2) ∧ w.cell? ⟨b, off + 2, none⟩ = some o.lv ∧ w.cell? ⟨b, off + 3, none⟩ = some (.bool o.fz) ∧ w.cell? ⟨b, off + 4, none⟩ = some (.int .i64 o.n) ∧ w.cell? ⟨b, off + 5, none⟩ = some (.bool o.cr) ∧ w.cell? ⟨b, off + 6, none⟩ = some (.int .i64 o.kp) ∧ BvAt w o.lv o.L
theorem OpT.later {w w' : World} {b off : Nat} {o : Op10} (h : OpT w b off o) (hb : Below w.heap.size w w') (hl : b < w.heap.size) : OpT w' b off o := by
  obtain ⟨h0, h1, h2, h3, h4, h5, h6, h7⟩ := h
  have k : ∀ i u, w.cell? ⟨b, i, none⟩ = some u → w'.cell? ⟨b, i, none⟩ = some u := fun i u h => (hb.cell (p := ⟨b, i, none⟩) hl).trans h
  exact ⟨k _ _ h0, k _ _ h1, k _ _ h2, k _ _ h3, k _ _ h4, k _ _ h5, k _ _ h6, h7.later hb⟩
/-- may a save be? -/
def rightO (o : Op10) : Prop := rightS o.s ∧ ∀ x ∈ o.L, blockOk x.1
instance (b : BlockD) : Decidable (blockOk b) := by unfold blockOk; infer_instance
instance (o : Op10) : Decidable (rightO o) := by unfold rightO; infer_instance
end TT
namespace Go.Proofs.YthajnkcipifhcaaGreatDoor
open TT SS RR FF JJ CC MM WW BB
end Go.Proofs.YthajnkcipifhcaaGreatDoor
end
