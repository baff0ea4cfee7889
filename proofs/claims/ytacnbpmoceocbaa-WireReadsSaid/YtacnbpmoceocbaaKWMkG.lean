/-
  What makes the closure that cuts a list off.
-/
import Derived.Test.YtacnbpmoceocbaaKWOne
import Derived.Test.YtacnbpmoceocbaaKHeld
import Derived.Test.YtacnbpmoceocbaaKWNum
import Derived.OrdersHeld
import Derived.Maps.AppendAt
import Derived.Test.YtacnbpmoceocbaaKWCutR
import Derived.WideShapes
import Derived.Deep.CutRange
import Derived.Lib.SmallJoins
section
open Go Go.RowKit
namespace BB
section
variable {P : Program} {ops : Array Oper} {md : Region.Mode} {w : World} {Q : Exit → Act → World → Prop}
/-- c3 and c5 in either order, then c6, c7, c8 -/
def appN (md : Region.Mode) (ops : Array Oper) (c3 c5 c6 c7 c8 : Nat) (li : Array Bool) : Bool :=
  let a := li.setIfInBounds c3 true
  let b := li.setIfInBounds c5 true
  let ab := a.setIfInBounds c5 true
  let ba := b.setIfInBounds c3 true
  decide (Region.ready md ops li = [c3, c5]) && decide (Region.ready md ops a = [c5]) && decide (Region.ready md ops b = [c3]) &&
  decide (Region.ready md ops ab = [c6]) && decide (Region.ready md ops ba = [c6]) &&
  decide (Region.ready md ops (ab.setIfInBounds c6 true) = [c7]) && decide (Region.ready md ops (ba.setIfInBounds c6 true) = [c7]) &&
  decide (Region.ready md ops ((ab.setIfInBounds c6 true).setIfInBounds c7 true) = [c8]) && decide (Region.ready md ops ((ba.setIfInBounds c6 true).setIfInBounds c7 true) = [c8]) &&
  decide (Region.ready md ops (((ab.setIfInBounds c6 true).setIfInBounds c7 true).setIfInBounds c8 true) = []) && decide (Region.ready md ops (((ba.setIfInBounds c6 true).setIfInBounds c7 true).setIfInBounds c8 true) = [])
theorem app_region {id : Nat} {a a1 : Act} {l : List Oper} (hd : List Nat) (c3 c5 c6 c7 c8 : Nat) (o3 o5 o6 o7 o8 : Oper) (d3 d5 d6 d7 : Nat) (S : World → Prop) (sv v5 v7 : Value) (ob : Obj) (hm : P.follows .mixedOrders = true)
    (hB : (Region.noSelect l.toArray && preB .any l.toArray (appN .any l.toArray c3 c5 c6 c7 c8) hd (Array.replicate l.toArray.size false) && decide (hd.length + 5 = l.toArray.size)) = true)
    (hQ : ∀ c a d v w, Q (.panic c) (Act.put a d v) w → Q (.panic c) a w)
    (ho3 : l.toArray[c3]? = some o3) (ho5 : l.toArray[c5]? = some o5) (ho6 : l.toArray[c6]? = some o6) (ho7 : l.toArray[c7]? = some o7) (ho8 : l.toArray[c8]? = some o8)
    (hg : o3.guard = none ∧ o5.guard = none ∧ o6.guard = none ∧ o7.guard = none ∧ o8.guard = none) (hd3 : o3.dst = some d3) (hd5 : o5.dst = some d5) (hd6 : o6.dst = some d6) (hd7 : o7.dst = some d7) (hd8 : o8.dst = none) (hne : d3 ≠ d5)
    (hS0 : S { w with drawn := w.drawn + 1 }) (hS5 : S (({ w with drawn := w.drawn + 1 } : World).alloc ob))
    (hread : wpHeldG P l.toArray S (fun a' => a' = a1) (pick l.toArray hd) a)
    (h3 : ∀ a', a' = a1 ∨ a' = a1.put (some d5) v5 → ∀ w', w' = { w with drawn := w.drawn + 1 } ∨ w' = ({ w with drawn := w.drawn + 1 } : World).alloc ob → (execOp a'.eval o3).run P w' = .ok (.value sv) w')
    (h5 : ∀ a', a' = a1 ∨ a' = a1.put (some d3) sv → (execOp a'.eval o5).run P { w with drawn := w.drawn + 1 } = .ok (.value v5) (({ w with drawn := w.drawn + 1 } : World).alloc ob))
    (h6 : ∃ v6 w6, (execOp ((a1.put (some d3) sv).put (some d5) v5).eval o6).run P (({ w with drawn := w.drawn + 1 } : World).alloc ob) = .ok (.value v6) w6 ∧ S w6 ∧
      (execOp (((a1.put (some d3) sv).put (some d5) v5).put (some d6) v6).eval o7).run P w6 = .ok (.value v7) w6 ∧
      ∃ w8, (execOp ((((a1.put (some d3) sv).put (some d5) v5).put (some d6) v6).put (some d7) v7).eval o8).run P w6 = .ok .skip w8 ∧ S w8 ∧ Q .normal ((((a1.put (some d3) sv).put (some d5) v5).put (some d6) v6).put (some d7) v7) w8) :
    (Code.region id l.toArray true).wp P Q a w := by
  simp only [Bool.and_eq_true, decide_eq_true_eq] at hB
  obtain ⟨⟨hsel, hp⟩, hsz⟩ := hB
  obtain ⟨hg3, hg5, hg6, hg7, hg8⟩ := hg
  obtain ⟨v6, w6, hr6, hs6, hr7, w8, hr8, hs8, hK⟩ := h6
  refine wp_region_held (S := S) hm ?_
  have fin : ∀ (li : Array Bool), Region.ready .any l.toArray li = [c6] → Region.ready .any l.toArray (li.setIfInBounds c6 true) = [c7] → Region.ready .any l.toArray ((li.setIfInBounds c6 true).setIfInBounds c7 true) = [c8] → Region.ready .any l.toArray (((li.setIfInBounds c6 true).setIfInBounds c7 true).setIfInBounds c8 true) = [] →
      wpAnyH P .any l.toArray Q S 3 li ((a1.put (some d3) sv).put (some d5) v5) (({ w with drawn := w.drawn + 1 } : World).alloc ob) := by
    intro li r0 r1 r2 r3
    refine wpAnyH_all r0 (by simp) fun i hi => ?_
    obtain rfl : i = c6 := by simpa using hi
    refine op_value ho6 hg6 hr6 ⟨hs6, ?_⟩
    rw [hd6]
    refine wpAnyH_all r1 (by simp) fun i hi => ?_
    obtain rfl : i = c7 := by simpa using hi
    refine op_value ho7 hg7 hr7 ⟨hs6, ?_⟩
    rw [hd7]
    refine wpAnyH_all r2 (by simp) fun i hi => ?_
    obtain rfl : i = c8 := by simpa using hi
    refine op_skip ho8 hg8 hr8 ⟨hs8, wpAnyH_done r3 ?_ _⟩
    rw [hd8]
    exact hK
  have key := wpAnyH_of_heldg (Q := Q) (S := S) (w := { w with drawn := w.drawn + 1 }) (k := appN .any l.toArray c3 c5 c6 c7 c8) (K := fun a' => a' = a1) (g := 5) hsel hQ hS0
    (fun li a' hk ha' => ?_) hd (Array.replicate l.toArray.size false) a hp hread
  · rw [hsz] at key; exact key
  subst ha'
  simp only [appN, Bool.and_eq_true, decide_eq_true_eq] at hk
  obtain ⟨⟨⟨⟨⟨⟨⟨⟨⟨⟨r0, r1⟩, r2⟩, r3⟩, r4⟩, r5⟩, r6⟩, r7⟩, r8⟩, r9⟩, r10⟩ := hk
  refine wpAnyH_all r0 (by simp) fun i hi => ?_
  rcases List.mem_cons.1 hi with rfl | hi
  · refine op_value ho3 hg3 (h3 _ (Or.inl rfl) _ (Or.inl rfl)) ⟨hS0, wpAnyH_all r1 (by simp) fun j hj => ?_⟩
    obtain rfl : j = c5 := by simpa using hj
    rw [hd3]
    refine op_value ho5 hg5 (h5 _ (Or.inr rfl)) ⟨hS5, ?_⟩
    rw [hd5]
    exact fin _ r3 r5 r7 r9
  · obtain rfl : i = c5 := by simpa using hi
    refine op_value ho5 hg5 (h5 _ (Or.inl rfl)) ⟨hS5, wpAnyH_all r2 (by simp) fun j hj => ?_⟩
    obtain rfl : j = c3 := by simpa using hj
    rw [hd5]
    refine op_value ho3 hg3 (h3 _ (Or.inr rfl) _ (Or.inr rfl)) ⟨hS5, ?_⟩
    rw [hd3, Act.put_comm _ _ _ (by simpa using hne)]
    exact fin _ r4 r6 r8 r10
theorem run_op_append {o : Oper} {a : Act} (s x : Operand) (t : TypeId)
    (ho : o.op = .call { callee := .builtin .append, args := #[s, x], argTypes := #[t, t] })
    (base : Nat) (e : TypeId) (i : TypeInfo) (z : Value) (size bytes : Nat) (ht : P.underlying t = some (.slice e)) (hi : P.info? e = some i) (hz : i.zero = some z)
    (hsize : i.size = size) (hby : i.bytes = bytes) (hzs : z.cells.size = size) (hsz : 0 < size)
    (v : Value) (n : Nat) (xs : List Value) (hs : a.eval s = v) (hown : w.ownsRow base e size v n xs)
    (ad : Addr) (m c : Nat) (news : List Value) (hx : a.eval x = .slice (some ad) m c) (hl : news.length = m * size) (hnews : ∀ j u, news[j]? = some u → w.cell? (ad.add j) = some u) (h1 : ∀ u ∈ news, u.oneCell' = true)
    (h63 : n + m ≤ maxLen) (hbytes : (n + m) * bytes ≤ 140737488355328) (hbase : base ≤ w.heap.size) :
    ∃ v' w', (execOp a.eval o).run P w = .ok (.value v') w' ∧ w'.ownsRow base e size v' (n + m) (xs ++ news) ∧ w.grownBy w' v.ownBlock ∧ (v'.ownBlock = v.ownBlock ∨ v'.ownBlock = some w.heap.size) := by
  obtain ⟨v', w', hr, h2, h3, h4, h5⟩ := run_append_own_at (P := P) w base t o.type e i z size bytes ht hi hz hsize hby hzs hsz v n xs hown ad m c news hl hnews h1 h63 hbytes hbase
  refine ⟨v', w', ?_, h2, h3, h5⟩
  unfold execOp
  simp only [ho, resolve, invoke, builtin, Sem.run_bind, Sem.run_pure, Result.andThen_ok, List.map_toArray, List.map_cons, List.map_nil, hs, hx, hr]
theorem app_mk {K : Value → World → Prop} {o : Oper} {a : Act} (s x : Operand) (t : TypeId)
    (ho : o.op = .call { callee := .builtin .append, args := #[s, x], argTypes := #[t, t] })
    (base : Nat) (e : TypeId) (i : TypeInfo) (z : Value) (size bytes : Nat) (ht : P.underlying t = some (.slice e)) (hi : P.info? e = some i) (hz : i.zero = some z)
    (hsize : i.size = size) (hby : i.bytes = bytes) (hzs : z.cells.size = size) (hsz : 0 < size)
    (v : Value) (n : Nat) (xs : List Value) (hs : a.eval s = v) (hown : w.ownsRow base e size v n xs)
    (ad : Addr) (m c : Nat) (news : List Value) (hx : a.eval x = .slice (some ad) m c) (hl : news.length = m * size) (hnews : ∀ j u, news[j]? = some u → w.cell? (ad.add j) = some u) (h1 : ∀ u ∈ news, u.oneCell' = true)
    (h63 : n + m ≤ maxLen) (hbytes : (n + m) * bytes ≤ 140737488355328) (hbase : base ≤ w.heap.size)
    (hK : ∀ v' w', w'.ownsRow base e size v' (n + m) (xs ++ news) → w.grownBy w' v.ownBlock → (v'.ownBlock = v.ownBlock ∨ v'.ownBlock = some w.heap.size) → K v' w') :
    ∃ v' w', (execOp a.eval o).run P w = .ok (.value v') w' ∧ K v' w' := by
  obtain ⟨v', w', h1, h2, h3, h4⟩ := run_op_append (P := P) s x t ho base e i z size bytes ht hi hz hsize hby hzs hsz v n xs hs hown ad m c news hx hl hnews h1 h63 hbytes hbase
  exact ⟨v', w', h1, hK v' w' h2 h3 h4⟩
end
end BB
end
section
open Go Go.RowKit
namespace WW
open BB
theorem cell_b {w w' : World} {p : Addr} {v : Value} (h : w.cell? p = some v) (hb : Below w.heap.size w w') : w'.cell? p = some v := (hb.cell (World.block_lt_of_cell? w p h)).trans h
theorem cell_g {w w' : World} {p : Addr} {v : Value} {row : Option Nat} (h : w.cell? p = some v) (hg : w.grownBy w' row) (hne : ∀ c, row = some c → p.block ≠ c) : w'.cell? p = some v := hg.cell h fun e => hne _ e.symm rfl
theorem cell_u {w w' : World} {p : Addr} {v : Value} {t : Nat} (h : w.cell? p = some v) (hu : Upd t w w') (hne : p.block ≠ t) : w'.cell? p = some v := (World.cell?_of_block (hu.block p.block hne)).trans h
section
variable {δ : Type} {R : RelT δ} {e : TypeId} {k t : Nat} {z g : Nat → Value} {w wr w5 w6 wA w7 w8 : World} {sv v6 : Value} {l : List δ} {d : δ} {xs news : List Value}
theorem step_block (bA : Below w6.heap.size w6 wA) (grow : wA.grownBy w7 sv.ownBlock) (u8 : Upd t w7 w8)
    (c : Nat) (hc : c < w6.heap.size) (hct : c ≠ t) (hcs : some c ≠ sv.ownBlock) : w8.heap[c]? = w6.heap[c]? :=
  (u8.block c hct).trans ((grow.block c (Nat.lt_of_lt_of_le hc bA.size) hcs).trans (bA.block c hc))
theorem elems_step (hR : SoundR R) (ht : t < w.heap.size) (hw : w.heap.size ≤ wr.heap.size) (hel : ElemsR e k z R wr w.heap.size wr.heap.size sv l xs) (b6 : Below wr.heap.size wr w6)
    (h5 : wr.heap.size ≤ w5.heap.size) (hrx : R d w6 w5.heap.size w6.heap.size z g) (bA : Below w6.heap.size w6 wA)
    (own : w7.ownsRow w.heap.size e k v6 (l.length + 1) (xs ++ news)) (hnj : ∀ j, j < k → news[j]? = some (g j)) (grow : wA.grownBy w7 sv.ownBlock) (loc : v6.ownBlock = sv.ownBlock ∨ v6.ownBlock = some wA.heap.size)
    (u8 : Upd t w7 w8) : ElemsR e k z R w8 w.heap.size w8.heap.size v6 (l ++ [d]) (xs ++ news) := by
  have hxl : xs.length = l.length * k := hel.row.1
  have hsv : ∀ c, sv.ownBlock = some c → w.heap.size ≤ c ∧ c < wr.heap.size := fun c hc => ⟨owns_ge hel.row c hc, hel.top c hc⟩
  have h8 : w8.heap.size = w7.heap.size := u8.size
  have h7 : wA.heap.size ≤ w7.heap.size := grow.size
  have hA : w6.heap.size ≤ wA.heap.size := bA.size
  have blk := step_block bA grow u8
  refine ⟨?_, fun c hc => ?_, fun i d' hd => ?_⟩
  · rw [List.length_append, List.length_singleton]
    exact owns_keep own fun c hc => u8.block c (by have := owns_ge own c hc; omega)
  · have := (own.lt c hc).2; omega
  · by_cases hi : i < l.length
    · rw [List.getElem?_append_left hi] at hd
      obtain ⟨lo1, hi1, g1, a1, a2, a3, a4, a5⟩ := hel.each i d' hd
      refine ⟨lo1, hi1, g1, a1, by have := b6.size; omega, hR.keep a3 fun c c1 c2 => ?_, fun j hj => ?_, fun c hc => ?_⟩
      · rw [blk c (by have := b6.size; omega) (by omega) (fun hh => by rcases a5 c hh.symm with h | h <;> omega)]
        exact b6.block c (by omega)
      · have hlt : i * k + j < xs.length := by
          rw [hxl]
          have : (i + 1) * k ≤ l.length * k := Nat.mul_le_mul_right k hi
          rw [Nat.add_mul] at this; omega
        rw [List.getElem?_append_left hlt]; exact a4 j hj
      · rcases loc with h | h
        · exact a5 c (h ▸ hc)
        · rw [h] at hc
          have : wA.heap.size = c := by simpa using hc
          have := b6.size; omega
    · have hle : l.length ≤ i := by omega
      rw [List.getElem?_append_right hle] at hd
      have hi0 : i = l.length := by
        have := List.getElem?_eq_some_iff.1 hd
        obtain ⟨hx, _⟩ := this
        simp at hx; omega
      subst hi0
      rw [Nat.sub_self] at hd
      obtain rfl : d = d' := by simpa using hd
      refine ⟨w5.heap.size, w6.heap.size, g, by omega, by omega, hR.keep hrx fun c c1 c2 => ?_, fun j hj => ?_, fun c hc => ?_⟩
      · exact blk c c2 (by omega) (fun hh => by have := (hsv c hh.symm).2; omega)
      · rw [List.getElem?_append_right (by rw [hxl]; omega), hxl, Nat.add_sub_cancel_left]
        exact hnj j hj
      · rcases loc with h | h
        · have := (hsv c (h ▸ hc)).2; omega
        · rw [h] at hc
          have : wA.heap.size = c := by simpa using hc
          omega
theorem keep_step (hel : ElemsR e k z R wr w.heap.size wr.heap.size sv l xs) (kp : Keep t w w6) (bA : Below w6.heap.size w6 wA) (grow : wA.grownBy w7 sv.ownBlock) (u8 : Upd t w7 w8) : Keep t w w8 := by
  refine ⟨?_, fun c hc hct => ?_, ?_, ?_, ?_⟩
  · have h8 : w8.heap.size = w7.heap.size := u8.size
    have h7 : wA.heap.size ≤ w7.heap.size := grow.size
    have hA : w6.heap.size ≤ wA.heap.size := bA.size
    have := kp.size; omega
  · rw [step_block bA grow u8 c (by have := kp.size; omega) hct (fun hh => by have := owns_ge hel.row c hh.symm; omega)]
    exact kp.block c hc hct
  · exact u8.tape.trans (grow.tape.trans (bA.tape.trans kp.tape))
  · exact u8.os.trans (grow.os.trans (bA.os.trans kp.os))
  · exact u8.output.trans (grow.output.trans (bA.output.trans kp.output))
theorem rep_snoc {Spx : ByteArray → Option (ByteArray × δ)} {m : Nat} {b' r1 b0 : ByteArray} {N : Nat} (hx : Spx b' = some (r1, d)) (h : repSp Spx N b0 = (match repSp Spx (m + 1) b' with | none => none | some (r, l') => some (r, l ++ l'))) :
    repSp Spx N b0 = (match repSp Spx m r1 with | none => none | some (r, l') => some (r, (l ++ [d]) ++ l')) := by
  rw [h]
  have : repSp Spx (m + 1) b' = (match repSp Spx m r1 with | none => none | some (r', l') => some (r', d :: l')) := by
    show (match Spx b' with | none => none | some (r, x) => match repSp Spx m r with | none => none | some (r', l) => some (r', x :: l)) = _
    rw [hx]
  rw [this]
  rcases repSp Spx m r1 with _ | ⟨r, l'⟩
  · rfl
  · simp
end
end WW
end
section
open Go Go.RowKit
namespace WW
open BB
def zS : Nat → Value := fun _ => .string ⟨#[]⟩
/-- the loop's state: j of N are read -/
structure LInvS (t n o e : Nat) {δ : Type} (Spx : ByteArray → Option (ByteArray × δ)) (Rx : RelT δ) (w : World) (f : Nat → Value) (b0 : ByteArray) (N : Nat) (wr : World) (j : Nat) (b' : ByteArray) : Prop where
  kp : Keep t w wr
  small : b'.size ≤ 1000000
  ex : ∃ sv l xs, Blk wr t n (put f o sv) ∧ ElemsR e 1 zS Rx wr w.heap.size wr.heap.size sv l xs ∧ l.length = j ∧ repSp Spx N b0 = (match repSp Spx (N - j) b' with | none => none | some (r, l') => some (r, l ++ l'))
end WW
namespace Go.Proofs.Ytacnbpmoceocbaa
open WW BB
theorem own_listS : Own Try.prog 103 := ⟨_, Try.func103, by kernel_rfl, by kernel_rfl⟩
set_option maxRecDepth 100000 in
set_option maxHeartbeats 4000000 in
theorem listS_walk {δ : Type} (Spx : ByteArray → Option (ByteArray × δ)) (Rx : RelT δ) (hR : SoundR Rx) (hsz : ∀ b r x, Spx b = some (r, x) → r.size ≤ b.size) (hone : ∀ d w lo hi g, Rx d w lo hi zS g → ∃ x, g 0 = .string x)
    (t n o p q r most : Nat) (kev : Nat) (env : Array Value) (f : Nat → Value) (b : ByteArray) (w : World) (hmost : most ≤ 100) (ho : o < n) (hb : b.size ≤ 1000000) (ht : Blk w t n f) (hf : f o = .slice none 0 0) (hev : EachR Try.prog (.func (.func kev) #[] env) 1 zS Spx Rx)
    (hp : w.cell? ⟨p, 0, none⟩ = some (.int .i64 (most : Int))) (hq : w.cell? ⟨q, 0, none⟩ = some (.func (.func kev) #[] env)) (hr : w.cell? ⟨r, 0, none⟩ = some (.pointer (some ⟨t, o, none⟩))) (p1 : p ≠ t) (q1 : q ≠ t) (r1 : r ≠ t) :
    Calls Try.prog 103 #[.string b, .pointer (some ⟨p, 0, none⟩), .pointer (some ⟨q, 0, none⟩), .pointer (some ⟨r, 0, none⟩)] w (Ans (EffR t n w f (listR 9 1 zS Rx o) (countSp (most : Int) Spx b))) := by
  have HR := Lib.hid hR
  have HSZ := Lib.hid hsz
  have HONE := Lib.hid hone
  have HO := Lib.hid ho
  have HB := Lib.hid hb
  have HT := Lib.hid ht
  have HF := Lib.hid hf
  have HEV := Lib.hid hev
  have HP := Lib.hid hp
  have HQ := Lib.hid hq
  have HRR := Lib.hid hr
  have HM := Lib.hid hmost
  have PQ := Lib.hid (And.intro p1 (And.intro q1 r1))
  obtain ⟨X, hX⟩ : ∃ X, countSp (most : Int) Spx b = X := ⟨_, rfl⟩
  rw [hX]
  have HX := Lib.hid hX
  clear hX hR hsz hone ho hb ht hf hev hp hq hr hmost p1 q1 r1
  go_enter Try.func103, Try.ntmps103
  go_upto_region 2 with fail
  have k1 := Blk.cell1 w (.int .i64 0) 3
  have b1 := (Below.refl w.heap.size w).alloc (Nat.le_refl _) (.cells #[.int .i64 0] 3)
  have z1 : w.heap.size < (w.alloc (.cells #[.int .i64 0] 3)).heap.size := by simp
  generalize w.alloc (.cells #[.int .i64 0] 3) = w1 at *
  have cp := keep_cell HP.out b1
  go_wp2_with fail
  have p1 := HP.out
  refine (mk_num w.heap.size 0 1 0 (most : Int) w1 (by omega) z1).mono ?_
  rintro e w2 ⟨kv, ev, rfl, hb2, hv⟩
  have K2 := Lib.hid (k1.below hb2 z1)
  have B2 := Lib.hid (b1.trans (hb2.mono b1.size))
  have HV := Lib.hid hv
  clear k1 b1 z1 hb2 hv cp p1
  clear w1
  obtain ⟨N1, hN1⟩ : ∃ N1, w.heap.size = N1 := ⟨_, rfl⟩
  rw [hN1] at K2 HV ⊢
  have HN1 := Lib.hid hN1
  clear hN1
  go_wp2_with (with_reducible refine hold_callv rfl rfl ?_)
  refine wpl_callv (v := .func (.func kv) #[] ev) (args := #[.string b]) _ rfl rfl rfl (by simp [Act.eval]) (HV.out _ b w2 HB.out (Keep.refl _ _) K2.out) Ans.ret ?_
  intro u w3 hu
  obtain ⟨ok, r0, hr, he⟩ := hu
  injection hr with hr
  subst hr
  rcases hsp : numSp 0 (most : Int) b with _ | ⟨r', N⟩
  · rw [hsp] at he
    obtain ⟨rfl, f', c3⟩ := he
    have B3 := Lib.hid (B2.out.trans (c3.1.below (by rw [HN1.out]; exact Nat.le_refl _) B2.out.size))
    have HS := Lib.hid hsp
    clear c3 hsp
    go_wp2_with fail
    go_ret2
    refine ⟨false, _, rfl, ?_⟩
    rw [← HX.out, count_none HS.out]
    exact ⟨rfl, f, keep_of_below B3.out (Nat.le_refl _) t, HT.out.below B3.out HT.out.lt⟩
  · rw [hsp] at he
    obtain ⟨rfl, rfl, c3⟩ := he
    have B3 := Lib.hid (B2.out.trans (c3.1.below (by rw [HN1.out]; exact Nat.le_refl _) B2.out.size))
    have HS := Lib.hid hsp
    have cn : w3.cell? ⟨N1, 0, none⟩ = some (.int .i64 (N : Int)) := c3.2.get 0 (by omega)
    have hN : N ≤ most := by have := (numSp_sound hsp).2.2; omega
    have HNM := Lib.hid hN
    have I0 : LInvS t n o 9 Spx Rx w f r0 N w3 0 r0 := by
      refine ⟨keep_of_below B3.out (Nat.le_refl _) t, by have := numSp_size hsp; have := HB.out; omega, .slice none 0 0, [], [], ?_, ?_, rfl, ?_⟩
      · refine (HT.out.below B3.out HT.out.lt).congr _ fun i _ => ?_
        by_cases h : i = o
        · subst h; rw [HF.out]; simp [put]
        · simp [put, h]
      · exact ⟨World.ownsRow_nil _ _ _ _, (fun c hc => by cases hc), (fun i d hd => by simp at hd)⟩
      · rw [Nat.sub_zero]
        rcases repSp Spx N r0 with _ | ⟨r, l⟩ <;> rfl
    have HI := Lib.hid I0
    clear c3 hsp hN I0 K2 HV B2
    go_wp2_with fail
    clear cn
    go_loopw [0, 20] (fun vb vi wr => ∃ (j : Nat) (b' : ByteArray), j ≤ N ∧ vi = .int .i64 (j : Int) ∧ vb = .string b' ∧ LInvS t n o 9 Spx Rx w f r0 N wr j b') (fun _ v _ => N - (intOf v).toNat)
    case atStart => exact ⟨0, r0, Nat.zero_le _, rfl, rfl, HI.out⟩
    case round =>
      clear HI
      obtain ⟨j, b', hj, rfl, rfl, hI⟩ := hrel
      have HI := Lib.hid hI
      clear hI
      have j0 : (0 : Int) ≤ (j : Int) := by omega
      have jb : (j : Int) ≤ 100 := by have := HM.out; have := HNM.out; omega
      by_cases hlt : j < N
      · have hlt' : (j : Int) < (N : Int) := by omega
        have HLT := Lib.hid hlt
        clear hlt hj
        go_upto_region 8 with fail
        have c4 := Lib.hid (show Blk (wr.alloc (.cells #[.string ⟨#[]⟩] 9)) wr.heap.size 1 zS from Blk.new _ _ _ _ _ rfl)
        have b4 := (Below.refl wr.heap.size wr).alloc (Nat.le_refl _) (.cells #[.string ⟨#[]⟩] 9)
        generalize wr.alloc (.cells #[.string ⟨#[]⟩] 9) = w4 at *
        have cq := keep_cell (keep_cell2 HQ.out PQ.out.2.1 HI.out.kp) b4
        have B4 := Lib.hid b4
        clear b4
        obtain ⟨tx, htx⟩ : ∃ tx, wr.heap.size = tx := ⟨_, rfl⟩
        rw [htx] at c4 ⊢
        have HTX := Lib.hid htx
        clear htx
        go_wp2_with (with_reducible refine hold_callv rfl rfl ?_)
        refine wpl_callv (v := .func (.func kev) #[] env) (args := #[.pointer (some ⟨tx, 0, none⟩)]) _ rfl rfl rfl (by simp [Act.eval]) (HEV.out tx w4 c4.out.lt) (fun _ _ ⟨_, _, h, _⟩ => ⟨_, h⟩) ?_
        rintro u w5 ⟨k2, env2, hu, hb5, hcv⟩
        injection hu with hu
        subst hu
        have c5 := Lib.hid (c4.out.below hb5 c4.out.lt)
        have B5 := Lib.hid (B4.out.trans (hb5.mono B4.out.size))
        have HCV := Lib.hid hcv
        clear hb5 hcv cq
        go_wp2_with (with_reducible refine hold_callv rfl rfl ?_)
        refine wpl_callv (v := .func (.func k2) #[] env2) (args := #[.string b']) _ rfl rfl rfl (by simp [Act.eval]) (HCV.out zS b' w5 HI.out.small (Keep.refl _ _) c5.out (fun _ _ => rfl)) Ans.ret ?_
        intro u w6 hu
        obtain ⟨ok, r1, hr, he⟩ := hu
        injection hr with hr
        subst hr
        obtain ⟨sv, l, xs, hblk, hel, hll, hrep⟩ := HI.out.ex
        have hNj : N - j = (N - j - 1) + 1 := by have := HLT.out; omega
        rw [hNj] at hrep
        rcases hsx : Spx b' with _ | ⟨r2, d⟩
        · unfold EffR at he
          rw [hsx] at he
          obtain ⟨rfl, g, k6, d6⟩ := he
          have hfin : X = none := by
            rw [← HX.out, count_some HS.out, hrep]
            unfold repSp
            rw [hsx]
          have HFIN := Lib.hid hfin
          have b6 := Lib.hid (B5.out.trans (k6.below (by rw [HTX.out]; exact Nat.le_refl _) B5.out.size))
          have HBK := Lib.hid hblk
          clear k6 d6 hblk hel hll hrep hsx hNj hfin
          go_wp2_with fail
          go_ret2
          refine ⟨false, _, rfl, ?_⟩
          rw [HFIN.out]
          exact ⟨rfl, _, HI.out.kp.trans (keep_of_below b6.out (Nat.le_refl _) t), HBK.out.below b6.out HBK.out.lt⟩
        · unfold EffR at he
          rw [hsx] at he
          obtain ⟨rfl, rfl, g, k6, d6, hrx⟩ := he
          have K6 := Lib.hid d6
          have b6 := Lib.hid (B5.out.trans (k6.below (by rw [HTX.out]; exact Nat.le_refl _) B5.out.size))
          have HBK := Lib.hid hblk
          have HEL := Lib.hid hel
          have HLL := Lib.hid hll
          have HSX := Lib.hid hsx
          have HRX := Lib.hid hrx
          have HRP := Lib.hid hrep
          have KP6 := Lib.hid (HI.out.kp.trans (keep_of_below b6.out (Nat.le_refl _) t))
          have BK6 := Lib.hid (HBK.out.below b6.out HBK.out.lt)
          clear k6 d6 hblk hel hll hrep hsx hNj hrx
          go_upto_region 11 with fail
          have cr : w6.cell? ⟨r, 0, none⟩ = some (.pointer (some ⟨t, o, none⟩)) := keep_cell2 HRR.out PQ.out.2.2 KP6.out
          have ct : w6.cell? ⟨t, o, none⟩ = some sv := by have := BK6.out.get o HO.out; simpa [put] using this
          have ft := BK6.out.frz o
          have x0 : w6.cell? ⟨tx, 0, none⟩ = some (g 0) := K6.out.get 0 (by omega)
          obtain ⟨gx, hgx⟩ := HONE.out _ _ _ _ _ HRX.out
          rw [hgx] at x0
          have HGX := Lib.hid hgx
          clear hgx
          have hbk := BK6.out.lt
          obtain ⟨i0, hi0, hz0, hz1, hz2⟩ := info_parts (show (Try.prog.info? 9).map (fun i => (i.zero, i.size, i.bytes)) = some (some (.string ⟨#[]⟩), 1, 16) by kernel_rfl)
          have bA : Below w6.heap.size w6 (({ w6 with drawn := w6.drawn + 1 } : World).alloc (.cells #[.string gx] 9)) := ((show Same w6 { w6 with drawn := w6.drawn + 1 } from ⟨rfl, rfl, rfl, rfl⟩).below _).alloc (Nat.le_refl _) _
          have hw := HI.out.kp.size
          have hrow : ∀ c, sv.ownBlock = some c → w.heap.size ≤ c ∧ c < wr.heap.size := fun c hc => ⟨owns_ge HEL.out.row c hc, HEL.out.top c hc⟩
          have HROW := Lib.hid hrow
          have HA := Lib.hid bA
          have hown : (({ w6 with drawn := w6.drawn + 1 } : World).alloc (.cells #[.string gx] 9)).ownsRow w.heap.size 9 1 sv l.length xs := owns_keep HEL.out.row fun c hc => (bA.block c (by have := (hrow c hc).2; have := b6.out.size; omega)).trans (b6.out.block c (hrow c hc).2)
          have HOWN := Lib.hid hown
          have HCS := Lib.hid (HONE.out _ _ _ _ _ HRX.out)
          clear hrow hown
          refine app_region (a1 := ?a1) [0, 1, 2, 4] 3 5 6 7 8 _ _ _ _ _ 34 36 37 38 (fun w' => w'.cell? ⟨r, 0, none⟩ = some (.pointer (some ⟨t, o, none⟩)) ∧ w'.cell? ⟨tx, 0, none⟩ = some (.string gx)) sv (.slice (some ⟨w6.heap.size, 0, none⟩) 1 1) (.pointer (some ⟨t, o, none⟩)) (.cells #[.string gx] 9) (by kernel_rfl) (by kernel_rfl) (fun _ _ d _ _ h => by cases d <;> exact h) rfl rfl rfl rfl rfl ⟨rfl, rfl, rfl, rfl, rfl⟩ rfl rfl rfl rfl rfl (by decide) ?hS0 ?hS5 ?hread ?h3 ?h5 ?h6
          case hS0 => exact ⟨cr, x0⟩
          case hS5 => exact ⟨cell_b cr bA, cell_b x0 bA⟩
          case hread =>
            simp only [pick, List.filterMap, List.getElem?_toArray, List.getElem?_cons_zero, List.getElem?_cons_succ]
            iterate 4 (refine heldg_run ?_ rfl ?_ ?_; rotate_left; (focus (intro w' hS; obtain ⟨s0, s1⟩ := hS; go_simp; exact rfl)); simp only [Act.put, List.setIfInBounds_toArray, List.set_cons_zero, List.set_cons_succ])
            exact rfl
          case h3 =>
            intro a' ha' w' hw'
            have ct' : w'.cell? ⟨t, o, none⟩ = some sv := by
              rcases hw' with rfl | rfl
              · exact ct
              · exact cell_b ct bA
            rcases ha' with rfl | rfl
            · go_simp
            · go_simp
          case h5 =>
            intro a' ha'
            rcases ha' with rfl | rfl
            · go_simp
            · go_simp
          case h6 =>
            refine app_mk (.tmp 34) (.tmp 36) 35 rfl w.heap.size 9 i0 (.string ⟨#[]⟩) 1 16 Try.underlying35 hi0 hz0 hz1 hz2 rfl (by decide) sv l.length xs rfl HOWN.out ⟨w6.heap.size, 0, none⟩ 1 1 [.string gx] rfl rfl ?hnews ?hone (by have := HLL.out; have := HLT.out; have := HNM.out; have := HM.out; unfold maxLen; omega) (by have := HLL.out; have := HLT.out; have := HNM.out; have := HM.out; omega) (by have := KP6.out.size; have := HA.out.size; omega) ?hK
            case hnews =>
              intro y u hy
              rw [WideShapes.add_plain, Nat.zero_add]
              exact cell_new { w6 with drawn := w6.drawn + 1 } #[.string gx] 9 y u (by simpa using hy)
            case hone =>
              intro u hu
              simp only [List.mem_cons, List.not_mem_nil, or_false] at hu
              rcases hu with rfl
              all_goals rfl
            case hK =>
            intro v6 w7 own7 grow loc
            obtain ⟨g7, cap7, rfl⟩ := Joins.ownsRow_form own7 (Nat.succ_pos _)
            have z6 := HA.out.size
            have y6 := b6.out.size
            have rne : ∀ c, sv.ownBlock = some c → r ≠ c := fun c hc => by
              have := (HROW.out c hc).1
              have := World.block_lt_of_cell? w _ HRR.out
              have : r < w.heap.size := this
              omega
            have tne : ∀ c, sv.ownBlock = some c → t ≠ c := fun c hc => by have := (HROW.out c hc).1; have := HT.out.lt; omega
            have xne : ∀ c, sv.ownBlock = some c → tx ≠ c := fun c hc => by have := (HROW.out c hc).2; have := HTX.out; omega
            have cr7 := cell_g (cell_b cr HA.out) grow rne
            have ct7 := cell_g (cell_b ct HA.out) grow tne
            have blk7 : Blk w7 t n (put f o sv) := (BK6.out.below HA.out BK6.out.lt).of_heap (grow.block t (by have := BK6.out.lt; omega) (fun h => tne t h.symm rfl))
            have ft7 := blk7.frz o
            refine ⟨⟨cr7, cell_g (cell_b x0 HA.out) grow xne⟩, ?_, ?_⟩
            · go_simp
            refine ⟨w7.setCell ⟨t, o, none⟩ (.slice (some ⟨g7, 0, none⟩) (l.length + 1) cap7), by go_simp, ?_⟩
            have u8 := Upd.set w7 t o (.slice (some ⟨g7, 0, none⟩) (l.length + 1) cap7)
            have blk8 := (blk7.set o (.slice (some ⟨g7, 0, none⟩) (l.length + 1) cap7)).congr (put f o (.slice (some ⟨g7, 0, none⟩) (l.length + 1) cap7)) fun i _ => by
              by_cases h : i = o
              · subst h; simp [put]
              · simp [put, h]
            generalize w7.setCell ⟨t, o, none⟩ (.slice (some ⟨g7, 0, none⟩) (l.length + 1) cap7) = w8 at *
            have xt : tx ≠ t := by have := HTX.out; have := HT.out.lt; omega
            refine ⟨⟨cell_u cr7 u8 PQ.out.2.2, cell_u (cell_g (cell_b x0 HA.out) grow xne) u8 xt⟩, ?_⟩
            have hel8 := elems_step (R := Rx) (w5 := w5) (d := d) (g := g) (news := [.string gx]) HR.out HT.out.lt hw HEL.out b6.out B5.out.size HRX.out HA.out own7 (fun j hj => by match j, hj with | 0, _ => rw [HGX.out]; rfl) grow loc u8
            have kp8 := keep_step HEL.out KP6.out HA.out grow u8
            have HL8 : Hid (LInvS t n o 9 Spx Rx w f r0 N w8 (j + 1) r1) := Lib.hid ⟨kp8, by have := HSZ.out _ _ _ HSX.out; have := HI.out.small; omega, _, l ++ [d], xs ++ [.string gx], blk8, hel8, by rw [List.length_append, List.length_singleton, HLL.out], by
              have := rep_snoc HSX.out HRP.out
              rwa [show N - j - 1 = N - (j + 1) by omega] at this⟩
            simp only [Act.put, List.setIfInBounds_toArray, List.set_cons_zero, List.set_cons_succ]
            clear hel8 kp8 blk8 u8 grow loc own7 cr7 ct7 blk7 ft7 rne tne xne z6 y6 cr ct ft hbk bA hw
            go_wp2_with fail
            go_roundw
            case rel => exact ⟨j + 1, r1, by have := HLT.out; omega, by go_num, rfl, HL8.out⟩
            case measure => have := HLT.out; simp [intOf]; omega
      · obtain rfl : j = N := by omega
        have hlt' : ¬ (j : Int) < (j : Int) := by omega
        clear hlt hj
        go_wp2_with fail
        go_ret2
        refine ⟨true, _, rfl, ?_⟩
        obtain ⟨sv, l, xs, h1, h2, h3, h4⟩ := HI.out.ex
        rw [Nat.sub_self] at h4
        have h5 : repSp Spx j r0 = some (b', l) := by rw [h4]; show some (b', l ++ []) = _; rw [List.append_nil]
        rw [← HX.out, count_some HS.out, h5]
        exact ⟨rfl, rfl, _, HI.out.kp, h1, sv, xs, rfl, h2⟩
end Go.Proofs.Ytacnbpmoceocbaa
end
section
open Go Go.RowKit
namespace Go.Proofs.Ytacnbpmoceocbaa
open WW BB
set_option maxRecDepth 100000 in
theorem mk_listS {δ : Type} (Spx : ByteArray → Option (ByteArray × δ)) (Rx : RelT δ) (hR : SoundR Rx) (hsz : ∀ b r x, Spx b = some (r, x) → r.size ≤ b.size) (hone : ∀ d w lo hi g, Rx d w lo hi zS g → ∃ x, g 0 = .string x)
    (t o n most : Nat) (kev : Nat) (env : Array Value) (w : World) (hmost : most ≤ 100) (ho : o < n) (ht : t < w.heap.size) (hev : EachR Try.prog (.func (.func kev) #[] env) 1 zS Spx Rx) :
    Calls Try.prog 92 #[.pointer (some ⟨t, o, none⟩), .int .i64 (most : Int), .func (.func kev) #[] env] w (MakesR Try.prog t n w (fun f => f o = .slice none 0 0) (countSp (most : Int) Spx) (listR 9 1 zS Rx o)) := by
  have HR := Lib.hid hR
  have HSZ := Lib.hid hsz
  have HONE := Lib.hid hone
  have HO := Lib.hid ho
  have HT := Lib.hid ht
  have HM := Lib.hid hmost
  have HEV := Lib.hid hev
  clear hR hsz hone ho ht hmost hev
  go_enter Try.func92, Try.ntmps92
  go_wp2_with fail
  go_ret
  have b1 := (Below.refl w.heap.size w).alloc (Nat.le_refl _) (.cells #[.pointer (some ⟨t, o, none⟩)] 118)
  have b2 := b1.alloc b1.size (.cells #[.int .i64 (most : Int)] 3)
  have b3 := b2.alloc b2.size (.cells #[.func (.func kev) #[] env] 119)
  have := HT.out
  refine ⟨_, _, rfl, b3, fun f b wx hb hk hx hp => ⟨_, _, rfl, own_listS, ?_⟩⟩
  refine listS_walk Spx Rx HR.out HSZ.out HONE.out t n o (w.heap.size + 1) (w.heap.size + 2) w.heap.size most kev env f b wx HM.out HO.out hb hx hp HEV.out ?_ ?_ ?_ (by omega) (by omega) (by omega)
  · exact keep_cell2 (cell_old (cell_at _ _ _ _ (by simp))) (by omega) hk
  · exact keep_cell2 (cell_at _ _ _ _ (by simp)) (by omega) hk
  · exact keep_cell2 (cell_old (cell_old (cell_at _ _ _ _ rfl))) (by omega) hk
end Go.Proofs.Ytacnbpmoceocbaa
end
section
open Go Go.RowKit
namespace WW
open BB
def zG : Nat → Value := fun i => if i = 0 then .int .i64 0 else .slice none 0 0
/-- the loop's state: j of N are read -/
structure LInvG (t n o e : Nat) {δ : Type} (Spx : ByteArray → Option (ByteArray × δ)) (Rx : RelT δ) (w : World) (f : Nat → Value) (b0 : ByteArray) (N : Nat) (wr : World) (j : Nat) (b' : ByteArray) : Prop where
  kp : Keep t w wr
  small : b'.size ≤ 1000000
  ex : ∃ sv l xs, Blk wr t n (put f o sv) ∧ ElemsR e 2 zG Rx wr w.heap.size wr.heap.size sv l xs ∧ l.length = j ∧ repSp Spx N b0 = (match repSp Spx (N - j) b' with | none => none | some (r, l') => some (r, l ++ l'))
end WW
namespace Go.Proofs.Ytacnbpmoceocbaa
open WW BB
theorem own_listG : Own Try.prog 91 := ⟨_, Try.func91, by kernel_rfl, by kernel_rfl⟩
set_option maxRecDepth 100000 in
set_option maxHeartbeats 4000000 in
theorem listG_walk {δ : Type} (Spx : ByteArray → Option (ByteArray × δ)) (Rx : RelT δ) (hR : SoundR Rx) (hsz : ∀ b r x, Spx b = some (r, x) → r.size ≤ b.size) (hone : ∀ d w lo hi g, Rx d w lo hi zG g → ∀ i, i < 2 → (g i).oneCell' = true)
    (t n o p q r most : Nat) (kev : Nat) (env : Array Value) (f : Nat → Value) (b : ByteArray) (w : World) (hmost : most ≤ 100) (ho : o < n) (hb : b.size ≤ 1000000) (ht : Blk w t n f) (hf : f o = .slice none 0 0) (hev : EachR Try.prog (.func (.func kev) #[] env) 2 zG Spx Rx)
    (hp : w.cell? ⟨p, 0, none⟩ = some (.int .i64 (most : Int))) (hq : w.cell? ⟨q, 0, none⟩ = some (.func (.func kev) #[] env)) (hr : w.cell? ⟨r, 0, none⟩ = some (.pointer (some ⟨t, o, none⟩))) (p1 : p ≠ t) (q1 : q ≠ t) (r1 : r ≠ t) :
    Calls Try.prog 91 #[.string b, .pointer (some ⟨p, 0, none⟩), .pointer (some ⟨q, 0, none⟩), .pointer (some ⟨r, 0, none⟩)] w (Ans (EffR t n w f (listR 37 2 zG Rx o) (countSp (most : Int) Spx b))) := by
  have HR := Lib.hid hR
  have HSZ := Lib.hid hsz
  have HONE := Lib.hid hone
  have HO := Lib.hid ho
  have HB := Lib.hid hb
  have HT := Lib.hid ht
  have HF := Lib.hid hf
  have HEV := Lib.hid hev
  have HP := Lib.hid hp
  have HQ := Lib.hid hq
  have HRR := Lib.hid hr
  have HM := Lib.hid hmost
  have PQ := Lib.hid (And.intro p1 (And.intro q1 r1))
  obtain ⟨X, hX⟩ : ∃ X, countSp (most : Int) Spx b = X := ⟨_, rfl⟩
  rw [hX]
  have HX := Lib.hid hX
  clear hX hR hsz hone ho hb ht hf hev hp hq hr hmost p1 q1 r1
  go_enter Try.func91, Try.ntmps91
  go_upto_region 2 with fail
  have k1 := Blk.cell1 w (.int .i64 0) 3
  have b1 := (Below.refl w.heap.size w).alloc (Nat.le_refl _) (.cells #[.int .i64 0] 3)
  have z1 : w.heap.size < (w.alloc (.cells #[.int .i64 0] 3)).heap.size := by simp
  generalize w.alloc (.cells #[.int .i64 0] 3) = w1 at *
  have cp := keep_cell HP.out b1
  go_wp2_with fail
  have p1 := HP.out
  refine (mk_num w.heap.size 0 1 0 (most : Int) w1 (by omega) z1).mono ?_
  rintro e w2 ⟨kv, ev, rfl, hb2, hv⟩
  have K2 := Lib.hid (k1.below hb2 z1)
  have B2 := Lib.hid (b1.trans (hb2.mono b1.size))
  have HV := Lib.hid hv
  clear k1 b1 z1 hb2 hv cp p1
  clear w1
  obtain ⟨N1, hN1⟩ : ∃ N1, w.heap.size = N1 := ⟨_, rfl⟩
  rw [hN1] at K2 HV ⊢
  have HN1 := Lib.hid hN1
  clear hN1
  go_wp2_with (with_reducible refine hold_callv rfl rfl ?_)
  refine wpl_callv (v := .func (.func kv) #[] ev) (args := #[.string b]) _ rfl rfl rfl (by simp [Act.eval]) (HV.out _ b w2 HB.out (Keep.refl _ _) K2.out) Ans.ret ?_
  intro u w3 hu
  obtain ⟨ok, r0, hr, he⟩ := hu
  injection hr with hr
  subst hr
  rcases hsp : numSp 0 (most : Int) b with _ | ⟨r', N⟩
  · rw [hsp] at he
    obtain ⟨rfl, f', c3⟩ := he
    have B3 := Lib.hid (B2.out.trans (c3.1.below (by rw [HN1.out]; exact Nat.le_refl _) B2.out.size))
    have HS := Lib.hid hsp
    clear c3 hsp
    go_wp2_with fail
    go_ret2
    refine ⟨false, _, rfl, ?_⟩
    rw [← HX.out, count_none HS.out]
    exact ⟨rfl, f, keep_of_below B3.out (Nat.le_refl _) t, HT.out.below B3.out HT.out.lt⟩
  · rw [hsp] at he
    obtain ⟨rfl, rfl, c3⟩ := he
    have B3 := Lib.hid (B2.out.trans (c3.1.below (by rw [HN1.out]; exact Nat.le_refl _) B2.out.size))
    have HS := Lib.hid hsp
    have cn : w3.cell? ⟨N1, 0, none⟩ = some (.int .i64 (N : Int)) := c3.2.get 0 (by omega)
    have hN : N ≤ most := by have := (numSp_sound hsp).2.2; omega
    have HNM := Lib.hid hN
    have I0 : LInvG t n o 37 Spx Rx w f r0 N w3 0 r0 := by
      refine ⟨keep_of_below B3.out (Nat.le_refl _) t, by have := numSp_size hsp; have := HB.out; omega, .slice none 0 0, [], [], ?_, ?_, rfl, ?_⟩
      · refine (HT.out.below B3.out HT.out.lt).congr _ fun i _ => ?_
        by_cases h : i = o
        · subst h; rw [HF.out]; simp [put]
        · simp [put, h]
      · exact ⟨World.ownsRow_nil _ _ _ _, (fun c hc => by cases hc), (fun i d hd => by simp at hd)⟩
      · rw [Nat.sub_zero]
        rcases repSp Spx N r0 with _ | ⟨r, l⟩ <;> rfl
    have HI := Lib.hid I0
    clear c3 hsp hN I0 K2 HV B2
    go_wp2_with fail
    clear cn
    go_loopw [0, 20] (fun vb vi wr => ∃ (j : Nat) (b' : ByteArray), j ≤ N ∧ vi = .int .i64 (j : Int) ∧ vb = .string b' ∧ LInvG t n o 37 Spx Rx w f r0 N wr j b') (fun _ v _ => N - (intOf v).toNat)
    case atStart => exact ⟨0, r0, Nat.zero_le _, rfl, rfl, HI.out⟩
    case round =>
      clear HI
      obtain ⟨j, b', hj, rfl, rfl, hI⟩ := hrel
      have HI := Lib.hid hI
      clear hI
      have j0 : (0 : Int) ≤ (j : Int) := by omega
      have jb : (j : Int) ≤ 100 := by have := HM.out; have := HNM.out; omega
      by_cases hlt : j < N
      · have hlt' : (j : Int) < (N : Int) := by omega
        have HLT := Lib.hid hlt
        clear hlt hj
        go_upto_region 8 with fail
        have c4 := Lib.hid (show Blk (wr.alloc (.cells #[.int .i64 0, .slice none 0 0] 37)) wr.heap.size 2 zG from Blk.new _ _ _ _ _ rfl)
        have b4 := (Below.refl wr.heap.size wr).alloc (Nat.le_refl _) (.cells #[.int .i64 0, .slice none 0 0] 37)
        generalize wr.alloc (.cells #[.int .i64 0, .slice none 0 0] 37) = w4 at *
        have cq := keep_cell (keep_cell2 HQ.out PQ.out.2.1 HI.out.kp) b4
        have B4 := Lib.hid b4
        clear b4
        obtain ⟨tx, htx⟩ : ∃ tx, wr.heap.size = tx := ⟨_, rfl⟩
        rw [htx] at c4 ⊢
        have HTX := Lib.hid htx
        clear htx
        go_wp2_with (with_reducible refine hold_callv rfl rfl ?_)
        refine wpl_callv (v := .func (.func kev) #[] env) (args := #[.pointer (some ⟨tx, 0, none⟩)]) _ rfl rfl rfl (by simp [Act.eval]) (HEV.out tx w4 c4.out.lt) (fun _ _ ⟨_, _, h, _⟩ => ⟨_, h⟩) ?_
        rintro u w5 ⟨k2, env2, hu, hb5, hcv⟩
        injection hu with hu
        subst hu
        have c5 := Lib.hid (c4.out.below hb5 c4.out.lt)
        have B5 := Lib.hid (B4.out.trans (hb5.mono B4.out.size))
        have HCV := Lib.hid hcv
        clear hb5 hcv cq
        go_wp2_with (with_reducible refine hold_callv rfl rfl ?_)
        refine wpl_callv (v := .func (.func k2) #[] env2) (args := #[.string b']) _ rfl rfl rfl (by simp [Act.eval]) (HCV.out zG b' w5 HI.out.small (Keep.refl _ _) c5.out (fun _ _ => rfl)) Ans.ret ?_
        intro u w6 hu
        obtain ⟨ok, r1, hr, he⟩ := hu
        injection hr with hr
        subst hr
        obtain ⟨sv, l, xs, hblk, hel, hll, hrep⟩ := HI.out.ex
        have hNj : N - j = (N - j - 1) + 1 := by have := HLT.out; omega
        rw [hNj] at hrep
        rcases hsx : Spx b' with _ | ⟨r2, d⟩
        · unfold EffR at he
          rw [hsx] at he
          obtain ⟨rfl, g, k6, d6⟩ := he
          have hfin : X = none := by
            rw [← HX.out, count_some HS.out, hrep]
            unfold repSp
            rw [hsx]
          have HFIN := Lib.hid hfin
          have b6 := Lib.hid (B5.out.trans (k6.below (by rw [HTX.out]; exact Nat.le_refl _) B5.out.size))
          have HBK := Lib.hid hblk
          clear k6 d6 hblk hel hll hrep hsx hNj hfin
          go_wp2_with fail
          go_ret2
          refine ⟨false, _, rfl, ?_⟩
          rw [HFIN.out]
          exact ⟨rfl, _, HI.out.kp.trans (keep_of_below b6.out (Nat.le_refl _) t), HBK.out.below b6.out HBK.out.lt⟩
        · unfold EffR at he
          rw [hsx] at he
          obtain ⟨rfl, rfl, g, k6, d6, hrx⟩ := he
          have K6 := Lib.hid d6
          have b6 := Lib.hid (B5.out.trans (k6.below (by rw [HTX.out]; exact Nat.le_refl _) B5.out.size))
          have HBK := Lib.hid hblk
          have HEL := Lib.hid hel
          have HLL := Lib.hid hll
          have HSX := Lib.hid hsx
          have HRX := Lib.hid hrx
          have HRP := Lib.hid hrep
          have KP6 := Lib.hid (HI.out.kp.trans (keep_of_below b6.out (Nat.le_refl _) t))
          have BK6 := Lib.hid (HBK.out.below b6.out HBK.out.lt)
          clear k6 d6 hblk hel hll hrep hsx hNj hrx
          go_upto_region 11 with fail
          have cr : w6.cell? ⟨r, 0, none⟩ = some (.pointer (some ⟨t, o, none⟩)) := keep_cell2 HRR.out PQ.out.2.2 KP6.out
          have ct : w6.cell? ⟨t, o, none⟩ = some sv := by have := BK6.out.get o HO.out; simpa [put] using this
          have ft := BK6.out.frz o
          have x0 : w6.cell? ⟨tx, 0, none⟩ = some (g 0) := K6.out.get 0 (by omega)
          have x1 : w6.cell? ⟨tx, 1, none⟩ = some (g 1) := K6.out.get 1 (by omega)
          have hbk := BK6.out.lt
          obtain ⟨i0, hi0, hz0, hz1, hz2⟩ := info_parts (show (Try.prog.info? 37).map (fun i => (i.zero, i.size, i.bytes)) = some (some (.agg #[.int .i64 0, .slice none 0 0]), 2, 32) by kernel_rfl)
          have bA : Below w6.heap.size w6 (({ w6 with drawn := w6.drawn + 1 } : World).alloc (.cells #[g 0, g 1] 37)) := ((show Same w6 { w6 with drawn := w6.drawn + 1 } from ⟨rfl, rfl, rfl, rfl⟩).below _).alloc (Nat.le_refl _) _
          have hw := HI.out.kp.size
          have hrow : ∀ c, sv.ownBlock = some c → w.heap.size ≤ c ∧ c < wr.heap.size := fun c hc => ⟨owns_ge HEL.out.row c hc, HEL.out.top c hc⟩
          have HROW := Lib.hid hrow
          have HA := Lib.hid bA
          have hown : (({ w6 with drawn := w6.drawn + 1 } : World).alloc (.cells #[g 0, g 1] 37)).ownsRow w.heap.size 37 2 sv l.length xs := owns_keep HEL.out.row fun c hc => (bA.block c (by have := (hrow c hc).2; have := b6.out.size; omega)).trans (b6.out.block c (hrow c hc).2)
          have HOWN := Lib.hid hown
          have HCS := Lib.hid (HONE.out _ _ _ _ _ HRX.out)
          clear hrow hown
          refine app_region (a1 := ?a1) [0, 1, 2, 4] 3 5 6 7 8 _ _ _ _ _ 34 36 37 38 (fun w' => w'.cell? ⟨r, 0, none⟩ = some (.pointer (some ⟨t, o, none⟩)) ∧ w'.cell? ⟨tx, 0, none⟩ = some (g 0) ∧ w'.cell? ⟨tx, 1, none⟩ = some (g 1)) sv (.slice (some ⟨w6.heap.size, 0, none⟩) 1 1) (.pointer (some ⟨t, o, none⟩)) (.cells #[g 0, g 1] 37) (by kernel_rfl) (by kernel_rfl) (fun _ _ d _ _ h => by cases d <;> exact h) rfl rfl rfl rfl rfl ⟨rfl, rfl, rfl, rfl, rfl⟩ rfl rfl rfl rfl rfl (by decide) ?hS0 ?hS5 ?hread ?h3 ?h5 ?h6
          case hS0 => exact ⟨cr, x0, x1⟩
          case hS5 => exact ⟨cell_b cr bA, cell_b x0 bA, cell_b x1 bA⟩
          case hread =>
            simp only [pick, List.filterMap, List.getElem?_toArray, List.getElem?_cons_zero, List.getElem?_cons_succ]
            iterate 4 (refine heldg_run ?_ rfl ?_ ?_; rotate_left; (focus (intro w' hS; obtain ⟨s0, s1, s2⟩ := hS; go_simp; exact rfl)); simp only [Act.put, List.setIfInBounds_toArray, List.set_cons_zero, List.set_cons_succ])
            exact rfl
          case h3 =>
            intro a' ha' w' hw'
            have ct' : w'.cell? ⟨t, o, none⟩ = some sv := by
              rcases hw' with rfl | rfl
              · exact ct
              · exact cell_b ct bA
            rcases ha' with rfl | rfl
            · go_simp
            · go_simp
          case h5 =>
            intro a' ha'
            rcases ha' with rfl | rfl
            · go_simp
            · go_simp
          case h6 =>
            refine app_mk (.tmp 34) (.tmp 36) 26 rfl w.heap.size 37 i0 (.agg #[.int .i64 0, .slice none 0 0]) 2 32 Try.underlying26 hi0 hz0 hz1 hz2 rfl (by decide) sv l.length xs rfl HOWN.out ⟨w6.heap.size, 0, none⟩ 1 1 [g 0, g 1] rfl rfl ?hnews ?hone (by have := HLL.out; have := HLT.out; have := HNM.out; have := HM.out; unfold maxLen; omega) (by have := HLL.out; have := HLT.out; have := HNM.out; have := HM.out; omega) (by have := KP6.out.size; have := HA.out.size; omega) ?hK
            case hnews =>
              intro y u hy
              rw [WideShapes.add_plain, Nat.zero_add]
              exact cell_new { w6 with drawn := w6.drawn + 1 } #[g 0, g 1] 37 y u (by simpa using hy)
            case hone =>
              intro u hu
              simp only [List.mem_cons, List.not_mem_nil, or_false] at hu
              rcases hu with rfl | rfl
              all_goals exact HCS.out _ (by decide)
            case hK =>
            intro v6 w7 own7 grow loc
            obtain ⟨g7, cap7, rfl⟩ := Joins.ownsRow_form own7 (Nat.succ_pos _)
            have z6 := HA.out.size
            have y6 := b6.out.size
            have rne : ∀ c, sv.ownBlock = some c → r ≠ c := fun c hc => by
              have := (HROW.out c hc).1
              have := World.block_lt_of_cell? w _ HRR.out
              have : r < w.heap.size := this
              omega
            have tne : ∀ c, sv.ownBlock = some c → t ≠ c := fun c hc => by have := (HROW.out c hc).1; have := HT.out.lt; omega
            have xne : ∀ c, sv.ownBlock = some c → tx ≠ c := fun c hc => by have := (HROW.out c hc).2; have := HTX.out; omega
            have cr7 := cell_g (cell_b cr HA.out) grow rne
            have ct7 := cell_g (cell_b ct HA.out) grow tne
            have blk7 : Blk w7 t n (put f o sv) := (BK6.out.below HA.out BK6.out.lt).of_heap (grow.block t (by have := BK6.out.lt; omega) (fun h => tne t h.symm rfl))
            have ft7 := blk7.frz o
            refine ⟨⟨cr7, cell_g (cell_b x0 HA.out) grow xne, cell_g (cell_b x1 HA.out) grow xne⟩, ?_, ?_⟩
            · go_simp
            refine ⟨w7.setCell ⟨t, o, none⟩ (.slice (some ⟨g7, 0, none⟩) (l.length + 1) cap7), by go_simp, ?_⟩
            have u8 := Upd.set w7 t o (.slice (some ⟨g7, 0, none⟩) (l.length + 1) cap7)
            have blk8 := (blk7.set o (.slice (some ⟨g7, 0, none⟩) (l.length + 1) cap7)).congr (put f o (.slice (some ⟨g7, 0, none⟩) (l.length + 1) cap7)) fun i _ => by
              by_cases h : i = o
              · subst h; simp [put]
              · simp [put, h]
            generalize w7.setCell ⟨t, o, none⟩ (.slice (some ⟨g7, 0, none⟩) (l.length + 1) cap7) = w8 at *
            have xt : tx ≠ t := by have := HTX.out; have := HT.out.lt; omega
            refine ⟨⟨cell_u cr7 u8 PQ.out.2.2, cell_u (cell_g (cell_b x0 HA.out) grow xne) u8 xt, cell_u (cell_g (cell_b x1 HA.out) grow xne) u8 xt⟩, ?_⟩
            have hel8 := elems_step (R := Rx) (w5 := w5) (d := d) (g := g) (news := [g 0, g 1]) HR.out HT.out.lt hw HEL.out b6.out B5.out.size HRX.out HA.out own7 (fun j hj => by match j, hj with | 0, _ => rfl | 1, _ => rfl) grow loc u8
            have kp8 := keep_step HEL.out KP6.out HA.out grow u8
            have HL8 : Hid (LInvG t n o 37 Spx Rx w f r0 N w8 (j + 1) r1) := Lib.hid ⟨kp8, by have := HSZ.out _ _ _ HSX.out; have := HI.out.small; omega, _, l ++ [d], xs ++ [g 0, g 1], blk8, hel8, by rw [List.length_append, List.length_singleton, HLL.out], by
              have := rep_snoc HSX.out HRP.out
              rwa [show N - j - 1 = N - (j + 1) by omega] at this⟩
            simp only [Act.put, List.setIfInBounds_toArray, List.set_cons_zero, List.set_cons_succ]
            clear hel8 kp8 blk8 u8 grow loc own7 cr7 ct7 blk7 ft7 rne tne xne z6 y6 cr ct ft hbk bA hw
            go_wp2_with fail
            go_roundw
            case rel => exact ⟨j + 1, r1, by have := HLT.out; omega, by go_num, rfl, HL8.out⟩
            case measure => have := HLT.out; simp [intOf]; omega
      · obtain rfl : j = N := by omega
        have hlt' : ¬ (j : Int) < (j : Int) := by omega
        clear hlt hj
        go_wp2_with fail
        go_ret2
        refine ⟨true, _, rfl, ?_⟩
        obtain ⟨sv, l, xs, h1, h2, h3, h4⟩ := HI.out.ex
        rw [Nat.sub_self] at h4
        have h5 : repSp Spx j r0 = some (b', l) := by rw [h4]; show some (b', l ++ []) = _; rw [List.append_nil]
        rw [← HX.out, count_some HS.out, h5]
        exact ⟨rfl, rfl, _, HI.out.kp, h1, sv, xs, rfl, h2⟩
end Go.Proofs.Ytacnbpmoceocbaa
end
section
open Go Go.RowKit
namespace Go.Proofs.Ytacnbpmoceocbaa
open WW BB
set_option maxRecDepth 100000 in
theorem mk_listG {δ : Type} (Spx : ByteArray → Option (ByteArray × δ)) (Rx : RelT δ) (hR : SoundR Rx) (hsz : ∀ b r x, Spx b = some (r, x) → r.size ≤ b.size) (hone : ∀ d w lo hi g, Rx d w lo hi zG g → ∀ i, i < 2 → (g i).oneCell' = true)
    (t o n most : Nat) (kev : Nat) (env : Array Value) (w : World) (hmost : most ≤ 100) (ho : o < n) (ht : t < w.heap.size) (hev : EachR Try.prog (.func (.func kev) #[] env) 2 zG Spx Rx) :
    Calls Try.prog 72 #[.pointer (some ⟨t, o, none⟩), .int .i64 (most : Int), .func (.func kev) #[] env] w (MakesR Try.prog t n w (fun f => f o = .slice none 0 0) (countSp (most : Int) Spx) (listR 37 2 zG Rx o)) := by
  have HR := Lib.hid hR
  have HSZ := Lib.hid hsz
  have HONE := Lib.hid hone
  have HO := Lib.hid ho
  have HT := Lib.hid ht
  have HM := Lib.hid hmost
  have HEV := Lib.hid hev
  clear hR hsz hone ho ht hmost hev
  go_enter Try.func72, Try.ntmps72
  go_wp2_with fail
  go_ret
  have b1 := (Below.refl w.heap.size w).alloc (Nat.le_refl _) (.cells #[.pointer (some ⟨t, o, none⟩)] 101)
  have b2 := b1.alloc b1.size (.cells #[.int .i64 (most : Int)] 3)
  have b3 := b2.alloc b2.size (.cells #[.func (.func kev) #[] env] 102)
  have := HT.out
  refine ⟨_, _, rfl, b3, fun f b wx hb hk hx hp => ⟨_, _, rfl, own_listG, ?_⟩⟩
  refine listG_walk Spx Rx HR.out HSZ.out HONE.out t n o (w.heap.size + 1) (w.heap.size + 2) w.heap.size most kev env f b wx HM.out HO.out hb hx hp HEV.out ?_ ?_ ?_ (by omega) (by omega) (by omega)
  · exact keep_cell2 (cell_old (cell_at _ _ _ _ (by simp))) (by omega) hk
  · exact keep_cell2 (cell_at _ _ _ _ (by simp)) (by omega) hk
  · exact keep_cell2 (cell_old (cell_old (cell_at _ _ _ _ rfl))) (by omega) hk
end Go.Proofs.Ytacnbpmoceocbaa
end
