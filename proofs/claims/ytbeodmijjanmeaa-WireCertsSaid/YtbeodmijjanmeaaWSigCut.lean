/-
  The cuts of a tag and of a signature.
-/
import Derived.Test.YtbeodmijjanmeaaWMkS
import Derived.Test.YtbeodmijjanmeaaWMkG
import Derived.Test.YtbeodmijjanmeaaWMkQ
import Derived.Deep.RegionHeld3
open Go Go.RowKit
namespace Go.Proofs.Ytbeodmijjanmeaa
open WW BB
theorem order_cutR {δ : Type} {t n gc bx cap : Nat} {W : World} {vs : List Value} {Pre : (Nat → Value) → Prop} {Sp : ByteArray → Option (ByteArray × δ)} {R : RelT δ} (h : OrdR Try.prog t n vs W Pre Sp R) (hE : InRow gc vs W) (hb : W.cell? ⟨bx, 0, none⟩ = some (.slice (some ⟨gc, 0, none⟩) vs.length cap)) (gt : gc ≠ t) (gl : gc < W.heap.size) (bt : bx ≠ t) (hlen : vs.length ≤ 100) :
    CutR Try.prog t n (.func (.func 85) #[] #[.pointer (some ⟨bx, 0, none⟩)]) W Pre Sp R := by
  intro f b w hs hk ht hp
  refine ⟨_, _, rfl, own_order, ?_⟩
  refine order_any vs bx gc cap _ b w hlen (keep_cell2 hb bt hk) (InRow_keep hE gt gl hk) ?_
  refine h (InRow gc vs) (EffR t n w f R (Sp b)) f b w hs hk ht hp (fun w1 h1 => InRow_keep hE gt gl h1) fun ok r w' he => ?_
  unfold EffR at he ⊢
  rcases hS : Sp b with _ | ⟨r', d⟩ <;> rw [hS] at he
  · exact he
  · obtain ⟨rfl, h2⟩ := he
    exact ⟨rfl, h2⟩
theorem own_tag : Own Try.prog 93 := ⟨_, Try.func93, by kernel_rfl, by kernel_rfl⟩
set_option maxRecDepth 100000 in
theorem each_tag : EachR Try.prog (.func (.func 93) #[] #[]) 1 zS (bytesSp 16) (strR 0) := by
  intro tx w ht
  refine ⟨_, _, rfl, own_tag, ?_⟩
  have HT := Lib.hid ht
  clear ht
  go_enter Try.func93, Try.ntmps93
  go_wp2_with fail
  refine (mk_bytes tx 0 1 16 w (by omega) HT.out).mono ?_
  rintro e w1 ⟨k1, env1, rfl, hb1, hv1⟩
  have HB := Lib.hid hb1
  have HV := Lib.hid hv1
  clear hb1 hv1
  go_wp2_with fail
  go_ret
  exact ⟨_, _, rfl, HB.out, (cutr_str HV.out).weak (fun _ _ => trivial) (fun _ _ _ _ _ _ h => h)⟩
theorem one_tag : ∀ (d : ByteArray) (w : World) (lo hi : Nat) (g : Nat → Value), strR 0 d w lo hi zS g → ∃ x, g 0 = .string x := fun d _ _ _ g h => ⟨d, by rw [show g = put zS 0 (.string d) from h]; simp [put]⟩
/-- a signature's tags, from cell o on -/
def sigR (o : Nat) : RelT (Int × List ByteArray) := seqR (numR o) (listR 9 1 zS (strR 0) (o + 1))
theorem sound_sig (o : Nat) : SoundR (sigR o) := (sound_num o).seq (sound_list (sound_str 0))
set_option maxRecDepth 100000 in
set_option maxHeartbeats 2000000 in
theorem mk_sig (t o n : Nat) (w : World) (ho : o + 1 < n) (ht : t < w.heap.size) :
    Calls Try.prog 73 #[.pointer (some ⟨t, o, none⟩)] w (MakesR Try.prog t n w (fun f => f (o + 1) = .slice none 0 0) sigI (sigR o)) := by
  have HO := Lib.hid ho
  have HT := Lib.hid ht
  clear ho ht
  go_enter Try.func73, Try.ntmps73
  go_wp2_with fail
  have z0 : t < w.drew.heap.size := HT.out
  go_region_held3 (fun w' => t < w'.heap.size) (first | assumption | exact hk | (simp; omega))
    (first
      | (go_at_call 66; refine (mk_num t _ n _ _ _ (by have := HO.out; omega) (by assumption)).mono ?_; rintro e w1 ⟨k1, env1, rfl, hb1, hv1⟩; have hk := Nat.lt_of_lt_of_le (by assumption : t < _) hb1.size; have HB1 := Lib.hid hb1; have HV1 := Lib.hid hv1; clear hb1 hv1)
      | (go_at_call 92; refine (mk_listS (bytesSp 16) (strR 0) (sound_str 0) (fun _ _ _ h => (codec_bytes 16).size h) one_tag t _ n 7 _ _ _ (by omega) (by have := HO.out; omega) (by assumption) each_tag).mono ?_; rintro e w2 ⟨k2, env2, rfl, hb2, hv2⟩; have hk := Nat.lt_of_lt_of_le (by assumption : t < _) hb2.size; have HB2 := Lib.hid hb2; have HV2 := Lib.hid hv2; clear hb2 hv2)
      | (go_at_call 65; refine (mk_order _ _ _ _).mono ?_; rintro e w5 ⟨rfl, hb5, hv5⟩; have hk := Nat.lt_of_lt_of_le (by assumption : t < _) hb5.size; have HB5 := Lib.hid hb5; have HV5 := Lib.hid hv5; clear hb5 hv5))
  obtain ⟨W4, hW4⟩ : ∃ W4, W4 = w2.alloc (.cells #[.func (.func k1) #[] env1, .func (.func k2) #[] env2] 88) := ⟨_, rfl⟩
  rw [← hW4] at HB5 HV5
  have z4 : W4.heap.size = w2.heap.size + 1 := by rw [hW4]; simp
  have b4 : Below w2.heap.size w2 W4 := by rw [hW4]; exact (Below.refl _ _).alloc (Nat.le_refl _) _
  have hrow : InRow w2.heap.size [.func (.func k1) #[] env1, .func (.func k2) #[] env2] W4 := by
    rw [hW4]
    intro i hi
    match i, hi with
    | 0, _ => exact cell_new _ _ _ _ _ rfl
    | 1, _ => exact cell_new _ _ _ _ _ rfl
  have t2 : t < w2.heap.size := Nat.lt_of_lt_of_le HT.out (Nat.le_trans HB1.out.size HB2.out.size)
  have k5 : Keep t W4 w5 := keep_of_below HB5.out (Nat.le_refl _) t
  have k2' : Keep t w2 w5 := (keep_of_below b4 (Nat.le_refl _) t).trans k5
  have k1' : Keep t w1 w5 := (keep_of_below HB2.out (Nat.le_refl _) t).trans k2'
  have ord : OrdR Try.prog t n [.func (.func k1) #[] env1, .func (.func k2) #[] env2] w5 (fun f => f (o + 1) = .slice none 0 0) sigI (sigR o) :=
    (OrdR.one ((cutr_num (HV1.out.later k1')).weak (fun _ _ => trivial) (fun _ _ _ _ _ _ h => h))).app (HV2.out.later k2') (sound_num o) (sound_list (sound_str 0)) (fun b r x h => (codec_num 0 6 (by omega) (by omega)).size h) (fun d w lo hi f g hp hg => by
      rw [show g = put f o (.int .i64 d) from hg]; simpa [put] using hp)
  have hto := Lib.hid (order_cutR (cap := 2) (bx := W4.heap.size) ord (InRow_keep hrow (by omega) (by omega) k5) HV5.out (by omega) (by have := HB5.out.size; omega) (by omega) (by simp))
  have hbel : Hid (Below w.heap.size w w5) := by
    have e0 : Below w.heap.size w w.drew := (Below.refl _ _).drew
    have e1 := e0.trans HB1.out
    have e2 := e1.trans (HB2.out.mono e1.size)
    have e4 := e2.trans (b4.mono e2.size)
    exact Lib.hid (e4.trans (HB5.out.mono e4.size))
  rw [z4] at hto
  clear hrow k5 k2' k1' hW4 b4 ord
  go_wp2_with fail
  go_ret
  exact ⟨_, _, rfl, hbel.out, hto.out⟩
theorem own_sig : Own Try.prog 73 := ⟨_, Try.func73, by kernel_rfl, by kernel_rfl⟩
theorem each_sig : EachR Try.prog (.func (.func 73) #[] #[]) 2 zG sigI (sigR 0) := fun tx w ht =>
  ⟨_, _, rfl, own_sig, (mk_sig tx 0 2 w (by omega) ht).mono fun e w' ⟨k, env, h1, h2, h3⟩ => ⟨k, env, h1, h2, h3.weak (fun f hf => by rw [hf 1 (by omega)]; rfl) (fun _ _ _ _ _ _ h => h)⟩⟩
theorem one_sig : ∀ (d : Int × List ByteArray) (w : World) (lo hi : Nat) (g : Nat → Value), sigR 0 d w lo hi zG g → ∀ i, i < 2 → (g i).oneCell' = true := by
  rintro d w lo hi g ⟨g1, h1, sv, xs, h2, h3⟩ i hi
  subst h2
  rw [show g1 = put zG 0 (.int .i64 d.1) from h1]
  match i, hi with
  | 0, _ => rfl
  | 1, _ => rcases Joins.ownsRow_forms h3.row with ⟨rfl, _⟩ | ⟨g, cap, rfl⟩ <;> rfl
/-- a request, from cell o on -/
def reqR (o : Nat) : RelT (Int × Int × ByteArray) := fun d _ _ _ f f' => f' = put (put (put f o (.int .i64 d.1)) (o + 1) (.int .i64 d.2.1)) (o + 2) (.string d.2.2)
theorem sound_req (o : Nat) : SoundR (reqR o) := ⟨fun h _ => h, fun h _ _ => h⟩
theorem cutr_req {P : Program} {t n o : Nat} {v : Value} {W : World} (h : CutTo P t n v W reqSp (putReq o)) : CutR P t n v W (fun _ => True) reqI (reqR o) :=
  h.toR.map (g := fun d : Nat × Nat × ByteArray => ((d.1 : Int), (d.2.1 : Int), d.2.2)) (fun _ _ _ _ _ _ h => h)
theorem each_req : EachR Try.prog (.func (.func 40) #[] #[]) 3 zQ reqI (reqR 0) := fun tx w ht =>
  ⟨_, _, rfl, ⟨_, Try.func40, by kernel_rfl, by kernel_rfl⟩, (mk_request tx 0 3 w (by omega) ht).mono fun e w' ⟨k, env, h1, h2, h3⟩ => ⟨k, env, h1, h2, (cutr_req h3).weak (fun _ _ => trivial) (fun _ _ _ _ _ _ h => h)⟩⟩
theorem one_req : ∀ (d : Int × Int × ByteArray) (w : World) (lo hi : Nat) (g : Nat → Value), reqR 0 d w lo hi zQ g → ∀ i, i < 3 → (g i).oneCell' = true := by
  intro d w lo hi g h i hi
  rw [show g = _ from h]
  match i, hi with
  | 0, _ => rfl
  | 1, _ => rfl
  | 2, _ => rfl
end Go.Proofs.Ytbeodmijjanmeaa
