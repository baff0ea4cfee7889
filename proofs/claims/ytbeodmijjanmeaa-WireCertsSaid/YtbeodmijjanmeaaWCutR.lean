/-
  Cuts whose things hold memory of their own: what a cell holds is told by a relation; cuts in order, lists of what is true of them. No program is named here.
-/
import Derived.Test.YtbeodmijjanmeaaWReqCut
import Derived.Test.YtbeodmijjanmeaaWCodec
open Go Go.RowKit
namespace WW
open BB
/-- what was read, in block t's cells: d, in this world, in blocks from lo below hi; the cells were f, and are f' -/
abbrev RelT (δ : Type) := δ → World → Nat → Nat → (Nat → Value) → (Nat → Value) → Prop
structure SoundR {δ : Type} (R : RelT δ) : Prop where
  keep : ∀ {d w w' lo hi f f'}, R d w lo hi f f' → (∀ k, lo ≤ k → k < hi → w'.heap[k]? = w.heap[k]?) → R d w' lo hi f f'
  wide : ∀ {d w lo hi lo' hi' f f'}, R d w lo hi f f' → lo' ≤ lo → hi ≤ hi' → R d w lo' hi' f f'
section
variable {P : Program} {t n : Nat} {v : Value} {W : World} {α β δ : Type} {A : ByteArray → Option (ByteArray × α)} {B : ByteArray → Option (ByteArray × β)} {Sp : ByteArray → Option (ByteArray × δ)} {R : RelT δ} {R1 : RelT α} {R2 : RelT β} {Pre Pre2 : (Nat → Value) → Prop} {f : Nat → Value} {w : World}
def EffR (t n : Nat) (w : World) (f : Nat → Value) (R : RelT δ) (x : Option (ByteArray × δ)) (ok : Bool) (r : ByteArray) (w' : World) : Prop :=
  match x with
  | none => ok = false ∧ ∃ f', Keep t w w' ∧ Blk w' t n f'
  | some (r', d) => ok = true ∧ r = r' ∧ ∃ f', Keep t w w' ∧ Blk w' t n f' ∧ R d w' w.heap.size w'.heap.size f f'
/-- v cuts off what Sp says, and puts it into block t, by R -/
def CutR (P : Program) (t n : Nat) (v : Value) (W : World) (Pre : (Nat → Value) → Prop) (Sp : ByteArray → Option (ByteArray × δ)) (R : RelT δ) : Prop :=
  ∀ f b w, b.size ≤ 1000000 → Keep t W w → Blk w t n f → Pre f → Cut P v b w (EffR t n w f R (Sp b))
theorem CutR.later {W' : World} (h : CutR P t n v W Pre Sp R) (hk : Keep t W W') : CutR P t n v W' Pre Sp R := fun f b w hb hw ht hp => h f b w hb (hk.trans hw) ht hp
theorem CutTo.toR {eff : δ → (Nat → Value) → Nat → Value} (h : CutTo P t n v W Sp eff) : CutR P t n v W (fun _ => True) Sp (fun d _ _ _ f f' => f' = eff d f) := fun f b w hb hk ht _ =>
  (h f b w hb hk ht).mono fun ok r w' he => by
    unfold Eff at he
    unfold EffR
    rcases hS : Sp b with _ | ⟨r', d⟩ <;> rw [hS] at he
    · exact he
    · obtain ⟨h1, h2, h3⟩ := he
      exact ⟨h1, h2, _, h3.1, h3.2, rfl⟩
theorem CutR.map {g : α → β} (h : CutR P t n v W Pre A R1) (hR : ∀ d w lo hi f f', R1 d w lo hi f f' → R2 (g d) w lo hi f f') : CutR P t n v W Pre (mapSp g A) R2 := fun f b w hb hk ht hp =>
  (h f b w hb hk ht hp).mono fun ok r w' he => by
    unfold EffR at he ⊢
    rcases hA : A b with _ | ⟨r', d⟩
    · rw [hA] at he; rw [map_none hA]; exact he
    · rw [hA] at he; rw [map_some hA]
      obtain ⟨h1, h2, f', h3, h4, h5⟩ := he
      exact ⟨h1, h2, f', h3, h4, hR _ _ _ _ _ _ h5⟩
theorem CutR.weak {R' : RelT δ} {Pre' : (Nat → Value) → Prop} (h : CutR P t n v W Pre Sp R) (hP : ∀ f, Pre' f → Pre f) (hR : ∀ d w lo hi f f', R d w lo hi f f' → R' d w lo hi f f') : CutR P t n v W Pre' Sp R' := fun f b w hb hk ht hp =>
  (h f b w hb hk ht (hP f hp)).mono fun ok r w' he => by
    unfold EffR at he ⊢
    rcases hS : Sp b with _ | ⟨r', d⟩ <;> rw [hS] at he
    · exact he
    · obtain ⟨h1, h2, f', h3, h4, h5⟩ := he
      exact ⟨h1, h2, f', h3, h4, hR _ _ _ _ _ _ h5⟩
/-- a number in cell o; a text in cell o -/
def numR (o : Nat) : RelT Int := fun d _ _ _ f f' => f' = put f o (.int .i64 d)
def strR (o : Nat) : RelT ByteArray := fun d _ _ _ f f' => f' = put f o (.string d)
theorem sound_num (o : Nat) : SoundR (numR o) := ⟨fun h _ => h, fun h _ _ => h⟩
theorem sound_str (o : Nat) : SoundR (strR o) := ⟨fun h _ => h, fun h _ _ => h⟩
theorem cutr_num {lo hi : Int} {o : Nat} (h : CutTo P t n v W (numSp lo hi) (putN o)) : CutR P t n v W (fun _ => True) (numI lo hi) (numR o) := h.toR.map fun _ _ _ _ _ _ h => h
theorem cutr_str {o : Nat} {Sp : ByteArray → Option (ByteArray × ByteArray)} (h : CutTo P t n v W Sp (putS o)) : CutR P t n v W (fun _ => True) Sp (strR o) := h.toR
/-- one behind the other -/
def seqR (R1 : RelT α) (R2 : RelT β) : RelT (α × β) := fun d w lo hi f f' => ∃ g, R1 d.1 w lo hi f g ∧ R2 d.2 w lo hi g f'
theorem SoundR.seq (h1 : SoundR R1) (h2 : SoundR R2) : SoundR (seqR R1 R2) :=
  ⟨fun ⟨g, a, b⟩ hk => ⟨g, h1.keep a hk, h2.keep b hk⟩, fun ⟨g, a, b⟩ hl hh => ⟨g, h1.wide a hl hh, h2.wide b hl hh⟩⟩
/-- these cuts, in order -/
def OrdR (P : Program) (t n : Nat) (vs : List Value) (W : World) (Pre : (Nat → Value) → Prop) (Sp : ByteArray → Option (ByteArray × δ)) (R : RelT δ) : Prop :=
  ∀ (E : World → Prop) (Q : Bool → ByteArray → World → Prop) f b w, b.size ≤ 1000000 → Keep t W w → Blk w t n f → Pre f → (∀ w', Keep t W w' → E w') → (∀ ok r w', EffR t n w f R (Sp b) ok r w' → Q ok (if ok then r else ⟨#[]⟩) w') → OrderWp P E Q vs b w
theorem OrdR.one (h : CutR P t n v W Pre Sp R) : OrdR P t n [v] W Pre Sp R := fun E Q f b w hb hk ht hp hE hQ => by
  refine (h f b w hb hk ht hp).mono fun ok r w' he => ?_
  have hk' : Keep t w w' := by
    unfold EffR at he
    rcases hS : Sp b with _ | ⟨r', d⟩
    · rw [hS] at he; exact he.2.choose_spec.1
    · rw [hS] at he; exact he.2.2.choose_spec.1
  have := hQ ok r w' he
  refine ⟨hE w' (hk.trans hk'), ?_⟩
  cases ok
  · exact this
  · exact this
theorem orderWp_app {E : World → Prop} {Q : Bool → ByteArray → World → Prop} (v : Value) : ∀ (vs : List Value) (b : ByteArray) (w : World),
    OrderWp P E (fun ok r w' => if ok then Cut P v r w' (fun ok2 r2 w2 => E w2 ∧ (if ok2 then Q true r2 w2 else Q false ⟨#[]⟩ w2)) else Q false ⟨#[]⟩ w') vs b w → OrderWp P E Q (vs ++ [v]) b w
  | [], b, w, h => h
  | v0 :: vs, b, w, h => by
    refine Cut.mono (show Cut P v0 b w _ from h) fun ok r w' ⟨hE, hr⟩ => ⟨hE, ?_⟩
    cases ok
    · exact hr
    · exact orderWp_app v vs r w' hr
theorem keep_fix {s w1 w2 : World} {t : Nat} (h : Keep t w1 w2) (ht : t < s.heap.size) : ∀ k, s.heap.size ≤ k → k < w1.heap.size → w2.heap[k]? = w1.heap[k]? := fun k h1 h2 => h.block k h2 (by omega)
theorem OrdR.app {vs : List Value} (h1 : OrdR P t n vs W Pre A R1) (h2 : CutR P t n v W Pre2 B R2) (s1 : SoundR R1) (s2 : SoundR R2) (hsz : ∀ b r x, A b = some (r, x) → r.size ≤ b.size)
    (hpre : ∀ d w lo hi f g, Pre f → R1 d w lo hi f g → Pre2 g) : OrdR P t n (vs ++ [v]) W Pre (seqSp A B) (seqR R1 R2) := fun E Q f b w hb hk ht hp hE hQ => by
  refine orderWp_app v vs b w (h1 E _ f b w hb hk ht hp hE fun ok r w' he => ?_)
  unfold EffR at he
  rcases hA : A b with _ | ⟨r', d⟩
  · rw [hA] at he
    obtain ⟨rfl, f', h3, h4⟩ := he
    refine hQ false ⟨#[]⟩ w' ?_
    unfold EffR
    rw [seq_none1 hA]
    exact ⟨rfl, f', h3, h4⟩
  · rw [hA] at he
    obtain ⟨rfl, rfl, g, h3, h4, h5⟩ := he
    show Cut P v r w' _
    refine (h2 g r w' (by have := hsz _ _ _ hA; omega) (hk.trans h3) h4 (hpre _ _ _ _ _ _ hp h5)).mono fun ok2 r2 w2 he2 => ?_
    unfold EffR at he2
    rcases hB : B r with _ | ⟨r3, d2⟩
    · rw [hB] at he2
      obtain ⟨rfl, f', h6, h7⟩ := he2
      refine ⟨hE _ (hk.trans (h3.trans h6)), hQ false ⟨#[]⟩ w2 ?_⟩
      unfold EffR
      rw [seq_none2 hA hB]
      exact ⟨rfl, f', h3.trans h6, h7⟩
    · rw [hB] at he2
      obtain ⟨rfl, rfl, f', h6, h7, h8⟩ := he2
      refine ⟨hE _ (hk.trans (h3.trans h6)), hQ true r2 w2 ?_⟩
      unfold EffR
      rw [seq_some hA hB]
      exact ⟨rfl, rfl, f', h3.trans h6, h7, g, s1.wide (s1.keep h5 (keep_fix h6 ht.lt)) (Nat.le_refl _) h6.size, s2.wide h8 h3.size (Nat.le_refl _)⟩
/-- v reads nothing: it tells whether p holds of what was read -/
def ProvR (P : Program) (t n : Nat) (v : Value) (W : World) (Pre : (Nat → Value) → Prop) (Sp : ByteArray → Option (ByteArray × δ)) (R : RelT δ) (p : δ → Bool) : Prop :=
  ∀ d f f' lo hi b w, (∃ b0 r0, Sp b0 = some (r0, d)) → Keep t W w → hi ≤ w.heap.size → Blk w t n f' → Pre f → R d w lo hi f f' → Cut P v b w fun ok r w' => ok = p d ∧ r = b ∧ Below w.heap.size w w'
theorem OrdR.prov {vs : List Value} {p : α → Bool} (h1 : OrdR P t n vs W Pre A R1) (h2 : ProvR P t n v W Pre A R1 p) (s1 : SoundR R1) : OrdR P t n (vs ++ [v]) W Pre (filtSp A p) R1 := fun E Q f b w hb hk ht hp hE hQ => by
  refine orderWp_app v vs b w (h1 E _ f b w hb hk ht hp hE fun ok r w' he => ?_)
  unfold EffR at he
  rcases hA : A b with _ | ⟨r', d⟩
  · rw [hA] at he
    obtain ⟨rfl, f', h3, h4⟩ := he
    refine hQ false ⟨#[]⟩ w' ?_
    unfold EffR
    rw [filt_none hA]
    exact ⟨rfl, f', h3, h4⟩
  · rw [hA] at he
    obtain ⟨rfl, rfl, g, h3, h4, h5⟩ := he
    show Cut P v r w' _
    refine (h2 d f g _ _ r w' ⟨_, _, hA⟩ (hk.trans h3) (Nat.le_refl _) h4 hp h5).mono fun ok2 r2 w2 ⟨e1, e2, hb2⟩ => ?_
    have h6 : Keep t w' w2 := keep_of_below hb2 (Nat.le_refl _) t
    have h7 : Blk w2 t n g := h4.below hb2 h4.lt
    subst e1 e2
    refine ⟨hE _ (hk.trans (h3.trans h6)), ?_⟩
    rcases hpd : p d with _ | _
    · refine hQ false ⟨#[]⟩ w2 ?_
      unfold EffR
      rw [filt_some hA, hpd, if_neg (by simp)]
      exact ⟨rfl, g, h3.trans h6, h7⟩
    · refine hQ true r2 w2 ?_
      unfold EffR
      rw [filt_some hA, hpd, if_pos rfl]
      exact ⟨rfl, rfl, g, h3.trans h6, h7, s1.wide (s1.keep h5 (keep_fix h6 ht.lt)) (Nat.le_refl _) h6.size⟩
/-- a closure that cuts is made -/
def MakesR (P : Program) (t n : Nat) (w : World) (Pre : (Nat → Value) → Prop) (Sp : ByteArray → Option (ByteArray × δ)) (R : RelT δ) (e : Ending) (w' : World) : Prop :=
  ∃ k env, e = .returned (.func (.func k) #[] env) ∧ Below w.heap.size w w' ∧ CutR P t n (.func (.func k) #[] env) w' Pre Sp R
/-- ev makes a closure that cuts, for a new thing of k cells, z -/
def EachR (P : Program) (ev : Value) (k : Nat) (z : Nat → Value) (Sp : ByteArray → Option (ByteArray × δ)) (R : RelT δ) : Prop :=
  ∀ (tx : Nat) (w : World), tx < w.heap.size → CallsV P ev #[.pointer (some ⟨tx, 0, none⟩)] w (MakesR P tx k w (fun f => ∀ i, i < k → f i = z i) Sp R)
/-- the elements of a list that was read: each by R, in the row that sv owns -/
structure ElemsR (e : TypeId) (k : Nat) (z : Nat → Value) (R : RelT δ) (w : World) (lo hi : Nat) (sv : Value) (l : List δ) (xs : List Value) : Prop where
  row : w.ownsRow lo e k sv l.length xs
  top : ∀ c, sv.ownBlock = some c → c < hi
  each : ∀ (i : Nat) (d : δ), l[i]? = some d → ∃ (lo1 hi1 : Nat) (g : Nat → Value), lo ≤ lo1 ∧ hi1 ≤ hi ∧ R d w lo1 hi1 z g ∧ (∀ j : Nat, j < k → xs[i * k + j]? = some (g j)) ∧ ∀ c, sv.ownBlock = some c → c < lo1 ∨ hi1 ≤ c
theorem owns_keep {w' : World} {e : TypeId} {lo k m : Nat} {sv : Value} {xs : List Value} (h : w.ownsRow lo e k sv m xs) (hk : ∀ c, sv.ownBlock = some c → w'.heap[c]? = w.heap[c]?) : w'.ownsRow lo e k sv m xs := by
  obtain ⟨h1, h2 | ⟨g, cap, cur, hv, hb, hc, rest⟩⟩ := h
  · exact ⟨h1, Or.inl h2⟩
  · subst hv
    exact ⟨h1, Or.inr ⟨g, cap, cur, rfl, hb, (hk g rfl).trans hc, rest⟩⟩
theorem owns_lo {e : TypeId} {lo lo' k m : Nat} {sv : Value} {xs : List Value} (h : w.ownsRow lo e k sv m xs) (hl : lo' ≤ lo) : w.ownsRow lo' e k sv m xs := by
  obtain ⟨h1, h2 | ⟨g, cap, cur, hv, hb, rest⟩⟩ := h
  · exact ⟨h1, Or.inl h2⟩
  · exact ⟨h1, Or.inr ⟨g, cap, cur, hv, by omega, rest⟩⟩
theorem owns_ge {e : TypeId} {lo k m : Nat} {sv : Value} {xs : List Value} (h : w.ownsRow lo e k sv m xs) : ∀ c, sv.ownBlock = some c → lo ≤ c := by
  obtain ⟨h1, ⟨rfl, _⟩ | ⟨g, cap, cur, rfl, hb, rest⟩⟩ := h
  · intro c hc; cases hc
  · intro c hc
    have : g = c := by simpa [Value.ownBlock] using hc
    omega
theorem ElemsR.keep {w' : World} {e : TypeId} {k lo hi : Nat} {z : Nat → Value} {sv : Value} {l : List δ} {xs : List Value} (h : ElemsR e k z R w lo hi sv l xs) (hR : SoundR R) (hk : ∀ c, lo ≤ c → c < hi → w'.heap[c]? = w.heap[c]?) : ElemsR e k z R w' lo hi sv l xs := by
  refine ⟨owns_keep h.row fun c hc => hk c (owns_ge h.row c hc) (h.top c hc), h.top, fun i d hd => ?_⟩
  obtain ⟨lo1, hi1, g, h1, h2, h3, h4, h5⟩ := h.each i d hd
  exact ⟨lo1, hi1, g, h1, h2, hR.keep h3 fun c a b => hk c (by omega) (by omega), h4, h5⟩
theorem ElemsR.wide {e : TypeId} {k lo hi lo' hi' : Nat} {z : Nat → Value} {sv : Value} {l : List δ} {xs : List Value} (h : ElemsR e k z R w lo hi sv l xs) (hl : lo' ≤ lo) (hh : hi ≤ hi') : ElemsR e k z R w lo' hi' sv l xs := by
  refine ⟨owns_lo h.row hl, fun c hc => Nat.lt_of_lt_of_le (h.top c hc) hh, fun i d hd => ?_⟩
  obtain ⟨lo1, hi1, g, h1, h2, h3, h4, h5⟩ := h.each i d hd
  exact ⟨lo1, hi1, g, by omega, by omega, h3, h4, h5⟩
/-- a list in cell o -/
def listR (e : TypeId) (k : Nat) (z : Nat → Value) (R : RelT δ) (o : Nat) : RelT (List δ) := fun l w lo hi f f' => ∃ sv xs, f' = put f o sv ∧ ElemsR e k z R w lo hi sv l xs
theorem sound_list {e : TypeId} {k o : Nat} {z : Nat → Value} (hR : SoundR R) : SoundR (listR e k z R o) :=
  ⟨fun ⟨sv, xs, h1, h2⟩ hk => ⟨sv, xs, h1, h2.keep hR hk⟩, fun ⟨sv, xs, h1, h2⟩ hl hh => ⟨sv, xs, h1, h2.wide hl hh⟩⟩
end
end WW
