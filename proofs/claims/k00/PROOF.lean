import PyProof.Rows.All
import Wide.All
import OpenK.AllK
import Wide.FinOn
import PyProof.EqAt
import PyProof.EqKinds
import PyProof.TupleCall
import HandS.ForMost
import HandS.More
import HandS.Set
import HandS.SetFor
import HandS.Strs
import HandS.ExcInit
import HandS.ExcIs
import HandS.ExcField
import HandS.IsInst
import HandS.ExcOwn
import KE.KExcInit
import HandS.OwnEq
import HandS.DeepEq
import HandS.MakeKwOnly
import PyProof.InstEq
import HandS.CallSlots
import HandS.HeadNt
import HandS.Walk
import HandS.Gcd
import HandS.Property
import HandS.Defaults
import HandS.Wide
import HandS.WideBits
import HandS.StrMore
import HandS.FStr
import HandS.DictComp
import HandS.Conv
import HandS.Flow
import HandS.Head0
import HandS.Head1
import HandS.Head2
import HandS.Head3
import HandS.HeadEnd
import HandS.HeadHook1
import HandS.HeadHook2
import HandS.EndBits
import HandS.NoneIn
import HandS.ForExc
import KE.IntBitsLaws
import HandS.Style
import HandS.Zip
import PyProof.StrBlock2
import PySem.Challenge.RW_keyspans_k00_fields_or_none
set_option Elab.async false
set_option linter.all false
set_option maxRecDepth 100000
set_option maxHeartbeats 0
/-! Sets of texts: made of a list or a tuple of texts, sorted. -/
namespace Jd
open PySem PySem.Spec PyProof.Rows L2

def txK (e : Int × Value) : Str := match e.2 with
  | .str x _ => x
  | _ => Str.empty
def TxE (P : Program) (w : World) (e : Int × Value) : Prop := ∃ x tk, e.2 = Value.str x tk ∧ e.1 = (PySem.strKind P w).hash x
/-- the table holds the texts xs, each once -/
structure TxHas (P : Program) (w : World) (xs : List Str) (es : Array (Int × Value)) : Prop where
  good : ∀ e ∈ es.toList, TxE P w e
  perm : (es.toList.map txK).Perm xs
  nd : xs.Nodup
theorem TxHas.move {P : Program} {w : World} {xs : List Str} {es es' : Array (Int × Value)} (g : TxHas P w xs es) (p : es'.toList.Perm es.toList) : TxHas P w xs es' :=
  { good := fun e he => g.good e (p.mem_iff.mp he), perm := (p.map txK).trans g.perm, nd := g.nd }
theorem TxHas.size {P : Program} {w : World} {xs : List Str} {es : Array (Int × Value)} (g : TxHas P w xs es) : es.size = xs.length := by
  have q := g.perm.length_eq
  rw [List.length_map, Array.length_toList] at q
  exact q
/-- the set of texts at a -/
def TxS (P : Program) (w : World) (h : Heap) (a : Addr) (xs : List Str) : Prop :=
  ∃ o es ep t, h.get? a = some o ∧ o.ExactSet ∧ o.data = .set es ep t ∧ TxHas P w xs es ∧
    (es.size < scanBound ∧ t.fits es.size = true) ∧ Ris t.place.toList ∧ (w.params.followText "set-order" = true ∨ t.led = true)
section
variable {P : Program} {w : World} {h h' : Heap} {a : Addr} {xs : List Str}
theorem TxS.to (R : TxS P w h a xs) (k : ∀ o, h.get? a = some o → h'.get? a = some o) : TxS P w h' a xs := by
  obtain ⟨o, es, ep, t, q0, q1⟩ := R
  exact ⟨o, es, ep, t, k o q0, q1⟩
theorem tx_elems {l : List (Int × Value)} (g : ∀ e ∈ l, TxE P w e) : ElemsOf (PySem.strKind P w) l := by
  intro e he
  obtain ⟨x, tk, q1, q2⟩ := g e he
  refine ⟨⟨x, ?_, q2⟩, ?_⟩
  · rw [q1]
    exact PySem.strKind_is P w x tk
  · rw [q1]
    rfl
theorem tx_is {e : Int × Value} (g : TxE P w e) (x : Str) : (PySem.strKind P w).is x e.2 = true ↔ txK e = x := by
  obtain ⟨y, tk, q1, _⟩ := g
  have e1 : txK e = y := by
    unfold txK
    rw [q1]
  rw [e1, q1]
  show (Value.isStrOf x (.str y tk) = true) ↔ y = x
  simp [Value.isStrOf]
theorem tx_mem {l : List (Int × Value)} (g : ∀ e ∈ l, TxE P w e) (x : Str) : x ∈ l.map txK ↔ ∃ e ∈ l, (PySem.strKind P w).is x e.2 = true := by
  rw [List.mem_map]
  exact ⟨fun ⟨e, he, q⟩ => ⟨e, he, (tx_is (g e he) x).mpr q⟩, fun ⟨e, he, q⟩ => ⟨e, he, (tx_is (g e he) x).mp q⟩⟩
end
section
variable {P : Program} {w : World} {A : Around} {E : Value → Shared → Prop} {s : Shared} {a : Addr}
theorem tx_tail {g : Bool → Sem Unit} (hg : ∀ (b : Bool) (s₁ : Shared) (Q' : Unit → Shared → Prop), Q' () s₁ → wpAny (model P w) A (g b) Q' E s₁)
    {o : Obj} {es : Array (Int × Value)} {ep : Nat} {t : SetTable} (q0 : s.heap.get? a = some o) (q1 : o.ExactSet) (q2 : o.data = .set es ep t)
    {es1 : Array (Int × Value)} {t2 : SetTable} {xs : List Str} (q3 : TxHas P w xs es1)
    (q4 : es1.size < scanBound) (q5 : t2.fits es1.size = true) (q6 : Ris t2.place.toList) (q7 : w.params.followText "set-order" = true ∨ t2.led = true) {wasDummy : Bool} {R : Option Bool → Shared → Prop}
    (fin : ∀ hz, Heap.SameBut a s.heap hz → TxS P w hz a xs → R (some true) { s with heap := hz }) :
    wpAny (model P w) A (do
        storeSet a es1 t2
        if (!wasDummy && t2.tooFull) = true then do
            g (relayAll t2 es1 (SetTable.grown es1.size)).2.2
            storeSet a (relayAll t2 es1 (SetTable.grown es1.size)).1 (relayAll t2 es1 (SetTable.grown es1.size)).2.1
            pure (some true)
          else pure (some true)) R E s := by
  refine wpAny_bind (wpAny_storeSet_of q0 q2 ?_ (fits_of_scanBound q4))
  have r0 := store_at (es' := es1) (t' := t2) q0 q2
  have r1 := Heap.SameBut.update s.heap a (Obj.putSet es1 t2)
  split
  · have z1 := relayAll_perm t2 es1 (SetTable.grown es1.size)
    have z2 := relayAll_fits t2 es1 (SetTable.grown es1.size)
    have z3 := relayAll_ris t2 es1 (SetTable.grown es1.size)
    have z4 := relayAll_led t2 es1 (SetTable.grown es1.size)
    generalize relayAll t2 es1 (SetTable.grown es1.size) = Z at z1 z2 z3 z4 ⊢
    obtain ⟨es2, t3, gv⟩ := Z
    dsimp only at z1 z2 z3 z4 ⊢
    have q8 := q3.move z1
    have q9 : es2.size < scanBound := by rw [q8.size, ← q3.size]; exact q4
    refine wpAny_bind (hg _ _ _ ?_)
    refine wpAny_bind (wpAny_storeSet_of r0 rfl ?_ (fits_of_scanBound q9))
    have r2 := store_at (es' := es2) (t' := t3) r0 rfl
    refine wpAny_pure (fin _ (r1.trans (Heap.SameBut.update _ a _)) ?_)
    exact ⟨_, es2, _, t3, r2, q1, rfl, q8, ⟨q9, z2⟩, z3, q7.imp id fun z => by rw [z4]; exact z⟩
  · exact wpAny_pure (fin _ r1 ⟨_, es1, _, t2, r0, q1, rfl, q3, ⟨q4, q5⟩, q6, q7⟩)

def txAdd (xs : List Str) (x : Str) : List Str := if x ∈ xs then xs else x :: xs
theorem txAdd_len (xs : List Str) (x : Str) : (txAdd xs x).length ≤ xs.length + 1 := by
  unfold txAdd
  split
  · omega
  · exact Nat.le_refl _
theorem tx_add {x : Str} {tk : Tok} {xs : List Str} {Q : Bool → Shared → Prop} (R : TxS P w s.heap a xs) (room : xs.length + 1 < scanBound)
    (fin : ∀ hz b, Heap.SameBut a s.heap hz → TxS P w hz a (txAdd xs x) → Q b { s with heap := hz }) :
    wpAny (model P w) A (setAddHashed a (.str x tk) ((PySem.strKind P w).hash x)) Q E s := by
  obtain ⟨o, es, ep, t, q0, q1, q2, q3, ⟨q4, q5⟩, q6, q7⟩ := R
  have i1 : (PySem.strKind P w).is x (.str x tk) = true := PySem.strKind_is P w x tk
  have i2 : (Value.str x tk).scannable = true := rfl
  have i3 : ElemsOf (PySem.strKind P w) es.toList := tx_elems q3.good
  unfold setAddHashed setAddHashedIn
  refine wpAny_holding (wpAny_bind (wpAny_setState_of q0 q2 q5 ?_))
  dsimp only
  rw [byScan_of i2 q4 i3]
  simp only [↓reduceIte]
  unfold setAddByScan
  refine wpAny_bind ?_
  refine wpAny_bind (wpAny_rule ?_)
  refine wpAny_bind (wpAny_setScan_of i1 q0 q2 q5 i3 ?_)
  cases hf : List.findIdx? (fun e => (PySem.strKind P w).is x e.2) es.toList with
  | some j =>
    dsimp only
    obtain ⟨hj, pj, _⟩ := List.findIdx?_eq_some_iff_getElem.mp hf
    have hin : x ∈ xs := q3.perm.mem_iff.mp ((tx_mem (P := P) (w := w) q3.good x).mpr ⟨es.toList[j], List.getElem_mem hj, pj⟩)
    refine wpAny_pure (wpAny_pure ?_)
    refine fin s.heap false (Heap.SameBut.refl a s.heap) ?_
    unfold txAdd
    rw [if_pos hin]
    exact ⟨o, es, ep, t, q0, q1, q2, q3, ⟨q4, q5⟩, q6, q7⟩
  | none =>
    dsimp only
    have hno : x ∉ xs := fun z => by
      obtain ⟨e, he, q⟩ := (tx_mem (P := P) (w := w) q3.good x).mp (q3.perm.mem_iff.mpr z)
      have c := List.findIdx?_eq_none_iff.mp hf e he
      rw [q] at c
      cases c
    have gw : ∀ (b : Bool) {s₁ : Shared} {Q' : Unit → Shared → Prop}, Q' () s₁ → wpAny (model P w) A (match b with | true => rule "set.scan.the-table-gave-way" | false => pure ()) Q' E s₁ := by
      intro b s₁ Q' q
      cases b <;> first | exact wpAny_pure q | exact wpAny_rule q
    have z1 := layNew_perm t es ((PySem.strKind P w).hash x) (.str x tk)
    have z2 := layNew_fits t es ((PySem.strKind P w).hash x) (.str x tk)
    have z3 := layNew_ris t es ((PySem.strKind P w).hash x) (.str x tk) q6
    have z4 := layNew_led t es ((PySem.strKind P w).hash x) (.str x tk)
    generalize layNew t es ((PySem.strKind P w).hash x) (.str x tk) = Z at z1 z2 z3 z4 ⊢
    obtain ⟨es1, t1, wasDummy, gave⟩ := Z
    dsimp only at z1 z2 z3 z4 ⊢
    rw [Array.toList_push] at z1
    have pc : es1.toList.Perm (((PySem.strKind P w).hash x, Value.str x tk) :: es.toList) := z1.trans (List.perm_append_singleton _ _)
    have g1 : TxHas P w (x :: xs) es1 :=
      { good := fun e he => by
          rcases List.mem_cons.mp (pc.mem_iff.mp he) with z | z
          · rw [z]
            exact ⟨x, tk, rfl, rfl⟩
          · exact q3.good e z
        perm := (pc.map txK).trans (List.Perm.cons x q3.perm)
        nd := List.nodup_cons.mpr ⟨hno, q3.nd⟩ }
    have hb1 : es1.size < scanBound := by rw [g1.size]; exact room
    have hled : w.params.followText "set-order" = true ∨ t1.led = true := q7.imp id fun z => by rw [z4]; exact z
    have last : ∀ hz, Heap.SameBut a s.heap hz → TxS P w hz a (x :: xs) → Q true { s with heap := hz } := fun hz sb r => by
      refine fin hz true sb ?_
      unfold txAdd
      rw [if_neg hno]
      exact r
    refine wpAny_bind (gw _ ?_)
    split
    · refine wpAny_bind ?_
      rw [hashByValue_scannable 8 i2]
      refine wpAny_pure ?_
      refine tx_tail ?_ q0 q1 q2 g1 hb1 ?_ ?_ ?_ ?_
      · intro b s₁ Q' q; cases b <;> first | exact wpAny_pure q | exact wpAny_rule q
      · first | (split <;> first | exact z2 | exact SetTable.fits_plain_off z2) | exact z2
      · first | (split <;> exact z3) | exact z3
      · first | (split <;> exact hled) | exact hled
      · intro hz sb r; dsimp only; exact wpAny_pure (last hz sb r)
    · refine wpAny_bind (wpAny_pure ?_)
      simp only [↓reduceIte]
      refine tx_tail ?_ q0 q1 q2 g1 hb1 z2 z3 hled ?_
      · intro b s₁ Q' q; cases b <;> first | exact wpAny_pure q | exact wpAny_rule q
      · intro hz sb r; dsimp only; exact wpAny_pure (last hz sb r)
end
end Jd
namespace Jd
open PySem PySem.Spec PyProof.Rows L2
abbrev ledW (w : World) : Bool := !w.params.followText "set-order"
abbrev bareS (w : World) : Obj := { cls := .type "set", dict := none, data := .set #[] 0 (.fresh 0 0 (ledW w)) }
abbrev putS (w : World) (h : Heap) : Heap := h.push (bareS w)
theorem bare_tx {P : Program} {w : World} {h : Heap} {a : Addr} (q : h.get? a = some (bareS w)) : TxS P w h a [] :=
  ⟨_, #[], 0, _, q, ⟨rfl, rfl, rfl⟩, rfl, ⟨fun e he => (by simp at he), List.Perm.nil, List.nodup_nil⟩, ⟨by decide, by rfl⟩, List.Pairwise.nil, by
    show _ ∨ ledW w = true
    unfold ledW
    cases w.params.followText "set-order"
    · exact .inr rfl
    · exact .inl rfl⟩
theorem tx_at : ∀ {us : List Value} {xs : List Str}, StrsAre us xs → ∀ (i : Nat) (v : Value), us[i]? = some v → ∃ k t, xs[i]? = some k ∧ v = .str k t
  | _, _, .nil, i, v, h => by simp at h
  | _, _, .cons n t hr, 0, v, h => ⟨n, t, rfl, (Option.some.inj h).symm⟩
  | _, _, .cons n t hr, i + 1, v, h => tx_at hr i v h
def txAll (xs : List Str) : List Str := xs.foldl txAdd []
theorem txAll_in : ∀ (xs acc : List Str) (x : Str), x ∈ xs.foldl txAdd acc ↔ x ∈ xs ∨ x ∈ acc
  | [], acc, x => by simp
  | y :: r, acc, x => by
    show x ∈ r.foldl txAdd (txAdd acc y) ↔ _
    rw [txAll_in r (txAdd acc y) x, List.mem_cons]
    have e : x ∈ txAdd acc y ↔ x = y ∨ x ∈ acc := by
      unfold txAdd
      split
      · rename_i hy
        exact ⟨.inr, fun z => z.elim (fun q => q ▸ hy) id⟩
      · exact List.mem_cons
    rw [e]
    constructor
    · rintro (z | z | z)
      · exact .inl (.inr z)
      · exact .inl (.inl z)
      · exact .inr z
    · rintro ((z | z) | z)
      · exact .inr (.inl z)
      · exact .inl z
      · exact .inr (.inr z)
theorem txAll_len : ∀ (xs acc : List Str), (xs.foldl txAdd acc).length ≤ acc.length + xs.length
  | [], acc => Nat.le_refl _
  | y :: r, acc => by
    have q := txAll_len r (txAdd acc y)
    have q2 := txAdd_len acc y
    show (r.foldl txAdd (txAdd acc y)).length ≤ acc.length + (r.length + 1)
    omega
theorem take_step {xs : List Str} {i : Nat} {z : Str} (hz : xs[i]? = some z) : txAll (xs.take (i + 1)) = txAdd (txAll (xs.take i)) z := by
  unfold txAll
  rw [List.take_add_one, hz, List.foldl_append]
  rfl
section
variable {P : Program} {w : World} {A : Around} {E : Value → Shared → Prop} {s : Shared}
theorem tx_loop {I : Addr} {fp wr : List Addr} {G : Array GenState → Array GenState → Prop} {n : Nat} {Pv : Nat → Value → Prop} {St : Nat → Shared → Prop} {R : Result → Shared → Prop}
    (W : WalksS P w A.in1 I fp wr G n Pv St) (S : Addr) (away : S ∉ fp) (xs : List Str) (hn : n = xs.length) (hb : xs.length + 1 < scanBound) (hval : ∀ i v, Pv i v → ∃ k t, xs[i]? = some k ∧ v = .str k t) :
    ∀ (k i : Nat) (s : Shared), n - i = k → i ≤ n → St i s → TxS P w s.heap S (txAll (xs.take i)) →
      (∀ s', Moved (S :: wr) G s s' → TxS P w s'.heap S (txAll xs) → R (.ok (.ret .none)) s') →
      codeAny (model P w) A (.builtin "set.update.loop" ⟨[.ref S, .ref I], []⟩) R s := by
  have nw : S ∉ wr := fun h => away (W.sub _ h)
  have more : ∀ b ∈ wr, b ∈ S :: wr := fun b hb => List.mem_cons_of_mem _ hb
  intro k
  induction k with
  | zero =>
    intro i s hk' hi hst hS hR
    obtain rfl : i = n := by omega
    refine codeAny_builtin F.entry_set_update_loop ?_
    rw [Around.under_plainId F.plain_set_update_loop _]
    show wpAny _ A.in1 (pyNext (.ref I) >>= _) _ _ s
    refine wpAny_bind (W.done s _ _ hst fun s' hm => ?_)
    show wpAny _ A.in1 (ret Value.none) _ _ s'
    rw [List.take_of_length_le (by omega : xs.length ≤ i)] at hS
    exact wpAny_pure (hR s' (hm.mono more) (hS.to fun o e => hm.heap S o nw e))
  | succ k ih =>
    intro i s hk' hi hst hS hR
    have lt : i < n := by omega
    refine codeAny_builtin F.entry_set_update_loop ?_
    rw [Around.under_plainId F.plain_set_update_loop _]
    show wpAny _ A.in1 (pyNext (.ref I) >>= _) _ _ s
    refine wpAny_bind (W.item i s _ _ lt hst fun v s' hP hst' hm => ?_)
    obtain ⟨z, t, hz, rfl⟩ := hval i v hP
    have hS' : TxS P w s'.heap S (txAll (xs.take i)) := hS.to fun o e => hm.heap S o nw e
    show wpAny _ A.in1 (holding [Value.str z t] (setAdd S (.str z t)) >>= _) _ _ s'
    refine wpAny_bind (wpAny_holding ?_)
    unfold setAdd
    refine wpAny_holding ?_
    refine wpAny_bind ((PySem.strKind P w).pyHash (k := z) (PySem.strKind_is _ _ _ _) ?_)
    have few : (txAll (xs.take i)).length + 1 < scanBound := by
      have q := txAll_len (xs.take i) []
      have q2 : (xs.take i).length ≤ xs.length := by rw [List.length_take]; omega
      have q3 : ([] : List Str).length = 0 := rfl
      unfold txAll
      omega
    refine tx_add (s := { s' with toks := s'.toks + 1 }) hS' few fun h' bb hsb hS2 => ?_
    rw [← take_step hz] at hS2
    refine wpAny_pure ⟨plainId_quiet F.plain_set_update_loop _, ih (i + 1) _ (by omega) lt (W.frame _ s' _ _ hst' (Nat.le_succ _) fun b hb o e => ?_) hS2 fun s'' hm'' hS'' => ?_⟩
    · rw [hsb.2 b (fun q : b = S => away (by rw [← q]; exact hb))]; exact e
    · refine hR s'' (Moved.trans W.gtrans ((hm.mono more).then_heap (Nat.le_succ _) fun b o hb e => ?_) hm'') hS''
      rw [hsb.2 b (fun q : b = S => hb (by rw [q]; exact List.mem_cons_self))]; exact e

set_option maxHeartbeats 8000000 in
theorem tx_of_list {l : Addr} {items : Array Value} (xs : List Str) {Q : Value → Shared → Prop} (calm : A.handled = none) (hl : s.heap.IsList l items) (hit : StrsAre items.toList xs) (hb : xs.length + 1 < scanBound)
    (fin : ∀ (hz : Heap) (tk : Nat), TxS P w hz s.heap.objs.size (txAll xs) → (∀ b o, s.heap.get? b = some o → hz.get? b = some o) → Q (.ref s.heap.objs.size) { s with heap := hz, toks := tk }) :
    wpAny (model P w) A (call (.type "set") [.ref l]) Q E s := by
  have hisz : items.size = xs.length := by
    have q := hit.length
    rw [Array.length_toList] at q
    exact q
  obtain ⟨c, tl, hmro⟩ := F.called_set.mro
  have z0 := F.called_set.made
  have z1 := F.called_set.sub
  refine wpAny_call (codeAny_of_tree ?_)
  show wpAny _ _ (callAny (.type "set") _) _ _ _
  refine wpAny_pure ⟨Code.quiet_builtin _ (by decide +kernel), codeAny_builtin F.entry_type_call ?_⟩
  rw [Around.under_plain (weight_type_call_type "set" [.ref l] []) rfl]
  have z2 := F.called_set.notType
  have z3 := F.called_set.canCreate
  have z4 := F.typeCall_set_1 (.ref l)
  repeat (any_goals (first | assumption | wp_step))
  refine codeAny_mono (code_set_led1 (.ref l) (E := E) (Q₁ := fun obj s₁ => obj = .ref s.heap.objs.size ∧ s₁ = { s with heap := putS w s.heap }) ⟨rfl, rfl⟩) fun r s₁ hr => ?_
  cases r with
  | error e => exact hr
  | ok fl =>
    cases fl with
    | ret obj =>
      obtain ⟨rfl, rfl⟩ := hr
      have hS : (putS w s.heap).get? s.heap.objs.size = some (bareS w) := Heap.get?_push_size _ rfl
      have hT : Shared.TypeIs { s with heap := putS w s.heap } (.ref s.heap.objs.size) "set" := ⟨_, hS, rfl⟩
      have z5 := F.called_set.init.lookup
      have z6 := F.called_set.init.bind (.ref s.heap.objs.size)
      repeat (any_goals (first | assumption | wp_step))
      refine codeAny_mono (codeAny_call_builtin (R := wants (fun r s₂ => r = .none ∧ ∃ hz tk, s₂ = { s with heap := hz, toks := tk } ∧ TxS P w hz s.heap.objs.size (txAll xs) ∧
          (∀ b o, s.heap.get? b = some o → hz.get? b = some o)) E) F.called_set.init.plain F.entry_set_init (check_set_init_1 hT ?_)) fun r₂ s₂ hr₂ => ?_
      · obtain ⟨ol, hol, hcl, nl, hdl⟩ := hl
        obtain ⟨oc, od, dt, osl⟩ := ol
        simp only at hcl hdl
        subst hcl
        subst hdl
        have hol' : (putS w s.heap).get? l = some { cls := .type "list", dict := od, data := .seq items nl, slots := osl } := Heap.get?_push_of_some _ hol
        have z7 := F.sub_list_set
        have z8 := F.sub_list_frozenset
        have z9 : (Value.type "list" == Value.type "dict") = false := by decide
        have hl1 : (putS w s.heap).IsList l items := ⟨_, hol', rfl, nl, rfl⟩
        unfold Builtin.«set.__init__» noKeywords Builtin.Frozenset.updateFrom
        generalize hPI : pyIter = PI
        wp_walk
        subst hPI
        refine wpAny_pyIter_list hl1 ?_
        refine wpAny_bind (wpAny_runValue ?_)
        have lt : l < s.heap.objs.size := Heap.lt_size hol
        have calm3 : A.in1.in1.in1.handled = none := by simp [calm]
        have sz1 : (putS w s.heap).objs.size = s.heap.objs.size + 1 := Heap.size_push ..
        have neI : l ≠ (putS w s.heap).objs.size := by
          rw [sz1]
          exact Nat.ne_of_lt (Nat.lt_succ_of_lt lt)
        have away : s.heap.objs.size ∉ [(putS w s.heap).objs.size, l] := by
          rw [sz1]; simp only [List.mem_cons, List.mem_singleton, List.not_mem_nil, or_false, not_or]
          exact ⟨Nat.ne_of_lt (Nat.lt_succ_self _), Nat.ne_of_gt lt⟩
        have hval : ∀ (i : Nat) (v : Value), items[i]? = some v → ∃ k t, xs[i]? = some k ∧ v = .str k t := fun i v hv => by
          have hi : i < xs.length := by rw [← hisz]; exact (Array.getElem?_eq_some_iff.mp hv).1
          exact tx_at hit i v (by rw [Array.getElem?_toList]; exact hv)
        refine tx_loop ((Walks.list calm3 _ l neI items).toS) s.heap.objs.size
          away xs hisz hb hval (items.size - 0) 0 _ (by omega) (Nat.zero_le _)
          ⟨⟨_, Heap.get?_push_size _ rfl, rfl, rfl⟩, (hl1.push _)⟩ ?hS0 ?hR
        case hS0 =>
          exact bare_tx (Heap.get?_push_of_some _ hS)
        case hR =>
          intro s' hm hS'
          obtain ⟨h', g2, d', tk', os'⟩ := s'
          have eg : g2 = s.gens := hm.gens
          have ed : d' = s.drawn := hm.drawn
          have eo : os' = s.os := hm.os
          subst eg; subst ed; subst eo
          show wpAny _ _ _ _ _ _
          refine wpAny_pure ?_
          show wpAny _ _ (ret Value.none) _ _ _
          refine wpAny_pure ⟨rfl, h', tk', rfl, hS', fun b o e => ?_⟩
          have b0 : b < s.heap.objs.size := Heap.lt_size e
          have b1 : b ≠ s.heap.objs.size := Nat.ne_of_lt b0
          have b2 : b ≠ (putS w s.heap).objs.size := by
            rw [sz1]
            exact Nat.ne_of_lt (Nat.lt_succ_of_lt b0)
          exact hm.heap b o (by simp only [List.mem_cons, List.mem_singleton, List.not_mem_nil, or_false, not_or]; exact ⟨b1, b2⟩) (Heap.get?_push_of_some _ (Heap.get?_push_of_some _ e))
      · cases r₂ with
        | error e => exact hr₂
        | ok fl₂ =>
          cases fl₂ with
          | ret r =>
            obtain ⟨rfl, h', tk, rfl, hS', hk'⟩ := hr₂
            repeat (any_goals (first | assumption | wp_step))
            exact fin _ _ hS' hk'
          | _ => exact hr₂.elim
    | _ => exact hr.elim

set_option maxHeartbeats 8000000 in
theorem tx_of_tuple {l : Addr} {items : Array Value} (xs : List Str) {Q : Value → Shared → Prop} (calm : A.handled = none) (hl : s.heap.IsTuple l items) (hit : StrsAre items.toList xs) (hb : xs.length + 1 < scanBound)
    (fin : ∀ (hz : Heap) (tk : Nat), TxS P w hz s.heap.objs.size (txAll xs) → (∀ b o, s.heap.get? b = some o → hz.get? b = some o) → Q (.ref s.heap.objs.size) { s with heap := hz, toks := tk }) :
    wpAny (model P w) A (call (.type "set") [.ref l]) Q E s := by
  have hisz : items.size = xs.length := by
    have q := hit.length
    rw [Array.length_toList] at q
    exact q
  obtain ⟨c, tl, hmro⟩ := F.called_set.mro
  have z0 := F.called_set.made
  have z1 := F.called_set.sub
  refine wpAny_call (codeAny_of_tree ?_)
  show wpAny _ _ (callAny (.type "set") _) _ _ _
  refine wpAny_pure ⟨Code.quiet_builtin _ (by decide +kernel), codeAny_builtin F.entry_type_call ?_⟩
  rw [Around.under_plain (weight_type_call_type "set" [.ref l] []) rfl]
  have z2 := F.called_set.notType
  have z3 := F.called_set.canCreate
  have z4 := F.typeCall_set_1 (.ref l)
  repeat (any_goals (first | assumption | wp_step))
  refine codeAny_mono (code_set_led1 (.ref l) (E := E) (Q₁ := fun obj s₁ => obj = .ref s.heap.objs.size ∧ s₁ = { s with heap := putS w s.heap }) ⟨rfl, rfl⟩) fun r s₁ hr => ?_
  cases r with
  | error e => exact hr
  | ok fl =>
    cases fl with
    | ret obj =>
      obtain ⟨rfl, rfl⟩ := hr
      have hS : (putS w s.heap).get? s.heap.objs.size = some (bareS w) := Heap.get?_push_size _ rfl
      have hT : Shared.TypeIs { s with heap := putS w s.heap } (.ref s.heap.objs.size) "set" := ⟨_, hS, rfl⟩
      have z5 := F.called_set.init.lookup
      have z6 := F.called_set.init.bind (.ref s.heap.objs.size)
      repeat (any_goals (first | assumption | wp_step))
      refine codeAny_mono (codeAny_call_builtin (R := wants (fun r s₂ => r = .none ∧ ∃ hz tk, s₂ = { s with heap := hz, toks := tk } ∧ TxS P w hz s.heap.objs.size (txAll xs) ∧
          (∀ b o, s.heap.get? b = some o → hz.get? b = some o)) E) F.called_set.init.plain F.entry_set_init (check_set_init_1 hT ?_)) fun r₂ s₂ hr₂ => ?_
      · obtain ⟨ol, hol, hcl, nl, hdl⟩ := hl
        obtain ⟨oc, od, dt, osl⟩ := ol
        simp only at hcl hdl
        subst hcl
        subst hdl
        have hol' : (putS w s.heap).get? l = some { cls := .type "tuple", dict := od, data := .seq items nl, slots := osl } := Heap.get?_push_of_some _ hol
        have z7 := F.sub_tuple_set
        have z8 := F.sub_tuple_frozenset
        have z9 : (Value.type "tuple" == Value.type "dict") = false := by decide
        have hl1 : (putS w s.heap).IsTuple l items := ⟨_, hol', rfl, nl, rfl⟩
        unfold Builtin.«set.__init__» noKeywords Builtin.Frozenset.updateFrom
        generalize hPI : pyIter = PI
        wp_walk
        subst hPI
        refine wpAny_pyIter_tuple hl1 ?_
        refine wpAny_bind (wpAny_runValue ?_)
        have lt : l < s.heap.objs.size := Heap.lt_size hol
        have calm3 : A.in1.in1.in1.handled = none := by simp [calm]
        have sz1 : (putS w s.heap).objs.size = s.heap.objs.size + 1 := Heap.size_push ..
        have neI : l ≠ (putS w s.heap).objs.size := by
          rw [sz1]
          exact Nat.ne_of_lt (Nat.lt_succ_of_lt lt)
        have away : s.heap.objs.size ∉ [(putS w s.heap).objs.size, l] := by
          rw [sz1]; simp only [List.mem_cons, List.mem_singleton, List.not_mem_nil, or_false, not_or]
          exact ⟨Nat.ne_of_lt (Nat.lt_succ_self _), Nat.ne_of_gt lt⟩
        have hval : ∀ (i : Nat) (v : Value), items[i]? = some v → ∃ k t, xs[i]? = some k ∧ v = .str k t := fun i v hv => by
          have hi : i < xs.length := by rw [← hisz]; exact (Array.getElem?_eq_some_iff.mp hv).1
          exact tx_at hit i v (by rw [Array.getElem?_toList]; exact hv)
        refine tx_loop ((Walks.tuple calm3 _ l neI items).toS) s.heap.objs.size
          away xs hisz hb hval (items.size - 0) 0 _ (by omega) (Nat.zero_le _)
          ⟨⟨_, Heap.get?_push_size _ rfl, rfl, rfl⟩, (hl1.push _)⟩ ?hS0 ?hR
        case hS0 =>
          exact bare_tx (Heap.get?_push_of_some _ hS)
        case hR =>
          intro s' hm hS'
          obtain ⟨h', g2, d', tk', os'⟩ := s'
          have eg : g2 = s.gens := hm.gens
          have ed : d' = s.drawn := hm.drawn
          have eo : os' = s.os := hm.os
          subst eg; subst ed; subst eo
          show wpAny _ _ _ _ _ _
          refine wpAny_pure ?_
          show wpAny _ _ (ret Value.none) _ _ _
          refine wpAny_pure ⟨rfl, h', tk', rfl, hS', fun b o e => ?_⟩
          have b0 : b < s.heap.objs.size := Heap.lt_size e
          have b1 : b ≠ s.heap.objs.size := Nat.ne_of_lt b0
          have b2 : b ≠ (putS w s.heap).objs.size := by
            rw [sz1]
            exact Nat.ne_of_lt (Nat.lt_succ_of_lt b0)
          exact hm.heap b o (by simp only [List.mem_cons, List.mem_singleton, List.not_mem_nil, or_false, not_or]; exact ⟨b1, b2⟩) (Heap.get?_push_of_some _ (Heap.get?_push_of_some _ e))
      · cases r₂ with
        | error e => exact hr₂
        | ok fl₂ =>
          cases fl₂ with
          | ret r =>
            obtain ⟨rfl, h', tk, rfl, hS', hk'⟩ := hr₂
            repeat (any_goals (first | assumption | wp_step))
            exact fin _ _ hS' hk'
          | _ => exact hr₂.elim
    | _ => exact hr.elim

theorem strs_good : ∀ (l : List Value), (∀ v ∈ l, ∃ x tk, v = Value.str x tk) → StrsAre l (l.map strOf)
  | [], _ => .nil
  | v :: l, h => by
    obtain ⟨x, tk, rfl⟩ := h v List.mem_cons_self
    exact .cons x tk (strs_good l fun u hu => h u (List.mem_cons_of_mem _ hu))
theorem tx_sorted {a : Addr} {xs : List Str} {Q : Value → Shared → Prop} (R : TxS P w s.heap a xs) (calm : A.handled = none) (h64 : xs.length < 64)
    (fin : ∀ s' p (out : Array Value) (c : Nat) (ys : List Str), (∀ b o, s.heap.get? b = some o → s'.heap.get? b = some o) → s'.gens = s.gens → s'.os = s.os → s.heap.objs.size ≤ p →
      s'.heap.get? p = some (seqObj "list" out c) → StrsAre out.toList ys → sortedS ys = true → ys.Perm xs → Q (.ref p) s') :
    wpAny (model P w) A (call (.builtin "sorted") [.ref a]) Q E s := by
  obtain ⟨o, es, ep, t, q0, q1, q2, q3, ⟨q4, q5⟩, q6, q7⟩ := R
  refine Calls.call_function_entry kind_sorted plain_sorted entry_sorted (args_sorted1 _) ?_
  unfold Builtin.«sorted»
  refine wpAny_bind (m := checkCount "sorted" 1 1 _) (wpAny_pure ?_)
  refine wpAny_bind (collect_set (A := A.in1) calm ⟨o, q0, q1.1, q2⟩ q5 q4 q6 q7 fun s1 vs k1 hz g1 o1 pm => ?_)
  have few : vs.length < 64 := by
    rw [pm.length_eq, List.length_map, Array.length_toList, q3.size]
    exact h64
  have hI : StrsAre vs (vs.map strOf) := strs_good vs fun v hv => by
    obtain ⟨e, he, q⟩ := List.mem_map.mp (pm.mem_iff.mp hv)
    obtain ⟨x, tk, h1, _⟩ := q3.good e he
    exact ⟨x, tk, by rw [← q]; exact h1⟩
  have pk : (vs.map strOf).Perm xs := by
    have q := pm.map strOf
    rw [List.map_map] at q
    have e : es.toList.map (strOf ∘ fun x => x.2) = es.toList.map txK := List.map_congr_left fun e he => by
      obtain ⟨x, tk, h1, _⟩ := q3.good e he
      show strOf e.2 = txK e
      unfold txK
      rw [h1]
      rfl
    rw [e] at q
    exact q.trans q3.perm
  refine wpAny_bind (wpAny_newList ?_ (by rw [sizeLine_eq]; omega))
  have oL : (s1.heap.push (seqObj "list" vs.toArray 0)).get? s1.heap.objs.size = some (seqObj "list" vs.toArray 0) := Heap.get?_push_size _ rfl
  refine wpAny_bind (wpAny_holding (wpAny_call_entry slot_list_sort ⟨_, oL, rfl⟩ entry_list_sort
    (list_sort_treeK PyProof.Rows.strKind_oneLt oL hI.keysOf (fun v₁ v₂ rest e => keyKind_strs (by rw [← e]; exact hI)) few fun st' hp hs => ⟨_, rfl, ?_⟩) (args_list_sort _)))
  obtain ⟨ys, a1, a2, a3⟩ := sorted_out_str hI hp hs
  obtain ⟨c, hc⟩ := sortedHeap_at (vs := vs) (out := (arrOf st').map (·.2)) oL
  refine wpAny_pure ⟨_, rfl, fin _ s1.heap.objs.size _ c ys (fun b u e => ?_) g1 o1 hz hc a1 a3 (a2.trans pk)⟩
  have q := k1 b u e
  have lt := Heap.lt_size q
  show (sortedHeap (s1.heap.push (seqObj "list" vs.toArray 0)) s1.heap.objs.size vs ((arrOf st').map (·.2))).get? b = some u
  rw [sortedHeap_old (Nat.ne_of_lt lt) (by rw [Heap.size_push]; exact Nat.lt_succ_of_lt lt)]
  exact Heap.get?_push_of_some _ q
end
/-! ### over the layer -/
def TxO (P : Program) (w : World) (a : Addr) (xs : List Str) : HO := .ext fun h => TxS P w h a xs
section
variable {X : Cx}
theorem txO_ok {P : Program} {w : World} {H : Hp} {h : Heap} {a : Addr} {xs : List Str} (R : TxS P w h a xs) : ObjOk P w H h a (TxO P w a xs) := by
  have ⟨o, _, _, _, ho, _⟩ := R
  exact ⟨R, ⟨o, ho⟩, fun h1 h2 p k => TxS.to p k⟩
def rSetTx (X : Cx) : List V → Hp → VK → Prop := fun vs H Q => ∃ (l : Addr) (xs : List Str), vs = [V.ref l] ∧ (SqL X.K H l (xs.map V.str) ∨ SqT X.K H l (xs.map V.str)) ∧ xs.length < 64 ∧
  ∀ a, H a = none → Q (.ref a) (upd H a (TxO X.prog X.w a (txAll xs)))
theorem cr_setTx (hc : X.calm = true) : CallR X (.type "set") (rSetTx X) := by
  intro pins s σ H vs us Q I r h
  obtain ⟨l, xs, rfl, hl, h64, q⟩ := h
  rw [Vals.ref1 r]
  have hn : H s.heap.objs.size = none := I.hok.fresh (Nat.le_refl _)
  have sb : xs.length + 1 < scanBound := by unfold scanBound; omega
  rcases hl with hl | hl
  · obtain ⟨its, rv, pl, hz⟩ := I.list hl
    refine tx_of_list (P := X.prog) (w := X.w) xs (I.ok.hd hc) pl.isList (by simpa using rv.strs) sb fun h' tk R k => ?_
    exact ⟨.ref s.heap.objs.size, upd H s.heap.objs.size (TxO X.prog X.w s.heap.objs.size (txAll xs)), I.laid (t' := tk) k (Nat.le_refl _) (txO_ok R), rfl, q _ hn⟩
  · obtain ⟨its, rv, ⟨o, ho, hcl, n, hd⟩, _⟩ := I.tuple hl
    refine tx_of_tuple (P := X.prog) (w := X.w) xs (I.ok.hd hc) (items := its.toArray) ⟨o, ho, hcl, n, hd⟩ (by simpa using rv.strs) sb fun h' tk R k => ?_
    exact ⟨.ref s.heap.objs.size, upd H s.heap.objs.size (TxO X.prog X.w s.heap.objs.size (txAll xs)), I.laid (t' := tk) k (Nat.le_refl _) (txO_ok R), rfl, q _ hn⟩
def rSortTx (X : Cx) : List V → Hp → VK → Prop := fun vs H Q => ∃ (a : Addr) (xs : List Str), vs = [V.ref a] ∧ H a = some (TxO X.prog X.w a xs) ∧ xs.length < 64 ∧
  ∀ (ys : List Str) (p : Addr), ys.Perm xs → sortedS ys = true → xs.Nodup → H p = none → Q (.ref p) (upd H p (.lst (ys.map V.str)))
theorem cr_sortTx (hc : X.calm = true) : CallR X (.builtin "sorted") (rSortTx X) := by
  intro pins s σ H vs us Q I r h
  obtain ⟨a, xs, rfl, ha, h64, q⟩ := h
  have R : TxS X.prog X.w s.heap a xs := (I.hok a _ ha).1
  have nd : xs.Nodup := by
    obtain ⟨_, _, _, _, _, _, _, q3, _⟩ := R
    exact q3.nd
  rw [Vals.ref1 r]
  refine tx_sorted R (I.ok.hd hc) h64 fun s' p out c ys k g o hp hg hi hs hm => ?_
  have hlen : (ys.map V.str).length ≤ sizeLine := by
    rw [List.length_map, hm.length_eq, sizeLine_eq]
    omega
  have hn : H p = none := I.hok.fresh hp
  have J : Inv X pins σ (upd H p (.lst (ys.map V.str))) { s with heap := s'.heap, gens := s'.gens, drawn := s'.drawn, toks := s'.toks } :=
    I.call (ch := []) (Un.laid k hp hn) (I.hok.laid k hp ⟨hlen, out.toList, c, vals_of_strs hi, hg⟩) (by rw [g]; exact I.bare) (fun _ z => nomatch z)
  have e : s' = { s with heap := s'.heap, gens := s'.gens, drawn := s'.drawn, toks := s'.toks } := by
    obtain ⟨b0, b1, b2, b3, b4⟩ := s'
    obtain ⟨c0, c1, c2, c3, c4⟩ := s
    cases o
    rfl
  rw [e]
  exact ⟨.ref p, _, J, rfl, q ys p hm hs nd hn⟩
end
end Jd
/-! try: .. except (A, B, ..) as e: suite, where the error outlives the suite: it is tracked behind it. -/
namespace Jd
open PySem PySem.Spec PyProof.Rows L2
/-- an error object at a: its class, its own dict -/
def ErO (cls : Value) (d : Option Addr) (a : Addr) : HO := .ext fun h => ∃ (oe : Obj) (vs : Array Value), h.get? a = some oe ∧ Zc cls d oe ∧ oe.data = .fields vs
theorem erO_ok {P : Program} {w : World} {H : Hp} {h : Heap} {a : Addr} {cls : Value} {d : Option Addr} {oe : Obj} {vs : Array Value} (q : h.get? a = some oe) (z : Zc cls d oe) (dt : oe.data = .fields vs) : ObjOk P w H h a (ErO cls d a) :=
  ⟨⟨oe, vs, q, z, dt⟩, ⟨oe, q⟩, fun _ _ ⟨o, v, r0, r1⟩ k => ⟨o, v, k o r0, r1⟩⟩
theorem flyZ_more {B : Heap} {l : List Env} {e : Addr} {Z : Obj → Prop} {h h' : Heap} (R : HandSPX.FlyingZ B l e Z h) (k : ∀ b o, h.get? b = some o → h'.get? b = some o) : HandSPX.FlyingZ B l e Z h' := by
  obtain ⟨f1, f2, f3, oe, vs, T, oT, ts, q0, q1, q2, q3, q4, q5, q6, q7⟩ := R
  exact ⟨fun b o q => k b o (f1 b o q), f2, f3.of_keeps fun b o q _ => ⟨o, k b o q, rfl⟩, oe, vs, T, oT, ts, k _ _ q0, q1, q2, q3, q4, q5, k _ _ q6, q7⟩
section
variable {X : Cx} {pins : List (Addr × Obj)} {σ : L2.St} {H : Hp} {s : Shared}
/-- an object that stands untracked in the heap is tracked from now on -/
theorem Inv_track {a : Addr} {oe : Obj} {o : HO} (I : Inv X pins σ H s) (he : s.heap.get? a = some oe) (na : H a = none) (n0 : X.s_0.heap.get? a = none) (np : ∀ p ∈ X.pn ++ pins, p.1 ≠ a) (nL : a ≠ X.env.locals)
    (nc : ∀ v, oe.data ≠ .cell v) (new : ObjOk X.prog X.w (upd H a o) s.heap a o) : Inv X pins σ (upd H a o) s := by
  have ne0 : ∀ {b : Addr} {ob : Obj}, X.s_0.heap.get? b = some ob → b ≠ a := fun {b ob} q z => by
    rw [z, n0] at q
    cases q
  have neS : ∀ {b : Addr} {u : HO}, H b = some u → b ≠ a := fun {b u} q z => by
    rw [z, na] at q
    cases q
  have nce : ∀ x c, X.env.cells.lookup x = some c → c ≠ a := fun x c q z => by
    obtain ⟨v, ob, r0, r1⟩ := I.cell x c q
    rw [z, he] at r0
    cases r0
    exact nc v r1
  refine ⟨I.ok, I.os, I.bare, ⟨I.base.keep, I.base.slot, fun b ob q n hx => ?_, I.base.there, fun b xs q => ?_, fun b ob u q => ?_, fun b ps q => ?_⟩, I.loc, I.cell, ?_, fun x c q => ?_, fun p hp => ?_, fun b u q => ?_, I.len⟩
  · rw [upd_ne (ne0 q)]
    exact I.base.free b ob q n hx
  · have r := I.base.tups b xs q
    rw [upd_ne (neS r)]
    exact r
  · have r := I.base.frzs b ob u q
    rw [upd_ne (neS r)]
    exact r
  · obtain ⟨m, r⟩ := I.base.tbls b ps q
    exact ⟨m, by rw [upd_ne (neS r)]; exact r⟩
  · rw [upd_ne nL.symm]
    exact I.free
  · rw [upd_ne (nce x c q)]
    exact I.freeC x c q
  · obtain ⟨r0, r1, r2⟩ := I.pin p hp
    exact ⟨r0, by rw [upd_ne (np p hp)]; exact r1, r2⟩
  · by_cases hb : b = a
    · subst hb
      rw [upd_same] at q
      cases q
      exact new
    · rw [upd_ne hb] at q
      exact (I.hok b u q).stay (fun c v _ r => r) (fun c r => by rw [upd_ne (neS r)]; exact r) fun c xs r => by rw [upd_ne (neS r)]; exact r
end
/-- what an except clause's tuple of classes is worth -/
def HTest (X : Cx) (t : Expr) (cs : List Value) : Prop := ∀ (a : Addr) (oe : Obj) (pn pins : List (Addr × Obj)) (σ : L2.St) (H : Hp) (s : Shared) (b : Bool) (Q : Bool → Shared → Prop) (E : Value → Shared → Prop),
  Inv (X.suite a pn) pins σ H s → s.heap.get? a = some oe → PySem.W.exmAny X.K oe.cls cs = some b → (∀ hz, (∀ q o, s.heap.get? q = some o → hz.get? q = some o) → Q b { s with heap := hz }) →
  wpAny (model X.prog X.w) (X.A.mark (some (.ref a))) (eval t X.env) (fun c s₁ => wpAny (model X.prog X.w) (X.A.mark (some (.ref a))) (excMatches (.ref a) c) Q E s₁) E s
theorem names_ev {X : Cx} {x : Str} {c : Value} {a : Addr} {pn pins : List (Addr × Obj)} {σ : L2.St} {H : Hp} {s : Shared} {np : Pos} {Q : Value → Shared → Prop} {E : Value → Shared → Prop} (n : Names X x c) (I : Inv (X.suite a pn) pins σ H s) (q : Q c s) :
    wpAny (model X.prog X.w) (X.A.mark (some (.ref a))) (eval (.Name x np) X.env) Q E s := by
  obtain ⟨hg, hdbg, hm | ⟨hm, hv, hnn⟩⟩ := n
  · exact ld_glob (X := X.suite a pn) I hg hm q hdbg
  · exact ld_blt (X := X.suite a pn) I hg hm hv q hnn hdbg
theorem htest2 {X : Cx} {x1 x2 : Str} {c1 c2 : Value} {p1 p2 tp : Pos} {kk : Nat} (n1 : Names X x1 c1) (n2 : Names X x2 c2) : HTest X (.Tuple [.Name x1 p1, .Name x2 p2] kk tp) [c1, c2] := by
  intro a oe pn pins σ H s b Q E I he hx q
  refine wpAny_Tuple (wpAny_items_cons (names_ev (pn := pn) (pins := pins) (σ := σ) (H := H) n1 I (wpAny_items_cons (names_ev (pn := pn) (pins := pins) (σ := σ) (H := H) n2 I (wpAny_items_nil ⟨(by show 2 ≤ sizeLine; decide), ?_⟩)))))
  have kp : ∀ q o, s.heap.get? q = some o → (s.heap.push { cls := .type "tuple", data := .seq [c1, c2].toArray }).get? q = some o := fun _ _ z => Heap.get?_push_of_some _ z
  have LT : PySem.W.Looks (model X.prog X.w) s.heap (typeOf (.ref a)) oe.cls := fun A Q E s k q => wpAny_typeOf_ref (k _ _ he) q
  exact (PySem.W.exm_tup2 (I.kIn.keeps kp) (LT.keeps kp) (Heap.get?_push_size s.heap rfl) hx).here (q _ kp)
theorem htest3 {X : Cx} {x1 x2 x3 : Str} {c1 c2 c3 : Value} {p1 p2 p3 tp : Pos} {kk : Nat} (n1 : Names X x1 c1) (n2 : Names X x2 c2) (n3 : Names X x3 c3) : HTest X (.Tuple [.Name x1 p1, .Name x2 p2, .Name x3 p3] kk tp) [c1, c2, c3] := by
  intro a oe pn pins σ H s b Q E I he hx q
  refine wpAny_Tuple (wpAny_items_cons (names_ev (pn := pn) (pins := pins) (σ := σ) (H := H) n1 I (wpAny_items_cons (names_ev (pn := pn) (pins := pins) (σ := σ) (H := H) n2 I (wpAny_items_cons (names_ev (pn := pn) (pins := pins) (σ := σ) (H := H) n3 I (wpAny_items_nil ⟨(by show 3 ≤ sizeLine; decide), ?_⟩)))))))
  have kp : ∀ q o, s.heap.get? q = some o → (s.heap.push { cls := .type "tuple", data := .seq [c1, c2, c3].toArray }).get? q = some o := fun _ _ z => Heap.get?_push_of_some _ z
  have LT : PySem.W.Looks (model X.prog X.w) s.heap (typeOf (.ref a)) oe.cls := fun A Q E s k q => wpAny_typeOf_ref (k _ _ he) q
  exact (PySem.W.exm_tup3 (I.kIn.keeps kp) (LT.keeps kp) (Heap.get?_push_size s.heap rfl) hx).here (q _ kp)
theorem htest4 {X : Cx} {x1 x2 x3 x4 : Str} {c1 c2 c3 c4 : Value} {p1 p2 p3 p4 tp : Pos} {kk : Nat} (n1 : Names X x1 c1) (n2 : Names X x2 c2) (n3 : Names X x3 c3) (n4 : Names X x4 c4) :
    HTest X (.Tuple [.Name x1 p1, .Name x2 p2, .Name x3 p3, .Name x4 p4] kk tp) [c1, c2, c3, c4] := by
  intro a oe pn pins σ H s b Q E I he hx q
  refine wpAny_Tuple (wpAny_items_cons (names_ev (pn := pn) (pins := pins) (σ := σ) (H := H) n1 I (wpAny_items_cons (names_ev (pn := pn) (pins := pins) (σ := σ) (H := H) n2 I (wpAny_items_cons (names_ev (pn := pn) (pins := pins) (σ := σ) (H := H) n3 I (wpAny_items_cons (names_ev (pn := pn) (pins := pins) (σ := σ) (H := H) n4 I (wpAny_items_nil ⟨(by show 4 ≤ sizeLine; decide), ?_⟩)))))))))
  have kp : ∀ q o, s.heap.get? q = some o → (s.heap.push { cls := .type "tuple", data := .seq [c1, c2, c3, c4].toArray }).get? q = some o := fun _ _ z => Heap.get?_push_of_some _ z
  have LT : PySem.W.Looks (model X.prog X.w) s.heap (typeOf (.ref a)) oe.cls := fun A Q E s k q => wpAny_typeOf_ref (k _ _ he) q
  exact (PySem.W.exm_tup4 (I.kIn.keeps kp) (LT.keeps kp) (Heap.get?_push_size s.heap rfl) hx).here (q _ kp)
/-- what the clause wishes of an exception of the body: slot i is the error's name; behind the suite the error stands tracked -/
def wErr (K : PySem.W.Frag) (cs : List Value) (i : Nat) (ts : Addr → Value → Option Addr → TS) (Wout : WX) (D : Ends) : WX := fun cls d σ H =>
  ∃ b, PySem.W.exmAny K cls cs = some b ∧ (b = true → ∀ a, H a = none → ts a cls d { nx := fun σ' H' => H' a = none → D.nx (σ'.set i none) (upd H' a (ErO cls d a)), rt := D.rt, bk := fun σ' H' => D.bk (σ'.set i none) H', ct := fun σ' H' => D.ct (σ'.set i none) H' } (σ.set i (some (.ref a))) H) ∧
    (b = false → Wout cls d σ H)
section
variable {X : Cx} {n : Str} {t : Expr} {cs : List Value} {i : Nat} {body suite : List Stmt} {b₀ : Stmt} {pos pos' : Pos} {tb : WX → TS} {ts : Addr → Value → Option Addr → TS} {Wout : WX}
theorem ps_try_err (hs : X.stack = X.env :: X.outer) (hf : X.env.frame = some X.env.locals) (hex : X.ex = []) (hN : X.N.Nodup) (hi : X.N[i]? = some n) (hln : X.env.kindOf n = some .local) (hc : HTest X t cs) (tk : Takes X Wout)
    (hb : ∀ (W : WX) (pn : List (Addr × Obj)) (xe : Value → Shared → Prop), Takes (X.tr pn xe) W → PassesOwn (model X.prog X.w) X.A X.env xe → PSs (X.tr pn xe) body (tb W))
    (hsu : ∀ (a : Addr) (oe : Obj) (cls : Value) (d : Option Addr) (pn : List (Addr × Obj)), Zc cls d oe → (∃ vs, oe.data = .fields vs) → PSs (X.suite a ((a, oe) :: pn)) (b₀ :: suite) (ts a cls d)) :
    PS X (.Try body [.ExceptHandler (some t) (some n) (b₀ :: suite) pos'] [] [] pos) (fun D σ H => tb (wErr X.K cs i ts Wout D) D σ H) := by
  refine ⟨fun pins s σ H D I h => ?_⟩
  have ok := I.ok
  have loc : Loc X.env.scope n := .inl hln
  have frm : X.A.frames = some (X.env :: X.outer) := by rw [ok.frames, hs]
  refine wpAny_Try_except ?_
  refine wpAny_mono ((hb (wErr X.K cs i ts Wout D) (X.pn ++ pins) (fun e s₁ => wpAny (model X.prog X.w) X.A (noteFrame e X.env) (fun _ s₂ => wpAny (model X.prog X.w) X.A (setFlight e none) (fun _ s₃ =>
    wpAny (model X.prog X.w) X.A (handleBy e X.env [.ExceptHandler (some t) (some n) (b₀ :: suite) pos']) (SP X pins D) X.xe s₃) X.xe s₂) X.xe s₁) (fun u s' xx => ?_) PassesOwn.looking).run [] s σ H D (I.toTry _) h) (fun f s1 hsp => ?_) (fun e s1 he => he)
  · obtain ⟨a, B, sI, pins', σ', H', cls, d, rfl, J', nb, up, sky, na, os, ag, b, w1, w2, w3⟩ := xx
    have J : Inv X pins σ' H' sI := J'.ofTry ok
    have sk : Sky B (X.env :: X.outer) a (Zc cls d) X.env.locals s'.heap := by rw [← hs]; exact sky
    show wpAny (model X.prog X.w) X.A (noteFrame (.ref a) X.env) _ _ _
    refine Sky.land Zc.steady frm hf sk fun h3 fl3 up3 => ?_
    have J3 : Inv X pins σ' H' { s' with heap := h3 } := J.landed nb fl3.1 (up.trans up3) os ag
    obtain ⟨oe3, vs3, he3, hz3, hd3⟩ := fl3.there
    have nfr : a ∉ frs (X.env :: X.outer) := fun hm => by
      obtain ⟨_, o', e', nf⟩ := fl3.2.2.1.mem hm
      rw [he3] at e'
      cases e'
      exact nf _ hd3
    have nL : a ≠ X.env.locals := fun z => nfr (List.mem_filterMap.mpr ⟨X.env, List.mem_cons_self, by rw [hf, z]⟩)
    have nF : a ∉ X.fs := fun hm => by
      obtain ⟨e, he, q⟩ := List.mem_filterMap.mp hm
      exact nfr (List.mem_filterMap.mpr ⟨e, List.mem_cons_of_mem _ he, q⟩)
    have nI : sI.heap.get? a = none := by
      cases q : sI.heap.get? a with
      | none => rfl
      | some o =>
        have r := nb a o q (by rw [hs]; exact nfr)
        rw [fl3.2.1] at r
        cases r
    have n0 : X.s_0.heap.get? a = none := by
      cases q : X.s_0.heap.get? a with
      | none => rfl
      | some o =>
        obtain ⟨o', r⟩ := J.base.there a o q (by rw [hex]; exact fun z => nomatch z)
        rw [nI] at r
        cases r
    have np : ∀ p ∈ X.pn ++ pins, p.1 ≠ a := fun p hp z => by
      have r := (J.pin p hp).1
      rw [z, nI] at r
      cases r
    have S3 := J3.suite he3 hd3 na nL nF
    refine wpAny_handleBy_cons (codeAny_handlers_test (hc a oe3 ((a, oe3) :: (X.pn ++ pins)) [] σ' H' _ b _ _ S3 he3 (by rw [hz3.1]; exact w1) fun h5 k5 => ?_)) (by intro q; cases q)
    have fl5 : HandSPX.FlyingZ B (X.env :: X.outer) a (Zc cls d) h5 := flyZ_more fl3 k5
    have up5 : h3.UpToSlots h5 := Heap.UpToSlots.of_keeps k5
    cases b with
    | true =>
      refine codeAny_handlers_suite_as ?_
      refine HandSPX.lands_againZ fl5 fun h4 fl4 up4 => ?_
      have J4 : Inv X pins σ' H' { s' with heap := h4 } := J.landed nb fl4.1 (((up.trans up3).trans up5).trans up4) os ag
      obtain ⟨oe4, vs4, he4, hz4, hd4⟩ := fl4.there
      have S4 := J4.suite he4 hd4 na nL nF
      refine store_ok (X := X.suite a ((a, oe4) :: (X.pn ++ pins))) (v := .ref a) S4 hN hi loc rfl (fun s5 S5 => ?_) (.inr hln)
      refine wpAny_mono ((hsu a oe4 cls d (X.pn ++ pins) hz4 ⟨_, hd4⟩).run [] s5 _ H' _ S5 (w2 rfl a na)) (fun f s6 hsp => ?_) (fun _ _ z => False.elim z)
      have gone : ∀ {σ6 : L2.St} {H6 : Hp} {Q : Shared → Prop}, Inv X pins σ6 H6 s6 → (∀ s7, Inv X pins (σ6.set i none) H6 s7 → Q s7) →
          wpAny (model X.prog X.w) X.A (do bindName X.env n .none; unbindBehindTheSuite X.env n pos') (fun _ s7 => Q s7) X.xe s6 := fun {σ6 H6 Q} S6 hq => gone_ok S6 hN hi hln hq
      cases f with
      | next =>
        obtain ⟨σ6, H6, S6, q6⟩ := hsp
        obtain ⟨r0, r1, _⟩ := S6.pin (a, oe4) (List.mem_append_left _ List.mem_cons_self)
        have S7 := Inv_track (o := ErO cls d a) (S6.unsuite ok) r0 r1 n0 np nL (fun v z => by have z' : oe4.data = .cell v := z; rw [hd4] at z'; cases z') (erO_ok r0 hz4 hd4)
        exact gone S7 fun s7 J7 => ⟨_, _, J7, q6 r1⟩
      | brk =>
        obtain ⟨σ6, H6, S6, q6⟩ := hsp
        exact gone (S6.unsuite ok) fun s7 J7 => ⟨_, _, J7, q6⟩
      | cont =>
        obtain ⟨σ6, H6, S6, q6⟩ := hsp
        exact gone (S6.unsuite ok) fun s7 J7 => ⟨_, _, J7, q6⟩
      | ret u =>
        obtain ⟨v6, σ6, H6, S6, r6, q6⟩ := hsp
        exact gone (S6.unsuite ok) fun s7 J7 => ⟨_, _, _, J7, r6, q6⟩
    | false =>
      show wpAny _ X.A (handleBy (.ref a) X.env []) _ _ _
      refine wpAny_handleBy_nil ?_
      obtain ⟨k1, k2, k3, oe, vs, T, oT, ts', g0, g1, g2, g3, gr⟩ := id fl5
      unfold PySem.passOn
      refine wpAny_bind (wpAny_field g0 g2 g3 ?_)
      rw [if_neg (show ¬ ((Value.ref T == Value.none) = true) from by simp)]
      have last : wpAny (model X.prog X.w) X.A (setFlight (.ref a) X.env.frame) (fun _ s4 => wpAny (model X.prog X.w) X.A (throw (.ref a) : Sem Flow) (SP X pins D) X.xe s4) X.xe { s' with heap := h5 } := by
        rw [hf]
        refine HandSPX.setFlight_upZ fl5 fun h4 hh4 up4 => wpAny_throw (tk _ _ ?_)
        exact ⟨a, B, sI, pins, σ', H', cls, d, rfl, J, nb, ((up.trans up3).trans up5).trans up4, .inr (.inr (by rw [hs]; exact hh4)), na, os, ag, w3 rfl⟩
      first
        | exact wpAny_bind (wpAny_pure (wpAny_bind last))
        | exact wpAny_bind last
  · cases f with
    | next =>
      obtain ⟨σ', H', J', q⟩ := hsp
      exact wpAny_execs_nil ⟨σ', H', J'.ofTry ok, q⟩
    | brk =>
      obtain ⟨σ', H', J', q⟩ := hsp
      exact ⟨σ', H', J'.ofTry ok, q⟩
    | cont =>
      obtain ⟨σ', H', J', q⟩ := hsp
      exact ⟨σ', H', J'.ofTry ok, q⟩
    | ret u =>
      obtain ⟨v, σ', H', J', r, q⟩ := hsp
      exact ⟨v, σ', H', J'.ofTry ok, r, q⟩
end
/-! ### the error behind the suite: its field, isinstance -/
/-- e.f, e an error that is tracked -/
def tErF (K : PySem.W.Frag) (f : Str) (te : TE) : TE := fun σ H Q => te σ H fun x H1 => ∃ (a C dd : Addr) (fs : List (Str × V)) (v : V), x = .ref a ∧ H1 a = some (ErO (.ref C) (some dd) a) ∧ XfC K C ∧ PySem.W.findIn K (.ref C) f = some none ∧
  H1 dd = some (.xd fs) ∧ fs.lookup f = some v ∧ Q v H1
theorem pe_erF {X : Cx} {e : Expr} {te : TE} {pos : Pos} {f : Str} (he : PE X e te) (hb : attributeBase e f X.env (eval e X.env) = eval e X.env := by rfl) : PE X (.Attribute e f pos) (tErF X.K f te) := by
  refine ⟨fun pins s σ H Q I h => ?_⟩
  refine attr_of hb (thn (he.run pins s σ H _ I h) fun u s1 hh => ?_)
  obtain ⟨x, H1, I1, rx, a, C, dd, fs, v, ex, ea, T, hno, ed, l, q⟩ := hh
  subst ex
  obtain rfl : u = Value.ref a := rx
  obtain ⟨oe, vs, r0, r1, r2⟩ := (I1.hok a _ ea).1
  have hx : ObjOk X.prog X.w H1 s1.heap dd (.xd fs) := I1.hok dd _ ed
  obtain ⟨mA, hns, hr⟩ := hx
  obtain ⟨od, ho, hl⟩ := lookIn_ns hns
  obtain ⟨u, hu, ru⟩ := RelO.some_of (v := v) (o := mA f) (by rw [← l]; exact hr f)
  have J : PySem.W.InstAt s1.heap a oe C (some od) := ⟨r0, r1.1, by unfold PySem.W.notCls; rw [r2] <;> rfl, by rw [r1.2]; exact ho⟩
  exact HandSPX.exc_get I1.kIn J T.ga T.gg T.exC (PySem.W.findObj_own T.hdC hno rfl (by rw [hl, hu])) (handed_of ru) ⟨v, H1, I1.tok _, ru, q⟩
end Jd
namespace Jd
open PySem PySem.Spec PyProof.Rows L2
/-! ### an own error over LookupError, made by its own __init__ -/
/-- what stands behind such a class in its order -/
abbrev leRow : List Value := [.type "LookupError", .type "Exception", .type "BaseException", .type "object"]
structure LexC (K : PySem.W.Frag) (C : Addr) : Prop where
  shape : ∃ nm ql N bs sl sb ab cl dt j0 j1 j2 j3 j5,
    K.lookup C = some (excClassObj nm ql C N bs leRow true sl sb ab cl dt j0 j1 j2 j3 j5 "LookupError.__new__")
  store : PySem.W.findIn K (.ref C) "__setattr__" = some (some (.builtin "object.__setattr__"))
  isE : PySem.W.subIn K (.ref C) (.type "BaseException") = some true
  isT : PySem.W.typeIn K (.ref C) = some (.type "type")
  keep : PySem.W.keepIn K (.ref C) = true
end Jd
namespace Jd
open PySem Builtin Builtin.ObjectAttr
theorem le_pass (self : Value) (C : Addr) : refuseLoop self "__setattr__" (.ref C :: leRow) = pure () := by
  rw [refuseLoop_ref]
  exact F.store_LookupError.passes self
section
variable {P : Program} {w : World} {A : Around} {R : Result → Shared → Prop} {hp : Heap} {g : Array GenState} {dr : Drawn} {tk0 : Nat} {os : OsState}
/-- e.f = v, e an error of such a class without a dict -/
theorem le_first {K : W.Frag} {f : Str} {tk : Tok} {v : Value} {e C : Addr} {cells : Array Value} {c : ClassData} (inK : K.In hp)
    (he : hp.get? e = some { cls := .ref C, data := .fields cells }) (hc : W.clsIn K C = some c) (hm : c.mro = .ref C :: leRow)
    (hh : c.hasDict = true) (hf : W.findIn K (.ref C) f = some none)
    (fin : ∀ hp' tk' dx, (∀ b o, b ≠ e → hp.get? b = some o → hp'.get? b = some o) → hp.objs.size ≤ dx → dx ≠ e →
      hp'.get? e = some { cls := .ref C, dict := some dx, data := .fields cells } →
      hp'.Ns1 dx (fun y => if y = f then some v else none) → R (.ok (.ret .none)) ⟨hp', g, dr, tk', os⟩) :
    codeAny (model P w) A (.call (.builtin "object.__setattr__") ⟨[.ref e, .str f tk, v], []⟩) R ⟨hp, g, dr, tk0, os⟩ := by
  have inst : W.InstAt hp e { cls := .ref C, data := .fields cells } C none := ⟨he, rfl, rfl, trivial⟩
  have S := F.store_object
  have obj : c.mro.contains (.type "object") = true := by
    rw [hm, List.contains_cons]
    rfl
  have far : e ≠ hp.objs.size := Nat.ne_of_lt (Heap.lt_size he)
  have isO : W.Looks (model P w) hp (isInstance (.ref e) (.type "object")) true :=
    inst.type.andThen (W.looks_mroIn inK (by
      unfold W.mroIn
      rw [hc, Option.bind_some, if_neg (by rw [hm]; exact Bool.false_ne_true), obj]))
  refine codeAny_call_builtin S.slot.plain S.entry
    (@W.check_slot (model P w) _ _ ⟨hp, g, dr, tk0, os⟩ "object.__setattr__" "object" "__setattr__" (.ref e) [.str f tk, v] [] _
      S.kind S.split isO (S.args (.ref e) (.str f tk) v) ?_)
  have lm : W.Looks (model P w) hp (mroOf (.ref C)) c.mro := (W.looks_clsIn inK hc).andThen .now
  have lt : W.Looks (model P w) hp (storeTaker? none) none := .now
  have lc : W.Looks (model P w) hp (classData C) c := W.looks_clsIn inK hc
  rw [W.osa_eq, refuse_eq]
  refine wpAny_bind (wpAny_bind (inst.type.at (wpAny_bind (lm.at ?_))))
  rw [hm, le_pass]
  refine wpAny_pure (wpAny_bind (inst.type.at (wpAny_bind
    ((W.looks_findIn inK hf).at (wpAny_bind (lt.at ?_))))))
  show wpAny _ _ (storeInOwnDict (.ref e) (.ref C) (.str f tk) f v false) _ _ _
  obtain ⟨a1, a2, a3, a4, a5, a6, a7, a8, a9, a10, a11⟩ := c
  dsimp only at hh
  subst hh
  unfold storeInOwnDict ownDictForStores
  repeat (first
    | with_reducible refine HandSPX.store_in_new ?_ ?_
    | with_reducible refine wpAny_loadPart_at he ?_
    | with_reducible refine lc.at ?_
    | wp_step)
  · refine ⟨_, #[], _, (Heap.get?_update_ne _ _ _ _ far.symm).trans (Heap.get?_push_at rfl rfl), rfl, ?_, fun _ => rfl⟩
    exact fun q hq => absurd hq (by simp)
  · intro hp' tk' ns same
    have he2 : (hp.push { cls := .type "dict", data := .dict #[] }).get? e = some { cls := .ref C, data := .fields cells } :=
      Heap.get?_push_of_some _ he
    refine fin hp' tk' hp.objs.size (fun b o nb ho => ?_) (Nat.le_refl _) far.symm ?_ ns
    · rw [same.2 b (Nat.ne_of_lt (Heap.lt_size ho)), Heap.get?_update_ne _ _ _ _ nb]
      exact Heap.get?_push_of_some _ ho
    · rw [same.2 e far]
      exact Heap.get?_update_self _ he2 rfl
end
end Jd
namespace Jd
open PySem PySem.Spec PyProof.Rows L2
section
variable {X : Cx} {pins : List (Addr × Obj)} {σ : L2.St} {H : Hp} {s : Shared} {a C : Addr} {A : Around}
theorem LexC.cd {K : PySem.W.Frag} (T : LexC K C) : ∃ c : ClassData, PySem.W.clsIn K C = some c ∧ c.mro = .ref C :: leRow ∧ c.hasDict = true := by
  obtain ⟨nm, ql, N, bs, sl, sb, ab, cl, dt, j0, j1, j2, j3, j5, lk⟩ := T.shape
  refine ⟨{ name := nm, bases := bs, mro := .ref C :: leRow, ns := N, qualname := ql, hasDict := true, slotNames := sl, subclasses := sb, abstract := ab, collection := cl, hasDel := false }, ?_, rfl, rfl⟩
  unfold PySem.W.clsIn
  rw [lk] <;> rfl
/-- the error's first field -/
theorem le_field {f : Str} {y : V} {u : Value} {Q : Unit → Shared → Prop} {E : Value → Shared → Prop} (T : LexC X.K C)
    (I : Inv X pins σ H s) (ea : H a = some (exo a C none)) (nf : PySem.W.findIn X.K (.ref C) f = some none) (ry : RelV y u)
    (fin : ∀ dx s', H dx = none → dx ≠ a → Inv X pins σ (upd (upd H dx (exd dx [(f, y)])) a (exo a C (some dx))) s' → Q () s') :
    wpAny (model X.prog X.w) A (setAttr (.ref a) f u) Q E s := by
  obtain ⟨c, hc, hm, hh⟩ := T.cd
  obtain ⟨t1, ho⟩ := exo_at I.hok ea
  obtain ⟨hp, g, d, t, os⟩ := s
  refine PySem.W.set_plain I.kIn (od := none)
    (ox := { cls := .ref C, dict := none, data := .fields #[.ref t1, .none, .none, .none, .bool false, .none] })
    ⟨ho, rfl, rfl, trivial⟩ T.store ?_
  refine le_first I.kIn ho hc hm hh nf (fun hp' tk' dx kept lo ne hx ns => ?_)
  have free : H dx = none := I.hok.fresh lo
  have below : ∀ {b : Addr} {o : Obj}, hp.get? b = some o → b ≠ dx := fun {b o} q =>
    Nat.ne_of_lt (Nat.lt_of_lt_of_le (Heap.lt_size q) lo)
  have other : ∀ {b : Addr}, H b = none → b ≠ a := fun {b} q z => by
    rw [z, ea] at q
    cases q
  have two_off : ∀ {b : Addr} {o : HO}, H b = some o → b ≠ a → (upd (upd H dx (exd dx [(f, y)])) a (exo a C (some dx))) b = some o :=
    fun {b o} q n => by
      rw [upd_ne n, upd_ne (ne_of_none q free)]
      exact q
  have un : Un X.fs [] H (upd (upd H dx (exd dx [(f, y)])) a (exo a C (some dx))) hp hp' := {
    keep := fun b o q n _ _ => kept b o (other n) q
    slot := fun b o q n _ _ => ⟨o.slots, kept b o (other n) q⟩
    free := fun b o q n _ => by
      rw [upd_ne (other n), upd_ne (below q)]
      exact n
    there := fun b o q _ => by
      rcases Nat.decEq b a with h | h
      · exact ⟨o, kept b o h q⟩
      · exact ⟨_, h ▸ hx⟩
    tups := fun b xs q => two_off q (at_ne ea q exo_tup)
    frzs := fun b o v q => two_off q (at_ne ea q exo_frz)
    tbls := fun b ps q => ⟨#[], by
      rw [two_off q (at_ne ea q exo_tbl)]
      simp⟩ }
  refine fin dx _ free ne (I.un (t' := tk') un fun b o q => ?_)
  by_cases ba : b = a
  · subst ba
    rw [upd_same] at q
    cases q
    exact exo_ok hx
  rw [upd_ne ba] at q
  by_cases bd : b = dx
  · subst bd
    rw [upd_same] at q
    cases q
    exact exd_ok ns (relO_put (fs := []) ry fun _ => True.intro)
  rw [upd_ne bd] at q
  refine (I.hok b o q).stay (fun c v hcv z => kept c v ?_ z) (fun c hcv => ?_) (fun c xs hcv => two_off hcv (at_ne ea hcv exo_tup))
  · rcases hcv with h | h
    · exact h ▸ ba
    · exact at_ne ea h exo_own
  · rw [upd_ne (at_ne ea hcv exo_own), upd_ne (ne_of_none hcv free)]
    exact hcv
/-- LookupError.__init__(e, ..) -/
theorem le_init {us : List Value} {Q : Value → Shared → Prop} {E : Value → Shared → Prop} (T : LexC X.K C) (I : Inv X pins σ H s)
    (ea : H a = some (exo a C none)) (hl : us.length ≤ sizeLine) (fin : ∀ s', Inv X pins σ H s' → Q .none s') :
    wpAny (model X.prog X.w) A (call (.builtin "LookupError.__init__") (.ref a :: us)) Q E s := by
  obtain ⟨nm, ql, N, bs, sl, sb, ab, cl, dt, j0, j1, j2, j3, j5, lk⟩ := T.shape
  obtain ⟨t1, ho⟩ := exo_at I.hok ea
  obtain ⟨hp, g, d, t, os⟩ := s
  refine wpAny_call (PySem.HandSPX.init_base F.excBase_LookupError (fun _ => rfl) (I.kIn _ _ lk) ho hl fun hp' t2 kept hx => ?_)
  have again : upd H a (exo a C none) = H := funext fun b => by
    unfold upd
    split
    · rename_i h
      rw [h, ea]
    · rfl
  have J := I.write (t' := t) (x := a) (e := a) (o := exo a C none) (by rw [ea]; exact True.intro) (.inl rfl) kept ⟨_, hx⟩ (exo_ok hx)
  exact fin _ (by rw [again] at J; exact J)
end
end Jd
namespace Jd
open PySem PySem.Spec PyProof.Rows L2
/-! ### its rules -/
def tLeI (K : PySem.W.Frag) (ta : TA) : TE := fun σ H Q => ta σ H fun vs H1 =>
  ∃ (a C : Addr) (ws : List V), vs = .ref a :: ws ∧ ws.length ≤ 1000 ∧ LexC K C ∧ H1 a = some (exo a C none) ∧ Q .non H1
def tLeF (K : PySem.W.Frag) (f : Str) (to te : TE) : TS := fun D σ H => te σ H fun y H1 => to σ H1 fun x H2 =>
  ∃ a C : Addr, x = .ref a ∧ LexC K C ∧ PySem.W.findIn K (.ref C) f = some none ∧ H2 a = some (exo a C none) ∧
    ∀ dx, H2 dx = none → dx ≠ a → D.nx σ (upd (upd H2 dx (exd dx [(f, y)])) a (exo a C (some dx)))
section
variable {X : Cx} {o e : Expr} {es : List Expr} {to te : TE} {ta : TA} {f : Str} {p p' p1 p2 pos : Pos}
theorem typ_LE : typeOf (.type "LookupError") = pure (.type "type") := by kernel_rfl
/-- LookupError.__init__(self, ..) as an expression -/
theorem pe_leinit {pl : Sem Bool} (hg : Gl X "LookupError") (hm : X.mg "LookupError" = none)
    (at_ : PySem.W.findCls X.K (.type "LookupError") (.type "type") "__init__" = some (.val (.builtin "LookupError.__init__"))) (ha : PA X (e :: es) ta)
    (ev : eval (.Call (.Attribute (.Name "LookupError" p1) "__init__" p2) (e :: es) [] pos) X.env = (do
      let base ← eval (.Name "LookupError" p1) X.env
      standAt p2.atName
      let (f, first) ← holding [base] (getMethod base "__init__" pl)
      callWith pos f first (backTo pos (starEach (e :: es) X.env)) (backToKw pos (keywordEach [] X.env))) := by rfl)
    (st : starEach (e :: es) X.env = (false, eval e X.env) :: starEach es X.env := by rfl)
    (ns : (backTo pos (starEach es X.env)).any (fun q => q.1) = false := by rfl) :
    PE X (.Call (.Attribute (.Name "LookupError" p1) "__init__" p2) (e :: es) [] pos) (tLeI X.K ta) := by
  refine ⟨fun pins s σ H Q I h => PySem.W.methodCall_KW (ld_blt I hg hm PyProof.Rows.Boot.«LookupError» ?_ (by decide) (by decide)) ev⟩
  obtain ⟨m, fr⟩ := I.fr
  refine PySem.W.method_type fr I.ok.mod.kin typ_LE (by decide +kernel) at_ (by decide +kernel) ?_
  show wpAny _ _ (callWith pos (Value.builtin "LookupError.__init__") [] (backTo pos (starEach (e :: es) X.env)) []) _ _ _
  refine PyProof.Rows.callWith_method1 (thn (ha.run pos pins _ σ H _ (I.tok _) h) fun us s1 hz => ?_) st ns
  obtain ⟨vs, H1, I1, rel, a, C, ws, rfl, short, T, ea, q⟩ := hz
  cases rel with
  | @cons _ self _ rest r0 rs =>
    obtain rfl : self = Value.ref a := r0
    have few : rest.length ≤ sizeLine := by
      have z := Paired.length rs
      rw [sizeLine_eq]
      omega
    exact le_init T I1 ea few fun s' J => ⟨.non, H1, J, rfl, q⟩
/-- self.f = e, the first one -/
theorem ps_leF (ho : PE X o to) (he : PE X e te) (hs : swapsWith e (some (.Attribute o f p')) pos.line X.env = pure false := by rfl) :
    PS X (.Assign [.Attribute o f p'] e pos) (tLeF X.K f to te) := by
  refine ⟨fun pins s σ H D I h => plainObj_wpAny_Assign_Attribute (thn (he.run pins s σ H _ I h) fun v s1 hy => ?_) hs⟩
  obtain ⟨y, H1, I1, ry, q1⟩ := hy
  refine thn (ho.run pins s1 σ H1 _ I1 q1) fun u s2 hx => ?_
  obtain ⟨x, H2, I2, rx, a, C, rfl, T, nf, ea, q⟩ := hx
  obtain rfl : u = Value.ref a := rx
  exact le_field T I2 ea nf ry fun dx s' n ne J => ⟨σ, _, J, q dx n ne⟩
/-- raise C(e, ..): the error is made, its __init__ keeps sp -/
theorem pmk_lex {CX : CXT} {x : Str} {C fI : Addr} {k : Nat} {fd : FuncData} {ps : List Str} {sp : Sp} {ds : List Value} {dvs : List V}
    (T : LexC X.K C) (iC : PySem.W.findIn X.K (.ref C) "__init__" = some (some (.ref fI)))
    (tI : PySem.W.typeIn X.K (.ref fI) = some (.type "function")) (F1 : FnOk X.prog X.w X.K X.mg X.base CX k fI fd ps sp)
    (hr : Room (k + 1) X.A) (hb : Binds X.K fd ps ds) (hd : Vals dvs ds) (hx : Passes CX X (fun _ _ _ => False)) (hg : Gl X x)
    (hm : X.mg x = some (.ref C)) (ha : PA X (e :: es) ta) (nd : (x == ("__debug__" : Str)) = false := by decide)
    (st : starEach (e :: es) X.env = (false, eval e X.env) :: starEach es X.env := by rfl)
    (ns : (backTo pos (starEach es X.env)).any (fun q => q.1) = false := by rfl) : PMk X (.Call (.Name x p) (e :: es) [] pos) (tMkO C sp dvs ta) := by
  intro pins s σ H Q I h
  obtain ⟨nm, ql, N, bs, sl, sb, ab, cl, dt, j0, j1, j2, j3, j5, lk⟩ := T.shape
  refine wpAny_Call_Name_kw (ld_glob I hg hm ?_ nd)
  refine PySem.W.callWith_K (h₀ := X.base) I.ok.mod.kin T.keep (thn (ha.run pos pins s σ H _ I h) fun us s1 hu => ?_) st ns
  obtain ⟨vs, H1, I1, rel, short, way⟩ := hu
  refine ⟨I1.kIn, ?_⟩
  show wpAny _ _ (call (.ref C) us) _ _ _
  obtain ⟨hp, g, dr, tk, os⟩ := s1
  -- where the error will stand
  have lo : hp.objs.size ≤ hp.objs.size + 1 := Nat.le_succ _
  have vac : H1 (hp.objs.size + 1) = none := I1.hok.fresh lo
  have todo := way (hp.objs.size + 1) vac
  have grow : ∀ b o, hp.get? b = some o → ((hp.push (PySem.W.kdv_tup us)).push (PySem.HandSPX.excO C hp.objs.size)).get? b = some o :=
    fun b o q => Heap.get?_push_of_some _ (Heap.get?_push_of_some _ q)
  have here : ((hp.push (PySem.W.kdv_tup us)).push (PySem.HandSPX.excO C hp.objs.size)).get? (hp.objs.size + 1) = some (PySem.HandSPX.excO C hp.objs.size) := by
    heap_get
  have I2 := I1.laid (t' := tk) (o := exo (hp.objs.size + 1) C none) grow lo (exo_ok here)
  have rel2 : Vals (V.ref (hp.objs.size + 1) :: (vs ++ dvs)) (Value.ref (hp.objs.size + 1) :: (us ++ ds)) := .cons rfl (rel.append hd)
  have args : (Value.ref (hp.objs.size + 1) :: us ++ ds).length = ps.length := by
    have z := rel2.length
    rw [F1.len _ _ _ _ todo] at z
    exact z.symm
  have few : us.length ≤ sizeLine := by
    have z := Paired.length rel
    rw [sizeLine_eq]
    omega
  have body := F1.run (Around.under X.A (.builtin "type.__call__" ⟨.ref C :: us, []⟩)) X.stack _ _ ⟨Value.ref (hp.objs.size + 1) :: us, []⟩ (Value.ref (hp.objs.size + 1) :: (us ++ ds)) _ _
    (fun _ _ _ => False) (hr.make C us []) (I2.env0.make C us []) (hb _ (Value.ref (hp.objs.size + 1) :: us) I2.kIn args) rel2 todo
  refine wpAny_call (PySem.HandSPX.call_own F.excBase_LookupError (fun _ => rfl) (I1.kIn _ _ lk) (PySem.W.looks_findIn I1.kIn iC)
    (fun self => PySem.W.bind_fn I1.kIn self tI) few (codeAny_mono body fun r s' out => ?_))
  cases r with
  | error er => exact hx pins σ _ _ er s' I2 out
  | ok way2 =>
    cases way2 with
    | ret u =>
      obtain ⟨v, H2, os2, bare2, un2, ok2, rv, ev, d, fs, ea, ed, vd, q2⟩ := out
      subst ev
      obtain ⟨h2, g2, d2, t2, os'⟩ := s'
      exact ⟨rv, mk_end (raises_own T.isE T.isT) I1 lo grow un2 ok2 os2 bare2 ea ed vd q2⟩
    | _ => exact out.elim
end
end Jd
/-! len, in, ==, != by a class's own defs; calls by keywords alone; a class made where errors are caught -/
namespace PySem.W
open PySem PySem.Calls PyProof.Rows Builtin
section
variable {prog : Program} {w : World} {A : Around} {E : Value → Shared → Prop} {s : Shared} {K : Frag} {x C L f : Addr} {h₀ : Heap} {m : Str → Option Value} {ox : Obj} {od : Option Obj} {b tb : Value}
theorem ifBoundB_K {M : Model} {id : String} {name : Str} {args : List Value} {Q : Option Value → Shared → Prop} (X : K.In s.heap) (I : InstAt s.heap x ox C od) (hs : findIn K (.ref C) name = some (some (.builtin id)))
    (hb : bindSpecial (.builtin id) (.ref x) = pure (.builtin id, [.ref x]))
    (h : wpAny M A (call (.builtin id) (.ref x :: args)) (fun v => Q (some v)) E s) : wpAny M A (callSpecialIfBound? (.ref x) name args) Q E s := by
  simp only [callSpecialIfBound?, bindSpecialIfBound?]
  refine wpAny_holding (wpAny_bind (wpAny_bind (wpAny_bind (I.type.here ((looks_findIn X hs).here ?_)))))
  simp only [hb]
  refine wpAny_bind (wpAny_askSetting (wpAny_ite ?_))
  have fin : wpAny M A (call (.builtin id) ([.ref x] ++ args) >>= fun v => pure (some v)) Q E s := wpAny_bind (wpAny_mono h (fun v s' h' => wpAny_pure h') fun _ _ h' => h')
  split
  · exact wpAny_bind (wpAny_pure (wpAny_pure (by exact fin)))
  · exact wpAny_tryCatch (wpAny_bind (wpAny_pure (wpAny_pure (by exact fin))))
theorem ne_K {Q : Value → Shared → Prop} (hu : A.units + 1 < cLine) (X : K.In s.heap) (I : InstAt s.heap x ox C od) (hb : Looks (model prog w) s.heap (typeOf b) tb) (hn : notFirst K C tb = true)
    (hne : findIn K (.ref C) "__ne__" = some (some (.builtin "object.__ne__"))) (hm : mroIn K C (.type "object") = some true)
    (hs : findIn K (.ref C) "__eq__" = some (some (.ref f))) (hf : isFn K (.ref f) = true)
    (h : wpAny (model prog w) A.in1 (call (.ref f) [.ref x, b]) (fun v s' => ∃ c, v = .bool c ∧ Q (.bool (!c)) s') E s) : wpAny (model prog w) A (richCompare .NotEq (.ref x) b) Q E s := by
  have isO : Looks (model prog w) s.heap (isInstance (.ref x) (.type "object")) true := I.type.andThen (looks_mroIn X hm)
  have body : wpAny (model prog w) A (call (.builtin "object.__ne__") [.ref x, b]) (fun v s' => ∃ c, v = .bool c ∧ Q v s') E s := by
    refine wpAny_call (codeAny_call_builtin PySem.F.cmp_object.ne.plain PySem.F.cmpEntry_ne
      (@check_slot (model prog w) _ _ s "object.__ne__" "object" "__ne__" (.ref x) [b] [] _ PySem.F.cmpKind_ne PySem.F.cmpSplit_ne isO (PySem.F.cmpArgs_ne _ _) ?_))
    unfold Builtin.«object.__ne__»
    refine wpAny_bind (wpAny_of_eq (a := ((Value.ref x : Value), [b])) (by first | rfl | (simp only [slotArgs]; rfl)) ?_)
    refine wpAny_bind (wpAny_cRoomFor (A := A.in1) hu ?_)
    refine wpAny_bind (ifBound_K X I hs hf (wpAny_mono h (fun v s' hv => ?_) fun _ _ e => e))
    obtain ⟨c, rfl, q⟩ := hv
    refine wpAny_bind (wpAny_truthy_bool ?_)
    exact wpAny_pure ⟨_, rfl, q⟩
  have one : wpAny (model prog w) A (tryCompare (.ref x) (cmpInfo .NotEq).2.1 b) (fun r s' => ∃ v, r = some v ∧ Q v s') E s := by
    unfold tryCompare
    refine wpAny_bind (ifBoundB_K X I hne (PySem.F.cmp_object.ne.bind _) (wpAny_mono body (fun v s' hv => ?_) fun _ _ e => e))
    obtain ⟨c, rfl, q⟩ := hv
    exact wpAny_pure ⟨_, rfl, q⟩
  unfold richCompare
  simp only [oneThing_ref]
  refine wpAny_holding (wpAny_bind (wpAny_cRoomFor (Nat.lt_of_succ_lt hu) ?_))
  refine wpAny_bind (I.type.here (wpAny_bind (hb.here ?_)))
  split
  · rename_i q
    have e : subIn K tb (.ref C) = some false := by
      rcases Bool.or_eq_true_iff.mp hn with e | e
      · rw [beq_iff_eq.mp e] at q; simp at q
      · exact beq_iff_eq.mp e
    refine wpAny_bind ((looks_subIn X e).here ?_)
    simp only [Bool.false_eq_true, if_false]
    refine wpAny_bind (wpAny_mono one (fun r s' z => ?_) fun _ _ e => e)
    obtain ⟨v, rfl, hq⟩ := z
    exact wpAny_pure hq
  · refine wpAny_bind (wpAny_pure ?_)
    simp only [Bool.false_eq_true, if_false]
    refine wpAny_bind (wpAny_mono one (fun r s' z => ?_) fun _ _ e => e)
    obtain ⟨v, rfl, hq⟩ := z
    exact wpAny_pure hq
end
end PySem.W
namespace Jd
open PySem PySem.Spec PyProof.Rows L2
section
variable {X : Cx} {CX : CXT} {k : Nat} {C f : Addr} {fd : FuncData} {ps : List Str} {sp : Sp} {E : XK}
def rLenOwn (C : Addr) (sp : Sp) (E : XK) : List V → Hp → VK → Prop := fun xs H Q => ∃ a dx fs, xs = [.ref a] ∧ H a = some (.ins C dx fs) ∧ sp [.ref a] H (fun v H' => ∃ n : Int, v = .int n ∧ 0 ≤ n ∧ n < 2 ^ 63 ∧ Q (.int n) H') E
def rInOwn (C : Addr) (sp : Sp) (E : XK) : R2 := fun x y H Q => ∃ a dx fs, y = .ref a ∧ H a = some (.ins C dx fs) ∧ sp [y, x] H (fun v H' => ∃ c : Bool, v = .bl c ∧ Q (.bl c) H') E
def rEqOwn (K : PySem.W.Frag) (C : Addr) (sp : Sp) (E : XK) : R2 := fun x y H Q => ∃ a dx fs t, x = .ref a ∧ H a = some (.ins C dx fs) ∧ TyX K H y t ∧ PySem.W.notFirst K C t = true ∧ sp [x, y] H (fun v H' => ∃ c : Bool, v = .bl c ∧ Q (.bl c) H') E
def rNeOwn (K : PySem.W.Frag) (C : Addr) (sp : Sp) (E : XK) : R2 := fun x y H Q => ∃ a dx fs t, x = .ref a ∧ H a = some (.ins C dx fs) ∧ TyX K H y t ∧ PySem.W.notFirst K C t = true ∧ sp [x, y] H (fun v H' => ∃ c : Bool, v = .bl c ∧ Q (.bl (!c)) H') E
/-- the def run around A, which stands as deep as X.A or one deeper -/
theorem own_run {pins : List (Addr × Obj)} {s : Shared} {σ : L2.St} {H : Hp} {Q : VK} {vs : List V} {us : List Value} (A : Around) (hA : A.frames = X.A.frames) (F : FnOk X.prog X.w X.K X.mg X.base CX k f fd ps sp) (hr : Room k A) (hb : Binds X.K fd ps []) (hx : Passes CX X E)
    (I : Inv X pins σ H s) (r : Vals vs us) (h : sp vs H Q E) : wpAny (model X.prog X.w) A (call (.ref f) us) (EP X pins σ Q) X.xe s := by
  have e := I.env0
  have e0 : Env0 X.prog X.w X.K X.mg X.base A X.stack s H := ⟨by rw [hA]; exact e.frames, e.mod, e.bs, e.bsz, e.funs, e.frf, e.hok, e.bare⟩
  have hl := F.len _ _ _ _ h
  refine wpAny_call (codeAny_mono (F.run A X.stack s H ⟨us, []⟩ us vs _ E hr e0 (by
    have := hb s us I.kIn (by simpa [← r.length] using hl)
    simpa using this) r h) fun r s' hq => ?_)
  cases r with
  | error e => exact hx pins σ H s e s' I hq
  | ok fl =>
    cases fl with
    | ret w => exact I.after hq
    | next => exact False.elim hq
    | brk => exact False.elim hq
    | cont => exact False.elim hq
theorem call_lenOwn (F : FnOk X.prog X.w X.K X.mg X.base CX k f fd ps sp) (hr : Room (k + 1) X.A) (hs : PySem.W.findIn X.K (.ref C) "__len__" = some (some (.ref f))) (hf : PySem.W.isFn X.K (.ref f) = true) (hb : Binds X.K fd ps []) (hx : Passes CX X E) : CallR X (.builtin "len") (rLenOwn C sp E) := by
  intro pins s σ H xs us Q I r h
  obtain ⟨a, dx, fs, rfl, ha, hsp⟩ := h
  cases r with
  | cons rx rr =>
    cases rr
    cases rx
    obtain ⟨mA, J, _⟩ := ins_get I.hok ha
    obtain ⟨od, J, _⟩ := J.look
    obtain ⟨m, hF⟩ := I.fr
    refine PySem.W.len_K hF I.ok.mod.kin J hs hf (wpAny_mono (own_run X.A.in1 rfl F hr.in1 hb hx I (.cons (show RelV (V.ref a) (Value.ref a) from rfl) .nil) hsp) (fun v s' z => ?_) fun _ _ x => x)
    obtain ⟨y, H', I', rz, n, ez, n0, n1, q⟩ := z
    subst ez
    obtain ⟨t, rfl⟩ := (show ∃ t, v = Value.int n t from rz)
    exact ⟨⟨n0, n1⟩, .int n, H', I'.tok _, ⟨_, rfl⟩, q⟩
theorem op_inOwn (F : FnOk X.prog X.w X.K X.mg X.base CX k f fd ps sp) (hr : Room k X.A) (hs : PySem.W.findIn X.K (.ref C) "__contains__" = some (some (.ref f))) (hf : PySem.W.isFn X.K (.ref f) = true) (hb : Binds X.K fd ps []) (hx : Passes CX X E) : OpR X (compareOp .In) (rInOwn C sp E) := by
  intro pins s σ H x y v u Q I rx ry h
  obtain ⟨a, dx, fs, rfl, ha, hsp⟩ := h
  cases ry
  obtain ⟨mA, J, _⟩ := ins_get I.hok ha
  obtain ⟨od, J, _⟩ := J.look
  obtain ⟨m, hF⟩ := I.fr
  refine PySem.W.in_K hF I.ok.mod.kin J hs hf (wpAny_mono (own_run X.A rfl F hr hb hx I (.cons (show RelV (V.ref a) (Value.ref a) from rfl) (.cons rx .nil)) hsp) (fun v s' z => ?_) fun _ _ x => x)
  obtain ⟨y, H', I', rz, c, ez, q⟩ := z
  subst ez
  cases rz
  exact wpAny_truthy_bool ⟨.bl c, H', I', rfl, q⟩
theorem op_eqOwn (F : FnOk X.prog X.w X.K X.mg X.base CX k f fd ps sp) (hr : Room k X.A) (hs : PySem.W.findIn X.K (.ref C) "__eq__" = some (some (.ref f))) (hf : PySem.W.isFn X.K (.ref f) = true) (hb : Binds X.K fd ps []) (hx : Passes CX X E) : OpR X (compareOp .Eq) (rEqOwn X.K C sp E) := by
  intro pins s σ H x y v u Q I rx ry h
  obtain ⟨a, dx, fs, t, rfl, ha, ht, hn, hsp⟩ := h
  obtain ⟨P, kx, hP, _⟩ := kit_of I ry ht
  cases rx
  obtain ⟨mA, J, _⟩ := ins_get I.hok ha
  obtain ⟨od, J, _⟩ := J.look
  obtain ⟨m, hF⟩ := I.fr
  show wpAny (model X.prog X.w) X.A (richCompare .Eq (.ref a) u) (EP X pins σ Q) X.xe s
  refine PySem.W.cmp_K (op := .Eq) (tb := t) hr.units0 hF I.ok.mod.kin J (kx.ty _ _ I.kIn hP) hn hs hf (wpAny_mono (own_run X.A rfl F hr hb hx I (.cons (show RelV (V.ref a) (Value.ref a) from rfl) (.cons ry .nil)) hsp) (fun v s' z => ?_) fun _ _ x => x)
  obtain ⟨y, H', I', rz, c, ez, q⟩ := z
  subst ez
  cases rz
  exact ⟨.bl c, H', I', rfl, q⟩
theorem op_neOwn (F : FnOk X.prog X.w X.K X.mg X.base CX k f fd ps sp) (hr : Room (k + 1) X.A) (hu : X.A.units + 1 < cLine) (hs : PySem.W.findIn X.K (.ref C) "__eq__" = some (some (.ref f))) (hf : PySem.W.isFn X.K (.ref f) = true)
    (hne : PySem.W.findIn X.K (.ref C) "__ne__" = some (some (.builtin "object.__ne__"))) (hm : PySem.W.mroIn X.K C (.type "object") = some true) (hb : Binds X.K fd ps []) (hx : Passes CX X E) : OpR X (compareOp .NotEq) (rNeOwn X.K C sp E) := by
  intro pins s σ H x y v u Q I rx ry h
  obtain ⟨a, dx, fs, t, rfl, ha, ht, hn, hsp⟩ := h
  obtain ⟨P, kx, hP, _⟩ := kit_of I ry ht
  cases rx
  obtain ⟨mA, J, _⟩ := ins_get I.hok ha
  obtain ⟨od, J, _⟩ := J.look
  show wpAny (model X.prog X.w) X.A (richCompare .NotEq (.ref a) u) (EP X pins σ Q) X.xe s
  refine PySem.W.ne_K (tb := t) hu I.kIn J (kx.ty _ _ I.kIn hP) hn hne hm hs hf (wpAny_mono (own_run X.A.in1 rfl F hr.in1 hb hx I (.cons (show RelV (V.ref a) (Value.ref a) from rfl) (.cons ry .nil)) hsp) (fun v s' z => ?_) fun _ _ x => x)
  obtain ⟨y, H', I', rz, c, ez, q⟩ := z
  subst ez
  cases rz
  exact ⟨c, rfl, .bl (!c), H', I', rfl, q⟩
end
/-! two readings of one piece -/
section
variable {X : Cx} {e tg : Expr} {t1 t2 : TE} {w1 w2 : TI} {g1 g2 : TG}
theorem pe_or2 (h1 : PE X e t1) (h2 : PE X e t2) : PE X e (fun σ H Q => t1 σ H Q ∨ t2 σ H Q) :=
  ⟨fun pins s σ H Q I h => h.elim (h1.run pins s σ H Q I) (h2.run pins s σ H Q I)⟩
theorem pi_or2 (h1 : PI X tg e w1) (h2 : PI X tg e w2) : PI X tg e (fun σ H R => w1 σ H R ∨ w2 σ H R) :=
  ⟨fun pins s σ H R I h => h.elim (h1.run pins s σ H R I) (h2.run pins s σ H R I)⟩
theorem pg_or2 (h1 : PG X tg g1) (h2 : PG X tg g2) : PG X tg (fun v σ H Q => g1 v σ H Q ∨ g2 v σ H Q) :=
  ⟨fun pins s σ H v u Q I r h => h.elim (h1.run pins s σ H v u Q I r) (h2.run pins s σ H v u Q I r)⟩
end
end Jd
namespace Jd
open PySem PySem.Spec PyProof.Rows L2
/-! a class made, a method called, where what is raised is wished for at the slots; methods called by keywords alone -/
section
variable {X : Cx} {CX : CXT} {k : Nat} {f C : Addr} {fd : FuncData} {ps : List Str} {sp : Sp} {dvs : List V} {ds : List Value} {E : L2.St → XK} {x m : Str} {p pos apos : Pos} {e o : Expr} {es : List Expr} {t : TA} {ta : TE}
def tMakeS (C : Addr) (sp : Sp) (dvs : List V) (E : L2.St → XK) (t : TA) : TE := fun σ H Q => t σ H fun vs H1 => ∀ x dx, H1 x = none → H1 dx = none → dx ≠ x →
  sp (.ref x :: (vs ++ dvs)) (upd (upd H1 dx (.own x)) x (.ins C dx [])) (fun v H2 => v = .non ∧ Q (.ref x) H2) (E σ)
theorem run_makeS {pins : List (Addr × Obj)} {σ : L2.St} {H : Hp} {s : Shared} {Q : VK} {us : List Value} {vs : List V} (M : Mk X.K C f) (F : FnOk X.prog X.w X.K X.mg X.base CX k f fd ps sp) (hr : Room (k + 1) X.A) (hb : Binds X.K fd ps ds) (hd : Vals dvs ds)
    (hx : PassesAt CX X σ (E σ)) (I : Inv X pins σ H s) (r : Vals vs us)
    (h : ∀ x dx, H x = none → H dx = none → dx ≠ x → sp (.ref x :: (vs ++ dvs)) (upd (upd H dx (.own x)) x (.ins C dx [])) (fun v H2 => v = .non ∧ Q (.ref x) H2) (E σ)) :
    wpAny (model X.prog X.w) X.A (call (.ref C) us) (EP X pins σ Q) X.xe s := by
  have hq := h (s.heap.objs.size + 1) s.heap.objs.size (I.hok.fresh (Nat.le_succ _)) (I.hok.fresh (Nat.le_refl _)) (Nat.ne_of_lt (Nat.lt_succ_self _))
  have I2 := Inv.made (C := C) I
  have r2 : Vals (V.ref (s.heap.objs.size + 1) :: (vs ++ dvs)) (Value.ref (s.heap.objs.size + 1) :: (us ++ ds)) := .cons rfl (r.append hd)
  have hl : (Value.ref (s.heap.objs.size + 1) :: us ++ ds).length = ps.length := by
    have e := r2.length
    rw [F.len _ _ _ _ hq] at e
    exact e.symm
  refine wpAny_call (make_map (f := f) I.kIn M.makes M.init (beq_iff_eq.mp M.fn) (codeAny_mono (F.run _ X.stack _ _ ⟨Value.ref (s.heap.objs.size + 1) :: us, []⟩ (Value.ref (s.heap.objs.size + 1) :: (us ++ ds)) _ _ (E σ) (hr.make C us [])
    (I2.env0.make C us []) (hb _ (Value.ref (s.heap.objs.size + 1) :: us) I2.kIn hl) r2 hq) fun r s' hq' => ?_))
  cases r with
  | error e => exact hx pins _ _ e s' I2 hq'
  | ok fl =>
    cases fl with
    | ret u =>
      obtain ⟨v, H', I3, rv, ev, q3⟩ := I2.after hq'
      subst ev
      exact ⟨rv, ⟨V.ref (s.heap.objs.size + 1), H', I3, rfl, q3⟩⟩
    | next => exact False.elim hq'
    | brk => exact False.elim hq'
    | cont => exact False.elim hq'
theorem pe_makeS (M : Mk X.K C f) (F : FnOk X.prog X.w X.K X.mg X.base CX k f fd ps sp) (hr : Room (k + 1) X.A) (hg : Gl X x) (hm : X.mg x = some (.ref C)) (hb : Binds X.K fd ps ds) (hd : Vals dvs ds) (hx : ∀ σ, PassesAt CX X σ (E σ))
    (ha : PA X (e :: es) t) (hdb : (x == ("__debug__" : Str)) = false := by decide) (he : starEach (e :: es) X.env = (false, eval e X.env) :: starEach es X.env := by rfl) (hpl : (backTo pos (starEach es X.env)).any (·.1) = false := by rfl) :
    PE X (.Call (.Name x p) (e :: es) [] pos) (tMakeS C sp dvs E t) := by
  refine ⟨fun pins s σ H Q I h => ?_⟩
  refine wpAny_Call_Name_kw (ld_glob I hg hm ?_ hdb)
  refine PySem.W.callWith_K (h₀ := X.base) I.ok.mod.kin M.kp (thn (ha.run pos pins s σ H _ I h) fun us s1 ⟨vs, H1, I1, r, q⟩ => ⟨I1.kIn, ?_⟩) he hpl
  exact run_makeS M F hr hb hd (hx σ) I1 r q
/-- o.m(e, ..), what is raised wished for at the slots -/
def tMethSA (C : Addr) (m : Str) (sp : Sp) (E : L2.St → XK) (ta : TE) (t : TA) : TE := fun σ H Q => ta σ H fun x H1 => ∃ a dx fs, x = .ref a ∧ H1 a = some (.ins C dx fs) ∧ fs.lookup m = none ∧ t σ H1 fun vs H2 => sp (x :: vs) H2 Q (E σ)
theorem pe_methSA {pl : Sem Bool} (he : PE X o ta) (c : Cls X.K C) (hm : Meth X.K C m f) (F : FnOk X.prog X.w X.K X.mg X.base CX k f fd ps sp) (hr : Room k X.A) (hb : Binds X.K fd ps []) (hx : ∀ σ, PassesAt CX X σ (E σ)) (ha : PA X (e :: es) t)
    (ht : eval (.Call (.Attribute o m apos) (e :: es) [] pos) X.env = (do
      let ov ← eval o X.env
      standAt apos.atName
      let (f, first) ← holding [ov] (getMethod ov m pl)
      callWith pos f first (backTo pos (starEach (e :: es) X.env)) (backToKw pos (keywordEach [] X.env))) := by rfl)
    (hst : starEach (e :: es) X.env = (false, eval e X.env) :: starEach es X.env := by rfl) (hpl : (backTo pos (starEach es X.env)).any (·.1) = false := by rfl) :
    PE X (.Call (.Attribute o m apos) (e :: es) [] pos) (tMethSA C m sp E ta t) := by
  refine ⟨fun pins s σ H Q I h => ?_⟩
  refine PySem.W.methodCall_KW (pl := pl) (thn (he.run pins s σ H _ I h) fun u s1 ⟨x, H1, I1, rx, a, dx, fs, ex, ea, l, q⟩ => ?_) ht
  subst ex
  obtain rfl : u = Value.ref a := rx
  refine getmeth_ok I1 ea c hm l ?_
  refine PySem.W.callWith_K (first := [.ref a]) (h₀ := X.base) I1.ok.mod.kin hm.kp (thn (ha.run pos pins s1 σ H1 _ I1 q) fun us s2 ⟨vs, H2, I2, r, q2⟩ => ⟨I2.kIn, ?_⟩) hst hpl
  exact run_fnSD (us := .ref a :: us) (vs := .ref a :: vs) (dvs := []) (ds := []) F hr hb .nil (hx σ) I2 (.cons rfl r) (by rw [List.append_nil]; exact q2)
end
section
variable {X : Cx} {CX : CXT} {k : Nat} {f C : Addr} {fd : FuncData} {ps ks : List Str} {sp : Sp} {E : XK} {m : Str} {pos apos : Pos} {o : Expr} {ta : TE} {kws : List Keyword} {tk : TA} {g : List Value → List Value → List Value} {gV : List V → List V → List V}
/-- o.m(k = v, ..) -/
def tMethK0 (C : Addr) (m : Str) (sp : Sp) (gV : List V → List V → List V) (E : XK) (ta : TE) (tk : TA) : TE := fun σ H Q => ta σ H fun x H1 => ∃ a dx fs, x = .ref a ∧ H1 a = some (.ins C dx fs) ∧ fs.lookup m = none ∧ tk σ H1 fun zs H2 => sp (gV [x] zs) H2 Q E
theorem pe_methK0 {pl : Sem Bool} (he : PE X o ta) (c : Cls X.K C) (hm : Meth X.K C m f) (F : FnOk X.prog X.w X.K X.mg X.base CX k f fd ps sp) (hr : Room k X.A) (hb : KBinds X.K fd ps ks g gV) (hx : Passes CX X E) (hkw : PK X kws tk)
    (ht : eval (.Call (.Attribute o m apos) [] kws pos) X.env = (do
      let ov ← eval o X.env
      standAt apos.atName
      let (f, first) ← holding [ov] (getMethod ov m pl)
      callWith pos f first (backTo pos (starEach [] X.env)) (backToKw pos (keywordEach kws X.env))) := by rfl)
    (hall : (backToKw pos (keywordEach kws X.env)).all (fun q => q.1.isSome) = true := by rfl) (hks : (backToKw pos (keywordEach kws X.env)).filterMap (fun q => q.1) = ks := by rfl)
    (hpl : ((backTo pos (starEach [] X.env)).any (fun q => q.1) || (backToKw pos (keywordEach kws X.env)).any (fun q => q.1.isNone)) = false := by rfl) :
    PE X (.Call (.Attribute o m apos) [] kws pos) (tMethK0 C m sp gV E ta tk) := by
  refine ⟨fun pins s σ H Q I h => ?_⟩
  refine PySem.W.methodCall_KW (pl := pl) (thn (he.run pins s σ H _ I h) fun u s1 ⟨x, H1, I1, rx, a, dx, fs, ex, ea, l, q⟩ => ?_) ht
  subst ex
  obtain rfl : u = Value.ref a := rx
  refine getmeth_ok I1 ea c hm l ?_
  refine PySem.W.callWith_KW0 (first := [.ref a]) (h₀ := X.base) I1.ok.mod.kin hm.kp hall ?_ hpl
  refine thn (hkw.run pos pins s1 σ H1 _ I1 q) fun ws s2 hz => ?_
  obtain ⟨zs, H2, I2, rz, q2⟩ := hz
  refine ⟨I2.kIn, ?_⟩
  rw [hks]
  exact run_fnk (us := [.ref a]) (vs := [.ref a]) F hr hb hx I2 (.cons rfl .nil) rz q2
end
end Jd
namespace Jd
open PySem PySem.Spec PyProof.Rows L2
/-! ### a static method, called on its class -/
/-- C.m is a static method: its record's def stands at g -/
structure SMet (K : PySem.W.Frag) (C : Addr) (m : Str) (g : Addr) : Prop where
  rd : ClX.CRead K C (.type "type")
  at_ : ∃ p rest, PySem.W.findCls K (.ref C) (.type "type") m = some (.get (.builtin "staticmethod.__get__") (.ref p) .none (.ref C)) ∧ PySem.W.recIn K p "staticmethod" = some (.ref g :: rest)
  kp : PySem.W.keepIn K (.ref g) = true
def smB (K : PySem.W.Frag) (c m : Str) : Bool := He5.wrapB K (He.ga K c) "staticmethod" "staticmethod.__get__" m && (PySem.W.readsIn K (He.ga K c) (.type "type") && PySem.W.keepIn K (.ref (He5.wf K (He.ga K c) "staticmethod" m)))
theorem smB_ok {K : PySem.W.Frag} {c m : Str} (h : smB K c m = true) : SMet K (He.ga K c) m (He5.wf K (He.ga K c) "staticmethod" m) := by
  obtain ⟨h1, h⟩ := He.ba h
  obtain ⟨h2, h3⟩ := He.ba h
  obtain ⟨k1, rest, k2⟩ := He5.wrapB_ok h1
  refine ⟨⟨h2, ?_⟩, ⟨_, rest, k1, k2⟩, h3⟩
  have h := h2
  unfold PySem.W.readsIn at h
  obtain ⟨h, _⟩ := He.ba h
  obtain ⟨h, _⟩ := He.ba h
  obtain ⟨h, h3⟩ := He.ba h
  obtain ⟨_, h2⟩ := He.ba h
  unfold PySem.W.specialIn
  rw [beq_iff_eq.mp h2, Option.bind_some]
  exact beq_iff_eq.mp h3
section
variable {X : Cx} {CX : CXT} {k : Nat} {f C : Addr} {fd : FuncData} {ps ks : List Str} {sp : Sp} {dvs : List V} {ds : List Value} {E : XK} {m : Str} {pos apos : Pos} {o e : Expr} {es : List Expr} {t : TA} {ta : TE} {kws : List Keyword} {tk : TA} {g : List Value → List Value → List Value} {gV : List V → List V → List V}
theorem getmethsm_ok {pins : List (Addr × Obj)} {σ : L2.St} {H : Hp} {s : Shared} {A : Around} {E : Value → Shared → Prop} {pl : Sem Bool} {Q : Value × List Value → Shared → Prop} (I : Inv X pins σ H s) (r : SMet X.K C m f) (h : ∀ s', Inv X pins σ H s' → Q (.ref f, []) s') :
    wpAny (model X.prog X.w) A (getMethod (.ref C) m pl) Q E s := by
  obtain ⟨p, rest, k1, k2⟩ := r.at_
  refine PySem.W.method_cls I.kIn r.rd.ga (PySem.W.cls_bind I.kIn r.rd.rd k1 ?_)
  exact wpAny_call (PySem.W.sm_get (s := { s with toks := s.toks + 1 }) I.kIn k2 (PySem.W.handed_on rfl (h _ (I.tok _))))
/-- C.m(e, ..) -/
def tSMeth (C : Addr) (sp : Sp) (dvs : List V) (E : XK) (ta : TE) (t : TA) : TE := fun σ H Q => ta σ H fun x H1 => x = .ref C ∧ t σ H1 fun vs H2 => sp (vs ++ dvs) H2 Q E
theorem pe_smeth {pl : Sem Bool} (he : PE X o ta) (r : SMet X.K C m f) (F : FnOk X.prog X.w X.K X.mg X.base CX k f fd ps sp) (hr : Room k X.A) (hb : Binds X.K fd ps ds) (hd : Vals dvs ds) (hx : Passes CX X E) (ha : PA X (e :: es) t)
    (hst : starEach (e :: es) X.env = (false, eval e X.env) :: starEach es X.env := by rfl) (hpl : (backTo pos (starEach es X.env)).any (·.1) = false := by rfl)
    (ht : eval (.Call (.Attribute o m apos) (e :: es) [] pos) X.env = (do
      let ov ← eval o X.env
      standAt apos.atName
      let (f, first) ← holding [ov] (getMethod ov m pl)
      callWith pos f first (backTo pos (starEach (e :: es) X.env)) (backToKw pos (keywordEach [] X.env))) := by rfl) :
    PE X (.Call (.Attribute o m apos) (e :: es) [] pos) (tSMeth C sp dvs E ta t) := by
  refine ⟨fun pins s σ H Q I h => ?_⟩
  refine PySem.W.methodCall_KW (pl := pl) (thn (he.run pins s σ H _ I h) fun u s1 ⟨x, H1, I1, rx, ex, q⟩ => ?_) ht
  subst ex
  obtain rfl : u = Value.ref C := rx
  refine getmethsm_ok I1 r fun s2 I2 => ?_
  refine PySem.W.callWith_K (h₀ := X.base) I2.ok.mod.kin r.kp (thn (ha.run pos pins s2 σ H1 _ I2 q) fun us s3 ⟨vs, H2, I3, rv, q2⟩ => ⟨I3.kIn, ?_⟩) hst hpl
  exact run_fn F hr hb hd hx I3 rv q2
/-- C.m(k = v, ..) -/
def tSMethK0 (C : Addr) (sp : Sp) (gV : List V → List V → List V) (E : XK) (ta : TE) (tk : TA) : TE := fun σ H Q => ta σ H fun x H1 => x = .ref C ∧ tk σ H1 fun zs H2 => sp (gV [] zs) H2 Q E
theorem pe_smethK0 {pl : Sem Bool} (he : PE X o ta) (r : SMet X.K C m f) (F : FnOk X.prog X.w X.K X.mg X.base CX k f fd ps sp) (hr : Room k X.A) (hb : KBinds X.K fd ps ks g gV) (hx : Passes CX X E) (hkw : PK X kws tk)
    (ht : eval (.Call (.Attribute o m apos) [] kws pos) X.env = (do
      let ov ← eval o X.env
      standAt apos.atName
      let (f, first) ← holding [ov] (getMethod ov m pl)
      callWith pos f first (backTo pos (starEach [] X.env)) (backToKw pos (keywordEach kws X.env))) := by rfl)
    (hall : (backToKw pos (keywordEach kws X.env)).all (fun q => q.1.isSome) = true := by rfl) (hks : (backToKw pos (keywordEach kws X.env)).filterMap (fun q => q.1) = ks := by rfl)
    (hpl : ((backTo pos (starEach [] X.env)).any (fun q => q.1) || (backToKw pos (keywordEach kws X.env)).any (fun q => q.1.isNone)) = false := by rfl) :
    PE X (.Call (.Attribute o m apos) [] kws pos) (tSMethK0 C sp gV E ta tk) := by
  refine ⟨fun pins s σ H Q I h => ?_⟩
  refine PySem.W.methodCall_KW (pl := pl) (thn (he.run pins s σ H _ I h) fun u s1 ⟨x, H1, I1, rx, ex, q⟩ => ?_) ht
  subst ex
  obtain rfl : u = Value.ref C := rx
  refine getmethsm_ok I1 r fun s2 I2 => ?_
  refine PySem.W.callWith_KW0 (h₀ := X.base) I2.ok.mod.kin r.kp hall ?_ hpl
  refine thn (hkw.run pos pins s2 σ H1 _ I2 q) fun ws s3 hz => ?_
  obtain ⟨zs, H2, I3, rz, q2⟩ := hz
  refine ⟨I3.kIn, ?_⟩
  rw [hks]
  exact run_fnk (us := []) (vs := []) F hr hb hx I3 .nil rz q2
end
end Jd
namespace Jd
open PySem PySem.Spec PyProof.Rows L2
def top (i : Nat) : Stmt := PySem.Challenge.pw_keyspans_k00_fields_or_none.main.body.getD i (.Pass ⟨0, 0, 0, 0⟩)
abbrev s_is_name : Stmt := top 27
abbrev s_is_field : Stmt := top 28
abbrev s_is_part : Stmt := top 29
abbrev s_field_of : Stmt := top 30
abbrev s_field_text : Stmt := top 31
abbrev s_parts_of : Stmt := top 32
abbrev s_Keys___init__ : Stmt := inClass (top 35) 0
abbrev s_Keys_p_names : Stmt := inClass (top 35) 1
abbrev s_Keys_told : Stmt := inClass (top 35) 5
abbrev s_Keys__check : Stmt := inClass (top 35) 6
abbrev s__all_told : Stmt := top 37
abbrev s_is_numeral : Stmt := top 10
abbrev s_number_of : Stmt := top 11
abbrev s_written : Stmt := top 12
abbrev s_least_factor : Stmt := top 18
abbrev s_is_prime_power : Stmt := top 19
abbrev s_prime_powers : Stmt := top 20
abbrev s__primes : Stmt := top 21
abbrev s__some_factor : Stmt := top 22
abbrev s_Stage___init__ : Stmt := inClass (top 39) 0
abbrev s_all_names : Stmt := top 33
abbrev s__joined : Stmt := top 40
abbrev s__closed : Stmt := top 41
abbrev s_BadField___init__ : Stmt := inClass (top 4) 0
abbrev s__law_box : Stmt := top 47
abbrev s__law_take : Stmt := top 48
abbrev s__law_cells : Stmt := top 49
abbrev s__law_of : Stmt := top 50
abbrev s__law_same : Stmt := top 51
abbrev s__law_mixed : Stmt := top 52
abbrev s__law_number : Stmt := top 53
abbrev s__law_heard : Stmt := top 54
abbrev s__law_bad_right : Stmt := top 55
abbrev s__law_right : Stmt := top 56
abbrev s_law : Stmt := top 57
end Jd
namespace Jd
open PySem PySem.Spec PyProof.Rows L2
/-! ### facts of the written part that the house's own list does not hold -/
/-- the getter of a property -/
def propG (K : PySem.W.Frag) (c m : Str) : Addr := match PySem.W.recIn K (He.ma K (He.ga K c) m) "property" with
  | some (.ref g :: _) => g
  | _ => 0
def propB (K : PySem.W.Frag) (c m : Str) : Bool :=
  He.eqO (PySem.W.findIn K (.ref (He.ga K c)) m) (some (some (.ref (He.ma K (He.ga K c) m)))) && (He.eqO (PySem.W.specialIn K (.ref (He.ma K (He.ga K c) m)) "__get__") (some (some (.builtin "property.__get__"))) &&
    (decide (PySem.W.takesIn K (.ref (He.ma K (He.ga K c) m)) = some true) && (match PySem.W.recIn K (He.ma K (He.ga K c) m) "property" with
      | some (.ref _ :: _) => true
      | _ => false)))
theorem propB_ok {K : PySem.W.Frag} {c m : Str} (h : propB K c m = true) : PropOf K (He.ga K c) m (He.ma K (He.ga K c) m) (propG K c m) := by
  obtain ⟨c1, h⟩ := He.ba h
  obtain ⟨c2, h⟩ := He.ba h
  obtain ⟨c3, c4⟩ := He.ba h
  refine ⟨He.eqO_ok c1, He.eqO_ok c2, of_decide_eq_true c3, ?_⟩
  unfold propG
  cases e : PySem.W.recIn K (He.ma K (He.ga K c) m) "property" with
  | none =>
    rw [e] at c4
    cases c4
  | some l =>
    rw [e] at c4
    cases l with
    | nil => cases c4
    | cons v r =>
      cases v with
      | ref g => exact ⟨r, rfl⟩
      | _ => cases c4
/-- a name of the module that holds a built-in function -/
def blB (K : PySem.W.Frag) (x : Str) (id : String) : Bool := He.eqO (PySem.W.nsIn K mainGlobals x) (some (some (.builtin id)))
theorem blB_ok {K : PySem.W.Frag} {h : Heap} {mg : Str → Option Value} (X : K.In h) (G : h.Ns mainGlobals mg) {x : Str} {id : String} (c : blB K x id = true) : mg x = some (.builtin id) := PySem.W.mg_of X G (He.eqO_ok c)
/-- an exception class over ValueError with an __init__ of its own -/
def oexB (K : PySem.W.Frag) (c : Str) : Bool :=
  (match K.lookup (He.ga K c) with
    | some ⟨.type n, _, .cls cd, sl⟩ => decide (n = "type") && ((match cd.mro, sl.toList with
      | .ref C' :: bm, [_, _, _, _, some (.builtin n), _] => decide (C' = He.ga K c) && (decide (n = "ValueError.__new__") && PySem.HandSPX.refsVE bm)
      | _, _ => false) && (cd.hasDict && !cd.hasDel))
    | _ => false) && (He.eqO (PySem.W.findIn K (.ref (He.ga K c)) "__setattr__") (some (some (.builtin "object.__setattr__"))) &&
  (decide (PySem.W.subIn K (.ref (He.ga K c)) (.type "BaseException") = some true) && (decide (PySem.W.typeIn K (.ref (He.ga K c)) = some (.type "type")) && (PySem.W.keepIn K (.ref (He.ga K c)) &&
  (He.eqO (PySem.W.findIn K (.ref (He.ga K c)) "__init__") (some (some (.ref (He.ma K (He.ga K c) "__init__")))) && decide (PySem.W.typeIn K (.ref (He.ma K (He.ga K c) "__init__")) = some (.type "function")))))))
theorem oexB_ok {K : PySem.W.Frag} {c : Str} (h : oexB K c = true) : OexC K (He.ga K c) ∧ PySem.W.findIn K (.ref (He.ga K c)) "__init__" = some (some (.ref (He.ma K (He.ga K c) "__init__"))) ∧
    PySem.W.typeIn K (.ref (He.ma K (He.ga K c) "__init__")) = some (.type "function") := by
  obtain ⟨c1, h⟩ := He.ba h
  obtain ⟨c2, h⟩ := He.ba h
  obtain ⟨c3, h⟩ := He.ba h
  obtain ⟨c4, h⟩ := He.ba h
  obtain ⟨c5, h⟩ := He.ba h
  obtain ⟨c6, c7⟩ := He.ba h
  refine ⟨⟨?_, He.eqO_ok c2, of_decide_eq_true c3, of_decide_eq_true c4, c5⟩, He.eqO_ok c6, of_decide_eq_true c7⟩
  split at c1
  · rename_i n dd cd sl ho
    obtain ⟨b1, c1⟩ := He.ba c1
    obtain ⟨b2, b3⟩ := He.ba c1
    obtain ⟨b4, b5⟩ := He.ba b3
    have en : n = "type" := of_decide_eq_true b1
    split at b2
    · rename_i C' bm k0 k1 k2 k3 n' k5 hm hs
      obtain ⟨b6, b2⟩ := He.ba b2
      obtain ⟨b7, b8⟩ := He.ba b2
      have e1 : C' = He.ga K c := of_decide_eq_true b6
      have e2 : n' = "ValueError.__new__" := of_decide_eq_true b7
      subst e2
      subst en
      obtain ⟨nm, bs, mro, ns, qn, hd, sn, sub, ab, col, del⟩ := cd
      dsimp only at hm b4 b5
      rw [e1] at hm
      have ed : del = false := by simpa using b5
      subst b4
      subst ed
      have hsl : sl = #[k0, k1, k2, k3, some (.builtin "ValueError.__new__"), k5] := by
        obtain ⟨l⟩ := sl
        simp only at hs
        rw [hs]
      subst hsl
      subst hm
      exact ⟨nm, qn, ns, bs, bm, sn, sub, ab, col, dd, k0, k1, k2, k3, k5, ho, b8⟩
    · cases b2
  · cases c1
/-- an exception class over LookupError with an __init__ of its own -/
def lexB (K : PySem.W.Frag) (c : Str) : Bool :=
  (match K.lookup (He.ga K c) with
    | some ⟨.type n, _, .cls cd, sl⟩ => decide (n = "type") && ((match cd.mro, sl.toList with
      | [.ref C', .type b1, .type b2, .type b3, .type b4], [_, _, _, _, some (.builtin n), _] => decide (C' = He.ga K c) && (decide (n = "LookupError.__new__") && (decide (b1 = "LookupError") && (decide (b2 = "Exception") && (decide (b3 = "BaseException") && decide (b4 = "object")))))
      | _, _ => false) && (cd.hasDict && !cd.hasDel))
    | _ => false) && (He.eqO (PySem.W.findIn K (.ref (He.ga K c)) "__setattr__") (some (some (.builtin "object.__setattr__"))) &&
  (decide (PySem.W.subIn K (.ref (He.ga K c)) (.type "BaseException") = some true) && (decide (PySem.W.typeIn K (.ref (He.ga K c)) = some (.type "type")) && (PySem.W.keepIn K (.ref (He.ga K c)) &&
  (He.eqO (PySem.W.findIn K (.ref (He.ga K c)) "__init__") (some (some (.ref (He.ma K (He.ga K c) "__init__")))) && decide (PySem.W.typeIn K (.ref (He.ma K (He.ga K c) "__init__")) = some (.type "function")))))))
theorem lexB_ok {K : PySem.W.Frag} {c : Str} (h : lexB K c = true) : LexC K (He.ga K c) ∧ PySem.W.findIn K (.ref (He.ga K c)) "__init__" = some (some (.ref (He.ma K (He.ga K c) "__init__"))) ∧
    PySem.W.typeIn K (.ref (He.ma K (He.ga K c) "__init__")) = some (.type "function") := by
  obtain ⟨c1, h⟩ := He.ba h
  obtain ⟨c2, h⟩ := He.ba h
  obtain ⟨c3, h⟩ := He.ba h
  obtain ⟨c4, h⟩ := He.ba h
  obtain ⟨c5, h⟩ := He.ba h
  obtain ⟨c6, c7⟩ := He.ba h
  refine ⟨⟨?_, He.eqO_ok c2, of_decide_eq_true c3, of_decide_eq_true c4, c5⟩, He.eqO_ok c6, of_decide_eq_true c7⟩
  split at c1
  · rename_i n dd cd sl ho
    obtain ⟨b1, c1⟩ := He.ba c1
    obtain ⟨b2, b3⟩ := He.ba c1
    obtain ⟨b4, b5⟩ := He.ba b3
    have en : n = "type" := of_decide_eq_true b1
    split at b2
    · rename_i C' m1 m2 m3 m4 k0 k1 k2 k3 n' k5 hm hs
      obtain ⟨b6, b2⟩ := He.ba b2
      obtain ⟨b7, b2⟩ := He.ba b2
      obtain ⟨b8, b2⟩ := He.ba b2
      obtain ⟨b9, b2⟩ := He.ba b2
      obtain ⟨b10, b11⟩ := He.ba b2
      have e1 : C' = He.ga K c := of_decide_eq_true b6
      have e2 : n' = "LookupError.__new__" := of_decide_eq_true b7
      have e3 : m1 = "LookupError" := of_decide_eq_true b8
      have e4 : m2 = "Exception" := of_decide_eq_true b9
      have e5 : m3 = "BaseException" := of_decide_eq_true b10
      have e6 : m4 = "object" := of_decide_eq_true b11
      subst e2
      subst en
      subst e3
      subst e4
      subst e5
      subst e6
      obtain ⟨nm, bs, mro, ns, qn, hd, sn, sub, ab, col, del⟩ := cd
      dsimp only at hm b4 b5
      rw [e1] at hm
      have ed : del = false := by simpa using b5
      subst b4
      subst ed
      have hsl : sl = #[k0, k1, k2, k3, some (.builtin "LookupError.__new__"), k5] := by
        obtain ⟨l⟩ := sl
        simp only at hs
        rw [hs]
      subst hsl
      subst hm
      exact ⟨nm, qn, ns, bs, sn, sub, ab, col, dd, k0, k1, k2, k3, k5, ho⟩
    · cases b2
  · cases c1
/-- a special method of an own class, a def -/
def eqsB (K : PySem.W.Frag) (c m : Str) : Bool := He.eqO (PySem.W.findIn K (.ref (He.ga K c)) m) (some (some (.ref (He.ma K (He.ga K c) m)))) && PySem.W.isFn K (.ref (He.ma K (He.ga K c) m))
theorem eqsB_ok {K : PySem.W.Frag} {c m : Str} (h : eqsB K c m = true) : PySem.W.findIn K (.ref (He.ga K c)) m = some (some (.ref (He.ma K (He.ga K c) m))) ∧ PySem.W.isFn K (.ref (He.ma K (He.ga K c) m)) = true := by
  obtain ⟨c1, c2⟩ := He.ba h
  exact ⟨He.eqO_ok c1, c2⟩
/-- the i-th default of a def, if it is an object -/
def dflA (f : PySem.W.Frag → Addr) (i : Nat) (K : PySem.W.Frag) : Addr := match K.lookup (f K) with
  | some ⟨_, _, .func fd, _⟩ => (match fd.defaults with
    | .ref T => (match K.lookup T with
      | some ⟨_, _, .seq its _, _⟩ => (match its.toList[i]? with
        | some (.ref a) => a
        | _ => 0)
      | _ => 0)
    | _ => 0)
  | _ => 0
/-- what isinstance asks of an instance's class -/
def tyB (K : PySem.W.Frag) (C : Addr) : Bool := He.eqO (PySem.W.findIn K (.ref C) "__class__") (some (some (.builtin "object.__class__"))) && (He.eqO (PySem.W.specialIn K (.builtin "object.__class__") "__get__") (some (some (.builtin "getset_descriptor.__get__"))) &&
  (decide (PySem.W.takesIn K (.builtin "object.__class__") = some true) && decide (PySem.W.mroIn K C (.type "object") = some true)))
theorem tyB_ok {K : PySem.W.Frag} {C : Addr} (h : tyB K C = true) : PySem.W.findIn K (.ref C) "__class__" = some (some (.builtin "object.__class__")) ∧ PySem.W.specialIn K (.builtin "object.__class__") "__get__" = some (some (.builtin "getset_descriptor.__get__")) ∧
    PySem.W.takesIn K (.builtin "object.__class__") = some true ∧ PySem.W.mroIn K C (.type "object") = some true := by
  obtain ⟨c1, h⟩ := He.ba h
  obtain ⟨c2, h⟩ := He.ba h
  obtain ⟨c3, c4⟩ := He.ba h
  exact ⟨He.eqO_ok c1, He.eqO_ok c2, of_decide_eq_true c3, of_decide_eq_true c4⟩
/-- an empty tuple of the written part -/
def tup0B (K : PySem.W.Frag) (a : Addr) : Bool := match K.lookup a with
  | some ⟨.type c, _, .seq its _, _⟩ => decide (c = "tuple") && its.isEmpty
  | _ => false
theorem tup0B_ok {K : PySem.W.Frag} {a : Addr} (h : tup0B K a = true) (H : Hp) : SqT K H a [] := by
  unfold tup0B at h
  cases q : K.lookup a with
  | none =>
    rw [q] at h
    cases h
  | some o =>
    obtain ⟨oc, od, dt, osl⟩ := o
    rw [q] at h
    cases oc with
    | type c =>
      cases dt with
      | seq its n =>
        obtain ⟨h1, h2⟩ := He.ba (show (decide (c = "tuple") && its.isEmpty) = true from h)
        have e : its = #[] := Array.isEmpty_iff.mp h2
        subst e
        exact .inr ⟨_, #[], n, q, congrArg Value.type (of_decide_eq_true h1), rfl, Nat.zero_le _, .nil⟩
      | _ => cases h
    | _ => cases dt <;> cases h
/-- what isinstance and a field's reading ask of an error's class -/
def xcB (K : PySem.W.Frag) (D : Addr) : Bool :=
  He.eqO (PySem.W.findIn K (.ref D) "__getattribute__") (some (some (.builtin "BaseException.__getattribute__"))) && (He.eqO (PySem.W.findIn K (.ref D) "__getattr__") (some none) && (decide (PySem.W.subIn K (.ref D) (.type "BaseException") = some true) && (PySem.W.hasDictIn K D &&
  (He.eqO (PySem.W.findIn K (.ref D) "__class__") (some (some (.builtin "object.__class__"))) && (He.eqO (PySem.W.specialIn K (.builtin "object.__class__") "__get__") (some (some (.builtin "getset_descriptor.__get__"))) &&
  (decide (PySem.W.takesIn K (.builtin "object.__class__") = some true) && decide (PySem.W.mroIn K D (.type "object") = some true)))))))
theorem xcB_ok {K : PySem.W.Frag} {D : Addr} (h : xcB K D = true) : ExcC K D := by
  obtain ⟨c1, h⟩ := He.ba h
  obtain ⟨c2, h⟩ := He.ba h
  obtain ⟨c3, h⟩ := He.ba h
  obtain ⟨c4, h⟩ := He.ba h
  obtain ⟨c5, h⟩ := He.ba h
  obtain ⟨c6, h⟩ := He.ba h
  obtain ⟨c7, c8⟩ := He.ba h
  exact ⟨He.eqO_ok c1, He.eqO_ok c2, of_decide_eq_true c3, c4, He.eqO_ok c5, He.eqO_ok c6, of_decide_eq_true c7, of_decide_eq_true c8⟩
/-! ### the Hook -/
abbrev AlJ : Type := Bool × List He5.FnW
def obsJ (fa : List He.Fa) (fn : List He5.DefA) (ex : PySem.W.Frag → Bool) (K : PySem.W.Frag) : AlJ := (((fa.all fun f => f.ok K) && fn.all fun d => d.ok K) && ex K, fn.map fun d => He5.fnA K (d.at_ K))
def valJ (fn : List He5.DefA) : AlJ := (true, fn.map He5.DefA.val)
def SaysJ (fa : List He.Fa) (fn : List He5.DefA) (ex : PySem.W.Frag → Bool) (K : PySem.W.Frag) : Prop := obsJ fa fn ex K = valJ fn
def obsJG (n : Nat) (fa : List He.Fa) (fn : List He5.DefA) (ex : PySem.W.Frag → Bool) (g : Addr → Option Obj) : AlJ := obsJ fa fn ex (He.frG g (He5.asA g n))
def hookJ (n : Nat) (fa : List He.Fa) (fn : List He5.DefA) (ex : PySem.W.Frag → Bool) : PySem.W.Hook where
  α := AlJ
  obs := fun s => obsJG n fa fn ex s.heap.get?
  val := fun _ => valJ fn
  says := fun _ h => ∃ K : PySem.W.Frag, K.In h ∧ SaysJ fa fn ex K
  of := fun _ _ e => ⟨_, He.frG_in, e⟩
  keeps := fun _ _ _ ⟨K, inK, c⟩ k => ⟨K, PySem.W.Frag.In.keeps inK k, c⟩
theorem obsJG_eq {n : Nat} {fa : List He.Fa} {fn : List He5.DefA} {ex : PySem.W.Frag → Bool} {g : Addr → Option Obj} {s : Shared} (h : ∀ a, g a = s.heap.get? a) : obsJG n fa fn ex g = (hookJ n fa fn ex).obs s := by
  obtain rfl : g = s.heap.get? := funext h
  rfl
section
variable {fa : List He.Fa} {fn : List He5.DefA} {ex : PySem.W.Frag → Bool} {K : PySem.W.Frag}
theorem SaysJ.b (c : SaysJ fa fn ex K) : ((fa.all fun f => f.ok K) = true ∧ (fn.all fun d => d.ok K) = true) ∧ ex K = true := by
  obtain ⟨c1, c2⟩ := He.ba (show (((fa.all fun f => f.ok K) && fn.all fun d => d.ok K) && ex K) = true from congrArg (fun z : AlJ => z.1) c)
  exact ⟨He.ba c1, c2⟩
theorem SaysJ.fact (c : SaysJ fa fn ex K) {f : He.Fa} (h : f ∈ fa) : f.ok K = true := List.all_eq_true.mp c.b.1.1 f h
theorem SaysJ.def_ (c : SaysJ fa fn ex K) {d : He5.DefA} (h : d ∈ fn) : ∃ fd, L2.FunD K d.name d.qual d.params d.body d.scope (d.dvs K) (d.kws K) (d.at_ K) fd := by
  have e : fn.map (fun d => He5.fnA K (d.at_ K)) = fn.map He5.DefA.val := congrArg (fun z : AlJ => z.2) c
  obtain ⟨i, hi, q⟩ := List.mem_iff_getElem.mp h
  have e2 : (fn.map fun d => He5.fnA K (d.at_ K))[i]? = (fn.map He5.DefA.val)[i]? := by rw [e]
  rw [List.getElem?_map, List.getElem?_map, List.getElem?_eq_getElem hi, q] at e2
  exact He5.DefA.funD (Option.some.inj e2) (List.all_eq_true.mp c.b.1.2 d h)
end
/-! ### the head -/
def d_is_name : He5.DefA := ⟨(fun K => He.ga K "is_name"), "is_name", "is_name", defArgs s_is_name, defBody s_is_name, defScope s_is_name, [], []⟩
def d_is_field : He5.DefA := ⟨(fun K => He.ga K "is_field"), "is_field", "is_field", defArgs s_is_field, defBody s_is_field, defScope s_is_field, [], []⟩
def d_is_part : He5.DefA := ⟨(fun K => He.ga K "is_part"), "is_part", "is_part", defArgs s_is_part, defBody s_is_part, defScope s_is_part, [], []⟩
def d_field_of : He5.DefA := ⟨(fun K => He.ga K "field_of"), "field_of", "field_of", defArgs s_field_of, defBody s_field_of, defScope s_field_of, [], []⟩
def d_field_text : He5.DefA := ⟨(fun K => He.ga K "field_text"), "field_text", "field_text", defArgs s_field_text, defBody s_field_text, defScope s_field_text, [], []⟩
def d_parts_of : He5.DefA := ⟨(fun K => He.ga K "parts_of"), "parts_of", "parts_of", defArgs s_parts_of, defBody s_parts_of, defScope s_parts_of, [], []⟩
def d_Keys___init__ : He5.DefA := ⟨(fun K => He.ma K (He.ga K "Keys") "__init__"), "__init__", "Keys.__init__", defArgs s_Keys___init__, defBody s_Keys___init__, defScope s_Keys___init__, [.adr (dflA (fun K => He.ma K (He.ga K "Keys") "__init__") 0)], []⟩
def d_Keys_p_names : He5.DefA := ⟨(fun K => propG K "Keys" "names"), "names", "Keys.names", defArgs s_Keys_p_names, defBody s_Keys_p_names, defScope s_Keys_p_names, [], []⟩
def d_Keys_told : He5.DefA := ⟨(fun K => He.ma K (He.ga K "Keys") "told"), "told", "Keys.told", defArgs s_Keys_told, defBody s_Keys_told, defScope s_Keys_told, [], []⟩
def d_Keys__check : He5.DefA := ⟨(fun K => He.ma K (He.ga K "Keys") "_check"), "_check", "Keys._check", defArgs s_Keys__check, defBody s_Keys__check, defScope s_Keys__check, [], []⟩
def d__all_told : He5.DefA := ⟨(fun K => He.ga K "_all_told"), "_all_told", "_all_told", defArgs s__all_told, defBody s__all_told, defScope s__all_told, [], []⟩
def d_is_numeral : He5.DefA := ⟨(fun K => He.ga K "is_numeral"), "is_numeral", "is_numeral", defArgs s_is_numeral, defBody s_is_numeral, defScope s_is_numeral, [], []⟩
def d_number_of : He5.DefA := ⟨(fun K => He.ga K "number_of"), "number_of", "number_of", defArgs s_number_of, defBody s_number_of, defScope s_number_of, [], []⟩
def d_written : He5.DefA := ⟨(fun K => He.ga K "written"), "written", "written", defArgs s_written, defBody s_written, defScope s_written, [], []⟩
def d_least_factor : He5.DefA := ⟨(fun K => He.ga K "least_factor"), "least_factor", "least_factor", defArgs s_least_factor, defBody s_least_factor, defScope s_least_factor, [], []⟩
def d_is_prime_power : He5.DefA := ⟨(fun K => He.ga K "is_prime_power"), "is_prime_power", "is_prime_power", defArgs s_is_prime_power, defBody s_is_prime_power, defScope s_is_prime_power, [], []⟩
def d_prime_powers : He5.DefA := ⟨(fun K => He.ga K "prime_powers"), "prime_powers", "prime_powers", defArgs s_prime_powers, defBody s_prime_powers, defScope s_prime_powers, [], []⟩
def d__primes : He5.DefA := ⟨(fun K => He.ga K "_primes"), "_primes", "_primes", defArgs s__primes, defBody s__primes, defScope s__primes, [], []⟩
def d__some_factor : He5.DefA := ⟨(fun K => He.ga K "_some_factor"), "_some_factor", "_some_factor", defArgs s__some_factor, defBody s__some_factor, defScope s__some_factor, [], []⟩
def d_Stage___init__ : He5.DefA := ⟨(fun K => He.ma K (He.ga K "Stage") "__init__"), "__init__", "Stage.__init__", defArgs s_Stage___init__, defBody s_Stage___init__, defScope s_Stage___init__, [], []⟩
def d_all_names : He5.DefA := ⟨(fun K => He.ga K "all_names"), "all_names", "all_names", defArgs s_all_names, defBody s_all_names, defScope s_all_names, [], []⟩
def d__joined : He5.DefA := ⟨(fun K => He.ga K "_joined"), "_joined", "_joined", defArgs s__joined, defBody s__joined, defScope s__joined, [], []⟩
def d__closed : He5.DefA := ⟨(fun K => He.ga K "_closed"), "_closed", "_closed", defArgs s__closed, defBody s__closed, defScope s__closed, [], []⟩
def d_BadField___init__ : He5.DefA := ⟨(fun K => He.ma K (He.ga K "BadField") "__init__"), "__init__", "BadField.__init__", defArgs s_BadField___init__, defBody s_BadField___init__, defScope s_BadField___init__, [], []⟩
def d__law_box : He5.DefA := ⟨(fun K => He.ga K "_law_box"), "_law_box", "_law_box", defArgs s__law_box, defBody s__law_box, defScope s__law_box, [], []⟩
def d__law_take : He5.DefA := ⟨(fun K => He.ga K "_law_take"), "_law_take", "_law_take", defArgs s__law_take, defBody s__law_take, defScope s__law_take, [], []⟩
def d__law_cells : He5.DefA := ⟨(fun K => He.ga K "_law_cells"), "_law_cells", "_law_cells", defArgs s__law_cells, defBody s__law_cells, defScope s__law_cells, [], []⟩
def d__law_of : He5.DefA := ⟨(fun K => He.ga K "_law_of"), "_law_of", "_law_of", defArgs s__law_of, defBody s__law_of, defScope s__law_of, [], []⟩
def d__law_same : He5.DefA := ⟨(fun K => He.ga K "_law_same"), "_law_same", "_law_same", defArgs s__law_same, defBody s__law_same, defScope s__law_same, [], []⟩
def d__law_mixed : He5.DefA := ⟨(fun K => He.ga K "_law_mixed"), "_law_mixed", "_law_mixed", defArgs s__law_mixed, defBody s__law_mixed, defScope s__law_mixed, [], []⟩
def d__law_number : He5.DefA := ⟨(fun K => He.ga K "_law_number"), "_law_number", "_law_number", defArgs s__law_number, defBody s__law_number, defScope s__law_number, [], []⟩
def d__law_heard : He5.DefA := ⟨(fun K => He.ga K "_law_heard"), "_law_heard", "_law_heard", defArgs s__law_heard, defBody s__law_heard, defScope s__law_heard, [], []⟩
def d__law_bad_right : He5.DefA := ⟨(fun K => He.ga K "_law_bad_right"), "_law_bad_right", "_law_bad_right", defArgs s__law_bad_right, defBody s__law_bad_right, defScope s__law_bad_right, [], []⟩
def d__law_right : He5.DefA := ⟨(fun K => He.ga K "_law_right"), "_law_right", "_law_right", defArgs s__law_right, defBody s__law_right, defScope s__law_right, [], []⟩
def d_law : He5.DefA := ⟨(fun K => He.ga K "law"), "law", "law", defArgs s_law, defBody s_law, defScope s_law, [], []⟩
def fn : List He5.DefA := [d_is_name, d_is_field, d_is_part, d_field_of, d_field_text, d_parts_of, d_Keys___init__, d_Keys_p_names, d_Keys_told, d_Keys__check, d__all_told, d_is_numeral, d_number_of, d_written, d_least_factor, d_is_prime_power, d_prime_powers, d__primes, d__some_factor, d_Stage___init__, d_all_names, d__joined, d__closed, d_BadField___init__, d__law_box, d__law_take, d__law_cells, d__law_of, d__law_same, d__law_mixed, d__law_number, d__law_heard, d__law_bad_right, d__law_right, d_law]
def fa1 : List He.Fa := [.glo "is_name", .glo "is_field", .glo "is_part", .glo "field_of", .glo "field_text", .glo "parts_of", .glo "_all_told", .glo "is_numeral", .glo "number_of", .glo "written", .glo "least_factor", .glo "is_prime_power", .glo "prime_powers", .glo "_primes", .glo "_some_factor", .glo "all_names", .glo "_joined", .glo "_closed", .glo "_law_box", .glo "_law_take", .glo "_law_cells", .glo "_law_of", .glo "_law_same", .glo "_law_mixed", .glo "_law_number", .glo "_law_heard", .glo "_law_bad_right", .glo "_law_right", .glo "law", .glo "NoName"]
def fa2 : List He.Fa := [.glo "BadField", .glo "BadLine", .glo "Ringed", .glo "MixedKeys", .glo "Keys", .glo "Stage", .free "len", .free "isinstance", .free "all", .free "sorted", .free "set", .free "tuple", .free "list", .free "range", .free "int", .free "str", .free "abs", .free "zip", .free "enumerate", .free "divmod", .free "LookupError", .free "ValueError", .free "bool", .free "dict", .free "sum", .free "any", .str "_DIGITS" "0123456789", .int "_ROOT" 1000, .int "_GREATEST" 1000000, .int "_STRIDES" 10000]
def fa3 : List He.Fa := [.int "_AT_ONCE" 50, .cls "Keys", .mkr "Keys", .noat "Keys" "_names", .noat "Keys" "_told", .cls "Stage", .mkr "Stage", .noat "Stage" "_numbers", .noat "Stage" "_schema", .meth "Keys" "told", .meth "Keys" "_check"]
def fa : List He.Fa := fa1 ++ (fa2 ++ fa3)
def exs0 : List (PySem.W.Frag → Bool) := [fun K => oexB K "BadField", fun K => oexB K "BadLine", fun K => oexB K "Ringed", fun K => oexB K "MixedKeys", fun K => lexB K "NoName", fun K => blB K "gcd" "math.gcd", fun K => blB K "lcm" "math.lcm", fun K => He.eqO (PySem.W.nsIn K mainGlobals "NotImplemented") (some none), fun K => propB K "Keys" "names", fun K => xcB K (He.ga K "NoName"), fun K => decide (PySem.W.kitOne K (.ref (He.ga K "NoName")) (.type "LookupError") = some true), fun K => He.eqO (PySem.W.findIn K (.ref (He.ga K "NoName")) "name") (some none), fun K => xcB K (He.ga K "BadField"), fun K => decide (PySem.W.kitOne K (.ref (He.ga K "BadField")) (.type "ValueError") = some true), fun K => He.eqO (PySem.W.findIn K (.ref (He.ga K "BadField")) "field") (some none), fun K => xcB K (He.ga K "BadLine"), fun K => decide (PySem.W.kitOne K (.ref (He.ga K "BadLine")) (.type "ValueError") = some true), fun K => He.eqO (PySem.W.findIn K (.ref (He.ga K "BadLine")) "number") (some none), fun K => xcB K (He.ga K "Ringed"), fun K => decide (PySem.W.kitOne K (.ref (He.ga K "Ringed")) (.type "ValueError") = some true)]
def exs1 : List (PySem.W.Frag → Bool) := [fun K => He.eqO (PySem.W.findIn K (.ref (He.ga K "Ringed")) "ring") (some none), fun K => xcB K (He.ga K "MixedKeys"), fun K => decide (PySem.W.kitOne K (.ref (He.ga K "MixedKeys")) (.type "ValueError") = some true), fun K => decide (PySem.W.kitOne K (.ref (He.ga K "Keys")) (.type "str") = some false), fun K => decide (PySem.W.kitOne K (.ref (He.ga K "Keys")) (.type "list") = some false), fun K => decide (PySem.W.kitOne K (.ref (He.ga K "Keys")) (.type "tuple") = some false), fun K => decide (PySem.W.kitOne K (.ref (He.ga K "Keys")) (.type "bool") = some false), fun K => decide (PySem.W.kitOne K (.ref (He.ga K "Keys")) (.type "int") = some false), fun K => decide (PySem.W.kitOne K (.ref (He.ga K "Keys")) (.ref (He.ga K "Keys")) = some true), fun K => decide (PySem.W.kitOne K (.ref (He.ga K "Keys")) (.ref (He.ga K "Stage")) = some false), fun K => decide (PySem.W.kitOne K (.ref (He.ga K "Stage")) (.type "str") = some false), fun K => decide (PySem.W.kitOne K (.ref (He.ga K "Stage")) (.type "list") = some false), fun K => decide (PySem.W.kitOne K (.ref (He.ga K "Stage")) (.type "tuple") = some false), fun K => decide (PySem.W.kitOne K (.ref (He.ga K "Stage")) (.type "bool") = some false), fun K => decide (PySem.W.kitOne K (.ref (He.ga K "Stage")) (.type "int") = some false), fun K => decide (PySem.W.kitOne K (.ref (He.ga K "Stage")) (.ref (He.ga K "Keys")) = some false), fun K => decide (PySem.W.kitOne K (.ref (He.ga K "Stage")) (.ref (He.ga K "Stage")) = some true), fun K => tyB K (He.ga K "Keys"), fun K => tyB K (He.ga K "Stage"), fun K => tup0B K (dflA (fun K => He.ma K (He.ga K "Keys") "__init__") 0 K)]
def exs2 : List (PySem.W.Frag → Bool) := [fun K => decide (PySem.W.exmOne K (.ref (He.ga K "NoName")) (.ref (He.ga K "NoName")) = some true), fun K => decide (PySem.W.exmOne K (.ref (He.ga K "NoName")) (.ref (He.ga K "BadField")) = some false), fun K => decide (PySem.W.exmOne K (.ref (He.ga K "NoName")) (.ref (He.ga K "BadLine")) = some false), fun K => decide (PySem.W.exmOne K (.ref (He.ga K "NoName")) (.ref (He.ga K "Ringed")) = some false), fun K => decide (PySem.W.exmOne K (.ref (He.ga K "NoName")) (.ref (He.ga K "MixedKeys")) = some false), fun K => decide (PySem.W.exmOne K (.ref (He.ga K "BadField")) (.ref (He.ga K "NoName")) = some false), fun K => decide (PySem.W.exmOne K (.ref (He.ga K "BadField")) (.ref (He.ga K "BadField")) = some true), fun K => decide (PySem.W.exmOne K (.ref (He.ga K "BadField")) (.ref (He.ga K "BadLine")) = some false), fun K => decide (PySem.W.exmOne K (.ref (He.ga K "BadField")) (.ref (He.ga K "Ringed")) = some false), fun K => decide (PySem.W.exmOne K (.ref (He.ga K "BadField")) (.ref (He.ga K "MixedKeys")) = some false), fun K => decide (PySem.W.exmOne K (.ref (He.ga K "BadLine")) (.ref (He.ga K "NoName")) = some false), fun K => decide (PySem.W.exmOne K (.ref (He.ga K "BadLine")) (.ref (He.ga K "BadField")) = some false), fun K => decide (PySem.W.exmOne K (.ref (He.ga K "BadLine")) (.ref (He.ga K "BadLine")) = some true), fun K => decide (PySem.W.exmOne K (.ref (He.ga K "BadLine")) (.ref (He.ga K "Ringed")) = some false), fun K => decide (PySem.W.exmOne K (.ref (He.ga K "BadLine")) (.ref (He.ga K "MixedKeys")) = some false), fun K => decide (PySem.W.exmOne K (.ref (He.ga K "Ringed")) (.ref (He.ga K "NoName")) = some false), fun K => decide (PySem.W.exmOne K (.ref (He.ga K "Ringed")) (.ref (He.ga K "BadField")) = some false), fun K => decide (PySem.W.exmOne K (.ref (He.ga K "Ringed")) (.ref (He.ga K "BadLine")) = some false), fun K => decide (PySem.W.exmOne K (.ref (He.ga K "Ringed")) (.ref (He.ga K "Ringed")) = some true), fun K => decide (PySem.W.exmOne K (.ref (He.ga K "Ringed")) (.ref (He.ga K "MixedKeys")) = some false)]
def exs3 : List (PySem.W.Frag → Bool) := [fun K => decide (PySem.W.exmOne K (.ref (He.ga K "MixedKeys")) (.ref (He.ga K "NoName")) = some false), fun K => decide (PySem.W.exmOne K (.ref (He.ga K "MixedKeys")) (.ref (He.ga K "BadField")) = some false), fun K => decide (PySem.W.exmOne K (.ref (He.ga K "MixedKeys")) (.ref (He.ga K "BadLine")) = some false), fun K => decide (PySem.W.exmOne K (.ref (He.ga K "MixedKeys")) (.ref (He.ga K "Ringed")) = some false), fun K => decide (PySem.W.exmOne K (.ref (He.ga K "MixedKeys")) (.ref (He.ga K "MixedKeys")) = some true)]
def exs : List (PySem.W.Frag → Bool) := exs0 ++ (exs1 ++ (exs2 ++ (exs3)))
def ex1 (K : PySem.W.Frag) : Bool := exs.all fun f => f K

abbrev R : PySem.W.OpenRow := PySem.W.OpenLaw.row PySem.Challenge.rw_keyspans_k00_fields_or_none
abbrev qv : Program := PySem.W.view R.prog [0, 57]
abbrev hk : PySem.W.Hook := hookJ 6 fa fn ex1
def ob (s : PySem.W.SharedT) : AlJ := obsJG 6 fa fn ex1 (HandSHeadRun.getT s)
theorem ob_eq (s : PySem.W.SharedT) : ob s = hk.obs s.abs := obsJG_eq (HandSHeadRun.getT_eq s)
def lo0 : List Str := ["_wall", "NoName", "BadField", "BadLine", "Ringed", "MixedKeys", "_DIGITS", "is_numeral", "number_of", "written", "_ROOT", "_GREATEST", "_STRIDES", "_AT_ONCE", "least_factor", "is_prime_power", "prime_powers", "_primes", "_some_factor", "_met", "_met_first", "_stride", "is_name", "is_field", "is_part", "field_of", "field_text", "parts_of", "all_names", "words_of"]
def lo1 : List Str := ["Keys", "_stated", "_all_told", "Stage", "_joined", "_closed", "_divides", "stage_of_numbers", "check_same_keys", "_parted", "_law_box", "_law_take", "_law_cells", "_law_of", "_law_same", "_law_mixed", "_law_number", "_law_heard", "_law_bad_right", "_law_right"]
def loose : List Str := lo0 ++ lo1
theorem run (w : World) : HandSHeadRun.RunEqI R qv hk ob 6000 loose w := by
  unfold HandSHeadRun.RunEqI
  kernel_rfl
end Jd
namespace Jd
open PySem PySem.Spec PyProof.Rows L2
/-- what the top has written -/
structure Bk (K : PySem.W.Frag) (mg : Str → Option Value) : Prop where
  c : SaysJ fa fn ex1 K
  h : ∃ h : Heap, K.In h ∧ h.Ns mainGlobals mg
section
variable {K : PySem.W.Frag} {mg : Str → Option Value}
theorem Bk.fact (B : Bk K mg) (i : Nat) {f : He.Fa} (h : fa[i]? = some f := by rfl) : f.ok K = true := B.c.fact (List.mem_of_getElem? h)
theorem Bk.ex (B : Bk K mg) (i : Nat) {f : PySem.W.Frag → Bool} (h : exs[i]? = some f := by rfl) : f K = true := List.all_eq_true.mp B.c.b.2 f (List.mem_of_getElem? h)
theorem Bk.fn_ (B : Bk K mg) (i : Nat) {d : He5.DefA} (h : fn[i]? = some d := by rfl) : ∃ fd, L2.FunD K d.name d.qual d.params d.body d.scope (d.dvs K) (d.kws K) (d.at_ K) fd := B.c.def_ (List.mem_of_getElem? h)

theorem Bk.g_is_name (B : Bk K mg) : mg "is_name" = some (.ref (He.ga K "is_name")) := let ⟨_, X, G⟩ := B.h; He.glo_ok X G (B.fact 0 (f := .glo "is_name"))
theorem Bk.g_is_field (B : Bk K mg) : mg "is_field" = some (.ref (He.ga K "is_field")) := let ⟨_, X, G⟩ := B.h; He.glo_ok X G (B.fact 1 (f := .glo "is_field"))
theorem Bk.g_is_part (B : Bk K mg) : mg "is_part" = some (.ref (He.ga K "is_part")) := let ⟨_, X, G⟩ := B.h; He.glo_ok X G (B.fact 2 (f := .glo "is_part"))
theorem Bk.g_field_of (B : Bk K mg) : mg "field_of" = some (.ref (He.ga K "field_of")) := let ⟨_, X, G⟩ := B.h; He.glo_ok X G (B.fact 3 (f := .glo "field_of"))
theorem Bk.g_field_text (B : Bk K mg) : mg "field_text" = some (.ref (He.ga K "field_text")) := let ⟨_, X, G⟩ := B.h; He.glo_ok X G (B.fact 4 (f := .glo "field_text"))
theorem Bk.g_parts_of (B : Bk K mg) : mg "parts_of" = some (.ref (He.ga K "parts_of")) := let ⟨_, X, G⟩ := B.h; He.glo_ok X G (B.fact 5 (f := .glo "parts_of"))
theorem Bk.g_all_told (B : Bk K mg) : mg "_all_told" = some (.ref (He.ga K "_all_told")) := let ⟨_, X, G⟩ := B.h; He.glo_ok X G (B.fact 6 (f := .glo "_all_told"))
theorem Bk.g_is_numeral (B : Bk K mg) : mg "is_numeral" = some (.ref (He.ga K "is_numeral")) := let ⟨_, X, G⟩ := B.h; He.glo_ok X G (B.fact 7 (f := .glo "is_numeral"))
theorem Bk.g_number_of (B : Bk K mg) : mg "number_of" = some (.ref (He.ga K "number_of")) := let ⟨_, X, G⟩ := B.h; He.glo_ok X G (B.fact 8 (f := .glo "number_of"))
theorem Bk.g_written (B : Bk K mg) : mg "written" = some (.ref (He.ga K "written")) := let ⟨_, X, G⟩ := B.h; He.glo_ok X G (B.fact 9 (f := .glo "written"))
theorem Bk.g_least_factor (B : Bk K mg) : mg "least_factor" = some (.ref (He.ga K "least_factor")) := let ⟨_, X, G⟩ := B.h; He.glo_ok X G (B.fact 10 (f := .glo "least_factor"))
theorem Bk.g_is_prime_power (B : Bk K mg) : mg "is_prime_power" = some (.ref (He.ga K "is_prime_power")) := let ⟨_, X, G⟩ := B.h; He.glo_ok X G (B.fact 11 (f := .glo "is_prime_power"))
theorem Bk.g_prime_powers (B : Bk K mg) : mg "prime_powers" = some (.ref (He.ga K "prime_powers")) := let ⟨_, X, G⟩ := B.h; He.glo_ok X G (B.fact 12 (f := .glo "prime_powers"))
theorem Bk.g_primes (B : Bk K mg) : mg "_primes" = some (.ref (He.ga K "_primes")) := let ⟨_, X, G⟩ := B.h; He.glo_ok X G (B.fact 13 (f := .glo "_primes"))
theorem Bk.g_some_factor (B : Bk K mg) : mg "_some_factor" = some (.ref (He.ga K "_some_factor")) := let ⟨_, X, G⟩ := B.h; He.glo_ok X G (B.fact 14 (f := .glo "_some_factor"))
theorem Bk.g_all_names (B : Bk K mg) : mg "all_names" = some (.ref (He.ga K "all_names")) := let ⟨_, X, G⟩ := B.h; He.glo_ok X G (B.fact 15 (f := .glo "all_names"))
theorem Bk.g_joined (B : Bk K mg) : mg "_joined" = some (.ref (He.ga K "_joined")) := let ⟨_, X, G⟩ := B.h; He.glo_ok X G (B.fact 16 (f := .glo "_joined"))
theorem Bk.g_closed (B : Bk K mg) : mg "_closed" = some (.ref (He.ga K "_closed")) := let ⟨_, X, G⟩ := B.h; He.glo_ok X G (B.fact 17 (f := .glo "_closed"))
theorem Bk.g_law_box (B : Bk K mg) : mg "_law_box" = some (.ref (He.ga K "_law_box")) := let ⟨_, X, G⟩ := B.h; He.glo_ok X G (B.fact 18 (f := .glo "_law_box"))
theorem Bk.g_law_take (B : Bk K mg) : mg "_law_take" = some (.ref (He.ga K "_law_take")) := let ⟨_, X, G⟩ := B.h; He.glo_ok X G (B.fact 19 (f := .glo "_law_take"))
theorem Bk.g_law_cells (B : Bk K mg) : mg "_law_cells" = some (.ref (He.ga K "_law_cells")) := let ⟨_, X, G⟩ := B.h; He.glo_ok X G (B.fact 20 (f := .glo "_law_cells"))
theorem Bk.g_law_of (B : Bk K mg) : mg "_law_of" = some (.ref (He.ga K "_law_of")) := let ⟨_, X, G⟩ := B.h; He.glo_ok X G (B.fact 21 (f := .glo "_law_of"))
theorem Bk.g_law_same (B : Bk K mg) : mg "_law_same" = some (.ref (He.ga K "_law_same")) := let ⟨_, X, G⟩ := B.h; He.glo_ok X G (B.fact 22 (f := .glo "_law_same"))
theorem Bk.g_law_mixed (B : Bk K mg) : mg "_law_mixed" = some (.ref (He.ga K "_law_mixed")) := let ⟨_, X, G⟩ := B.h; He.glo_ok X G (B.fact 23 (f := .glo "_law_mixed"))
theorem Bk.g_law_number (B : Bk K mg) : mg "_law_number" = some (.ref (He.ga K "_law_number")) := let ⟨_, X, G⟩ := B.h; He.glo_ok X G (B.fact 24 (f := .glo "_law_number"))
theorem Bk.g_law_heard (B : Bk K mg) : mg "_law_heard" = some (.ref (He.ga K "_law_heard")) := let ⟨_, X, G⟩ := B.h; He.glo_ok X G (B.fact 25 (f := .glo "_law_heard"))
theorem Bk.g_law_bad_right (B : Bk K mg) : mg "_law_bad_right" = some (.ref (He.ga K "_law_bad_right")) := let ⟨_, X, G⟩ := B.h; He.glo_ok X G (B.fact 26 (f := .glo "_law_bad_right"))
theorem Bk.g_law_right (B : Bk K mg) : mg "_law_right" = some (.ref (He.ga K "_law_right")) := let ⟨_, X, G⟩ := B.h; He.glo_ok X G (B.fact 27 (f := .glo "_law_right"))
theorem Bk.g_law (B : Bk K mg) : mg "law" = some (.ref (He.ga K "law")) := let ⟨_, X, G⟩ := B.h; He.glo_ok X G (B.fact 28 (f := .glo "law"))
theorem Bk.g_NoName (B : Bk K mg) : mg "NoName" = some (.ref (He.ga K "NoName")) := let ⟨_, X, G⟩ := B.h; He.glo_ok X G (B.fact 29 (f := .glo "NoName"))
theorem Bk.g_BadField (B : Bk K mg) : mg "BadField" = some (.ref (He.ga K "BadField")) := let ⟨_, X, G⟩ := B.h; He.glo_ok X G (B.fact 30 (f := .glo "BadField"))
theorem Bk.g_BadLine (B : Bk K mg) : mg "BadLine" = some (.ref (He.ga K "BadLine")) := let ⟨_, X, G⟩ := B.h; He.glo_ok X G (B.fact 31 (f := .glo "BadLine"))
theorem Bk.g_Ringed (B : Bk K mg) : mg "Ringed" = some (.ref (He.ga K "Ringed")) := let ⟨_, X, G⟩ := B.h; He.glo_ok X G (B.fact 32 (f := .glo "Ringed"))
theorem Bk.g_MixedKeys (B : Bk K mg) : mg "MixedKeys" = some (.ref (He.ga K "MixedKeys")) := let ⟨_, X, G⟩ := B.h; He.glo_ok X G (B.fact 33 (f := .glo "MixedKeys"))
theorem Bk.g_Keys (B : Bk K mg) : mg "Keys" = some (.ref (He.ga K "Keys")) := let ⟨_, X, G⟩ := B.h; He.glo_ok X G (B.fact 34 (f := .glo "Keys"))
theorem Bk.g_Stage (B : Bk K mg) : mg "Stage" = some (.ref (He.ga K "Stage")) := let ⟨_, X, G⟩ := B.h; He.glo_ok X G (B.fact 35 (f := .glo "Stage"))
theorem Bk.b_len (B : Bk K mg) : mg "len" = none := let ⟨_, X, G⟩ := B.h; He.free_ok X G (B.fact 36 (f := .free "len"))
theorem Bk.b_isinstance (B : Bk K mg) : mg "isinstance" = none := let ⟨_, X, G⟩ := B.h; He.free_ok X G (B.fact 37 (f := .free "isinstance"))
theorem Bk.b_all (B : Bk K mg) : mg "all" = none := let ⟨_, X, G⟩ := B.h; He.free_ok X G (B.fact 38 (f := .free "all"))
theorem Bk.b_sorted (B : Bk K mg) : mg "sorted" = none := let ⟨_, X, G⟩ := B.h; He.free_ok X G (B.fact 39 (f := .free "sorted"))
theorem Bk.b_set (B : Bk K mg) : mg "set" = none := let ⟨_, X, G⟩ := B.h; He.free_ok X G (B.fact 40 (f := .free "set"))
theorem Bk.b_tuple (B : Bk K mg) : mg "tuple" = none := let ⟨_, X, G⟩ := B.h; He.free_ok X G (B.fact 41 (f := .free "tuple"))
theorem Bk.b_list (B : Bk K mg) : mg "list" = none := let ⟨_, X, G⟩ := B.h; He.free_ok X G (B.fact 42 (f := .free "list"))
theorem Bk.b_range (B : Bk K mg) : mg "range" = none := let ⟨_, X, G⟩ := B.h; He.free_ok X G (B.fact 43 (f := .free "range"))
theorem Bk.b_int (B : Bk K mg) : mg "int" = none := let ⟨_, X, G⟩ := B.h; He.free_ok X G (B.fact 44 (f := .free "int"))
theorem Bk.b_str (B : Bk K mg) : mg "str" = none := let ⟨_, X, G⟩ := B.h; He.free_ok X G (B.fact 45 (f := .free "str"))
theorem Bk.b_abs (B : Bk K mg) : mg "abs" = none := let ⟨_, X, G⟩ := B.h; He.free_ok X G (B.fact 46 (f := .free "abs"))
theorem Bk.b_zip (B : Bk K mg) : mg "zip" = none := let ⟨_, X, G⟩ := B.h; He.free_ok X G (B.fact 47 (f := .free "zip"))
theorem Bk.b_enumerate (B : Bk K mg) : mg "enumerate" = none := let ⟨_, X, G⟩ := B.h; He.free_ok X G (B.fact 48 (f := .free "enumerate"))
theorem Bk.b_divmod (B : Bk K mg) : mg "divmod" = none := let ⟨_, X, G⟩ := B.h; He.free_ok X G (B.fact 49 (f := .free "divmod"))
theorem Bk.b_LookupError (B : Bk K mg) : mg "LookupError" = none := let ⟨_, X, G⟩ := B.h; He.free_ok X G (B.fact 50 (f := .free "LookupError"))
theorem Bk.b_ValueError (B : Bk K mg) : mg "ValueError" = none := let ⟨_, X, G⟩ := B.h; He.free_ok X G (B.fact 51 (f := .free "ValueError"))
theorem Bk.b_bool (B : Bk K mg) : mg "bool" = none := let ⟨_, X, G⟩ := B.h; He.free_ok X G (B.fact 52 (f := .free "bool"))
theorem Bk.b_dict (B : Bk K mg) : mg "dict" = none := let ⟨_, X, G⟩ := B.h; He.free_ok X G (B.fact 53 (f := .free "dict"))
theorem Bk.b_sum (B : Bk K mg) : mg "sum" = none := let ⟨_, X, G⟩ := B.h; He.free_ok X G (B.fact 54 (f := .free "sum"))
theorem Bk.b_any (B : Bk K mg) : mg "any" = none := let ⟨_, X, G⟩ := B.h; He.free_ok X G (B.fact 55 (f := .free "any"))
theorem Bk.c_DIGITS (B : Bk K mg) : ∃ t, mg "_DIGITS" = some (.str "0123456789" t) := let ⟨_, X, G⟩ := B.h; He.str_ok X G (B.fact 56 (f := .str "_DIGITS" "0123456789"))
theorem Bk.c_ROOT (B : Bk K mg) : ∃ t, mg "_ROOT" = some (.int 1000 t) := let ⟨_, X, G⟩ := B.h; He.int_ok X G (B.fact 57 (f := .int "_ROOT" 1000))
theorem Bk.c_GREATEST (B : Bk K mg) : ∃ t, mg "_GREATEST" = some (.int 1000000 t) := let ⟨_, X, G⟩ := B.h; He.int_ok X G (B.fact 58 (f := .int "_GREATEST" 1000000))
theorem Bk.c_STRIDES (B : Bk K mg) : ∃ t, mg "_STRIDES" = some (.int 10000 t) := let ⟨_, X, G⟩ := B.h; He.int_ok X G (B.fact 59 (f := .int "_STRIDES" 10000))
theorem Bk.c_AT_ONCE (B : Bk K mg) : ∃ t, mg "_AT_ONCE" = some (.int 50 t) := let ⟨_, X, G⟩ := B.h; He.int_ok X G (B.fact 60 (f := .int "_AT_ONCE" 50))
theorem Bk.cl_Keys (B : Bk K mg) : Cls K (He.ga K "Keys") := He.cls_ok (B.fact 61 (f := .cls "Keys"))
theorem Bk.mk_Keys (B : Bk K mg) : Mk K (He.ga K "Keys") (He.ma K (He.ga K "Keys") "__init__") := He.mkr_ok (B.fact 62 (f := .mkr "Keys"))
theorem Bk.no_Keys__names (B : Bk K mg) : NoAttr K (He.ga K "Keys") "_names" := He.noat_ok (B.fact 63 (f := .noat "Keys" "_names"))
theorem Bk.no_Keys__told (B : Bk K mg) : NoAttr K (He.ga K "Keys") "_told" := He.noat_ok (B.fact 64 (f := .noat "Keys" "_told"))
theorem Bk.cl_Stage (B : Bk K mg) : Cls K (He.ga K "Stage") := He.cls_ok (B.fact 65 (f := .cls "Stage"))
theorem Bk.mk_Stage (B : Bk K mg) : Mk K (He.ga K "Stage") (He.ma K (He.ga K "Stage") "__init__") := He.mkr_ok (B.fact 66 (f := .mkr "Stage"))
theorem Bk.no_Stage__numbers (B : Bk K mg) : NoAttr K (He.ga K "Stage") "_numbers" := He.noat_ok (B.fact 67 (f := .noat "Stage" "_numbers"))
theorem Bk.no_Stage__schema (B : Bk K mg) : NoAttr K (He.ga K "Stage") "_schema" := He.noat_ok (B.fact 68 (f := .noat "Stage" "_schema"))
theorem Bk.me_Keys_told (B : Bk K mg) : Meth K (He.ga K "Keys") "told" (He.ma K (He.ga K "Keys") "told") := He.meth_ok (B.fact 69 (f := .meth "Keys" "told"))
theorem Bk.me_Keys__check (B : Bk K mg) : Meth K (He.ga K "Keys") "_check" (He.ma K (He.ga K "Keys") "_check") := He.meth_ok (B.fact 70 (f := .meth "Keys" "_check"))
theorem Bk.ox_BadField (B : Bk K mg) : OexC K (He.ga K "BadField") ∧ PySem.W.findIn K (.ref (He.ga K "BadField")) "__init__" = some (some (.ref (He.ma K (He.ga K "BadField") "__init__"))) ∧ PySem.W.typeIn K (.ref (He.ma K (He.ga K "BadField") "__init__")) = some (.type "function") := oexB_ok (B.ex 0 (f := fun K => oexB K "BadField"))
theorem Bk.ox_BadLine (B : Bk K mg) : OexC K (He.ga K "BadLine") ∧ PySem.W.findIn K (.ref (He.ga K "BadLine")) "__init__" = some (some (.ref (He.ma K (He.ga K "BadLine") "__init__"))) ∧ PySem.W.typeIn K (.ref (He.ma K (He.ga K "BadLine") "__init__")) = some (.type "function") := oexB_ok (B.ex 1 (f := fun K => oexB K "BadLine"))
theorem Bk.ox_Ringed (B : Bk K mg) : OexC K (He.ga K "Ringed") ∧ PySem.W.findIn K (.ref (He.ga K "Ringed")) "__init__" = some (some (.ref (He.ma K (He.ga K "Ringed") "__init__"))) ∧ PySem.W.typeIn K (.ref (He.ma K (He.ga K "Ringed") "__init__")) = some (.type "function") := oexB_ok (B.ex 2 (f := fun K => oexB K "Ringed"))
theorem Bk.ox_MixedKeys (B : Bk K mg) : OexC K (He.ga K "MixedKeys") ∧ PySem.W.findIn K (.ref (He.ga K "MixedKeys")) "__init__" = some (some (.ref (He.ma K (He.ga K "MixedKeys") "__init__"))) ∧ PySem.W.typeIn K (.ref (He.ma K (He.ga K "MixedKeys") "__init__")) = some (.type "function") := oexB_ok (B.ex 3 (f := fun K => oexB K "MixedKeys"))
theorem Bk.lx_NoName (B : Bk K mg) : LexC K (He.ga K "NoName") ∧ PySem.W.findIn K (.ref (He.ga K "NoName")) "__init__" = some (some (.ref (He.ma K (He.ga K "NoName") "__init__"))) ∧ PySem.W.typeIn K (.ref (He.ma K (He.ga K "NoName") "__init__")) = some (.type "function") := lexB_ok (B.ex 4 (f := fun K => lexB K "NoName"))
theorem Bk.bl_gcd (B : Bk K mg) : mg "gcd" = some (.builtin "math.gcd") := let ⟨_, X, G⟩ := B.h; blB_ok X G (B.ex 5 (f := fun K => blB K "gcd" "math.gcd"))
theorem Bk.bl_lcm (B : Bk K mg) : mg "lcm" = some (.builtin "math.lcm") := let ⟨_, X, G⟩ := B.h; blB_ok X G (B.ex 6 (f := fun K => blB K "lcm" "math.lcm"))
theorem Bk.pr_Keys_names (B : Bk K mg) : PropOf K (He.ga K "Keys") "names" (He.ma K (He.ga K "Keys") "names") (propG K "Keys" "names") := propB_ok (B.ex 8 (f := fun K => propB K "Keys" "names"))
theorem Bk.xc_NoName (B : Bk K mg) : ExcC K (He.ga K "NoName") := xcB_ok (B.ex 9 (f := fun K => xcB K (He.ga K "NoName")))
theorem Bk.kit_NoName_LookupError (B : Bk K mg) : PySem.W.kitOne K (.ref (He.ga K "NoName")) (.type "LookupError") = some true := of_decide_eq_true (B.ex 10 (f := fun K => decide (PySem.W.kitOne K (.ref (He.ga K "NoName")) (.type "LookupError") = some true)))
theorem Bk.nf_NoName_name (B : Bk K mg) : PySem.W.findIn K (.ref (He.ga K "NoName")) "name" = some none := He.eqO_ok (B.ex 11 (f := fun K => He.eqO (PySem.W.findIn K (.ref (He.ga K "NoName")) "name") (some none)))
theorem Bk.xc_BadField (B : Bk K mg) : ExcC K (He.ga K "BadField") := xcB_ok (B.ex 12 (f := fun K => xcB K (He.ga K "BadField")))
theorem Bk.kit_BadField_ValueError (B : Bk K mg) : PySem.W.kitOne K (.ref (He.ga K "BadField")) (.type "ValueError") = some true := of_decide_eq_true (B.ex 13 (f := fun K => decide (PySem.W.kitOne K (.ref (He.ga K "BadField")) (.type "ValueError") = some true)))
theorem Bk.nf_BadField_field (B : Bk K mg) : PySem.W.findIn K (.ref (He.ga K "BadField")) "field" = some none := He.eqO_ok (B.ex 14 (f := fun K => He.eqO (PySem.W.findIn K (.ref (He.ga K "BadField")) "field") (some none)))
theorem Bk.xc_BadLine (B : Bk K mg) : ExcC K (He.ga K "BadLine") := xcB_ok (B.ex 15 (f := fun K => xcB K (He.ga K "BadLine")))
theorem Bk.kit_BadLine_ValueError (B : Bk K mg) : PySem.W.kitOne K (.ref (He.ga K "BadLine")) (.type "ValueError") = some true := of_decide_eq_true (B.ex 16 (f := fun K => decide (PySem.W.kitOne K (.ref (He.ga K "BadLine")) (.type "ValueError") = some true)))
theorem Bk.nf_BadLine_number (B : Bk K mg) : PySem.W.findIn K (.ref (He.ga K "BadLine")) "number" = some none := He.eqO_ok (B.ex 17 (f := fun K => He.eqO (PySem.W.findIn K (.ref (He.ga K "BadLine")) "number") (some none)))
theorem Bk.xc_Ringed (B : Bk K mg) : ExcC K (He.ga K "Ringed") := xcB_ok (B.ex 18 (f := fun K => xcB K (He.ga K "Ringed")))
theorem Bk.kit_Ringed_ValueError (B : Bk K mg) : PySem.W.kitOne K (.ref (He.ga K "Ringed")) (.type "ValueError") = some true := of_decide_eq_true (B.ex 19 (f := fun K => decide (PySem.W.kitOne K (.ref (He.ga K "Ringed")) (.type "ValueError") = some true)))
theorem Bk.nf_Ringed_ring (B : Bk K mg) : PySem.W.findIn K (.ref (He.ga K "Ringed")) "ring" = some none := He.eqO_ok (B.ex 20 (f := fun K => He.eqO (PySem.W.findIn K (.ref (He.ga K "Ringed")) "ring") (some none)))
theorem Bk.xc_MixedKeys (B : Bk K mg) : ExcC K (He.ga K "MixedKeys") := xcB_ok (B.ex 21 (f := fun K => xcB K (He.ga K "MixedKeys")))
theorem Bk.kit_MixedKeys_ValueError (B : Bk K mg) : PySem.W.kitOne K (.ref (He.ga K "MixedKeys")) (.type "ValueError") = some true := of_decide_eq_true (B.ex 22 (f := fun K => decide (PySem.W.kitOne K (.ref (He.ga K "MixedKeys")) (.type "ValueError") = some true)))
theorem Bk.kit_Keys_str (B : Bk K mg) : PySem.W.kitOne K (.ref (He.ga K "Keys")) (.type "str") = some false := of_decide_eq_true (B.ex 23 (f := fun K => decide (PySem.W.kitOne K (.ref (He.ga K "Keys")) (.type "str") = some false)))
theorem Bk.kit_Keys_list (B : Bk K mg) : PySem.W.kitOne K (.ref (He.ga K "Keys")) (.type "list") = some false := of_decide_eq_true (B.ex 24 (f := fun K => decide (PySem.W.kitOne K (.ref (He.ga K "Keys")) (.type "list") = some false)))
theorem Bk.kit_Keys_tuple (B : Bk K mg) : PySem.W.kitOne K (.ref (He.ga K "Keys")) (.type "tuple") = some false := of_decide_eq_true (B.ex 25 (f := fun K => decide (PySem.W.kitOne K (.ref (He.ga K "Keys")) (.type "tuple") = some false)))
theorem Bk.kit_Keys_bool (B : Bk K mg) : PySem.W.kitOne K (.ref (He.ga K "Keys")) (.type "bool") = some false := of_decide_eq_true (B.ex 26 (f := fun K => decide (PySem.W.kitOne K (.ref (He.ga K "Keys")) (.type "bool") = some false)))
theorem Bk.kit_Keys_int (B : Bk K mg) : PySem.W.kitOne K (.ref (He.ga K "Keys")) (.type "int") = some false := of_decide_eq_true (B.ex 27 (f := fun K => decide (PySem.W.kitOne K (.ref (He.ga K "Keys")) (.type "int") = some false)))
theorem Bk.kit_Keys_Keys (B : Bk K mg) : PySem.W.kitOne K (.ref (He.ga K "Keys")) (.ref (He.ga K "Keys")) = some true := of_decide_eq_true (B.ex 28 (f := fun K => decide (PySem.W.kitOne K (.ref (He.ga K "Keys")) (.ref (He.ga K "Keys")) = some true)))
theorem Bk.kit_Keys_Stage (B : Bk K mg) : PySem.W.kitOne K (.ref (He.ga K "Keys")) (.ref (He.ga K "Stage")) = some false := of_decide_eq_true (B.ex 29 (f := fun K => decide (PySem.W.kitOne K (.ref (He.ga K "Keys")) (.ref (He.ga K "Stage")) = some false)))
theorem Bk.kit_Stage_str (B : Bk K mg) : PySem.W.kitOne K (.ref (He.ga K "Stage")) (.type "str") = some false := of_decide_eq_true (B.ex 30 (f := fun K => decide (PySem.W.kitOne K (.ref (He.ga K "Stage")) (.type "str") = some false)))
theorem Bk.kit_Stage_list (B : Bk K mg) : PySem.W.kitOne K (.ref (He.ga K "Stage")) (.type "list") = some false := of_decide_eq_true (B.ex 31 (f := fun K => decide (PySem.W.kitOne K (.ref (He.ga K "Stage")) (.type "list") = some false)))
theorem Bk.kit_Stage_tuple (B : Bk K mg) : PySem.W.kitOne K (.ref (He.ga K "Stage")) (.type "tuple") = some false := of_decide_eq_true (B.ex 32 (f := fun K => decide (PySem.W.kitOne K (.ref (He.ga K "Stage")) (.type "tuple") = some false)))
theorem Bk.kit_Stage_bool (B : Bk K mg) : PySem.W.kitOne K (.ref (He.ga K "Stage")) (.type "bool") = some false := of_decide_eq_true (B.ex 33 (f := fun K => decide (PySem.W.kitOne K (.ref (He.ga K "Stage")) (.type "bool") = some false)))
theorem Bk.kit_Stage_int (B : Bk K mg) : PySem.W.kitOne K (.ref (He.ga K "Stage")) (.type "int") = some false := of_decide_eq_true (B.ex 34 (f := fun K => decide (PySem.W.kitOne K (.ref (He.ga K "Stage")) (.type "int") = some false)))
theorem Bk.kit_Stage_Keys (B : Bk K mg) : PySem.W.kitOne K (.ref (He.ga K "Stage")) (.ref (He.ga K "Keys")) = some false := of_decide_eq_true (B.ex 35 (f := fun K => decide (PySem.W.kitOne K (.ref (He.ga K "Stage")) (.ref (He.ga K "Keys")) = some false)))
theorem Bk.kit_Stage_Stage (B : Bk K mg) : PySem.W.kitOne K (.ref (He.ga K "Stage")) (.ref (He.ga K "Stage")) = some true := of_decide_eq_true (B.ex 36 (f := fun K => decide (PySem.W.kitOne K (.ref (He.ga K "Stage")) (.ref (He.ga K "Stage")) = some true)))
theorem Bk.ty_Keys (B : Bk K mg) : PySem.W.findIn K (.ref (He.ga K "Keys")) "__class__" = some (some (.builtin "object.__class__")) ∧ PySem.W.specialIn K (.builtin "object.__class__") "__get__" = some (some (.builtin "getset_descriptor.__get__")) ∧ PySem.W.takesIn K (.builtin "object.__class__") = some true ∧ PySem.W.mroIn K (He.ga K "Keys") (.type "object") = some true := tyB_ok (B.ex 37 (f := fun K => tyB K (He.ga K "Keys")))
theorem Bk.ty_Stage (B : Bk K mg) : PySem.W.findIn K (.ref (He.ga K "Stage")) "__class__" = some (some (.builtin "object.__class__")) ∧ PySem.W.specialIn K (.builtin "object.__class__") "__get__" = some (some (.builtin "getset_descriptor.__get__")) ∧ PySem.W.takesIn K (.builtin "object.__class__") = some true ∧ PySem.W.mroIn K (He.ga K "Stage") (.type "object") = some true := tyB_ok (B.ex 38 (f := fun K => tyB K (He.ga K "Stage")))
theorem Bk.df_Keys_init (B : Bk K mg) (H : Hp) : SqT K H (dflA (fun K => He.ma K (He.ga K "Keys") "__init__") 0 K) [] := tup0B_ok (B.ex 39 (f := fun K => tup0B K (dflA (fun K => He.ma K (He.ga K "Keys") "__init__") 0 K))) H
theorem Bk.exm_NoName_NoName (B : Bk K mg) : PySem.W.exmOne K (.ref (He.ga K "NoName")) (.ref (He.ga K "NoName")) = some true := of_decide_eq_true (B.ex 40 (f := fun K => decide (PySem.W.exmOne K (.ref (He.ga K "NoName")) (.ref (He.ga K "NoName")) = some true)))
theorem Bk.exm_NoName_BadField (B : Bk K mg) : PySem.W.exmOne K (.ref (He.ga K "NoName")) (.ref (He.ga K "BadField")) = some false := of_decide_eq_true (B.ex 41 (f := fun K => decide (PySem.W.exmOne K (.ref (He.ga K "NoName")) (.ref (He.ga K "BadField")) = some false)))
theorem Bk.exm_NoName_BadLine (B : Bk K mg) : PySem.W.exmOne K (.ref (He.ga K "NoName")) (.ref (He.ga K "BadLine")) = some false := of_decide_eq_true (B.ex 42 (f := fun K => decide (PySem.W.exmOne K (.ref (He.ga K "NoName")) (.ref (He.ga K "BadLine")) = some false)))
theorem Bk.exm_NoName_Ringed (B : Bk K mg) : PySem.W.exmOne K (.ref (He.ga K "NoName")) (.ref (He.ga K "Ringed")) = some false := of_decide_eq_true (B.ex 43 (f := fun K => decide (PySem.W.exmOne K (.ref (He.ga K "NoName")) (.ref (He.ga K "Ringed")) = some false)))
theorem Bk.exm_NoName_MixedKeys (B : Bk K mg) : PySem.W.exmOne K (.ref (He.ga K "NoName")) (.ref (He.ga K "MixedKeys")) = some false := of_decide_eq_true (B.ex 44 (f := fun K => decide (PySem.W.exmOne K (.ref (He.ga K "NoName")) (.ref (He.ga K "MixedKeys")) = some false)))
theorem Bk.exm_BadField_NoName (B : Bk K mg) : PySem.W.exmOne K (.ref (He.ga K "BadField")) (.ref (He.ga K "NoName")) = some false := of_decide_eq_true (B.ex 45 (f := fun K => decide (PySem.W.exmOne K (.ref (He.ga K "BadField")) (.ref (He.ga K "NoName")) = some false)))
theorem Bk.exm_BadField_BadField (B : Bk K mg) : PySem.W.exmOne K (.ref (He.ga K "BadField")) (.ref (He.ga K "BadField")) = some true := of_decide_eq_true (B.ex 46 (f := fun K => decide (PySem.W.exmOne K (.ref (He.ga K "BadField")) (.ref (He.ga K "BadField")) = some true)))
theorem Bk.exm_BadField_BadLine (B : Bk K mg) : PySem.W.exmOne K (.ref (He.ga K "BadField")) (.ref (He.ga K "BadLine")) = some false := of_decide_eq_true (B.ex 47 (f := fun K => decide (PySem.W.exmOne K (.ref (He.ga K "BadField")) (.ref (He.ga K "BadLine")) = some false)))
theorem Bk.exm_BadField_Ringed (B : Bk K mg) : PySem.W.exmOne K (.ref (He.ga K "BadField")) (.ref (He.ga K "Ringed")) = some false := of_decide_eq_true (B.ex 48 (f := fun K => decide (PySem.W.exmOne K (.ref (He.ga K "BadField")) (.ref (He.ga K "Ringed")) = some false)))
theorem Bk.exm_BadField_MixedKeys (B : Bk K mg) : PySem.W.exmOne K (.ref (He.ga K "BadField")) (.ref (He.ga K "MixedKeys")) = some false := of_decide_eq_true (B.ex 49 (f := fun K => decide (PySem.W.exmOne K (.ref (He.ga K "BadField")) (.ref (He.ga K "MixedKeys")) = some false)))
theorem Bk.exm_BadLine_NoName (B : Bk K mg) : PySem.W.exmOne K (.ref (He.ga K "BadLine")) (.ref (He.ga K "NoName")) = some false := of_decide_eq_true (B.ex 50 (f := fun K => decide (PySem.W.exmOne K (.ref (He.ga K "BadLine")) (.ref (He.ga K "NoName")) = some false)))
theorem Bk.exm_BadLine_BadField (B : Bk K mg) : PySem.W.exmOne K (.ref (He.ga K "BadLine")) (.ref (He.ga K "BadField")) = some false := of_decide_eq_true (B.ex 51 (f := fun K => decide (PySem.W.exmOne K (.ref (He.ga K "BadLine")) (.ref (He.ga K "BadField")) = some false)))
theorem Bk.exm_BadLine_BadLine (B : Bk K mg) : PySem.W.exmOne K (.ref (He.ga K "BadLine")) (.ref (He.ga K "BadLine")) = some true := of_decide_eq_true (B.ex 52 (f := fun K => decide (PySem.W.exmOne K (.ref (He.ga K "BadLine")) (.ref (He.ga K "BadLine")) = some true)))
theorem Bk.exm_BadLine_Ringed (B : Bk K mg) : PySem.W.exmOne K (.ref (He.ga K "BadLine")) (.ref (He.ga K "Ringed")) = some false := of_decide_eq_true (B.ex 53 (f := fun K => decide (PySem.W.exmOne K (.ref (He.ga K "BadLine")) (.ref (He.ga K "Ringed")) = some false)))
theorem Bk.exm_BadLine_MixedKeys (B : Bk K mg) : PySem.W.exmOne K (.ref (He.ga K "BadLine")) (.ref (He.ga K "MixedKeys")) = some false := of_decide_eq_true (B.ex 54 (f := fun K => decide (PySem.W.exmOne K (.ref (He.ga K "BadLine")) (.ref (He.ga K "MixedKeys")) = some false)))
theorem Bk.exm_Ringed_NoName (B : Bk K mg) : PySem.W.exmOne K (.ref (He.ga K "Ringed")) (.ref (He.ga K "NoName")) = some false := of_decide_eq_true (B.ex 55 (f := fun K => decide (PySem.W.exmOne K (.ref (He.ga K "Ringed")) (.ref (He.ga K "NoName")) = some false)))
theorem Bk.exm_Ringed_BadField (B : Bk K mg) : PySem.W.exmOne K (.ref (He.ga K "Ringed")) (.ref (He.ga K "BadField")) = some false := of_decide_eq_true (B.ex 56 (f := fun K => decide (PySem.W.exmOne K (.ref (He.ga K "Ringed")) (.ref (He.ga K "BadField")) = some false)))
theorem Bk.exm_Ringed_BadLine (B : Bk K mg) : PySem.W.exmOne K (.ref (He.ga K "Ringed")) (.ref (He.ga K "BadLine")) = some false := of_decide_eq_true (B.ex 57 (f := fun K => decide (PySem.W.exmOne K (.ref (He.ga K "Ringed")) (.ref (He.ga K "BadLine")) = some false)))
theorem Bk.exm_Ringed_Ringed (B : Bk K mg) : PySem.W.exmOne K (.ref (He.ga K "Ringed")) (.ref (He.ga K "Ringed")) = some true := of_decide_eq_true (B.ex 58 (f := fun K => decide (PySem.W.exmOne K (.ref (He.ga K "Ringed")) (.ref (He.ga K "Ringed")) = some true)))
theorem Bk.exm_Ringed_MixedKeys (B : Bk K mg) : PySem.W.exmOne K (.ref (He.ga K "Ringed")) (.ref (He.ga K "MixedKeys")) = some false := of_decide_eq_true (B.ex 59 (f := fun K => decide (PySem.W.exmOne K (.ref (He.ga K "Ringed")) (.ref (He.ga K "MixedKeys")) = some false)))
theorem Bk.exm_MixedKeys_NoName (B : Bk K mg) : PySem.W.exmOne K (.ref (He.ga K "MixedKeys")) (.ref (He.ga K "NoName")) = some false := of_decide_eq_true (B.ex 60 (f := fun K => decide (PySem.W.exmOne K (.ref (He.ga K "MixedKeys")) (.ref (He.ga K "NoName")) = some false)))
theorem Bk.exm_MixedKeys_BadField (B : Bk K mg) : PySem.W.exmOne K (.ref (He.ga K "MixedKeys")) (.ref (He.ga K "BadField")) = some false := of_decide_eq_true (B.ex 61 (f := fun K => decide (PySem.W.exmOne K (.ref (He.ga K "MixedKeys")) (.ref (He.ga K "BadField")) = some false)))
theorem Bk.exm_MixedKeys_BadLine (B : Bk K mg) : PySem.W.exmOne K (.ref (He.ga K "MixedKeys")) (.ref (He.ga K "BadLine")) = some false := of_decide_eq_true (B.ex 62 (f := fun K => decide (PySem.W.exmOne K (.ref (He.ga K "MixedKeys")) (.ref (He.ga K "BadLine")) = some false)))
theorem Bk.exm_MixedKeys_Ringed (B : Bk K mg) : PySem.W.exmOne K (.ref (He.ga K "MixedKeys")) (.ref (He.ga K "Ringed")) = some false := of_decide_eq_true (B.ex 63 (f := fun K => decide (PySem.W.exmOne K (.ref (He.ga K "MixedKeys")) (.ref (He.ga K "Ringed")) = some false)))
theorem Bk.exm_MixedKeys_MixedKeys (B : Bk K mg) : PySem.W.exmOne K (.ref (He.ga K "MixedKeys")) (.ref (He.ga K "MixedKeys")) = some true := of_decide_eq_true (B.ex 64 (f := fun K => decide (PySem.W.exmOne K (.ref (He.ga K "MixedKeys")) (.ref (He.ga K "MixedKeys")) = some true)))
theorem Bk.F_is_name (B : Bk K mg) : ∃ fd, Fun K "is_name" "is_name" s_is_name (He.ga K "is_name") fd := let ⟨fd, h⟩ := B.fn_ 0 (d := d_is_name); ⟨fd, He5.fun_of h⟩
theorem Bk.F_is_field (B : Bk K mg) : ∃ fd, Fun K "is_field" "is_field" s_is_field (He.ga K "is_field") fd := let ⟨fd, h⟩ := B.fn_ 1 (d := d_is_field); ⟨fd, He5.fun_of h⟩
theorem Bk.F_is_part (B : Bk K mg) : ∃ fd, Fun K "is_part" "is_part" s_is_part (He.ga K "is_part") fd := let ⟨fd, h⟩ := B.fn_ 2 (d := d_is_part); ⟨fd, He5.fun_of h⟩
theorem Bk.F_field_of (B : Bk K mg) : ∃ fd, Fun K "field_of" "field_of" s_field_of (He.ga K "field_of") fd := let ⟨fd, h⟩ := B.fn_ 3 (d := d_field_of); ⟨fd, He5.fun_of h⟩
theorem Bk.F_field_text (B : Bk K mg) : ∃ fd, Fun K "field_text" "field_text" s_field_text (He.ga K "field_text") fd := let ⟨fd, h⟩ := B.fn_ 4 (d := d_field_text); ⟨fd, He5.fun_of h⟩
theorem Bk.F_parts_of (B : Bk K mg) : ∃ fd, Fun K "parts_of" "parts_of" s_parts_of (He.ga K "parts_of") fd := let ⟨fd, h⟩ := B.fn_ 5 (d := d_parts_of); ⟨fd, He5.fun_of h⟩
theorem Bk.F_Keys___init (B : Bk K mg) : ∃ fd, FunD K "__init__" "Keys.__init__" (defArgs s_Keys___init__) (defBody s_Keys___init__) (defScope s_Keys___init__) (d_Keys___init__.dvs K) [] (He.ma K (He.ga K "Keys") "__init__") fd := B.fn_ 6 (d := d_Keys___init__)
theorem Bk.F_Keys_p_names (B : Bk K mg) : ∃ fd, Fun K "names" "Keys.names" s_Keys_p_names (propG K "Keys" "names") fd := let ⟨fd, h⟩ := B.fn_ 7 (d := d_Keys_p_names); ⟨fd, He5.fun_of h⟩
theorem Bk.F_Keys_told (B : Bk K mg) : ∃ fd, Fun K "told" "Keys.told" s_Keys_told (He.ma K (He.ga K "Keys") "told") fd := let ⟨fd, h⟩ := B.fn_ 8 (d := d_Keys_told); ⟨fd, He5.fun_of h⟩
theorem Bk.F_Keys__check (B : Bk K mg) : ∃ fd, Fun K "_check" "Keys._check" s_Keys__check (He.ma K (He.ga K "Keys") "_check") fd := let ⟨fd, h⟩ := B.fn_ 9 (d := d_Keys__check); ⟨fd, He5.fun_of h⟩
theorem Bk.F_all_told (B : Bk K mg) : ∃ fd, Fun K "_all_told" "_all_told" s__all_told (He.ga K "_all_told") fd := let ⟨fd, h⟩ := B.fn_ 10 (d := d__all_told); ⟨fd, He5.fun_of h⟩
theorem Bk.F_is_numeral (B : Bk K mg) : ∃ fd, Fun K "is_numeral" "is_numeral" s_is_numeral (He.ga K "is_numeral") fd := let ⟨fd, h⟩ := B.fn_ 11 (d := d_is_numeral); ⟨fd, He5.fun_of h⟩
theorem Bk.F_number_of (B : Bk K mg) : ∃ fd, Fun K "number_of" "number_of" s_number_of (He.ga K "number_of") fd := let ⟨fd, h⟩ := B.fn_ 12 (d := d_number_of); ⟨fd, He5.fun_of h⟩
theorem Bk.F_written (B : Bk K mg) : ∃ fd, Fun K "written" "written" s_written (He.ga K "written") fd := let ⟨fd, h⟩ := B.fn_ 13 (d := d_written); ⟨fd, He5.fun_of h⟩
theorem Bk.F_least_factor (B : Bk K mg) : ∃ fd, Fun K "least_factor" "least_factor" s_least_factor (He.ga K "least_factor") fd := let ⟨fd, h⟩ := B.fn_ 14 (d := d_least_factor); ⟨fd, He5.fun_of h⟩
theorem Bk.F_is_prime_power (B : Bk K mg) : ∃ fd, Fun K "is_prime_power" "is_prime_power" s_is_prime_power (He.ga K "is_prime_power") fd := let ⟨fd, h⟩ := B.fn_ 15 (d := d_is_prime_power); ⟨fd, He5.fun_of h⟩
theorem Bk.F_prime_powers (B : Bk K mg) : ∃ fd, Fun K "prime_powers" "prime_powers" s_prime_powers (He.ga K "prime_powers") fd := let ⟨fd, h⟩ := B.fn_ 16 (d := d_prime_powers); ⟨fd, He5.fun_of h⟩
theorem Bk.F_primes (B : Bk K mg) : ∃ fd, Fun K "_primes" "_primes" s__primes (He.ga K "_primes") fd := let ⟨fd, h⟩ := B.fn_ 17 (d := d__primes); ⟨fd, He5.fun_of h⟩
theorem Bk.F_some_factor (B : Bk K mg) : ∃ fd, Fun K "_some_factor" "_some_factor" s__some_factor (He.ga K "_some_factor") fd := let ⟨fd, h⟩ := B.fn_ 18 (d := d__some_factor); ⟨fd, He5.fun_of h⟩
theorem Bk.F_Stage___init (B : Bk K mg) : ∃ fd, Fun K "__init__" "Stage.__init__" s_Stage___init__ (He.ma K (He.ga K "Stage") "__init__") fd := let ⟨fd, h⟩ := B.fn_ 19 (d := d_Stage___init__); ⟨fd, He5.fun_of h⟩
theorem Bk.F_all_names (B : Bk K mg) : ∃ fd, Fun K "all_names" "all_names" s_all_names (He.ga K "all_names") fd := let ⟨fd, h⟩ := B.fn_ 20 (d := d_all_names); ⟨fd, He5.fun_of h⟩
theorem Bk.F_joined (B : Bk K mg) : ∃ fd, Fun K "_joined" "_joined" s__joined (He.ga K "_joined") fd := let ⟨fd, h⟩ := B.fn_ 21 (d := d__joined); ⟨fd, He5.fun_of h⟩
theorem Bk.F_closed (B : Bk K mg) : ∃ fd, Fun K "_closed" "_closed" s__closed (He.ga K "_closed") fd := let ⟨fd, h⟩ := B.fn_ 22 (d := d__closed); ⟨fd, He5.fun_of h⟩
theorem Bk.F_BadField___init (B : Bk K mg) : ∃ fd, Fun K "__init__" "BadField.__init__" s_BadField___init__ (He.ma K (He.ga K "BadField") "__init__") fd := let ⟨fd, h⟩ := B.fn_ 23 (d := d_BadField___init__); ⟨fd, He5.fun_of h⟩
theorem Bk.F_law_box (B : Bk K mg) : ∃ fd, Fun K "_law_box" "_law_box" s__law_box (He.ga K "_law_box") fd := let ⟨fd, h⟩ := B.fn_ 24 (d := d__law_box); ⟨fd, He5.fun_of h⟩
theorem Bk.F_law_take (B : Bk K mg) : ∃ fd, Fun K "_law_take" "_law_take" s__law_take (He.ga K "_law_take") fd := let ⟨fd, h⟩ := B.fn_ 25 (d := d__law_take); ⟨fd, He5.fun_of h⟩
theorem Bk.F_law_cells (B : Bk K mg) : ∃ fd, Fun K "_law_cells" "_law_cells" s__law_cells (He.ga K "_law_cells") fd := let ⟨fd, h⟩ := B.fn_ 26 (d := d__law_cells); ⟨fd, He5.fun_of h⟩
theorem Bk.F_law_of (B : Bk K mg) : ∃ fd, Fun K "_law_of" "_law_of" s__law_of (He.ga K "_law_of") fd := let ⟨fd, h⟩ := B.fn_ 27 (d := d__law_of); ⟨fd, He5.fun_of h⟩
theorem Bk.F_law_same (B : Bk K mg) : ∃ fd, Fun K "_law_same" "_law_same" s__law_same (He.ga K "_law_same") fd := let ⟨fd, h⟩ := B.fn_ 28 (d := d__law_same); ⟨fd, He5.fun_of h⟩
theorem Bk.F_law_mixed (B : Bk K mg) : ∃ fd, Fun K "_law_mixed" "_law_mixed" s__law_mixed (He.ga K "_law_mixed") fd := let ⟨fd, h⟩ := B.fn_ 29 (d := d__law_mixed); ⟨fd, He5.fun_of h⟩
theorem Bk.F_law_number (B : Bk K mg) : ∃ fd, Fun K "_law_number" "_law_number" s__law_number (He.ga K "_law_number") fd := let ⟨fd, h⟩ := B.fn_ 30 (d := d__law_number); ⟨fd, He5.fun_of h⟩
theorem Bk.F_law_heard (B : Bk K mg) : ∃ fd, Fun K "_law_heard" "_law_heard" s__law_heard (He.ga K "_law_heard") fd := let ⟨fd, h⟩ := B.fn_ 31 (d := d__law_heard); ⟨fd, He5.fun_of h⟩
theorem Bk.F_law_bad_right (B : Bk K mg) : ∃ fd, Fun K "_law_bad_right" "_law_bad_right" s__law_bad_right (He.ga K "_law_bad_right") fd := let ⟨fd, h⟩ := B.fn_ 32 (d := d__law_bad_right); ⟨fd, He5.fun_of h⟩
theorem Bk.F_law_right (B : Bk K mg) : ∃ fd, Fun K "_law_right" "_law_right" s__law_right (He.ga K "_law_right") fd := let ⟨fd, h⟩ := B.fn_ 33 (d := d__law_right); ⟨fd, He5.fun_of h⟩
theorem Bk.F_law (B : Bk K mg) : ∃ fd, Fun K "law" "law" s_law (He.ga K "law") fd := let ⟨fd, h⟩ := B.fn_ 34 (d := d_law); ⟨fd, He5.fun_of h⟩
end
end Jd
namespace Jd
open PySem PySem.Spec PyProof.Rows L2
/-! ### words -/
/-- a def that stands behind the top, its promise -/
structure Df (P : Program) (w : World) (K : PySem.W.Frag) (mg : Str → Option Value) (base : Heap) (CX : CXT) (k : Nat) (x : Str) (ps : List Str) (sp : Sp) : Prop where
  ex : ∃ fd, FnOk P w K mg base CX k (He.ga K x) fd ps sp ∧ Binds K fd ps []
  g : mg x = some (.ref (He.ga K x))
  kp : PySem.W.keepIn K (.ref (He.ga K x)) = true
/-- the codes of a text -/
abbrev cd (z : Str) : List Nat := z.cps.toList
theorem len_cd (z : Str) : z.length = (cd z).length := by
  show z.cps.size = z.cps.toList.length
  rw [Array.length_toList]
theorem cd_ext {a b : Str} (h : cd a = cd b) : a = b := by
  obtain ⟨x⟩ := a
  obtain ⟨y⟩ := b
  congr 1
  exact Array.toList_inj.mp h
theorem cd_at {z : Str} {i c : Nat} (h : z.cps[i]? = some c) : (cd z)[i]? = some c := by
  rw [Array.getElem?_toList]
  exact h
/-- both ways of a test -/
theorem two {c : Bool} {A B : Prop} (h1 : c = true → A) (h2 : c = false → B) : if c = true then A else B := by
  cases c with
  | true => exact iteT (h1 rfl)
  | false => exact iteF (h2 rfl)
theorem one_lt (a b : Nat) : decide ([a] < [b]) = decide (a < b) := by
  have e : ([a] < [b]) ↔ a < b := by
    constructor
    · intro h
      cases h with
      | rel h => exact h
      | cons h => cases h
    · exact fun h => .rel h
  exact decide_eq_decide.mpr e
/-! ### heaps -/
theorem Same_upd {H H' : Hp} {a : Addr} {o : HO} (s : Same H H') (n : H a = none) : Same H (upd H' a o) := fun b u q => by
  rw [upd_ne (ne_of_none q n)]
  exact s b u q
theorem Same_new {H : Hp} {a : Addr} {o : HO} (n : H a = none) : Same H (upd H a o) := Same_upd (Same.refl H) n
theorem Same_seqT {K : PySem.W.Frag} {H H' : Hp} {a : Addr} {xs : List V} (e : Same H H') (h : SqT K H a xs) : SqT K H' a xs := by
  rcases h with (h | ⟨o, h⟩) | h
  · exact .inl (.inl (e _ _ h))
  · exact .inl (.inr ⟨o, e _ _ h⟩)
  · exact .inr h
/-! ### a comprehension that only lays new objects -/
theorem fm_step {f : Nat → Option V} (i : Nat) : (List.range (i + 1)).filterMap f = (List.range i).filterMap f ++ (match f i with
    | some y => [y]
    | none => []) := by
  rw [List.range_succ, List.filterMap_append]
  congr 1
  cases e : f i with
  | none => simp [e]
  | some y => simp [e]
theorem fm_len {f : Nat → Option V} (i : Nat) : ((List.range i).filterMap f).length ≤ i := by
  have q := List.length_filterMap_le f (List.range i)
  rw [List.length_range] at q
  exact q
section
variable {J : It} {n : Nat} {G : Hp → Prop} {Y : Nat → Hp → V → Hp → Prop}
theorem lc_fm (w : Walk J n G Y) {g : TG} {tt : TT} {te : TE} {vs : List Nat} {σ : L2.St} {H1 : Hp} {D : Addr} {Qd : Hp → Prop} (f : Nat → Option V) (hD : H1 D = none) (hn : n ≤ sizeLine) (hG : ∀ H, Same H1 H → G H)
    (hs : ∀ i x H H' (Kt : VK) (Kf : Hp → Prop), i < n → Same H1 H → Y i H x H' → (∀ y H4, f i = some y → Same H H4 → Kt y H4) → (∀ H4, f i = none → Same H H4 → Kf H4) →
      g x (wipe σ vs) H' fun σ2 H2 => wipe σ2 vs = wipe σ vs ∧ tt σ2 H2 fun b H3 => if b = true then te σ2 H3 Kt else Kf H3)
    (hd : ∀ H, Same H1 H → H D = some (.lst ((List.range n).filterMap f)) → Qd H) :
    ∃ W : Nat → Nat → Hp → Prop, (∃ m, W 0 m (upd H1 D (.lst []))) ∧ ∀ i m H, W i m H →
      (J.stop i H ∧ Qd H) ∨ (J.go i H ∧ ∃ Nx : Hp → Prop, (∀ H', Nx H' → ∃ m', m' < m ∧ W (i + 1) m' H') ∧ ∀ x H', J.yld i H x H' → g x (wipe σ vs) H' fun σ2 H2 => wipe σ2 vs = wipe σ vs ∧ tt σ2 H2 fun b H3 =>
        if b = true then te σ2 H3 fun y H4 => ∃ acc, H4 D = some (.lst acc) ∧ acc.length < sizeLine ∧ Nx (upd H4 D (.lst (acc ++ [y]))) else Nx H3) := by
  refine lc_it w (fun i H => Same H1 H ∧ H D = some (.lst ((List.range i).filterMap f))) ⟨Same_new hD, upd_same⟩ (fun i H _ p => hG H p.1) (fun i x H H' hi p y => ?_) (fun H p => hd H p.1 p.2)
  refine hs i x H H' _ _ hi p.1 y (fun y H4 e s4 => ⟨_, s4 _ _ p.2, Nat.lt_of_le_of_lt (fm_len i) (Nat.lt_of_lt_of_le hi hn), Same_upd (p.1.trans s4) hD, ?_⟩) (fun H4 e s4 => ⟨p.1.trans s4, ?_⟩)
  · rw [upd_same, fm_step, e]
  · rw [fm_step, e, List.append_nil]
    exact s4 _ _ p.2
end
theorem fm_some {α : Type} {l : List α} {g : α → V} {f : Nat → Option V} (h : ∀ i x, l[i]? = some x → f i = some (g x)) : (List.range l.length).filterMap f = l.map g := by
  have key : ∀ k, k ≤ l.length → (List.range k).filterMap f = (l.take k).map g := by
    intro k
    induction k with
    | zero => intro _; rfl
    | succ k ih =>
      intro hk
      have hl : k < l.length := hk
      have e : l[k]? = some l[k] := List.getElem?_eq_getElem hl
      rw [fm_step, ih (Nat.le_of_lt hl), h k _ e, List.take_add_one, e, List.map_append]
      rfl
  have q := key l.length (Nat.le_refl _)
  rw [List.take_length] at q
  exact q
end Jd
namespace Jd
open PySem PySem.Spec PyProof.Rows L2
/-! ### is_name -/
def letterB (c : Nat) : Bool := !decide (c < 97) && !decide (122 < c)
def isName (l : List Nat) : Bool := decide (1 ≤ l.length) && (decide (l.length ≤ 8) && l.all letterB)
def spName : Sp := fun vs H Q _ => ∃ z : Str, vs = [.str z] ∧ z.length ≤ sizeLine ∧ ∀ H', Same H H' → Q (.bl (isName (cd z))) H'
section
variable {P : Program} {w : World} {K : PySem.W.Frag} {mg : Str → Option Value} {base : Heap}
theorem sc_is_name : FnScope ["thing", "letter"] ["thing"] (defScope s_is_name) := ⟨rfl, rfl, rfl, by decide +kernel, rfl, by decide +kernel, by decide +kernel⟩
theorem kit_str : PySem.W.kitOne K (.type "str") (.type "str") = some true := by
  unfold PySem.W.kitOne
  rw [if_pos (by decide)]
theorem ok_is_name (B : Bk K mg) : Df P w K mg base CX0 1 "is_name" ["thing"] spName := by
  obtain ⟨fd, F⟩ := B.F_is_name
  refine ⟨⟨fd, ?_, F.binds fun _ _ _ _ _ _ us hl => match us, hl with | [_], _ => rfl⟩, B.g_is_name, F.kp⟩
  refine F.ok sc_is_name (fun vs H Q E h => ?_) (fun cdv A outer s H vs Q E hr h => ?_)
  · obtain ⟨z, rfl, _⟩ := h
    rfl
  · obtain ⟨z, rfl, hz, k⟩ := h
    refine ⟨_, pss_cons (ps_if (pt_not (pt_val (pe_callB call_isi (by rfl) B.b_isinstance (by decide +kernel) (pa_cons (pv 0) (pa_cons (pe_bltn (by rfl) B.b_str (by decide +kernel) (show RelV (.ty "str") (.type "str") from rfl)) pa_nil))))) (pss_one (ps_ret pe_bl)) pss_nil)
      (pss_one (ps_ret (pe_and (pe_chain op_le op_le pe_int (pe_callB call_len (by rfl) B.b_len (by decide +kernel) (pa_cons (pv 0) pa_nil)) pe_int)
        (pe_one (pe_callB (cr_all rfl) (by rfl) B.b_all (by decide +kernel) (pa_cons (pe_lc (own := [("letter", 1)]) (g := gName 1) (tt := tYes) rfl sc_is_name.nd (pi_str (pv 0)) (blkOk_by (N := ["thing", "letter"]) (sc := defScope s_is_name) (by decide +kernel))
          (fun _ _ _ _ _ => pg_name (i := 1) sc_is_name.nd rfl (Or.inl rfl)) (fun _ _ _ _ _ => pts_nil) (fun _ _ _ _ _ => pe_chain op_le_str op_le_str pe_str (pv 1) pe_str)) pa_nil)))))), ?_⟩
    refine ⟨_, rfl, _, _, _, _, _, rfl, .ty "str", .base (.str z), kit_str, _, rfl, iteF ?_⟩
    refine ⟨_, rfl, _, _, rfl, ⟨hz, rfl⟩, _, _, rfl, rfl, _, rfl, two (fun h1 => ?_) (fun h1 => ⟨_, rfl, iteF ?_⟩)⟩
    · refine ⟨_, _, rfl, rfl, _, rfl, two (fun h2 => ?_) (fun h2 => ?_)⟩
      · refine ⟨_, rfl, _, rfl, fun D hD => lc_fm walk_str (fun i => ((cd z)[i]?).map fun c => V.bl (letterB c)) hD (by rw [← show z.length = z.cps.size from rfl]; exact hz) (fun _ _ => trivial) (fun i x H1 H' Kt Kf hi s1 y kt kf => ?_) (fun H1 s1 hL => ?_)⟩
        · obtain ⟨rfl, c, hc, rfl⟩ := y
          have e : ((cd z)[i]?).map (fun c => V.bl (letterB c)) = some (V.bl (letterB c)) := by rw [cd_at hc]; rfl
          refine ⟨rfl, iteT (B := Kf H') ?_⟩
          refine ⟨_, rfl, _, _, rfl, rfl, _, rfl, two (fun h3 => ⟨_, _, rfl, rfl, ?_⟩) (fun h3 => ?_)⟩
          · have q := kt _ _ e (Same.refl _)
            have h3' : (!decide (([c] : List Nat) < [97])) = true := h3
            rw [one_lt] at h3'
            unfold letterB at q
            rw [h3', Bool.true_and] at q
            show Kt (V.bl (!decide (([122] : List Nat) < [c]))) _
            rw [one_lt]
            exact q
          · have q := kt _ _ e (Same.refl _)
            have h3' : (!decide (([c] : List Nat) < [97])) = false := h3
            rw [one_lt] at h3'
            unfold letterB at q
            rw [h3', Bool.false_and] at q
            exact q
        · refine ⟨_, (cd z).map letterB, rfl, SqL.of (hL.trans ?_), ?_⟩
          · congr 2
            rw [show z.cps.size = (cd z).length from len_cd z]
            rw [fm_some (l := cd z) (g := fun c => V.bl (letterB c)) (fun i c hc => by rw [hc]; rfl), List.map_map]
            rfl
          · have q := k H1 s1
            have h1' : decide (1 ≤ (cd z).length) = true := by
              rw [← h1]
              exact decide_eq_decide.mpr (by rw [len_cd z]; omega)
            have h2' : decide ((cd z).length ≤ 8) = true := by
              rw [← h2]
              exact decide_eq_decide.mpr (by rw [len_cd z]; omega)
            unfold isName at q
            rw [h1', h2', Bool.true_and, Bool.true_and] at q
            rw [List.all_map]
            exact q
      · have q := k H (Same.refl _)
        have h2' : decide ((cd z).length ≤ 8) = false := by
          rw [← h2]
          exact decide_eq_decide.mpr (by rw [len_cd z]; omega)
        unfold isName at q
        rw [h2', Bool.false_and, Bool.and_false] at q
        exact q
    · have q := k H (Same.refl _)
      have h1' : decide (1 ≤ (cd z).length) = false := by
        rw [← h1]
        exact decide_eq_decide.mpr (by rw [len_cd z]; omega)
      unfold isName at q
      rw [h1', Bool.false_and] at q
      exact q
end
end Jd
namespace Jd
open PySem PySem.Spec PyProof.Rows L2
/-! ### _is_modulus, is_field -/
def digitB (c : Nat) : Bool := decide (c ∈ cd "0123456789")
def isMod (z : Str) : Bool := if (inV (.str z) [.str "", .str "1"] || Txt.startswith z "0") = true then false else (cd z).all digitB
def isFieldB (z : Str) : Bool :=
  if (!decide (V.str (Txt.partition z "/").1 = V.str "#") && !isName (cd (Txt.partition z "/").1)) = true then false
  else decide (V.str (Txt.partition z "/").2.1 = V.str "") || isMod (Txt.partition z "/").2.2
theorem part_len (x y : Str) : (Txt.partition x y).1.length ≤ x.length ∧ (Txt.partition x y).2.2.length ≤ x.length := by
  unfold Txt.partition
  split
  · exact ⟨strSub_length_le .., strSub_length_le ..⟩
  · exact ⟨Nat.le_refl _, Nat.zero_le _⟩
def isNum (z : Str) : Bool := if (decide (V.str z = V.str "") || (Txt.startswith z "0" && !decide (V.str z = V.str "0"))) = true then false else (cd z).all digitB
def spNml : Sp := fun vs H Q _ => ∃ z : Str, vs = [.str z] ∧ z.length ≤ sizeLine ∧ ∀ H', Same H H' → Q (.bl (isNum z)) H'
def spField (K : PySem.W.Frag) : Sp := fun vs H Q _ => ∃ x : V, vs = [x] ∧ ((∃ z : Str, x = .str z ∧ z.length ≤ sizeLine ∧ ∀ H', Same H H' → Q (.bl (isFieldB z)) H') ∨
  (∃ t, TyX K H x t ∧ PySem.W.kitOne K t (.type "str") = some false ∧ Q (.bl false) H))
section
variable {P : Program} {w : World} {K : PySem.W.Frag} {mg : Str → Option Value} {base : Heap}
theorem sc_is_num : FnScope ["text", "digit"] ["text"] (defScope s_is_numeral) := ⟨rfl, rfl, rfl, by decide +kernel, rfl, by decide +kernel, by decide +kernel⟩
theorem ok_is_numeral (B : Bk K mg) : Df P w K mg base CX0 1 "is_numeral" ["text"] spNml := by
  obtain ⟨fd, F⟩ := B.F_is_numeral
  obtain ⟨tD, gD⟩ := B.c_DIGITS
  refine ⟨⟨fd, ?_, F.binds fun _ _ _ _ _ _ us hl => match us, hl with | [_], _ => rfl⟩, B.g_is_numeral, F.kp⟩
  refine F.ok sc_is_num (fun vs H Q E h => ?_) (fun cdv A outer s H vs Q E hr h => ?_)
  · obtain ⟨z, rfl, _⟩ := h
    rfl
  · obtain ⟨z, rfl, hz, k⟩ := h
    refine ⟨_, pss_cons (ps_if (PW.pt (pw_or (pt_cmpR op_eq (pv 0) pe_str (nomark _)) (pw_or1 (PW.pt (pw_and (pt_val (pe_m1 PySem.F.slot_str_startswith PySem.F.type_str_startswith mt_startswith (pv 0) pe_str)) (pw_and1 (pt_cmpR op_ne (pv 0) pe_str (nomark _)))))))) (pss_one (ps_ret pe_bl)) pss_nil)
      (pss_one (ps_ret (pe_callB (cr_all rfl) (by rfl) B.b_all (by decide +kernel) (pa_cons (pe_lc (own := [("digit", 1)]) (g := gName 1) (tt := tYes) rfl sc_is_num.nd (pi_str (pv 0)) (blkOk_by (N := ["text", "digit"]) (sc := defScope s_is_numeral) (by decide +kernel))
          (fun _ _ _ _ _ => pg_name (i := 1) sc_is_num.nd rfl (Or.inl rfl)) (fun _ _ _ _ _ => pts_nil) (fun _ _ _ _ _ => pe_cmpR op_in_sign (pv 1) (pe_glob (v := .str "0123456789") rfl gD ⟨_, rfl⟩) rfl)) pa_nil)))), ?_⟩
    have q := k
    unfold isNum at q
    refine ⟨_, rfl, rfl, _, rfl, two (fun h1 => ?_) (fun h1 => ?_)⟩
    · rw [h1, Bool.true_or, if_pos rfl] at q
      exact iteT (q H (Same.refl _))
    · rw [h1, Bool.false_or] at q
      refine ⟨_, rfl, ⟨_, rfl⟩, _, _, rfl, rfl, _, rfl, two (fun h2 => ?_) (fun h2 => ?_)⟩
      · rw [h2, Bool.true_and] at q
        refine ⟨_, rfl, rfl, _, rfl, two (fun h3 => ?_) (fun h3 => ?_)⟩
        · rw [h3, if_pos rfl] at q
          exact q H (Same.refl _)
        · rw [h3, if_neg (by decide)] at q
          refine ⟨_, rfl, _, rfl, fun D hD => lc_fm walk_str (fun i => ((cd z)[i]?).map fun c => V.bl (digitB c)) hD hz (fun _ _ => trivial) (fun i x H1 H' Kt Kf hi s1 y kt kf => ?_) (fun H1 s1 hL => ?_)⟩
          · obtain ⟨rfl, c, hc, rfl⟩ := y
            have e : ((cd z)[i]?).map (fun c => V.bl (digitB c)) = some (V.bl (digitB c)) := by rw [cd_at hc]; rfl
            refine ⟨rfl, iteT (B := Kf H') ?_⟩
            exact ⟨_, rfl, _, _, rfl, rfl, kt _ _ e (Same.refl _)⟩
          · refine ⟨_, (cd z).map digitB, rfl, SqL.of (hL.trans ?_), ?_⟩
            · congr 2
              rw [show z.cps.size = (cd z).length from len_cd z]
              rw [fm_some (l := cd z) (g := fun c => V.bl (digitB c)) (fun i c hc => by rw [hc]; rfl), List.map_map]
              rfl
            · rw [List.all_map]
              exact q _ s1
      · rw [h2, Bool.false_and, if_neg (by decide)] at q
        refine iteF ?_
        refine ⟨_, rfl, _, rfl, fun D hD => lc_fm walk_str (fun i => ((cd z)[i]?).map fun c => V.bl (digitB c)) hD hz (fun _ _ => trivial) (fun i x H1 H' Kt Kf hi s1 y kt kf => ?_) (fun H1 s1 hL => ?_)⟩
        · obtain ⟨rfl, c, hc, rfl⟩ := y
          have e : ((cd z)[i]?).map (fun c => V.bl (digitB c)) = some (V.bl (digitB c)) := by rw [cd_at hc]; rfl
          refine ⟨rfl, iteT (B := Kf H') ?_⟩
          exact ⟨_, rfl, _, _, rfl, rfl, kt _ _ e (Same.refl _)⟩
        · refine ⟨_, (cd z).map digitB, rfl, SqL.of (hL.trans ?_), ?_⟩
          · congr 2
            rw [show z.cps.size = (cd z).length from len_cd z]
            rw [fm_some (l := cd z) (g := fun c => V.bl (digitB c)) (fun i c hc => by rw [hc]; rfl), List.map_map]
            rfl
          · rw [List.all_map]
            exact q _ s1
theorem isMod_num (z : Str) : (isNum z && !inV (.str z) [.str "0", .str "1"]) = isMod z := by
  unfold isNum isMod
  by_cases h0 : z = ""
  · subst h0
    decide +kernel
  by_cases h1 : z = "1"
  · subst h1
    decide +kernel
  by_cases h2 : z = "0"
  · subst h2
    decide +kernel
  have e0 : decide (V.str z = V.str "") = false := decide_eq_false fun e => h0 (by injection e)
  have e2 : decide (V.str z = V.str "0") = false := decide_eq_false fun e => h2 (by injection e)
  have i0 : inV (.str z) [.str "", .str "1"] = false := by
    show ((("" : Str) == z) || ((("1" : Str) == z) || false)) = false
    rw [beq_eq_false_iff_ne.mpr (Ne.symm h0), beq_eq_false_iff_ne.mpr (Ne.symm h1)]
    rfl
  have i1 : inV (.str z) [.str "0", .str "1"] = false := by
    show ((("0" : Str) == z) || ((("1" : Str) == z) || false)) = false
    rw [beq_eq_false_iff_ne.mpr (Ne.symm h2), beq_eq_false_iff_ne.mpr (Ne.symm h1)]
    rfl
  rw [e0, e2, i0, i1, Bool.not_false, Bool.and_true, Bool.and_true]
theorem sc_is_field : FnScope ["thing", "name", "slash", "digits"] ["thing"] (defScope s_is_field) := ⟨rfl, rfl, rfl, by decide +kernel, rfl, by decide +kernel, by decide +kernel⟩
theorem ok_is_field (B : Bk K mg) : Df P w K mg base CX0 2 "is_field" ["thing"] (spField K) := by
  obtain ⟨fd, F⟩ := B.F_is_field
  obtain ⟨fdN, GN, bN⟩ := (ok_is_name (P := P) (w := w) (base := base) B).ex
  obtain ⟨fdM, GM, bM⟩ := (ok_is_numeral (P := P) (w := w) (base := base) B).ex
  have kN := (ok_is_name (P := P) (w := w) (base := base) B).kp
  have kM := (ok_is_numeral (P := P) (w := w) (base := base) B).kp
  refine ⟨⟨fd, ?_, F.binds fun _ _ _ _ _ _ us hl => match us, hl with | [_], _ => rfl⟩, B.g_is_field, F.kp⟩
  refine F.ok sc_is_field (fun vs H Q E h => ?_) (fun cdv A outer s H vs Q E hr h => ?_)
  · obtain ⟨x, rfl, _⟩ := h
    rfl
  · obtain ⟨x, rfl, h⟩ := h
    refine ⟨_, pss_cons (ps_if (pt_not (pt_val (pe_callB call_isi (by rfl) B.b_isinstance (by decide +kernel) (pa_cons (pv 0) (pa_cons (pe_bltn (by rfl) B.b_str (by decide +kernel) (show RelV (.ty "str") (.type "str") from rfl)) pa_nil))))) (pss_one (ps_ret pe_bl)) pss_nil)
      (pss_cons (ps_asg (pe_partition (pv 0) pe_str) (pg_tup (by rfl) (pgs_cons (pg_name (i := 1) sc_is_field.nd rfl (.inl rfl)) (pgs_cons (pg_name (i := 2) sc_is_field.nd rfl (.inl rfl)) (pgs_cons (pg_name (i := 3) sc_is_field.nd rfl (.inl rfl)) pgs_nil)))))
      (pss_cons (ps_if (PW.pt (pw_and (pt_cmpR op_ne (pv 1) pe_str (nomark _)) (pw_and1 (pt_not (pt_val (pe_call GN hr rfl B.g_is_name kN bN .nil pass0 (pa_cons (pv 1) pa_nil))))))) (pss_one (ps_ret pe_bl)) pss_nil)
      (pss_one (ps_ret (pe_or (pe_cmpR op_eq (pv 2) pe_str (nomark _)) (pe_one (pe_and (pe_call GM hr rfl B.g_is_numeral kM bM .nil pass0 (pa_cons (pv 3) pa_nil)) (pe_one (pe_cmpR op_notIn_seq (pv 3) (pe_tup (pa_cons pe_str (pa_cons pe_str pa_nil))) (by rfl)))))))))), ?_⟩
    rcases h with ⟨z, rfl, hz, k⟩ | ⟨t, ht, hk, k⟩
    · refine ⟨_, rfl, _, _, _, _, _, rfl, .ty "str", .base (.str z), kit_str, _, rfl, iteF ?_⟩
      refine ⟨_, rfl, ⟨_, rfl⟩, _, _, rfl, rfl, by decide, hz, fun p hp => ?_⟩
      have s0 : Same H (upd H p (.tup [.str (Txt.partition z "/").1, .str (Txt.partition z "/").2.1, .str (Txt.partition z "/").2.2])) := Same_new hp
      have hl := part_len z "/"
      refine ⟨_, _, rfl, SqT.of upd_same, rfl, _, _, rfl, _, _, rfl, _, _, rfl, rfl, ?_⟩
      have rest : ∀ H', Same H H' → (!decide (V.str (Txt.partition z "/").1 = V.str "#") && !isName (cd (Txt.partition z "/").1)) = false →
          tRet (tOrV (tOp rEq (tVar 2) (tC (.str ""))) (tAndV (tCall spNml [] E0 (tCons (tVar 3) tNil)) (tOp (rIn K true) (tVar 3) (tTup (tCons (tC (.str "0")) (tCons (tC (.str "1")) tNil)))))) { nx := fun _ H' => Q .non H', rt := Q } [some (V.str z), some (V.str (Txt.partition z "/").1), some (V.str (Txt.partition z "/").2.1), some (V.str (Txt.partition z "/").2.2)] H' := by
        intro H' s1 hb
        refine ⟨_, rfl, rfl, _, rfl, two (fun h3 => ?_) (fun h3 => ?_)⟩
        · have q := k H' s1
          unfold isFieldB at q
          rw [if_neg (by rw [hb]; decide), h3, Bool.true_or] at q
          exact q
        · refine ⟨_, rfl, _, rfl, Nat.le_trans hl.2 hz, fun H2 s2 => ⟨_, rfl, two (fun h4 => ?_) (fun h4 => ?_)⟩⟩
          · refine ⟨_, rfl, (by show 2 ≤ sizeLine; decide), fun p hp => ⟨_, _, rfl, .inr (SqT.of upd_same), rfl, rfl, ?_⟩⟩
            have q := k _ ((s1.trans s2).trans (Same_new (o := .tup [.str "0", .str "1"]) hp))
            unfold isFieldB at q
            rw [if_neg (by rw [hb]; decide), h3, Bool.false_or, ← isMod_num, h4, Bool.true_and] at q
            exact q
          · have q := k H2 (s1.trans s2)
            unfold isFieldB at q
            rw [if_neg (by rw [hb]; decide), h3, Bool.false_or, ← isMod_num, h4, Bool.false_and] at q
            exact q
      refine ⟨_, rfl, rfl, _, rfl, two (fun h1 => ?_) (fun h1 => ?_)⟩
      · refine ⟨_, rfl, _, rfl, Nat.le_trans hl.1 hz, fun H1 s1 => ⟨_, rfl, two (fun h2 => ?_) (fun h2 => ?_)⟩⟩
        · have q := k H1 (s0.trans s1)
          unfold isFieldB at q
          rw [if_pos (by rw [h1, h2]; rfl)] at q
          exact q
        · exact rest H1 (s0.trans s1) (by rw [h2, Bool.and_false])
      · exact iteF (rest _ s0 (by rw [h1, Bool.false_and]))
    · refine ⟨_, rfl, _, _, _, _, _, rfl, .ty "str", ht, hk, _, rfl, iteT ?_⟩
      exact k
end
end Jd
namespace Jd
open PySem PySem.Spec PyProof.Rows L2
/-! ### _number_of -/
def dig (c : Nat) : Int := (c : Int) - 48
def numOf (l : List Nat) : Int := l.foldl (fun n c => n * 10 + dig c) 0
theorem int_sign {c : Nat} (h : digitB c = true) : PySem.intText? ⟨#[c]⟩ = some (dig c) := by
  have m : c ∈ [48, 49, 50, 51, 52, 53, 54, 55, 56, 57] := of_decide_eq_true h
  simp only [List.mem_cons, List.not_mem_nil, or_false] at m
  rcases m with rfl | rfl | rfl | rfl | rfl | rfl | rfl | rfl | rfl | rfl <;> decide +kernel
def spNum : Sp := fun vs H Q _ => ∃ z : Str, vs = [.str z] ∧ (cd z).all digitB = true ∧ ∀ H', Same H H' → Q (.int (numOf (cd z))) H'
def spBF (C : Addr) : Sp := fun vs H Q _ => ∃ (a : Addr) (v : V), vs = [.ref a, v] ∧ H a = some (exo a C none) ∧ ∀ dx, H dx = none → dx ≠ a → Q .non (upd (upd H dx (exd dx [("field", v)])) a (exo a C (some dx)))
def fieldName (z : Str) : Str := (Txt.partition z "/").1
def fieldNum (z : Str) : Int := numOf (cd (Txt.partition z "/").2.2)
def spFieldOf (C : Addr) : Sp := fun vs H Q E => ∃ z : Str, vs = [.str z] ∧ z.length ≤ sizeLine ∧
  (isFieldB z = false → ∀ H' d, Same H H' → H' d = some (.xd [("field", .str z)]) → E (.ref C) (some d) H') ∧
  (isFieldB z = true → ∀ H' p, Same H H' → H' p = some (.tup [.str (fieldName z), .int (fieldNum z)]) → Q (.ref p) H')
theorem digits_of_field {z : Str} (h : isFieldB z = true) : (cd (Txt.partition z "/").2.2).all digitB = true := by
  unfold isFieldB at h
  split at h
  · cases h
  · rcases Bool.or_eq_true_iff.mp h with h | h
    · have e : (Txt.partition z "/").2.1 = "" := by
        have q := of_decide_eq_true h
        injection q
      unfold Txt.partition at e ⊢
      split
      · rename_i i _ ho
        rw [ho] at e
        have e' : ("/" : Str) = "" := e
        exact absurd e' (by decide)
      · rfl
    · unfold isMod at h
      split at h
      · cases h
      · exact h
section
variable {P : Program} {w : World} {K : PySem.W.Frag} {mg : Str → Option Value} {base : Heap}
theorem sc_number : FnScope ["digits", "number", "digit"] ["digits"] (defScope s_number_of) := ⟨rfl, rfl, rfl, by decide +kernel, rfl, by decide +kernel, by decide +kernel⟩
theorem num_step {l : List Nat} {i c : Nat} (h : l[i]? = some c) : numOf (l.take (i + 1)) = numOf (l.take i) * 10 + dig c := by
  unfold numOf
  rw [List.take_add_one, h, List.foldl_append]
  rfl
theorem ok_number_of (B : Bk K mg) : Df P w K mg base CX0 1 "number_of" ["digits"] spNum := by
  obtain ⟨fd, F⟩ := B.F_number_of
  refine ⟨⟨fd, ?_, F.binds fun _ _ _ _ _ _ us hl => match us, hl with | [_], _ => rfl⟩, B.g_number_of, F.kp⟩
  refine F.ok sc_number (fun vs H Q E h => ?_) (fun cdv A outer s H vs Q E hr h => ?_)
  · obtain ⟨z, rfl, _⟩ := h
    rfl
  · obtain ⟨z, rfl, hz, k⟩ := h
    refine ⟨_, pss_cons (ps_set (i := 1) sc_number.nd rfl (Or.inl rfl) pe_int)
      (pss_cons (ps_for PassesOwn.never rfl (pi_str (pv 0)) (pg_name (i := 2) sc_number.nd rfl (Or.inl rfl))
        (pss_one (ps_set (i := 1) sc_number.nd rfl (Or.inl rfl) (pe_op op_add (pe_op op_mul (pv 1) pe_int) (pe_callTy call_int_str (by rfl) B.b_int (by decide +kernel) (pa_cons (pv 2) pa_nil))))))
      (pss_one (ps_ret (pv 1)))), ?_⟩
    refine ⟨_, rfl, _, rfl, for_it walk_str (fun i σ H' => ∃ v, σ = [some (.str z), some (.int (numOf ((cd z).take i))), v] ∧ Same H H') ⟨none, rfl, Same.refl _⟩ (fun _ _ _ _ _ => trivial) (fun i x σ H1 H' hi ⟨v, e, s1⟩ y => ?_) (fun σ H1 ⟨v, e, s1⟩ => ?_)⟩
    · obtain ⟨rfl, c, hc, rfl⟩ := y
      subst e
      have hd : digitB c = true := List.all_eq_true.mp hz c (List.mem_of_getElem? (cd_at hc))
      refine ⟨_, rfl, _, _, rfl, rfl, .inr ⟨by decide, by decide⟩, _, rfl, _, _, rfl, int_sign hd, (by show 1 ≤ 640; decide), _, _, rfl, rfl, ?_⟩
      refine ⟨some (.str ⟨#[c]⟩), ?_, s1⟩
      rw [num_step (cd_at hc)]
      rfl
    · subst e
      refine ⟨_, rfl, ?_⟩
      have q := k H1 s1
      rw [← List.take_length (l := cd z)] at q
      exact q
/-! ### BadField's __init__, field_of -/
theorem sc_bf : FnScope ["self", "field"] ["self", "field"] (defScope s_BadField___init__) := ⟨rfl, rfl, rfl, by decide +kernel, rfl, by decide +kernel, by decide +kernel⟩
theorem ok_bf (B : Bk K mg) : ∃ fd, FnOk P w K mg base CX0 1 (He.ma K (He.ga K "BadField") "__init__") fd ["self", "field"] (spBF (He.ga K "BadField")) ∧ Binds K fd ["self", "field"] [] := by
  obtain ⟨fd, F⟩ := B.F_BadField___init
  refine ⟨fd, ?_, F.binds fun _ _ _ _ _ _ us hl => match us, hl with | [_, _], _ => rfl⟩
  refine F.ok sc_bf (fun vs H Q E h => ?_) (fun cdv A outer s H vs Q E hr h => ?_)
  · obtain ⟨a, v, rfl, _⟩ := h
    rfl
  · obtain ⟨a, v, rfl, ha, k⟩ := h
    refine ⟨_, pss_cons (ps_expr (pe_veinit (by rfl) B.b_ValueError (by rfl) (pa_cons (pv 0) (pa_cons (pv 1) pa_nil)))) (pss_one (ps_ost (pv 0) (pv 1))), ?_⟩
    refine ⟨_, rfl, _, rfl, a, _, [v], rfl, (by show 1 ≤ 1000; decide), B.ox_BadField.1, ha, ?_⟩
    exact ⟨_, rfl, _, rfl, a, _, rfl, B.ox_BadField.1, B.nf_BadField_field, .inl ⟨ha, fun dx n ne => k dx n ne⟩⟩
theorem sc_fo : FnScope ["text", "name", "_", "digits"] ["text"] (defScope s_field_of) := ⟨rfl, rfl, rfl, by decide +kernel, rfl, by decide +kernel, by decide +kernel⟩
theorem del_same_of {H : Hp} {a : Addr} {b : Addr} {o : HO} (h : H b = some o) (n : b ≠ a) : del H a b = some o := by rw [del_ne n]; exact h
theorem ok_field_of (B : Bk K mg) : Df P w K mg base (L2.CX P w) 3 "field_of" ["text"] (spFieldOf (He.ga K "BadField")) := by
  obtain ⟨fd, F⟩ := B.F_field_of
  obtain ⟨fdF, GF, bF⟩ := (ok_is_field (P := P) (w := w) (base := base) B).ex
  have kF := (ok_is_field (P := P) (w := w) (base := base) B).kp
  obtain ⟨fdN, GN, bN⟩ := (ok_number_of (P := P) (w := w) (base := base) B).ex
  have kN := (ok_number_of (P := P) (w := w) (base := base) B).kp
  obtain ⟨fdE, GE, bE⟩ := ok_bf (P := P) (w := w) (base := base) B
  obtain ⟨oxc, oi, ot⟩ := B.ox_BadField
  refine ⟨⟨fd, ?_, F.binds fun _ _ _ _ _ _ us hl => match us, hl with | [_], _ => rfl⟩, B.g_field_of, F.kp⟩
  refine F.okX sc_fo (fun vs H Q E h => ?_) (fun cdv A outer s H vs Q E hr h => ?_)
  · obtain ⟨x, rfl, _⟩ := h
    rfl
  · obtain ⟨z, rfl, hz, kE, kQ⟩ := h
    have hr1 : Room 1 _ := hr.mono (by decide)
    refine ⟨_, pss_cons (ps_if (pt_not (pt_val (pe_call GF hr rfl B.g_is_field kF bF .nil pass0 (pa_cons (pv 0) pa_nil)))) (pss_one (ps_raise rfl (takes_of rfl rfl rfl rfl) (pmk_oex oxc oi ot GE hr bE .nil pass0 (by rfl) B.g_BadField (pa_cons (pv 0) pa_nil)))) pss_nil)
      (pss_cons (ps_asg (pe_partition (pv 0) pe_str) (pg_tup (by rfl) (pgs_cons (pg_name (i := 1) sc_fo.nd rfl (.inl rfl)) (pgs_cons (pg_name (i := 2) sc_fo.nd rfl (.inl rfl)) (pgs_cons (pg_name (i := 3) sc_fo.nd rfl (.inl rfl)) pgs_nil)))))
      (pss_one (ps_ret (pe_tup (pa_cons (pv 1) (pa_cons (pe_call GN hr1 rfl B.g_number_of kN bN .nil pass0 (pa_cons (pv 3) pa_nil)) pa_nil)))))), ?_⟩
    refine ⟨_, rfl, _, rfl, .inl ⟨z, rfl, hz, fun H1 s1 => ⟨_, rfl, two (fun h1 => ?_) (fun h1 => ?_)⟩⟩⟩
    · have hf : isFieldB z = false := by
        cases e : isFieldB z with
        | false => rfl
        | true => rw [e] at h1; cases h1
      refine ⟨_, rfl, (by show 1 ≤ 1000; decide), fun a na => ⟨a, _, rfl, upd_same, fun dx nd ne => ⟨rfl, dx, [("field", .str z)], upd_same, ?_, ?_, ?_⟩⟩⟩
      · rw [upd_ne ne, upd_same]
      · rw [upd_ne ne] at nd
        exact nd
      · have nd' : H1 dx = none := by
          rw [upd_ne ne] at nd
          exact nd
        refine kE hf _ dx (fun b o q => ?_) upd_same
        have q1 := s1 b o q
        have nb : b ≠ a := ne_of_none q1 na
        rw [upd_ne (ne_of_none q1 nd'), del_ne nb, upd_ne nb, upd_ne (ne_of_none q1 nd'), upd_ne nb]
        exact q1
    · have hf : isFieldB z = true := by
        cases e : isFieldB z with
        | true => rfl
        | false => rw [e] at h1; cases h1
      refine ⟨_, rfl, ⟨_, rfl⟩, _, _, rfl, rfl, by decide, hz, fun p hp => ?_⟩
      have s2 : Same H1 (upd H1 p (.tup [.str (Txt.partition z "/").1, .str (Txt.partition z "/").2.1, .str (Txt.partition z "/").2.2])) := Same_new hp
      refine ⟨_, _, rfl, SqT.of upd_same, rfl, _, _, rfl, _, _, rfl, _, _, rfl, rfl, ?_⟩
      refine ⟨_, rfl, _, rfl, _, rfl, digits_of_field hf, fun H3 s3 => ⟨(by show 2 ≤ sizeLine; decide), fun t ht => ?_⟩⟩
      exact kQ hf _ t (((s1.trans s2).trans s3).trans (Same_new ht)) upd_same
end
end Jd
namespace Jd
open PySem PySem.Spec PyProof.Rows L2
/-! ### least_factor, is_prime_power -/
def lfF (m g : Nat) : Nat → Nat → Nat
  | 0, _ => m
  | k + 1, f => if f ≤ g ∧ f * f ≤ m then (if m % f = 0 then f else lfF m g k (f + 1)) else m
theorem lfF_s {m g k f : Nat} : lfF m g (k + 1) f = if f ≤ g ∧ f * f ≤ m then (if m % f = 0 then f else lfF m g k (f + 1)) else m := rfl
theorem lfF_le {m g : Nat} : ∀ {k f : Nat}, 0 < f → lfF m g k f ≤ m
  | 0, _, _ => Nat.le_refl m
  | k + 1, f, h => by
    unfold lfF
    split
    · rename_i q
      split
      · exact Nat.le_trans (Nat.le_mul_of_pos_left f h) q.2
      · exact lfF_le (Nat.succ_pos f)
    · exact Nat.le_refl m
theorem lfF_pos {m g : Nat} (hm : 0 < m) : ∀ {k f : Nat}, 0 < f → 0 < lfF m g k f
  | 0, _, _ => hm
  | k + 1, f, h => by
    unfold lfF
    split
    · split
      · exact h
      · exact lfF_pos hm (Nat.succ_pos f)
    · exact hm
def ppStrip : Nat → Nat → Nat → Option Nat
  | 0, _, _ => none
  | k + 1, m, f => if m % f = 0 then ppStrip k (m / f) f else some m
def lfP (m : Nat) : Nat := lfF m 1000000 1000 2
def isPP (m : Nat) : Option Bool := (ppStrip 64 m (lfP m)).map fun x => decide (x = 1)
def spLf : Sp := fun vs H Q _ => ∃ m l g k : Nat, vs = [.int (m : Int), .int (l : Int), .int (g : Int)] ∧ 0 < l ∧ l + k < 1000000000 ∧ m < (l + k) * (l + k) ∧ ∀ H', Same H H' → Q (.int ((lfF m g k l : Nat) : Int)) H'
def spPP : Sp := fun vs H Q _ => ∃ (m : Nat) (b : Bool), vs = [.int (m : Int)] ∧ 2 ≤ m ∧ m ≤ 1000000 ∧ isPP m = some b ∧ ∀ H', Same H H' → Q (.bl b) H'
section
variable {P : Program} {w : World} {K : PySem.W.Frag} {mg : Str → Option Value} {base : Heap}
theorem mod_zero {m f : Nat} : decide (V.int ((m : Int) % (f : Int)) = V.int 0) = decide (m % f = 0) := by
  refine decide_eq_decide.mpr ⟨fun e => ?_, fun e => ?_⟩
  · injection e with e
    omega
  · have e2 : (m : Int) % (f : Int) = ((m % f : Nat) : Int) := by omega
    rw [e2, e]
    rfl
theorem int_eq {a b : Int} : decide (V.int a = V.int b) = decide (a = b) := decide_eq_decide.mpr ⟨fun e => by injection e, fun e => by rw [e]⟩
theorem sc_lf : FnScope ["m", "least", "greatest", "factor"] ["m", "least", "greatest"] (defScope s_least_factor) := ⟨rfl, rfl, rfl, by decide +kernel, rfl, by decide +kernel, by decide +kernel⟩
theorem ok_least_factor (B : Bk K mg) : Df P w K mg base CX0 1 "least_factor" ["m", "least", "greatest"] spLf := by
  obtain ⟨fd, F⟩ := B.F_least_factor
  refine ⟨⟨fd, ?_, F.binds fun _ _ _ _ _ _ us hl => match us, hl with | [_, _, _], _ => rfl⟩, B.g_least_factor, F.kp⟩
  refine F.ok sc_lf (fun vs H Q E h => ?_) (fun cdv A outer s H vs Q E hr h => ?_)
  · obtain ⟨m, l, g, k, rfl, _⟩ := h
    rfl
  · obtain ⟨m, l, g, k, rfl, hl, hb, hk, kQ⟩ := h
    refine ⟨_, pss_cons (ps_set (i := 3) sc_lf.nd rfl (Or.inl rfl) (pv 1))
      (pss_cons (ps_while PassesOwn.never (PW.pt (pw_and (pt_cmpR op_le (pv 3) (pv 2) (nomark _)) (pw_and1 (pt_cmpR op_le (pe_op op_mul (pv 3) (pv 3)) (pv 0) (nomark _)))))
        (pss_cons (ps_if (pt_cmpR op_eq (pe_op op_mod (pv 0) (pv 3)) pe_int (nomark _)) (pss_one (ps_ret (pv 3))) pss_nil)
        (pss_one (ps_set (i := 3) sc_lf.nd rfl (Or.inl rfl) (pe_op op_add (pv 3) pe_int)))))
      (pss_one (ps_ret (pv 0)))), ?_⟩
    refine ⟨_, rfl, ?_⟩
    refine ⟨fun n σ H' => ∃ f : Nat, σ = [some (.int (m : Int)), some (.int (l : Int)), some (.int (g : Int)), some (.int (f : Int))] ∧ 0 < f ∧ f + n < 1000000000 ∧ m < (f + n) * (f + n) ∧ lfF m g n f = lfF m g k l ∧ Same H H', ⟨k, l, rfl, hl, hb, hk, rfl, Same.refl _⟩, ?_⟩
    rintro n σ H1 ⟨f, rfl, hf, hfb, hn, e, s1⟩
    have e2 : ((f : Int) * (f : Int)) = ((f * f : Nat) : Int) := by rw [Int.natCast_mul]
    refine ⟨_, rfl, _, rfl, _, _, rfl, rfl, _, rfl, two (fun c1 => ?_) (fun c1 => ?_)⟩
    · have c1' : f ≤ g := by
        have q := of_decide_eq_true c1
        omega
      refine ⟨_, rfl, _, rfl, _, _, rfl, rfl, .inl ⟨by omega, by omega⟩, _, rfl, _, _, rfl, rfl, _, rfl, two (fun c2 => ?_) (fun c2 => ?_)⟩
      · have c2' : f * f ≤ m := by
          have q := of_decide_eq_true c2
          rw [e2] at q
          omega
        cases n with
        | zero => exact absurd c2' (Nat.not_le_of_lt hn)
        | succ n =>
          rw [lfF_s, if_pos ⟨c1', c2'⟩] at e
          refine ⟨fun σ' H' => ∃ f : Nat, σ' = [some (.int (m : Int)), some (.int (l : Int)), some (.int (g : Int)), some (.int (f : Int))] ∧ 0 < f ∧ f + n < 1000000000 ∧ m < (f + n) * (f + n) ∧ lfF m g n f = lfF m g k l ∧ Same H H', fun σ' H' q => ⟨n, Nat.lt_succ_self n, q⟩, ?_⟩
          refine ⟨_, rfl, _, rfl, _, _, rfl, rfl, (by omega), rfl, _, rfl, two (fun c3 => ?_) (fun c3 => ?_)⟩
          · have c3' : m % f = 0 := by
              have q : decide (V.int ((m : Int) % (f : Int)) = V.int 0) = true := c3
              rw [mod_zero] at q
              exact of_decide_eq_true q
            rw [if_pos c3'] at e
            have q := kQ H1 s1
            rw [← e] at q
            exact ⟨_, rfl, q⟩
          · have c3' : ¬ m % f = 0 := by
              have q : decide (V.int ((m : Int) % (f : Int)) = V.int 0) = false := c3
              rw [mod_zero] at q
              exact of_decide_eq_false q
            rw [if_neg c3'] at e
            refine ⟨_, rfl, _, _, rfl, rfl, f + 1, rfl, by omega, by omega, ?_, e, s1⟩
            rw [show f + 1 + n = f + (n + 1) by omega]
            exact hn
      · have c2' : ¬ f * f ≤ m := by
          have q := of_decide_eq_false c2
          rw [e2] at q
          omega
        have em : lfF m g n f = m := by
          cases n with
          | zero => rfl
          | succ n =>
            unfold lfF
            exact if_neg fun z => c2' z.2
        have q := kQ H1 s1
        rw [← e, em] at q
        exact ⟨_, rfl, q⟩
    · have c1' : ¬ f ≤ g := by
        have q := of_decide_eq_false c1
        omega
      have em : lfF m g n f = m := by
        cases n with
        | zero => rfl
        | succ n =>
          unfold lfF
          exact if_neg fun z => c1' z.1
      have q := kQ H1 s1
      rw [← e, em] at q
      exact iteF ⟨_, rfl, q⟩
theorem sc_pp : FnScope ["m", "prime"] ["m"] (defScope s_is_prime_power) := ⟨rfl, rfl, rfl, by decide +kernel, rfl, by decide +kernel, by decide +kernel⟩
theorem ok_is_prime_power (B : Bk K mg) : Df P w K mg base CX0 2 "is_prime_power" ["m"] spPP := by
  obtain ⟨fd, F⟩ := B.F_is_prime_power
  obtain ⟨fdL, GL, bL⟩ := (ok_least_factor (P := P) (w := w) (base := base) B).ex
  have kL := (ok_least_factor (P := P) (w := w) (base := base) B).kp
  obtain ⟨tR, gR⟩ := B.c_GREATEST
  refine ⟨⟨fd, ?_, F.binds fun _ _ _ _ _ _ us hl => match us, hl with | [_], _ => rfl⟩, B.g_is_prime_power, F.kp⟩
  refine F.ok sc_pp (fun vs H Q E h => ?_) (fun cdv A outer s H vs Q E hr h => ?_)
  · obtain ⟨z, b, rfl, _⟩ := h
    rfl
  · obtain ⟨m, b, rfl, hm2, hm6, hb, k⟩ := h
    refine ⟨_, pss_cons (ps_set (i := 1) sc_pp.nd rfl (Or.inl rfl) (pe_call GL hr rfl B.g_least_factor kL bL .nil pass0 (pa_cons (pv 0) (pa_cons pe_int (pa_cons (pe_glob (v := .int 1000000) rfl gR ⟨_, rfl⟩) pa_nil)))))
      (pss_cons (ps_while PassesOwn.never (pt_cmpR op_eq (pe_op op_mod (pv 0) (pv 1)) pe_int (nomark _)) (pss_one (ps_set (i := 0) sc_pp.nd rfl (Or.inl rfl) (pe_op op_fdiv (pv 0) (pv 1)))))
      (pss_one (ps_ret (pe_cmpR op_eq (pv 0) pe_int (nomark _))))), ?_⟩
    refine ⟨_, rfl, m, 2, 1000000, 1000, rfl, by decide, by decide, by omega, fun H1 s1 => ?_⟩
    unfold isPP at hb
    obtain ⟨x, hx, hxb⟩ := Option.map_eq_some_iff.mp hb
    have hp0 : 0 < lfP m := lfF_pos (by omega) (by decide)
    have hpm : lfP m ≤ m := lfF_le (by decide)
    refine ⟨fun n σ H' => ∃ m' : Nat, σ = [some (.int (m' : Int)), some (.int ((lfP m : Nat) : Int))] ∧ ppStrip n m' (lfP m) = some x ∧ Same H H', ⟨64, m, rfl, hx, s1⟩, ?_⟩
    rintro n σ H2 ⟨m', rfl, hs, s2⟩
    generalize lfP m = f at hp0 hpm hs ⊢
    refine ⟨_, rfl, _, rfl, _, _, rfl, rfl, (by omega), rfl, _, rfl, ?_⟩
    cases n with
    | zero => cases hs
    | succ n =>
      unfold ppStrip at hs
      refine two (fun h2 => ?_) (fun h2 => ?_)
      · have h2' : m' % f = 0 := by
          have q : decide (V.int ((m' : Int) % (f : Int)) = V.int 0) = true := h2
          rw [mod_zero] at q
          exact of_decide_eq_true q
        rw [if_pos h2'] at hs
        refine ⟨fun σ' H' => ∃ m2 : Nat, σ' = [some (.int (m2 : Int)), some (.int (f : Int))] ∧ ppStrip n m2 f = some x ∧ Same H H', fun σ' H' q => ⟨n, Nat.lt_succ_self n, q⟩, ?_⟩
        refine ⟨_, rfl, _, rfl, _, _, rfl, rfl, ⟨by omega, by omega⟩, m' / f, ?_, hs, s2⟩
        have e : ((m' : Int) / (f : Int)) = ((m' / f : Nat) : Int) := by omega
        show [some (V.int ((m' : Int) / (f : Int))), some (V.int (f : Int))] = _
        rw [e]
      · have h2' : ¬ m' % f = 0 := by
          have q : decide (V.int ((m' : Int) % (f : Int)) = V.int 0) = false := h2
          rw [mod_zero] at q
          exact of_decide_eq_false q
        rw [if_neg h2'] at hs
        have em : m' = x := Option.some.inj hs
        refine ⟨_, rfl, rfl, ?_⟩
        have q := k H2 s2
        rw [← hxb, ← em] at q
        show Q (V.bl (decide (V.int (m' : Int) = V.int 1))) H2
        rw [int_eq]
        have e : decide ((m' : Int) = 1) = decide (m' = 1) := decide_eq_decide.mpr (by omega)
        rw [e]
        exact q
end
end Jd
namespace Jd
open PySem PySem.Spec PyProof.Rows L2
/-! ### _some_factor, _primes -/
def iV (n : Nat) : V := .int (n : Int)
def sf (m : Nat) : Nat := lfF m 1000 1000 2
def pmRun : Nat → List Nat → List Nat → Option (List Nat)
  | _, [], pr => some pr
  | 0, _ :: _, _ => none
  | k + 1, r :: st, pr => if sf r ≠ r then pmRun k (r / sf r :: sf r :: st) pr else if 1 < r ∧ r ∉ pr then pmRun k st (pr ++ [r]) else pmRun k st pr
def smN (m : Nat) : Prop := 0 < m ∧ m ≤ 1000000
def spSf : Sp := fun vs H Q _ => ∃ m : Nat, vs = [iV m] ∧ smN m ∧ ∀ H', Same H H' → Q (iV (sf m)) H'
def spPms : Sp := fun vs H Q _ => ∃ (m : Nat) (L : List Nat), vs = [iV m] ∧ smN m ∧ pmRun 100 [m] [] = some L ∧ ∀ H' p, Same H H' → H p = none → H' p = some (.lst (L.map iV)) → Q (.ref p) H'
theorem sf_sm {m : Nat} (h : smN m) : smN (sf m) := ⟨lfF_pos h.1 (by decide), Nat.le_trans (lfF_le (by decide)) h.2⟩
theorem sf_div {m : Nat} (h : smN m) (hd : sf m ≠ m) : smN (m / sf m) := by
  have h1 : sf m ≤ m := lfF_le (by decide)
  have h2 : 0 < sf m := (sf_sm h).1
  exact ⟨Nat.div_pos h1 h2, Nat.le_trans (Nat.div_le_self _ _) h.2⟩
theorem in_iV {r : Nat} {pr : List Nat} : inV (iV r) (pr.map iV) = decide (r ∈ pr) := by
  unfold inV
  induction pr with
  | nil => rfl
  | cons x xs ih =>
    rw [List.map_cons, List.any_cons, ih]
    show (((x : Int) == (r : Int)) || _) = _
    by_cases h : x = r
    · subst h
      simp
    · have h1 : ((x : Int) == (r : Int)) = false := beq_eq_false_iff_ne.mpr fun e => h (by omega)
      rw [h1, Bool.false_or]
      exact decide_eq_decide.mpr ⟨fun m => List.mem_cons_of_mem _ m, fun m => by
        rcases List.mem_cons.mp m with e | m
        · exact absurd e.symm h
        · exact m⟩
theorem flat_iV {pr : List Nat} : (pr.map iV).all flatV = true := by
  rw [List.all_map]
  exact List.all_eq_true.mpr fun _ _ => rfl
section
variable {P : Program} {w : World} {K : PySem.W.Frag} {mg : Str → Option Value} {base : Heap}
theorem sc_sf : FnScope ["m", "factor", "shift"] ["m"] (defScope s__some_factor) := ⟨rfl, rfl, rfl, by decide +kernel, rfl, by decide +kernel, by decide +kernel⟩
theorem ok_some_factor (B : Bk K mg) : Df P w K mg base CX0 2 "_some_factor" ["m"] spSf := by
  obtain ⟨fd, F⟩ := B.F_some_factor
  obtain ⟨fdL, GL, bL⟩ := (ok_least_factor (P := P) (w := w) (base := base) B).ex
  have kL := (ok_least_factor (P := P) (w := w) (base := base) B).kp
  obtain ⟨tR, gR⟩ := B.c_ROOT
  refine ⟨⟨fd, ?_, F.binds fun _ _ _ _ _ _ us hl => match us, hl with | [_], _ => rfl⟩, B.g_some_factor, F.kp⟩
  refine F.ok sc_sf (fun vs H Q E h => ?_) (fun cdv A outer s H vs Q E hr h => ?_)
  · obtain ⟨z, rfl, _⟩ := h
    rfl
  · obtain ⟨m, rfl, hm, k⟩ := h
    refine ⟨_, pss_cons (ps_set (i := 1) sc_sf.nd rfl (Or.inl rfl) (pe_call GL hr rfl B.g_least_factor kL bL .nil pass0 (pa_cons (pv 0) (pa_cons pe_int (pa_cons (pe_glob (v := .int 1000) rfl gR ⟨_, rfl⟩) pa_nil)))))
      (pss_cons (ps_if (PW.pt (pw_or (pt_cmpR op_ne (pv 1) (pv 0) (nomark _)) (pw_or1 (pt_cmpR op_le (pv 0) (pe_op op_mul (pe_glob (v := .int 1000) rfl gR ⟨_, rfl⟩) (pe_glob (v := .int 1000) rfl gR ⟨_, rfl⟩)) (nomark _))))) (pss_one (ps_ret (pv 1))) pss_nil)
      pss_never), ?_⟩
    have hm2 : m ≤ 1000000 := hm.2
    refine ⟨_, rfl, m, 2, 1000, 1000, rfl, by decide, by decide, by omega, fun H1 s1 => ?_⟩
    have q := k H1 s1
    refine ⟨_, rfl, _, rfl, rfl, _, rfl, two (fun c1 => ⟨_, rfl, q⟩) (fun c1 => ?_)⟩
    refine ⟨_, rfl, _, _, rfl, rfl, .inl ⟨by decide, by decide⟩, _, _, rfl, rfl, _, rfl, two (fun c2 => ⟨_, rfl, q⟩) (fun c2 => ?_)⟩
    have q := of_decide_eq_false c2
    exact absurd (by omega : (m : Int) ≤ 1000 * 1000) q
theorem sc_pms : FnScope ["m", "primes", "pending", "rest", "factor"] ["m"] (defScope s__primes) := ⟨rfl, rfl, rfl, by decide +kernel, rfl, by decide +kernel, by decide +kernel⟩
theorem ok_primes (B : Bk K mg) : Df P w K mg base CX0 3 "_primes" ["m"] spPms := by
  obtain ⟨fd, F⟩ := B.F_primes
  obtain ⟨fdS, GS, bS⟩ := (ok_some_factor (P := P) (w := w) (base := base) B).ex
  have kS := (ok_some_factor (P := P) (w := w) (base := base) B).kp
  refine ⟨⟨fd, ?_, F.binds fun _ _ _ _ _ _ us hl => match us, hl with | [_], _ => rfl⟩, B.g_primes, F.kp⟩
  refine F.ok sc_pms (fun vs H Q E h => ?_) (fun cdv A outer s H vs Q E hr h => ?_)
  · obtain ⟨z, L, rfl, _⟩ := h
    rfl
  · obtain ⟨m, L, rfl, hm, hL, k⟩ := h
    refine ⟨_, pss_cons (ps_set (i := 1) sc_pms.nd rfl (Or.inl rfl) (pe_lst pa_nil))
      (pss_cons (ps_set (i := 2) sc_pms.nd rfl (Or.inl rfl) (pe_lst (pa_cons (pv 0) pa_nil)))
      (pss_cons (ps_while PassesOwn.never (pt_cmpR op_gt (pe_callB call_len_seq (by rfl) B.b_len PySem.boot_len (pa_cons (pv 2) pa_nil)) pe_int (nomark _))
        (pss_cons (ps_set (i := 3) sc_pms.nd rfl (Or.inl rfl) (pe_bm0 PySem.F.plainAttrs_list PySem.F.slot_list_pop PySem.F.type_list_pop mt_pop (pv 2)))
        (pss_cons (ps_set (i := 4) sc_pms.nd rfl (Or.inl rfl) (pe_call GS hr rfl B.g_some_factor kS bS .nil pass0 (pa_cons (pv 3) pa_nil)))
        (pss_one (ps_if (pt_cmpR op_ne (pv 4) (pv 3) (nomark _))
          (pss_one (ps_expr (pe_bm PySem.F.plainAttrs_list PySem.F.slot_list_extend PySem.F.type_list_extend mt_extend (pv 2) (pa_cons (pe_lst (pa_cons (pv 4) (pa_cons (pe_op op_fdiv (pv 3) (pv 4)) pa_nil))) pa_nil))))
          (pss_one (ps_if (PW.pt (pw_and (pt_cmpR op_gt (pv 3) pe_int (nomark _)) (pw_and1 (pt_cmpR op_notIn_seq (pv 3) (pv 1) (by rfl))))) (pss_one (ps_expr (pe_bm PySem.F.plainAttrs_list PySem.F.slot_list_append PySem.F.type_list_append mt_append (pv 1) (pa_cons (pv 3) pa_nil)))) pss_nil)))))))
      (pss_one (ps_ret (pv 1))))), ?_⟩
    refine ⟨Nat.zero_le _, fun l1 h1 => ?_⟩
    refine ⟨_, rfl, (by show 1 ≤ sizeLine; decide), fun l2 h2 => ?_⟩
    have n12 : l1 ≠ l2 := fun e => by rw [e, upd_same] at h2; cases h2
    have n2 : H l2 = none := by rw [upd_ne n12.symm] at h2; exact h2
    refine ⟨fun n σ H' => ∃ (st pr : List Nat) (v3 v4 : Option V), σ = [some (iV m), some (.ref l1), some (.ref l2), v3, v4] ∧ pmRun n st pr = some L ∧ (∀ r ∈ st, smN r) ∧ st.length + n ≤ 200 ∧ pr.length + n ≤ 200 ∧ Same H H' ∧ H' l1 = some (.lst (pr.map iV)) ∧ H' l2 = some (.lst (st.reverse.map iV)),
      ⟨100, [m], [], none, none, rfl, hL, (fun r hr => by rw [List.mem_singleton.mp hr]; exact hm), (by show 1 + 100 ≤ 200; decide), (by show 0 + 100 ≤ 200; decide), Same_upd (Same_new h1) n2, by rw [upd_ne n12, upd_same]; rfl, upd_same⟩, ?_⟩
    rintro n σ H1 ⟨st, pr, v3, v4, rfl, hrun, hst, hl, hl', s1, w1, w2⟩
    refine ⟨_, rfl, l2, _, rfl, .inl (SqL.of w2), _, _, rfl, rfl, _, rfl, ?_⟩
    cases st with
    | nil =>
      refine iteF ?_
      have e : pr = L := by
        cases n <;> exact Option.some.inj hrun
      subst e
      exact ⟨_, rfl, k H1 l1 s1 h1 w1⟩
    | cons r st =>
      have c1 : decide ((0 : Int) < (((r :: st).reverse.map iV).length : Int)) = true := decide_eq_true (by rw [List.length_map, List.length_reverse, List.length_cons]; omega)
      show if decide ((0 : Int) < (((r :: st).reverse.map iV).length : Int)) = true then _ else _
      rw [c1]
      refine iteT ?_
      cases n with
      | zero => cases hrun
      | succ n =>
        have hr' : smN r := hst r List.mem_cons_self
        have hst' : ∀ x ∈ st, smN x := fun x hx => hst x (List.mem_cons_of_mem _ hx)
        have er : (r :: st).reverse.map iV = st.reverse.map iV ++ [iV r] := by rw [List.reverse_cons, List.map_append]; rfl
        rw [er] at w2
        rw [List.length_cons] at hl
        refine ⟨fun σ' H' => ∃ (st pr : List Nat) (v3 v4 : Option V), σ' = [some (iV m), some (.ref l1), some (.ref l2), v3, v4] ∧ pmRun n st pr = some L ∧ (∀ r ∈ st, smN r) ∧ st.length + n ≤ 200 ∧ pr.length + n ≤ 200 ∧ Same H H' ∧ H' l1 = some (.lst (pr.map iV)) ∧ H' l2 = some (.lst (st.reverse.map iV)), fun σ' H' q => ⟨n, Nat.lt_succ_self n, q⟩, ?_⟩
        refine ⟨_, rfl, .inl ⟨rfl, _, SqL.of w2⟩, l2, _, iV r, rfl, rfl, w2, ?_, ?_⟩
        · rw [List.length_append, List.length_singleton, Nat.add_sub_cancel, List.getElem?_append_right (Nat.le_refl _), Nat.sub_self]
          rfl
        · rw [List.dropLast_concat]
          refine ⟨_, rfl, r, rfl, hr', fun H2 s2 => ?_⟩
          have sH : Same H H2 := (Same_upd s1 n2).trans s2
          have u2 : H2 l2 = some (.lst (st.reverse.map iV)) := s2 _ _ upd_same
          have u1 : H2 l1 = some (.lst (pr.map iV)) := s2 _ _ (by rw [upd_ne n12]; exact w1)
          have hs := sf_sm hr'
          refine ⟨_, rfl, _, rfl, rfl, _, rfl, ?_⟩
          unfold pmRun at hrun
          by_cases hd : sf r = r
          · rw [if_neg (fun z => z hd)] at hrun
            have c2 : decide (iV (sf r) = iV r) = true := decide_eq_true (by rw [hd])
            show if (!decide (iV (sf r) = iV r)) = true then _ else _
            rw [c2]
            refine iteF ?_
            refine ⟨_, rfl, _, _, rfl, rfl, _, rfl, two (fun c3 => ?_) (fun c3 => ?_)⟩
            · have c3' : 1 < r := by
                have q := of_decide_eq_true c3
                omega
              refine ⟨_, rfl, _, rfl, l1, _, rfl, .inl (SqL.of u1), rfl, flat_iV, _, rfl, ?_⟩
              show if (!inV (iV r) (pr.map iV)) = true then _ else _
              rw [in_iV]
              by_cases hm : r ∈ pr
              · rw [if_neg (fun z => z.2 hm)] at hrun
                rw [decide_eq_true hm]
                exact iteF ⟨st, pr, _, _, rfl, hrun, hst', by omega, by omega, sH, u1, u2⟩
              · rw [if_pos ⟨c3', hm⟩] at hrun
                rw [decide_eq_false hm]
                refine iteT ?_
                refine ⟨_, rfl, .inl ⟨rfl, _, SqL.of u1⟩, _, rfl, l1, _, _, rfl, rfl, u1, ?_, ?_⟩
                · rw [List.length_map]
                  have : sizeLine > 200 := by decide
                  omega
                · refine ⟨st, pr ++ [r], _, _, rfl, hrun, hst', by omega, ?_, Same_upd sH h1, ?_, ?_⟩
                  · rw [List.length_append, List.length_singleton]
                    omega
                  · rw [upd_same, List.map_append]
                    rfl
                  · rw [upd_ne n12.symm]
                    exact u2
            · have c3' : ¬ 1 < r := by
                have q := of_decide_eq_false c3
                omega
              rw [if_neg (fun z => c3' z.1)] at hrun
              exact iteF ⟨st, pr, _, _, rfl, hrun, hst', by omega, by omega, sH, u1, u2⟩
          · rw [if_pos hd] at hrun
            have c2 : decide (iV (sf r) = iV r) = false := decide_eq_false (fun e => hd (by
              have e' : V.int ((sf r : Nat) : Int) = V.int (r : Int) := e
              injection e' with e'
              omega))
            show if (!decide (iV (sf r) = iV r)) = true then _ else _
            rw [c2]
            refine iteT ?_
            refine ⟨_, rfl, .inl ⟨rfl, _, SqL.of u2⟩, ?_⟩
            have hs1 := hs.1
            have hs2 := hs.2
            refine ⟨_, rfl, _, rfl, _, rfl, _, _, rfl, rfl, ⟨by omega, by omega⟩, (by show 2 ≤ sizeLine; decide), fun p hp => ?_⟩
            have np : l2 ≠ p := fun e => by rw [← e, u2] at hp; cases hp
            have np1 : l1 ≠ p := fun e => by rw [← e, u1] at hp; cases hp
            refine ⟨l2, p, _, _, rfl, rfl, (by rw [upd_ne np]; exact u2), upd_same, ?_, ?_⟩
            · rw [List.length_map, List.length_reverse]
              have : sizeLine > 300 := by decide
              show st.length + 2 ≤ sizeLine
              omega
            · refine ⟨r / sf r :: sf r :: st, pr, _, _, rfl, hrun, ?_, ?_, by omega, Same_upd (Same_upd sH (sH.free hp)) n2, ?_, ?_⟩
              · intro x hx
                rcases List.mem_cons.mp hx with rfl | hx
                · exact sf_div hr' hd
                · rcases List.mem_cons.mp hx with rfl | hx
                  · exact hs
                  · exact hst' x hx
              · rw [List.length_cons, List.length_cons]
                omega
              · rw [upd_ne n12, upd_ne np1]
                exact u1
              · rw [upd_same]
                have e1 : ((r : Int) / ((sf r : Nat) : Int)) = ((r / sf r : Nat) : Int) := by omega
                show some (HO.lst (st.reverse.map iV ++ [iV (sf r), V.int ((r : Int) / ((sf r : Nat) : Int))])) = _
                rw [e1, List.reverse_cons, List.reverse_cons, List.map_append, List.map_append, List.append_assoc]
                rfl
end
end Jd
namespace Jd
open PySem PySem.Spec PyProof.Rows L2
/-! ### prime_powers -/
def ppIn : Nat → Nat → Nat → Nat → List Nat → Option (List Nat)
  | 0, _, _, _, _ => none
  | k + 1, m, pw, p, acc => if m % pw = 0 then (if acc.length < 1000 then ppIn k m (pw * p) p (acc ++ [pw]) else none) else some acc
def ppAll (m : Nat) : List Nat → List Nat → Option (List Nat)
  | [], acc => some acc
  | p :: r, acc => match ppIn 64 m p p acc with
    | none => none
    | some a => ppAll m r a
/-- what prime_powers([m]) makes -/
def PPs (m : Nat) (L : List Nat) : Prop := smN m ∧ ∃ L1, pmRun 100 [m] [] = some L1 ∧ (∀ p ∈ L1, smN p) ∧ L1.length ≤ 1000 ∧ ppAll m L1 [] = some L
def spPPs (K : PySem.W.Frag) : Sp := fun vs H Q _ => ∃ (a : Addr) (m : Nat) (L : List Nat), vs = [.ref a] ∧ SqL K H a [iV m] ∧ PPs m L ∧ ∀ H' p, Same H H' → H p = none → H' p = some (.lst (L.map iV)) → Q (.ref p) H'
theorem len_big : 1000 ≤ sizeLine := by decide
section
variable {P : Program} {w : World} {K : PySem.W.Frag} {mg : Str → Option Value} {base : Heap}
theorem sc_pps : FnScope ["numbers", "primes", "m", "rest", "prime", "powers", "power"] ["numbers"] (defScope s_prime_powers) := ⟨rfl, rfl, rfl, by decide +kernel, rfl, by decide +kernel, by decide +kernel⟩
theorem ok_prime_powers (B : Bk K mg) : Df P w K mg base CX0 4 "prime_powers" ["numbers"] (spPPs K) := by
  obtain ⟨fd, F⟩ := B.F_prime_powers
  obtain ⟨fdS, GS, bS⟩ := (ok_primes (P := P) (w := w) (base := base) B).ex
  have kS := (ok_primes (P := P) (w := w) (base := base) B).kp
  refine ⟨⟨fd, ?_, F.binds fun _ _ _ _ _ _ us hl => match us, hl with | [_], _ => rfl⟩, B.g_prime_powers, F.kp⟩
  refine F.ok sc_pps (fun vs H Q E h => ?_) (fun cdv A outer s H vs Q E hr h => ?_)
  · obtain ⟨a, m, L, rfl, _⟩ := h
    rfl
  · obtain ⟨a, m, L, rfl, ha, ⟨hm, L1, hL1, hp1, hl1, hL⟩, k⟩ := h
    refine ⟨_, pss_cons (ps_set (i := 1) sc_pps.nd rfl (Or.inl rfl) (pe_lst pa_nil))
      (pss_cons (ps_for PassesOwn.never rfl (pi_list (pv 0)) (pg_name (i := 2) sc_pps.nd rfl (Or.inl rfl))
        (pss_cons (ps_set (i := 3) sc_pps.nd rfl (Or.inl rfl) (pv 2))
        (pss_cons (ps_for PassesOwn.never rfl (pi_list (pv 1)) (pg_name (i := 4) sc_pps.nd rfl (Or.inl rfl))
          (pss_one (ps_while PassesOwn.never (pt_cmpR op_eq (pe_op op_mod (pv 3) (pv 4)) pe_int (nomark _)) (pss_one (ps_set (i := 3) sc_pps.nd rfl (Or.inl rfl) (pe_op op_fdiv (pv 3) (pv 4)))))))
        (pss_one (ps_set (i := 1) sc_pps.nd rfl (Or.inl rfl) (pe_op op_cat (pv 1) (pe_call GS hr rfl B.g_primes kS bS .nil pass0 (pa_cons (pv 3) pa_nil))))))))
      (pss_cons (ps_set (i := 5) sc_pps.nd rfl (Or.inl rfl) (pe_lst pa_nil))
      (pss_cons (ps_for PassesOwn.never rfl (pi_list (pv 1)) (pg_name (i := 4) sc_pps.nd rfl (Or.inl rfl))
        (pss_cons (ps_set (i := 6) sc_pps.nd rfl (Or.inr rfl) (pv 4))
        (pss_one (ps_while PassesOwn.never (pt_val (pe_callB (cr_any rfl) (by rfl) B.b_any (by decide +kernel) (pa_cons
            (pe_lc (own := [("m", 2)]) (g := gName 2) (tt := tYes) rfl sc_pps.nd (pi_list (pv 0)) (blkOk_by (N := ["numbers", "primes", "m", "rest", "prime", "powers", "power"]) (sc := defScope s_prime_powers) (by decide +kernel))
              (fun _ _ _ _ _ => pg_name (i := 2) sc_pps.nd rfl (Or.inl rfl)) (fun _ _ _ _ _ => pts_nil) (fun _ _ _ _ _ => pe_cmpR op_eq (pe_op op_mod (pv 2) (pv 6)) pe_int (nomark _))) pa_nil)))
          (pss_cons (ps_expr (pe_bm PySem.F.plainAttrs_list PySem.F.slot_list_append PySem.F.type_list_append mt_append (pv 5) (pa_cons (pv 6) pa_nil)))
          (pss_one (ps_set (i := 6) sc_pps.nd rfl (Or.inr rfl) (pe_op op_mul (pv 6) (pv 4)))))))))
      (pss_one (ps_ret (pv 5)))))), ?_⟩
    refine ⟨Nat.zero_le _, fun l0 h0 => ?_⟩
    have s0 : Same H (upd H l0 (.lst [])) := Same_new h0
    refine ⟨_, rfl, a, rfl, ⟨_, s0.seq ha⟩, ?_⟩
    refine for_it (w := walk_list (xs := [iV m])) (fun i σ H' => Same H H' ∧ ((i = 0 ∧ σ = [some (.ref a), some (.ref l0), none, none, none, none, none] ∧ H' l0 = some (.lst [])) ∨ (i = 1 ∧ ∃ p, H p = none ∧ σ = [some (.ref a), some (.ref p), some (iV m), some (iV m), none, none, none] ∧ H' p = some (.lst (L1.map iV)))))
      ⟨s0, .inl ⟨rfl, rfl, upd_same⟩⟩ (fun i σ H' _ h => h.1.seq ha) (fun i x σ H0 Hx hi hP y => ?_) (fun σ H1 hP => ?_)
    · obtain ⟨rfl, hx⟩ := y
      have hi' : i = 0 := by
        have q : i < 1 := hi
        omega
      subst hi'
      cases hx
      obtain ⟨s1, ⟨_, rfl, w0⟩ | ⟨h1, _⟩⟩ := hP
      · refine ⟨_, rfl, ?_⟩
        refine ⟨_, rfl, l0, rfl, ⟨_, SqL.of w0⟩, ?_⟩
        refine for_it (w := walk_list (xs := [])) (fun i σ H' => σ = [some (.ref a), some (.ref l0), some (iV m), some (iV m), none, none, none] ∧ H' = Hx) ⟨rfl, rfl⟩ (fun i σ H' _ h => by rw [h.2]; exact SqL.of w0) (fun i x σ _ _ hi _ _ => absurd hi (Nat.not_lt_zero i)) (fun σ H2 hP => ?_)
        obtain ⟨rfl, rfl⟩ := hP
        refine ⟨_, rfl, _, rfl, m, L1, rfl, hm, hL1, fun H3 p s3 np hp => ?_⟩
        refine ⟨l0, p, _, _, rfl, rfl, s3 _ _ w0, hp, ?_, fun p2 np2 => ?_⟩
        · rw [List.length_map]
          show 0 + L1.length ≤ sizeLine
          have := len_big
          omega
        · refine ⟨(s1.trans s3).trans (Same_new np2), .inr ⟨rfl, p2, (s1.trans s3).free np2, rfl, ?_⟩⟩
          rw [upd_same]
          rfl
      · cases h1
    · obtain ⟨s1, ⟨h0, _⟩ | ⟨_, p1, np1, rfl, w1⟩⟩ := hP
      · cases h0
      · refine ⟨Nat.zero_le _, fun l5 h5 => ?_⟩
        have n5 : H l5 = none := s1.free h5
        have ne : p1 ≠ l5 := fun e => by rw [e, h5] at w1; cases w1
        have s2 : Same H (upd H1 l5 (.lst [])) := s1.trans (Same_new h5)
        have w1' : (upd H1 l5 (.lst [])) p1 = some (.lst (L1.map iV)) := by rw [upd_ne ne]; exact w1
        refine ⟨_, rfl, p1, rfl, ⟨_, SqL.of w1'⟩, ?_⟩
        refine for_it (w := walk_list (xs := L1.map iV)) (fun i σ H' => ∃ (acc : List Nat) (v4 v6 : Option V), σ = [some (.ref a), some (.ref p1), some (iV m), some (iV m), v4, some (.ref l5), v6] ∧ ppAll m (L1.drop i) acc = some L ∧ Same H H' ∧ H' p1 = some (.lst (L1.map iV)) ∧ H' l5 = some (.lst (acc.map iV)))
          ⟨[], none, none, rfl, hL, s2, w1', upd_same⟩ (fun i σ H' _ h => by obtain ⟨_, _, _, _, _, _, h, _⟩ := h; exact SqL.of h) (fun i x σ H2 H' hi hP y => ?_) (fun σ H2 hP => ?_)
        · obtain ⟨rfl, hx⟩ := y
          obtain ⟨acc, v4, v6, rfl, hA, s3, u1, u5⟩ := hP
          rw [List.getElem?_map] at hx
          cases hn : L1[i]? with
          | none =>
            rw [hn] at hx
            cases hx
          | some p =>
            rw [hn] at hx
            cases hx
            obtain ⟨hi1, ei⟩ := List.getElem?_eq_some_iff.mp hn
            have hp := hp1 p (List.mem_of_getElem? hn)
            rw [List.drop_eq_getElem_cons hi1, ei] at hA
            unfold ppAll at hA
            split at hA
            · cases hA
            · rename_i acc2 hin
              refine ⟨_, rfl, ?_⟩
              refine ⟨fun n σ H' => ∃ (pw : Nat) (ac : List Nat), σ = [some (.ref a), some (.ref p1), some (iV m), some (iV m), some (iV p), some (.ref l5), some (iV pw)] ∧ 0 < pw ∧ ppIn n m pw p ac = some acc2 ∧ Same H H' ∧ H' p1 = some (.lst (L1.map iV)) ∧ H' l5 = some (.lst (ac.map iV)), ⟨64, p, acc, rfl, hp.1, hin, s3, u1, u5⟩, ?_⟩
              rintro n σ H3 ⟨pw, ac, rfl, hpw, hrun, s4, x1, x5⟩
              refine ⟨_, rfl, a, rfl, ⟨_, s4.seq ha⟩, fun D hD => ?_⟩
              refine lc_fm (w := walk_list (xs := [iV m])) (fun i => ([iV m][i]?).map fun _ => V.bl (decide (m % pw = 0))) hD (by show 1 ≤ sizeLine; decide) (fun H' s' => s'.seq (s4.seq ha)) (fun i x H4 H5 Kt Kf hi s5 y kt kf => ?_) (fun H4 s5 hD4 => ?_)
              · obtain ⟨rfl, hx⟩ := y
                have hi' : i = 0 := by
                  have q : i < 1 := hi
                  omega
                subst hi'
                cases hx
                refine ⟨rfl, iteT (B := Kf H5) ?_⟩
                refine ⟨_, rfl, _, rfl, _, _, rfl, rfl, (by omega), rfl, ?_⟩
                refine kt _ _ ?_ (Same.refl _)
                show some (V.bl (decide (m % pw = 0))) = some (V.bl (decide (V.int ((m : Int) % (pw : Int)) = V.int 0)))
                rw [mod_zero]
              · refine ⟨D, [decide (m % pw = 0)], rfl, SqL.of (hD4.trans rfl), _, rfl, ?_⟩
                have y1 := s5 _ _ x1
                have y5 := s5 _ _ x5
                have sH := s4.trans s5
                cases n with
                | zero => cases hrun
                | succ n =>
                  unfold ppIn at hrun
                  by_cases c : m % pw = 0
                  · rw [if_pos c] at hrun
                    split at hrun
                    · rename_i hl
                      rw [decide_eq_true c]
                      refine iteT ?_
                      refine ⟨fun σ H' => ∃ (pw : Nat) (ac : List Nat), σ = [some (.ref a), some (.ref p1), some (iV m), some (iV m), some (iV p), some (.ref l5), some (iV pw)] ∧ 0 < pw ∧ ppIn n m pw p ac = some acc2 ∧ Same H H' ∧ H' p1 = some (.lst (L1.map iV)) ∧ H' l5 = some (.lst (ac.map iV)), fun σ' H' q => ⟨n, Nat.lt_succ_self n, q⟩, ?_⟩
                      have hle : pw ≤ m := Nat.le_of_dvd hm.1 (Nat.dvd_of_mod_eq_zero c)
                      have hm2 := hm.2
                      refine ⟨_, rfl, .inl ⟨rfl, _, SqL.of y5⟩, _, rfl, l5, _, _, rfl, rfl, y5, ?_, ?_⟩
                      · rw [List.length_map]
                        have := len_big
                        omega
                      · refine ⟨_, rfl, _, rfl, _, _, rfl, rfl, .inl ⟨by omega, by omega⟩, pw * p, ac ++ [pw], ?_, Nat.mul_pos hpw hp.1, hrun, Same_upd sH n5, ?_, ?_⟩
                        · have e2 : ((pw : Int) * (p : Int)) = ((pw * p : Nat) : Int) := by rw [Int.natCast_mul]
                          show [some (V.ref a), some (V.ref p1), some (iV m), some (iV m), some (iV p), some (V.ref l5), some (V.int ((pw : Int) * (p : Int)))] = _
                          rw [e2]
                          rfl
                        · rw [upd_ne ne]
                          exact y1
                        · rw [upd_same, List.map_append]
                          rfl
                    · cases hrun
                  · rw [if_neg c] at hrun
                    rw [decide_eq_false c]
                    have e := Option.some.inj hrun
                    subst e
                    exact iteF ⟨ac, _, _, rfl, hA, sH, y1, y5⟩
        · obtain ⟨acc, v4, v6, rfl, hA, s3, u1, u5⟩ := hP
          rw [List.length_map, List.drop_length] at hA
          have e := Option.some.inj hA
          subst e
          exact ⟨_, rfl, k H2 l5 s3 n5 u5⟩
end
end Jd
namespace Jd
open PySem PySem.Spec PyProof.Rows L2
/-! ### _digits_of, field_text -/
def zf60 (n : Nat) : Str := Txt.zfill (toString (n : Int)) 60
def dig60 (n : Nat) : Str := Txt.lstripChars (zf60 n ++ Str.empty) "0"
/-- what a number must be for _digits_of -/
def numOk (n : Nat) : Prop := 0 < n ∧ n < 1000000000000000000 ∧ (zf60 n ++ Str.empty).length ≤ 1000 ∧ (zf60 n).length ≤ 1000 ∧ ((dig60 n).length ≤ 1000 ∧ (dig60 n).length ≠ 0)
def spDig : Sp := fun vs H Q _ => ∃ n : Nat, vs = [iV n] ∧ numOk n ∧ ∀ H', Same H H' → Q (.str (dig60 n)) H'
def ftext (name : Str) (n : Nat) : Str := Str.empty ++ name ++ "/" ++ dig60 n
def spFt : Sp := fun vs H Q _ => ∃ (name : Str) (n : Nat), vs = [.str name, iV n] ∧ numOk n ∧ name.length ≤ 1000 ∧ ∀ H', Same H H' → Q (.str (ftext name n)) H'
theorem app_len (a b : Str) : (a ++ b).length = a.length + b.length := by
  show (a.cps ++ b.cps).size = a.cps.size + b.cps.size
  exact Array.size_append
theorem log_ok {n : Nat} (h : n < 1000000000000000000) : (n : Int).natAbs.log2 < 1920 := by
  have e : (n : Int).natAbs = n := by omega
  rw [e]
  by_cases h0 : n = 0
  · subst h0
    decide
  · have q : n.log2 < 60 := (Nat.log2_lt h0).mpr (by omega)
    omega
section
variable {P : Program} {w : World} {K : PySem.W.Frag} {mg : Str → Option Value} {base : Heap}
theorem sc_dig : FnScope ["number", "digits", "rest", "piece"] ["number"] (defScope s_written) := ⟨rfl, rfl, rfl, by decide +kernel, rfl, by decide +kernel, by decide +kernel⟩
theorem ok_written (B : Bk K mg) : Df P w K mg base CX0 1 "written" ["number"] spDig := by
  obtain ⟨fd, F⟩ := B.F_written
  refine ⟨⟨fd, ?_, F.binds fun _ _ _ _ _ _ us hl => match us, hl with | [_], _ => rfl⟩, B.g_written, F.kp⟩
  refine F.ok sc_dig (fun vs H Q E h => ?_) (fun cdv A outer s H vs Q E hr h => ?_)
  · obtain ⟨n, rfl, _⟩ := h
    rfl
  · obtain ⟨n, rfl, ⟨hn, hb, hl, hl2, hl3, hl4⟩, k⟩ := h
    refine ⟨_, pss_cons (ps_set (i := 1) sc_dig.nd rfl (Or.inl rfl) pe_str)
      (pss_cons (ps_set (i := 2) sc_dig.nd rfl (Or.inl rfl) (pe_callB call_abs (by rfl) B.b_abs (by decide +kernel) (pa_cons (pv 0) pa_nil)))
      (pss_cons (ps_while PassesOwn.never (pt_cmpR op_gt (pv 2) pe_int (nomark _))
        (pss_cons (ps_asg (pe_callB call_divmodW (by rfl) B.b_divmod (by decide +kernel) (pa_cons (pv 2) (pa_cons (pe_op op_pow pe_int pe_int) pa_nil))) (pg_tup (by rfl) (pgs_cons (pg_name (i := 2) sc_dig.nd rfl (.inl rfl)) (pgs_cons (pg_name (i := 3) sc_dig.nd rfl (.inl rfl)) pgs_nil))))
        (pss_one (ps_set (i := 1) sc_dig.nd rfl (Or.inl rfl) (pe_op op_add_str (pe_m1 PySem.F.slot_str_zfill PySem.F.type_str_zfill mt_zfill (pe_callTy call_str_int (by rfl) B.b_str (by decide +kernel) (pa_cons (pv 3) pa_nil)) pe_int) (pv 1))))))
      (pss_cons (ps_set (i := 1) sc_dig.nd rfl (Or.inl rfl) (pe_orT (pe_m1 PySem.F.slot_str_lstrip PySem.F.type_str_lstrip mt_lstripChars (pv 1) pe_str) (pe_one pe_str)))
      (pss_one (ps_ret (pe_ifExp (pt_cmpR op_lt (pv 0) pe_int (nomark _)) (pe_op op_add_str pe_str (pv 1)) (pv 1))))))), ?_⟩
    have ea : (if (n : Int) < 0 then -(n : Int) else (n : Int)) = (n : Int) := if_neg (by omega)
    refine ⟨_, rfl, _, rfl, ?_⟩
    rw [ea]
    refine ⟨fun m σ H' => (m = 1 ∧ σ = [some (iV n), some (.str ""), some (iV n), none] ∧ Same H H') ∨ (m = 0 ∧ σ = [some (iV n), some (.str (zf60 n ++ Str.empty)), some (.int 0), some (iV n)] ∧ Same H H'), ⟨1, .inl ⟨rfl, rfl, Same.refl _⟩⟩, ?_⟩
    rintro m σ H1 (⟨rfl, rfl, s1⟩ | ⟨rfl, rfl, s1⟩)
    · refine ⟨_, rfl, _, _, rfl, rfl, _, rfl, ?_⟩
      have c1 : decide ((0 : Int) < (n : Int)) = true := decide_eq_true (by omega)
      show if decide ((0 : Int) < (n : Int)) = true then _ else _
      rw [c1]
      refine iteT ?_
      refine ⟨fun σ' H' => (0 = 0 ∧ σ' = [some (iV n), some (.str (zf60 n ++ Str.empty)), some (.int 0), some (iV n)] ∧ Same H H'), fun σ' H' q => ⟨0, by omega, .inr q⟩, ?_⟩
      have hbits : Builtin.Int.intBits (n : Int) ≤ 60 := intBits_le_iff.mpr (by omega)
      refine ⟨_, rfl, _, _, rfl, rfl, ⟨by decide, by decide, by decide⟩, _, _, rfl, divp_ok (by decide) (Nat.le_trans hbits (Nat.le_trans (by decide) (Nat.le_add_left _ _))), fun p hp => ?_⟩
      have e1 : (n : Int) / (10 : Int) ^ (60 : Int).toNat = 0 := Int.ediv_eq_zero_of_lt (by omega) (by
        have q : (1000000000000000000 : Int) ≤ 10 ^ (60 : Int).toNat := by decide
        omega)
      have e2 : (n : Int) % (10 : Int) ^ (60 : Int).toNat = (n : Int) := Int.emod_eq_of_lt (by omega) (by
        have q : (1000000000000000000 : Int) ≤ 10 ^ (60 : Int).toNat := by decide
        omega)
      refine ⟨_, _, rfl, SqT.of upd_same, rfl, _, _, rfl, _, _, rfl, rfl, ?_⟩
      refine ⟨_, rfl, _, rfl, by (show ((n : Int) % (10 : Int) ^ (60 : Int).toNat).natAbs.log2 < 1920); rw [e2]; exact log_ok hb, ⟨_, rfl⟩, _, _, rfl, rfl, rfl, _, rfl, _, _, rfl, rfl, ?_, rfl, ?_, Same_upd s1 (s1.free hp)⟩
      · show (Txt.zfill (toString ((n : Int) % (10 : Int) ^ (60 : Int).toNat)) 60).length + ("" : Str).length ≤ sizeLine
        rw [e2]
        exact Nat.le_trans (Nat.add_le_add hl2 (Nat.le_refl _)) (by decide)
      · show [some (iV n), some (V.str (Txt.zfill (toString ((n : Int) % (10 : Int) ^ (60 : Int).toNat)) 60 ++ "")), some (V.int ((n : Int) / (10 : Int) ^ (60 : Int).toNat)), some (V.int ((n : Int) % (10 : Int) ^ (60 : Int).toNat))] = _
        rw [e1, e2]
        rfl
    · refine ⟨_, rfl, _, _, rfl, rfl, _, rfl, iteF ?_⟩
      refine ⟨_, rfl, ⟨_, rfl⟩, _, _, rfl, rfl, Nat.le_trans hl (by decide), true, ⟨Nat.le_trans hl3 (by decide), (bne_iff_ne.mpr (by intro e; exact hl4 (by exact_mod_cast e))).symm⟩, ?_⟩
      refine ⟨_, rfl, _, _, rfl, rfl, _, rfl, ?_⟩
      have c2 : decide ((n : Int) < 0) = false := decide_eq_false (by omega)
      show if decide ((n : Int) < 0) = true then _ else _
      rw [c2]
      exact iteF ⟨_, rfl, k H1 s1⟩
theorem sc_ft : FnScope ["name", "m"] ["name", "m"] (defScope s_field_text) := ⟨rfl, rfl, rfl, by decide +kernel, rfl, by decide +kernel, by decide +kernel⟩
theorem ok_field_text (B : Bk K mg) : Df P w K mg base CX0 2 "field_text" ["name", "m"] spFt := by
  obtain ⟨fd, F⟩ := B.F_field_text
  obtain ⟨fdD, GD, bD⟩ := (ok_written (P := P) (w := w) (base := base) B).ex
  have kD := (ok_written (P := P) (w := w) (base := base) B).kp
  refine ⟨⟨fd, ?_, F.binds fun _ _ _ _ _ _ us hl => match us, hl with | [_, _], _ => rfl⟩, B.g_field_text, F.kp⟩
  refine F.ok sc_ft (fun vs H Q E h => ?_) (fun cdv A outer s H vs Q E hr h => ?_)
  · obtain ⟨name, n, rfl, _⟩ := h
    rfl
  · obtain ⟨name, n, rfl, hn, hl, k⟩ := h
    refine ⟨_, pss_cons (ps_if (pt_cmpR op_eq (pv 1) pe_int (nomark _)) (pss_one (ps_ret (pv 0))) pss_nil)
      (pss_one (ps_ret (pe_joined (.cons (pe_fmt (pv 0)) (.cons pe_str (.cons (pe_fmt (pe_call GD hr rfl B.g_written kD bD .nil pass0 (pa_cons (pv 1) pa_nil))) .nil)))))), ?_⟩
    refine ⟨_, rfl, rfl, _, rfl, ?_⟩
    have c1 : decide (V.int (n : Int) = V.int 0) = false := by
      rw [int_eq]
      exact decide_eq_false (by have := hn.1; omega)
    show if decide (V.int (n : Int) = V.int 0) = true then _ else _
    rw [c1]
    refine iteF ?_
    have z1 : (Str.empty ++ name).length ≤ 1000 := by rw [app_len]; show 0 + name.length ≤ 1000; omega
    have z2 : (Str.empty ++ name ++ "/").length ≤ 1001 := by rw [app_len]; exact Nat.add_le_add z1 (Nat.le_refl 1)
    refine ⟨_, rfl, .inl ⟨_, rfl, Nat.le_trans hl (by decide), _, rfl, Nat.le_trans z1 (by decide), _, rfl, Nat.le_trans z2 (by decide), ?_⟩⟩
    refine ⟨_, rfl, n, rfl, hn, fun H1 s1 => .inl ⟨_, rfl, Nat.le_trans hn.2.2.2.2.1 (by decide), _, rfl, ?_, k H1 s1⟩⟩
    rw [app_len]
    exact Nat.le_trans (Nat.add_le_add z2 hn.2.2.2.2.1) (by decide)
end
end Jd
namespace Jd
open PySem PySem.Spec PyProof.Rows L2
/-! ### parts_of, is_part -/
def spParts (C : Addr) : Sp := fun vs H Q E => ∃ z : Str, vs = [.str z] ∧ z.length ≤ 1000 ∧
  (isFieldB z = false → ∀ H' d, Same H H' → H' d = some (.xd [("field", .str z)]) → E (.ref C) (some d) H') ∧
  (isFieldB z = true → (fieldNum z = 0 ∧ ∀ H' p, Same H H' → H' p = some (.tup [.str (fieldName z)]) → Q (.ref p) H') ∨
    ∃ (m : Nat) (L : List Nat), fieldNum z = (m : Int) ∧ 0 < m ∧ PPs m L ∧ L.length < 64 ∧ (∀ n ∈ L, numOk n) ∧
      ∀ H' p ys, Same H H' → ys.Perm (txAll (L.map (ftext (fieldName z)))) → sortedS ys = true → (txAll (L.map (ftext (fieldName z)))).Nodup → H' p = some (.tup (ys.map V.str)) → Q (.ref p) H')
def spIsPart (K : PySem.W.Frag) : Sp := fun vs H Q _ => ∃ x : V, vs = [x] ∧ ((∃ z : Str, x = .str z ∧ z.length ≤ 1000 ∧ (isFieldB z = false → ∀ H', Same H H' → Q (.bl false) H') ∧
    (isFieldB z = true → (fieldNum z = 0 ∧ ∀ H', Same H H' → Q (.bl true) H') ∨ ∃ (m : Nat) (b : Bool), fieldNum z = (m : Int) ∧ 2 ≤ m ∧ m ≤ 1000000 ∧ isPP m = some b ∧ ∀ H', Same H H' → Q (.bl b) H')) ∨
  (∃ t, TyX K H x t ∧ PySem.W.kitOne K t (.type "str") = some false ∧ Q (.bl false) H))
section
variable {P : Program} {w : World} {K : PySem.W.Frag} {mg : Str → Option Value} {base : Heap}
theorem Same_lay {H H' : Hp} {a : Addr} {o : HO} (s : Same H H') (n : H' a = none) : Same H (upd H' a o) := Same_upd s (s.free n)
theorem sc_pa : FnScope ["text", "name", "m", "power"] ["text"] (defScope s_parts_of) := ⟨rfl, rfl, rfl, by decide +kernel, rfl, by decide +kernel, by decide +kernel⟩
theorem ok_parts_of (B : Bk K mg) : Df P w K mg base (L2.CX P w) 5 "parts_of" ["text"] (spParts (He.ga K "BadField")) := by
  obtain ⟨fd, F⟩ := B.F_parts_of
  obtain ⟨fdO, GO, bO⟩ := (ok_field_of (P := P) (w := w) (base := base) B).ex
  have kO := (ok_field_of (P := P) (w := w) (base := base) B).kp
  obtain ⟨fdT, GT, bT⟩ := (ok_field_text (P := P) (w := w) (base := base) B).ex
  have kT := (ok_field_text (P := P) (w := w) (base := base) B).kp
  obtain ⟨fdP, GP, bP⟩ := (ok_prime_powers (P := P) (w := w) (base := base) B).ex
  have kP := (ok_prime_powers (P := P) (w := w) (base := base) B).kp
  refine ⟨⟨fd, ?_, F.binds fun _ _ _ _ _ _ us hl => match us, hl with | [_], _ => rfl⟩, B.g_parts_of, F.kp⟩
  refine F.okX sc_pa (fun vs H Q E h => ?_) (fun cdv A outer s H vs Q E hr h => ?_)
  · obtain ⟨x, rfl, _⟩ := h
    rfl
  · obtain ⟨z, rfl, hz, kE, kQ⟩ := h
    have hr3 : Room 3 _ := hr.mono (by decide)
    have hr2 : Room 2 _ := hr.mono (by decide)
    refine ⟨_, pss_cons (ps_asg (pe_call GO hr3 rfl B.g_field_of kO bO .nil (passes_call (takes_of rfl rfl rfl rfl) (fun _ _ _ _ h => h)) (pa_cons (pv 0) pa_nil)) (pg_tup (by rfl) (pgs_cons (pg_name (i := 1) sc_pa.nd rfl (.inr rfl)) (pgs_cons (pg_name (i := 2) sc_pa.nd rfl (.inl rfl)) pgs_nil))))
      (pss_cons (ps_if (pt_cmpR op_eq (pv 2) pe_int (nomark _)) (pss_one (ps_ret (pe_tup (pa_cons (pv 1) pa_nil)))) pss_nil)
      (pss_one (ps_ret (pe_callTy call_tuple_of (by rfl) B.b_tuple (by decide +kernel) (pa_cons (pe_callB (cr_sortTx rfl) (by rfl) B.b_sorted (by decide +kernel) (pa_cons (pe_callTy (cr_setTx rfl) (by rfl) B.b_set (by decide +kernel) (pa_cons
        (pe_lc (own := [("power", 3)]) (g := gName 3) (tt := tYes) rfl sc_pa.nd (pi_list (pe_call GP hr rfl B.g_prime_powers kP bP .nil pass0 (pa_cons (pe_lst (pa_cons (pv 2) pa_nil)) pa_nil))) (blkOk_by (N := ["text", "name", "m", "power"]) (sc := defScope s_parts_of) (by decide +kernel))
          (fun _ _ _ _ _ => pg_name (i := 3) sc_pa.nd rfl (Or.inl rfl)) (fun _ _ _ _ _ => pts_nil) (fun _ _ _ _ _ => pe_call GT hr2 rfl B.g_field_text kT bT .nil pass0 (pa_cons (pv 1) (pa_cons (pv 3) pa_nil)))) pa_nil)) pa_nil)) pa_nil))))), ?_⟩
    refine ⟨_, rfl, z, rfl, Nat.le_trans hz (by decide), fun hb H' d s1 h1 => kE hb H' d s1 h1, fun hb H1 p s1 h1 => ?_⟩
    refine ⟨_, _, rfl, SqT.of h1, rfl, _, _, rfl, _, _, rfl, rfl, ?_⟩
    have hnl : (fieldName z).length ≤ 1000 := Nat.le_trans (part_len z "/").1 hz
    refine ⟨_, rfl, rfl, _, rfl, ?_⟩
    rcases kQ hb with ⟨h0, k⟩ | ⟨m, L, hm, hm0, hL, h64, hok, k⟩
    · show if decide (V.int (fieldNum z) = V.int 0) = true then _ else _
      rw [h0, decide_eq_true rfl]
      refine iteT ?_
      exact ⟨_, rfl, (by show 1 ≤ sizeLine; decide), fun t ht => k _ t (s1.trans (Same_new ht)) upd_same⟩
    · have c1 : decide (V.int (fieldNum z) = V.int 0) = false := by
        rw [int_eq, hm]
        exact decide_eq_false (by omega)
      show if decide (V.int (fieldNum z) = V.int 0) = true then _ else _
      rw [c1]
      refine iteF ?_
      refine ⟨_, rfl, (by show 1 ≤ sizeLine; decide), fun q0 hq0 => ⟨q0, m, L, rfl, SqL.of (by rw [upd_same, hm]; rfl), hL, fun H2 l s2' nl h2 => ⟨l, rfl, ⟨_, SqL.of h2⟩, fun D hD => ?_⟩⟩⟩
      have s2 := (Same_new hq0).trans s2'
      have hlen : (L.map iV).length ≤ sizeLine := by rw [List.length_map]; exact Nat.le_trans (Nat.le_of_lt h64) (by decide)
      refine lc_fm (w := walk_list (xs := L.map iV)) (fun i => ((L.map iV)[i]?).bind fun _ => (L[i]?).map fun n => V.str (ftext (fieldName z) n)) hD hlen (fun H' s' => s'.seq (SqL.of h2)) (fun i x H3 H4 Kt Kf hi s3 y kt kf => ?_) (fun H3 s3 hD3 => ?_)
      · obtain ⟨rfl, hx⟩ := y
        rw [List.getElem?_map] at hx
        cases hn : L[i]? with
        | none =>
          rw [hn] at hx
          cases hx
        | some n =>
          rw [hn] at hx
          cases hx
          refine ⟨rfl, iteT (B := Kf H4) ?_⟩
          refine ⟨_, rfl, _, rfl, fieldName z, n, rfl, hok n (List.mem_of_getElem? hn), hnl, fun H5 s5 => kt _ _ ?_ s5⟩
          rw [List.getElem?_map, hn]
          rfl
      · have e : (List.range (L.map iV).length).filterMap (fun i => ((L.map iV)[i]?).bind fun _ => (L[i]?).map fun n => V.str (ftext (fieldName z) n)) = (L.map (ftext (fieldName z))).map V.str := by
          rw [List.length_map]
          rw [fm_some (l := L) (g := fun n => V.str (ftext (fieldName z) n)) (fun i n hn => by rw [List.getElem?_map, hn]; rfl), List.map_map]
          rfl
        rw [e] at hD3
        refine ⟨D, _, rfl, .inl (SqL.of hD3), by rw [List.length_map]; exact h64, fun a na => ?_⟩
        have h64' : (txAll (L.map (ftext (fieldName z)))).length < 64 := by
          have q := txAll_len (L.map (ftext (fieldName z))) []
          rw [List.length_map] at q
          unfold txAll
          exact Nat.lt_of_le_of_lt q (by show 0 + L.length < 64; omega)
        refine ⟨a, _, rfl, upd_same, h64', fun ys p2 pm so nd np => ?_⟩
        refine ⟨p2, _, rfl, .inl ⟨SqL.of upd_same, fun t ht => ?_⟩⟩
        exact k _ t ys ((s1.trans s2).trans (Same_lay (Same_lay (Same_lay s3 na) np) ht)) pm so nd upd_same
theorem sc_ip : FnScope ["thing", "_", "m"] ["thing"] (defScope s_is_part) := ⟨rfl, rfl, rfl, by decide +kernel, rfl, by decide +kernel, by decide +kernel⟩
theorem ok_is_part (B : Bk K mg) : Df P w K mg base (L2.CX P w) 4 "is_part" ["thing"] (spIsPart K) := by
  obtain ⟨fd, F⟩ := B.F_is_part
  obtain ⟨fdO, GO, bO⟩ := (ok_field_of (P := P) (w := w) (base := base) B).ex
  have kO := (ok_field_of (P := P) (w := w) (base := base) B).kp
  obtain ⟨fdF, GF, bF⟩ := (ok_is_field (P := P) (w := w) (base := base) B).ex
  have kF := (ok_is_field (P := P) (w := w) (base := base) B).kp
  obtain ⟨fdP, GP, bP⟩ := (ok_is_prime_power (P := P) (w := w) (base := base) B).ex
  have kP := (ok_is_prime_power (P := P) (w := w) (base := base) B).kp
  refine ⟨⟨fd, ?_, F.binds fun _ _ _ _ _ _ us hl => match us, hl with | [_], _ => rfl⟩, B.g_is_part, F.kp⟩
  refine F.okX sc_ip (fun vs H Q E h => ?_) (fun cdv A outer s H vs Q E hr h => ?_)
  · obtain ⟨x, rfl, _⟩ := h
    rfl
  · obtain ⟨x, rfl, h⟩ := h
    have hr1 : Room 1 _ := hr.mono (by decide)
    have hr2 : Room 2 _ := hr.mono (by decide)
    refine ⟨_, pss_cons (ps_if (pt_not (pt_val (pe_call GF hr2 rfl B.g_is_field kF bF .nil pass0 (pa_cons (pv 0) pa_nil)))) (pss_one (ps_ret pe_bl)) pss_nil)
      (pss_cons (ps_asg (pe_call (E := E) GO hr rfl B.g_field_of kO bO .nil (passes_call (takes_of rfl rfl rfl rfl) (fun _ _ _ _ h => h)) (pa_cons (pv 0) pa_nil)) (pg_tup (by rfl) (pgs_cons (pg_name (i := 1) sc_ip.nd rfl (.inl rfl)) (pgs_cons (pg_name (i := 2) sc_ip.nd rfl (.inl rfl)) pgs_nil))))
      (pss_one (ps_ret (pe_or (pe_cmpR op_eq (pv 2) pe_int (nomark _)) (pe_one (pe_call GP hr2 rfl B.g_is_prime_power kP bP .nil pass0 (pa_cons (pv 2) pa_nil))))))), ?_⟩
    rcases h with ⟨z, rfl, hz, k0, k1⟩ | ⟨t, ht, hk, k⟩
    · refine ⟨_, rfl, _, rfl, .inl ⟨z, rfl, Nat.le_trans hz (by decide), fun H1 s1 => ⟨_, rfl, two (fun h1 => ?_) (fun h1 => ?_)⟩⟩⟩
      · have hf : isFieldB z = false := by
          cases e : isFieldB z with
          | false => rfl
          | true => rw [e] at h1; cases h1
        exact k0 hf H1 s1
      · have hf : isFieldB z = true := by
          cases e : isFieldB z with
          | true => rfl
          | false => rw [e] at h1; cases h1
        refine ⟨_, rfl, z, rfl, Nat.le_trans hz (by decide), fun hb => absurd (hf.symm.trans hb) (by decide), fun hb H2 p s2 h2 => ?_⟩
        refine ⟨_, _, rfl, SqT.of h2, rfl, _, _, rfl, _, _, rfl, rfl, ?_⟩
        refine ⟨_, rfl, rfl, _, rfl, ?_⟩
        rcases k1 hf with ⟨e0, k⟩ | ⟨m, b, hm, hm0, hm6, hpp, k⟩
        · have q := k H2 (s1.trans s2)
          show if decide (V.int (fieldNum z) = V.int 0) = true then _ else _
          rw [e0, decide_eq_true rfl]
          exact iteT q
        · have c1 : decide (V.int (fieldNum z) = V.int 0) = false := by
            rw [int_eq, hm]
            exact decide_eq_false (by omega)
          show if decide (V.int (fieldNum z) = V.int 0) = true then _ else _
          rw [c1]
          refine iteF ?_
          exact ⟨_, rfl, m, b, by rw [hm]; rfl, hm0, hm6, hpp, fun H3 s3 => k H3 ((s1.trans s2).trans s3)⟩
    · refine ⟨_, rfl, _, rfl, .inr ⟨t, ht, hk, _, rfl, iteT ?_⟩⟩
      exact k
end
end Jd
namespace Jd
open PySem PySem.Spec PyProof.Rows L2
/-! ### the urn -/
/-- all but the object at u is as it was -/
def Keep (u : Addr) (H H' : Hp) : Prop := ∀ b o, b ≠ u → H b = some o → H' b = some o
theorem Keep.trans {u : Addr} {H H1 H2 : Hp} (a : Keep u H H1) (b : Keep u H1 H2) : Keep u H H2 := fun c o n h => b c o n (a c o n h)
theorem Keep.refl (u : Addr) (H : Hp) : Keep u H H := fun _ _ _ h => h
theorem Same.keep {u : Addr} {H H' : Hp} (s : Same H H') : Keep u H H' := fun b o _ h => s b o h
theorem Keep_upd {u : Addr} {H : Hp} {o : HO} : Keep u H (upd H u o) := fun b q n h => by rw [upd_ne n]; exact h
theorem Keep.at {u : Addr} {H H' : Hp} (k : Keep u H H') {b : Addr} {o : HO} (h : H b = some o) (n : b ≠ u) : H' b = some o := k b o n h
def Urn (H : Hp) (u : Addr) (n : Nat) : Prop := ∃ a b c : Int, H u = some (.lst [.int a, .int b, .int c]) ∧ 0 ≤ c ∧ c ≤ (n : Int)
theorem Urn.same {H H' : Hp} {u : Addr} {n : Nat} (h : Urn H u n) (s : Same H H') : Urn H' u n := by
  obtain ⟨a, b, c, h, h1⟩ := h
  exact ⟨a, b, c, s _ _ h, h1⟩
theorem Urn.some {H : Hp} {u : Addr} {n : Nat} (h : Urn H u n) : ∃ o, H u = some o := by
  obtain ⟨a, b, c, h, h1⟩ := h
  exact ⟨_, h⟩
theorem Urn.le {H : Hp} {u : Addr} {n m : Nat} (h : Urn H u n) (l : n ≤ m) : Urn H u m := by
  obtain ⟨a, b, c, h, h1, h2⟩ := h
  exact ⟨a, b, c, h, h1, by omega⟩
def spTake : Sp := fun vs H Q _ => ∃ (u : Addr) (lo : Int) (n : Nat), vs = [.ref u, .int lo] ∧ Urn H u n ∧ n < 100000 ∧ 0 < lo ∧ lo < 1073741824 ∧
  ∀ r H', 0 ≤ r → r < lo → Urn H' u (n + 1) → Keep u H H' → Q (.int r) H'
section
variable {P : Program} {w : World} {K : PySem.W.Frag} {mg : Str → Option Value} {base : Heap}
theorem sc_take : FnScope ["_law_urn", "_law_low_so", "_law_drawn", "_law_once", "_law_far", "_law_both_so"] ["_law_urn", "_law_low_so"] (defScope s__law_take) := ⟨rfl, rfl, rfl, by decide +kernel, rfl, by decide +kernel, by decide +kernel⟩
theorem ok_law_take (B : Bk K mg) : Df P w K mg base CX0 1 "_law_take" ["_law_urn", "_law_low_so"] spTake := by
  obtain ⟨fd, F⟩ := B.F_law_take
  refine ⟨⟨fd, ?_, F.binds fun _ _ _ _ _ _ us hl => match us, hl with | [_, _], _ => rfl⟩, B.g_law_take, F.kp⟩
  refine F.ok sc_take (fun vs H Q E h => ?_) (fun cdv A outer s H vs Q E hr h => ?_)
  · obtain ⟨u, lo, n, rfl, _⟩ := h
    rfl
  · obtain ⟨u, lo, n, rfl, ⟨a, b, c, hu, c0, c1⟩, hn, l0, l1, k⟩ := h
    refine ⟨_, pss_cons (ps_if (pt_cmpR op_gt (pe_ix ix_list (pv 0) pe_int (fun _ _ => rfl)) pe_int (nomark _))
        (pss_cons (ps_set (i := 2) sc_take.nd rfl (Or.inl rfl) (pe_op op_mod (pe_callTy call_int1 (by rfl) B.b_int (by decide +kernel) (pa_cons (pe_ix ix_list (pv 0) pe_int (fun _ _ => rfl)) pa_nil)) (pv 1)))
        (pss_cons (ps_asg (pe_op op_fdiv (pe_ix ix_list (pv 0) pe_int (fun _ _ => rfl)) (pv 1)) (pg_sub (pv 0) pe_int set_list))
        (pss_one (ps_ret (pv 2))))) pss_nil)
      (pss_cons (ps_asg (pe_op op_add (pe_ix ix_list (pv 0) pe_int (fun _ _ => rfl)) pe_int) (pg_sub (pv 0) pe_int set_list))
      (pss_cons (ps_set (i := 3) sc_take.nd rfl (Or.inl rfl) (pe_op op_mod (pe_callTy call_int1 (by rfl) B.b_int (by decide +kernel) (pa_cons (pe_op op_mul (pe_op op_add (pe_ix ix_list (pv 0) pe_int (fun _ _ => rfl)) (pe_op op_mul pe_int (pe_ix ix_list (pv 0) pe_int (fun _ _ => rfl)))) (pe_op op_add pe_int (pe_ix ix_list (pv 0) pe_int (fun _ _ => rfl)))) pa_nil)) pe_int))
      (pss_cons (ps_set (i := 4) sc_take.nd rfl (Or.inl rfl) (pe_op op_add (pe_op op_mod (pe_callTy call_int1 (by rfl) B.b_int (by decide +kernel) (pa_cons (pv 3) pa_nil)) pe_int) pe_int))
      (pss_cons (ps_set (i := 5) sc_take.nd rfl (Or.inl rfl) (pe_op op_mod (pe_callTy call_int1 (by rfl) B.b_int (by decide +kernel) (pa_cons (pe_op op_mul (pe_op op_add (pe_op op_add (pv 3) (pe_ix ix_list (pv 0) pe_int (fun _ _ => rfl))) (pe_op op_fdiv (pe_ix ix_list (pv 0) pe_int (fun _ _ => rfl)) pe_int)) (pv 4)) pa_nil)) pe_int))
      (pss_one (ps_ret (pe_op op_mod (pe_callTy call_int1 (by rfl) B.b_int (by decide +kernel) (pa_cons (pe_op op_fdiv (pe_op op_mod (pe_callTy call_int1 (by rfl) B.b_int (by decide +kernel) (pa_cons (pe_op op_add (pe_op op_mul (pv 5) pe_int) (pv 3)) pa_nil)) pe_int) pe_int) pa_nil)) (pv 1)))))))), ?_⟩
    have L : SqL K H u [.int a, .int b, .int c] := SqL.of hu
    refine ⟨_, rfl, _, _, _, _, rfl, rfl, L, rfl, _, _, rfl, rfl, _, rfl, two (fun h1 => ?_) (fun h1 => ?_)⟩
    · refine ⟨_, rfl, _, _, _, _, rfl, rfl, L, rfl, .inl ⟨_, rfl, _, rfl, _, _, rfl, rfl, l0, ?_⟩⟩
      refine ⟨_, rfl, _, _, _, _, rfl, rfl, L, rfl, _, rfl, _, _, rfl, rfl, ⟨l0, l1⟩, _, rfl, u, _, _, 0, rfl, rfl, hu, rfl, ?_⟩
      refine ⟨_, rfl, k _ _ (Int.emod_nonneg _ (by omega)) (Int.emod_lt_of_pos _ l0) ⟨a / lo, b, c, upd_same, c0, by omega⟩ Keep_upd⟩
    · refine ⟨_, rfl, _, _, _, _, rfl, rfl, L, rfl, _, _, rfl, rfl, _, rfl, u, _, _, 2, rfl, rfl, hu, rfl, ?_⟩
      have L2 : SqL K (upd H u (.lst [.int a, .int b, .int (c + 1)])) u [.int a, .int b, .int (c + 1)] := SqL.of upd_same
      refine ⟨_, rfl, _, _, _, _, rfl, rfl, L2, rfl, _, rfl, _, _, _, _, rfl, rfl, L2, rfl, _, _, rfl, rfl, .inl ⟨by decide, by decide⟩, _, _, rfl, rfl, _, rfl, _, _, _, _, rfl, rfl, L2, rfl, _, _, rfl, rfl, _, _, rfl, rfl, .inr ⟨?_, ?_⟩, .inl ⟨_, rfl, _, _, rfl, rfl, (show (0 : Int) < 2147483647 by decide), ?_⟩⟩
      · show -(2 ^ 64) < (39373 : Int) + (c + 1)
        omega
      · show (39373 : Int) + (c + 1) < 2 ^ 64
        omega
      · refine ⟨_, rfl, .inl ⟨_, rfl, _, _, rfl, rfl, (show (0 : Int) < 40009 by decide), _, _, rfl, rfl, ?_⟩⟩
        refine ⟨_, rfl, _, rfl, _, _, _, _, rfl, rfl, L2, rfl, _, _, rfl, rfl, _, rfl, _, _, _, _, rfl, rfl, L2, rfl, _, _, rfl, rfl, ⟨by decide, by decide⟩, _, _, rfl, rfl, _, rfl, _, _, rfl, rfl, .inr ⟨?_, ?_⟩, .inl ⟨_, rfl, _, _, rfl, rfl, (show (0 : Int) < 2147483629 by decide), ?_⟩⟩
        · have q := Int.emod_nonneg (((b : Int) + 48271 * (c + 1)) * (39373 + (c + 1)) % 2147483647) (show (40009 : Int) ≠ 0 by decide)
          show -(2 ^ 64) < ((b : Int) + 48271 * (c + 1)) * (39373 + (c + 1)) % 2147483647 % 40009 + 7
          omega
        · have q := Int.emod_lt_of_pos (((b : Int) + 48271 * (c + 1)) * (39373 + (c + 1)) % 2147483647) (show (0 : Int) < 40009 by decide)
          show ((b : Int) + 48271 * (c + 1)) * (39373 + (c + 1)) % 2147483647 % 40009 + 7 < 2 ^ 64
          omega
        · refine ⟨_, rfl, _, _, rfl, rfl, .inr ⟨by decide, by decide⟩, _, rfl, _, _, rfl, rfl, .inl ⟨_, rfl, _, _, rfl, rfl, (show (0 : Int) < 2147483587 by decide), _, _, rfl, rfl, ⟨by decide, by decide⟩, .inl ⟨_, rfl, _, rfl, _, _, rfl, rfl, l0, ?_⟩⟩⟩
          exact k _ _ (Int.emod_nonneg _ (by omega)) (Int.emod_lt_of_pos _ l0) ⟨a, b, c + 1, upd_same, by omega, by omega⟩ Keep_upd
end
end Jd
namespace Jd
open PySem PySem.Spec PyProof.Rows L2
/-! ### box, cells -/
theorem cut_to (xs : List V) (k : Nat) : cutV xs none (some (k : Int)) = xs.take k := by
  unfold cutV
  rw [HT.sIx_none, HT.sIx_nat, List.drop_zero, Nat.sub_zero]
  by_cases h : k ≤ xs.length
  · rw [Nat.min_eq_left h]
  · rw [Nat.min_eq_right (by omega), List.take_of_length_le (Nat.le_refl _), List.take_of_length_le (by omega)]
theorem cut_of (xs : List V) (a b : Nat) : cutV xs (some (a : Int)) (some (b : Int)) = (xs.drop (min a xs.length)).take (min b xs.length - min a xs.length) := by
  unfold cutV
  rw [HT.sIx_nat, HT.sIx_nat]
theorem b01 (b : Bool) : -(2 ^ 64) < (if b then (1 : Int) else 0) ∧ (if b then (1 : Int) else 0) < 2 ^ 64 := by
  cases b <;> decide
/-- an expression's ways are joined -/
theorem pe_cut {X : Cx} {e : Expr} {t : TE} (h : PE X e t) : PE X e (fun σ H Q => ∃ Q0 : VK, t σ H Q0 ∧ ∀ x H1, Q0 x H1 → Q x H1) :=
  ⟨fun pins s σ H Q I ⟨Q0, h0, h1⟩ => wpAny_mono (h.run pins s σ H Q0 I h0) (fun u s1 ⟨v, H1, I1, r, q⟩ => ⟨v, H1, I1, r, h1 v H1 q⟩) (fun _ _ x => x)⟩
/-- a statement's ways are joined -/
theorem ps_cut {X : Cx} {st : Stmt} {t : TS} (h : PS X st t) : PS X st (fun D σ H => ∃ N : L2.St → Hp → Prop, t { D with nx := N } σ H ∧ ∀ σ' H', N σ' H' → D.nx σ' H') := by
  refine ⟨fun pins s σ H D I ⟨N, h0, h1⟩ => wpAny_mono (h.run pins s σ H { D with nx := N } I h0) (fun f s1 q => ?_) (fun _ _ x => x)⟩
  cases f with
  | next =>
    obtain ⟨σ', H', I', q⟩ := q
    exact ⟨σ', H', I', h1 σ' H' q⟩
  | brk => exact q
  | cont => exact q
  | ret u => exact q
def spBox (K : PySem.W.Frag) : Sp := fun vs H Q _ => ∃ (a : Addr) (ns : List Int) (k : Nat), vs = [.ref a, .int (k : Int)] ∧ SqL K H a (ns.map V.int) ∧ k < ns.length ∧ k < 1000 ∧ ∀ H' p, Same H H' → H p = none → Urn H' p 0 → Q (.ref p) H'
def spCells (K : PySem.W.Frag) : Sp := fun vs H Q _ => ∃ (a : Addr) (ns : List Int), vs = [.ref a, .int 3] ∧ SqL K H a (ns.map V.int) ∧ ns.length ≤ 63 ∧
  ∀ (H' : Hp) (p : Addr) (ms : List Int), Same H H' → H p = none → H' p = some (.lst (ms.map V.int)) → 1 ≤ ms.length → ms.length ≤ 3 → Q (.ref p) H'
section
variable {P : Program} {w : World} {K : PySem.W.Frag} {mg : Str → Option Value} {base : Heap}
theorem sc_box : FnScope ["_law_script", "_law_k", "_law_cell"] ["_law_script", "_law_k"] (defScope s__law_box) := ⟨rfl, rfl, rfl, by decide +kernel, rfl, by decide +kernel, by decide +kernel⟩
theorem ok_law_box (B : Bk K mg) : Df P w K mg base CX0 1 "_law_box" ["_law_script", "_law_k"] (spBox K) := by
  obtain ⟨fd, F⟩ := B.F_law_box
  refine ⟨⟨fd, ?_, F.binds fun _ _ _ _ _ _ us hl => match us, hl with | [_, _], _ => rfl⟩, B.g_law_box, F.kp⟩
  refine F.ok sc_box (fun vs H Q E h => ?_) (fun cdv A outer s H vs Q E hr h => ?_)
  · obtain ⟨u, lo, n, rfl, _⟩ := h
    rfl
  · obtain ⟨a, ns, k, rfl, hs, hk, hk2, kq⟩ := h
    refine ⟨_, pss_cons (ps_set (i := 2) sc_box.nd rfl (Or.inl rfl) (pe_ifExp (pt_cmpR op_lt (pv 1) (pe_callB call_len (by rfl) B.b_len (by decide +kernel) (pa_cons (pv 0) pa_nil)) (nomark _)) (pe_ix ix_list (pv 0) (pv 1) (fun _ _ => rfl)) pe_int))
      (pss_one (ps_ret (pe_lst (pa_cons (pe_op op_mul (pe_callB call_abs (by rfl) B.b_abs (by decide +kernel) (pa_cons (pv 2) pa_nil)) (pe_callTy call_int1 (by rfl) B.b_int (by decide +kernel) (pa_cons (pe_cmpR op_ge (pe_callB call_abs (by rfl) B.b_abs (by decide +kernel) (pa_cons (pv 2) pa_nil)) (pe_op op_pow pe_int pe_int) (nomark _)) pa_nil)))
        (pa_cons (pe_op op_add (pe_op op_add (pe_op op_mod (pe_callTy call_int1 (by rfl) B.b_int (by decide +kernel) (pa_cons (pv 2) pa_nil)) pe_int) (pe_op op_mul pe_int (pv 1))) pe_int) (pa_cons pe_int pa_nil)))))), ?_⟩
    obtain ⟨x, hx⟩ : ∃ x, ns[k]? = some x := ⟨ns[k], List.getElem?_eq_getElem hk⟩
    have hx2 : atI (ns.map V.int) (k : Int) = some (V.int x) := at_of rfl (by rw [List.getElem?_map, hx]; rfl)
    refine ⟨_, rfl, _, rfl, _, _, rfl, .inl ⟨_, hs, rfl⟩, _, _, rfl, rfl, _, rfl, ?_⟩
    have c1 : decide ((k : Int) < ((ns.map V.int).length : Int)) = true := decide_eq_true (by rw [List.length_map]; omega)
    show if decide ((k : Int) < ((ns.map V.int).length : Int)) = true then _ else _
    rw [c1]
    refine iteT ?_
    refine ⟨_, rfl, _, rfl, _, _, _, _, rfl, rfl, hs, hx2, ?_⟩
    refine ⟨_, rfl, _, rfl, _, rfl, _, rfl, _, _, rfl, rfl, ⟨by decide, by decide, by decide⟩, _, _, rfl, rfl, .inr ⟨_, rfl, _, _, rfl, rfl, .inr (b01 _), ?_⟩⟩
    · refine ⟨_, rfl, .inl ⟨_, rfl, _, _, rfl, rfl, (show (0 : Int) < 2305843009213693951 by decide), _, rfl, _, _, rfl, rfl, .inl ⟨by decide, by decide⟩, _, _, rfl, rfl, _, _, rfl, rfl, ?_⟩⟩
      refine ⟨(by show 3 ≤ sizeLine; decide), fun p hp => ?_⟩
      exact kq _ p (Same_new hp) hp ⟨_, _, _, upd_same, by omega, by omega⟩
theorem sc_cells : FnScope ["_law_script", "_law_top", "_law_cells_here", "_law_k", "_law_cell", "_law_at_so"] ["_law_script", "_law_top"] (defScope s__law_cells) := ⟨rfl, rfl, rfl, by decide +kernel, rfl, by decide +kernel, by decide +kernel⟩
theorem ok_law_cells (B : Bk K mg) : Df P w K mg base CX0 1 "_law_cells" ["_law_script", "_law_top"] (spCells K) := by
  obtain ⟨fd, F⟩ := B.F_law_cells
  refine ⟨⟨fd, ?_, F.binds fun _ _ _ _ _ _ us hl => match us, hl with | [_, _], _ => rfl⟩, B.g_law_cells, F.kp⟩
  refine F.ok sc_cells (fun vs H Q E h => ?_) (fun cdv A outer s H vs Q E hr h => ?_)
  · obtain ⟨u, lo, rfl, _⟩ := h
    rfl
  · obtain ⟨a, ns, rfl, hs, hk, kq⟩ := h
    refine ⟨_, pss_cons (ps_set (i := 2) sc_cells.nd rfl (Or.inl rfl) (pe_cut (pe_orT (pe_callTy call_list_of (by rfl) B.b_list (by decide +kernel) (pa_cons (pe_slice sl_list (pv 0) po_none (po_some (pv 1))) pa_nil)) (pe_one (pe_lst (pa_cons pe_int pa_nil))))))
      (pss_cons (ps_for PassesOwn.never rfl (pi_enum (by rfl) B.b_enumerate (pa_cons (pe_slice sl_list (pv 0) (po_some (pv 1)) (po_some pe_int)) pa_nil)) (pg_tup rfl (pgs_cons (pg_name (i := 3) sc_cells.nd rfl (.inl rfl)) (pgs_cons (pg_name (i := 4) sc_cells.nd rfl (.inl rfl)) pgs_nil)))
        (pss_cons (ps_set (i := 5) sc_cells.nd rfl (Or.inl rfl) (pe_op op_mod (pe_callTy call_int1 (by rfl) B.b_int (by decide +kernel) (pa_cons (pv 3) pa_nil)) (pv 1)))
        (pss_one (ps_asg (pe_op op_add (pe_ix ix_list (pv 2) (pv 5) (fun _ _ => rfl)) (pe_op op_mul (pv 4) (pe_op op_add (pv 3) pe_int))) (pg_sub (pv 2) (pv 5) set_list)))))
      (pss_one (ps_ret (pv 2)))), ?_⟩
    refine ⟨fun x H1 => ∃ (p : Addr) (ms : List Int), x = .ref p ∧ Same H H1 ∧ H p = none ∧ H1 p = some (.lst (ms.map V.int)) ∧ 1 ≤ ms.length ∧ ms.length ≤ 3 ∧ (3 < ns.length → ms.length = 3), ?_, ?_⟩
    · refine ⟨_, rfl, _, rfl, _, rfl, a, _, rfl, hs, fun q hq => ⟨_, _, rfl, .inl (SqL.of upd_same), fun l hl => ?_⟩⟩
      have sl : Same H (upd (upd H q (.lst (cutV (ns.map V.int) none (some (3 : Int))))) l (.lst (cutV (ns.map V.int) none (some (3 : Int))))) := Same_lay (Same_new hq) hl
      have nl : H l = none := (Same_new hq).free hl
      have ec : cutV (ns.map V.int) none (some (3 : Int)) = (ns.take 3).map V.int := by
        rw [show (3 : Int) = ((3 : Nat) : Int) from rfl, cut_to, List.map_take]
      refine ⟨_, .inl ⟨_, SqL.of upd_same, rfl⟩, two (fun h1 => ?_) (fun h1 => ?_)⟩
      · refine ⟨l, ns.take 3, rfl, sl, nl, by rw [upd_same, ec], ?_, by rw [List.length_take]; omega, fun h => by rw [List.length_take]; omega⟩
        have h1' : (!(cutV (ns.map V.int) none (some (3 : Int))).isEmpty) = true := h1
        rw [ec] at h1'
        cases hns : ns.take 3 with
        | nil => rw [hns] at h1'; cases h1'
        | cons x r => exact Nat.succ_le_succ (Nat.zero_le _)
      · have h1' : (!(cutV (ns.map V.int) none (some (3 : Int))).isEmpty) = false := h1
        rw [ec] at h1'
        have e0 : ns = [] := by
          cases ns with
          | nil => rfl
          | cons x r => cases h1'
        refine ⟨(by show 1 ≤ sizeLine; decide), fun p hp => ⟨p, [0], rfl, Same_lay sl hp, sl.free hp, upd_same, Nat.le_refl _, by decide, fun h => ?_⟩⟩
        rw [e0] at h
        exact absurd h (by decide)
    · rintro x H1 ⟨p, ms, rfl, s1, np, h1, l1, l3, l3'⟩
      have hs1 := s1.seq hs
      have ec : cutV (ns.map V.int) (some (3 : Int)) (some (63 : Int)) = ((ns.drop (min 3 ns.length)).take (min 63 ns.length - min 3 ns.length)).map V.int := by
        rw [show (3 : Int) = ((3 : Nat) : Int) from rfl, show (63 : Int) = ((63 : Nat) : Int) from rfl, cut_of, List.length_map, List.map_take, List.map_drop]
      have kl : ((ns.drop (min 3 ns.length)).take (min 63 ns.length - min 3 ns.length)).length ≤ ns.length - 3 := by
        rw [List.length_take, List.length_drop]
        omega
      generalize (ns.drop (min 3 ns.length)).take (min 63 ns.length - min 3 ns.length) = ks at ec kl
      refine ⟨_, rfl, _, rfl, _, rfl, _, rfl, a, _, rfl, hs1, fun q hq => ⟨q, ks.map V.int, rfl, SqL.of (by rw [upd_same, ec]), ?_⟩⟩
      have npq : p ≠ q := ne_of_none h1 hq
      refine for_it (n := (ks.map V.int).length) walk_enum (fun i σ H' => ∃ (ms' : List Int) (v3 v4 v5 : Option V), σ = [some (.ref a), some (.int 3), some (.ref p), v3, v4, v5] ∧ Same H H' ∧ H' p = some (.lst (ms'.map V.int)) ∧ ms'.length = ms.length ∧ H' q = some (.lst (ks.map V.int)))
        ⟨ms, none, none, none, rfl, Same_lay s1 hq, by rw [upd_ne npq]; exact h1, rfl, by rw [upd_same, ec]⟩ (fun i σ H' _ ⟨_, _, _, _, _, _, _, _, e⟩ => SqL.of e) (fun i x σ H2 H3 hi ⟨ms', v3, v4, v5, e, s2, h2, hl2, hq2⟩ y => ?_) (fun σ H2 ⟨ms', v3, v4, v5, e, s2, h2, hl2, hq2⟩ => ?_)
      · obtain ⟨T, x1, x2, rfl, nT, rfl, e1, e2⟩ := y
        have e1' := Option.some.inj e1
        subst e1'
        have e2 : (ks.map V.int)[i]? = some x2 := e2
        rw [List.getElem?_map] at e2
        cases hz : ks[i]? with
        | none =>
          rw [hz] at e2
          cases e2
        | some z =>
          rw [hz] at e2
          have e2' := Option.some.inj e2
          subst e2' e
          have hik : i < ks.length := (List.getElem?_eq_some_iff.mp hz).1
          have hm3 : ms'.length = 3 := by rw [hl2]; exact l3' (by omega)
          have nTp : p ≠ T := ne_of_none h2 nT
          have nTq : q ≠ T := ne_of_none hq2 nT
          refine ⟨_, _, rfl, SqT.of upd_same, rfl, _, _, rfl, _, _, rfl, rfl, ?_⟩
          have j0 : 0 ≤ (i : Int) % 3 := Int.emod_nonneg _ (by decide)
          have j1 : (i : Int) % 3 < 3 := Int.emod_lt_of_pos _ (by decide)
          have j2 : ((i : Int) % 3) = (((i : Int) % 3).toNat : Int) := by omega
          obtain ⟨m, hm⟩ : ∃ m, ms'[((i : Int) % 3).toNat]? = some m := ⟨ms'[((i : Int) % 3).toNat]'(by omega), List.getElem?_eq_getElem _⟩
          have h3 : (upd H2 T (.tup [V.int (i : Nat), V.int z])) p = some (.lst (ms'.map V.int)) := by rw [upd_ne nTp]; exact h2
          refine ⟨_, rfl, .inl ⟨_, rfl, _, rfl, _, _, rfl, rfl, (show (0 : Int) < 3 by decide), ?_⟩⟩
          refine ⟨_, rfl, _, rfl, _, _, _, _, rfl, rfl, SqL.of h3, at_of j2 (by rw [List.getElem?_map, hm]; rfl), _, rfl, _, rfl, _, _, rfl, rfl, _, _, rfl, rfl, .inr ⟨?_, ?_⟩, _, _, rfl, rfl, ?_⟩
          · show -(2 ^ 64) < ((i : Int) + 2)
            omega
          · show ((i : Int) + 2) < 2 ^ 64
            omega
          · refine ⟨_, rfl, _, rfl, p, _, _, ((i : Int) % 3).toNat, rfl, rfl, h3, ?_, ?_⟩
            · show ixN (ms'.map V.int).length ((i : Int) % 3) = _
              unfold ixN
              rw [if_pos j0, if_pos (by rw [List.length_map, hm3]; exact j1)]
            · refine ⟨ms'.set ((i : Int) % 3).toNat (m + z * ((i : Int) + 2)), _, _, _, rfl, Same_upd (Same_lay s2 nT) np, ?_, ?_, ?_⟩
              · rw [upd_same, List.map_set]
              · rw [List.length_set, hl2]
              · rw [upd_ne npq.symm, upd_ne nTq]
                exact hq2
      · subst e
        exact ⟨_, rfl, kq H2 p ms' s2 np h2 (by omega) (by omega)⟩
end
end Jd
namespace Jd
open PySem PySem.Spec PyProof.Rows L2
/-! ### of, mixed -/
theorem Keep_lay {u : Addr} {H H' : Hp} {a : Addr} {o : HO} (k : Keep u H H') (n : H a = none) : Keep u H (upd H' a o) := fun b q nb h => by
  rw [upd_ne (ne_of_none h n)]
  exact k b q nb h
theorem Keep.none {u : Addr} {H H' : Hp} (k : Keep u H H') {b : Addr} (h : H' b = Option.none) (n : b ≠ u) : H b = Option.none := by
  cases q : H b with
  | none => rfl
  | some o =>
    rw [k b o n q] at h
    cases h
theorem Keep.seq {K : PySem.W.Frag} {u : Addr} {H H' : Hp} (k : Keep u H H') {a : Addr} {xs : List V} (h : SqL K H a xs) (n : a ≠ u) : SqL K H' a xs := by
  rcases h with (h | ⟨o, h⟩) | h
  · exact .inl (.inl (k _ _ n h))
  · exact .inl (.inr ⟨o, k _ _ n h⟩)
  · exact .inr h
def spOf (K : PySem.W.Frag) : Sp := fun vs H Q _ => ∃ (u l : Addr) (xs : List V) (n : Nat), vs = [.ref u, .ref l] ∧ Urn H u n ∧ n < 100000 ∧ SqL K H l xs ∧ l ≠ u ∧ 0 < xs.length ∧ xs.length < 1000 ∧
  ∀ (r : Nat) x H', xs[r]? = some x → Urn H' u (n + 1) → Keep u H H' → Q x H'
def spMixed (K : PySem.W.Frag) : Sp := fun vs H Q _ => ∃ (u l : Addr) (xs : List V) (n : Nat), vs = [.ref u, .ref l] ∧ Urn H u n ∧ n + xs.length < 100000 ∧ (SqL K H l xs ∨ SqT K H l xs) ∧ xs.length < 1000 ∧
  ∀ (ys : List V) p H', ys.Perm xs → Urn H' u (n + xs.length) → Keep u H H' → H p = none → H' p = some (.tup ys) → Q (.ref p) H'
section
variable {P : Program} {w : World} {K : PySem.W.Frag} {mg : Str → Option Value} {base : Heap}
theorem sc_of : FnScope ["_law_urn", "_law_some_so"] ["_law_urn", "_law_some_so"] (defScope s__law_of) := ⟨rfl, rfl, rfl, by decide +kernel, rfl, by decide +kernel, by decide +kernel⟩
theorem ok_law_of (B : Bk K mg) : Df P w K mg base CX0 2 "_law_of" ["_law_urn", "_law_some_so"] (spOf K) := by
  obtain ⟨fd, F⟩ := B.F_law_of
  obtain ⟨fdT, GT, bT⟩ := (ok_law_take (P := P) (w := w) (base := base) B).ex
  have kT := (ok_law_take (P := P) (w := w) (base := base) B).kp
  refine ⟨⟨fd, ?_, F.binds fun _ _ _ _ _ _ us hl => match us, hl with | [_, _], _ => rfl⟩, B.g_law_of, F.kp⟩
  refine F.ok sc_of (fun vs H Q E h => ?_) (fun cdv A outer s H vs Q E hr h => ?_)
  · obtain ⟨u, lo, xs, n, rfl, _⟩ := h
    rfl
  · obtain ⟨u, l, xs, n, rfl, hu, hn, hs, ne, h0, h1, k⟩ := h
    refine ⟨_, pss_one (ps_ret (pe_ix ix_list (pv 1) (pe_call GT hr rfl B.g_law_take kT bT .nil pass0 (pa_cons (pv 0) (pa_cons (pe_callB call_len (by rfl) B.b_len (by decide +kernel) (pa_cons (pv 1) pa_nil)) pa_nil))) (fun _ _ => rfl))), ?_⟩
    refine ⟨_, rfl, _, rfl, _, rfl, _, _, rfl, .inl ⟨_, hs, rfl⟩, u, _, n, rfl, hu, hn, by omega, by omega, fun r H' r0 r1 hu' kp => ?_⟩
    have hr' : r = (r.toNat : Int) := by omega
    have hl : r.toNat < xs.length := by omega
    exact ⟨l, xs, _, xs[r.toNat], rfl, rfl, kp.seq hs ne, at_of hr' (List.getElem?_eq_getElem hl), k r.toNat _ H' (List.getElem?_eq_getElem hl) hu' kp⟩
theorem sc_mixed : FnScope ["_law_urn", "_law_pool", "_law_left", "_law_found", "_law_turn"] ["_law_urn", "_law_pool"] (defScope s__law_mixed) := ⟨rfl, rfl, rfl, by decide +kernel, rfl, by decide +kernel, by decide +kernel⟩
theorem perm_move {α : Type} {fs ls : List α} {k : Nat} {y : α} (h : ls[k]? = some y) : ((fs ++ [y]) ++ ls.eraseIdx k).Perm (fs ++ ls) := by
  rw [List.append_assoc]
  exact List.Perm.append_left fs (erase_perm ls k y h)
theorem ok_law_mixed (B : Bk K mg) : Df P w K mg base CX0 2 "_law_mixed" ["_law_urn", "_law_pool"] (spMixed K) := by
  obtain ⟨fd, F⟩ := B.F_law_mixed
  obtain ⟨fdT, GT, bT⟩ := (ok_law_take (P := P) (w := w) (base := base) B).ex
  have kT := (ok_law_take (P := P) (w := w) (base := base) B).kp
  refine ⟨⟨fd, ?_, F.binds fun _ _ _ _ _ _ us hl => match us, hl with | [_, _], _ => rfl⟩, B.g_law_mixed, F.kp⟩
  refine F.ok sc_mixed (fun vs H Q E h => ?_) (fun cdv A outer s H vs Q E hr h => ?_)
  · obtain ⟨u, lo, xs, n, rfl, _⟩ := h
    rfl
  · obtain ⟨u, l, xs, n, rfl, hu, hn, hs, h1, k⟩ := h
    refine ⟨_, pss_cons (ps_par (i := 2) (j := 3) (by rfl) sc_mixed.nd rfl rfl (by decide) rfl rfl (pa_cons (pe_callTy call_list_of (by rfl) B.b_list (by decide +kernel) (pa_cons (pv 1) pa_nil)) (pa_cons (pe_lst pa_nil) pa_nil)) (by rfl))
      (pss_cons (ps_for PassesOwn.never rfl (pi_range1 rfl B.b_range (pa_cons (pe_callB call_len (by rfl) B.b_len (by decide +kernel) (pa_cons (pv 1) pa_nil)) pa_nil)) (pg_name (i := 4) sc_mixed.nd rfl (Or.inl rfl))
        (pss_one (ps_expr (pe_bm PySem.F.plainAttrs_list PySem.F.slot_list_append PySem.F.type_list_append mt_append (pv 3) (pa_cons
          (pe_bm PySem.F.plainAttrs_list PySem.F.slot_list_pop PySem.F.type_list_pop mt_popAt (pv 2) (pa_cons (pe_call GT hr rfl B.g_law_take kT bT .nil pass0 (pa_cons (pv 0) (pa_cons (pe_callB call_len (by rfl) B.b_len (by decide +kernel) (pa_cons (pv 2) pa_nil)) pa_nil))) pa_nil)) pa_nil)))))
      (pss_one (ps_ret (pe_callTy call_tuple_of (by rfl) B.b_tuple (by decide +kernel) (pa_cons (pv 3) pa_nil))))), ?_⟩
    refine ⟨_, rfl, l, xs, rfl, hs, fun L nL => ⟨Nat.zero_le _, fun Fo nF => ⟨_, _, rfl, ?_⟩⟩⟩
    have uo := hu.some
    have nLu : L ≠ u := fun e => by obtain ⟨o, h⟩ := uo; rw [← e, nL] at h; cases h
    have nF0 : H Fo = Option.none := (Same_new nL).free nF
    have nFu : Fo ≠ u := fun e => by obtain ⟨o, h⟩ := uo; rw [← e, nF0] at h; cases h
    have nFL : Fo ≠ L := fun e => by rw [e, upd_same] at nF; cases nF
    have s2 : Same H (upd (upd H L (.lst xs)) Fo (.lst [])) := Same_lay (Same_new nL) nF
    have hlen : LenV K (.ref l) (upd (upd H L (.lst xs)) Fo (.lst [])) xs.length := by
      rcases hs with hs | hs
      · exact .inl ⟨_, s2.seq hs, rfl⟩
      · exact .inr ⟨_, Same_seqT s2 hs, rfl⟩
    refine ⟨_, rfl, _, xs.length, rfl, hlen, (xs.length : Int), rfl, by omega, by omega, ?_⟩
    rw [show ((xs.length : Int)).toNat = xs.length by omega]
    refine for_it walk_range (fun i σ H' => ∃ (ls fs : List V) (v : Option V), σ = [some (.ref u), some (.ref l), some (.ref L), some (.ref Fo), v] ∧ H' L = some (.lst ls) ∧ H' Fo = some (.lst fs) ∧ (fs ++ ls).Perm xs ∧ fs.length = i ∧ Urn H' u (n + i) ∧ Keep u H H')
      ⟨xs, [], Option.none, rfl, by rw [upd_ne nFL.symm, upd_same], upd_same, List.Perm.refl _, rfl, hu.same s2, Same.keep s2⟩ (fun _ _ _ _ _ => trivial) (fun i x σ H1 H2 hi ⟨ls, fs, v, e, hL, hF, pm, fl, hu1, kp⟩ y => ?_) (fun σ H1 ⟨ls, fs, v, e, hL, hF, pm, fl, hu1, kp⟩ => ?_)
    · obtain ⟨rfl, rfl⟩ := y
      subst e
      have ll : ls.length = xs.length - i := by
        have q := pm.length_eq
        rw [List.length_append] at q
        omega
      refine ⟨_, rfl, .inl ⟨rfl, _, SqL.of hF⟩, _, rfl, .inl ⟨rfl, _, SqL.of hL⟩, _, rfl, _, rfl, _, ls.length, rfl, .inl ⟨_, SqL.of hL, rfl⟩, u, (ls.length : Int), n + i, rfl, hu1, by omega, by omega, by omega, fun r H3 r0 r1 hu3 kp3 => ?_⟩
      have hrl : r.toNat < ls.length := by omega
      have hy : ls[r.toNat]? = some ls[r.toNat] := List.getElem?_eq_getElem hrl
      have hL3 : H3 L = some (.lst ls) := kp3 _ _ nLu hL
      have hF3 : H3 Fo = some (.lst fs) := kp3 _ _ nFu hF
      refine ⟨L, ls, r, r.toNat, ls[r.toNat], rfl, rfl, hL3, by omega, by omega, ?_, hy, ?_⟩
      · have q : ixN ls.length r = some r.toNat := by
          unfold ixN
          rw [if_pos r0, if_pos r1]
        exact (ixN_seq q).1
      · refine ⟨Fo, fs, ls[r.toNat], rfl, rfl, by rw [upd_ne nFL]; exact hF3, by have : (1000 : Nat) < sizeLine := (by decide); omega, ?_⟩
        refine ⟨ls.eraseIdx r.toNat, fs ++ [ls[r.toNat]], _, rfl, by rw [upd_ne nFL.symm, upd_same], upd_same, (perm_move hy).trans pm, by rw [List.length_append, fl]; rfl, ?_, Keep_lay (Keep_lay (kp.trans kp3) nL) nF0⟩
        obtain ⟨a, b, c, h3, h4⟩ := hu3
        exact ⟨a, b, c, by rw [upd_ne nFu.symm, upd_ne nLu.symm]; exact h3, h4⟩
    · subst e
      have ll : ls = [] := by
        have q := pm.length_eq
        rw [List.length_append] at q
        exact List.eq_nil_of_length_eq_zero (by omega)
      subst ll
      rw [List.append_nil] at pm
      refine ⟨_, rfl, Fo, fs, rfl, .inl ⟨SqL.of hF, fun p hp => ?_⟩⟩
      have np : H p = Option.none := by
        by_cases e : p = u
        · rw [e] at hp
          obtain ⟨a, b, c, h3, _⟩ := hu1
          rw [h3] at hp
          cases hp
        · exact kp.none hp e
      refine k fs p _ pm ?_ (Keep_lay kp np) np upd_same
      obtain ⟨a, b, c, h3, h4⟩ := hu1
      exact ⟨a, b, c, by rw [upd_ne (ne_of_none h3 hp)]; exact h3, h4⟩
end
end Jd
namespace Jd
open PySem PySem.Spec PyProof.Rows L2
/-! ### numbers put together from powers of primes -/
def prs : List Nat := [2, 3, 5, 7, 11, 13, 101, 997, 999983]
def prodOn (l : List Nat) (e : Nat → Nat) : Nat := l.foldr (fun p a => p ^ e p * a) 1
def powsOf (p k : Nat) : List Nat := (List.range k).map fun i => p ^ (i + 1)
def flatOn (l : List Nat) (e : Nat → Nat) : List Nat := l.flatMap fun p => powsOf p (e p)
def bump (e : Nat → Nat) (p : Nat) : Nat → Nat := fun q => if q = p then e p + 1 else e q
theorem bump_at (e : Nat → Nat) (p : Nat) : bump e p p = e p + 1 := if_pos rfl
theorem bump_ne (e : Nat → Nat) {p q : Nat} (h : q ≠ p) : bump e p q = e q := if_neg h
theorem prod_same {e e' : Nat → Nat} : ∀ {l : List Nat}, (∀ q ∈ l, e' q = e q) → prodOn l e' = prodOn l e
  | [], _ => rfl
  | q :: l, h => by
    show q ^ e' q * prodOn l e' = q ^ e q * prodOn l e
    rw [h q List.mem_cons_self, prod_same fun x hx => h x (List.mem_cons_of_mem _ hx)]
theorem prod_bump {e : Nat → Nat} {p : Nat} : ∀ {l : List Nat}, l.Nodup → p ∈ l → prodOn l (bump e p) = prodOn l e * p
  | [], _, h => by cases h
  | q :: l, nd, h => by
    obtain ⟨n1, n2⟩ := List.nodup_cons.mp nd
    show q ^ bump e p q * prodOn l (bump e p) = q ^ e q * prodOn l e * p
    by_cases hq : q = p
    · subst hq
      rw [bump_at, prod_same (e' := bump e q) (e := e) fun x hx => bump_ne e fun z => n1 (z ▸ hx), Nat.pow_succ]
      rw [Nat.mul_right_comm]
    · rw [bump_ne e hq, prod_bump n2 ((List.mem_cons.mp h).resolve_left fun z => hq z.symm), Nat.mul_assoc]
theorem pows_succ (p k : Nat) : powsOf p (k + 1) = powsOf p k ++ [p ^ (k + 1)] := by
  unfold powsOf
  rw [List.range_succ, List.map_append]
  rfl
theorem flat_same {e e' : Nat → Nat} : ∀ {l : List Nat}, (∀ q ∈ l, e' q = e q) → flatOn l e' = flatOn l e
  | [], _ => rfl
  | q :: l, h => by
    show powsOf q (e' q) ++ flatOn l e' = powsOf q (e q) ++ flatOn l e
    rw [h q List.mem_cons_self, flat_same fun x hx => h x (List.mem_cons_of_mem _ hx)]
theorem flat_bump {e : Nat → Nat} {p : Nat} : ∀ {l : List Nat}, l.Nodup → p ∈ l → (flatOn l (bump e p)).Perm (flatOn l e ++ [p ^ (e p + 1)])
  | [], _, h => by cases h
  | q :: l, nd, h => by
    obtain ⟨n1, n2⟩ := List.nodup_cons.mp nd
    show (powsOf q (bump e p q) ++ flatOn l (bump e p)).Perm (powsOf q (e q) ++ flatOn l e ++ [p ^ (e p + 1)])
    by_cases hq : q = p
    · subst hq
      rw [bump_at, flat_same (e' := bump e q) (e := e) fun x hx => bump_ne e fun z => n1 (z ▸ hx), pows_succ, List.append_assoc, List.append_assoc]
      exact List.Perm.append_left _ List.perm_append_comm
    · rw [bump_ne e hq, List.append_assoc]
      exact List.Perm.append_left _ (flat_bump n2 ((List.mem_cons.mp h).resolve_left fun z => hq z.symm))
theorem prod_zero : ∀ {l : List Nat}, prodOn l (fun _ => 0) = 1
  | [] => rfl
  | q :: l => by
    show q ^ 0 * prodOn l (fun _ => 0) = 1
    rw [prod_zero, Nat.pow_zero]
theorem flat_zero : ∀ {l : List Nat}, flatOn l (fun _ => 0) = []
  | [] => rfl
  | q :: l => by
    show powsOf q 0 ++ flatOn l (fun _ => 0) = []
    rw [flat_zero]
    rfl
theorem prs_nd : prs.Nodup := by decide
theorem prs_le {p : Nat} (h : p ∈ prs) : 2 ≤ p ∧ p ≤ 999983 := by
  have q : ∀ p ∈ prs, 2 ≤ p ∧ p ≤ 999983 := by decide
  exact q p h
/-- the number and its powers that the law puts together -/
def NumR (all : Nat) (pws : List Nat) : Prop := ∃ e : Nat → Nat, (∀ p, e p ≤ 5) ∧ all = prodOn prs e ∧ all ≤ 1000000 ∧ pws.Perm (flatOn prs e)
def spNumber : Sp := fun vs H Q _ => ∃ (u : Addr) (n : Nat), vs = [.ref u] ∧ Urn H u n ∧ n < 90000 ∧
  ∀ (all : Nat) (pws : List Nat) t L H', NumR all pws → 2 ≤ all → Urn H' u (n + 20) → Keep u H H' → H' L = some (.lst (pws.map iV)) → L ≠ u → H' t = some (.tup [iV all, .ref L]) → Q (.ref t) H'
theorem flat_len {e : Nat → Nat} (h : ∀ p, e p ≤ 5) : (flatOn prs e).length ≤ 45 := by
  have key : ∀ l : List Nat, (flatOn l e).length ≤ 5 * l.length := by
    intro l
    induction l with
    | nil => exact Nat.le_refl _
    | cons q l ih =>
      show (powsOf q (e q) ++ flatOn l e).length ≤ 5 * (l.length + 1)
      rw [List.length_append]
      have hp : (powsOf q (e q)).length = e q := by unfold powsOf; rw [List.length_map, List.length_range]
      have := h q
      omega
  exact key prs
theorem nodup_perm_map {α β : Type} {f : α → β} {ys : List β} {xs : List α} (h : ys.Perm (xs.map f)) : ∃ zs : List α, ys = zs.map f ∧ zs.Perm xs := by
  have key : ∀ (as bs : List β), as.Perm bs → ∀ xs : List α, bs = xs.map f → ∃ zs : List α, as = zs.map f ∧ zs.Perm xs := by
    intro as bs pm
    induction pm with
    | nil => intro xs e; exact ⟨[], rfl, by rw [List.map_eq_nil_iff.mp e.symm]⟩
    | cons x _ ih =>
      intro xs e
      obtain ⟨a, r, rfl, rfl, er⟩ := List.map_eq_cons_iff.mp e.symm
      obtain ⟨zs, e1, p1⟩ := ih r er.symm
      exact ⟨a :: zs, by rw [e1]; rfl, p1.cons a⟩
    | swap x y l =>
      intro xs e
      obtain ⟨a, r, rfl, rfl, er⟩ := List.map_eq_cons_iff.mp e.symm
      obtain ⟨b, r2, rfl, rfl, er2⟩ := List.map_eq_cons_iff.mp er
      subst er2
      exact ⟨b :: a :: r2, rfl, List.Perm.swap a b r2⟩
    | trans _ _ ih1 ih2 =>
      intro xs e
      obtain ⟨zs, e1, p1⟩ := ih2 xs e
      obtain ⟨ws, e2, p2⟩ := ih1 zs e1
      exact ⟨ws, e2, p2.trans p1⟩
  exact key ys _ h xs rfl
end Jd
namespace Jd
open PySem PySem.Spec PyProof.Rows L2
section
variable {P : Program} {w : World} {K : PySem.W.Frag} {mg : Str → Option Value} {base : Heap}
theorem sc_num : FnScope ["_law_urn", "_law_left", "_law_powers", "_law_all_so", "_law_prime", "_law_step", "_law_turn"] ["_law_urn"] (defScope s__law_number) := ⟨rfl, rfl, rfl, by decide +kernel, rfl, by decide +kernel, by decide +kernel⟩
theorem ok_law_number (B : Bk K mg) : Df P w K mg base CX0 3 "_law_number" ["_law_urn"] spNumber := by
  obtain ⟨fd, F⟩ := B.F_law_number
  obtain ⟨fdT, GT, bT⟩ := (ok_law_take (P := P) (w := w) (base := base) B).ex
  have kT := (ok_law_take (P := P) (w := w) (base := base) B).kp
  obtain ⟨fdM, GM, bM⟩ := (ok_law_mixed (P := P) (w := w) (base := base) B).ex
  have kM := (ok_law_mixed (P := P) (w := w) (base := base) B).kp
  refine ⟨⟨fd, ?_, F.binds fun _ _ _ _ _ _ us hl => match us, hl with | [_], _ => rfl⟩, B.g_law_number, F.kp⟩
  refine F.ok sc_num (fun vs H Q E h => ?_) (fun cdv A outer s H vs Q E hr h => ?_)
  · obtain ⟨u, n, rfl, _⟩ := h
    rfl
  · obtain ⟨u, n, rfl, hu, hn, k⟩ := h
    have hr1 : Room 1 _ := hr.mono (by decide)
    refine ⟨_, pss_cons (ps_par3 (i := 1) (j := 2) (l := 3) (by rfl) sc_num.nd rfl rfl rfl (by decide) (by decide) (by decide) rfl rfl rfl
        (pa_cons (pe_callTy call_list_of (by rfl) B.b_list (by decide +kernel) (pa_cons (pe_call GM hr rfl B.g_law_mixed kM bM .nil pass0 (pa_cons (pv 0) (pa_cons (pe_lst (pa_cons pe_int (pa_cons pe_int (pa_cons pe_int (pa_cons pe_int (pa_cons pe_int (pa_cons pe_int (pa_cons pe_int (pa_cons pe_int (pa_cons pe_int pa_nil)))))))))) pa_nil))) pa_nil))
          (pa_cons (pe_lst pa_nil) (pa_cons pe_int pa_nil))) (by rfl))
      (pss_cons (ps_for PassesOwn.never rfl (pi_list (pe_slice sl_list (pv 1) po_none (po_some (pe_op op_add pe_int (pe_call GT hr1 rfl B.g_law_take kT bT .nil pass0 (pa_cons (pv 0) (pa_cons pe_int pa_nil))))))) (pg_name (i := 4) sc_num.nd rfl (Or.inl rfl))
        (pss_cons (ps_set (i := 5) sc_num.nd rfl (Or.inl rfl) (pv 4))
        (pss_one (ps_for PassesOwn.never rfl (pi_range1 rfl B.b_range (pa_cons (pe_op op_add pe_int (pe_call GT hr1 rfl B.g_law_take kT bT .nil pass0 (pa_cons (pv 0) (pa_cons pe_int pa_nil)))) pa_nil)) (pg_name (i := 6) sc_num.nd rfl (Or.inl rfl))
          (pss_one (ps_if (pt_cmpR op_le (pe_op op_mul (pv 3) (pv 4)) (pe_op op_pow pe_int pe_int) (nomark _))
            (pss_cons (ps_expr (pe_bm PySem.F.plainAttrs_list PySem.F.slot_list_append PySem.F.type_list_append mt_append (pv 2) (pa_cons (pv 5) pa_nil)))
            (pss_one (ps_par (i := 3) (j := 5) (by rfl) sc_num.nd rfl rfl (by decide) rfl rfl (pa_cons (pe_op op_mul (pv 3) (pv 4)) (pa_cons (pe_op op_mul (pv 5) (pv 4)) pa_nil)) (by rfl)))) pss_nil))))))
      (pss_one (ps_ret (pe_tup (pa_cons (pv 3) (pa_cons (pv 2) pa_nil)))))), ?_⟩
    refine ⟨_, rfl, (by show 9 ≤ sizeLine; decide), fun p hp => ⟨u, p, prs.map iV, n, rfl, hu.same (Same_new hp), (by show n + 9 < 100000; omega), .inl (SqL.of upd_same), (by decide), fun ys t H1 pm hu1 kp1 nt ht => ?_⟩⟩
    obtain ⟨zs, rfl, pz⟩ := nodup_perm_map pm
    have nd : zs.Nodup := pz.nodup_iff.mpr prs_nd
    have zin : ∀ p ∈ zs, p ∈ prs := fun p h => pz.mem_iff.mp h
    have kp0 : Keep u H H1 := (Same.keep (Same_new hp)).trans kp1
    have uo := hu.some
    refine ⟨t, _, rfl, .inr (SqT.of ht), fun L nL => ⟨Nat.zero_le _, fun W nW => ⟨_, _, _, rfl, ?_⟩⟩⟩
    have nLH : ∀ {b : Addr}, H1 b = Option.none → H b = Option.none := fun {b} h => by
      by_cases e : b = u
      · obtain ⟨a, b', c, h3, _⟩ := hu1
        rw [e, h3] at h
        cases h
      · exact kp0.none h e
    have nu : ∀ {b : Addr}, H b = Option.none → b ≠ u := fun {b} h e => by
      obtain ⟨o, q⟩ := uo
      rw [← e, h] at q
      cases q
    have nW1 : H1 W = Option.none := (Same_new nL).free nW
    have nWH := nLH nW1
    have nLh := nLH nL
    have nWL : W ≠ L := fun e => by rw [e, upd_same] at nW; cases nW
    have kp2 : Keep u H (upd (upd H1 L (.lst (zs.map iV))) W (.lst [])) := Keep_lay (Keep_lay kp0 nLh) nWH
    have hu2 : Urn (upd (upd H1 L (.lst (zs.map iV))) W (.lst [])) u (n + 9) := hu1.same (Same_lay (Same_new nL) nW)
    refine ⟨_, rfl, _, rfl, u, 4, n + 9, rfl, hu2, by omega, by decide, by decide, fun r H3 r0 r1 hu3 kp3 => ?_⟩
    have hL3 : H3 L = some (.lst (zs.map iV)) := kp3 _ _ (nu nLh) (by rw [upd_ne nWL.symm, upd_same])
    have hW3 : H3 W = some (.lst []) := kp3 _ _ (nu nWH) upd_same
    refine ⟨_, _, rfl, rfl, _, rfl, L, _, rfl, SqL.of hL3, fun q hq => ⟨q, rfl, ⟨_, SqL.of upd_same⟩, ?_⟩⟩
    have ec : cutV (zs.map iV) Option.none (some ((fun i j => i + j) (1 : Int) r)) = (zs.take (1 + r.toNat)).map iV := by
      have e : ((fun i j => i + j) (1 : Int) r) = ((1 + r.toNat : Nat) : Int) := by
        show 1 + r = _
        omega
      rw [e, cut_to, List.map_take]
    have zl : 1 ≤ (zs.take (1 + r.toNat)).length ∧ (zs.take (1 + r.toNat)).length ≤ 4 := by
      rw [List.length_take, pz.length_eq]
      have : prs.length = 9 := rfl
      omega
    have nds : (zs.take (1 + r.toNat)).Nodup := nd.sublist (List.take_sublist _ _)
    have zsin : ∀ p ∈ zs.take (1 + r.toNat), p ∈ prs := fun p h => zin p (List.mem_of_mem_take h)
    generalize zs.take (1 + r.toNat) = ps at ec zl nds zsin
    have nq : H q = Option.none := by
      by_cases e : q = u
      · obtain ⟨a, b', c, h3, _⟩ := hu3
        rw [e, h3] at hq
        cases hq
      · exact (kp2.trans kp3).none hq e
    have nqW : W ≠ q := ne_of_none hW3 hq
    have kp4 : Keep u H (upd H3 q (.lst (ps.map iV))) := Keep_lay (kp2.trans kp3) nq
    have hu4 : Urn (upd H3 q (.lst (ps.map iV))) u (n + 10) := hu3.same (Same_new hq)
    rw [ec]
    have hlen : (ps.map iV).length = ps.length := List.length_map _
    refine for_it (n := (ps.map iV).length) walk_list (fun i σ H' => ∃ (all : Nat) (pws : List Nat) (e : Nat → Nat) (v4 v5 v6 : Option V), σ = [some (.ref u), some (.ref L), some (.ref W), some (iV all), v4, v5, v6] ∧
        (∀ p, e p ≤ 5) ∧ all = prodOn prs e ∧ all ≤ 1000000 ∧ pws.Perm (flatOn prs e) ∧ (∀ p, p ∉ ps.take i → e p = 0) ∧ (0 < i → 2 ≤ all) ∧ Urn H' u (n + 10 + i) ∧ Keep u H H' ∧ H' W = some (.lst (pws.map iV)) ∧ H' q = some (.lst (ps.map iV)))
      ⟨1, [], fun _ => 0, Option.none, Option.none, Option.none, rfl, fun _ => Nat.zero_le _, prod_zero.symm, by decide, by rw [flat_zero], fun _ _ => rfl, fun h => absurd h (by decide), hu4, kp4, by rw [upd_ne nqW]; exact hW3, upd_same⟩
      (fun i σ H' _ ⟨_, _, _, _, _, _, _, _, _, _, _, _, _, _, _, _, e⟩ => SqL.of e)
      (fun i x σ H5 H6 hi ⟨all, pws, e, v4, v5, v6, eσ, e5, ea, em, ep, ez, e2, hu5, kp5, hW5, hq5⟩ y => ?_) (fun σ H5 ⟨all, pws, e, v4, v5, v6, eσ, e5, ea, em, ep, ez, e2, hu5, kp5, hW5, hq5⟩ => ?_)
    · obtain ⟨rfl, hx⟩ := y
      subst eσ
      rw [List.getElem?_map] at hx
      cases hpr : ps[i]? with
      | none =>
        rw [hpr] at hx
        cases hx
      | some pr =>
        rw [hpr] at hx
        have hx' := Option.some.inj hx
        subst hx'
        have pin : pr ∈ prs := zsin pr (List.mem_of_getElem? hpr)
        have pnot : pr ∉ ps.take i := fun hm => by
          obtain ⟨j, hj⟩ := List.mem_iff_getElem?.mp hm
          have hj2 : ps[j]? = some pr := by
            rw [List.getElem?_take] at hj
            split at hj
            · exact hj
            · cases hj
          have hji : j < i := by
            rw [List.getElem?_take] at hj
            split at hj
            · assumption
            · cases hj
          have := nd_ix nds hj2 hpr
          omega
        have e0 : e pr = 0 := ez pr pnot
        obtain ⟨p2, pmax⟩ := prs_le pin
        refine ⟨_, rfl, ?_⟩
        refine ⟨_, rfl, u, 5, n + 10 + i, rfl, hu5, by omega, by decide, by decide, fun r2 H7 r20 r21 hu7 kp7 => ⟨_, _, rfl, rfl, _, rfl, by show -(2 ^ 62) ≤ 1 + r2; omega, by show 1 + r2 < 2 ^ 62; omega, ?_⟩⟩
        have hW7 := kp7 _ _ (nu nWH) hW5
        have hq7 := kp7 _ _ (nu nq) hq5
        have kp8 := kp5.trans kp7
        refine for_it (n := (1 + r2).toNat) walk_range (fun j σ H' => ∃ (all : Nat) (pws : List Nat) (e : Nat → Nat) (v6 : Option V), σ = [some (.ref u), some (.ref L), some (.ref W), some (iV all), some (iV pr), some (iV (pr ^ (e pr + 1))), v6] ∧
            (∀ p, p ≠ pr → e p ≤ 5) ∧ e pr ≤ j ∧ all = prodOn prs e ∧ all ≤ 1000000 ∧ pws.Perm (flatOn prs e) ∧ (∀ p, p ∉ ps.take i → p ≠ pr → e p = 0) ∧ (0 < i ∨ 0 < j → 2 ≤ all) ∧ (0 < i ∨ 0 < j ∨ all = 1) ∧ Urn H' u (n + 10 + (i + 1)) ∧ Keep u H H' ∧ H' W = some (.lst (pws.map iV)) ∧ H' q = some (.lst (ps.map iV)))
          ⟨all, pws, e, v6, by rw [e0, Nat.zero_add, Nat.pow_one]; rfl, fun p _ => e5 p, by rw [e0]; exact Nat.le_refl 0, ea, em, ep, fun p h _ => ez p h, fun h => e2 (h.resolve_right (Nat.lt_irrefl 0)), ?_, hu7, kp8, hW7, hq7⟩
          (fun _ _ _ _ _ => trivial) (fun j x2 σ2 H8 H9 hj ⟨all2, pws2, f, w6, fσ, f5, fj, fa, fm, fp, fz, f2, f1, hu8, kp9, hW8, hq8⟩ y2 => ?_) (fun σ2 H8 ⟨all2, pws2, f, w6, fσ, f5, fj, fa, fm, fp, fz, f2, f1, hu8, kp9, hW8, hq8⟩ => ?_)
        · by_cases hi0 : 0 < i
          · exact .inl hi0
          · refine .inr (.inr ?_)
            have i0 : i = 0 := by omega
            subst i0
            rw [ea, ← prod_zero (l := prs)]
            exact prod_same fun p _ => ez p (by rw [List.take_zero]; exact fun z => nomatch z)
        · obtain ⟨rfl, rfl⟩ := y2
          subst fσ
          have cm : ((all2 : Int) * (pr : Int)) = ((all2 * pr : Nat) : Int) := by rw [Int.natCast_mul]
          have cs : (((pr ^ (f pr + 1) : Nat) : Int) * (pr : Int)) = ((pr ^ (f pr + 1 + 1) : Nat) : Int) := by rw [← Int.natCast_mul, ← Nat.pow_succ]
          refine ⟨_, rfl, _, rfl, _, _, rfl, rfl, .inl ⟨by omega, by omega⟩, _, _, rfl, rfl, ⟨by decide, by decide, by decide⟩, _, _, rfl, rfl, _, rfl, two (fun h1 => ?_) (fun h1 => ?_)⟩
          · have hle : all2 * pr ≤ 1000000 := by
              have q1 : decide ((all2 : Int) * (pr : Int) ≤ 10 ^ (6 : Int).toNat) = true := h1
              have q2 := of_decide_eq_true q1
              rw [cm, show (10 : Int) ^ (6 : Int).toNat = 1000000 by decide] at q2
              omega
            refine ⟨_, rfl, .inl ⟨rfl, _, SqL.of hW8⟩, _, rfl, W, _, _, rfl, rfl, hW8, ?_, ?_⟩
            · have q1 := fp.length_eq
              rw [List.length_map, q1]
              have q2 : (flatOn prs f).length ≤ 1000 := by
                have key : ∀ l : List Nat, l.length ≤ 9 → (∀ p ∈ l, f p ≤ 5 ∨ p = pr) → (flatOn l f).length ≤ 5 * l.length + l.length * j := by
                  intro l
                  induction l with
                  | nil => intro _ _; exact Nat.zero_le _
                  | cons x l ih =>
                    intro hl hb
                    show (powsOf x (f x) ++ flatOn l f).length ≤ 5 * (l.length + 1) + (l.length + 1) * j
                    rw [List.length_append]
                    have hp : (powsOf x (f x)).length = f x := by unfold powsOf; rw [List.length_map, List.length_range]
                    have i1 := ih (by rw [List.length_cons] at hl; omega) fun p hp => hb p (List.mem_cons_of_mem _ hp)
                    have i2 : f x ≤ 5 + j := by
                      rcases hb x List.mem_cons_self with h | h
                      · omega
                      · rw [h]
                        omega
                    rw [Nat.add_mul]
                    omega
                have q3 := key prs (by decide) fun p _ => by
                  by_cases h : p = pr
                  · exact .inr h
                  · exact .inl (f5 p h)
                have q4 : prs.length = 9 := rfl
                rw [q4] at q3
                have : j ≤ 5 := by omega
                omega
              exact Nat.lt_of_le_of_lt q2 (by decide)
            · refine ⟨_, rfl, _, rfl, _, _, rfl, rfl, .inl ⟨by omega, by omega⟩, _, rfl, _, rfl, _, _, rfl, rfl, .inr ⟨by omega, by omega⟩, _, _, rfl, ?_⟩
              refine ⟨all2 * pr, pws2 ++ [pr ^ (f pr + 1)], bump f pr, some (.int (0 + (j : Int))), ?_, fun p hp => by rw [bump_ne f hp]; exact f5 p hp, by rw [bump_at]; omega, by rw [prod_bump prs_nd pin, fa], hle, ?_, fun p h hp => by rw [bump_ne f hp]; exact fz p h hp, fun _ => ?_, .inr (.inl (Nat.succ_pos j)), ?_, ?_, ?_, ?_⟩
              · show [some (V.ref u), some (V.ref L), some (V.ref W), some (V.int ((all2 : Int) * (pr : Int))), some (iV pr), some (V.int (((pr ^ (f pr + 1) : Nat) : Int) * (pr : Int))), some (V.int (0 + (j : Int)))] = _
                rw [cm, cs, bump_at]
                rfl
              · exact (fp.append_right _).trans (flat_bump prs_nd pin).symm
              · have hpos : 1 ≤ all2 := by
                  rcases f1 with h | h | h
                  · have := f2 (.inl h); omega
                  · have := f2 (.inr h); omega
                  · omega
                exact Nat.le_trans p2 (Nat.le_mul_of_pos_left pr hpos)
              · obtain ⟨a, b, c, h3, h4⟩ := hu8
                exact ⟨a, b, c, by rw [upd_ne (nu nWH).symm]; exact h3, h4⟩
              · exact Keep_lay kp9 nWH
              · rw [upd_same, List.map_append]
                rfl
              · rw [upd_ne nqW.symm]
                exact hq8
          · have hle : ¬ all2 * pr ≤ 1000000 := by
              have q1 : decide ((all2 : Int) * (pr : Int) ≤ 10 ^ (6 : Int).toNat) = false := h1
              have q2 := of_decide_eq_false q1
              rw [cm, show (10 : Int) ^ (6 : Int).toNat = 1000000 by decide] at q2
              omega
            refine ⟨all2, pws2, f, _, rfl, f5, by omega, fa, fm, fp, fz, fun _ => ?_, ?_, hu8, kp9, hW8, hq8⟩
            · rcases f1 with h | h | h
              · exact f2 (.inl h)
              · exact f2 (.inr h)
              · exfalso
                rw [h, Nat.one_mul] at hle
                omega
            · rcases f1 with h | h | h
              · exact .inl h
              · exact .inr (.inl (Nat.succ_pos j))
              · exact .inr (.inl (Nat.succ_pos j))
        · subst fσ
          refine ⟨all2, pws2, f, _, _, _, rfl, fun p => ?_, fa, fm, fp, fun p h => ?_, fun _ => f2 (.inr (by omega)), hu8, kp9, hW8, hq8⟩
          · by_cases h : p = pr
            · rw [h]
              omega
            · exact f5 p h
          · have ht : ps.take (i + 1) = ps.take i ++ [pr] := by rw [List.take_add_one, hpr]; rfl
            rw [ht, List.mem_append, List.mem_singleton] at h
            exact fz p (fun z => h (.inl z)) fun z => h (.inr z)
    · subst eσ
      rw [hlen] at e2 hu5
      refine ⟨_, rfl, _, rfl, (by show 2 ≤ sizeLine; decide), fun t2 nt2 => ?_⟩
      have nt2H : H t2 = Option.none := by
        by_cases e : t2 = u
        · obtain ⟨a, b', c, h3, _⟩ := hu5
          rw [e, h3] at nt2
          cases nt2
        · exact kp5.none nt2 e
      refine k all pws t2 W _ ⟨e, e5, ea, em, ep⟩ (e2 (by omega)) ?_ (Keep_lay kp5 nt2H) (by rw [upd_ne (ne_of_none hW5 nt2)]; exact hW5) (nu nWH) upd_same
      exact (hu5.le (by omega)).same (Same_new nt2)
end
end Jd
namespace Jd
open PySem PySem.Spec PyProof.Rows L2 RZ
/-! ### same -/
/-- flat and the same -/
def FlatV : V → Prop
  | .non => True
  | .bl _ => True
  | .str _ => True
  | .int _ => True
  | _ => False
/-- the same, so many levels deep -/
def Sm (H : Hp) : Nat → V → V → Prop
  | 0, x, y => x = y ∧ FlatV y
  | n + 1, x, y => (x = y ∧ FlatV y) ∨ ∃ (a b : Addr) (xs ys : List V), x = .ref a ∧ y = .ref b ∧ xs.length = ys.length ∧ xs.length < 1000 ∧ (∀ (i : Nat) (u v : V), xs[i]? = some u → ys[i]? = some v → Sm H n u v) ∧
      ((H a = some (.lst xs) ∧ H b = some (.lst ys)) ∨ (H a = some (.tup xs) ∧ H b = some (.tup ys)))
theorem Sm_same {H H' : Hp} (s : Same H H') : ∀ (n : Nat) {x y : V}, Sm H n x y → Sm H' n x y
  | 0, _, _, h => h
  | n + 1, x, y, h => by
    rcases (show (x = y ∧ FlatV y) ∨ _ from h) with h | ⟨a, b, xs, ys, e1, e2, hl, h3, he, h | h⟩
    · exact .inl h
    · exact .inr ⟨a, b, xs, ys, e1, e2, hl, h3, fun i u v q1 q2 => Sm_same s n (he i u v q1 q2), .inl ⟨s _ _ h.1, s _ _ h.2⟩⟩
    · exact .inr ⟨a, b, xs, ys, e1, e2, hl, h3, fun i u v q1 q2 => Sm_same s n (he i u v q1 q2), .inr ⟨s _ _ h.1, s _ _ h.2⟩⟩
theorem Sm_flat {H : Hp} {n : Nat} {x : V} (h : FlatV x) : Sm H n x x := by
  cases n with
  | zero => exact ⟨rfl, h⟩
  | succ n => exact Or.inl ⟨rfl, h⟩
theorem walk_zipT {K : PySem.W.Frag} {a b : Addr} {xs ys : List V} {n : Nat} (hn : n = min xs.length ys.length) : Walk (ItzT K a b) n (fun H => SqT K H a xs ∧ SqT K H b ys) (YPair (fun i => xs[i]?) (fun i => ys[i]?)) := by
  subst hn
  refine ⟨fun i _ hi q => ?_, fun _ q => ⟨xs, ys, q.1, q.2, by omega⟩, fun i H v H' _ q y => ?_⟩
  · have h1 : i < xs.length := by omega
    have h2 : i < ys.length := by omega
    exact ⟨xs, ys, xs[i], ys[i], q.1, q.2, by simp [h1], by simp [h2]⟩
  · obtain ⟨T, x, z, h1, h2, h3, h4, h5⟩ := y
    exact ⟨T, x, z, h1, h2, h3, h4 xs q.1, h5 ys q.2⟩
def spSame (n : Nat) : Sp := fun vs H Q _ => ∃ x y : V, vs = [x, y] ∧ Sm H n x y ∧ ∀ H', Same H H' → Q (.bl true) H'
def spPrev : Nat → Sp
  | 0 => fun _ _ _ _ => False
  | n + 1 => spSame n
/-- the types of flat values -/
def tyN : V → String
  | .non => "NoneType"
  | .bl _ => "bool"
  | .str _ => "str"
  | _ => "int"
theorem ty_flat {K : PySem.W.Frag} {H : Hp} {x : V} (h : FlatV x) : TyX K H x (.type (tyN x)) := by
  cases x with
  | non => exact .base .non
  | bl b => exact .base (.bl b)
  | str z => exact .base (.str z)
  | int i => exact .base (.int i)
  | _ => exact h.elim
theorem kit2 {K : PySem.W.Frag} {a b c : String} {r s : Bool} (h1 : kitB a b = some r) (h2 : kitB a c = some s) : PySem.W.kitAny K (.type a) [.type b, .type c] = some (r || s) := by
  refine kitAny_cons (kit_ty h1) (fun e => ?_) (fun e => by rw [e]; rfl)
  rw [e, Bool.false_or]
  refine kitAny_cons (kit_ty h2) (fun e2 => by rw [e2]; rfl) (fun e2 => e2)
theorem cls2 (a b : String) : Paired ClsV [.ty a, .ty b] [.type a, .type b] := .cons (.ty a) (.cons (.ty b) .nil)
theorem ifd {p : Prop} [Decidable p] {A B : Prop} (hp : p) (h : A) : if decide p = true then A else B := by
  rw [decide_eq_true hp]
  exact iteT h
theorem ifdn {p : Prop} [Decidable p] {A B : Prop} (hp : ¬ p) (h : B) : if decide p = true then A else B := by
  rw [decide_eq_false hp]
  exact iteF h
theorem rep_true (n : Nat) : (List.range n).filterMap (fun _ => some (V.bl true)) = (List.replicate n true).map V.bl := by
  induction n with
  | zero => rfl
  | succ n ih =>
    rw [fm_step, ih, List.replicate_succ', List.map_append]
    rfl
theorem rep_all (n : Nat) : (List.replicate n true).all id = true := by
  rw [List.all_eq_true]
  intro x hx
  rw [(List.mem_replicate.mp hx).2]
  rfl
section
variable {P : Program} {w : World} {K : PySem.W.Frag} {mg : Str → Option Value} {base : Heap}
theorem sc_same : FnScope ["_law_got", "_law_goal", "_law_mine_so", "_law_own"] ["_law_got", "_law_goal"] (defScope s__law_same) := ⟨rfl, rfl, rfl, by decide +kernel, rfl, by decide +kernel, by decide +kernel⟩
theorem ok_same_step (B : Bk K mg) {fd : FuncData} (F : Fun K "_law_same" "_law_same" s__law_same (He.ga K "_law_same") fd) (n k : Nat) (G : FnOk P w K mg base CX0 k (He.ga K "_law_same") fd ["_law_got", "_law_goal"] (spPrev n)) (bG : Binds K fd ["_law_got", "_law_goal"] []) :
    FnOk P w K mg base CX0 (k + 1) (He.ga K "_law_same") fd ["_law_got", "_law_goal"] (spSame n) := by
  refine F.ok sc_same (fun vs H Q E h => ?_) (fun cdv A outer s H vs Q E hr h => ?_)
  · obtain ⟨x, y, rfl, _⟩ := h
    rfl
  · obtain ⟨x, y, rfl, hs, kq⟩ := h
    have isi := fun {X : Cx} => @call_isi X
    refine ⟨_, pss_cons (ps_if (pt_val (pe_callB call_isiT (by rfl) B.b_isinstance (by decide +kernel) (pa_cons (pv 1) (pa_cons (pe_tup (pa_cons (pe_bltn (by rfl) B.b_list (by decide +kernel) (show RelV (.ty "list") (.type "list") from rfl)) (pa_cons (pe_bltn (by rfl) B.b_tuple (by decide +kernel) (show RelV (.ty "tuple") (.type "tuple") from rfl)) pa_nil))) pa_nil))))
        (pss_cons (ps_if (PW.pt (pw_or (pt_cmpR op_ne (pe_callB call_isi (by rfl) B.b_isinstance (by decide +kernel) (pa_cons (pv 0) (pa_cons (pe_bltn (by rfl) B.b_list (by decide +kernel) (show RelV (.ty "list") (.type "list") from rfl)) pa_nil))) (pe_callB call_isi (by rfl) B.b_isinstance (by decide +kernel) (pa_cons (pv 1) (pa_cons (pe_bltn (by rfl) B.b_list (by decide +kernel) (show RelV (.ty "list") (.type "list") from rfl)) pa_nil))) (nomark _))
            (pw_or1 (pt_cmpR op_ne (pe_callB call_isi (by rfl) B.b_isinstance (by decide +kernel) (pa_cons (pv 0) (pa_cons (pe_bltn (by rfl) B.b_tuple (by decide +kernel) (show RelV (.ty "tuple") (.type "tuple") from rfl)) pa_nil))) (pe_callB call_isi (by rfl) B.b_isinstance (by decide +kernel) (pa_cons (pv 1) (pa_cons (pe_bltn (by rfl) B.b_tuple (by decide +kernel) (show RelV (.ty "tuple") (.type "tuple") from rfl)) pa_nil))) (nomark _))))) (pss_one (ps_ret pe_bl)) pss_nil)
        (pss_one (ps_ret (pe_and (pe_cmpR op_eq (pe_callB call_len (by rfl) B.b_len (by decide +kernel) (pa_cons (pv 0) pa_nil)) (pe_callB call_len (by rfl) B.b_len (by decide +kernel) (pa_cons (pv 1) pa_nil)) (nomark _))
          (pe_one (pe_callB (cr_all rfl) (by rfl) B.b_all (by decide +kernel) (pa_cons (pe_lc (own := [("_law_mine_so", 2), ("_law_own", 3)]) (g := gTup K 2 (gCons (gName 2) (gCons (gName 3) gNil))) (tt := tYes) rfl sc_same.nd (pi_zipA (by rfl) B.b_zip (pa_cons (pv 0) (pa_cons (pv 1) pa_nil))) (blkOk_by (N := ["_law_got", "_law_goal", "_law_mine_so", "_law_own"]) (sc := defScope s__law_same) (by decide +kernel))
            (fun _ _ _ _ _ => pg_tup rfl (pgs_cons (pg_name (i := 2) sc_same.nd rfl (Or.inl rfl)) (pgs_cons (pg_name (i := 3) sc_same.nd rfl (Or.inl rfl)) pgs_nil))) (fun _ _ _ _ _ => pts_nil)
            (fun _ _ _ _ _ => pe_call G hr rfl B.g_law_same F.kp bG .nil pass0 (pa_cons (pv 2) (pa_cons (pv 3) pa_nil)))) pa_nil))))))) pss_nil)
      (pss_cons (ps_if (PW.pt (pw_or (pt_cmp (pc_isN (pv 1))) (pw_or1 (pt_val (pe_callB call_isiT (by rfl) B.b_isinstance (by decide +kernel) (pa_cons (pv 1) (pa_cons (pe_tup (pa_cons (pe_bltn (by rfl) B.b_bool (by decide +kernel) (show RelV (.ty "bool") (.type "bool") from rfl)) (pa_cons (pe_bltn (by rfl) B.b_str (by decide +kernel) (show RelV (.ty "str") (.type "str") from rfl)) pa_nil))) pa_nil)))))))
        (pss_one (ps_ret (pe_and (pe_cmpR op_eq (pv 0) (pv 1) (nomark _)) (pe_and (pe_cmpR op_eq (pe_callB call_isi (by rfl) B.b_isinstance (by decide +kernel) (pa_cons (pv 0) (pa_cons (pe_bltn (by rfl) B.b_bool (by decide +kernel) (show RelV (.ty "bool") (.type "bool") from rfl)) pa_nil))) (pe_callB call_isi (by rfl) B.b_isinstance (by decide +kernel) (pa_cons (pv 1) (pa_cons (pe_bltn (by rfl) B.b_bool (by decide +kernel) (show RelV (.ty "bool") (.type "bool") from rfl)) pa_nil))) (nomark _))
          (pe_one (pe_cmpR op_eq (pe_cmp (pc_isN (pv 0)) rfl) (pe_cmp (pc_isN (pv 1)) rfl) (nomark _))))))) pss_nil)
      (pss_one (ps_ret (pe_and (pe_callB call_isi (by rfl) B.b_isinstance (by decide +kernel) (pa_cons (pv 0) (pa_cons (pe_bltn (by rfl) B.b_int (by decide +kernel) (show RelV (.ty "int") (.type "int") from rfl)) pa_nil))) (pe_and (pe_not (pe_callB call_isi (by rfl) B.b_isinstance (by decide +kernel) (pa_cons (pv 0) (pa_cons (pe_bltn (by rfl) B.b_bool (by decide +kernel) (show RelV (.ty "bool") (.type "bool") from rfl)) pa_nil)))) (pe_one (pe_cmpR op_eq (pv 0) (pv 1) (nomark _)))))))), ?_⟩
    have hc : (x = y ∧ FlatV y) ∨ ∃ (m : Nat) (a b : Addr) (xs ys : List V), n = m + 1 ∧ x = .ref a ∧ y = .ref b ∧ xs.length = ys.length ∧ xs.length < 1000 ∧ (∀ (i : Nat) (u v : V), xs[i]? = some u → ys[i]? = some v → Sm H m u v) ∧
        ((H a = some (.lst xs) ∧ H b = some (.lst ys)) ∨ (H a = some (.tup xs) ∧ H b = some (.tup ys))) := by
      cases n with
      | zero => exact .inl hs
      | succ m =>
        rcases (show (x = y ∧ FlatV y) ∨ _ from hs) with h | ⟨a, b, xs, ys, h1, h2, h3⟩
        · exact .inl h
        · exact .inr ⟨m, a, b, xs, ys, rfl, h1, h2, h3⟩
    rcases hc with ⟨rfl, hf⟩ | ⟨n, a, b, xs, ys, rfl, rfl, rfl, hl, h3, he, hab⟩
    · cases x with
      | non =>
        refine ⟨_, rfl, (by show 2 ≤ sizeLine; decide), fun p hp => ⟨_, p, _, _, _, _, rfl, upd_same, cls2 "list" "tuple", ty_flat hf, kit2 (a := "NoneType") (r := false) (s := false) (by decide +kernel) (by decide +kernel), _, rfl, iteF ?_⟩⟩
        refine ⟨_, rfl, _, rfl, ifd rfl ?_⟩
        refine ⟨_, rfl, _, rfl, rfl, _, rfl, ifd rfl ?_⟩
        refine ⟨_, rfl, _, _, _, _, _, rfl, .ty "bool", ty_flat hf, kit_ty (a := "NoneType") (r := false) (by decide +kernel), _, rfl, _, _, _, _, _, rfl, .ty "bool", ty_flat hf, kit_ty (a := "NoneType") (r := false) (by decide +kernel), rfl, _, rfl, ifd rfl ?_⟩
        refine ⟨_, rfl, _, rfl, rfl, ?_⟩
        have e : decide (V.bl (decide (V.non = V.non)) = V.bl (decide (V.non = V.non))) = true := decide_eq_true rfl
        show Q (V.bl (decide (V.bl (decide (V.non = V.non)) = V.bl (decide (V.non = V.non))))) _
        rw [e]
        exact kq _ (Same_new hp)
      | bl bb =>
        refine ⟨_, rfl, (by show 2 ≤ sizeLine; decide), fun p hp => ⟨_, p, _, _, _, _, rfl, upd_same, cls2 "list" "tuple", ty_flat hf, kit2 (a := "bool") (r := false) (s := false) (by decide +kernel) (by decide +kernel), _, rfl, iteF ?_⟩⟩
        refine ⟨_, rfl, _, rfl, ifdn (fun z => nomatch z) ?_⟩
        refine ⟨_, rfl, (by show 2 ≤ sizeLine; decide), fun p2 hp2 => ⟨_, p2, _, _, _, _, rfl, upd_same, cls2 "bool" "str", ty_flat hf, kit2 (a := "bool") (r := true) (s := false) (by decide +kernel) (by decide +kernel), _, rfl, iteT ?_⟩⟩
        refine ⟨_, rfl, _, rfl, rfl, _, rfl, ifd rfl ?_⟩
        refine ⟨_, rfl, _, _, _, _, _, rfl, .ty "bool", ty_flat hf, kit_ty (a := "bool") (r := true) (by decide +kernel), _, rfl, _, _, _, _, _, rfl, .ty "bool", ty_flat hf, kit_ty (a := "bool") (r := true) (by decide +kernel), rfl, _, rfl, ifd rfl ?_⟩
        refine ⟨_, rfl, _, rfl, rfl, ?_⟩
        have e : decide (V.bl (decide (V.bl bb = V.non)) = V.bl (decide (V.bl bb = V.non))) = true := decide_eq_true rfl
        show Q (V.bl (decide (V.bl (decide (V.bl bb = V.non)) = V.bl (decide (V.bl bb = V.non))))) _
        rw [e]
        exact kq _ (Same_lay (Same_new hp) hp2)
      | str z =>
        refine ⟨_, rfl, (by show 2 ≤ sizeLine; decide), fun p hp => ⟨_, p, _, _, _, _, rfl, upd_same, cls2 "list" "tuple", ty_flat hf, kit2 (a := "str") (r := false) (s := false) (by decide +kernel) (by decide +kernel), _, rfl, iteF ?_⟩⟩
        refine ⟨_, rfl, _, rfl, ifdn (fun z => nomatch z) ?_⟩
        refine ⟨_, rfl, (by show 2 ≤ sizeLine; decide), fun p2 hp2 => ⟨_, p2, _, _, _, _, rfl, upd_same, cls2 "bool" "str", ty_flat hf, kit2 (a := "str") (r := false) (s := true) (by decide +kernel) (by decide +kernel), _, rfl, iteT ?_⟩⟩
        refine ⟨_, rfl, _, rfl, rfl, _, rfl, ifd rfl ?_⟩
        refine ⟨_, rfl, _, _, _, _, _, rfl, .ty "bool", ty_flat hf, kit_ty (a := "str") (r := false) (by decide +kernel), _, rfl, _, _, _, _, _, rfl, .ty "bool", ty_flat hf, kit_ty (a := "str") (r := false) (by decide +kernel), rfl, _, rfl, ifd rfl ?_⟩
        refine ⟨_, rfl, _, rfl, rfl, ?_⟩
        have e : decide (V.bl (decide (V.str z = V.non)) = V.bl (decide (V.str z = V.non))) = true := decide_eq_true rfl
        show Q (V.bl (decide (V.bl (decide (V.str z = V.non)) = V.bl (decide (V.str z = V.non))))) _
        rw [e]
        exact kq _ (Same_lay (Same_new hp) hp2)
      | int i =>
        refine ⟨_, rfl, (by show 2 ≤ sizeLine; decide), fun p hp => ⟨_, p, _, _, _, _, rfl, upd_same, cls2 "list" "tuple", ty_flat hf, kit2 (a := "int") (r := false) (s := false) (by decide +kernel) (by decide +kernel), _, rfl, iteF ?_⟩⟩
        refine ⟨_, rfl, _, rfl, ifdn (fun z => nomatch z) ?_⟩
        refine ⟨_, rfl, (by show 2 ≤ sizeLine; decide), fun p2 hp2 => ⟨_, p2, _, _, _, _, rfl, upd_same, cls2 "bool" "str", ty_flat hf, kit2 (a := "int") (r := false) (s := false) (by decide +kernel) (by decide +kernel), _, rfl, iteF ?_⟩⟩
        refine ⟨_, rfl, _, _, _, _, _, rfl, .ty "int", ty_flat hf, kit_ty (a := "int") (r := true) (by decide +kernel), _, rfl, iteT ?_⟩
        refine ⟨_, rfl, _, _, _, _, _, rfl, .ty "bool", ty_flat hf, kit_ty (a := "int") (r := false) (by decide +kernel), _, rfl, _, rfl, iteT ?_⟩
        refine ⟨_, rfl, _, rfl, rfl, ?_⟩
        have e : decide (V.int i = V.int i) = true := decide_eq_true rfl
        show Q (V.bl (decide (V.int i = V.int i))) _
        rw [e]
        exact kq _ (Same_lay (Same_new hp) hp2)
      | _ => exact hf.elim
    · rcases hab with ⟨ha, hb⟩ | ⟨ha, hb⟩
      · have hk := he
        refine ⟨_, rfl, (by show 2 ≤ sizeLine; decide), fun p hp => ⟨_, p, _, _, _, _, rfl, upd_same, cls2 "list" "tuple", .base (.lst (Same_new hp _ _ hb)), kit2 (a := "list") (r := true) (s := false) (by decide +kernel) (by decide +kernel), _, rfl, iteT ?_⟩⟩
        have s1 : Same H (upd H p (.tup [.ty "list", .ty "tuple"])) := Same_new hp
        have ha1 := s1 _ _ ha
        have hb1 := s1 _ _ hb
        refine ⟨_, rfl, _, _, _, _, _, rfl, .ty "list", .base (.lst ha1), kit_ty (a := "list") (r := true) (by decide +kernel), _, rfl, _, _, _, _, _, rfl, .ty "list", .base (.lst hb1), kit_ty (a := "list") (r := true) (by decide +kernel), rfl, _, rfl, iteNS rfl ?_⟩
        refine ⟨_, rfl, _, _, _, _, _, rfl, .ty "tuple", .base (.lst ha1), kit_ty (a := "list") (r := false) (by decide +kernel), _, rfl, _, _, _, _, _, rfl, .ty "tuple", .base (.lst hb1), kit_ty (a := "list") (r := false) (by decide +kernel), rfl, _, rfl, iteNS rfl ?_⟩
        refine ⟨_, rfl, _, _, rfl, .inl ⟨_, SqL.of ha1, rfl⟩, _, rfl, _, _, rfl, .inl ⟨_, SqL.of hb1, rfl⟩, rfl, _, rfl, ifd (by rw [hl]) ?_⟩
        refine ⟨_, rfl, _, rfl, a, b, xs, ys, rfl, .inl ⟨SqL.of ha1, SqL.of hb1, fun D hD => ?_⟩⟩
        refine lc_fm (walk_zip (show xs.length = min xs.length ys.length by omega)) (fun _ => some (.bl true)) hD (by have : (1000 : Nat) < sizeLine := (by decide); omega) (fun H' s' => ⟨SqL.of (s' _ _ ha1), SqL.of (s' _ _ hb1)⟩) (fun i v H2 H3 Kt Kf hi s2 yy kt kf => ?_) (fun H2 s2 hD2 => ?_)
        · obtain ⟨T, u', v', rfl, nT, rfl, e1, e2⟩ := yy
          refine ⟨_, _, rfl, SqT.of upd_same, rfl, _, _, rfl, _, _, rfl, rfl, rfl, iteT (B := Kf (upd H2 T (.tup [u', v']))) ?_⟩
          exact ⟨_, rfl, _, rfl, u', v', rfl, Sm_same ((s1.trans s2).trans (Same_new nT)) n (he i u' v' e1 e2), fun H4 s4 => kt _ _ rfl ((Same_new nT).trans s4)⟩
        · refine ⟨D, List.replicate xs.length true, rfl, SqL.of (hD2.trans ?_), ?_⟩
          · rw [rep_true]
          · rw [rep_all]
            exact kq _ (s1.trans s2)
      · have hk := he
        refine ⟨_, rfl, (by show 2 ≤ sizeLine; decide), fun p hp => ⟨_, p, _, _, _, _, rfl, upd_same, cls2 "list" "tuple", .base (.tup (Same_new hp _ _ hb)), kit2 (a := "tuple") (r := false) (s := true) (by decide +kernel) (by decide +kernel), _, rfl, iteT ?_⟩⟩
        have s1 : Same H (upd H p (.tup [.ty "list", .ty "tuple"])) := Same_new hp
        have ha1 := s1 _ _ ha
        have hb1 := s1 _ _ hb
        refine ⟨_, rfl, _, _, _, _, _, rfl, .ty "list", .base (.tup ha1), kit_ty (a := "tuple") (r := false) (by decide +kernel), _, rfl, _, _, _, _, _, rfl, .ty "list", .base (.tup hb1), kit_ty (a := "tuple") (r := false) (by decide +kernel), rfl, _, rfl, iteNS rfl ?_⟩
        refine ⟨_, rfl, _, _, _, _, _, rfl, .ty "tuple", .base (.tup ha1), kit_ty (a := "tuple") (r := true) (by decide +kernel), _, rfl, _, _, _, _, _, rfl, .ty "tuple", .base (.tup hb1), kit_ty (a := "tuple") (r := true) (by decide +kernel), rfl, _, rfl, iteNS rfl ?_⟩
        refine ⟨_, rfl, _, _, rfl, .inr ⟨_, SqT.of ha1, rfl⟩, _, rfl, _, _, rfl, .inr ⟨_, SqT.of hb1, rfl⟩, rfl, _, rfl, ifd (by rw [hl]) ?_⟩
        refine ⟨_, rfl, _, rfl, a, b, xs, ys, rfl, .inr ⟨SqT.of ha1, SqT.of hb1, fun D hD => ?_⟩⟩
        refine lc_fm (walk_zipT (show xs.length = min xs.length ys.length by omega)) (fun _ => some (.bl true)) hD (by have : (1000 : Nat) < sizeLine := (by decide); omega) (fun H' s' => ⟨SqT.of (s' _ _ ha1), SqT.of (s' _ _ hb1)⟩) (fun i v H2 H3 Kt Kf hi s2 yy kt kf => ?_) (fun H2 s2 hD2 => ?_)
        · obtain ⟨T, u', v', rfl, nT, rfl, e1, e2⟩ := yy
          refine ⟨_, _, rfl, SqT.of upd_same, rfl, _, _, rfl, _, _, rfl, rfl, rfl, iteT (B := Kf (upd H2 T (.tup [u', v']))) ?_⟩
          exact ⟨_, rfl, _, rfl, u', v', rfl, Sm_same ((s1.trans s2).trans (Same_new nT)) n (he i u' v' e1 e2), fun H4 s4 => kt _ _ rfl ((Same_new nT).trans s4)⟩
        · refine ⟨D, List.replicate xs.length true, rfl, SqL.of (hD2.trans ?_), ?_⟩
          · rw [rep_true]
          · rw [rep_all]
            exact kq _ (s1.trans s2)

theorem ok_false {fd : FuncData} (F : Fun K "_law_same" "_law_same" s__law_same (He.ga K "_law_same") fd) : FnOk P w K mg base CX0 1 (He.ga K "_law_same") fd ["_law_got", "_law_goal"] (spPrev 0) :=
  F.ok sc_same (fun vs H Q E h => False.elim h) (fun cdv A outer s H vs Q E hr h => False.elim h)
theorem ok_same_all (B : Bk K mg) {fd : FuncData} (F : Fun K "_law_same" "_law_same" s__law_same (He.ga K "_law_same") fd) (b : Binds K fd ["_law_got", "_law_goal"] []) : ∀ n, FnOk P w K mg base CX0 (n + 2) (He.ga K "_law_same") fd ["_law_got", "_law_goal"] (spSame n)
  | 0 => ok_same_step B F 0 1 (ok_false F) b
  | n + 1 => ok_same_step B F (n + 1) (n + 2) (ok_same_all B F b n) b
theorem ok_law_same (B : Bk K mg) (n : Nat) : Df P w K mg base CX0 (n + 2) "_law_same" ["_law_got", "_law_goal"] (spSame n) := by
  obtain ⟨fd, F⟩ := B.F_law_same
  have b := F.binds (ps := ["_law_got", "_law_goal"]) fun _ _ _ _ _ _ us hl => match us, hl with | [_, _], _ => rfl
  exact ⟨⟨fd, ok_same_all B F b n, b⟩, B.g_law_same, F.kp⟩
end
end Jd
/-! isinstance of an error that is tracked -/
namespace Jd
open PySem PySem.Spec PySem.Calls PyProof.Rows PySem.W
section
variable {prog : Program} {w : World} {A : Around} {E : Value → Shared → Prop} {s : Shared} {K : Frag} {x D : Addr} {ox od : Obj}
theorem err_class {Q : Option Value → Shared → Prop} (C : L2.ExcC K D) (X : K.In s.heap) (I : InstAt s.heap x ox D (some od)) (h : Q (some (.ref D)) { s with toks := s.toks + 1 }) : wpAny (model prog w) A (getAttr? (.ref x) "__class__") Q E s := by
  have q0 : findObj K D (some od) "__class__" = some (.bind (.builtin "getset_descriptor.__get__") (.builtin "object.__class__")) :=
    findObj_data (by obtain ⟨cd, hc, _⟩ := any_some C.hd; rw [hc]; rfl) C.ha C.hn C.ht
  obtain ⟨hp, g, d, t, os⟩ := s
  have l0 := I.type (M := model prog w)
  have l1 := looks_findIn (M := model prog w) X C.hg
  have l2 := looks_findIn (M := model prog w) X C.hk
  have l3 := looks_find (M := model prog w) X I q0
  have l4 : Looks (model prog w) hp (isInstance (.ref x) (.type "BaseException")) true := l0.andThen (looks_subIn X C.hs)
  have n0 : (false && onTheHeap (Value.builtin "BaseException.__getattribute__")) = false := rfl
  have n2 : (Value.builtin "BaseException.__getattribute__" == Value.builtin "object.__getattribute__") = false := by decide +kernel
  have n1 : (onTheHeap (Value.ref D) && Value.builtin "BaseException.__getattribute__" == Value.builtin "object.__getattribute__") = false := by rw [n2]; rfl
  unfold getAttr? getAttrBy? getAttrBy
  refine wpAny_bind (wpAny_mkText (wpAny_bind (wpAny_attempt (wpAny_holding (wpAny_bind (l0.at (wpAny_bind (l1.at ?_))))))))
  show wpAny _ _ (if (onTheHeap (Value.ref D) && Value.builtin "BaseException.__getattribute__" == Value.builtin "object.__getattribute__") = true then _ else _) _ _ _
  rw [n1, if_neg Bool.false_ne_true]
  unfold getAttrByItsOwn hookBefore
  refine wpAny_bind ?_
  rw [if_pos (show onTheHeap (Value.ref D) = true from rfl)]
  refine l2.at ?_
  refine wpAny_bind (wpAny_attempt (wpAny_holding ?_))
  unfold callGetattribute
  rw [n0, if_neg Bool.false_ne_true]
  unfold boundAndCalled
  rw [PySem.F.excAttr_ValueError.ga.bind (.ref x)]
  refine wpAny_bind (wpAny_pure ?_)
  show wpAny _ _ (call (.builtin "BaseException.__getattribute__") [.ref x, .str "__class__" t]) _ _ _
  refine wpAny_call (codeAny_call_builtin PySem.F.excAttr_ValueError.ga.plain PySem.F.entry_bexc_ga ?_)
  refine @check_slot (model prog w) _ _ ⟨hp, g, d, t + 1, os⟩ "BaseException.__getattribute__" "BaseException" "__getattribute__" (.ref x) [.str "__class__" t] [] _ (by decide +kernel) (by decide +kernel) l4 (PySem.F.args_bexc_ga (.ref x) (.str "__class__" t)) ?_
  unfold Builtin.«object.__getattribute__»
  refine wpAny_bind (wpAny_of_eq (a := ((Value.ref x : Value), [Value.str "__class__" t])) (by first | rfl | (simp only [slotArgs]; rfl)) ?_)
  refine wpAny_bind (wpAny_pure (wpAny_bind (l0.at (wpAny_bind (l3.at ?_)))))
  show wpAny _ _ (holding [Value.builtin "object.__class__"] (call (.builtin "getset_descriptor.__get__") [.builtin "object.__class__", .ref x, .ref D]) >>= ret) _ _ _
  refine wpAny_bind (wpAny_holding (wpAny_call (class_get (s := ⟨hp, g, d, t + 1, os⟩) (ox := ox) (od := some od) X I C.hm ?_)))
  refine wpAny_pure ?_
  show wpAny _ _ (handedOut (.ref D)) _ _ _
  rw [handedOut_of (v := .ref D) rfl]
  first
    | exact wpAny_pure (wpAny_pure h)
    | exact wpAny_pure h
    | exact wpAny_pure (wpAny_bind (wpAny_pure (wpAny_pure h)))
theorem err_kit (C : L2.ExcC K D) : KitX K (.ref x) (.ref D) (fun h => InstAt h x ox D (some od)) where
  ty := fun _ _ _ I => I.type
  it := fun _ _ X _ => by
    obtain ⟨c0, h0, _⟩ := any_some C.hd
    unfold clsIn at h0
    split at h0
    · rename_i c' d' cd' sl' ho
      intro A' Q' E' s' k q
      unfold isType loadHead
      exact wpAny_bind (wpAny_loadPart (k _ _ (X _ _ ho)) (wpAny_pure q))
    · cases h0
  ne := fun h tp dd its n sl X htp => by
    obtain ⟨c0, h0, _⟩ := any_some C.hd
    refine Bool.eq_false_iff.mpr fun q => ?_
    have e : D = tp := Value.ref.inj (beq_iff_eq.mp q)
    subst e
    unfold clsIn at h0
    split at h0
    · rename_i c' d' cd' sl' ho
      have z := (X _ _ ho).symm.trans htp
      cases z
    · cases h0
  ca := fun X I k => err_class C X I k
end
end Jd
namespace Jd
open PySem PySem.Spec PyProof.Rows L2
def rIsEr (K : PySem.W.Frag) : List V → Hp → VK → Prop := fun xs H Q => ∃ (a D dd : Addr) (fs : List (Str × V)) (c : V) (cv : Value) (b : Bool), xs = [.ref a, c] ∧ H a = some (ErO (.ref D) (some dd) a) ∧ H dd = some (.xd fs) ∧ ExcC K D ∧
  (∀ u, RelV c u → u = cv) ∧ PySem.W.kitOne K (.ref D) cv = some b ∧ Q (.bl b) H
theorem call_isEr {X : Cx} : CallR X (.builtin "isinstance") (rIsEr X.K) := by
  intro pins s σ H xs us Q I r h
  obtain ⟨a, D, dd, fs, c, cv, b, rfl, ha, hd, C, hcv, e, q⟩ := h
  cases r with
  | cons rx rr =>
    cases rr with
    | cons rt rr =>
      cases rr
      cases rx
      have ec := hcv _ rt
      subst ec
      obtain ⟨oe, vs, r0, r1, r2⟩ := (I.hok a _ ha).1
      have hx : ObjOk X.prog X.w H s.heap dd (.xd fs) := I.hok dd _ hd
      obtain ⟨mA, hns, hr⟩ := hx
      obtain ⟨od, ho, hl⟩ := lookIn_ns hns
      have J : PySem.W.InstAt s.heap a oe D (some od) := ⟨r0, r1.1, by unfold PySem.W.notCls; rw [r2] <;> rfl, by rw [r1.2]; exact ho⟩
      exact PySem.W.kia_one (err_kit C) I.kIn J e (fun z => nomatch z) fun tk => ⟨.bl b, H, I.kept (t' := tk) fun _ _ z => z, rfl, q⟩
end Jd
namespace Jd
open PySem PySem.Spec PyProof.Rows L2
/-! ### heard -/
def spHeard : Sp := fun vs H Q _ => ∃ (way : Int) (z : Str), vs = [.int way, .str z] ∧ z.length ≤ 1000 ∧ isFieldB z = false ∧ ∀ H' p, Same H H' → H' p = some (.tup [.str "bad", .str z]) → Q (.ref p) H'
section
variable {P : Program} {w : World} {K : PySem.W.Frag} {mg : Str → Option Value} {base : Heap}
theorem sc_heard : FnScope ["_law_way", "_law_flat", "_law_caught", "_law_found", "error"] ["_law_way", "_law_flat"] (defScope s__law_heard) := ⟨rfl, rfl, rfl, by decide +kernel, rfl, by decide +kernel, by decide +kernel⟩
theorem exm3 {cls c1 c2 c3 : Value} {b1 b2 b3 : Bool} (h1 : PySem.W.exmOne K cls c1 = some b1) (h2 : PySem.W.exmOne K cls c2 = some b2) (h3 : PySem.W.exmOne K cls c3 = some b3) : PySem.W.exmAny K cls [c1, c2, c3] = some (b1 || (b2 || (b3 || false))) := by
  simp only [PySem.W.exmAny, h1, h2, h3]
theorem kit_self {t : Value} : PySem.W.kitOne K t t = some true := by
  unfold PySem.W.kitOne
  rw [if_pos (by simp)]
theorem ok_law_heard (B : Bk K mg) : Df P w K mg base CX0 6 "_law_heard" ["_law_way", "_law_flat"] spHeard := by
  obtain ⟨fd, F⟩ := B.F_law_heard
  obtain ⟨fdO, GO, bO⟩ := (ok_field_of (P := P) (w := w) (base := base) B).ex
  have kO := (ok_field_of (P := P) (w := w) (base := base) B).kp
  obtain ⟨fdP, GP, bP⟩ := (ok_parts_of (P := P) (w := w) (base := base) B).ex
  have kP := (ok_parts_of (P := P) (w := w) (base := base) B).kp
  refine ⟨⟨fd, ?_, F.binds fun _ _ _ _ _ _ us hl => match us, hl with | [_, _], _ => rfl⟩, B.g_law_heard, F.kp⟩
  refine F.ok sc_heard (fun vs H Q E h => ?_) (fun cdv A outer s H vs Q E hr h => ?_)
  · obtain ⟨u, n, rfl, _⟩ := h
    rfl
  · obtain ⟨way, z, rfl, hz, hb, k⟩ := h
    have hr3 : Room 3 _ := hr.mono (by decide)
    refine ⟨_, pss_cons (ps_asg (pe_tup (pa_cons pe_non (pa_cons pe_non pa_nil))) (pg_tup (by rfl) (pgs_cons (pg_name (i := 2) sc_heard.nd rfl (.inl rfl)) (pgs_cons (pg_name (i := 3) sc_heard.nd rfl (.inl rfl)) pgs_nil))))
      (pss_cons (ps_try_err (i := 4) (tb := fun W => tAsg (tIf (tTest (tOp rEq (tVar 0) (tC (.int 0)))) (tCallS (spFieldOf (He.ga K "BadField")) (WE W) (tCons (tVar 1) tNil)) (tCallS (spParts (He.ga K "BadField")) (WE W) (tCons (tVar 1) tNil))) (gName 3)) (ts := fun _ _ _ => tAsg (tVar 4) (gName 2)) (Wout := fun _ _ _ _ => False)
          rfl rfl rfl sc_heard.nd rfl rfl (htest3 ⟨rfl, by decide, .inl B.g_BadField⟩ ⟨rfl, by decide, .inl B.g_BadLine⟩ ⟨rfl, by decide, .inl B.g_NoName⟩) takes0
          (fun W pn xe tk _ => pss_one (ps_set (i := 3) sc_heard.nd rfl (Or.inl rfl) (pe_ifExp (pt_cmpR op_eq (pv 0) pe_int (nomark _))
            (pe_callS GO hr3 rfl B.g_field_of kO bO (fun σ => passAt tk σ) (pa_cons (pv 1) pa_nil)) (pe_callS GP hr rfl B.g_parts_of kP bP (fun σ => passAt tk σ) (pa_cons (pv 1) pa_nil)))))
          (fun a oe cls d pn hz hf => pss_one (ps_set (i := 2) sc_heard.nd rfl (Or.inl rfl) (pv 4))))
      (pss_cons (ps_if (pt_cmp (pc_isN (pv 2))) (pss_one (ps_ret (pv 3))) pss_nil)
      (pss_one (ps_ret (pe_ifExp (PW.pt (pw_and (pt_val (pe_callB call_isEr (by rfl) B.b_isinstance (by decide +kernel) (pa_cons (pv 2) (pa_cons (pe_glob (v := .ref (He.ga K "BadField")) rfl B.g_BadField rfl) pa_nil))))
          (pw_and1 (pt_val (pe_callB call_isEr (by rfl) B.b_isinstance (by decide +kernel) (pa_cons (pv 2) (pa_cons (pe_bltn (by rfl) B.b_ValueError (by decide +kernel) (show RelV (.ty "ValueError") (.type "ValueError") from rfl)) pa_nil)))))))
        (pe_tup (pa_cons pe_str (pa_cons (pe_erF (pv 2)) pa_nil))) pe_str))))), ?_⟩
    refine ⟨(by show 2 ≤ sizeLine; decide), fun t0 h0 => ⟨_, _, rfl, SqT.of upd_same, rfl, _, _, rfl, _, _, rfl, rfl, ?_⟩⟩
    have s0 : Same H (upd H t0 (.tup [.non, .non])) := Same_new h0
    refine ⟨_, rfl, rfl, _, rfl, two (fun h1 => ?_) (fun h1 => ?_)⟩
    · refine ⟨_, rfl, z, rfl, Nat.le_trans hz (by decide), fun _ H' d s1 hx => ?_, fun q => absurd (hb.symm.trans q) (by decide)⟩
      refine ⟨_, exm3 B.exm_BadField_BadField B.exm_BadField_BadLine B.exm_BadField_NoName, fun _ a na => ?_, fun q => nomatch q⟩
      refine ⟨_, rfl, fun na' => ?_⟩
      have nda : d ≠ a := ne_of_none hx na'
      have hx2 : (upd H' a (ErO (.ref (He.ga K "BadField")) (some d) a)) d = some (.xd [("field", .str z)]) := by rw [upd_ne nda]; exact hx
      have c := B.xc_BadField
      refine ⟨_, rfl, _, rfl, ifdn (fun z => nomatch z) ?_⟩
      refine ⟨_, rfl, a, _, d, _, _, _, true, rfl, upd_same, hx2, c, (fun u r => r), kit_self, _, rfl, iteT ?_⟩
      refine ⟨_, rfl, a, _, d, _, _, _, true, rfl, upd_same, hx2, c, (fun u r => r), B.kit_BadField_ValueError, _, rfl, iteT ?_⟩
      refine ⟨_, rfl, a, _, d, _, .str z, rfl, upd_same, ⟨c.hg, c.hk, c.hs, c.hd⟩, B.nf_BadField_field, hx2, rfl, (by show 2 ≤ sizeLine; decide), fun t ht => ?_⟩
      exact k _ t (Same_lay (Same_upd (s0.trans s1) ((s0.trans s1).free na')) ht) upd_same
    · refine ⟨_, rfl, z, rfl, hz, fun _ H' d s1 hx => ?_, fun q => absurd (hb.symm.trans q) (by decide)⟩
      refine ⟨_, exm3 B.exm_BadField_BadField B.exm_BadField_BadLine B.exm_BadField_NoName, fun _ a na => ?_, fun q => nomatch q⟩
      refine ⟨_, rfl, fun na' => ?_⟩
      have nda : d ≠ a := ne_of_none hx na'
      have hx2 : (upd H' a (ErO (.ref (He.ga K "BadField")) (some d) a)) d = some (.xd [("field", .str z)]) := by rw [upd_ne nda]; exact hx
      have c := B.xc_BadField
      refine ⟨_, rfl, _, rfl, ifdn (fun z => nomatch z) ?_⟩
      refine ⟨_, rfl, a, _, d, _, _, _, true, rfl, upd_same, hx2, c, (fun u r => r), kit_self, _, rfl, iteT ?_⟩
      refine ⟨_, rfl, a, _, d, _, _, _, true, rfl, upd_same, hx2, c, (fun u r => r), B.kit_BadField_ValueError, _, rfl, iteT ?_⟩
      refine ⟨_, rfl, a, _, d, _, .str z, rfl, upd_same, ⟨c.hg, c.hk, c.hs, c.hd⟩, B.nf_BadField_field, hx2, rfl, (by show 2 ≤ sizeLine; decide), fun t ht => ?_⟩
      exact k _ t (Same_lay (Same_upd (s0.trans s1) ((s0.trans s1).free na')) ht) upd_same
end
end Jd
namespace Jd
open PySem PySem.Spec PyProof.Rows L2
/-! ### Keys of one name, without tellings -/
def retScope : List Stmt → Scope
  | [.Return (some (.DictComp _ _ _ sc _)) _] => sc
  | _ :: r => retScope r
  | [] => { kind := .function, names := [], isGenerator := false, isCoroutine := false }
def retVal : List Stmt → Expr
  | [.Return (some (.DictComp _ v _ _ _)) _] => v
  | _ :: r => retVal r
  | [] => .Name "" ⟨0, 0, 0, 0⟩
def argScope : Expr → Scope
  | .Call _ [.ListComp _ _ sc _] _ _ => sc
  | _ => { kind := .function, names := [], isGenerator := false, isCoroutine := false }
abbrev N7 : List Str := ["names", "tells", "told", "name", "teller", "other", "middle"]
/-- tuple(a sequence) -/
def rTupOf (K : PySem.W.Frag) : List V → Hp → VK → Prop := fun xs H Q => ∃ p ys, xs = [V.ref p] ∧ ((SqL K H p ys ∧ ∀ l, H l = none → Q (.ref l) (upd H l (.tup ys))) ∨ (SqT K H p ys ∧ Q (.ref p) H))
/-- the row of one name -/
def tRow (K : PySem.W.Frag) : TE := tCB (rTupOf K) (tCons (tLc (iTup K (tVar 0)) (gName 5) (tTest (tOp (rIn K false) (tVar 5) (tDGet (tVar 2) (tVar 3)))) (tVar 5) [5]) tNil)
def spAT (K : PySem.W.Frag) : Sp := fun vs H Q _ => ∃ t te : Addr, vs = [.ref t, .ref te] ∧ SqT K H t [.str "a"] ∧ SqT K H te [] ∧
  ∀ H' d q, Same H H' → H' d = some (.dK [(.inr "a", .ref q)]) → H' q = some (.tup []) → Q (.ref d) H'
section
variable {P : Program} {w : World} {K : PySem.W.Frag} {mg : Str → Option Value} {base : Heap}
theorem sc_at : FnScope ["names", "tells", "told", "name", "teller", "other", "middle"] ["names", "tells"] (defScope s__all_told) := ⟨rfl, rfl, rfl, by decide +kernel, rfl, by decide +kernel, by decide +kernel⟩
theorem ok_all_told (B : Bk K mg) : Df P w K mg base CX0 1 "_all_told" ["names", "tells"] (spAT K) := by
  obtain ⟨fd, F⟩ := B.F_all_told
  refine ⟨⟨fd, ?_, F.binds fun _ _ _ _ _ _ us hl => match us, hl with | [_, _], _ => rfl⟩, B.g_all_told, F.kp⟩
  refine F.ok sc_at (fun vs H Q E h => ?_) (fun cdv A outer s H vs Q E hr h => ?_)
  · obtain ⟨u, n, rfl, _⟩ := h
    rfl
  · obtain ⟨t, te, rfl, ht, hte, k⟩ := h
    have hu := hu_of hr
    have inner := fun (s' : Shared) (H' : Hp) (C : Addr) (cl : List (Str × Addr)) (fp : List Addr) => (show PE ((cxOf CX0 P w K mg base N7 "_all_told" (defScope s__all_told) (He.ga K "_all_told") cdv A outer s H E).nox.blk s' H' (retScope (defBody s__all_told)) (compEnvC (retScope (defBody s__all_told)) cl C (cxOf CX0 P w K mg base N7 "_all_told" (defScope s__all_told) (He.ga K "_all_told") cdv A outer s H E).nox.env) fp) (retVal (defBody s__all_told)) (tRow K) from
      pe_callTy call_tuple_of (by rfl) B.b_tuple (by decide +kernel) (pa_cons (pe_lc (own := [("other", 5)]) (g := gName 5) (tt := tTest (tOp (rIn K false) (tVar 5) (tDGet (tVar 2) (tVar 3)))) rfl sc_at.nd (pi_tup (pv 0)) (blkOk_by (N := N7) (sc := relS (retScope (defBody s__all_told)) (defScope s__all_told)) (scope := argScope (retVal (defBody s__all_told))) (own := [("other", 5)]) (by decide +kernel)) (fun _ _ _ _ _ => pg_name (i := 5) sc_at.nd rfl (Or.inl rfl)) (fun _ _ _ _ _ => pts_one (pt_cmpR op_in_seq (pv 5) (pe_dget hu (pv 2) (pv 3) (fun _ _ => rfl)) (by rfl))) (fun _ _ _ _ _ => pv 5)) pa_nil))
    refine ⟨_, pss_cons (ps_set (i := 2) sc_at.nd rfl (Or.inr rfl) pe_dnewK)
      (pss_cons (ps_for PassesOwn.never rfl (pi_tup (pv 0)) (pg_name (i := 3) sc_at.nd rfl (Or.inr rfl))
        (pss_one (ps_dput hu (pv 2) (pv 3) (pe_lc (own := [("teller", 4), ("other", 5)]) (g := gTup K 2 (gCons (gName 4) (gCons (gName 5) gNil))) (tt := tTest (tOp rEq (tVar 4) (tVar 3))) rfl sc_at.nd (pi_tup (pv 1)) (blkOk_by (N := ["names", "tells", "told", "name", "teller", "other", "middle"]) (sc := defScope s__all_told) (by decide +kernel))
          (fun _ _ _ _ _ => pg_tup rfl (pgs_cons (pg_name (i := 4) sc_at.nd rfl (Or.inl rfl)) (pgs_cons (pg_name (i := 5) sc_at.nd rfl (Or.inl rfl)) pgs_nil))) (fun _ _ _ _ _ => pts_one (pt_cmpR op_eq (pv 4) (pv 3) (nomark _))) (fun _ _ _ _ _ => pv 5)) rfl)))
      (pss_cons (ps_for PassesOwn.never rfl (pi_tup (pv 0)) (pg_name (i := 6) sc_at.nd rfl (Or.inl rfl))
        (pss_one (ps_for PassesOwn.never rfl (pi_tup (pv 0)) (pg_name (i := 3) sc_at.nd rfl (Or.inr rfl))
          (pss_one (ps_if (pt_cmpR op_in_seq (pv 6) (pe_dget hu (pv 2) (pv 3) (fun _ _ => rfl)) (by rfl)) (pss_one ps_never) pss_nil)))))
      (pss_one (ps_ret (pe_dc (own := [("name", 3)]) (g := gName 3) (tt := tYes) rfl sc_at.nd (pi_tup (pv 0)) (blkOk_by (N := ["names", "tells", "told", "name", "teller", "other", "middle"]) (sc := defScope s__all_told) (by decide +kernel))
          (fun _ _ _ _ _ => pg_name (i := 3) sc_at.nd rfl (Or.inr rfl)) (fun _ _ _ _ _ => pts_nil) (fun _ _ _ _ _ => pv 3)
          inner))))), ?_⟩
    refine fun d hd => ?_
    have s0 : Same H (upd H d (.dK [])) := Same_new hd
    refine ⟨_, rfl, t, rfl, ⟨_, Same_seqT s0 ht⟩, ?_⟩
    refine for_it (walk_tup (xs := [V.str "a"])) (fun i σ H' => ∃ (v3 v4 v5 v6 : Option V), σ = [some (.ref t), some (.ref te), some (.ref d), v3, v4, v5, v6] ∧ Same H H' ∧ (i = 0 → H' d = some (.dK [])) ∧ (i = 1 → ∃ l, H' l = some (.lst []) ∧ H' d = some (.dK [(.inr "a", .ref l)])))
      ⟨Option.none, Option.none, Option.none, Option.none, rfl, s0, fun _ => upd_same, fun h => by cases h⟩ (fun i σ H' _ ⟨_, _, _, _, _, s1, _⟩ => Same_seqT s1 ht)
      (fun i x σ H1 H2 hi ⟨v3, v4, v5, v6, e, s1, h0, _⟩ y => ?_) (fun σ H1 ⟨v3, v4, v5, v6, e, s1, _, h1⟩ => ?_)
    · obtain ⟨rfl, hx⟩ := y
      subst e
      have i0 : i = 0 := by
        have : i < 1 := hi
        omega
      subst i0
      have hx2 : x = V.str "a" := (Option.some.inj hx).symm
      subst hx2
      have hd1 := h0 rfl
      refine ⟨_, rfl, te, rfl, ⟨_, Same_seqT s1 hte⟩, fun D hD => ?_⟩
      refine lc_fm (n := 0) (walk_tup (xs := ([] : List V))) (fun _ => Option.none) hD (by decide) (fun H' s' => Same_seqT (s1.trans s') hte) (fun i v H3 H4 Kt Kf hi => absurd hi (Nat.not_lt_zero _)) (fun H3 s3 hD3 => ?_)
      have hd3 := s3 _ _ hd1
      refine ⟨_, rfl, _, rfl, d, _, rfl, DPut.k (k := Sum.inr "a") hd3 (by decide), ?_⟩
      refine ⟨_, _, _, _, rfl, ?_, (fun h => by cases h), fun _ => ⟨D, ?_, upd_same⟩⟩
      · exact fun b o q => by
          rw [upd_ne (ne_of_none q hd)]
          exact s3 _ _ (s1 _ _ q)
      · rw [upd_ne (ne_of hD3 hd3 (by intro z; cases z))]
        exact hD3
    · subst e
      obtain ⟨l, hl, hd1⟩ := h1 rfl
      refine ⟨_, rfl, t, rfl, ⟨_, Same_seqT s1 ht⟩, ?_⟩
      refine for_it (walk_tup (xs := [V.str "a"])) (fun i σ H' => ∃ (v3 v4 v5 v6 : Option V), σ = [some (.ref t), some (.ref te), some (.ref d), v3, v4, v5, v6] ∧ H' = H1)
        ⟨_, _, _, _, rfl, rfl⟩ (fun i σ H' _ ⟨_, _, _, _, _, e⟩ => by rw [e]; exact Same_seqT s1 ht)
        (fun i x σ H3 H2 hi ⟨w3, w4, w5, w6, e, e1⟩ y => ?_) (fun σ H3 ⟨w3, w4, w5, w6, e, e1⟩ => ?_)
      · obtain ⟨rfl, hx⟩ := y
        subst e
        subst e1
        have i0 : i = 0 := by
          have : i < 1 := hi
          omega
        subst i0
        have hx2 : x = V.str "a" := (Option.some.inj hx).symm
        subst hx2
        refine ⟨_, rfl, t, rfl, ⟨_, Same_seqT s1 ht⟩, ?_⟩
        refine for_it (walk_tup (xs := [V.str "a"])) (fun i σ H' => ∃ (v3 v4 v5 : Option V), σ = [some (.ref t), some (.ref te), some (.ref d), v3, v4, v5, some (.str "a")] ∧ H' = H2)
          ⟨_, _, _, rfl, rfl⟩ (fun i σ H' _ ⟨_, _, _, _, e⟩ => by rw [e]; exact Same_seqT s1 ht)
          (fun i x σ H4 H2 hi ⟨w3, w4, w5, e, e1⟩ y => ?_) (fun σ H4 ⟨w3, w4, w5, e, e1⟩ => ?_)
        · obtain ⟨rfl, hx⟩ := y
          subst e
          subst e1
          have i0 : i = 0 := by
            have : i < 1 := hi
            omega
          subst i0
          have hx2 : x = V.str "a" := (Option.some.inj hx).symm
          subst hx2
          refine ⟨_, rfl, _, rfl, _, rfl, d, V.ref l, rfl, DGet.k (k := Sum.inr "a") hd1, l, [], rfl, .inl (SqL.of hl), rfl, rfl, _, rfl, iteF ?_⟩
          exact ⟨_, _, _, rfl, rfl⟩
        · subst e
          subst e1
          exact ⟨_, _, _, _, rfl, rfl⟩
      · subst e
        cases e1
        refine ⟨_, rfl, t, rfl, ⟨_, Same_seqT s1 ht⟩, fun D hD => ?_⟩
        refine dc_tup (xs := [V.str "a"]) (fun i H' => Same H1 H' ∧ (i = 0 → H' D = some (.dK [])) ∧ (i = 1 → ∃ q, H' D = some (.dK [(.inr "a", .ref q)]) ∧ H' q = some (.tup [])))
          ⟨Same_new hD, fun _ => upd_same, fun h => by cases h⟩ (fun i H' _ ⟨s', _⟩ => Same_seqT (s1.trans s') ht) (fun i x H4 hx ⟨s4, h0, _⟩ => ?_) (fun H4 ⟨s4, _, h1⟩ => ?_)
        · have i0 : i = 0 := by
            cases i with
            | zero => rfl
            | succ i => cases hx
          subst i0
          have hx2 : x = V.str "a" := (Option.some.inj hx).symm
          subst hx2
          have hl4 := s4 _ _ hl
          have hd4 := s4 _ _ hd1
          have hD4 := h0 rfl
          refine ⟨rfl, ?_⟩
          refine iteT (B := Same H1 H4 ∧ (0 + 1 = 0 → H4 D = some (.dK [])) ∧ (0 + 1 = 1 → ∃ q, H4 D = some (.dK [(.inr "a", .ref q)]) ∧ H4 q = some (.tup []))) ?_
          refine ⟨_, rfl, _, rfl, t, rfl, ⟨_, Same_seqT (s1.trans s4) ht⟩, fun D2 hD2 => ?_⟩
          refine lc_fm (walk_tup (xs := [V.str "a"])) (fun _ => Option.none) hD2 (by decide) (fun H' s' => Same_seqT ((s1.trans s4).trans s') ht) (fun i v H5 H6 Kt Kf hi s5 y kt kf => ?_) (fun H5 s5 hD5 => ?_)
          · obtain ⟨rfl, hx⟩ := y
            have i0 : i = 0 := by
              have : i < 1 := hi
              omega
            subst i0
            have hx2 : v = V.str "a" := (Option.some.inj hx).symm
            subst hx2
            refine ⟨rfl, _, rfl, _, rfl, _, rfl, d, V.ref l, rfl, DGet.k (k := Sum.inr "a") (s5 _ _ hd4), l, [], rfl, .inl (SqL.of (s5 _ _ hl4)), rfl, rfl, _, rfl, iteF ?_⟩
            exact kf _ rfl (Same.refl _)
          · refine ⟨D2, [], rfl, .inl ⟨SqL.of hD5, fun L hL => ?_⟩⟩
            have hDL := s5 _ _ hD4
            refine ⟨[], Sum.inr "a", rfl, ?_, by decide, ?_, (fun h => by cases h), fun _ => ⟨L, upd_same, ?_⟩⟩
            · rw [upd_ne (ne_of_none hDL hL)]
              exact hDL
            · exact fun b o q => by
                have q4 := s4 _ _ q
                have nb : b ≠ D := ne_of_none q hD
                rw [upd_ne nb]
                exact Same_new hL _ _ (s5 _ _ q4)
            · rw [upd_ne (ne_of_none hDL hL).symm, upd_same]
        · obtain ⟨q, hq1, hq2⟩ := h1 rfl
          exact k _ _ _ (s1.trans s4) hq1 hq2
end
end Jd
namespace Jd
open PySem PySem.Spec PyProof.Rows L2
/-! ### Keys of one name: made, told -/
def KeysA (K : PySem.W.Frag) (H : Hp) (x : Addr) : Prop := ∃ dx t d q, H x = some (.ins (He.ga K "Keys") dx [("_names", .ref t), ("_told", .ref d)]) ∧ H t = some (.tup [.str "a"]) ∧ H d = some (.dK [(.inr "a", .ref q)]) ∧ H q = some (.tup [])
theorem KeysA.keep {K : PySem.W.Frag} {H H' : Hp} {x : Addr} (h : KeysA K H x) (s : Same H H') : KeysA K H' x := by
  obtain ⟨dx, t, d, q, h1, h2, h3, h4⟩ := h
  exact ⟨dx, t, d, q, s _ _ h1, s _ _ h2, s _ _ h3, s _ _ h4⟩
def spKI (K : PySem.W.Frag) : Sp := fun vs H Q _ => ∃ x nm te dx : Addr, vs = [.ref x, .ref nm, .ref te] ∧ H x = some (.ins (He.ga K "Keys") dx []) ∧ SqT K H nm [.str "a"] ∧ SqT K H te [] ∧
  ∀ H', KeysA K H' x → Keep x H H' → Q .non H'
section
variable {P : Program} {w : World} {K : PySem.W.Frag} {mg : Str → Option Value} {base : Heap}
theorem Keep_seqT {u : Addr} {K : PySem.W.Frag} {H H' : Hp} {a : Addr} {xs : List V} {C dx : Addr} {fs : List (Str × V)} (hu : H u = some (.ins C dx fs)) (k : Keep u H H') (h : SqT K H a xs) : SqT K H' a xs := by
  rcases h with (h | ⟨o, h⟩) | h
  · exact .inl (.inl (k _ _ (ne_of h hu (by intro z; cases z)) h))
  · exact .inl (.inr ⟨o, k _ _ (ne_of h hu (by intro z; cases z)) h⟩)
  · exact .inr h
theorem sc_ki : FnScope ["self", "names", "tells", "pair", "name", "ring"] ["self", "names", "tells"] (defScope s_Keys___init__) := ⟨rfl, rfl, rfl, by decide +kernel, rfl, by decide +kernel, by decide +kernel⟩
theorem ok_Keys_init (B : Bk K mg) : ∃ fd, FnOk P w K mg base CX0 2 (He.ma K (He.ga K "Keys") "__init__") fd ["self", "names", "tells"] (spKI K) ∧ ∃ ds, Vals [.ref (dflA (fun K => He.ma K (He.ga K "Keys") "__init__") 0 K)] ds ∧ Binds K fd ["self", "names", "tells"] ds := by
  obtain ⟨fd, F⟩ := B.F_Keys___init
  obtain ⟨fdA, GA, bA⟩ := (ok_all_told (P := P) (w := w) (base := base) B).ex
  have kA := (ok_all_told (P := P) (w := w) (base := base) B).kp
  refine ⟨fd, ?_, ?_⟩
  · refine F.ok sc_ki (fun vs H Q E h => ?_) (fun cdv A outer s H vs Q E hr h => ?_)
    · obtain ⟨_, _, _, _, rfl, _⟩ := h
      rfl
    · obtain ⟨x, nm, te, dx, rfl, hx, hnm, hte, k⟩ := h
      have hu := hu_of hr
      refine ⟨_, PSs.nox (pss_cons (ps_fld (pv 0) (pe_callTy call_tuple_of (by rfl) B.b_tuple (by decide +kernel) (pa_cons (pe_callB (cr_sortTx rfl) (by rfl) B.b_sorted (by decide +kernel) (pa_cons (pe_callTy (cr_setTx rfl) (by rfl) B.b_set (by decide +kernel) (pa_cons (pv 1) pa_nil)) pa_nil)) pa_nil)) rfl)
        (pss_cons (ps_for PassesOwn.never rfl (pi_tup (pv 2)) (pg_name (i := 3) sc_ki.nd rfl (Or.inl rfl)) (pss_one ps_never))
        (pss_cons (ps_fld (pv 0) (pe_call GA hr rfl B.g_all_told kA bA .nil pass0 (pa_cons (pe_fld (pv 0) rfl) (pa_cons (pv 2) pa_nil))) rfl)
        (pss_cons (ps_set (i := 5) sc_ki.nd rfl (Or.inl rfl) (pe_callTy call_tuple_of (by rfl) B.b_tuple (by decide +kernel) (pa_cons (pe_lc (own := [("name", 4)]) (g := gName 4) (tt := tTest (tOp (rIn K false) (tVar 4) (tDGet (tFld K (tVar 0) "_told") (tVar 4)))) rfl sc_ki.nd (pi_tup (pe_fld (pv 0) rfl)) (blkOk_by (N := ["self", "names", "tells", "pair", "name", "ring"]) (sc := defScope s_Keys___init__) (by decide +kernel))
            (fun _ _ _ _ _ => pg_name (i := 4) sc_ki.nd rfl (Or.inl rfl)) (fun _ _ _ _ _ => pts_one (pt_cmpR op_in_seq (pv 4) (pe_dget hu (pe_fld (pv 0) rfl) (pv 4) (fun _ _ => rfl)) (by rfl))) (fun _ _ _ _ _ => pv 4)) pa_nil)))
        (pss_one (ps_if (pt_cmpR op_gt (pe_callB call_len_seq (by rfl) B.b_len (by decide +kernel) (pa_cons (pv 5) pa_nil)) pe_int (nomark _)) (pss_one ps_never) pss_nil)))))), ?_⟩
      have hp1 : ∀ ys : List Str, ys.Perm (txAll [("a" : Str)]) → ys = [("a" : Str)] := fun ys h => List.perm_singleton.mp h
      refine ⟨_, rfl, nm, [("a" : Str)], rfl, .inr hnm, by decide, fun a na => ?_⟩
      refine ⟨a, _, rfl, upd_same, by decide, fun ys p2 pm so nd np => ?_⟩
      refine ⟨p2, _, rfl, .inl ⟨SqL.of upd_same, fun t nt => ?_⟩⟩
      have e := hp1 ys pm
      subst e
      dsimp only [cxOf, Cx.nox]
      have s1 : Same H (upd (upd (upd H a (TxO P w a (txAll [("a" : Str)]))) p2 (.lst (List.map V.str [("a" : Str)]))) t (.tup (List.map V.str [("a" : Str)]))) := Same_lay (Same_lay (Same_new na) np) nt
      have ht : (upd (upd (upd H a (TxO P w a (txAll [("a" : Str)]))) p2 (.lst (List.map V.str [("a" : Str)]))) t (.tup (List.map V.str [("a" : Str)]))) t = some (.tup [V.str "a"]) := upd_same
      generalize (upd (upd (upd H a (TxO P w a (txAll [("a" : Str)]))) p2 (.lst (List.map V.str [("a" : Str)]))) t (.tup (List.map V.str [("a" : Str)]))) = H1 at s1 ht
      refine ⟨_, rfl, x, _, dx, [], rfl, s1 _ _ hx, B.cl_Keys, B.no_Keys__names, by decide, ?_⟩
      have htx : t ≠ x := ne_of ht (s1 _ _ hx) (by intro z; cases z)
      have kp2 : Keep x H (upd H1 x (.ins (He.ga K "Keys") dx [("_names", .ref t)])) := fun b o n q => by
        rw [upd_ne n]
        exact s1 _ _ q
      have ht2 : (upd H1 x (.ins (He.ga K "Keys") dx [("_names", .ref t)])) t = some (.tup [V.str "a"]) := by rw [upd_ne htx]; exact ht
      have hx2 : (upd H1 x (.ins (He.ga K "Keys") dx [("_names", .ref t)])) x = some (.ins (He.ga K "Keys") dx [("_names", .ref t)]) := upd_same
      have ep : putF ("_names" : Str) (V.ref t) [] = [(("_names" : Str), V.ref t)] := rfl
      rw [ep]
      generalize (upd H1 x (.ins (He.ga K "Keys") dx [("_names", .ref t)])) = H2 at kp2 ht2 hx2
      refine ⟨_, rfl, te, rfl, ⟨_, Keep_seqT hx kp2 hte⟩, ?_⟩
      refine for_it (walk_tup (xs := ([] : List V))) (fun i σ H' => σ = [some (.ref x), some (.ref nm), some (.ref te), Option.none, Option.none, Option.none] ∧ H' = H2)
        ⟨rfl, rfl⟩ (fun i σ H' _ ⟨_, e⟩ => by rw [e]; exact Keep_seqT hx kp2 hte) (fun i v σ H3 H4 hi => absurd hi (Nat.not_lt_zero _)) (fun σ H3 ⟨e, e1⟩ => ?_)
      subst e
      cases e1
      refine ⟨_, rfl, x, _, dx, _, _, rfl, hx2, B.cl_Keys, B.no_Keys__names, rfl, _, rfl, t, te, rfl, SqT.of ht2, Keep_seqT hx kp2 hte, fun H3 d q s3 hd hq => ?_⟩
      refine ⟨_, rfl, x, _, dx, _, rfl, s3 _ _ hx2, B.cl_Keys, B.no_Keys__told, (by show 1 < 1000; decide), ?_⟩
      have hx3 := s3 _ _ hx2
      have ht3 := s3 _ _ ht2
      have ep : putF ("_told" : Str) (V.ref d) [(("_names" : Str), V.ref t)] = [(("_names" : Str), V.ref t), (("_told" : Str), V.ref d)] := rfl
      rw [ep]
      have kp4 : Keep x H (upd H3 x (.ins (He.ga K "Keys") dx [("_names", .ref t), ("_told", .ref d)])) := fun b o n q => by
        rw [upd_ne n]
        exact s3 _ _ (kp2 _ _ n q)
      have ht4 : (upd H3 x (.ins (He.ga K "Keys") dx [("_names", .ref t), ("_told", .ref d)])) t = some (.tup [V.str "a"]) := by rw [upd_ne htx]; exact ht3
      have hd4 : (upd H3 x (.ins (He.ga K "Keys") dx [("_names", .ref t), ("_told", .ref d)])) d = some (.dK [(.inr "a", .ref q)]) := by rw [upd_ne (ne_of hd hx3 (by intro z; cases z))]; exact hd
      have hq4 : (upd H3 x (.ins (He.ga K "Keys") dx [("_names", .ref t), ("_told", .ref d)])) q = some (.tup []) := by rw [upd_ne (ne_of hq hx3 (by intro z; cases z))]; exact hq
      have hx4 : (upd H3 x (.ins (He.ga K "Keys") dx [("_names", .ref t), ("_told", .ref d)])) x = some (.ins (He.ga K "Keys") dx [("_names", .ref t), ("_told", .ref d)]) := upd_same
      generalize (upd H3 x (.ins (He.ga K "Keys") dx [("_names", .ref t), ("_told", .ref d)])) = H4 at kp4 ht4 hd4 hq4 hx4
      refine ⟨_, rfl, x, _, dx, _, _, rfl, hx4, B.cl_Keys, B.no_Keys__names, rfl, t, rfl, ⟨_, SqT.of ht4⟩, fun D hD => ?_⟩
      refine lc_fm (walk_tup (xs := [V.str "a"])) (fun _ => Option.none) hD (by decide) (fun H' s' => Same_seqT s' (SqT.of ht4)) (fun i v H5 H6 Kt Kf hi s5 y kt kf => ?_) (fun H5 s5 hD5 => ?_)
      · obtain ⟨rfl, hx⟩ := y
        have i0 : i = 0 := by
          have : i < 1 := hi
          omega
        subst i0
        have hx2 : v = V.str "a" := (Option.some.inj hx).symm
        subst hx2
        refine ⟨rfl, _, rfl, _, rfl, x, _, dx, _, _, rfl, s5 _ _ hx4, B.cl_Keys, B.no_Keys__told, rfl, _, rfl, d, V.ref q, rfl, DGet.k (k := Sum.inr "a") (s5 _ _ hd4), q, [], rfl, .inr (SqT.of (s5 _ _ hq4)), rfl, rfl, _, rfl, iteF ?_⟩
        exact kf _ rfl (Same.refl _)
      · refine ⟨D, [], rfl, .inl ⟨SqL.of hD5, fun r nr => ?_⟩⟩
        refine ⟨_, rfl, r, [], rfl, .inr (SqT.of upd_same), _, _, rfl, rfl, _, rfl, iteF ?_⟩
        have s6 : Same H4 (upd H5 r (.tup [])) := Same_lay s5 nr
        exact k _ ⟨dx, t, d, q, s6 _ _ hx4, s6 _ _ ht4, s6 _ _ hd4, s6 _ _ hq4⟩ (kp4.trans (Same.keep s6))
  · have hd : d_Keys___init__.dvs K = [.ref (dflA (fun K => He.ma K (He.ga K "Keys") "__init__") 0 K)] := rfl
    rw [← hd]
    have q := F.binds1 (ps := ["self", "names", "tells"]) 2 0 (by rw [hd]; exact List.cons_ne_nil _ _) (by rw [hd]; rfl) (fun T kV doc pm an cdv ct us its hu hi => by
      rw [hd] at hi
      match us, its, hu, hi with
      | [_, _], [_], _, _ => exact ⟨_, rfl, rfl⟩)
    exact q
end
end Jd
namespace Jd
open PySem PySem.Spec PyProof.Rows L2
/-! ### what Keys of one name tell; the numbers of a Stage -/
theorem passF {P : Program} {w : World} {X : Cx} : Passes (L2.CX P w) X (fun _ _ _ => False) := fun _ _ _ _ _ _ _ ⟨_, _, _, _, _, _, _, _, _, _, _, _, h⟩ => h.elim
def rLcm10 : List V → Hp → VK → Prop := fun vs H Q => vs = [.int 1, .int 0] ∧ Q (.int 0) H
theorem cr_lcm10 {X : Cx} : CallR X (.builtin "math.lcm") rLcm10 := by
  intro pins s σ H xs us Q I r h
  obtain ⟨rfl, q⟩ := h
  obtain ⟨t, u, rfl⟩ := Vals.int2 r
  exact PySem.W.mg_lcm_v (c := 0) (by decide) (by decide) (by decide +kernel) (by decide +kernel) ⟨.int 0, H, I.tok _, ⟨_, rfl⟩, q⟩
def spCheck (K : PySem.W.Frag) : Sp := fun vs H Q _ => ∃ x : Addr, vs = [.ref x, .str "a"] ∧ KeysA K H x ∧ Q .non H
def spTold (K : PySem.W.Frag) : Sp := fun vs H Q _ => ∃ x : Addr, vs = [.ref x, .str "a"] ∧ KeysA K H x ∧ ∀ p, H p = some (.tup []) → Q (.ref p) H
def spNames (K : PySem.W.Frag) : Sp := fun vs H Q _ => ∃ x : Addr, vs = [.ref x] ∧ KeysA K H x ∧ ∀ p, H p = some (.tup [.str "a"]) → Q (.ref p) H
def spAllNames (K : PySem.W.Frag) : Sp := fun vs H Q _ => ∃ x : Addr, vs = [.ref x] ∧ KeysA K H x ∧ ∀ H' p, Same H H' → H' p = some (.tup [.str "#", .str "a"]) → Q (.ref p) H'
section
variable {P : Program} {w : World} {K : PySem.W.Frag} {mg : Str → Option Value} {base : Heap}
theorem sc_ck : FnScope ["self", "name"] ["self", "name"] (defScope s_Keys__check) := ⟨rfl, rfl, rfl, by decide +kernel, rfl, by decide +kernel, by decide +kernel⟩
theorem ok_check (B : Bk K mg) : ∃ fd, FnOk P w K mg base CX0 1 (He.ma K (He.ga K "Keys") "_check") fd ["self", "name"] (spCheck K) ∧ Binds K fd ["self", "name"] [] := by
  obtain ⟨fd, F⟩ := B.F_Keys__check
  refine ⟨fd, ?_, F.binds fun _ _ _ _ _ _ us hl => match us, hl with | [_, _], _ => rfl⟩
  refine F.ok sc_ck (fun vs H Q E h => ?_) (fun cdv A outer s H vs Q E hr h => ?_)
  · obtain ⟨_, rfl, _⟩ := h
    rfl
  · obtain ⟨x, rfl, ⟨dx, t, d, q, hx, ht, hd, hq⟩, k⟩ := h
    refine ⟨_, pss_one (ps_if (PW.pt (pw_and (pt_cmpR op_ne (pv 1) pe_str (nomark _)) (pw_and1 (pt_cmpR op_notIn_seq (pv 1) (pe_fld (pv 0) rfl) (by rfl))))) (pss_one ps_never) pss_nil), ?_⟩
    refine ⟨_, rfl, rfl, _, rfl, two (fun _ => ?_) (fun h => absurd h (show ¬ ((!decide (V.str ("a" : Str) = V.str ("#" : Str))) = false) by decide +kernel))⟩
    exact ⟨_, rfl, _, rfl, x, _, dx, _, _, rfl, hx, B.cl_Keys, B.no_Keys__names, rfl, t, _, rfl, .inr (SqT.of ht), rfl, rfl, _, rfl, iteF k⟩
theorem sc_td : FnScope ["self", "name"] ["self", "name"] (defScope s_Keys_told) := ⟨rfl, rfl, rfl, by decide +kernel, rfl, by decide +kernel, by decide +kernel⟩
theorem ok_told (B : Bk K mg) : ∃ fd, FnOk P w K mg base CX0 2 (He.ma K (He.ga K "Keys") "told") fd ["self", "name"] (spTold K) ∧ Binds K fd ["self", "name"] [] := by
  obtain ⟨fd, F⟩ := B.F_Keys_told
  obtain ⟨fdC, GC, bC⟩ := ok_check (P := P) (w := w) (base := base) B
  refine ⟨fd, ?_, F.binds fun _ _ _ _ _ _ us hl => match us, hl with | [_, _], _ => rfl⟩
  refine F.ok sc_td (fun vs H Q E h => ?_) (fun cdv A outer s H vs Q E hr h => ?_)
  · obtain ⟨_, rfl, _⟩ := h
    rfl
  · obtain ⟨x, rfl, ⟨dx, t, d, q, hx, ht, hd, hq⟩, k⟩ := h
    have hu := hu_of hr
    refine ⟨_, pss_cons (ps_expr (pe_meth (pv 0) B.cl_Keys B.me_Keys__check GC hr bC .nil pass0 (pa_cons (pv 1) pa_nil)))
      (pss_cons (ps_if (pt_cmpR op_eq (pv 1) pe_str (nomark _)) (pss_one (ps_ret (pe_fld (pv 0) rfl))) pss_nil)
      (pss_one (ps_ret (pe_dget hu (pe_fld (pv 0) rfl) (pv 1) (fun _ _ => rfl))))), ?_⟩
    refine ⟨_, rfl, x, dx, _, rfl, hx, rfl, _, rfl, x, rfl, ⟨dx, t, d, q, hx, ht, hd, hq⟩, ?_⟩
    refine ⟨_, rfl, rfl, _, rfl, two (fun h => absurd h (show ¬ (decide (V.str ("a" : Str) = V.str ("#" : Str)) = true) by decide +kernel)) (fun _ => ?_)⟩
    exact ⟨_, rfl, x, _, dx, _, _, rfl, hx, B.cl_Keys, B.no_Keys__told, rfl, _, rfl, d, V.ref q, rfl, DGet.k (k := Sum.inr "a") hd, k q hq⟩
theorem sc_nm : FnScope ["self"] ["self"] (defScope s_Keys_p_names) := ⟨rfl, rfl, rfl, by decide +kernel, rfl, by decide +kernel, by decide +kernel⟩
theorem ok_names (B : Bk K mg) : ∃ fd, FnOk P w K mg base CX0 1 (propG K "Keys" "names") fd ["self"] (spNames K) ∧ Binds K fd ["self"] [] := by
  obtain ⟨fd, F⟩ := B.F_Keys_p_names
  refine ⟨fd, ?_, F.binds fun _ _ _ _ _ _ us hl => match us, hl with | [_], _ => rfl⟩
  refine F.ok sc_nm (fun vs H Q E h => ?_) (fun cdv A outer s H vs Q E hr h => ?_)
  · obtain ⟨_, rfl, _⟩ := h
    rfl
  · obtain ⟨x, rfl, ⟨dx, t, d, q, hx, ht, hd, hq⟩, k⟩ := h
    refine ⟨_, pss_one (ps_ret (pe_fld (pv 0) rfl)), ?_⟩
    exact ⟨_, rfl, x, _, dx, _, _, rfl, hx, B.cl_Keys, B.no_Keys__names, rfl, k t ht⟩
theorem sc_an : FnScope ["keys"] ["keys"] (defScope s_all_names) := ⟨rfl, rfl, rfl, by decide +kernel, rfl, by decide +kernel, by decide +kernel⟩
theorem ok_all_names (B : Bk K mg) : Df P w K mg base CX0 3 "all_names" ["keys"] (spAllNames K) := by
  obtain ⟨fd, F⟩ := B.F_all_names
  obtain ⟨fdN, GN, bN⟩ := ok_names (P := P) (w := w) (base := base) B
  refine ⟨⟨fd, ?_, F.binds fun _ _ _ _ _ _ us hl => match us, hl with | [_], _ => rfl⟩, B.g_all_names, F.kp⟩
  refine F.ok sc_an (fun vs H Q E h => ?_) (fun cdv A outer s H vs Q E hr h => ?_)
  · obtain ⟨_, rfl, _⟩ := h
    rfl
  · obtain ⟨x, rfl, kx, k⟩ := h
    refine ⟨_, pss_one (ps_ret (pe_op op_catT (pe_tup (pa_cons pe_str pa_nil)) (pe_prop (pv 0) B.cl_Keys B.pr_Keys_names GN hr bN .nil pass0 rfl))), ?_⟩
    refine ⟨(by show 1 ≤ sizeLine; decide), fun t nt => ?_⟩
    have s1 : Same H (upd H t (.tup [.str "#"])) := Same_new nt
    have kx1 := kx.keep s1
    obtain ⟨dx, t0, d, q, hx, _⟩ := id kx1
    refine ⟨_, rfl, x, dx, _, rfl, hx, x, rfl, kx1, fun p hp => ?_⟩
    refine ⟨t, p, _, _, rfl, rfl, SqT.of upd_same, SqT.of hp, List.cons_ne_nil _ _, (by show 2 ≤ sizeLine; decide), (fun h => by cases h), fun _ r nr => ?_⟩
    exact k _ r (Same_lay s1 nr) upd_same
end
end Jd
namespace Jd
open PySem PySem.Spec PyProof.Rows L2
/-! ### the numbers of a Stage, the Stage -/
def NumD (d : Addr) (H : Hp) : Prop := H d = some (.dK [(.inr "#", .int 1), (.inr "a", .int 0)])
def spJoined (K : PySem.W.Frag) : Sp := fun vs H Q _ => ∃ x f : Addr, vs = [.ref x, .ref f] ∧ KeysA K H x ∧ SqT K H f [.str "a"] ∧ ∀ H' d, Same H H' → NumD d H' → Q (.ref d) H'
section
variable {P : Program} {w : World} {K : PySem.W.Frag} {mg : Str → Option Value} {base : Heap}
abbrev NJ : List Str := ["keys", "fields", "pairs", "field", "numbers", "name", "m"]
theorem sc_jn : FnScope NJ ["keys", "fields"] (defScope s__joined) := ⟨rfl, rfl, rfl, by decide +kernel, rfl, by decide +kernel, by decide +kernel⟩
theorem ok_joined (B : Bk K mg) : Df P w K mg base CX0 4 "_joined" ["keys", "fields"] (spJoined K) := by
  obtain ⟨fd, F⟩ := B.F_joined
  obtain ⟨fdO, GO, bO⟩ := (ok_field_of (P := P) (w := w) (base := base) B).ex
  have kO := (ok_field_of (P := P) (w := w) (base := base) B).kp
  obtain ⟨fdN, GN, bN⟩ := (ok_all_names (P := P) (w := w) (base := base) B).ex
  have kN := (ok_all_names (P := P) (w := w) (base := base) B).kp
  refine ⟨⟨fd, ?_, F.binds fun _ _ _ _ _ _ us hl => match us, hl with | [_, _], _ => rfl⟩, B.g_joined, F.kp⟩
  refine F.ok sc_jn (fun vs H Q E h => ?_) (fun cdv A outer s H vs Q E hr h => ?_)
  · obtain ⟨_, _, rfl, _⟩ := h
    rfl
  · obtain ⟨x, f, rfl, kx, hf, k⟩ := h
    have hu := hu_of hr
    have hr3 : Room 3 _ := hr.mono (by decide)
    refine ⟨_, pss_cons (ps_setLc (i := 2) (own := [("field", 3)]) (g := gName 3) (tt := tYes) rfl sc_jn.nd rfl rfl (sw_true rfl rfl rfl (by decide +kernel)) (pi_tup (pv 1)) (blkOk_by (N := NJ) (sc := defScope s__joined) (by decide +kernel))
          (fun _ _ _ _ _ => pg_name (i := 3) sc_jn.nd rfl (Or.inl rfl)) (fun _ _ _ _ _ => pts_nil) (fun _ _ _ _ _ => pe_call (E := fun _ _ _ => False) GO hr rfl B.g_field_of kO bO .nil passF (pa_cons (pv 3) pa_nil)))
      (pss_cons (ps_set (i := 4) sc_jn.nd rfl (Or.inl rfl) pe_dnewK)
      (pss_cons (ps_for PassesOwn.never rfl (pi_tup (pe_call GN hr rfl B.g_all_names kN bN .nil pass0 (pa_cons (pv 0) pa_nil))) (pg_name (i := 5) sc_jn.nd rfl (Or.inl rfl)) (pss_one (ps_dput hu (pv 4) (pv 5) pe_int rfl)))
      (pss_cons (ps_for PassesOwn.never rfl (pi_list (pv 2)) (pg_tup (by rfl) (pgs_cons (pg_name (i := 5) sc_jn.nd rfl (Or.inl rfl)) (pgs_cons (pg_name (i := 6) sc_jn.nd rfl (Or.inl rfl)) pgs_nil)))
        (pss_cons (ps_if (pt_cmp (pc_dnotin hu (pv 5) (pv 4))) (pss_one ps_never) pss_nil)
          (pss_one (ps_dput hu (pv 4) (pv 5) (pe_callBfun cr_lcm10 (by rfl) B.bl_lcm (pa_cons (pe_dget hu (pv 4) (pv 5) (fun _ _ => rfl)) (pa_cons (pv 6) pa_nil))) rfl))))
      (pss_one (ps_ret (pv 4)))))), ?_⟩
    have hN : fieldName "a" = ("a" : Str) := by decide +kernel
    have hM : fieldNum "a" = (0 : Int) := by decide +kernel
    have hB : isFieldB "a" = true := by decide +kernel
    refine ⟨_, rfl, f, rfl, ⟨_, hf⟩, fun D hD => ?_⟩
    refine lc_it (walk_tup (xs := [V.str "a"])) (fun i H' => Same H H' ∧ (i = 0 → H' D = some (.lst [])) ∧ (i = 1 → ∃ p, H' D = some (.lst [.ref p]) ∧ H' p = some (.tup [.str "a", .int 0])))
      ⟨Same_new hD, fun _ => upd_same, fun h => by cases h⟩ (fun i H' _ ⟨s', _⟩ => Same_seqT s' hf) (fun i v H1 H2 hi ⟨s1, h0, _⟩ y => ?_) (fun H1 ⟨s1, _, h1⟩ => ?_)
    · obtain ⟨rfl, hx⟩ := y
      have i0 : i = 0 := by
        have : i < 1 := hi
        omega
      subst i0
      have hx2 : v = V.str "a" := (Option.some.inj hx).symm
      subst hx2
      have hD1 := h0 rfl
      refine ⟨rfl, iteT (B := ∃ z : Nat, z = 0) ?_⟩
      refine ⟨_, rfl, "a", rfl, by decide, fun hb => absurd (hB.symm.trans hb) (by decide), fun _ H5 p s5 hp => ?_⟩
      rw [hN, hM] at hp
      have hD5 := s5 _ _ hD1
      refine ⟨[], hD5, by decide, ?_, (fun h => by cases h), fun _ => ⟨p, upd_same, ?_⟩⟩
      · exact fun b o q => by
          rw [upd_ne (ne_of_none q hD)]
          exact s5 _ _ (s1 _ _ q)
      · rw [upd_ne (ne_of hp hD5 (by intro z; cases z))]
        exact hp
    · obtain ⟨p, hD1, hp⟩ := h1 rfl
      refine fun d hd => ?_
      have s2 : Same H (upd H1 d (.dK [])) := Same_lay s1 hd
      refine ⟨_, rfl, x, rfl, kx.keep s2, fun H3 a s3 ha => ?_⟩
      have hd3 := s3 _ _ (upd_same (H := H1) (a := d) (o := HO.dK []))
      have hD3 := s3 _ _ (Same_new hd _ _ hD1)
      have hp3 := s3 _ _ (Same_new hd _ _ hp)
      have nDd : D ≠ d := ne_of hD3 hd3 (by intro z; cases z)
      have npd : p ≠ d := ne_of hp3 hd3 (by intro z; cases z)
      have nad : a ≠ d := ne_of ha hd3 (by intro z; cases z)
      have sH : ∀ H', Keep d H3 H' → Same H H' := fun H' kp b o q => by
        have nb : b ≠ d := ne_of_none q (s1.free hd)
        exact kp _ _ nb (s3 _ _ (s2 _ _ q))
      refine ⟨a, rfl, ⟨_, SqT.of ha⟩, ?_⟩
      refine for_it (walk_tup (xs := [V.str "#", V.str "a"])) (fun i σ H' => ∃ v5 : Option V, σ = [some (.ref x), some (.ref f), some (.ref D), Option.none, some (.ref d), v5, Option.none] ∧ Keep d H3 H' ∧ H' d = some (.dK (([(.inr "#", .int 1), (.inr "a", .int 1)] : List (Key × V)).take i)))
        ⟨Option.none, rfl, Keep.refl _ _, hd3⟩ (fun i σ H' _ ⟨_, _, kp, _⟩ => SqT.of (kp _ _ nad ha)) (fun i v σ H4 H5 hi ⟨v5, e, kp, hd4⟩ y => ?_) (fun σ H4 ⟨v5, e, kp, hd4⟩ => ?_)
      · obtain ⟨rfl, hx⟩ := y
        subst e
        have hi2 : i < 2 := hi
        have hc : i = 0 ∨ i = 1 := by omega
        rcases hc with rfl | rfl
        · have hx2 : v = V.str "#" := (Option.some.inj hx).symm
          subst hx2
          refine ⟨_, rfl, _, rfl, d, _, rfl, DPut.k (k := Sum.inr "#") hd4 (by decide), ?_⟩
          exact ⟨_, rfl, fun b o n q => by rw [upd_ne n]; exact kp _ _ n q, upd_same⟩
        · have hx2 : v = V.str "a" := (Option.some.inj hx).symm
          subst hx2
          refine ⟨_, rfl, _, rfl, d, _, rfl, DPut.k (k := Sum.inr "a") hd4 (by show 1 < sizeLine; decide), ?_⟩
          exact ⟨_, rfl, fun b o n q => by rw [upd_ne n]; exact kp _ _ n q, upd_same⟩
      · subst e
        have hd5 : H4 d = some (.dK [(.inr "#", .int 1), (.inr "a", .int 1)]) := hd4
        refine ⟨_, rfl, D, rfl, ⟨_, SqL.of (kp _ _ nDd hD3)⟩, ?_⟩
        refine for_it (walk_list (xs := [V.ref p])) (fun i σ H' => ∃ v5 v6 : Option V, σ = [some (.ref x), some (.ref f), some (.ref D), Option.none, some (.ref d), v5, v6] ∧ Keep d H3 H' ∧ (i = 0 → H' d = some (.dK [(.inr "#", .int 1), (.inr "a", .int 1)])) ∧ (i = 1 → NumD d H'))
          ⟨_, _, rfl, kp, fun _ => hd5, fun h => by cases h⟩ (fun i σ H' _ ⟨_, _, _, kp, _⟩ => SqL.of (kp _ _ nDd hD3)) (fun i v σ H5 H6 hi ⟨w5, w6, e, kp5, h0, _⟩ y => ?_) (fun σ H5 ⟨w5, w6, e, kp5, _, h1⟩ => ?_)
        · obtain ⟨rfl, hx⟩ := y
          subst e
          have i0 : i = 0 := by
            have : i < 1 := hi
            omega
          subst i0
          have hx2 : v = V.ref p := (Option.some.inj hx).symm
          subst hx2
          have hd6 := h0 rfl
          refine ⟨_, _, rfl, SqT.of (kp5 _ _ npd hp3), rfl, _, _, rfl, _, _, rfl, rfl, ?_⟩
          refine ⟨_, rfl, _, rfl, d, _, rfl, DGet.k (k := Sum.inr "a") hd6, _, rfl, iteF ?_⟩
          refine ⟨_, rfl, _, rfl, d, V.int 1, rfl, DGet.k (k := Sum.inr "a") hd6, _, rfl, rfl, _, rfl, _, rfl, d, _, rfl, DPut.k (k := Sum.inr "a") hd6 (by show 2 < sizeLine; decide), ?_⟩
          exact ⟨_, _, rfl, fun b o n q => by rw [upd_ne n]; exact kp5 _ _ n q, (fun h => by cases h), fun _ => upd_same⟩
        · subst e
          exact ⟨_, rfl, k _ d (sH _ kp5) (h1 rfl)⟩
end
end Jd
namespace Jd
open PySem PySem.Spec PyProof.Rows L2
/-! ### the Stage -/
theorem Same_unlock {H H' : Hp} {d : Addr} {u : HO} {od : Obj} (h : H d = some u) (s : Same (upd H d (.frz od u)) H') : Same H (upd H' d u) := fun b o q => by
  by_cases e : b = d
  · subst e
    rw [upd_same, ← h]
    exact q
  · rw [upd_ne e]
    exact s _ _ (by rw [upd_ne e]; exact q)
section
variable {J : It} {n : Nat} {G : Hp → Prop} {Y : Nat → Hp → V → Hp → Prop}
/-- a comprehension's outer walk: what a turn does is told whole -/
theorem walk_by (w : Walk J n G Y) (T : (Hp → Prop) → V → Hp → Prop) (Pv : Nat → Hp → Prop) {Z : Hp} {Qd : Hp → Prop} (h0 : Pv 0 Z) (hG : ∀ i H, Pv i H → G H)
    (hs : ∀ i x H H', i < n → Pv i H → Y i H x H' → T (Pv (i + 1)) x H') (hd : ∀ H, Pv n H → Qd H) :
    ∃ W : Nat → Nat → Hp → Prop, (∃ m, W 0 m Z) ∧ ∀ i m H, W i m H → (J.stop i H ∧ Qd H) ∨ (J.go i H ∧ ∃ Nx : Hp → Prop, (∀ H', Nx H' → ∃ m', m' < m ∧ W (i + 1) m' H') ∧ ∀ x H', J.yld i H x H' → T Nx x H') := by
  refine ⟨fun i m H => i + m = n ∧ Pv i H, ⟨n, by omega, h0⟩, fun i m H hw => ?_⟩
  obtain ⟨e, p⟩ := hw
  rcases Nat.eq_zero_or_pos m with z | z
  · have ei : i = n := by omega
    rw [ei] at p
    exact .inl ⟨by rw [ei]; exact w.stops H (hG _ _ p), hd H p⟩
  · have li : i < n := by omega
    exact .inr ⟨w.goes i H li (hG _ _ p), Pv (i + 1), fun H' q => ⟨m - 1, by omega, by omega, q⟩, fun x H' y => hs i x H H' li p (w.yields i H x H' li (hG _ _ p) y)⟩
end
def spClosed (K : PySem.W.Frag) : Sp := fun vs H Q _ => ∃ x d : Addr, vs = [.ref x, .ref d] ∧ KeysA K H x ∧ NumD d H ∧ ∀ H' r, Same H H' → Q (.ref r) H'
section
variable {P : Program} {w : World} {K : PySem.W.Frag} {mg : Str → Option Value} {base : Heap}
abbrev NC : List Str := ["keys", "numbers", "told", "name", "m", "other"]
theorem sc_cl : FnScope NC ["keys", "numbers"] (defScope s__closed) := ⟨rfl, rfl, rfl, by decide +kernel, rfl, by decide +kernel, by decide +kernel⟩
theorem ok_closed (B : Bk K mg) : Df P w K mg base CX0 3 "_closed" ["keys", "numbers"] (spClosed K) := by
  obtain ⟨fd, F⟩ := B.F_closed
  obtain ⟨fdT, GT, bT⟩ := ok_told (P := P) (w := w) (base := base) B
  refine ⟨⟨fd, ?_, F.binds fun _ _ _ _ _ _ us hl => match us, hl with | [_, _], _ => rfl⟩, B.g_closed, F.kp⟩
  refine F.ok sc_cl (fun vs H Q E h => ?_) (fun cdv A outer s H vs Q E hr h => ?_)
  · obtain ⟨_, _, rfl, _⟩ := h
    rfl
  · obtain ⟨x, d, rfl, kx, hd, k⟩ := h
    have hu := hu_of hr
    refine ⟨_, pss_cons (ps_set (i := 2) sc_cl.nd rfl (Or.inr rfl) (pe_lock (pe_lc2 (own := [("name", 3), ("m", 4), ("other", 5)]) (vs1 := [5]) (g := gTup K 2 (gCons (gName 3) (gCons (gName 4) gNil))) (g1 := gName 5) (tt := tTest (tOp rEq (tVar 4) (tC (.int 0)))) (tt1 := tYes)
          (wi1 := iTup K (tMeth (He.ga K "Keys") "told" (spTold K) [] E0 (tVar 0) (tCons (tVar 3) tNil))) rfl sc_cl.nd (pi_items (pv 1)) (blkOk_by (N := NC) (sc := defScope s__closed) (by decide +kernel)) (by decide)
          (fun _ _ _ _ _ => pg_tup rfl (pgs_cons (pg_name (i := 3) sc_cl.nd rfl (Or.inl rfl)) (pgs_cons (pg_name (i := 4) sc_cl.nd rfl (Or.inl rfl)) pgs_nil))) (fun _ _ _ _ _ => pts_one (pt_cmpR op_eq (pv 4) pe_int (nomark _)))
          (fun _ _ _ _ _ => pi_tup (pe_meth (pv 0) B.cl_Keys B.me_Keys_told GT hr bT .nil pass0 (pa_cons (pv 3) pa_nil))) (fun _ _ _ _ _ => pg_name (i := 5) sc_cl.nd rfl (Or.inl rfl)) (fun _ _ _ _ _ => pts_nil) (fun _ _ _ _ _ => pv 5))))
      (pss_one (ps_ret (pe_lock (pe_dc (own := [("name", 3), ("m", 4)]) (g := gTup K 2 (gCons (gName 3) (gCons (gName 4) gNil))) (tt := tYes) rfl sc_cl.nd (pi_items (pv 1)) (blkOk_by (N := NC) (sc := defScope s__closed) (by decide +kernel))
          (fun _ _ _ _ _ => pg_tup rfl (pgs_cons (pg_name (i := 3) sc_cl.nd rfl (Or.inl rfl)) (pgs_cons (pg_name (i := 4) sc_cl.nd rfl (Or.inl rfl)) pgs_nil))) (fun _ _ _ _ _ => pts_nil) (fun _ _ _ _ _ => pv 3)
          (tv := tIf (tTest (tOp (rIn K false) (tVar 3) (tVar 2))) (tC (.int 0)) (tVar 4))
          (fun _ _ _ _ _ => pe_ifExp (pt_cmpR op_in_seq (pv 3) (pv 2) (by rfl)) pe_int (pv 4)))))), ?_⟩
    obtain ⟨dx, t0, d0, q0, hx, ht0, hd0, hq0⟩ := kx
    have hd : H d = some (.dK [(.inr "#", .int 1), (.inr "a", .int 0)]) := hd
    have xd : x ≠ d := ne_of hx hd (by intro z; cases z)
    have td : t0 ≠ d := ne_of ht0 hd (by intro z; cases z)
    have dd : d0 ≠ d := ne_of hd0 hd (by intro z; cases z)
    have qd : q0 ≠ d := ne_of hq0 hd (by intro z; cases z)
    refine ⟨d, _, hd, trivial, fun od => ?_⟩
    have kx : KeysA K (upd H d (.frz od (.dK [(.inr "#", .int 1), (.inr "a", .int 0)]))) x := ⟨dx, t0, d0, q0, by rw [upd_ne xd]; exact hx, by rw [upd_ne td]; exact ht0, by rw [upd_ne dd]; exact hd0, by rw [upd_ne qd]; exact hq0⟩
    refine ⟨_, rfl, d, od, _, rfl, upd_same, fun D hD => ?_⟩
    refine walk_by (walk_items (d := d) (o := od) (kvs := [(.inr "#", .int 1), (.inr "a", .int 0)])) _ (fun i H' => Same (upd H d (.frz od (.dK [(.inr "#", .int 1), (.inr "a", .int 0)]))) H' ∧ H' D = some (.lst []))
      ⟨Same_new hD, upd_same⟩ (fun i H' p => p.1 _ _ upd_same) (fun i v H1 H2 hi ⟨s1, hD1⟩ y => ?_) (fun H1 ⟨s1, hD1⟩ => ?_)
    · obtain ⟨T, u, v', rfl, nT, rfl, e1, e2⟩ := y
      have s2 := s1.trans (Same_new (a := T) (o := HO.tup [u, v']) nT)
      have hD2 := Same_new (a := T) (o := HO.tup [u, v']) nT _ _ hD1
      have hi2 : i < 2 := hi
      have hc : i = 0 ∨ i = 1 := by omega
      rcases hc with rfl | rfl
      · cases e1
        cases e2
        refine ⟨_, _, rfl, SqT.of upd_same, rfl, _, _, rfl, _, _, rfl, rfl, rfl, _, rfl, rfl, _, rfl, ifdn (fun z => absurd (V.int.inj z) (by decide)) ?_⟩
        exact ⟨s2, hD2⟩
      · cases e1
        cases e2
        refine ⟨_, _, rfl, SqT.of upd_same, rfl, _, _, rfl, _, _, rfl, rfl, rfl, _, rfl, rfl, _, rfl, ifd rfl ?_⟩
        have kx2 := kx.keep s2
        obtain ⟨dx2, _, _, _, hx2, _⟩ := id kx2
        refine ⟨_, rfl, x, dx2, _, rfl, hx2, rfl, _, rfl, x, rfl, kx2, fun p hp => ⟨p, rfl, ⟨_, SqT.of hp⟩, fun j _ H' => j = 0 ∧ H' = _, ⟨0, rfl, rfl⟩, fun j m H' hw => ?_⟩⟩
        obtain ⟨rfl, rfl⟩ := hw
        exact .inl ⟨⟨[], SqT.of hp, Nat.zero_le _⟩, s2, hD2⟩
    · refine ⟨s1 _ _ upd_same, ?_⟩
      have sm := Same_unlock hd s1
      have nDd : D ≠ d := ne_of hD1 (s1 _ _ upd_same) (by intro z; cases z)
      have hDm : (upd H1 d (.dK [(.inr "#", .int 1), (.inr "a", .int 0)])) D = some (.lst []) := by rw [upd_ne nDd]; exact hD1
      have hdm : (upd H1 d (.dK [(.inr "#", .int 1), (.inr "a", .int 0)])) d = some (.dK [(.inr "#", .int 1), (.inr "a", .int 0)]) := upd_same
      generalize (upd H1 d (.dK [(.inr "#", .int 1), (.inr "a", .int 0)])) = Hm at sm hDm hdm
      refine ⟨d, _, hdm, trivial, fun od2 => ?_⟩
      refine ⟨_, rfl, d, od2, _, rfl, upd_same, fun D2 hD2 => ?_⟩
      refine walk_by (walk_items (d := d) (o := od2) (kvs := [(.inr "#", .int 1), (.inr "a", .int 0)])) _ (fun i H' => Same (upd Hm d (.frz od2 (.dK [(.inr "#", .int 1), (.inr "a", .int 0)]))) H' ∧ ∃ es : List (Key × V), H' D2 = some (.dK es) ∧ es.length ≤ i)
        ⟨Same_new hD2, [], upd_same, Nat.le_refl _⟩ (fun i H' p => p.1 _ _ upd_same) (fun i v H3 H4 hi ⟨s3, es, hE, hl⟩ y => ?_) (fun H3 ⟨s3, _⟩ => ?_)
      · obtain ⟨T, u, v', rfl, nT, rfl, e1, e2⟩ := y
        have s4 := s3.trans (Same_new (a := T) (o := HO.tup [u, v']) nT)
        have hE4 := Same_new (a := T) (o := HO.tup [u, v']) nT _ _ hE
        have hD4 : (upd H3 T (.tup [u, v'])) D = some (.lst []) := s4 _ _ (by rw [upd_ne nDd]; exact hDm)
        have hi2 : i < 2 := hi
        have hle : es.length < sizeLine := Nat.lt_of_le_of_lt hl (Nat.lt_of_lt_of_le hi2 (by decide))
        have fin : ∀ (ky : Key) (z : V), Same (upd Hm d (.frz od2 (.dK [(.inr "#", .int 1), (.inr "a", .int 0)]))) (upd (upd H3 T (.tup [u, v'])) D2 (.dK (putK es ky z))) ∧ ∃ es' : List (Key × V), (upd (upd H3 T (.tup [u, v'])) D2 (.dK (putK es ky z))) D2 = some (.dK es') ∧ es'.length ≤ i + 1 := fun ky z => by
          refine ⟨fun b o q => ?_, _, upd_same, Nat.le_trans (length_putK es ky z) (Nat.succ_le_succ hl)⟩
          rw [upd_ne (ne_of_none q hD2)]
          exact s4 _ _ q
        have hc : i = 0 ∨ i = 1 := by omega
        rcases hc with rfl | rfl
        · cases e1
          cases e2
          refine ⟨_, _, rfl, SqT.of upd_same, rfl, _, _, rfl, _, _, rfl, rfl, rfl, iteT (B := ∃ z : Nat, z = 0) ?_⟩
          refine ⟨_, rfl, _, rfl, _, rfl, D, [], rfl, .inl (SqL.of hD4), rfl, rfl, _, rfl, iteF ?_⟩
          exact ⟨_, rfl, es, Sum.inr "#", rfl, hE4, hle, fin _ _⟩
        · cases e1
          cases e2
          refine ⟨_, _, rfl, SqT.of upd_same, rfl, _, _, rfl, _, _, rfl, rfl, rfl, iteT (B := ∃ z : Nat, z = 0) ?_⟩
          refine ⟨_, rfl, _, rfl, _, rfl, D, [], rfl, .inl (SqL.of hD4), rfl, rfl, _, rfl, iteF ?_⟩
          exact ⟨_, rfl, es, Sum.inr "a", rfl, hE4, hle, fin _ _⟩
      · exact ⟨s3 _ _ upd_same, k _ _ (sm.trans (Same_unlock hdm s3))⟩
def spStage (K : PySem.W.Frag) : Sp := fun vs H Q _ => ∃ x kk f dx : Addr, vs = [.ref x, .ref kk, .ref f] ∧ H x = some (.ins (He.ga K "Stage") dx []) ∧ KeysA K H kk ∧ SqT K H f [.str "a"] ∧
  ∀ H' fs, H' x = some (.ins (He.ga K "Stage") dx fs) → Keep x H H' → Q .non H'
theorem KeysA.keepX {H H' : Hp} {kk x C dx : Addr} (h : KeysA K H kk) (hx : H x = some (.ins C dx [])) (s : Keep x H H') : KeysA K H' kk := by
  obtain ⟨dy, t, d, q, h1, h2, h3, h4⟩ := h
  exact ⟨dy, t, d, q, s _ _ (ne_of h1 hx (by intro z; cases z)) h1, s _ _ (ne_of h2 hx (by intro z; cases z)) h2, s _ _ (ne_of h3 hx (by intro z; cases z)) h3, s _ _ (ne_of h4 hx (by intro z; cases z)) h4⟩
theorem sc_si : FnScope ["self", "keys", "fields"] ["self", "keys", "fields"] (defScope s_Stage___init__) := ⟨rfl, rfl, rfl, by decide +kernel, rfl, by decide +kernel, by decide +kernel⟩
theorem ok_Stage_init (B : Bk K mg) : ∃ fd, FnOk P w K mg base CX0 5 (He.ma K (He.ga K "Stage") "__init__") fd ["self", "keys", "fields"] (spStage K) ∧ Binds K fd ["self", "keys", "fields"] [] := by
  obtain ⟨fd, F⟩ := B.F_Stage___init
  obtain ⟨fdJ, GJ, bJ⟩ := (ok_joined (P := P) (w := w) (base := base) B).ex
  have kJ := (ok_joined (P := P) (w := w) (base := base) B).kp
  obtain ⟨fdC, GC, bC⟩ := (ok_closed (P := P) (w := w) (base := base) B).ex
  have kC := (ok_closed (P := P) (w := w) (base := base) B).kp
  refine ⟨fd, ?_, F.binds fun _ _ _ _ _ _ us hl => match us, hl with | [_, _, _], _ => rfl⟩
  refine F.ok sc_si (fun vs H Q E h => ?_) (fun cdv A outer s H vs Q E hr h => ?_)
  · obtain ⟨_, _, _, _, rfl, _⟩ := h
    rfl
  · obtain ⟨x, kk, f, dx, rfl, hx, kx, hf, k⟩ := h
    have hr3 : Room 3 _ := hr.mono (by decide)
    refine ⟨_, pss_cons (ps_fld (pv 0) (pv 1) rfl)
      (pss_one (ps_fld (pv 0) (pe_call GC hr3 rfl B.g_closed kC bC .nil pass0 (pa_cons (pv 1) (pa_cons (pe_call GJ hr rfl B.g_joined kJ bJ .nil pass0 (pa_cons (pv 1) (pa_cons (pv 2) pa_nil))) pa_nil))) rfl)), ?_⟩
    refine ⟨_, rfl, _, rfl, x, _, dx, [], rfl, hx, B.cl_Stage, B.no_Stage__schema, by decide, ?_⟩
    have kp : Keep x H (upd H x (.ins (He.ga K "Stage") dx (putF "_schema" (.ref kk) []))) := Keep_upd
    have hx1 : (upd H x (.ins (He.ga K "Stage") dx (putF "_schema" (.ref kk) []))) x = some (.ins (He.ga K "Stage") dx (putF "_schema" (.ref kk) [])) := upd_same
    have kx1 := kx.keepX hx kp
    have hf1 := Keep_seqT hx kp hf
    refine ⟨_, rfl, _, rfl, _, rfl, kk, f, rfl, kx1, hf1, fun H2 d s2 hd => ?_⟩
    refine ⟨kk, d, rfl, kx1.keep s2, hd, fun H3 r s3 => ?_⟩
    refine ⟨_, rfl, x, _, dx, _, rfl, s3 _ _ (s2 _ _ hx1), B.cl_Stage, B.no_Stage__numbers, (by show 1 < 1000; decide), ?_⟩
    exact k _ _ upd_same (fun b o n q => by
      rw [upd_ne n]
      exact s3 _ _ (s2 _ _ (kp _ _ n q)))
end
end Jd
namespace Jd
open PySem PySem.Spec PyProof.Rows L2
/-! ### where a slash parts a text -/
theorem cd_cat (a b : Str) : cd (a ++ b) = cd a ++ cd b := by
  show (a.cps ++ b.cps).toList = _
  exact Array.toList_append
theorem at_slash {x : Str} {i : Nat} : StrLaws.At x "/" x.length i ↔ (cd x)[i]? = some 47 := by
  have hc : ("/" : Str).cps.toList = [47] := by decide +kernel
  have hl : ("/" : Str).length = 1 := by decide +kernel
  unfold StrLaws.At
  rw [StrLaws.subAt_eq, hc, hl, len_cd x]
  constructor
  · rintro ⟨h1, h2⟩
    have e := eq_of_beq h2
    have q : (((cd x).drop i).take 1)[0]? = some 47 := by rw [e]; rfl
    rw [List.getElem?_take_of_lt (by decide), List.getElem?_drop] at q
    exact q
  · intro h
    obtain ⟨hi, e⟩ := List.getElem?_eq_some_iff.mp h
    refine ⟨hi, ?_⟩
    rw [List.drop_eq_getElem_cons hi, List.take_succ_cons, List.take_zero, e]
    rfl
theorem part_at {x a d : Str} (hx : cd x = cd a ++ 47 :: cd d) (ha : 47 ∉ cd a) : Txt.partition x "/" = (a, ("/" : Str), d) := by
  have h1 : StrLaws.At x "/" x.length (cd a).length := at_slash.mpr (by rw [hx]; simp)
  have hl : ("/" : Str).length = 1 := by decide +kernel
  unfold Txt.partition
  rcases StrLaws.occ_head x "/" 1 (Nat.le_refl 1) with ⟨h0, hn⟩ | ⟨i, r, h0, hi, hn⟩
  · exact absurd h1 (hn _)
  · have ei : i = (cd a).length := by
      rcases Nat.lt_trichotomy i (cd a).length with h | h | h
      · have q := at_slash.mp hi
        rw [hx, List.getElem?_append_left h] at q
        exact absurd (List.mem_of_getElem? q) ha
      · exact h
      · exact absurd h1 (hn _ h)
    rw [h0]
    have e1 : Builtin.Str.strSub x 0 i = a := cd_ext (by
      show (Builtin.Str.strSub x 0 i).cps.toList = _
      rw [StrLaws.strSub_toList, ei]
      show ((cd x).drop 0).take ((cd a).length - 0) = _
      rw [hx]
      simp)
    have e2 : Builtin.Str.strSub x (i + ("/" : Str).length) x.length = d := cd_ext (by
      show (Builtin.Str.strSub x (i + ("/" : Str).length) x.length).cps.toList = _
      rw [StrLaws.strSub_toList, ei, hl, len_cd x]
      show ((cd x).drop ((cd a).length + 1)).take ((cd x).length - ((cd a).length + 1)) = _
      have hx2 : cd x = (cd a ++ [47]) ++ cd d := by rw [hx, List.append_assoc]; rfl
      rw [hx2, List.drop_left' (by rw [List.length_append]; rfl), List.take_of_length_le (by rw [List.length_append, List.length_append]; show _ ≤ (cd a).length + 1 + (cd d).length - ((cd a).length + 1); omega)])
    show (Builtin.Str.strSub x 0 i, _, Builtin.Str.strSub x (i + ("/" : Str).length) x.length) = _
    rw [e1, e2]
/-- the codes of a modulus -/
def isModC (l : List Nat) : Bool := if ((decide (l = []) || decide (l = [49])) || decide (l[0]? = some 48)) = true then false else l.all digitB
theorem startc (z : Str) (c : Nat) (y : Str) (hy : cd y = [c]) : Txt.startswith z y = decide ((cd z)[0]? = some c) := by
  have hl : y.length = 1 := by rw [len_cd, hy]; rfl
  unfold Txt.startswith
  rw [StrLaws.subAt_eq, hl, len_cd z]
  show (decide (0 + 1 ≤ (cd z).length) && (((cd z).drop 0).take 1 == cd y)) = _
  rw [hy]
  cases cd z with
  | nil => rfl
  | cons a l =>
    show (decide (0 + 1 ≤ l.length + 1) && ([a] == [c])) = decide (some a = some c)
    rw [decide_eq_true (by omega), Bool.true_and]
    by_cases h : a = c
    · subst h
      simp
    · have : ¬ some a = some c := fun z => h (Option.some.inj z)
      rw [decide_eq_false this]
      simp [h]
theorem inV_str (z : Str) (xs : List Str) : inV (.str z) (xs.map V.str) = decide (z ∈ xs) := by
  unfold inV
  induction xs with
  | nil => rfl
  | cons x xs ih =>
    rw [List.map_cons, List.any_cons, ih]
    show ((x == z) || _) = _
    by_cases h : x = z
    · subst h
      simp
    · have h' : ¬ z = x := fun q => h q.symm
      have hb : (x == z) = false := by
        cases e : (x == z) with
        | false => rfl
        | true => exact absurd (eq_of_beq e) h
      rw [hb, Bool.false_or]
      exact decide_eq_decide.mpr (by simp [h'])
theorem isMod_codes (z : Str) : isMod z = isModC (cd z) := by
  unfold isMod
  rw [show ([.str "", .str "1"] : List V) = ([("" : Str), ("1" : Str)]).map V.str from rfl, inV_str, startc z 48 "0" (by decide +kernel)]
  have e1 : z = "" ↔ cd z = [] := ⟨fun h => by rw [h]; decide +kernel, fun h => cd_ext (by rw [h]; decide +kernel)⟩
  have e2 : z = "1" ↔ cd z = [49] := ⟨fun h => by rw [h]; decide +kernel, fun h => cd_ext (by rw [h]; decide +kernel)⟩
  have em : decide (z ∈ [("" : Str), ("1" : Str)]) = (decide (cd z = []) || decide (cd z = [49])) := by
    rw [← Bool.decide_or]
    exact decide_eq_decide.mpr (by rw [List.mem_cons, List.mem_singleton, e1, e2])
  rw [em]
  rfl
theorem field_at {x a d : Str} (hx : cd x = cd a ++ 47 :: cd d) (ha : 47 ∉ cd a) :
    isFieldB x = (if (!decide (V.str a = V.str "#") && !isName (cd a)) = true then false else isModC (cd d)) ∧ fieldName x = a ∧ fieldNum x = numOf (cd d) := by
  have e := part_at hx ha
  unfold isFieldB fieldName fieldNum
  rw [e, isMod_codes]
  have h : decide (V.str ("/" : Str) = V.str "") = false := by decide +kernel
  show (if (!decide (V.str a = V.str "#") && !isName (cd a)) = true then false else decide (V.str ("/" : Str) = V.str "") || isModC (cd d)) = _ ∧ a = a ∧ numOf (cd d) = numOf (cd d)
  rw [h, Bool.false_or]
  exact ⟨rfl, rfl, rfl⟩
end Jd
namespace Jd
open PySem PySem.Spec PyProof.Rows L2
/-! ### a text so many times; texts that are no FIELDs -/
def rMulS : R2 := fun x y H Q => ∃ (z : Str) (n : Int), x = .str z ∧ y = .int n ∧ MulOk z n ∧ Q (.str (Txt.mul z n)) H
theorem op_mulS {X : Cx} : OpR X (binaryOp .Mult) rMulS := by
  intro pins s σ H x y v u Q I rx ry h
  obtain ⟨z, n, rfl, rfl, ok, q⟩ := h
  obtain ⟨t, rfl⟩ := rx
  obtain ⟨t', rfl⟩ := ry
  exact SB.mul ok fun t' tk => ⟨.str (Txt.mul z n), H, I.tok _, ⟨_, rfl⟩, q⟩
def bad1 : List Str := ["", "/", "/2", "a/", "a/1", "a/0", "a/02", "A", "a b", "abcdefghi", "##", "#/", "#/1", "#a", "a#", "a//2"]
def bad2 : List Str := ["a/2/3", "a/-2", "a/2 ", " a", "a/x", "1", "a/ 2", "a2", "-", "a/+2", "a.b", "abcdefghi/2", "a/2a"]
theorem bad_all : ∀ z ∈ bad1 ++ bad2, isFieldB z = false ∧ z.length ≤ 1000 := by
  have h : (bad1 ++ bad2).all (fun z => !isFieldB z && decide (z.length ≤ 1000)) = true := by decide +kernel
  intro z hz
  have q := List.all_eq_true.mp h z hz
  rw [Bool.and_eq_true] at q
  refine ⟨?_, of_decide_eq_true q.2⟩
  have q1 := q.1
  cases e : isFieldB z with
  | false => rfl
  | true => rw [e] at q1; cases q1
theorem fold_cat (a : Array Nat) : ∀ (n : Nat) (acc : Array Nat), ((List.replicate n a).foldl (· ++ ·) acc).toList = acc.toList ++ (List.replicate n a.toList).flatten
  | 0, acc => by simp
  | n + 1, acc => by
    rw [List.replicate_succ, List.foldl_cons, fold_cat a n (acc ++ a), List.replicate_succ, List.flatten_cons, Array.toList_append, List.append_assoc]
theorem cd_mul (c : Nat) (z : Str) (hz : cd z = [c]) : cd (Txt.mul z 900) = List.replicate 900 c := by
  have hl : z.length = 1 := by rw [len_cd, hz]; rfl
  unfold Txt.mul
  rw [if_neg (by decide), if_neg (by rw [hl]; decide)]
  show ((List.replicate 900 z.cps).foldl (· ++ ·) #[]).toList = _
  rw [fold_cat, show z.cps.toList = [c] from hz]
  show [] ++ _ = _
  rw [List.nil_append]
  show (List.replicate 900 [c]).flatten = _
  generalize 900 = n
  induction n with
  | zero => rfl
  | succ n ih =>
    rw [List.replicate_succ, List.flatten_cons, ih, List.replicate_succ]
    rfl
theorem mul_ok (z : Str) (hl : z.length = 1) : MulOk z 900 := by
  unfold MulOk
  rw [hl]
  exact ⟨by decide, fun _ _ => by decide, fun _ _ => by decide⟩
theorem ones : isFieldB ("a/" ++ Txt.mul "1" 900) = true ∧ (("a/" : Str) ++ Txt.mul "1" 900).length ≤ 1000 := by
  have hm := cd_mul 49 "1" (by decide +kernel)
  have hx : cd (("a/" : Str) ++ Txt.mul "1" 900) = cd ("a" : Str) ++ 47 :: cd (Txt.mul "1" 900) := by
    rw [cd_cat, show cd ("a/" : Str) = cd ("a" : Str) ++ [47] by decide +kernel, List.append_assoc]
    rfl
  refine ⟨?_, ?_⟩
  · rw [(field_at hx (by decide +kernel)).1, if_neg (by decide +kernel), hm]
    decide +kernel
  · rw [len_cd, hx, List.length_append, List.length_cons, hm, List.length_replicate]
    decide +kernel
theorem zeros : isFieldB ("#/" ++ Txt.mul "0" 900) = false ∧ (("#/" : Str) ++ Txt.mul "0" 900).length ≤ 1000 := by
  have hm := cd_mul 48 "0" (by decide +kernel)
  have hx : cd (("#/" : Str) ++ Txt.mul "0" 900) = cd ("#" : Str) ++ 47 :: cd (Txt.mul "0" 900) := by
    rw [cd_cat, show cd ("#/" : Str) = cd ("#" : Str) ++ [47] by decide +kernel, List.append_assoc]
    rfl
  refine ⟨?_, ?_⟩
  · rw [(field_at hx (by decide +kernel)).1, if_neg (by decide +kernel), hm]
    decide +kernel
  · rw [len_cd, hx, List.length_append, List.length_cons, hm, List.length_replicate]
    decide +kernel
end Jd
namespace Jd
open PySem PySem.Spec PyProof.Rows L2
/-! ### what is refused -/
/-- is no text -/
def NotS (K : PySem.W.Frag) (H : Hp) (x : V) : Prop := ∃ t, TyX K H x t ∧ PySem.W.kitOne K t (.type "str") = some false
/-- stands for the odd things -/
def OddV (K : PySem.W.Frag) (H : Hp) : V → Prop
  | .non => True
  | .bl _ => True
  | .int _ => True
  | .ref a => (∃ xs, H a = some (.lst xs)) ∨ (∃ xs, H a = some (.tup xs)) ∨ (∃ dx fs, H a = some (.ins (He.ga K "Keys") dx fs)) ∨ ∃ dx fs, H a = some (.ins (He.ga K "Stage") dx fs)
  | _ => False
theorem OddV.same {K : PySem.W.Frag} {H H' : Hp} (s : Same H H') {x : V} (h : OddV K H x) : OddV K H' x := by
  cases x with
  | non => trivial
  | bl b => trivial
  | int i => trivial
  | ref a =>
    rcases h with ⟨xs, h⟩ | ⟨xs, h⟩ | ⟨dx, fs, h⟩ | ⟨dx, fs, h⟩
    · exact .inl ⟨xs, s _ _ h⟩
    · exact .inr (.inl ⟨xs, s _ _ h⟩)
    · exact .inr (.inr (.inl ⟨dx, fs, s _ _ h⟩))
    · exact .inr (.inr (.inr ⟨dx, fs, s _ _ h⟩))
  | _ => exact h.elim
theorem SmT {H : Hp} {p t : Addr} {xs : List V} (hp : H p = some (.tup xs)) (ht : H t = some (.tup xs)) (hl : xs.length < 1000) (hf : ∀ x ∈ xs, FlatV x) : Sm H 1 (.ref p) (.ref t) :=
  .inr ⟨p, t, xs, xs, rfl, rfl, rfl, hl, fun i u v h1 h2 => by
    rw [h1] at h2
    cases h2
    exact ⟨rfl, hf _ (List.mem_of_getElem? h1)⟩, .inr ⟨hp, ht⟩⟩
theorem bad_flat {z w : Str} : ∀ x ∈ [V.str z, V.str w], FlatV x := by
  intro x hx
  rcases List.mem_cons.mp hx with rfl | hx
  · trivial
  · cases List.mem_singleton.mp hx
    trivial
theorem Same_mk {H : Hp} {x dx : Addr} {o1 o2 : HO} (n1 : H x = none) (n2 : H dx = none) : Same H (upd (upd H dx o1) x o2) := fun b o q => by
  rw [upd_ne (ne_of_none q n1), upd_ne (ne_of_none q n2)]
  exact q
theorem Same_made {H H' : Hp} {x dx : Addr} {o1 o2 : HO} (n1 : H x = none) (n2 : H dx = none) (k : Keep x (upd (upd H dx o1) x o2) H') : Same H H' := fun b o q => k _ _ (ne_of_none q n1) (Same_mk n1 n2 _ _ q)
def odd (l1 t1 l2 t2 l3 t3 l5 x1 x3 : Addr) : List V := [.non, .bl true, .int 0, .int 2, .int (-5), .ref l1, .ref t1, .ref l2, .ref t2, .ref l3, .ref t3, .ref l5, .ref x1, .ref x3]
theorem odd_all {K : PySem.W.Frag} {H : Hp} {l1 t1 l2 t2 l3 t3 l5 x1 x3 d1 d3 : Addr} {y1 y2 y3 y4 y5 y6 y8 : List V} {f1 f3 : List (Str × V)} (w1 : H l1 = some (.lst y1)) (w2 : H t1 = some (.tup y2)) (w3 : H l2 = some (.lst y3)) (w4 : H t2 = some (.tup y4)) (w5 : H l3 = some (.lst y5)) (w6 : H t3 = some (.tup y6))
    (w8 : H l5 = some (.lst y8)) (w9 : H x1 = some (.ins (He.ga K "Keys") d1 f1)) (w10 : H x3 = some (.ins (He.ga K "Stage") d3 f3)) : ∀ v ∈ odd l1 t1 l2 t2 l3 t3 l5 x1 x3, OddV K H v := by
  intro v hv
  simp only [odd, List.mem_cons, List.not_mem_nil, or_false] at hv
  rcases hv with rfl | rfl | rfl | rfl | rfl | rfl | rfl | rfl | rfl | rfl | rfl | rfl | rfl | rfl
  · trivial
  · trivial
  · trivial
  · trivial
  · trivial
  · exact .inl ⟨_, w1⟩
  · exact .inr (.inl ⟨_, w2⟩)
  · exact .inl ⟨_, w3⟩
  · exact .inr (.inl ⟨_, w4⟩)
  · exact .inl ⟨_, w5⟩
  · exact .inr (.inl ⟨_, w6⟩)
  · exact .inl ⟨_, w8⟩
  · exact .inr (.inr (.inl ⟨_, _, w9⟩))
  · exact .inr (.inr (.inr ⟨_, _, w10⟩))
def spBad : Sp := fun vs H Q _ => vs = [] ∧ ∀ H', Same H H' → Q (.bl true) H'
section
variable {P : Program} {w : World} {K : PySem.W.Frag} {mg : Str → Option Value} {base : Heap}
theorem OddV.notS (B : Bk K mg) {H : Hp} {x : V} (h : OddV K H x) : NotS K H x := by
  cases x with
  | non => exact ⟨_, .base .non, kit_ty (a := "NoneType") (r := false) (by decide +kernel)⟩
  | bl b => exact ⟨_, .base (.bl b), kit_ty (a := "bool") (r := false) (by decide +kernel)⟩
  | int i => exact ⟨_, .base (.int i), kit_ty (a := "int") (r := false) (by decide +kernel)⟩
  | ref a =>
    rcases h with ⟨xs, h⟩ | ⟨xs, h⟩ | ⟨dx, fs, h⟩ | ⟨dx, fs, h⟩
    · exact ⟨_, .base (.lst h), kit_ty (a := "list") (r := false) (by decide +kernel)⟩
    · exact ⟨_, .base (.tup h), kit_ty (a := "tuple") (r := false) (by decide +kernel)⟩
    · obtain ⟨h1, h2, h3, h4⟩ := B.ty_Keys
      exact ⟨_, .base (.ins h B.cl_Keys h1 h2 h3 h4), B.kit_Keys_str⟩
    · obtain ⟨h1, h2, h3, h4⟩ := B.ty_Stage
      exact ⟨_, .base (.ins h B.cl_Stage h1 h2 h3 h4), B.kit_Stage_str⟩
  | _ => exact h.elim
theorem DpAll_rep {H : Hp} : ∀ n : Nat, DpAll K H (List.replicate n (V.bl false)) (List.replicate n (.bool false))
  | 0 => .nil
  | n + 1 => .cons (.bl false) (DpAll_rep n)
abbrev NB : List Str := ["_law_flats", "_law_flat", "_law_odd", "_law_own"]
theorem sc_bad : FnScope NB [] (defScope s__law_bad_right) := ⟨rfl, rfl, rfl, by decide +kernel, rfl, by decide +kernel, by decide +kernel⟩
theorem ok_bad_right (B : Bk K mg) : Df P w K mg base CX0 8 "_law_bad_right" [] spBad := by
  obtain ⟨fd, F⟩ := B.F_law_bad_right
  obtain ⟨fdF, GF, bF⟩ := (ok_is_field (P := P) (w := w) (base := base) B).ex
  have kF := (ok_is_field (P := P) (w := w) (base := base) B).kp
  obtain ⟨fdP, GP, bP⟩ := (ok_is_part (P := P) (w := w) (base := base) B).ex
  have kP := (ok_is_part (P := P) (w := w) (base := base) B).kp
  obtain ⟨fdS, GS, bS⟩ := (ok_law_same (P := P) (w := w) (base := base) B 2).ex
  have kS := (ok_law_same (P := P) (w := w) (base := base) B 2).kp
  obtain ⟨fdS1, GS1, bS1⟩ := (ok_law_same (P := P) (w := w) (base := base) B 1).ex
  have kS1 := (ok_law_same (P := P) (w := w) (base := base) B 1).kp
  obtain ⟨fdH, GH, bH⟩ := (ok_law_heard (P := P) (w := w) (base := base) B).ex
  have kH := (ok_law_heard (P := P) (w := w) (base := base) B).kp
  obtain ⟨fdK, GK, dsK, vK, bK⟩ := ok_Keys_init (P := P) (w := w) (base := base) B
  obtain ⟨fdT, GT, bT⟩ := ok_Stage_init (P := P) (w := w) (base := base) B
  refine ⟨⟨fd, ?_, F.binds fun _ _ _ _ _ _ us hl => match us, hl with | [], _ => rfl⟩, B.g_law_bad_right, F.kp⟩
  refine F.ok sc_bad (fun vs H Q E h => ?_) (fun cdv A outer s H vs Q E hr h => ?_)
  · obtain ⟨rfl, _⟩ := h
    rfl
  · obtain ⟨rfl, k⟩ := h
    have hr2 : Room 2 _ := hr.mono (by decide)
    have hr3 : Room 3 _ := hr.mono (by decide)
    have hr4 : Room 4 _ := hr.mono (by decide)
    have hr5 : Room 5 _ := hr.mono (by decide)
    have hr6 : Room 6 _ := hr.mono (by decide)
    refine ⟨_, (pss_cons (ps_set (i := 0) sc_bad.nd rfl (Or.inl rfl) (pe_lst (pa_cons pe_str (pa_cons pe_str (pa_cons pe_str (pa_cons pe_str (pa_cons pe_str (pa_cons pe_str (pa_cons pe_str (pa_cons pe_str (pa_cons pe_str (pa_cons pe_str (pa_cons pe_str (pa_cons pe_str (pa_cons pe_str (pa_cons pe_str (pa_cons pe_str (pa_cons pe_str pa_nil))))))))))))))))))
      (pss_cons (ps_set (i := 0) sc_bad.nd rfl (Or.inl rfl) (pe_op op_cat (pv 0) (pe_lst (pa_cons pe_str (pa_cons pe_str (pa_cons pe_str (pa_cons pe_str (pa_cons pe_str (pa_cons pe_str (pa_cons pe_str (pa_cons pe_str (pa_cons pe_str (pa_cons pe_str (pa_cons pe_str (pa_cons pe_str (pa_cons pe_str pa_nil))))))))))))))))
      (pss_cons (ps_for PassesOwn.never rfl (pi_list (pv 0)) (pg_name (i := 1) sc_bad.nd rfl (Or.inl rfl)) (pss_cons (ps_if (PW.pt (pw_or (pt_cmpR op_notBl (pe_call GF hr2 rfl B.g_is_field kF bF .nil pass0 (pa_cons (pv 1) pa_nil)) pe_bl (nomark _)) (pw_or1 (pt_cmpR op_notBl (pe_call (E := fun _ _ _ => False) GP hr4 rfl B.g_is_part kP bP .nil passF (pa_cons (pv 1) pa_nil)) pe_bl (nomark _))))) (pss_one (ps_ret pe_bl)) pss_nil) (pss_one (ps_if (pt_not (pt_val (pe_call GS hr4 rfl B.g_law_same kS bS .nil pass0 (pa_cons (pe_lst (pa_cons (pe_call GH hr6 rfl B.g_law_heard kH bH .nil pass0 (pa_cons pe_int (pa_cons (pv 1) pa_nil))) (pa_cons (pe_call GH hr6 rfl B.g_law_heard kH bH .nil pass0 (pa_cons pe_int (pa_cons (pv 1) pa_nil))) pa_nil))) (pa_cons (pe_op op_rep (pe_lst (pa_cons (pe_tup (pa_cons pe_str (pa_cons (pv 1) pa_nil))) pa_nil)) pe_int) pa_nil))))) (pss_one (ps_ret pe_bl)) pss_nil))))
      (pss_cons (ps_if (pt_not (pt_val (pe_call GS1 hr3 rfl B.g_law_same kS1 bS1 .nil pass0 (pa_cons (pe_lst (pa_cons (pe_call GF hr2 rfl B.g_is_field kF bF .nil pass0 (pa_cons (pe_op op_add_str pe_str (pe_op op_mulS pe_str pe_int)) pa_nil)) (pa_cons (pe_call GF hr2 rfl B.g_is_field kF bF .nil pass0 (pa_cons (pe_op op_add_str pe_str (pe_op op_mulS pe_str pe_int)) pa_nil)) pa_nil))) (pa_cons (pe_lst (pa_cons pe_bl (pa_cons pe_bl pa_nil))) pa_nil))))) (pss_one (ps_ret pe_bl)) pss_nil)
      (pss_cons (ps_set (i := 2) sc_bad.nd rfl (Or.inl rfl) (pe_lst (pa_cons pe_non (pa_cons pe_bl (pa_cons pe_int (pa_cons pe_int (pa_cons (pe_un un_neg pe_int) (pa_cons (pe_lst pa_nil) (pa_cons (pe_tup pa_nil) (pa_cons (pe_lst (pa_cons pe_str pa_nil)) (pa_cons (pe_tup (pa_cons pe_str pa_nil)) (pa_cons (pe_lst (pa_cons pe_str pa_nil)) (pa_cons (pe_tup (pa_cons pe_str (pa_cons pe_int pa_nil))) (pa_cons (pe_lst (pa_cons (pe_lst (pa_cons pe_str pa_nil)) pa_nil)) pa_nil))))))))))))))
      (pss_cons (ps_set (i := 2) sc_bad.nd rfl (Or.inl rfl) (pe_op op_cat (pv 2) (pe_lst (pa_cons (pe_make B.mk_Keys GK hr3 (by rfl) B.g_Keys bK vK pass0 (pa_cons (pe_tup (pa_cons pe_str pa_nil)) pa_nil)) (pa_cons (pe_make B.mk_Stage GT hr6 (by rfl) B.g_Stage bT .nil pass0 (pa_cons (pe_make B.mk_Keys GK hr3 (by rfl) B.g_Keys bK vK pass0 (pa_cons (pe_tup (pa_cons pe_str pa_nil)) pa_nil)) (pa_cons (pe_tup (pa_cons pe_str pa_nil)) pa_nil))) pa_nil)))))
      (pss_one (ps_ret (pe_cmpR (op_eqD hr.units) (pe_op op_cat (pe_lc (own := [("_law_own", 3)]) (g := gName 3) (tt := tYes) rfl sc_bad.nd (pi_list (pv 2)) (blkOk_by (N := NB) (sc := defScope s__law_bad_right) (by decide +kernel)) (fun _ _ _ _ _ => pg_name (i := 3) sc_bad.nd rfl (Or.inl rfl)) (fun _ _ _ _ _ => pts_nil) (fun _ _ _ _ _ => (pe_call GF hr2 rfl B.g_is_field kF bF .nil pass0 (pa_cons (pv 3) pa_nil)))) (pe_lc (own := [("_law_own", 3)]) (g := gName 3) (tt := tYes) rfl sc_bad.nd (pi_list (pv 2)) (blkOk_by (N := NB) (sc := defScope s__law_bad_right) (by decide +kernel)) (fun _ _ _ _ _ => pg_name (i := 3) sc_bad.nd rfl (Or.inl rfl)) (fun _ _ _ _ _ => pts_nil) (fun _ _ _ _ _ => (pe_call (E := fun _ _ _ => False) GP hr4 rfl B.g_is_part kP bP .nil passF (pa_cons (pv 3) pa_nil))))) (pe_op op_rep (pe_lst (pa_cons pe_bl pa_nil)) pe_int) (nomark _)))))))))), ?_⟩
    refine ⟨(by show 16 ≤ sizeLine; decide), fun L1 hL1 => ?_⟩
    refine ⟨_, rfl, (by show 13 ≤ sizeLine; decide), fun L2' hL2 => ⟨L1, L2', _, _, rfl, rfl, Same_new hL2 _ _ upd_same, upd_same, (by show 29 ≤ sizeLine; decide), fun L hL => ?_⟩⟩
    refine ⟨_, rfl, L, rfl, ⟨_, SqL.of upd_same⟩, ?_⟩
    refine for_it (walk_list (xs := (bad1 ++ bad2).map V.str)) (fun i σ H' => ∃ v1 : Option V, σ = [some (.ref L), v1, Option.none, Option.none] ∧ Same H H' ∧ H' L = some (.lst ((bad1 ++ bad2).map V.str)))
      ⟨_, rfl, Same_lay (Same_lay (Same_new hL1) hL2) hL, upd_same⟩ (fun i σ H' _ ⟨_, _, _, hl⟩ => SqL.of hl) (fun i v σ H1 H2 hi ⟨v1, e, s1, hl⟩ y => ?_) (fun σ Hl ⟨v1, e, sl, hl⟩ => ?_)
    · obtain ⟨rfl, hx⟩ := y
      subst e
      rw [List.getElem?_map] at hx
      cases hz : (bad1 ++ bad2)[i]? with
      | none =>
        rw [hz] at hx
        cases hx
      | some z =>
        rw [hz] at hx
        have hx2 := (Option.some.inj hx).symm
        subst hx2
        obtain ⟨hb, hzl⟩ := bad_all z (List.mem_of_getElem? hz)
        refine ⟨_, rfl, _, rfl, .inl ⟨z, rfl, Nat.le_trans hzl (by decide), fun H3 s3 => ?_⟩⟩
        rw [hb]
        refine ⟨false, false, rfl, rfl, _, rfl, iteNS rfl ?_⟩
        refine ⟨_, rfl, _, rfl, .inl ⟨z, rfl, hzl, fun _ H4 s4 => ?_, fun q => absurd (hb.symm.trans q) (by decide)⟩⟩
        refine ⟨false, false, rfl, rfl, _, rfl, iteNS rfl ?_⟩
        refine ⟨_, rfl, 0, z, rfl, hzl, hb, fun H5 p1 s5 hp1 => ?_⟩
        refine ⟨_, rfl, 1, z, rfl, hzl, hb, fun H6 p2 s6 hp2 => ?_⟩
        refine ⟨(by show 2 ≤ sizeLine; decide), fun G1 hG1 => ?_⟩
        refine ⟨_, rfl, (by show 2 ≤ sizeLine; decide), fun t1 ht1 => ⟨(by show 1 ≤ sizeLine; decide), fun M1 hM1 => ?_⟩⟩
        refine ⟨M1, 2, _, rfl, rfl, upd_same, by decide, by decide, (by show 1 * 2 ≤ sizeLine; decide), fun G2 hG2 => ?_⟩
        have c1 := Same_new (o := HO.lst [.ref p1, .ref p2]) hG1
        have c2 := Same_new (o := HO.tup [.str "bad", .str z]) ht1
        have c3 := Same_new (o := HO.lst [.ref t1]) hM1
        have c4 := Same_new (o := HO.lst [.ref t1, .ref t1]) hG2
        have eG1 := c4 _ _ (c3 _ _ (c2 _ _ (upd_same (H := H6) (a := G1) (o := HO.lst [.ref p1, .ref p2]))))
        have et := c4 _ _ (c3 _ _ (upd_same (H := upd H6 G1 (HO.lst [.ref p1, .ref p2])) (a := t1) (o := HO.tup [.str "bad", .str z])))
        have ep1 := c4 _ _ (c3 _ _ (c2 _ _ (c1 _ _ (s6 _ _ hp1))))
        have ep2 := c4 _ _ (c3 _ _ (c2 _ _ (c1 _ _ hp2)))
        refine ⟨_, _, rfl, .inr ⟨G1, G2, [.ref p1, .ref p2], [.ref t1, .ref t1], rfl, rfl, rfl, (by show 2 < 1000; decide), fun j u v' h1 h2 => ?_, .inl ⟨eG1, upd_same⟩⟩, fun H7 s7 => ⟨_, rfl, iteF ?_⟩⟩
        · match j, h1, h2 with
          | 0, h1, h2 =>
            cases h1
            cases h2
            exact SmT ep1 et (by show 2 < 1000; decide) bad_flat
          | 1, h1, h2 =>
            cases h1
            cases h2
            exact SmT ep2 et (by show 2 < 1000; decide) bad_flat
          | j + 2, h1, h2 => cases h1
        · exact ⟨_, rfl, (((((((((s1.trans s3).trans s4).trans s5).trans s6).trans c1).trans c2).trans c3).trans c4).trans s7), s7 _ _ (c4 _ _ (c3 _ _ (c2 _ _ (c1 _ _ (s6 _ _ (s5 _ _ (s4 _ _ (s3 _ _ hl))))))))⟩
    · subst e
      refine ⟨"1", 900, rfl, rfl, mul_ok _ (by decide +kernel), "a/", _, rfl, rfl, ?_, _, rfl, .inl ⟨_, rfl, Nat.le_trans ones.2 (by decide), fun H1 s1 => ?_⟩⟩
      · have q := ones.2
        rw [len_cd, cd_cat, List.length_append, ← len_cd, ← len_cd] at q
        exact Nat.le_trans q (by decide)
      refine ⟨"0", 900, rfl, rfl, mul_ok _ (by decide +kernel), "#/", _, rfl, rfl, ?_, _, rfl, .inl ⟨_, rfl, Nat.le_trans zeros.2 (by decide), fun H2 s2 => ?_⟩⟩
      · have q := zeros.2
        rw [len_cd, cd_cat, List.length_append, ← len_cd, ← len_cd] at q
        exact Nat.le_trans q (by decide)
      rw [ones.1, zeros.1]
      refine ⟨(by show 2 ≤ sizeLine; decide), fun G1 hG1 => ⟨(by show 2 ≤ sizeLine; decide), fun G2 hG2 => ?_⟩⟩
      have c1 := Same_new (o := HO.lst [.bl true, .bl false]) hG1
      have c2 := Same_new (o := HO.lst [.bl true, .bl false]) hG2
      refine ⟨_, _, rfl, .inr ⟨G1, G2, [.bl true, .bl false], [.bl true, .bl false], rfl, rfl, rfl, by decide, fun j u v' h1 h2 => ?_, .inl ⟨c2 _ _ upd_same, upd_same⟩⟩, fun H3 s3 => ⟨_, rfl, iteF ?_⟩⟩
      · rw [h1] at h2
        cases h2
        match j, h1 with
        | 0, h1 =>
          cases h1
          exact ⟨rfl, trivial⟩
        | 1, h1 =>
          cases h1
          exact ⟨rfl, trivial⟩
        | j + 2, h1 => cases h1
      have sH := ((((sl.trans s1).trans s2).trans c1).trans c2).trans s3
      refine ⟨5, rfl, (by show 0 ≤ sizeLine; decide), fun l1 n1 => ⟨(by show 0 ≤ sizeLine; decide), fun t1 n2 => ⟨(by show 1 ≤ sizeLine; decide), fun l2 n3 => ⟨(by show 1 ≤ sizeLine; decide), fun t2 n4 => ⟨(by show 1 ≤ sizeLine; decide), fun l3 n5 => ⟨(by show 2 ≤ sizeLine; decide), fun t3 n6 => ⟨(by show 1 ≤ sizeLine; decide), fun l4 n7 => ⟨(by show 1 ≤ sizeLine; decide), fun l5 n8 => ?_⟩⟩⟩⟩⟩⟩⟩⟩
      refine ⟨(by show 12 ≤ sizeLine; decide), fun O1 nO1 => ?_⟩
      have a1 := Same_new (o := HO.lst []) n1
      have a2 := Same_new (o := HO.tup []) n2
      have a3 := Same_new (o := HO.lst [.str "a"]) n3
      have a4 := Same_new (o := HO.tup [.str "a"]) n4
      have a5 := Same_new (o := HO.lst [.str "a/2"]) n5
      have a6 := Same_new (o := HO.tup [.str "a", .int 2]) n6
      have a7 := Same_new (o := HO.lst [.str "a"]) n7
      have a8 := Same_new (o := HO.lst [.ref l4]) n8
      have a9 := Same_new (o := HO.lst [.non, .bl true, .int 0, .int 2, .int (-5), .ref l1, .ref t1, .ref l2, .ref t2, .ref l3, .ref t3, .ref l5]) nO1
      have eO1 := upd_same (H := upd (upd (upd (upd (upd (upd (upd (upd H3 l1 (HO.lst [])) t1 (HO.tup [])) l2 (HO.lst [.str "a"])) t2 (HO.tup [.str "a"])) l3 (HO.lst [.str "a/2"])) t3 (HO.tup [.str "a", .int 2])) l4 (HO.lst [.str "a"])) l5 (HO.lst [.ref l4])) (a := O1) (o := HO.lst [.non, .bl true, .int 0, .int 2, .int (-5), .ref l1, .ref t1, .ref l2, .ref t2, .ref l3, .ref t3, .ref l5])
      refine ⟨_, rfl, (by show 1 ≤ sizeLine; decide), fun ta nta => fun x1 dx1 m1 m2 m3 => ?_⟩
      have a10 := Same_new (o := HO.tup [.str "a"]) nta
      refine ⟨x1, ta, _, dx1, rfl, upd_same, SqT.of (Same_mk m1 m2 _ _ upd_same), B.df_Keys_init _, fun Hk kx kp => ⟨rfl, ?_⟩⟩
      have a11 := Same_made m1 m2 kp
      obtain ⟨dxk, _, _, _, ek, _⟩ := id kx
      refine ⟨(by show 1 ≤ sizeLine; decide), fun tb ntb => fun x2 dx2 m4 m5 m6 => ?_⟩
      have a12 := Same_new (o := HO.tup [.str "a"]) ntb
      refine ⟨x2, tb, _, dx2, rfl, upd_same, SqT.of (Same_mk m4 m5 _ _ upd_same), B.df_Keys_init _, fun Hk2 kx2 kp2 => ⟨rfl, ?_⟩⟩
      have a13 := Same_made m4 m5 kp2
      refine ⟨(by show 1 ≤ sizeLine; decide), fun tc ntc => fun x3 dx3 m7 m8 m9 => ?_⟩
      have a14 := Same_new (o := HO.tup [.str "a"]) ntc
      refine ⟨x3, x2, tc, dx3, rfl, upd_same, (kx2.keep a14).keep (Same_mk m7 m8), SqT.of (Same_mk m7 m8 _ _ upd_same), fun Hs fs efs kps => ⟨rfl, ?_⟩⟩
      have a15 := Same_made m7 m8 kps
      refine ⟨(by show 2 ≤ sizeLine; decide), fun O2 nO2 => ?_⟩
      have a16 := Same_new (o := HO.lst [.ref x1, .ref x3]) nO2
      have b16 := a16
      have b15 := a15.trans b16
      have b14 := a14.trans b15
      have b13 := a13.trans b14
      have b12 := a12.trans b13
      have b11 := a11.trans b12
      have b10 := a10.trans b11
      refine ⟨O1, O2, _, _, rfl, rfl, b10 _ _ eO1, upd_same, (by show 14 ≤ sizeLine; decide), fun O3 nO3 => ?_⟩
      have a17 := Same_new (o := HO.lst (([.non, .bl true, .int 0, .int 2, .int (-5), .ref l1, .ref t1, .ref l2, .ref t2, .ref l3, .ref t3, .ref l5] : List V) ++ [.ref x1, .ref x3])) nO3
      have c10 := b10.trans a17
      have c9 := a9.trans c10
      have c8 := a8.trans c9
      have c7 := a7.trans c8
      have c6 := a6.trans c7
      have c5 := a5.trans c6
      have c4 := a4.trans c5
      have c3 := a3.trans c4
      have c2 := a2.trans c3
      have c1 := a1.trans c2
      have sF := sH.trans c1
      have w1 := c2 _ _ (upd_same (H := H3) (a := l1) (o := HO.lst []))
      have w2 := c3 _ _ upd_same
      have w3 := c4 _ _ upd_same
      have w4 := c5 _ _ upd_same
      have w5 := c6 _ _ upd_same
      have w6 := c7 _ _ upd_same
      have w8 := c9 _ _ upd_same
      have w9 := (b12.trans a17) _ _ ek
      have w10 := (b16.trans a17) _ _ efs
      have hodd := odd_all w1 w2 w3 w4 w5 w6 w8 w9 w10
      have eO3 := upd_same (H := upd Hs O2 (HO.lst [.ref x1, .ref x3])) (a := O3) (o := HO.lst (([.non, .bl true, .int 0, .int 2, .int (-5), .ref l1, .ref t1, .ref l2, .ref t2, .ref l3, .ref t3, .ref l5] : List V) ++ [.ref x1, .ref x3]))
      refine ⟨_, rfl, O3, rfl, ⟨_, SqL.of eO3⟩, fun D1 nD1 => ?_⟩
      refine lc_fm (walk_list (xs := odd l1 t1 l2 t2 l3 t3 l5 x1 x3)) (fun _ => some (.bl false)) nD1 (by show 14 ≤ sizeLine; decide) (fun H' s' => SqL.of (s' _ _ eO3)) (fun i v H4 H5 Kt Kf hi s4 y kt kf => ?_) (fun H4 s4 hD1 => ?_)
      · obtain ⟨rfl, hx⟩ := y
        obtain ⟨t, ht, hk⟩ := (OddV.same s4 (hodd v (List.mem_of_getElem? hx))).notS B
        refine ⟨rfl, iteT (B := Kf H5) ?_⟩
        exact ⟨_, rfl, _, rfl, .inr ⟨t, ht, hk, kt _ _ rfl (Same.refl _)⟩⟩
      · refine ⟨_, rfl, O3, rfl, ⟨_, SqL.of (s4 _ _ eO3)⟩, fun D2 nD2 => ?_⟩
        refine lc_fm (walk_list (xs := odd l1 t1 l2 t2 l3 t3 l5 x1 x3)) (fun _ => some (.bl false)) nD2 (by show 14 ≤ sizeLine; decide) (fun H' s' => SqL.of (s' _ _ (s4 _ _ eO3))) (fun i v H5 H6 Kt Kf hi s5 y kt kf => ?_) (fun H5 s5 hD2 => ?_)
        · obtain ⟨rfl, hx⟩ := y
          obtain ⟨t, ht, hk⟩ := (OddV.same (s4.trans s5) (hodd v (List.mem_of_getElem? hx))).notS B
          refine ⟨rfl, iteT (B := Kf H6) ?_⟩
          exact ⟨_, rfl, _, rfl, .inr ⟨t, ht, hk, kt _ _ rfl (Same.refl _)⟩⟩
        · refine ⟨D1, D2, List.replicate 14 (.bl false), List.replicate 14 (.bl false), rfl, rfl, s5 _ _ hD1, hD2, (by show 28 ≤ sizeLine; decide), fun O4 nO4 => ?_⟩
          refine ⟨(by show 1 ≤ sizeLine; decide), fun R1 nR1 => ⟨R1, 28, _, rfl, rfl, upd_same, by decide, by decide, (by show 1 * 28 ≤ sizeLine; decide), fun R2 nR2 => ?_⟩⟩
          have e1 := Same_new (o := HO.lst (List.replicate 14 (.bl false) ++ List.replicate 14 (.bl false))) nO4
          have e2 := Same_new (o := HO.lst [.bl false]) nR1
          have e3 := Same_new (o := HO.lst ((List.replicate 28 [V.bl false]).flatten)) nR2
          have f1 := e3 _ _ (e2 _ _ (upd_same (H := H5) (a := O4) (o := HO.lst (List.replicate 14 (.bl false) ++ List.replicate 14 (.bl false)))))
          refine ⟨.list (List.replicate 28 (.bool false)), .list (List.replicate 28 (.bool false)), .lst (SqL.of f1) (DpAll_rep 28), .lst (SqL.of upd_same) (DpAll_rep 28), rfl, rfl, ?_⟩
          rw [show PyData.eqv (.list (List.replicate 28 (.bool false))) (.list (List.replicate 28 (.bool false))) = true by decide +kernel]
          exact k _ (((((sF.trans s4).trans s5).trans e1).trans e2).trans e3)
end
end Jd
namespace Jd
open PySem PySem.Spec PyProof.Rows L2
/-! ### all numbers that the law can put together -/
def overE : List Nat → Nat → List Nat → (Nat → List Nat → Bool) → Bool
  | [], m, fl, t => t m fl
  | p :: r, m, fl, t => (List.range 6).all fun k => if m * p ^ k ≤ 1000000 then overE r (m * p ^ k) (fl ++ powsOf p k) t else true
theorem prod_pos {e : Nat → Nat} : ∀ {l : List Nat}, (∀ p ∈ l, 2 ≤ p) → 1 ≤ prodOn l e
  | [], _ => Nat.le_refl 1
  | p :: l, h => by
    have h1 := prod_pos (e := e) fun q hq => h q (List.mem_cons_of_mem _ hq)
    have h2 : 1 ≤ p ^ e p := Nat.one_le_pow _ _ (by have := h p List.mem_cons_self; omega)
    exact Nat.le_trans h1 (Nat.le_mul_of_pos_left _ h2)
theorem overE_ok {e : Nat → Nat} {t : Nat → List Nat → Bool} (h5 : ∀ p, e p ≤ 5) : ∀ (l : List Nat) (m : Nat) (fl : List Nat), (∀ p ∈ l, 2 ≤ p) → overE l m fl t = true → m * prodOn l e ≤ 1000000 → t (m * prodOn l e) (fl ++ flatOn l e) = true
  | [], m, fl, _, h, _ => by
    show t (m * 1) (fl ++ []) = true
    rw [Nat.mul_one, List.append_nil]
    exact h
  | p :: l, m, fl, h2, h, hm => by
    have q := List.all_eq_true.mp h (e p) (List.mem_range.mpr (Nat.lt_succ_of_le (h5 p)))
    have h2' : ∀ p ∈ l, 2 ≤ p := fun x hx => h2 x (List.mem_cons_of_mem _ hx)
    have e1 : m * prodOn (p :: l) e = (m * p ^ e p) * prodOn l e := by
      show m * (p ^ e p * prodOn l e) = _
      rw [Nat.mul_assoc]
    have le1 : m * p ^ e p ≤ 1000000 := Nat.le_trans (Nat.le_mul_of_pos_right _ (prod_pos h2')) (by rw [← e1]; exact hm)
    rw [if_pos le1] at q
    have z := overE_ok h5 l _ _ h2' q (by rw [← e1]; exact hm)
    rw [e1, show fl ++ flatOn (p :: l) e = (fl ++ powsOf p (e p)) ++ flatOn l e by rw [List.append_assoc]; rfl]
    exact z
end Jd
namespace Jd
open PySem PySem.Spec PyProof.Rows L2
theorem cop_all : ∀ p ∈ prs, ∀ f ∈ List.range 1002, 2 ≤ f → f < p → Nat.gcd f p = 1 := by
  have h : prs.all (fun p => (List.range 1002).all fun f => Nat.blt f 2 || Nat.ble p f || Nat.beq (Nat.gcd f p) 1) = true := by decide +kernel
  intro p hp f hf h2 hlt
  have q := List.all_eq_true.mp (List.all_eq_true.mp h p hp) f hf
  rw [Bool.or_eq_true, Bool.or_eq_true] at q
  rcases q with (q | q) | q
  · have : f < 2 := Nat.le_of_ble_eq_true q
    omega
  · have := Nat.le_of_ble_eq_true q
    omega
  · exact Nat.eq_of_beq_eq_true q
end Jd
namespace Jd
open PySem PySem.Spec PyProof.Rows L2
/-! ### the powers of primes that are found -/
def prodL (l : List Nat) : Nat := l.foldr (· * ·) 1
def facL (l : List Nat) (e : Nat → Nat) : List Nat := l.flatMap fun p => List.replicate (e p) p
theorem prodL_app : ∀ (a b : List Nat), prodL (a ++ b) = prodL a * prodL b
  | [], b => (Nat.one_mul _).symm
  | x :: a, b => by
    show x * prodL (a ++ b) = x * prodL a * prodL b
    rw [prodL_app a b, Nat.mul_assoc]
theorem prodL_rep (p : Nat) : ∀ n, prodL (List.replicate n p) = p ^ n
  | 0 => rfl
  | n + 1 => by
    rw [List.replicate_succ]
    show p * prodL (List.replicate n p) = _
    rw [prodL_rep p n, Nat.pow_succ, Nat.mul_comm]
theorem prodL_fac (e : Nat → Nat) : ∀ l, prodL (facL l e) = prodOn l e
  | [] => rfl
  | p :: l => by
    show prodL (List.replicate (e p) p ++ facL l e) = p ^ e p * prodOn l e
    rw [prodL_app, prodL_rep, prodL_fac e l]
/-- primes of the law's, ascending -/
def Asc (L : List Nat) : Prop := L.Pairwise (· ≤ ·) ∧ ∀ p ∈ L, p ∈ prs
theorem Asc.tail {p : Nat} {L : List Nat} (h : Asc (p :: L)) : Asc L := ⟨(List.pairwise_cons.mp h.1).2, fun q hq => h.2 q (List.mem_cons_of_mem _ hq)⟩
theorem prodL_pos {L : List Nat} (h : ∀ p ∈ L, p ∈ prs) : 1 ≤ prodL L := by
  induction L with
  | nil => exact Nat.le_refl 1
  | cons p L ih =>
    have h1 := ih fun q hq => h q (List.mem_cons_of_mem _ hq)
    have h2 := (prs_le (h p List.mem_cons_self)).1
    exact Nat.mul_pos (by omega) h1
theorem prodL_big {L : List Nat} (h : ∀ p ∈ L, p ∈ prs) {p : Nat} (hp : p ∈ L) : p ≤ prodL L := by
  induction L with
  | nil => cases hp
  | cons x L ih =>
    have h1 := prodL_pos (L := L) fun q hq => h q (List.mem_cons_of_mem _ hq)
    have h2 := (prs_le (h x List.mem_cons_self)).1
    show p ≤ x * prodL L
    rcases List.mem_cons.mp hp with rfl | hp
    · exact Nat.le_mul_of_pos_right _ h1
    · exact Nat.le_trans (ih (fun q hq => h q (List.mem_cons_of_mem _ hq)) hp) (Nat.le_mul_of_pos_left _ (by omega))
theorem cop_L {f : Nat} (h2 : 2 ≤ f) (h1 : f ≤ 1001) : ∀ {L : List Nat}, (∀ p ∈ L, p ∈ prs ∧ f < p) → Nat.Coprime f (prodL L)
  | [], _ => Nat.coprime_one_right f
  | p :: L, h => by
    obtain ⟨hp, hl⟩ := h p List.mem_cons_self
    have c : Nat.Coprime f p := cop_all p hp f (List.mem_range.mpr (by omega)) h2 hl
    exact Nat.Coprime.mul_right c (cop_L h2 h1 fun q hq => h q (List.mem_cons_of_mem _ hq))
theorem lf_min {p g : Nat} {L : List Nat} (hA : Asc (p :: L)) (hm : prodL (p :: L) ≤ 1000000) (hg : 1000 ≤ g) : ∀ (k f : Nat), 2 ≤ f → f ≤ p → 1002 ≤ f + k → lfF (prodL (p :: L)) g k f = p := by
  have hp := hA.2 p List.mem_cons_self
  have last : ∀ f, f ≤ p → prodL (p :: L) < f * f → prodL (p :: L) = p := by
    intro f hf hlt
    cases L with
    | nil => exact Nat.mul_one p
    | cons q L' =>
      have hq : p ≤ q := (List.pairwise_cons.mp hA.1).1 q List.mem_cons_self
      have hb : q ≤ prodL (q :: L') := prodL_big (fun x hx => hA.2 x (List.mem_cons_of_mem _ hx)) List.mem_cons_self
      have h1 : p * p ≤ p * prodL (q :: L') := Nat.mul_le_mul_left p (Nat.le_trans hq hb)
      have h2 : f * f ≤ p * p := Nat.mul_le_mul hf hf
      have h3 : prodL (p :: q :: L') = p * prodL (q :: L') := rfl
      omega
  intro k
  induction k with
  | zero =>
    intro f h2 hf hk
    refine last f hf ?_
    have : 1002 * 1002 ≤ f * f := Nat.mul_le_mul (by omega) (by omega)
    omega
  | succ k ih =>
    intro f h2 hf hk
    rw [lfF_s]
    by_cases c : f ≤ g ∧ f * f ≤ prodL (p :: L)
    · rw [if_pos c]
      have hf1 : f ≤ 1000 := by
        rcases Nat.lt_or_ge 1000 f with z | z
        · have : 1001 * 1001 ≤ f * f := Nat.mul_le_mul z z
          omega
        · exact z
      rcases Nat.lt_or_ge f p with z | z
      · have hall : ∀ q ∈ p :: L, q ∈ prs ∧ f < q := fun q hq => ⟨hA.2 q hq, by
          rcases List.mem_cons.mp hq with rfl | hq
          · exact z
          · have := (List.pairwise_cons.mp hA.1).1 q hq
            omega⟩
        have nd : ¬ prodL (p :: L) % f = 0 := fun q => by
          have := Nat.Coprime.eq_one_of_dvd (cop_L h2 (by omega) hall) (Nat.dvd_of_mod_eq_zero q)
          omega
        rw [if_neg nd]
        exact ih (f + 1) (by omega) z (by omega)
      · have e : f = p := Nat.le_antisymm hf z
        subst e
        rw [if_pos (by show f * prodL L % f = 0; exact Nat.mul_mod_right f _)]
    · rw [if_neg c]
      refine last f hf ?_
      rcases Nat.lt_or_ge g f with z | z
      · have : 1001 * 1001 ≤ f * f := Nat.mul_le_mul (by omega) (by omega)
        omega
      · omega
theorem sf_min {p : Nat} {L : List Nat} (hA : Asc (p :: L)) (hm : prodL (p :: L) ≤ 1000000) : sf (prodL (p :: L)) = p :=
  lf_min hA hm (Nat.le_refl _) 1000 2 (Nat.le_refl 2) (prs_le (hA.2 p List.mem_cons_self)).1 (by decide)
def addP (p : Nat) (a : List Nat) : List Nat := if p ∈ a then a else a ++ [p]
def addAll (L a : List Nat) : List Nat := L.foldr addP a
theorem pm_one {p k : Nat} {st pr : List Nat} (hp : p ∈ prs) : pmRun (k + 1) (p :: st) pr = pmRun k st (addP p pr) := by
  have hA : Asc [p] := ⟨List.pairwise_singleton _ _, fun q hq => by rw [List.mem_singleton.mp hq]; exact hp⟩
  have h2 := prs_le hp
  have e : prodL [p] = p := Nat.mul_one p
  have es : sf p = p := by
    have q := sf_min hA (by rw [e]; omega)
    rw [e] at q
    exact q
  show (if sf p ≠ p then _ else if 1 < p ∧ p ∉ pr then pmRun k st (pr ++ [p]) else pmRun k st pr) = _
  rw [if_neg (fun z => z es)]
  unfold addP
  by_cases c : p ∈ pr
  · rw [if_neg (fun z => z.2 c), if_pos c]
  · rw [if_pos ⟨by omega, c⟩, if_neg c]
theorem pm_run : ∀ (L : List Nat) (p j : Nat) (st pr : List Nat), Asc (p :: L) → prodL (p :: L) ≤ 1000000 → pmRun (j + 2 * L.length + 1) (prodL (p :: L) :: st) pr = pmRun j st (addAll (p :: L) pr)
  | [], p, j, st, pr, hA, hm => by
    have e : prodL [p] = p := Nat.mul_one p
    rw [e]
    exact pm_one (hA.2 p List.mem_cons_self)
  | q :: L, p, j, st, pr, hA, hm => by
    have hp := hA.2 p List.mem_cons_self
    have hp2 := (prs_le hp).1
    have es := sf_min hA hm
    have hb : q ≤ prodL (q :: L) := prodL_big (fun x hx => hA.2 x (List.mem_cons_of_mem _ hx)) List.mem_cons_self
    have hq2 := (prs_le (hA.2 q (List.mem_cons_of_mem _ List.mem_cons_self))).1
    have e3 : prodL (p :: q :: L) = p * prodL (q :: L) := rfl
    have hlt : p < prodL (p :: q :: L) := by
      rw [e3]
      have : p * 2 ≤ p * prodL (q :: L) := Nat.mul_le_mul_left p (by omega)
      omega
    have hle : prodL (q :: L) ≤ prodL (p :: q :: L) := by rw [e3]; exact Nat.le_mul_of_pos_left _ (by omega)
    show (if sf (prodL (p :: q :: L)) ≠ prodL (p :: q :: L) then pmRun (j + 2 * (q :: L).length) (prodL (p :: q :: L) / sf (prodL (p :: q :: L)) :: sf (prodL (p :: q :: L)) :: st) pr else _) = _
    rw [es, if_pos (by omega), e3, Nat.mul_div_cancel_left _ (by omega : 0 < p)]
    rw [show j + 2 * (q :: L).length = (j + 1) + 2 * L.length + 1 by rw [List.length_cons]; omega]
    rw [pm_run L q (j + 1) (p :: st) pr hA.tail (by omega), pm_one hp]
    rfl
theorem add_rep {p : Nat} {R : List Nat} (h : p ∉ R) : ∀ n, addAll (List.replicate n p) R = if n = 0 then R else R ++ [p]
  | 0 => rfl
  | n + 1 => by
    rw [List.replicate_succ, if_neg (Nat.succ_ne_zero n)]
    show addP p (addAll (List.replicate n p) R) = _
    rw [add_rep h n]
    unfold addP
    by_cases c : n = 0
    · rw [if_pos c, if_neg h]
    · rw [if_neg c, if_pos (List.mem_append_right _ (List.mem_singleton.mpr rfl))]
theorem add_fac (e : Nat → Nat) : ∀ {l : List Nat}, l.Nodup → addAll (facL l e) [] = (l.filter fun p => decide (0 < e p)).reverse
  | [], _ => rfl
  | p :: l, h => by
    obtain ⟨h1, h2⟩ := List.nodup_cons.mp h
    show addAll (List.replicate (e p) p ++ facL l e) [] = _
    unfold addAll
    rw [List.foldr_append]
    have ih := add_fac e h2
    unfold addAll at ih
    rw [ih]
    have q := add_rep (p := p) (R := (l.filter fun p => decide (0 < e p)).reverse) (fun z => h1 (List.mem_filter.mp (List.mem_reverse.mp z)).1) (e p)
    unfold addAll at q
    rw [q, List.filter_cons]
    by_cases c : e p = 0
    · rw [if_pos c, if_neg (by rw [decide_eq_false (by omega)]; decide)]
    · rw [if_neg c, if_pos (decide_eq_true (by omega)), List.reverse_cons]
theorem fac_mem {e : Nat → Nat} {l : List Nat} {p : Nat} (h : p ∈ facL l e) : p ∈ l := by
  obtain ⟨q, hq, hp⟩ := List.mem_flatMap.mp h
  rw [List.eq_of_mem_replicate hp]
  exact hq
theorem fac_asc (e : Nat → Nat) : ∀ {l : List Nat}, l.Pairwise (· < ·) → (facL l e).Pairwise (· ≤ ·)
  | [], _ => .nil
  | p :: l, h => by
    obtain ⟨h1, h2⟩ := List.pairwise_cons.mp h
    show (List.replicate (e p) p ++ facL l e).Pairwise (· ≤ ·)
    refine List.pairwise_append.mpr ⟨List.pairwise_replicate.mpr (.inr (Nat.le_refl p)), fac_asc e h2, fun a ha b hb => ?_⟩
    rw [List.eq_of_mem_replicate ha]
    exact Nat.le_of_lt (h1 b (fac_mem hb))
theorem fac_len {e : Nat → Nat} (h5 : ∀ p, e p ≤ 5) : ∀ l, (facL l e).length ≤ 5 * l.length
  | [] => Nat.le_refl 0
  | p :: l => by
    show (List.replicate (e p) p ++ facL l e).length ≤ _
    rw [List.length_append, List.length_replicate, List.length_cons]
    have := fac_len h5 l
    have := h5 p
    omega
/-! ### the powers -/
theorem cop_prs : ∀ p ∈ prs, ∀ q ∈ prs, p ≠ q → Nat.gcd p q = 1 := by decide +kernel
theorem rest_of {e : Nat → Nat} {p : Nat} : ∀ {l : List Nat}, l.Nodup → p ∈ l → prodOn l e = p ^ e p * prodOn (l.filter fun q => decide (q ≠ p)) e
  | x :: l, hn, h => by
    obtain ⟨h1, h2⟩ := List.nodup_cons.mp hn
    show x ^ e x * prodOn l e = _
    rcases List.mem_cons.mp h with rfl | h
    · have : (p :: l).filter (fun q => decide (q ≠ p)) = l := by
        rw [List.filter_cons, if_neg (by simp)]
        exact List.filter_eq_self.mpr fun a ha => decide_eq_true fun z => h1 (z ▸ ha)
      rw [this]
    · have ne : x ≠ p := fun z => h1 (z ▸ h)
      rw [List.filter_cons, if_pos (decide_eq_true ne), rest_of h2 h]
      show _ = p ^ e p * (x ^ e x * prodOn (l.filter fun q => decide (q ≠ p)) e)
      rw [← Nat.mul_assoc, ← Nat.mul_assoc, Nat.mul_comm (x ^ e x)]
theorem cop_on {e : Nat → Nat} {p : Nat} (hp : p ∈ prs) : ∀ {l : List Nat}, (∀ q ∈ l, q ∈ prs ∧ q ≠ p) → Nat.Coprime p (prodOn l e)
  | [], _ => Nat.coprime_one_right p
  | q :: l, h => by
    obtain ⟨hq, ne⟩ := h q List.mem_cons_self
    exact Nat.Coprime.mul_right (Nat.Coprime.pow_right _ (cop_prs p hp q hq ne.symm)) (cop_on hp fun x hx => h x (List.mem_cons_of_mem _ hx))
theorem in_strip {m p a r : Nat} (hp : 2 ≤ p) (hm : m = p ^ a * r) (hr : ¬ p ∣ r) : ∀ (d i k : Nat) (acc : List Nat), d + i = a → d < k → acc.length + d < 1000 → ppIn k m (p ^ (i + 1)) p acc = some (acc ++ (List.range d).map fun j => p ^ (i + j + 1))
  | 0, i, k + 1, acc, hd, _, _ => by
    have e : i = a := by omega
    subst e
    unfold ppIn
    rw [if_neg]
    · simp
    · intro z
      have d := Nat.dvd_of_mod_eq_zero z
      rw [hm, Nat.pow_succ] at d
      exact hr (Nat.dvd_of_mul_dvd_mul_left (Nat.pow_pos (by omega)) d)
  | d + 1, i, k + 1, acc, hd, hk, hl => by
    unfold ppIn
    have e : p ^ a = p ^ (i + 1) * p ^ d := by rw [← Nat.pow_add]; congr 1; omega
    rw [if_pos (by rw [hm, e, Nat.mul_assoc]; exact Nat.mul_mod_right _ _), if_pos (by omega), ← Nat.pow_succ, in_strip hp hm hr d (i + 1) k (acc ++ [p ^ (i + 1)]) (by omega) (by omega) (by rw [List.length_append]; show acc.length + 1 + d < 1000; omega)]
    rw [List.append_assoc, List.range_succ_eq_map, List.map_cons, List.map_map]
    refine congrArg (fun z => some (acc ++ z)) ?_
    show p ^ (i + 1) :: List.map (fun j => p ^ (i + 1 + j + 1)) (List.range d) = p ^ (i + 1) :: List.map ((fun j => p ^ (i + j + 1)) ∘ Nat.succ) (List.range d)
    refine congrArg (List.cons _) (List.map_congr_left fun j _ => ?_)
    show p ^ (i + 1 + j + 1) = p ^ (i + (j + 1) + 1)
    congr 1
    omega
theorem pp_all {e : Nat → Nat} (h5 : ∀ p, e p ≤ 5) : ∀ (l acc : List Nat), (∀ p ∈ l, p ∈ prs) → acc.length + 5 * l.length < 900 → ppAll (prodOn prs e) l acc = some (acc ++ flatOn l e)
  | [], acc, _, _ => by
    show some acc = some (acc ++ [])
    rw [List.append_nil]
  | p :: l, acc, hl, ha => by
    have hp := hl p List.mem_cons_self
    have hp2 := (prs_le hp).1
    have hnd : prs.Nodup := by decide
    have hr : ¬ p ∣ prodOn (prs.filter fun q => decide (q ≠ p)) e := fun z => by
      have c := cop_on (e := e) hp (l := prs.filter fun q => decide (q ≠ p)) fun q hq => ⟨(List.mem_filter.mp hq).1, of_decide_eq_true (List.mem_filter.mp hq).2⟩
      have := Nat.Coprime.eq_one_of_dvd c z
      omega
    rw [List.length_cons] at ha
    have q := in_strip hp2 (rest_of (e := e) hnd hp) hr (e p) 0 64 acc (by omega) (by have := h5 p; omega) (by have := h5 p; omega)
    rw [Nat.zero_add, Nat.pow_one] at q
    unfold ppAll
    rw [q]
    have ep : (List.range (e p)).map (fun j => p ^ (0 + j + 1)) = powsOf p (e p) := by
      unfold powsOf
      exact List.map_congr_left fun j _ => by rw [Nat.zero_add]
    rw [ep]
    have z := pp_all h5 l (acc ++ powsOf p (e p)) (fun x hx => hl x (List.mem_cons_of_mem _ hx)) (by
      rw [List.length_append]
      have : (powsOf p (e p)).length = e p := by unfold powsOf; rw [List.length_map, List.length_range]
      have := h5 p
      omega)
    rw [List.append_assoc] at z
    exact z
theorem flat_filter (e : Nat → Nat) : ∀ l, flatOn (l.filter fun p => decide (0 < e p)) e = flatOn l e
  | [] => rfl
  | p :: l => by
    rw [List.filter_cons]
    by_cases c : 0 < e p
    · rw [if_pos (decide_eq_true c)]
      show powsOf p (e p) ++ flatOn _ e = powsOf p (e p) ++ flatOn l e
      rw [flat_filter e l]
    · rw [if_neg (by rw [decide_eq_false c]; decide), flat_filter e l]
      show _ = powsOf p (e p) ++ flatOn l e
      rw [show e p = 0 by omega]
      rfl
theorem flat_perm (e : Nat → Nat) {l l' : List Nat} (h : l.Perm l') : (flatOn l e).Perm (flatOn l' e) := by
  unfold flatOn
  exact h.flatMap_right _
theorem pps_all {e : Nat → Nat} (h5 : ∀ p, e p ≤ 5) (hm : prodOn prs e ≤ 1000000) (h2 : 2 ≤ prodOn prs e) : ∃ L, PPs (prodOn prs e) L ∧ L.Perm (flatOn prs e) := by
  have hlt : prs.Pairwise (· < ·) := by decide
  have hnd : prs.Nodup := by decide
  refine ⟨flatOn (prs.filter fun p => decide (0 < e p)).reverse e, ⟨⟨by omega, hm⟩, (prs.filter fun p => decide (0 < e p)).reverse, ?_, ?_, ?_, ?_⟩, ?_⟩
  · have hA : Asc (facL prs e) := ⟨fac_asc e hlt, fun p hp => fac_mem hp⟩
    have eP := prodL_fac e prs
    have eR := add_fac e hnd
    have hlen := fac_len h5 prs
    rw [← eP] at hm h2 ⊢
    rw [← eR]
    cases hF : facL prs e with
    | nil =>
      rw [hF] at h2
      exact absurd h2 (by decide)
    | cons p L =>
      rw [hF] at hA hm hlen
      have hlen' : L.length + 1 ≤ 45 := hlen
      have q := pm_run L p (100 - (2 * L.length + 1)) [] [] hA hm
      rw [show 100 - (2 * L.length + 1) + 2 * L.length + 1 = 100 by omega] at q
      rw [q]
      cases 100 - (2 * L.length + 1) <;> rfl
  · intro p hp
    have hp' := (List.mem_filter.mp (List.mem_reverse.mp hp)).1
    have := prs_le hp'
    exact ⟨by omega, by omega⟩
  · rw [List.length_reverse]
    exact Nat.le_trans (List.length_filter_le _ _) (by decide)
  · have q := pp_all h5 (prs.filter fun p => decide (0 < e p)).reverse [] (fun p hp => (List.mem_filter.mp (List.mem_reverse.mp hp)).1) (by
      rw [List.length_reverse]
      have : (prs.filter fun p => decide (0 < e p)).length ≤ 9 := List.length_filter_le _ _
      show 0 + _ < 900
      omega)
    rw [List.nil_append] at q
    exact q
  · refine (flat_perm e (List.reverse_perm _)).trans ?_
    rw [flat_filter]
end Jd
namespace Jd
open PySem PySem.Spec PyProof.Rows L2
/-! ### what is checked of each number and of each power -/
def goodM (m : Nat) (fl : List Nat) : Bool := decide (m < 2) || (decide (isPP m = some (decide ((fl.filter fun x => decide (x = m)).length = 1))) && decide fl.Nodup && isModC (TL.numL m) && decide (numOf (TL.numL m) = (m : Int)) && decide ((TL.numL m).length ≤ 10))
theorem all_goodM : overE prs 1 [] goodM = true := by decide +kernel
def powOk (n : Nat) : Bool := (decide (0 < n) && decide (n < 1000000000000000000) && decide ((zf60 n ++ Str.empty).length ≤ 1000) && decide ((zf60 n).length ≤ 1000) && decide ((dig60 n).length ≤ 1000 ∧ (dig60 n).length ≠ 0)) && decide (cd (dig60 n) = TL.numL n) && decide (isPP n = some true) && isModC (TL.numL n) && decide (numOf (TL.numL n) = (n : Int)) && decide ((TL.numL n).length ≤ 10)
theorem all_pow : (prs.all fun p => (List.range 5).all fun i => decide (1000000 < p ^ (i + 1)) || powOk (p ^ (i + 1))) = true := by decide +kernel
def single (p k : Nat) : Nat → Nat := fun q => if q = p then k else 0
theorem all_single : (prs.all fun p => (List.range 6).all fun k => decide (prodOn prs (single p k) = p ^ k) && decide (flatOn prs (single p k) = powsOf p k)) = true := by decide +kernel
theorem mem_flat {e : Nat → Nat} {n : Nat} : ∀ {l : List Nat}, n ∈ flatOn l e → ∃ p ∈ l, ∃ i, i < e p ∧ n = p ^ (i + 1)
  | [], h => nomatch h
  | p :: l, h => by
    have h' : n ∈ powsOf p (e p) ++ flatOn l e := h
    rcases List.mem_append.mp h' with h | h
    · obtain ⟨i, hi, rfl⟩ := List.mem_map.mp h
      exact ⟨p, List.mem_cons_self, i, List.mem_range.mp hi, rfl⟩
    · obtain ⟨q, hq, i, hi, e1⟩ := mem_flat h
      exact ⟨q, List.mem_cons_of_mem _ hq, i, hi, e1⟩
theorem pow_le_prod {e : Nat → Nat} {p : Nat} : ∀ {l : List Nat}, (∀ q ∈ l, 2 ≤ q) → p ∈ l → p ^ e p ≤ prodOn l e
  | [], _, h => nomatch h
  | q :: l, h2, h => by
    have hl : ∀ x ∈ l, 2 ≤ x := fun x hx => h2 x (List.mem_cons_of_mem _ hx)
    show p ^ e p ≤ q ^ e q * prodOn l e
    rcases List.mem_cons.mp h with rfl | h
    · exact Nat.le_mul_of_pos_right _ (prod_pos hl)
    · exact Nat.le_trans (pow_le_prod hl h) (Nat.le_mul_of_pos_left _ (Nat.one_le_pow _ _ (by have := h2 q List.mem_cons_self; omega)))
/-- a number of the law's, whole -/
structure NumF (m : Nat) (fl : List Nat) : Prop where
  out : PPs m fl
  le : m ≤ 1000000
  pp : isPP m = some (decide ((fl.filter fun x => decide (x = m)).length = 1))
  nd : fl.Nodup
  md : isModC (TL.numL m) = true
  val : numOf (TL.numL m) = (m : Int)
  len : (TL.numL m).length ≤ 10
  few : fl.length ≤ 45
/-- a power of a prime -/
structure PowF (n : Nat) : Prop where
  ok : numOk n
  dig : cd (dig60 n) = TL.numL n
  pp : isPP n = some true
  le : n ≤ 1000000
  two : 2 ≤ n
  md : isModC (TL.numL n) = true
  val : numOf (TL.numL n) = (n : Int)
  len : (TL.numL n).length ≤ 10
  pos : 0 < n
  out : ∃ L : List Nat, PPs n L ∧ n ∈ L ∧ L.length ≤ 45 ∧ ∀ x ∈ L, numOk x
theorem num_facts {m : Nat} {pws : List Nat} (h : NumR m pws) (h2 : 2 ≤ m) : ∃ fl, pws.Perm fl ∧ NumF m fl ∧ ∀ n ∈ fl, PowF n := by
  obtain ⟨e, h5, ha, hm, pm⟩ := h
  have q := overE_ok h5 prs 1 [] (fun p hp => (prs_le hp).1) all_goodM (by rw [Nat.one_mul, ← ha]; exact hm)
  rw [Nat.one_mul, List.nil_append, ← ha] at q
  unfold goodM at q
  rw [decide_eq_false (by omega), Bool.false_or] at q
  simp only [Bool.and_eq_true, decide_eq_true_eq] at q
  obtain ⟨⟨⟨⟨q1, q2⟩, q3⟩, q4⟩, q5⟩ := q
  have basic : ∀ {p i : Nat}, p ∈ prs → i < 5 → p ^ (i + 1) ≤ 1000000 → powOk (p ^ (i + 1)) = true := fun {p i} hp hi hle => by
    have z := List.all_eq_true.mp (List.all_eq_true.mp all_pow p hp) i (List.mem_range.mpr hi)
    rw [decide_eq_false (by omega), Bool.false_or] at z
    exact z
  have okp : ∀ {n : Nat}, powOk n = true → numOk n := fun {n} hn => by
    unfold powOk at hn
    simp only [Bool.and_eq_true, decide_eq_true_eq] at hn
    exact ⟨hn.1.1.1.1.1.1.1.1.1, hn.1.1.1.1.1.1.1.1.2, hn.1.1.1.1.1.1.1.2, hn.1.1.1.1.1.1.2, hn.1.1.1.1.1.2⟩
  obtain ⟨L, hL, pL⟩ := pps_all h5 (by rw [← ha]; exact hm) (by rw [← ha]; exact h2)
  refine ⟨L, pm.trans pL.symm, ⟨by rw [ha]; exact hL, hm, ?_, pL.nodup_iff.mpr q2, q3, q4, q5, by rw [pL.length_eq]; exact flat_len h5⟩, fun n hn => ?_⟩
  · rw [q1, (pL.filter _).length_eq]
  obtain ⟨p, hp, i, hi, rfl⟩ := mem_flat (pL.mem_iff.mp hn)
  have h5p := h5 p
  have hp2 := (prs_le hp).1
  have hle : p ^ (i + 1) ≤ 1000000 := Nat.le_trans (Nat.pow_le_pow_right (by omega) hi) (Nat.le_trans (pow_le_prod (fun x hx => (prs_le hx).1) hp) (by rw [← ha]; exact hm))
  have hge : 2 ≤ p ^ (i + 1) := Nat.le_trans (by rw [Nat.pow_one]; exact hp2) (Nat.pow_le_pow_right (by omega) (by omega : 1 ≤ i + 1))
  have hb := basic hp (by omega : i < 5) hle
  have hok := okp hb
  unfold powOk at hb
  simp only [Bool.and_eq_true, decide_eq_true_eq] at hb
  obtain ⟨⟨⟨⟨⟨_, b1⟩, b2⟩, b3⟩, b4⟩, b5⟩ := hb
  have z := List.all_eq_true.mp (List.all_eq_true.mp all_single p hp) (i + 1) (List.mem_range.mpr (by omega))
  simp only [Bool.and_eq_true, decide_eq_true_eq] at z
  have h5s : ∀ x, single p (i + 1) x ≤ 5 := fun x => by
    unfold single
    split
    · omega
    · omega
  obtain ⟨L', hL', pL'⟩ := pps_all h5s (by rw [z.1]; exact hle) (by rw [z.1]; exact hge)
  rw [z.1] at hL'
  rw [z.2] at pL'
  refine ⟨hok, b1, b2, hle, hge, b3, b4, b5, hok.1, L', hL', ?_, ?_, ?_⟩
  · exact pL'.mem_iff.mpr (List.mem_map.mpr ⟨i, List.mem_range.mpr (Nat.lt_succ_self i), rfl⟩)
  · rw [pL'.length_eq]
    unfold powsOf
    rw [List.length_map, List.length_range]
    omega
  · intro x hx
    obtain ⟨j, hj, rfl⟩ := List.mem_map.mp (pL'.mem_iff.mp hx)
    have hj' := List.mem_range.mp hj
    exact okp (basic hp (by omega) (Nat.le_trans (Nat.pow_le_pow_right (by omega) (by omega)) hle))
end Jd
namespace Jd
open PySem PySem.Spec PyProof.Rows L2
/-! ### sorted texts are told by their order; the law's texts -/
theorem rising_le : ∀ (l : List Str) (p : Str), risingS p l = true → ∀ y ∈ l, cd p ≤ cd y
  | [], _, _, _, h => nomatch h
  | x :: r, p, h, y, hy => by
    have h' : (!ltCps x.cps.toList p.cps.toList && risingS x r) = true := h
    rw [Bool.and_eq_true] at h'
    obtain ⟨h1, h2⟩ := h'
    have px : cd p ≤ cd x := by
      rw [ltCps_eq] at h1
      have h3 : ¬ cd x < cd p := fun q => by
        rw [decide_eq_true (show x.cps.toList < p.cps.toList from q)] at h1
        cases h1
      exact List.not_lt.mp h3
    rcases List.mem_cons.mp hy with rfl | hy
    · exact px
    · exact List.le_trans px (rising_le r x h2 y hy)
theorem sorted_pw : ∀ (l : List Str), sortedS l = true → l.Pairwise fun a b => cd a ≤ cd b
  | [], _ => List.Pairwise.nil
  | [x], _ => List.pairwise_singleton _ _
  | x :: y :: r, h => by
    have h' : risingS x (y :: r) = true := h
    have h2 : (!ltCps y.cps.toList x.cps.toList && risingS y r) = true := h
    rw [Bool.and_eq_true] at h2
    exact List.pairwise_cons.mpr ⟨rising_le _ _ h', sorted_pw (y :: r) h2.2⟩
theorem sorted_one {xs ys : List Str} (pm : xs.Perm ys) (hx : sortedS xs = true) (hy : sortedS ys = true) : xs = ys :=
  pm.eq_of_pairwise (fun a b _ _ h1 h2 => cd_ext (List.le_antisymm h1 h2)) (sorted_pw xs hx) (sorted_pw ys hy)
theorem txAll_perm : ∀ (xs acc : List Str), (xs ++ acc).Nodup → (xs.foldl txAdd acc).Perm (xs ++ acc)
  | [], acc, _ => List.Perm.refl _
  | x :: r, acc, h => by
    have h' : (x :: (r ++ acc)).Nodup := h
    obtain ⟨h1, h2⟩ := List.nodup_cons.mp h'
    have hx : x ∉ acc := fun q => h1 (List.mem_append_right _ q)
    have e : txAdd acc x = x :: acc := by unfold txAdd; rw [if_neg hx]
    show (r.foldl txAdd (txAdd acc x)).Perm (x :: (r ++ acc))
    rw [e]
    have pm : (r ++ x :: acc).Perm (x :: (r ++ acc)) := List.perm_middle
    exact (txAll_perm r (x :: acc) (pm.nodup_iff.mpr h')).trans pm
def owns : List Str := ["a", "z", "#", "user", "tells", "abcdefgh", "zzzzzzzz"]
structure OwnF (o : Str) : Prop where
  fld : isFieldB o = true
  num : fieldNum o = 0
  nam : fieldName o = o
  no : 47 ∉ cd o
  ok : (!decide (V.str o = V.str "#") && !isName (cd o)) = false
  zno : 47 ∉ cd ("0" ++ o)
  bad : (!decide (V.str ("0" ++ o) = V.str "#") && !isName (cd ("0" ++ o))) = true
  len : o.length ≤ 8
theorem own_facts {o : Str} (h : o ∈ owns) : OwnF o := by
  simp only [owns, List.mem_cons, List.not_mem_nil, or_false] at h
  rcases h with rfl | rfl | rfl | rfl | rfl | rfl | rfl <;> exact ⟨by decide +kernel, by decide +kernel, by decide +kernel, by decide +kernel, by decide +kernel, by decide +kernel, by decide +kernel, by decide +kernel⟩
/-- the digits of a number, as a text -/
def dec (n : Nat) : Str := Str.ofString (toString ((n : Nat) : Int))
theorem cd_dec (n : Nat) : cd (dec n) = TL.numL n := TL.tl_num n
/-- the FIELD that the law writes -/
def ltext (o : Str) (n : Nat) : Str := Str.empty ++ o ++ "/" ++ dec n
theorem cd_ltext (o : Str) (n : Nat) : cd (ltext o n) = cd o ++ 47 :: cd (dec n) := by
  unfold ltext
  rw [cd_cat, cd_cat, cd_cat, show cd Str.empty = [] from rfl, show cd ("/" : Str) = [47] by decide +kernel, List.nil_append, List.append_assoc]
  rfl
theorem ftext_eq {o : Str} {n : Nat} (h : cd (dig60 n) = TL.numL n) : ftext o n = ltext o n := by
  refine cd_ext ?_
  unfold ftext ltext
  rw [cd_cat, cd_cat _ (dec n), h, cd_dec]
theorem ltext_len {o : Str} {n : Nat} (ho : OwnF o) (h : (TL.numL n).length ≤ 10) : (ltext o n).length ≤ 30 := by
  rw [len_cd, cd_ltext, List.length_append, List.length_cons, cd_dec, ← len_cd]
  have := ho.len
  omega
theorem ltext_field {o : Str} {n : Nat} (ho : OwnF o) (h : isModC (TL.numL n) = true) (hv : numOf (TL.numL n) = (n : Int)) : isFieldB (ltext o n) = true ∧ fieldName (ltext o n) = o ∧ fieldNum (ltext o n) = (n : Int) := by
  obtain ⟨e1, e2, e3⟩ := field_at (cd_ltext o n) ho.no
  rw [e1, e2, e3, cd_dec, h, hv, ho.ok]
  exact ⟨rfl, rfl, rfl⟩
theorem mod_no {l : List Nat} (h : l.all digitB = false) : isModC l = false := by
  unfold isModC
  rw [h]
  split <;> rfl
theorem behind_no {o : Str} {n : Nat} (ho : OwnF o) : isFieldB (ltext o n ++ "/") = false := by
  have hx : cd (ltext o n ++ "/") = cd o ++ 47 :: cd (dec n ++ "/") := by
    rw [cd_cat, cd_ltext, cd_cat (dec n), List.append_assoc]
    rfl
  rw [(field_at hx ho.no).1, ho.ok, cd_cat, show cd ("/" : Str) = [47] by decide +kernel]
  have e : (cd (dec n) ++ [47]).all digitB = false := by
    rw [List.all_append, show ([47] : List Nat).all digitB = false by decide +kernel, Bool.and_false]
  rw [mod_no e]
  rfl
theorem ahead_no {o : Str} {n : Nat} (ho : OwnF o) : isFieldB ("0" ++ ltext o n) = false := by
  have hx : cd (("0" : Str) ++ ltext o n) = cd (("0" : Str) ++ o) ++ 47 :: cd (dec n) := by
    rw [cd_cat, cd_ltext, cd_cat, List.append_assoc]
  rw [(field_at hx ho.zno).1, ho.bad]
  rfl
theorem ltext_inj {o : Str} {m n : Nat} (h : ltext o m = ltext o n) : m = n := by
  have q : cd (ltext o m) = cd (ltext o n) := by rw [h]
  rw [cd_ltext, cd_ltext] at q
  have q2 := List.append_cancel_left q
  injection q2 with _ q3
  rw [cd_dec, cd_dec] at q3
  exact TL.numL_inj q3
theorem ltext_nd {o : Str} {l : List Nat} (h : l.Nodup) : (l.map (ltext o)).Nodup := by
  rw [List.nodup_iff_pairwise_ne, List.pairwise_map]
  exact h.imp fun ne e => ne (ltext_inj e)
/-- the two ways to write the powers give one tuple -/
theorem parts_eq {o : Str} {pws fl : List Nat} {ys zs : List Str} (pm : pws.Perm fl) (nd : fl.Nodup) (hp : ∀ n ∈ fl, PowF n) (py : ys.Perm (txAll (fl.map (ftext o)))) (sy : sortedS ys = true) (pz : zs.Perm (pws.map (ltext o))) (sz : sortedS zs = true) : ys = zs := by
  have e : fl.map (ftext o) = fl.map (ltext o) := List.map_congr_left fun n hn => ftext_eq (hp n hn).dig
  rw [e] at py
  have q := txAll_perm (fl.map (ltext o)) [] (by rw [List.append_nil]; exact ltext_nd nd)
  rw [List.append_nil] at q
  exact sorted_one (py.trans (q.trans ((pm.map (ltext o)).symm.trans pz.symm))) sy sz
end Jd
namespace Jd
open PySem PySem.Spec PyProof.Rows L2
/-! ### calls by keywords alone -/
section
variable {X : Cx} {CX : CXT} {k : Nat} {f : Addr} {fd : FuncData} {ps ks : List Str} {sp : Sp} {E : XK} {x : Str} {p pos : Pos} {kws : List Keyword} {tk : TA} {g : List Value → List Value → List Value} {gV : List V → List V → List V}
theorem pe_callK0 (F : FnOk X.prog X.w X.K X.mg X.base CX k f fd ps sp) (hr : Room k X.A) (hg : Gl X x) (hm : X.mg x = some (.ref f)) (hk : PySem.W.keepIn X.K (.ref f) = true) (hb : KBinds X.K fd ps ks g gV) (hx : Passes CX X E)
    (hkw : PK X kws tk) (hall : (backToKw pos (keywordEach kws X.env)).all (fun q => q.1.isSome) = true := by rfl) (hks : (backToKw pos (keywordEach kws X.env)).filterMap (fun q => q.1) = ks := by rfl)
    (hdb : (x == ("__debug__" : Str)) = false := by decide) (hpl : ((backTo pos (starEach [] X.env)).any (fun q => q.1) || (backToKw pos (keywordEach kws X.env)).any (fun q => q.1.isNone)) = false := by rfl) :
    PE X (.Call (.Name x p) [] kws pos) (tCallK sp gV E tNil tk) := by
  refine ⟨fun pins s σ H Q I h => wpAny_Call_Name_kw (ld_glob I hg hm (PySem.W.callWith_KW0 (h₀ := X.base) I.ok.mod.kin hk hall ?_ hpl) hdb)⟩
  refine thn (hkw.run pos pins s σ H _ I h) fun ws s2 hz => ?_
  obtain ⟨zs, H2, I2, rz, q2⟩ := hz
  refine ⟨I2.kIn, ?_⟩
  rw [hks]
  exact run_fnk (us := []) (vs := []) F hr hb hx I2 .nil rz q2
end
section
variable {P : Program} {w : World} {K : PySem.W.Frag} {mg : Str → Option Value} {base : Heap}
theorem kb1 {x qual p : Str} {st : Stmt} {f : Addr} {fd : FuncData} (F : Fun K x qual st f fd)
    (h0 : ∀ (kV doc pm : Value) (an : Option Addr) (cdv ct u : Value), bindArgs (PySem.W.fnOf x qual (defArgs st) (defBody st) (defScope st) .none kV doc pm an cdv ct) ⟨[u], []⟩ = pure [(p, u)])
    (h1 : ∀ (kV doc pm : Value) (an : Option Addr) (cdv ct u : Value), bindArgs (PySem.W.fnOf x qual (defArgs st) (defBody st) (defScope st) .none kV doc pm an cdv ct) ⟨[], [(p, u)]⟩ = pure [(p, u)]) : KBinds K fd [p] [p] (fun us ws => us ++ ws) (fun vs zs => vs ++ zs) := by
  obtain ⟨oc, od, kV, doc, pm, an, cdv, ct, osl, rfl, lk, hcd⟩ := F.ex
  refine ⟨fun s us ws X hl => ?_, fun r1 r2 => r1.append r2⟩
  match us, ws, hl with
  | [u], [], _ => exact .of_eq (h0 kV doc pm an cdv ct u)
  | [], [v], _ => exact .of_eq (h1 kV doc pm an cdv ct v)
theorem kw_is_field (B : Bk K mg) : ∃ fd, FnOk P w K mg base CX0 2 (He.ga K "is_field") fd ["thing"] (spField K) ∧ KBinds K fd ["thing"] ["thing"] (fun us ws => us ++ ws) (fun vs zs => vs ++ zs) := by
  obtain ⟨fd, F⟩ := B.F_is_field
  obtain ⟨fdN, GN, bN⟩ := (ok_is_name (P := P) (w := w) (base := base) B).ex
  obtain ⟨fdM, GM, bM⟩ := (ok_is_numeral (P := P) (w := w) (base := base) B).ex
  have kN := (ok_is_name (P := P) (w := w) (base := base) B).kp
  have kM := (ok_is_numeral (P := P) (w := w) (base := base) B).kp
  refine ⟨fd, ?_, kb1 F (fun _ _ _ _ _ _ _ => rfl) (fun _ _ _ _ _ _ _ => rfl)⟩
  refine F.ok sc_is_field (fun vs H Q E h => ?_) (fun cdv A outer s H vs Q E hr h => ?_)
  · obtain ⟨x, rfl, _⟩ := h
    rfl
  · obtain ⟨x, rfl, h⟩ := h
    refine ⟨_, pss_cons (ps_if (pt_not (pt_val (pe_callB call_isi (by rfl) B.b_isinstance (by decide +kernel) (pa_cons (pv 0) (pa_cons (pe_bltn (by rfl) B.b_str (by decide +kernel) (show RelV (.ty "str") (.type "str") from rfl)) pa_nil))))) (pss_one (ps_ret pe_bl)) pss_nil)
      (pss_cons (ps_asg (pe_partition (pv 0) pe_str) (pg_tup (by rfl) (pgs_cons (pg_name (i := 1) sc_is_field.nd rfl (.inl rfl)) (pgs_cons (pg_name (i := 2) sc_is_field.nd rfl (.inl rfl)) (pgs_cons (pg_name (i := 3) sc_is_field.nd rfl (.inl rfl)) pgs_nil)))))
      (pss_cons (ps_if (PW.pt (pw_and (pt_cmpR op_ne (pv 1) pe_str (nomark _)) (pw_and1 (pt_not (pt_val (pe_call GN hr rfl B.g_is_name kN bN .nil pass0 (pa_cons (pv 1) pa_nil))))))) (pss_one (ps_ret pe_bl)) pss_nil)
      (pss_one (ps_ret (pe_or (pe_cmpR op_eq (pv 2) pe_str (nomark _)) (pe_one (pe_and (pe_call GM hr rfl B.g_is_numeral kM bM .nil pass0 (pa_cons (pv 3) pa_nil)) (pe_one (pe_cmpR op_notIn_seq (pv 3) (pe_tup (pa_cons pe_str (pa_cons pe_str pa_nil))) (by rfl)))))))))), ?_⟩
    rcases h with ⟨z, rfl, hz, k⟩ | ⟨t, ht, hk, k⟩
    · refine ⟨_, rfl, _, _, _, _, _, rfl, .ty "str", .base (.str z), kit_str, _, rfl, iteF ?_⟩
      refine ⟨_, rfl, ⟨_, rfl⟩, _, _, rfl, rfl, by decide, hz, fun p hp => ?_⟩
      have s0 : Same H (upd H p (.tup [.str (Txt.partition z "/").1, .str (Txt.partition z "/").2.1, .str (Txt.partition z "/").2.2])) := Same_new hp
      have hl := part_len z "/"
      refine ⟨_, _, rfl, SqT.of upd_same, rfl, _, _, rfl, _, _, rfl, _, _, rfl, rfl, ?_⟩
      have rest : ∀ H', Same H H' → (!decide (V.str (Txt.partition z "/").1 = V.str "#") && !isName (cd (Txt.partition z "/").1)) = false →
          tRet (tOrV (tOp rEq (tVar 2) (tC (.str ""))) (tAndV (tCall spNml [] E0 (tCons (tVar 3) tNil)) (tOp (rIn K true) (tVar 3) (tTup (tCons (tC (.str "0")) (tCons (tC (.str "1")) tNil)))))) { nx := fun _ H' => Q .non H', rt := Q } [some (V.str z), some (V.str (Txt.partition z "/").1), some (V.str (Txt.partition z "/").2.1), some (V.str (Txt.partition z "/").2.2)] H' := by
        intro H' s1 hb
        refine ⟨_, rfl, rfl, _, rfl, two (fun h3 => ?_) (fun h3 => ?_)⟩
        · have q := k H' s1
          unfold isFieldB at q
          rw [if_neg (by rw [hb]; decide), h3, Bool.true_or] at q
          exact q
        · refine ⟨_, rfl, _, rfl, Nat.le_trans hl.2 hz, fun H2 s2 => ⟨_, rfl, two (fun h4 => ?_) (fun h4 => ?_)⟩⟩
          · refine ⟨_, rfl, (by show 2 ≤ sizeLine; decide), fun p hp => ⟨_, _, rfl, .inr (SqT.of upd_same), rfl, rfl, ?_⟩⟩
            have q := k _ ((s1.trans s2).trans (Same_new (o := .tup [.str "0", .str "1"]) hp))
            unfold isFieldB at q
            rw [if_neg (by rw [hb]; decide), h3, Bool.false_or, ← isMod_num, h4, Bool.true_and] at q
            exact q
          · have q := k H2 (s1.trans s2)
            unfold isFieldB at q
            rw [if_neg (by rw [hb]; decide), h3, Bool.false_or, ← isMod_num, h4, Bool.false_and] at q
            exact q
      refine ⟨_, rfl, rfl, _, rfl, two (fun h1 => ?_) (fun h1 => ?_)⟩
      · refine ⟨_, rfl, _, rfl, Nat.le_trans hl.1 hz, fun H1 s1 => ⟨_, rfl, two (fun h2 => ?_) (fun h2 => ?_)⟩⟩
        · have q := k H1 (s0.trans s1)
          unfold isFieldB at q
          rw [if_pos (by rw [h1, h2]; rfl)] at q
          exact q
        · exact rest H1 (s0.trans s1) (by rw [h2, Bool.and_false])
      · exact iteF (rest _ s0 (by rw [h1, Bool.false_and]))
    · refine ⟨_, rfl, _, _, _, _, _, rfl, .ty "str", ht, hk, _, rfl, iteT ?_⟩
      exact k
theorem kw_field_of (B : Bk K mg) : ∃ fd, FnOk P w K mg base (L2.CX P w) 3 (He.ga K "field_of") fd ["text"] (spFieldOf (He.ga K "BadField")) ∧ KBinds K fd ["text"] ["text"] (fun us ws => us ++ ws) (fun vs zs => vs ++ zs) := by
  obtain ⟨fd, F⟩ := B.F_field_of
  obtain ⟨fdF, GF, bF⟩ := (ok_is_field (P := P) (w := w) (base := base) B).ex
  have kF := (ok_is_field (P := P) (w := w) (base := base) B).kp
  obtain ⟨fdN, GN, bN⟩ := (ok_number_of (P := P) (w := w) (base := base) B).ex
  have kN := (ok_number_of (P := P) (w := w) (base := base) B).kp
  obtain ⟨fdE, GE, bE⟩ := ok_bf (P := P) (w := w) (base := base) B
  obtain ⟨oxc, oi, ot⟩ := B.ox_BadField
  refine ⟨fd, ?_, kb1 F (fun _ _ _ _ _ _ _ => rfl) (fun _ _ _ _ _ _ _ => rfl)⟩
  refine F.okX sc_fo (fun vs H Q E h => ?_) (fun cdv A outer s H vs Q E hr h => ?_)
  · obtain ⟨x, rfl, _⟩ := h
    rfl
  · obtain ⟨z, rfl, hz, kE, kQ⟩ := h
    have hr1 : Room 1 _ := hr.mono (by decide)
    refine ⟨_, pss_cons (ps_if (pt_not (pt_val (pe_call GF hr rfl B.g_is_field kF bF .nil pass0 (pa_cons (pv 0) pa_nil)))) (pss_one (ps_raise rfl (takes_of rfl rfl rfl rfl) (pmk_oex oxc oi ot GE hr bE .nil pass0 (by rfl) B.g_BadField (pa_cons (pv 0) pa_nil)))) pss_nil)
      (pss_cons (ps_asg (pe_partition (pv 0) pe_str) (pg_tup (by rfl) (pgs_cons (pg_name (i := 1) sc_fo.nd rfl (.inl rfl)) (pgs_cons (pg_name (i := 2) sc_fo.nd rfl (.inl rfl)) (pgs_cons (pg_name (i := 3) sc_fo.nd rfl (.inl rfl)) pgs_nil)))))
      (pss_one (ps_ret (pe_tup (pa_cons (pv 1) (pa_cons (pe_call GN hr1 rfl B.g_number_of kN bN .nil pass0 (pa_cons (pv 3) pa_nil)) pa_nil)))))), ?_⟩
    refine ⟨_, rfl, _, rfl, .inl ⟨z, rfl, hz, fun H1 s1 => ⟨_, rfl, two (fun h1 => ?_) (fun h1 => ?_)⟩⟩⟩
    · have hf : isFieldB z = false := by
        cases e : isFieldB z with
        | false => rfl
        | true => rw [e] at h1; cases h1
      refine ⟨_, rfl, (by show 1 ≤ 1000; decide), fun a na => ⟨a, _, rfl, upd_same, fun dx nd ne => ⟨rfl, dx, [("field", .str z)], upd_same, ?_, ?_, ?_⟩⟩⟩
      · rw [upd_ne ne, upd_same]
      · rw [upd_ne ne] at nd
        exact nd
      · have nd' : H1 dx = none := by
          rw [upd_ne ne] at nd
          exact nd
        refine kE hf _ dx (fun b o q => ?_) upd_same
        have q1 := s1 b o q
        have nb : b ≠ a := ne_of_none q1 na
        rw [upd_ne (ne_of_none q1 nd'), del_ne nb, upd_ne nb, upd_ne (ne_of_none q1 nd'), upd_ne nb]
        exact q1
    · have hf : isFieldB z = true := by
        cases e : isFieldB z with
        | true => rfl
        | false => rw [e] at h1; cases h1
      refine ⟨_, rfl, ⟨_, rfl⟩, _, _, rfl, rfl, by decide, hz, fun p hp => ?_⟩
      have s2 : Same H1 (upd H1 p (.tup [.str (Txt.partition z "/").1, .str (Txt.partition z "/").2.1, .str (Txt.partition z "/").2.2])) := Same_new hp
      refine ⟨_, _, rfl, SqT.of upd_same, rfl, _, _, rfl, _, _, rfl, _, _, rfl, rfl, ?_⟩
      refine ⟨_, rfl, _, rfl, _, rfl, digits_of_field hf, fun H3 s3 => ⟨(by show 2 ≤ sizeLine; decide), fun t ht => ?_⟩⟩
      exact kQ hf _ t (((s1.trans s2).trans s3).trans (Same_new ht)) upd_same
theorem kw_parts_of (B : Bk K mg) : ∃ fd, FnOk P w K mg base (L2.CX P w) 5 (He.ga K "parts_of") fd ["text"] (spParts (He.ga K "BadField")) ∧ KBinds K fd ["text"] ["text"] (fun us ws => us ++ ws) (fun vs zs => vs ++ zs) := by
  obtain ⟨fd, F⟩ := B.F_parts_of
  obtain ⟨fdO, GO, bO⟩ := (ok_field_of (P := P) (w := w) (base := base) B).ex
  have kO := (ok_field_of (P := P) (w := w) (base := base) B).kp
  obtain ⟨fdT, GT, bT⟩ := (ok_field_text (P := P) (w := w) (base := base) B).ex
  have kT := (ok_field_text (P := P) (w := w) (base := base) B).kp
  obtain ⟨fdP, GP, bP⟩ := (ok_prime_powers (P := P) (w := w) (base := base) B).ex
  have kP := (ok_prime_powers (P := P) (w := w) (base := base) B).kp
  refine ⟨fd, ?_, kb1 F (fun _ _ _ _ _ _ _ => rfl) (fun _ _ _ _ _ _ _ => rfl)⟩
  refine F.okX sc_pa (fun vs H Q E h => ?_) (fun cdv A outer s H vs Q E hr h => ?_)
  · obtain ⟨x, rfl, _⟩ := h
    rfl
  · obtain ⟨z, rfl, hz, kE, kQ⟩ := h
    have hr3 : Room 3 _ := hr.mono (by decide)
    have hr2 : Room 2 _ := hr.mono (by decide)
    refine ⟨_, pss_cons (ps_asg (pe_call GO hr3 rfl B.g_field_of kO bO .nil (passes_call (takes_of rfl rfl rfl rfl) (fun _ _ _ _ h => h)) (pa_cons (pv 0) pa_nil)) (pg_tup (by rfl) (pgs_cons (pg_name (i := 1) sc_pa.nd rfl (.inr rfl)) (pgs_cons (pg_name (i := 2) sc_pa.nd rfl (.inl rfl)) pgs_nil))))
      (pss_cons (ps_if (pt_cmpR op_eq (pv 2) pe_int (nomark _)) (pss_one (ps_ret (pe_tup (pa_cons (pv 1) pa_nil)))) pss_nil)
      (pss_one (ps_ret (pe_callTy call_tuple_of (by rfl) B.b_tuple (by decide +kernel) (pa_cons (pe_callB (cr_sortTx rfl) (by rfl) B.b_sorted (by decide +kernel) (pa_cons (pe_callTy (cr_setTx rfl) (by rfl) B.b_set (by decide +kernel) (pa_cons
        (pe_lc (own := [("power", 3)]) (g := gName 3) (tt := tYes) rfl sc_pa.nd (pi_list (pe_call GP hr rfl B.g_prime_powers kP bP .nil pass0 (pa_cons (pe_lst (pa_cons (pv 2) pa_nil)) pa_nil))) (blkOk_by (N := ["text", "name", "m", "power"]) (sc := defScope s_parts_of) (by decide +kernel))
          (fun _ _ _ _ _ => pg_name (i := 3) sc_pa.nd rfl (Or.inl rfl)) (fun _ _ _ _ _ => pts_nil) (fun _ _ _ _ _ => pe_call GT hr2 rfl B.g_field_text kT bT .nil pass0 (pa_cons (pv 1) (pa_cons (pv 3) pa_nil)))) pa_nil)) pa_nil)) pa_nil))))), ?_⟩
    refine ⟨_, rfl, z, rfl, Nat.le_trans hz (by decide), fun hb H' d s1 h1 => kE hb H' d s1 h1, fun hb H1 p s1 h1 => ?_⟩
    refine ⟨_, _, rfl, SqT.of h1, rfl, _, _, rfl, _, _, rfl, rfl, ?_⟩
    have hnl : (fieldName z).length ≤ 1000 := Nat.le_trans (part_len z "/").1 hz
    refine ⟨_, rfl, rfl, _, rfl, ?_⟩
    rcases kQ hb with ⟨h0, k⟩ | ⟨m, L, hm, hm0, hL, h64, hok, k⟩
    · show if decide (V.int (fieldNum z) = V.int 0) = true then _ else _
      rw [h0, decide_eq_true rfl]
      refine iteT ?_
      exact ⟨_, rfl, (by show 1 ≤ sizeLine; decide), fun t ht => k _ t (s1.trans (Same_new ht)) upd_same⟩
    · have c1 : decide (V.int (fieldNum z) = V.int 0) = false := by
        rw [int_eq, hm]
        exact decide_eq_false (by omega)
      show if decide (V.int (fieldNum z) = V.int 0) = true then _ else _
      rw [c1]
      refine iteF ?_
      refine ⟨_, rfl, (by show 1 ≤ sizeLine; decide), fun q0 hq0 => ⟨q0, m, L, rfl, SqL.of (by rw [upd_same, hm]; rfl), hL, fun H2 l s2' nl h2 => ⟨l, rfl, ⟨_, SqL.of h2⟩, fun D hD => ?_⟩⟩⟩
      have s2 := (Same_new hq0).trans s2'
      have hlen : (L.map iV).length ≤ sizeLine := by rw [List.length_map]; exact Nat.le_trans (Nat.le_of_lt h64) (by decide)
      refine lc_fm (w := walk_list (xs := L.map iV)) (fun i => ((L.map iV)[i]?).bind fun _ => (L[i]?).map fun n => V.str (ftext (fieldName z) n)) hD hlen (fun H' s' => s'.seq (SqL.of h2)) (fun i x H3 H4 Kt Kf hi s3 y kt kf => ?_) (fun H3 s3 hD3 => ?_)
      · obtain ⟨rfl, hx⟩ := y
        rw [List.getElem?_map] at hx
        cases hn : L[i]? with
        | none =>
          rw [hn] at hx
          cases hx
        | some n =>
          rw [hn] at hx
          cases hx
          refine ⟨rfl, iteT (B := Kf H4) ?_⟩
          refine ⟨_, rfl, _, rfl, fieldName z, n, rfl, hok n (List.mem_of_getElem? hn), hnl, fun H5 s5 => kt _ _ ?_ s5⟩
          rw [List.getElem?_map, hn]
          rfl
      · have e : (List.range (L.map iV).length).filterMap (fun i => ((L.map iV)[i]?).bind fun _ => (L[i]?).map fun n => V.str (ftext (fieldName z) n)) = (L.map (ftext (fieldName z))).map V.str := by
          rw [List.length_map]
          rw [fm_some (l := L) (g := fun n => V.str (ftext (fieldName z) n)) (fun i n hn => by rw [List.getElem?_map, hn]; rfl), List.map_map]
          rfl
        rw [e] at hD3
        refine ⟨D, _, rfl, .inl (SqL.of hD3), by rw [List.length_map]; exact h64, fun a na => ?_⟩
        have h64' : (txAll (L.map (ftext (fieldName z)))).length < 64 := by
          have q := txAll_len (L.map (ftext (fieldName z))) []
          rw [List.length_map] at q
          unfold txAll
          exact Nat.lt_of_le_of_lt q (by show 0 + L.length < 64; omega)
        refine ⟨a, _, rfl, upd_same, h64', fun ys p2 pm so nd np => ?_⟩
        refine ⟨p2, _, rfl, .inl ⟨SqL.of upd_same, fun t ht => ?_⟩⟩
        exact k _ t ys ((s1.trans s2).trans (Same_lay (Same_lay (Same_lay s3 na) np) ht)) pm so nd upd_same
theorem kw_is_part (B : Bk K mg) : ∃ fd, FnOk P w K mg base (L2.CX P w) 4 (He.ga K "is_part") fd ["thing"] (spIsPart K) ∧ KBinds K fd ["thing"] ["thing"] (fun us ws => us ++ ws) (fun vs zs => vs ++ zs) := by
  obtain ⟨fd, F⟩ := B.F_is_part
  obtain ⟨fdO, GO, bO⟩ := (ok_field_of (P := P) (w := w) (base := base) B).ex
  have kO := (ok_field_of (P := P) (w := w) (base := base) B).kp
  obtain ⟨fdF, GF, bF⟩ := (ok_is_field (P := P) (w := w) (base := base) B).ex
  have kF := (ok_is_field (P := P) (w := w) (base := base) B).kp
  obtain ⟨fdP, GP, bP⟩ := (ok_is_prime_power (P := P) (w := w) (base := base) B).ex
  have kP := (ok_is_prime_power (P := P) (w := w) (base := base) B).kp
  refine ⟨fd, ?_, kb1 F (fun _ _ _ _ _ _ _ => rfl) (fun _ _ _ _ _ _ _ => rfl)⟩
  refine F.okX sc_ip (fun vs H Q E h => ?_) (fun cdv A outer s H vs Q E hr h => ?_)
  · obtain ⟨x, rfl, _⟩ := h
    rfl
  · obtain ⟨x, rfl, h⟩ := h
    have hr1 : Room 1 _ := hr.mono (by decide)
    have hr2 : Room 2 _ := hr.mono (by decide)
    refine ⟨_, pss_cons (ps_if (pt_not (pt_val (pe_call GF hr2 rfl B.g_is_field kF bF .nil pass0 (pa_cons (pv 0) pa_nil)))) (pss_one (ps_ret pe_bl)) pss_nil)
      (pss_cons (ps_asg (pe_call (E := E) GO hr rfl B.g_field_of kO bO .nil (passes_call (takes_of rfl rfl rfl rfl) (fun _ _ _ _ h => h)) (pa_cons (pv 0) pa_nil)) (pg_tup (by rfl) (pgs_cons (pg_name (i := 1) sc_ip.nd rfl (.inl rfl)) (pgs_cons (pg_name (i := 2) sc_ip.nd rfl (.inl rfl)) pgs_nil))))
      (pss_one (ps_ret (pe_or (pe_cmpR op_eq (pv 2) pe_int (nomark _)) (pe_one (pe_call GP hr2 rfl B.g_is_prime_power kP bP .nil pass0 (pa_cons (pv 2) pa_nil))))))), ?_⟩
    rcases h with ⟨z, rfl, hz, k0, k1⟩ | ⟨t, ht, hk, k⟩
    · refine ⟨_, rfl, _, rfl, .inl ⟨z, rfl, Nat.le_trans hz (by decide), fun H1 s1 => ⟨_, rfl, two (fun h1 => ?_) (fun h1 => ?_)⟩⟩⟩
      · have hf : isFieldB z = false := by
          cases e : isFieldB z with
          | false => rfl
          | true => rw [e] at h1; cases h1
        exact k0 hf H1 s1
      · have hf : isFieldB z = true := by
          cases e : isFieldB z with
          | true => rfl
          | false => rw [e] at h1; cases h1
        refine ⟨_, rfl, z, rfl, Nat.le_trans hz (by decide), fun hb => absurd (hf.symm.trans hb) (by decide), fun hb H2 p s2 h2 => ?_⟩
        refine ⟨_, _, rfl, SqT.of h2, rfl, _, _, rfl, _, _, rfl, rfl, ?_⟩
        refine ⟨_, rfl, rfl, _, rfl, ?_⟩
        rcases k1 hf with ⟨e0, k⟩ | ⟨m, b, hm, hm0, hm6, hpp, k⟩
        · have q := k H2 (s1.trans s2)
          show if decide (V.int (fieldNum z) = V.int 0) = true then _ else _
          rw [e0, decide_eq_true rfl]
          exact iteT q
        · have c1 : decide (V.int (fieldNum z) = V.int 0) = false := by
            rw [int_eq, hm]
            exact decide_eq_false (by omega)
          show if decide (V.int (fieldNum z) = V.int 0) = true then _ else _
          rw [c1]
          refine iteF ?_
          exact ⟨_, rfl, m, b, by rw [hm]; rfl, hm0, hm6, hpp, fun H3 s3 => k H3 ((s1.trans s2).trans s3)⟩
    · refine ⟨_, rfl, _, rfl, .inr ⟨t, ht, hk, _, rfl, iteT ?_⟩⟩
      exact k
end
end Jd
namespace Jd
open PySem PySem.Spec PyProof.Rows L2
theorem Sm4 {H : Hp} {g1 g2 p q t z : Addr} {a b : Bool} {xs ys : List V} (e1 : H g1 = some (.lst [.bl a, .bl b, .ref p, .ref q])) (e2 : H g2 = some (.lst [.bl a, .bl b, .ref t, .ref z])) (hp : H p = some (.tup xs)) (ht : H t = some (.tup xs)) (hq : H q = some (.tup ys)) (hz : H z = some (.tup ys))
    (lx : xs.length < 1000) (ly : ys.length < 1000) (fx : ∀ x ∈ xs, FlatV x) (fy : ∀ x ∈ ys, FlatV x) : Sm H 2 (.ref g1) (.ref g2) := by
  refine .inr ⟨g1, g2, [.bl a, .bl b, .ref p, .ref q], [.bl a, .bl b, .ref t, .ref z], rfl, rfl, rfl, (by show 4 < 1000; decide), fun j u v h1 h2 => ?_, .inl ⟨e1, e2⟩⟩
  match j, h1, h2 with
  | 0, h1, h2 =>
    cases h1
    cases h2
    exact Sm_flat trivial
  | 1, h1, h2 =>
    cases h1
    cases h2
    exact Sm_flat trivial
  | 2, h1, h2 =>
    cases h1
    cases h2
    exact SmT hp ht lx fx
  | 3, h1, h2 =>
    cases h1
    cases h2
    exact SmT hq hz ly fy
  | j + 4, h1, h2 => cases h1
theorem Sm2 {H : Hp} {g1 g2 p q t z : Addr} {xs ys : List V} (e1 : H g1 = some (.lst [.ref p, .ref q])) (e2 : H g2 = some (.lst [.ref t, .ref z])) (hp : H p = some (.tup xs)) (ht : H t = some (.tup xs)) (hq : H q = some (.tup ys)) (hz : H z = some (.tup ys))
    (lx : xs.length < 1000) (ly : ys.length < 1000) (fx : ∀ x ∈ xs, FlatV x) (fy : ∀ x ∈ ys, FlatV x) : Sm H 2 (.ref g1) (.ref g2) := by
  refine .inr ⟨g1, g2, [.ref p, .ref q], [.ref t, .ref z], rfl, rfl, rfl, (by show 2 < 1000; decide), fun j u v h1 h2 => ?_, .inl ⟨e1, e2⟩⟩
  match j, h1, h2 with
  | 0, h1, h2 =>
    cases h1
    cases h2
    exact SmT hp ht lx fx
  | 1, h1, h2 =>
    cases h1
    cases h2
    exact SmT hq hz ly fy
  | j + 2, h1, h2 => cases h1
theorem fm_bind {α : Type} {l : List α} (h : α → Option V) : (List.range l.length).filterMap (fun i => (l[i]?).bind h) = l.filterMap h := by
  have key : ∀ k, k ≤ l.length → (List.range k).filterMap (fun i => (l[i]?).bind h) = (l.take k).filterMap h := by
    intro k
    induction k with
    | zero => intro _; rfl
    | succ k ih =>
      intro hk
      have e : l[k]? = some l[k] := List.getElem?_eq_getElem hk
      rw [fm_step, ih (Nat.le_of_lt hk), e, List.take_add_one, e, List.filterMap_append]
      show _ ++ (match h l[k] with
        | some y => [y]
        | none => []) = _ ++ [l[k]].filterMap h
      congr 1
      cases hh : h l[k] with
      | none => simp [hh]
      | some y => simp [hh]
  have q := key l.length (Nat.le_refl _)
  rw [List.take_length] at q
  exact q
theorem pick_len {g : Nat → V} (m : Nat) : ∀ l : List Nat, (l.filterMap fun n => if n = m then some (g n) else none).length = (l.filter fun x => decide (x = m)).length
  | [] => rfl
  | n :: l => by
    have ih := pick_len (g := g) m l
    by_cases h : n = m
    · rw [List.filterMap_cons_some (by rw [if_pos h]), List.filter_cons_of_pos (by rw [decide_eq_true h]), List.length_cons, List.length_cons, ih]
    · rw [List.filterMap_cons_none (by rw [if_neg h]), List.filter_cons_of_neg (by rw [decide_eq_false h]; decide), ih]
theorem str_flat {xs : List Str} : ∀ x ∈ xs.map V.str, FlatV x := by
  intro x hx
  obtain ⟨z, _, rfl⟩ := List.mem_map.mp hx
  trivial
theorem si_flat {z : Str} {i : Int} : ∀ x ∈ [V.str z, V.int i], FlatV x := by
  intro x hx
  rcases List.mem_cons.mp hx with rfl | hx
  · trivial
  · cases List.mem_singleton.mp hx
    trivial
theorem s_flat {z : Str} : ∀ x ∈ [V.str z], FlatV x := by
  intro x hx
  cases List.mem_singleton.mp hx
  trivial
theorem e_own (o : Str) : (Str.empty ++ o).length = o.length := by
  rw [app_len]
  exact Nat.zero_add _
theorem fl_str {xs : List Str} : (xs.map V.str).all flatV = true := by
  rw [List.all_eq_true]
  intro x hx
  obtain ⟨z, _, rfl⟩ := List.mem_map.mp hx
  rfl
end Jd
namespace Jd
open PySem PySem.Spec PyProof.Rows L2
/-! ### twelve FIELDs -/
def spRight : Sp := fun vs H Q _ => ∃ u : Addr, vs = [.ref u] ∧ Urn H u 0 ∧ ∀ H', Keep u H H' → Q (.bl true) H'
section
variable {P : Program} {w : World} {K : PySem.W.Frag} {mg : Str → Option Value} {base : Heap}
abbrev NR : List Str := ["_law_urn", "_law_turn", "_law_own", "_law_got", "_law_all_so", "_law_powers", "_law_flat", "_law_goal", "_law_step", "_law_bit"]
theorem sc_right : FnScope NR ["_law_urn"] (defScope s__law_right) := ⟨rfl, rfl, rfl, by decide +kernel, rfl, by decide +kernel, by decide +kernel⟩
theorem ok_right (B : Bk K mg) : Df P w K mg base CX0 9 "_law_right" ["_law_urn"] spRight := by
  obtain ⟨fd, F⟩ := B.F_law_right
  obtain ⟨fdB, GB, bB⟩ := (ok_bad_right (P := P) (w := w) (base := base) B).ex
  have kB := (ok_bad_right (P := P) (w := w) (base := base) B).kp
  obtain ⟨fdL, GL, bL⟩ := (ok_law_of (P := P) (w := w) (base := base) B).ex
  have kL := (ok_law_of (P := P) (w := w) (base := base) B).kp
  obtain ⟨fdN, GN, bN⟩ := (ok_law_number (P := P) (w := w) (base := base) B).ex
  have kN := (ok_law_number (P := P) (w := w) (base := base) B).kp
  obtain ⟨fdF, GF, bF⟩ := (ok_is_field (P := P) (w := w) (base := base) B).ex
  have kF := (ok_is_field (P := P) (w := w) (base := base) B).kp
  obtain ⟨fdP, GP, bP⟩ := (ok_is_part (P := P) (w := w) (base := base) B).ex
  have kP := (ok_is_part (P := P) (w := w) (base := base) B).kp
  obtain ⟨fdO, GO, bO⟩ := (ok_field_of (P := P) (w := w) (base := base) B).ex
  have kO := (ok_field_of (P := P) (w := w) (base := base) B).kp
  obtain ⟨fdQ, GQ, bQ⟩ := (ok_parts_of (P := P) (w := w) (base := base) B).ex
  have kQ := (ok_parts_of (P := P) (w := w) (base := base) B).kp
  obtain ⟨fdF2, GF2, bF2⟩ := kw_is_field (P := P) (w := w) (base := base) B
  obtain ⟨fdP2, GP2, bP2⟩ := kw_is_part (P := P) (w := w) (base := base) B
  obtain ⟨fdO2, GO2, bO2⟩ := kw_field_of (P := P) (w := w) (base := base) B
  obtain ⟨fdQ2, GQ2, bQ2⟩ := kw_parts_of (P := P) (w := w) (base := base) B
  obtain ⟨fdS, GS, bS⟩ := (ok_law_same (P := P) (w := w) (base := base) B 2).ex
  have kS := (ok_law_same (P := P) (w := w) (base := base) B 2).kp
  obtain ⟨fdH, GH, bH⟩ := (ok_law_heard (P := P) (w := w) (base := base) B).ex
  have kH := (ok_law_heard (P := P) (w := w) (base := base) B).kp
  refine ⟨⟨fd, ?_, F.binds fun _ _ _ _ _ _ us hl => match us, hl with | [_], _ => rfl⟩, B.g_law_right, F.kp⟩
  refine F.ok sc_right (fun vs H Q E h => ?_) (fun cdv A outer s H vs Q E hr h => ?_)
  · obtain ⟨_, rfl, _⟩ := h
    rfl
  · obtain ⟨u, rfl, hu, k⟩ := h
    have hr2 : Room 2 _ := hr.mono (by decide)
    have hr3 : Room 3 _ := hr.mono (by decide)
    have hr4 : Room 4 _ := hr.mono (by decide)
    have hr5 : Room 5 _ := hr.mono (by decide)
    have hr6 : Room 6 _ := hr.mono (by decide)
    refine ⟨_, pss_cons (ps_if (pt_not (pt_val (pe_call0 GB hr (by rfl) B.g_law_bad_right kB bB .nil pass0))) (pss_one (ps_ret pe_bl)) pss_nil)
      (pss_cons (ps_for PassesOwn.never rfl (pi_range1 rfl B.b_range (pa_cons pe_int pa_nil)) (pg_name (i := 1) sc_right.nd rfl (Or.inl rfl))
          (pss_cons (ps_set (i := 2) sc_right.nd rfl (Or.inr rfl) (pe_call GL hr2 rfl B.g_law_of kL bL .nil pass0 (pa_cons (pv 0) (pa_cons (pe_lst (pa_cons pe_str (pa_cons pe_str (pa_cons pe_str (pa_cons pe_str (pa_cons pe_str (pa_cons pe_str (pa_cons pe_str pa_nil)))))))) pa_nil))))
          (pss_cons (ps_set (i := 3) sc_right.nd rfl (Or.inl rfl) (pe_lst (pa_cons (pe_call GF hr2 rfl B.g_is_field kF bF .nil pass0 (pa_cons (pv 2) pa_nil)) (pa_cons (pe_call (E := fun _ _ _ => False) GP hr4 rfl B.g_is_part kP bP .nil passF (pa_cons (pv 2) pa_nil)) (pa_cons (pe_call (E := fun _ _ _ => False) GO hr3 rfl B.g_field_of kO bO .nil passF (pa_cons (pv 2) pa_nil)) (pa_cons (pe_call (E := fun _ _ _ => False) GQ hr5 rfl B.g_parts_of kQ bQ .nil passF (pa_cons (pv 2) pa_nil)) pa_nil))))))
          (pss_cons (ps_if (pt_not (pt_val (pe_call GS hr4 rfl B.g_law_same kS bS .nil pass0 (pa_cons (pv 3) (pa_cons (pe_lst (pa_cons pe_bl (pa_cons pe_bl (pa_cons (pe_tup (pa_cons (pv 2) (pa_cons pe_int pa_nil))) (pa_cons (pe_tup (pa_cons (pv 2) pa_nil)) pa_nil))))) pa_nil))))) (pss_one (ps_ret pe_bl)) pss_nil)
          (pss_cons (ps_asg (pe_call GN hr3 rfl B.g_law_number kN bN .nil pass0 (pa_cons (pv 0) pa_nil)) (pg_tup (by rfl) (pgs_cons (pg_name (i := 4) sc_right.nd rfl (.inr rfl)) (pgs_cons (pg_name (i := 5) sc_right.nd rfl (.inl rfl)) pgs_nil))))
          (pss_cons (ps_par (i := 6) (j := 7) (by rfl) sc_right.nd rfl rfl (by decide) rfl rfl (pa_cons (pe_joined (.cons (pe_fmt (pv 2)) (.cons pe_str (.cons (pe_fmt (pv 4)) .nil)))) (pa_cons (pe_callTy call_tuple_of (by rfl) B.b_tuple (by decide +kernel) (pa_cons (pe_callB cr_sortedS (by rfl) B.b_sorted (by decide +kernel) (pa_cons (pe_lc (own := [("_law_step", 8)]) (g := gName 8) (tt := tYes) rfl sc_right.nd (pi_list (pv 5)) (blkOk_by (N := NR) (sc := defScope s__law_right) (by decide +kernel)) (fun _ _ _ _ _ => pg_name (i := 8) sc_right.nd rfl (Or.inl rfl)) (fun _ _ _ _ _ => pts_nil) (fun _ _ _ _ _ => (pe_joined (.cons (pe_fmt (pv 2)) (.cons pe_str (.cons (pe_fmt (pv 8)) .nil)))))) pa_nil)) pa_nil)) pa_nil)) (by rfl))
          (pss_cons (ps_set (i := 3) sc_right.nd rfl (Or.inl rfl) (pe_lst (pa_cons (pe_callK0 GF2 hr2 rfl B.g_is_field kF bF2 pass0 (pk_cons (pv 6) pk_nil)) (pa_cons (pe_callK0 (E := fun _ _ _ => False) GP2 hr4 rfl B.g_is_part kP bP2 passF (pk_cons (pv 6) pk_nil)) (pa_cons (pe_callK0 (E := fun _ _ _ => False) GO2 hr3 rfl B.g_field_of kO bO2 passF (pk_cons (pv 6) pk_nil)) (pa_cons (pe_callK0 (E := fun _ _ _ => False) GQ2 hr5 rfl B.g_parts_of kQ bQ2 passF (pk_cons (pv 6) pk_nil)) pa_nil))))))
          (pss_cons (ps_if (pt_not (pt_val (pe_call GS hr4 rfl B.g_law_same kS bS .nil pass0 (pa_cons (pv 3) (pa_cons (pe_lst (pa_cons pe_bl (pa_cons (pe_cmpR op_eq (pe_callB call_len (by rfl) B.b_len (by decide +kernel) (pa_cons (pe_lc (own := [("_law_step", 8)]) (g := gName 8) (tt := tTest (tOp rEq (tVar 8) (tVar 4))) rfl sc_right.nd (pi_list (pv 5)) (blkOk_by (N := NR) (sc := defScope s__law_right) (by decide +kernel)) (fun _ _ _ _ _ => pg_name (i := 8) sc_right.nd rfl (Or.inl rfl)) (fun _ _ _ _ _ => pts_one (pt_cmpR op_eq (pv 8) (pv 4) (nomark _))) (fun _ _ _ _ _ => (pv 8))) pa_nil)) pe_int (nomark _)) (pa_cons (pe_tup (pa_cons (pv 2) (pa_cons (pv 4) pa_nil))) (pa_cons (pv 7) pa_nil))))) pa_nil))))) (pss_one (ps_ret pe_bl)) pss_nil)
          (pss_cons (ps_if (pt_not (pt_val (pe_callB (cr_all rfl) (by rfl) B.b_all (by decide +kernel) (pa_cons (pe_lc (own := [("_law_bit", 9)]) (g := gName 9) (tt := tYes) (te := tAndV (tCall (spIsPart K) [] (fun _ _ _ => False) (tCons (tVar 9) tNil)) (tOp (rIn K false) (tVar 9) (tCall (spParts (He.ga K "BadField")) [] (fun _ _ _ => False) (tCons (tVar 9) tNil)))) rfl sc_right.nd (pi_tup (pv 7)) (blkOk_by (N := NR) (sc := defScope s__law_right) (by decide +kernel)) (fun _ _ _ _ _ => pg_name (i := 9) sc_right.nd rfl (Or.inl rfl)) (fun _ _ _ _ _ => pts_nil) (fun _ _ _ _ _ => pe_and (pe_call (E := fun _ _ _ => False) GP hr4 rfl B.g_is_part kP bP .nil passF (pa_cons (pv 9) pa_nil)) (pe_one (pe_cmpR op_in_seq (pv 9) (pe_call (E := fun _ _ _ => False) GQ hr5 rfl B.g_parts_of kQ bQ .nil passF (pa_cons (pv 9) pa_nil)) (by rfl))))) pa_nil)))) (pss_one (ps_ret pe_bl)) pss_nil)
          (pss_cons (ps_set (i := 3) sc_right.nd rfl (Or.inl rfl) (pe_lst (pa_cons (pe_call GH hr6 rfl B.g_law_heard kH bH .nil pass0 (pa_cons pe_int (pa_cons (pe_op op_add_str (pv 6) pe_str) pa_nil))) (pa_cons (pe_call GH hr6 rfl B.g_law_heard kH bH .nil pass0 (pa_cons pe_int (pa_cons (pe_op op_add_str pe_str (pv 6)) pa_nil))) pa_nil))))
          (pss_one (ps_if (pt_not (pt_val (pe_call GS hr4 rfl B.g_law_same kS bS .nil pass0 (pa_cons (pv 3) (pa_cons (pe_lst (pa_cons (pe_tup (pa_cons pe_str (pa_cons (pe_op op_add_str (pv 6) pe_str) pa_nil))) (pa_cons (pe_tup (pa_cons pe_str (pa_cons (pe_op op_add_str pe_str (pv 6)) pa_nil))) pa_nil))) pa_nil))))) (pss_one (ps_ret pe_bl)) pss_nil))))))))))))
      (pss_one (ps_ret pe_bl))), ?_⟩
    refine ⟨rfl, fun H0 s0 => ⟨_, rfl, iteF ?_⟩⟩
    refine ⟨12, rfl, by decide, by decide, ?_⟩
    refine for_it (n := 12) walk_range (fun i σ H' => ∃ v1 v2 v3 v4 v5 v6 v7 v8 v9 : Option V, σ = [some (.ref u), v1, v2, v3, v4, v5, v6, v7, v8, v9] ∧ Urn H' u (21 * i) ∧ Keep u H H')
      ⟨_, _, _, _, _, _, _, _, _, rfl, hu.same s0, Same.keep s0⟩ (fun _ _ _ _ _ => trivial) (fun i x σ H1 H1' hi ⟨v1, v2, v3, v4, v5, v6, v7, v8, v9, e, hu1, kp1⟩ y => ?_) (fun σ H1 ⟨v1, v2, v3, v4, v5, v6, v7, v8, v9, e, hu1, kp1⟩ => ?_)
    · obtain ⟨rfl, rfl⟩ := y
      subst e
      refine ⟨_, rfl, (by show 7 ≤ sizeLine; decide), fun l nl => ?_⟩
      have a1 := Same_new (o := HO.lst (owns.map V.str)) nl
      have nlu : l ≠ u := by
        obtain ⟨o1, ho1⟩ := hu1.some
        exact (ne_of_none ho1 nl).symm
      refine ⟨u, l, owns.map V.str, 21 * i, rfl, hu1.same a1, by omega, SqL.of upd_same, nlu, by decide, by decide, fun r x H2 hx hu2 kp2 => ?_⟩
      obtain ⟨o, ho, rfl⟩ : ∃ o, o ∈ owns ∧ x = V.str o := by
        obtain ⟨o, ho, e⟩ := List.mem_map.mp (List.mem_of_getElem? hx)
        exact ⟨o, ho, e.symm⟩
      have oF := own_facts ho
      have ol := oF.len
      have kA : Keep u H H2 := (kp1.trans (Same.keep a1)).trans kp2
      refine ⟨_, rfl, _, rfl, .inl ⟨o, rfl, Nat.le_trans ol (by decide), fun H3 s3 => ?_⟩⟩
      rw [oF.fld]
      refine ⟨_, rfl, _, rfl, .inl ⟨o, rfl, Nat.le_trans ol (by decide), fun q => absurd (oF.fld.symm.trans q) (by decide), fun _ => .inl ⟨oF.num, fun H4 s4 => ?_⟩⟩⟩
      refine ⟨_, rfl, o, rfl, Nat.le_trans ol (by decide), fun q => absurd (oF.fld.symm.trans q) (by decide), fun _ H5 p5 s5 hp5 => ?_⟩
      rw [oF.nam, oF.num] at hp5
      refine ⟨_, rfl, o, rfl, Nat.le_trans ol (by decide), fun q => absurd (oF.fld.symm.trans q) (by decide), fun _ => .inl ⟨oF.num, fun H6 p6 s6 hp6 => ?_⟩⟩
      rw [oF.nam] at hp6
      refine ⟨(by show 4 ≤ sizeLine; decide), fun g1 ng1 => ?_⟩
      refine ⟨_, rfl, _, rfl, (by show 2 ≤ sizeLine; decide), fun t1 n1 => ⟨_, rfl, (by show 1 ≤ sizeLine; decide), fun t2 n2 => ⟨(by show 4 ≤ sizeLine; decide), fun g2 ng2 => ⟨_, _, rfl, ?_, fun H7 s7 => ⟨_, rfl, iteF ?_⟩⟩⟩⟩⟩
      · have c1 := Same_new (o := HO.lst [.bl true, .bl true, .ref p5, .ref p6]) ng1
        have c2 := Same_new (o := HO.tup [.str o, .int 0]) n1
        have c3 := Same_new (o := HO.tup [.str o]) n2
        have c4 := Same_new (o := HO.lst [.bl true, .bl true, .ref t1, .ref t2]) ng2
        exact Sm4 (c4 _ _ (c3 _ _ (c2 _ _ upd_same))) upd_same (c4 _ _ (c3 _ _ (c2 _ _ (c1 _ _ (s6 _ _ hp5))))) (c4 _ _ (c3 _ _ upd_same)) (c4 _ _ (c3 _ _ (c2 _ _ (c1 _ _ hp6)))) (c4 _ _ upd_same)
          (by show 2 < 1000; decide) (by show 1 < 1000; decide) si_flat s_flat
      have sB : Same H2 H7 := ((((((((s3.trans s4).trans s5).trans s6).trans (Same_new ng1)).trans (Same_new n1)).trans (Same_new n2)).trans (Same_new ng2)).trans s7)
      have kB := kA.trans (Same.keep sB)
      have hu7 := hu2.same sB
      refine ⟨_, rfl, u, 21 * i + 1, rfl, hu7, by omega, fun all pws t L H8 hnum h2 hu8 kp8 hL nLu ht => ?_⟩
      have kC := kB.trans kp8
      obtain ⟨fl, pm, nf, pf⟩ := num_facts hnum h2
      have hle : all ≤ 1000000 := by
        obtain ⟨_, _, _, h, _⟩ := hnum
        exact h
      have plen : pws.length ≤ 45 := by rw [pm.length_eq]; exact nf.few
      have pfw : ∀ n ∈ pws, PowF n := fun n hn => pf n (pm.mem_iff.mp hn)
      refine ⟨_, _, rfl, SqT.of ht, rfl, _, _, rfl, _, _, rfl, rfl, ?_⟩
      have z1 : (Str.empty ++ o).length ≤ 8 := by rw [e_own]; exact ol
      have z2 : (Str.empty ++ o ++ "/").length ≤ 9 := by rw [app_len]; exact Nat.add_le_add z1 (Nat.le_refl 1)
      have dlen : ∀ n : Nat, (TL.numL n).length ≤ 10 → (dec n).length ≤ 10 := fun n h => by rw [len_cd, cd_dec]; exact h
      have z3 : ∀ n : Nat, (TL.numL n).length ≤ 10 → (Str.empty ++ o ++ "/" ++ dec n).length ≤ sizeLine := fun n h => by
        rw [app_len]
        exact Nat.le_trans (Nat.add_le_add z2 (dlen n h)) (by decide)
      refine ⟨_, rfl, .inl ⟨_, rfl, Nat.le_trans ol (by decide), _, rfl, Nat.le_trans z1 (by decide), _, rfl, Nat.le_trans z2 (by decide), ?_⟩⟩
      refine ⟨_, rfl, .inr ⟨(all : Int), rfl, log_ok (by omega), _, rfl, z3 all nf.len, ?_⟩⟩
      refine ⟨_, rfl, L, rfl, ⟨_, SqL.of hL⟩, fun D nD => ?_⟩
      refine lc_fm (te := fun σ H Q => tJs [tFmt (tVar 2), tC (.str "/"), tFmt (tVar 8)] Str.empty σ H fun out H1 => Q (.str out) H1) (walk_list (xs := pws.map iV)) (fun j => (pws[j]?).map fun n => V.str (ltext o n)) nD (by rw [List.length_map]; exact Nat.le_trans plen (by decide)) (fun H' s' => SqL.of (s' _ _ hL)) (fun j v H9 H9' Kt Kf hj s9 y kt kf => ?_) (fun H9 s9 hD9 => ?_)
      · obtain ⟨rfl, hv⟩ := y
        rw [List.getElem?_map] at hv
        cases hn : pws[j]? with
        | none =>
          rw [hn] at hv
          cases hv
        | some n =>
          rw [hn] at hv
          have hv2 := (Option.some.inj hv).symm
          subst hv2
          have nF := pfw n (List.mem_of_getElem? hn)
          refine ⟨rfl, iteT (B := Kf H9') ?_⟩
          refine ⟨_, rfl, .inl ⟨_, rfl, Nat.le_trans ol (by decide), _, rfl, Nat.le_trans z1 (by decide), _, rfl, Nat.le_trans z2 (by decide), ?_⟩⟩
          refine ⟨_, rfl, .inr ⟨(n : Int), rfl, log_ok nF.ok.2.1, _, rfl, z3 n nF.len, ?_⟩⟩
          exact kt _ _ (by rw [hn]; rfl) (Same.refl _)
      rw [List.length_map, fm_some (l := pws) (g := fun n => V.str (ltext o n)) (fun j n hn => by rw [hn]; rfl)] at hD9
      have hD9 : H9 D = some (.lst ((pws.map (ltext o)).map V.str)) := by rw [hD9, List.map_map]; rfl
      refine ⟨D, pws.map (ltext o), rfl, SqL.of hD9, by rw [List.length_map]; omega, fun zs p9 pz sz np9 => ?_⟩
      refine ⟨p9, _, rfl, .inl ⟨SqL.of upd_same, fun z9 nz9 => ?_⟩⟩
      have zlen : zs.length ≤ 45 := by rw [pz.length_eq, List.length_map]; exact plen
      have sC : Same H8 (upd (upd H9 p9 (.lst (zs.map V.str))) z9 (.tup (zs.map V.str))) := Same_lay (Same_lay s9 np9) nz9
      have ez9 : (upd (upd H9 p9 (.lst (zs.map V.str))) z9 (.tup (zs.map V.str))) z9 = some (.tup (zs.map V.str)) := upd_same
      refine ⟨_, _, rfl, ?_⟩
      generalize (upd (upd H9 p9 (.lst (zs.map V.str))) z9 (.tup (zs.map V.str))) = HC at sC ez9
      have flen := ltext_len oF nf.len
      obtain ⟨fF, fN, fM⟩ := ltext_field oF nf.md nf.val
      have hLC : HC L = some (.lst (pws.map iV)) := sC _ _ hL
      refine ⟨_, rfl, _, rfl, .inl ⟨ltext o all, rfl, Nat.le_trans flen (by decide), fun H10 s10 => ?_⟩⟩
      rw [fF]
      refine ⟨_, rfl, _, rfl, .inl ⟨ltext o all, rfl, Nat.le_trans flen (by decide), fun q => absurd (fF.symm.trans q) (by decide), fun _ => .inr ⟨all, _, fM, by omega, nf.le, nf.pp, fun H11 s11 => ?_⟩⟩⟩
      refine ⟨_, rfl, ltext o all, rfl, Nat.le_trans flen (by decide), fun q => absurd (fF.symm.trans q) (by decide), fun _ H12 p12 s12 hp12 => ?_⟩
      rw [fN, fM] at hp12
      refine ⟨_, rfl, ltext o all, rfl, Nat.le_trans flen (by decide), fun q => absurd (fF.symm.trans q) (by decide), fun _ => .inr ⟨all, fl, fM, by omega, nf.out, by have := nf.few; omega, fun n hn => (pf n hn).ok, fun H13 p13 ys s13 py sy nd hp13 => ?_⟩⟩
      rw [fN] at py
      have eyz : ys = zs := parts_eq pm nf.nd pf py sy pz sz
      subst eyz
      refine ⟨(by show 4 ≤ sizeLine; decide), fun g3 ng3 => ?_⟩
      have c3 := Same_new (o := HO.lst [.bl true, .bl (decide ((fl.filter fun x => decide (x = all)).length = 1)), .ref p12, .ref p13]) ng3
      have eg3 := upd_same (H := H13) (a := g3) (o := HO.lst [.bl true, .bl (decide ((fl.filter fun x => decide (x = all)).length = 1)), .ref p12, .ref p13])
      have sG := (((s10.trans s11).trans s12).trans s13).trans c3
      have hLG := sG _ _ hLC
      refine ⟨_, rfl, _, rfl, L, rfl, ⟨_, SqL.of hLG⟩, fun D2 nD2 => ?_⟩
      refine lc_fm (walk_list (xs := pws.map iV)) (fun j => (pws[j]?).bind fun n => if n = all then some (iV n) else Option.none) nD2 (by rw [List.length_map]; exact Nat.le_trans plen (by decide)) (fun H' s' => SqL.of (s' _ _ hLG)) (fun j v H14 H14' Kt Kf hj s14 y kt kf => ?_) (fun H14 s14 hD2 => ?_)
      · obtain ⟨rfl, hv⟩ := y
        rw [List.getElem?_map] at hv
        cases hn : pws[j]? with
        | none =>
          rw [hn] at hv
          cases hv
        | some n =>
          rw [hn] at hv
          have hv2 := (Option.some.inj hv).symm
          subst hv2
          refine ⟨rfl, _, rfl, _, rfl, rfl, _, rfl, two (fun h => ?_) (fun h => ?_)⟩
          · have en : n = all := by
              have q := V.int.inj (of_decide_eq_true h)
              omega
            exact ⟨_, rfl, kt _ _ (by rw [hn]; exact if_pos en) (Same.refl _)⟩
          · have en : ¬ n = all := fun q => by
              rw [q, decide_eq_true rfl] at h
              cases h
            exact kf _ (by rw [hn]; exact if_neg en) (Same.refl _)
      rw [List.length_map, fm_bind] at hD2
      refine ⟨_, _, rfl, .inl ⟨_, SqL.of hD2, rfl⟩, rfl, ?_⟩
      have eb : decide (V.int ((((pws.filterMap fun n => if n = all then some (iV n) else Option.none).length : Nat) : Int)) = V.int 1) = decide ((fl.filter fun x => decide (x = all)).length = 1) := by
        rw [int_eq, pick_len, (pm.filter _).length_eq]
        exact decide_eq_decide.mpr ⟨fun h => by omega, fun h => by omega⟩
      rw [eb]
      refine ⟨_, rfl, _, rfl, (by show 2 ≤ sizeLine; decide), fun t3 n3 => ⟨_, rfl, (by show 4 ≤ sizeLine; decide), fun g4 ng4 => ⟨_, _, rfl, ?_, fun H15 s15 => ⟨_, rfl, iteF ?_⟩⟩⟩⟩
      · have d1 := Same_new (o := HO.tup [.str o, iV all]) n3
        have d2 := Same_new (o := HO.lst [.bl true, .bl (decide ((fl.filter fun x => decide (x = all)).length = 1)), .ref t3, .ref z9]) ng4
        exact Sm4 (d2 _ _ (d1 _ _ (s14 _ _ eg3))) upd_same (d2 _ _ (d1 _ _ (s14 _ _ (c3 _ _ (s13 _ _ hp12))))) (d2 _ _ upd_same) (d2 _ _ (d1 _ _ (s14 _ _ (c3 _ _ hp13)))) (d2 _ _ (d1 _ _ (s14 _ _ (sG _ _ ez9))))
          (by show 2 < 1000; decide) (by rw [List.length_map]; omega) si_flat str_flat
      have sH : Same HC H15 := (((sG.trans s14).trans (Same_new n3)).trans (Same_new ng4)).trans s15
      have ezH := sH _ _ ez9
      refine ⟨_, rfl, z9, rfl, ⟨_, SqT.of ezH⟩, fun D3 nD3 => ?_⟩
      refine lc_fm (walk_tup (xs := ys.map V.str)) (fun _ => some (.bl true)) nD3 (by rw [List.length_map]; exact Nat.le_trans zlen (by decide)) (fun H' s' => SqT.of (s' _ _ ezH)) (fun j v H16 H16' Kt Kf hj s16 y kt kf => ?_) (fun H16 s16 hD3 => ?_)
      · obtain ⟨rfl, hv⟩ := y
        obtain ⟨b, hb, rfl⟩ : ∃ b, b ∈ ys ∧ v = V.str b := by
          obtain ⟨b, hb, e⟩ := List.mem_map.mp (List.mem_of_getElem? hv)
          exact ⟨b, hb, e.symm⟩
        obtain ⟨n, hn, rfl⟩ := List.mem_map.mp (pz.mem_iff.mp hb)
        have nF := pfw n hn
        obtain ⟨bF', bN', bM'⟩ := ltext_field oF nF.md nF.val
        have blen := ltext_len oF nF.len
        obtain ⟨Ln, lo, hin, lfew, lok⟩ := nF.out
        refine ⟨rfl, iteT (B := Kf H16') ?_⟩
        refine ⟨_, rfl, _, rfl, .inl ⟨ltext o n, rfl, Nat.le_trans blen (by decide), fun q => absurd (bF'.symm.trans q) (by decide), fun _ => .inr ⟨n, _, bM', nF.two, nF.le, nF.pp, fun H17 s17 => ⟨_, rfl, iteT ?_⟩⟩⟩⟩
        refine ⟨_, rfl, _, rfl, ltext o n, rfl, Nat.le_trans blen (by decide), fun q => absurd (bF'.symm.trans q) (by decide), fun _ => .inr ⟨n, Ln, bM', nF.pos, lo, by omega, lok, fun H18 p18 ws s18 pw sw nw hp18 => ?_⟩⟩
        refine ⟨p18, _, rfl, .inr (SqT.of hp18), rfl, fl_str, ?_⟩
        have hmem : ltext o n ∈ ws := by
          rw [pw.mem_iff, bN']
          refine (txAll_in _ _ _).mpr (.inl ?_)
          rw [← ftext_eq nF.dig]
          exact List.mem_map.mpr ⟨n, hin, rfl⟩
        show Kt (V.bl (inV (V.str (ltext o n)) (ws.map V.str))) H18
        rw [inV_str, decide_eq_true hmem]
        exact kt _ _ rfl (s17.trans s18)
      rw [List.length_map] at hD3
      refine ⟨D3, List.replicate ys.length true, rfl, SqL.of (hD3.trans (by rw [rep_true])), ?_⟩
      rw [rep_all]
      refine ⟨_, rfl, iteF ?_⟩
      have w1 : (ltext o all ++ "/").length ≤ 31 := by rw [app_len]; exact Nat.add_le_add flen (Nat.le_refl 1)
      have w2 : ("0" ++ ltext o all).length ≤ 31 := by
        rw [app_len]
        have : ("0" : Str).length = 1 := by decide +kernel
        omega
      have w1' : (ltext o all).length + ("/" : Str).length ≤ sizeLine := by rw [← app_len]; exact Nat.le_trans w1 (by decide)
      have w2' : ("0" : Str).length + (ltext o all).length ≤ sizeLine := by rw [← app_len]; exact Nat.le_trans w2 (by decide)
      refine ⟨_, rfl, _, _, rfl, rfl, w1', 0, _, rfl, Nat.le_trans w1 (by decide), behind_no oF, fun H19 p19 s19 hp19 => ?_⟩
      refine ⟨_, rfl, _, _, rfl, rfl, w2', 1, _, rfl, Nat.le_trans w2 (by decide), ahead_no oF, fun H20 p20 s20 hp20 => ?_⟩
      refine ⟨(by show 2 ≤ sizeLine; decide), fun g5 ng5 => ?_⟩
      refine ⟨_, rfl, _, rfl, _, _, rfl, rfl, w1', (by show 2 ≤ sizeLine; decide), fun t5 n5 => ?_⟩
      refine ⟨_, rfl, _, _, rfl, rfl, w2', (by show 2 ≤ sizeLine; decide), fun t6 n6 => ?_⟩
      refine ⟨(by show 2 ≤ sizeLine; decide), fun g6 ng6 => ⟨_, _, rfl, ?_, fun H21 s21 => ⟨_, rfl, iteF ?_⟩⟩⟩
      · have d1 := Same_new (o := HO.lst [.ref p19, .ref p20]) ng5
        have d2 := Same_new (o := HO.tup [.str "bad", .str (ltext o all ++ "/")]) n5
        have d3 := Same_new (o := HO.tup [.str "bad", .str ("0" ++ ltext o all)]) n6
        have d4 := Same_new (o := HO.lst [.ref t5, .ref t6]) ng6
        exact Sm2 (d4 _ _ (d3 _ _ (d2 _ _ upd_same))) upd_same (d4 _ _ (d3 _ _ (d2 _ _ (d1 _ _ (s20 _ _ hp19))))) (d4 _ _ (d3 _ _ upd_same)) (d4 _ _ (d3 _ _ (d2 _ _ (d1 _ _ hp20)))) (d4 _ _ upd_same)
          (by show 2 < 1000; decide) (by show 2 < 1000; decide) bad_flat bad_flat
      have sI : Same H8 H21 := (((((((((sC.trans sH).trans s16).trans s19).trans s20).trans (Same_new ng5)).trans (Same_new n5)).trans (Same_new n6)).trans (Same_new ng6)).trans s21)
      exact ⟨_, _, _, _, _, _, _, _, _, rfl, (hu8.same sI).le (by omega), kC.trans (Same.keep sI)⟩
    · subst e
      exact k _ kp1
end
end Jd
namespace Jd
open PySem PySem.Spec PyProof.Rows L2
/-! ### the law -/
def spLaw (K : PySem.W.Frag) : Sp := fun vs H Q _ => ∃ (a : Addr) (ns : List Int), vs = [.ref a] ∧ SqL K H a (ns.map V.int) ∧ ns.length ≤ 63 ∧ ∀ H', Same H H' → Q (.bl true) H'
section
variable {P : Program} {w : World} {K : PySem.W.Frag} {mg : Str → Option Value} {base : Heap}
abbrev NW : List Str := ["_law_script", "_law_cells_here", "_law_k"]
theorem sc_law : FnScope NW ["_law_script"] (defScope s_law) := ⟨rfl, rfl, rfl, by decide +kernel, rfl, by decide +kernel, by decide +kernel⟩
theorem ok_law (B : Bk K mg) {fd : FuncData} (F : Fun K "law" "law" s_law (He.ga K "law") fd) : FnOk P w K mg base CX0 10 (He.ga K "law") fd ["_law_script"] (spLaw K) := by
  obtain ⟨fdC, GC, bC⟩ := (ok_law_cells (P := P) (w := w) (base := base) B).ex
  have kC := (ok_law_cells (P := P) (w := w) (base := base) B).kp
  obtain ⟨fdX, GX, bX⟩ := (ok_law_box (P := P) (w := w) (base := base) B).ex
  have kX := (ok_law_box (P := P) (w := w) (base := base) B).kp
  obtain ⟨fdR, GR, bR⟩ := (ok_right (P := P) (w := w) (base := base) B).ex
  have kR := (ok_right (P := P) (w := w) (base := base) B).kp
  refine F.ok sc_law (fun vs H Q E h => ?_) (fun cdv A outer s H vs Q E hr h => ?_)
  · obtain ⟨_, _, rfl, _⟩ := h
    rfl
  · obtain ⟨a, ns, rfl, hs, hn, k⟩ := h
    have hr1 : Room 1 _ := hr.mono (by decide)
    refine ⟨_, pss_cons (ps_set (i := 1) sc_law.nd rfl (Or.inr rfl) (pe_call GC hr1 rfl B.g_law_cells kC bC .nil pass0 (pa_cons (pv 0) (pa_cons pe_int pa_nil))))
      (pss_one (ps_ret (pe_callB (cr_all rfl) (by rfl) B.b_all (by decide +kernel) (pa_cons (pe_lc (own := [("_law_k", 2)]) (g := gName 2) (tt := tYes) rfl sc_law.nd (pi_range1 rfl B.b_range (pa_cons (pe_callB call_len (by rfl) B.b_len (by decide +kernel) (pa_cons (pv 1) pa_nil)) pa_nil)) (blkOk_by (N := NW) (sc := defScope s_law) (by decide +kernel))
          (fun _ _ _ _ _ => pg_name (i := 2) sc_law.nd rfl (Or.inl rfl)) (fun _ _ _ _ _ => pts_nil) (fun _ _ _ _ _ => pe_call GR hr rfl B.g_law_right kR bR .nil pass0 (pa_cons (pe_call GX hr1 rfl B.g_law_box kX bX .nil pass0 (pa_cons (pv 1) (pa_cons (pv 2) pa_nil))) pa_nil))) pa_nil)))), ?_⟩
    refine ⟨_, rfl, a, ns, rfl, hs, hn, fun H1 p ms s1 np hp h1 h3 => ?_⟩
    refine ⟨_, rfl, _, _, rfl, .inl ⟨_, SqL.of hp, rfl⟩, _, rfl, by rw [List.length_map]; omega, by rw [List.length_map]; omega, fun D nD => ?_⟩
    refine lc_fm (n := ms.length) (by rw [List.length_map]; exact walk_range) (fun _ => some (.bl true)) nD (Nat.le_trans h3 (by decide)) (fun _ _ => trivial) (fun i x H2 H3 Kt Kf hi s2 y kt kf => ?_) (fun H2 s2 hD2 => ?_)
    · obtain ⟨rfl, rfl⟩ := y
      refine ⟨rfl, iteT (B := Kf H3) ?_⟩
      refine ⟨_, rfl, _, rfl, p, ms, i, by show [V.ref p, V.int (0 + (i : Int))] = _; rw [Int.zero_add], SqL.of (s2 _ _ hp), hi, by omega, fun H4 u s4 nu hu => ?_⟩
      refine ⟨u, rfl, hu, fun H5 kp => kt _ _ rfl fun b o q => kp _ _ (ne_of_none q nu) (s4 _ _ q)⟩
    · refine ⟨D, List.replicate ms.length true, rfl, SqL.of (hD2.trans (by rw [rep_true])), ?_⟩
      rw [rep_all]
      exact k _ (s1.trans s2)
theorem one_arg {fd : FuncData} (F : Fun K "law" "law" s_law (He.ga K "law") fd) (s : Shared) (u : Value) : BindsTo s fd ⟨[u], []⟩ [("_law_script", u)] := by
  obtain ⟨oc, od, kV, doc, pm, an, cdv, ct, osl, rfl, lk, hcd⟩ := F.ex
  exact .of_eq rfl
end
end Jd
namespace Jd
open PySem PySem.W PySem.Calls PyProof.Rows
/-! ### the end -/
abbrev lawDef := HandSHeadRun.topDef R.prog 57
theorem e_def : defOf qv R.name = some (lawDef, []) := by kernel_rfl
theorem e_the : R.prog.theDef R.name = some (lawDef.params, lawDef.body, lawDef.scope) := by kernel_rfl
theorem e_kw : kwWritten? lawDef.params.kwonlyargs lawDef.params.kw_defaults = some [] := by kernel_rfl
theorem e_wr : (!R.writes || R.records.isEmpty) = true := by rfl
theorem e_ok : (chainsOk qv && opensWell R.prog && (frees R.toRowW && R.within.isEmpty)) = true := by decide +kernel
theorem e_bare : R.prog.bare := ⟨rfl, rfl, rfl, rfl, rfl, by decide +kernel⟩
theorem e_name : lawDef.name = ("law" : PySem.Str) := by kernel_rfl
theorem e_nodf : lawDef.params.defaults = [] := by kernel_rfl
theorem e_prom : R.toRowW.promised := by w_witness2
theorem e_walk : WalkO qv loose (XL qv []) hk.says R.toRowW lawDef [] fun f vs => PySem.call f vs := by
  refine L2.walk_ofE (l := PySem.Challenge.rw_keyspans_k00_fields_or_none) (n := 63) (k := 10) (x := "_law_script") (CX := L2.CX0) rfl (by decide) e_nodf ⟨rfl, by decide, by decide⟩ ?F (fun _ _ _ _ z => z)
  intro w mg fa h Y G hmg0
  obtain ⟨K, KX, c⟩ := Y
  have hmg : mg ("law" : PySem.Str) = some (.ref fa) := by
    rw [← e_name]
    exact hmg0
  have B : Bk K mg := ⟨c, h, KX, G⟩
  have ef : fa = He.ga K "law" := by
    have q := B.g_law
    rw [hmg] at q
    injection q with q
    injection q
  subst ef
  obtain ⟨fd, F⟩ := B.F_law
  exact ⟨K, fd, spLaw K, KX, fun s u => one_arg F s u, fun H a ns hl _ hS => ⟨a, ns, rfl, hS, hl, fun _ _ => rfl⟩, fun base _ _ => ok_law B F⟩
theorem e_all (said : R.wellSaid = true) : R.Holds :=
  HandSHeadRun.head_imp (r := R) (q := qv) (H := hk) (ob := ob) (M := 6000) (loose := loose) (d := lawDef) (kwd := []) ob_eq run e_def e_the e_kw e_wr said e_ok e_bare e_prom e_walk
end Jd
open PySem PySem.W PySem.Calls PyProof.Rows
theorem PySem.Challenge.cw_keyspans_k00_fields_or_none_holds : PySem.Challenge.rw_keyspans_k00_fields_or_none.Holds := by
  w_on; o_law
  exact Jd.e_all (by assumption)
