import PyProof.Rows.All
import Wide.All
import OpenK.AllK
import Wide.FinOn
import PyProof.EqAt
import PyProof.EqKinds
import PyProof.TupleCall
import HandS.ForMost
import HandS.More
import HandS.Set
import HandS.SetFor
import HandS.Strs
import HandS.ExcInit
import HandS.ExcIs
import HandS.ExcField
import HandS.IsInst
import HandS.ExcOwn
import KE.KExcInit
import HandS.Walk
import HandS.Gcd
import HandS.Property
import HandS.Defaults
import HandS.Wide
import HandS.WideBits
import HandS.StrMore
import HandS.FStr
import HandS.DictComp
import HandS.Conv
import HandS.Flow
import HandS.Head0
import HandS.Head1
import HandS.Head2
import HandS.Head3
import HandS.HeadEnd
import HandS.HeadHook1
import HandS.HeadHook2
import HandS.HeadNt
import HandS.EndBits
import HandS.NoneIn
import HandS.OwnEq
import HandS.DeepEq
import HandS.MakeKwOnly
import PyProof.InstEq
import HandS.TryOnly
import HandS.Comp
import HandS.Dict
import HandS.CallSlots
import HandS.ForExc
import HandS.DictEq
import HandS.List
import PyProof.P3Eq
import HandS.Style
import HandS.Zip
import HandS.RaiseMore
import HandS.MakeKw
import PySem.Challenge.RW_keyspans_k01_keys_and_what_they_tell
set_option Elab.async false
set_option linter.all false
set_option maxRecDepth 100000
set_option maxHeartbeats 0
/-! Sets of texts: made of a list or a tuple of texts, sorted. -/
namespace Jd
open PySem PySem.Spec PyProof.Rows L2

def txK (e : Int × Value) : Str := match e.2 with
  | .str x _ => x
  | _ => Str.empty
def TxE (P : Program) (w : World) (e : Int × Value) : Prop := ∃ x tk, e.2 = Value.str x tk ∧ e.1 = (PySem.strKind P w).hash x
/-- the table holds the texts xs, each once -/
structure TxHas (P : Program) (w : World) (xs : List Str) (es : Array (Int × Value)) : Prop where
  good : ∀ e ∈ es.toList, TxE P w e
  perm : (es.toList.map txK).Perm xs
  nd : xs.Nodup
theorem TxHas.move {P : Program} {w : World} {xs : List Str} {es es' : Array (Int × Value)} (g : TxHas P w xs es) (p : es'.toList.Perm es.toList) : TxHas P w xs es' :=
  { good := fun e he => g.good e (p.mem_iff.mp he), perm := (p.map txK).trans g.perm, nd := g.nd }
theorem TxHas.size {P : Program} {w : World} {xs : List Str} {es : Array (Int × Value)} (g : TxHas P w xs es) : es.size = xs.length := by
  have q := g.perm.length_eq
  rw [List.length_map, Array.length_toList] at q
  exact q
/-- the set of texts at a -/
def TxS (P : Program) (w : World) (h : Heap) (a : Addr) (xs : List Str) : Prop :=
  ∃ o es ep t, h.get? a = some o ∧ o.ExactSet ∧ o.data = .set es ep t ∧ TxHas P w xs es ∧
    (es.size < scanBound ∧ t.fits es.size = true) ∧ Ris t.place.toList ∧ (w.params.followText "set-order" = true ∨ t.led = true)
section
variable {P : Program} {w : World} {h h' : Heap} {a : Addr} {xs : List Str}
theorem TxS.to (R : TxS P w h a xs) (k : ∀ o, h.get? a = some o → h'.get? a = some o) : TxS P w h' a xs := by
  obtain ⟨o, es, ep, t, q0, q1⟩ := R
  exact ⟨o, es, ep, t, k o q0, q1⟩
theorem tx_elems {l : List (Int × Value)} (g : ∀ e ∈ l, TxE P w e) : ElemsOf (PySem.strKind P w) l := by
  intro e he
  obtain ⟨x, tk, q1, q2⟩ := g e he
  refine ⟨⟨x, ?_, q2⟩, ?_⟩
  · rw [q1]
    exact PySem.strKind_is P w x tk
  · rw [q1]
    rfl
theorem tx_is {e : Int × Value} (g : TxE P w e) (x : Str) : (PySem.strKind P w).is x e.2 = true ↔ txK e = x := by
  obtain ⟨y, tk, q1, _⟩ := g
  have e1 : txK e = y := by
    unfold txK
    rw [q1]
  rw [e1, q1]
  show (Value.isStrOf x (.str y tk) = true) ↔ y = x
  simp [Value.isStrOf]
theorem tx_mem {l : List (Int × Value)} (g : ∀ e ∈ l, TxE P w e) (x : Str) : x ∈ l.map txK ↔ ∃ e ∈ l, (PySem.strKind P w).is x e.2 = true := by
  rw [List.mem_map]
  exact ⟨fun ⟨e, he, q⟩ => ⟨e, he, (tx_is (g e he) x).mpr q⟩, fun ⟨e, he, q⟩ => ⟨e, he, (tx_is (g e he) x).mp q⟩⟩
end
section
variable {P : Program} {w : World} {A : Around} {E : Value → Shared → Prop} {s : Shared} {a : Addr}
theorem tx_tail {g : Bool → Sem Unit} (hg : ∀ (b : Bool) (s₁ : Shared) (Q' : Unit → Shared → Prop), Q' () s₁ → wpAny (model P w) A (g b) Q' E s₁)
    {o : Obj} {es : Array (Int × Value)} {ep : Nat} {t : SetTable} (q0 : s.heap.get? a = some o) (q1 : o.ExactSet) (q2 : o.data = .set es ep t)
    {es1 : Array (Int × Value)} {t2 : SetTable} {xs : List Str} (q3 : TxHas P w xs es1)
    (q4 : es1.size < scanBound) (q5 : t2.fits es1.size = true) (q6 : Ris t2.place.toList) (q7 : w.params.followText "set-order" = true ∨ t2.led = true) {wasDummy : Bool} {R : Option Bool → Shared → Prop}
    (fin : ∀ hz, Heap.SameBut a s.heap hz → TxS P w hz a xs → R (some true) { s with heap := hz }) :
    wpAny (model P w) A (do
        storeSet a es1 t2
        if (!wasDummy && t2.tooFull) = true then do
            g (relayAll t2 es1 (SetTable.grown es1.size)).2.2
            storeSet a (relayAll t2 es1 (SetTable.grown es1.size)).1 (relayAll t2 es1 (SetTable.grown es1.size)).2.1
            pure (some true)
          else pure (some true)) R E s := by
  refine wpAny_bind (wpAny_storeSet_of q0 q2 ?_ (fits_of_scanBound q4))
  have r0 := store_at (es' := es1) (t' := t2) q0 q2
  have r1 := Heap.SameBut.update s.heap a (Obj.putSet es1 t2)
  split
  · have z1 := relayAll_perm t2 es1 (SetTable.grown es1.size)
    have z2 := relayAll_fits t2 es1 (SetTable.grown es1.size)
    have z3 := relayAll_ris t2 es1 (SetTable.grown es1.size)
    have z4 := relayAll_led t2 es1 (SetTable.grown es1.size)
    generalize relayAll t2 es1 (SetTable.grown es1.size) = Z at z1 z2 z3 z4 ⊢
    obtain ⟨es2, t3, gv⟩ := Z
    dsimp only at z1 z2 z3 z4 ⊢
    have q8 := q3.move z1
    have q9 : es2.size < scanBound := by rw [q8.size, ← q3.size]; exact q4
    refine wpAny_bind (hg _ _ _ ?_)
    refine wpAny_bind (wpAny_storeSet_of r0 rfl ?_ (fits_of_scanBound q9))
    have r2 := store_at (es' := es2) (t' := t3) r0 rfl
    refine wpAny_pure (fin _ (r1.trans (Heap.SameBut.update _ a _)) ?_)
    exact ⟨_, es2, _, t3, r2, q1, rfl, q8, ⟨q9, z2⟩, z3, q7.imp id fun z => by rw [z4]; exact z⟩
  · exact wpAny_pure (fin _ r1 ⟨_, es1, _, t2, r0, q1, rfl, q3, ⟨q4, q5⟩, q6, q7⟩)

def txAdd (xs : List Str) (x : Str) : List Str := if x ∈ xs then xs else x :: xs
theorem txAdd_len (xs : List Str) (x : Str) : (txAdd xs x).length ≤ xs.length + 1 := by
  unfold txAdd
  split
  · omega
  · exact Nat.le_refl _
theorem tx_add {x : Str} {tk : Tok} {xs : List Str} {Q : Bool → Shared → Prop} (R : TxS P w s.heap a xs) (room : xs.length + 1 < scanBound)
    (fin : ∀ hz b, Heap.SameBut a s.heap hz → TxS P w hz a (txAdd xs x) → Q b { s with heap := hz }) :
    wpAny (model P w) A (setAddHashed a (.str x tk) ((PySem.strKind P w).hash x)) Q E s := by
  obtain ⟨o, es, ep, t, q0, q1, q2, q3, ⟨q4, q5⟩, q6, q7⟩ := R
  have i1 : (PySem.strKind P w).is x (.str x tk) = true := PySem.strKind_is P w x tk
  have i2 : (Value.str x tk).scannable = true := rfl
  have i3 : ElemsOf (PySem.strKind P w) es.toList := tx_elems q3.good
  unfold setAddHashed setAddHashedIn
  refine wpAny_holding (wpAny_bind (wpAny_setState_of q0 q2 q5 ?_))
  dsimp only
  rw [byScan_of i2 q4 i3]
  simp only [↓reduceIte]
  unfold setAddByScan
  refine wpAny_bind ?_
  refine wpAny_bind (wpAny_rule ?_)
  refine wpAny_bind (wpAny_setScan_of i1 q0 q2 q5 i3 ?_)
  cases hf : List.findIdx? (fun e => (PySem.strKind P w).is x e.2) es.toList with
  | some j =>
    dsimp only
    obtain ⟨hj, pj, _⟩ := List.findIdx?_eq_some_iff_getElem.mp hf
    have hin : x ∈ xs := q3.perm.mem_iff.mp ((tx_mem (P := P) (w := w) q3.good x).mpr ⟨es.toList[j], List.getElem_mem hj, pj⟩)
    refine wpAny_pure (wpAny_pure ?_)
    refine fin s.heap false (Heap.SameBut.refl a s.heap) ?_
    unfold txAdd
    rw [if_pos hin]
    exact ⟨o, es, ep, t, q0, q1, q2, q3, ⟨q4, q5⟩, q6, q7⟩
  | none =>
    dsimp only
    have hno : x ∉ xs := fun z => by
      obtain ⟨e, he, q⟩ := (tx_mem (P := P) (w := w) q3.good x).mp (q3.perm.mem_iff.mpr z)
      have c := List.findIdx?_eq_none_iff.mp hf e he
      rw [q] at c
      cases c
    have gw : ∀ (b : Bool) {s₁ : Shared} {Q' : Unit → Shared → Prop}, Q' () s₁ → wpAny (model P w) A (match b with | true => rule "set.scan.the-table-gave-way" | false => pure ()) Q' E s₁ := by
      intro b s₁ Q' q
      cases b <;> first | exact wpAny_pure q | exact wpAny_rule q
    have z1 := layNew_perm t es ((PySem.strKind P w).hash x) (.str x tk)
    have z2 := layNew_fits t es ((PySem.strKind P w).hash x) (.str x tk)
    have z3 := layNew_ris t es ((PySem.strKind P w).hash x) (.str x tk) q6
    have z4 := layNew_led t es ((PySem.strKind P w).hash x) (.str x tk)
    generalize layNew t es ((PySem.strKind P w).hash x) (.str x tk) = Z at z1 z2 z3 z4 ⊢
    obtain ⟨es1, t1, wasDummy, gave⟩ := Z
    dsimp only at z1 z2 z3 z4 ⊢
    rw [Array.toList_push] at z1
    have pc : es1.toList.Perm (((PySem.strKind P w).hash x, Value.str x tk) :: es.toList) := z1.trans (List.perm_append_singleton _ _)
    have g1 : TxHas P w (x :: xs) es1 :=
      { good := fun e he => by
          rcases List.mem_cons.mp (pc.mem_iff.mp he) with z | z
          · rw [z]
            exact ⟨x, tk, rfl, rfl⟩
          · exact q3.good e z
        perm := (pc.map txK).trans (List.Perm.cons x q3.perm)
        nd := List.nodup_cons.mpr ⟨hno, q3.nd⟩ }
    have hb1 : es1.size < scanBound := by rw [g1.size]; exact room
    have hled : w.params.followText "set-order" = true ∨ t1.led = true := q7.imp id fun z => by rw [z4]; exact z
    have last : ∀ hz, Heap.SameBut a s.heap hz → TxS P w hz a (x :: xs) → Q true { s with heap := hz } := fun hz sb r => by
      refine fin hz true sb ?_
      unfold txAdd
      rw [if_neg hno]
      exact r
    refine wpAny_bind (gw _ ?_)
    split
    · refine wpAny_bind ?_
      rw [hashByValue_scannable 8 i2]
      refine wpAny_pure ?_
      refine tx_tail ?_ q0 q1 q2 g1 hb1 ?_ ?_ ?_ ?_
      · intro b s₁ Q' q; cases b <;> first | exact wpAny_pure q | exact wpAny_rule q
      · first | (split <;> first | exact z2 | exact SetTable.fits_plain_off z2) | exact z2
      · first | (split <;> exact z3) | exact z3
      · first | (split <;> exact hled) | exact hled
      · intro hz sb r; dsimp only; exact wpAny_pure (last hz sb r)
    · refine wpAny_bind (wpAny_pure ?_)
      simp only [↓reduceIte]
      refine tx_tail ?_ q0 q1 q2 g1 hb1 z2 z3 hled ?_
      · intro b s₁ Q' q; cases b <;> first | exact wpAny_pure q | exact wpAny_rule q
      · intro hz sb r; dsimp only; exact wpAny_pure (last hz sb r)
end
end Jd
namespace Jd
open PySem PySem.Spec PyProof.Rows L2
abbrev ledW (w : World) : Bool := !w.params.followText "set-order"
abbrev bareS (w : World) : Obj := { cls := .type "set", dict := none, data := .set #[] 0 (.fresh 0 0 (ledW w)) }
abbrev putS (w : World) (h : Heap) : Heap := h.push (bareS w)
theorem bare_tx {P : Program} {w : World} {h : Heap} {a : Addr} (q : h.get? a = some (bareS w)) : TxS P w h a [] :=
  ⟨_, #[], 0, _, q, ⟨rfl, rfl, rfl⟩, rfl, ⟨fun e he => (by simp at he), List.Perm.nil, List.nodup_nil⟩, ⟨by decide, by rfl⟩, List.Pairwise.nil, by
    show _ ∨ ledW w = true
    unfold ledW
    cases w.params.followText "set-order"
    · exact .inr rfl
    · exact .inl rfl⟩
theorem tx_at : ∀ {us : List Value} {xs : List Str}, StrsAre us xs → ∀ (i : Nat) (v : Value), us[i]? = some v → ∃ k t, xs[i]? = some k ∧ v = .str k t
  | _, _, .nil, i, v, h => by simp at h
  | _, _, .cons n t hr, 0, v, h => ⟨n, t, rfl, (Option.some.inj h).symm⟩
  | _, _, .cons n t hr, i + 1, v, h => tx_at hr i v h
def txAll (xs : List Str) : List Str := xs.foldl txAdd []
theorem txAll_in : ∀ (xs acc : List Str) (x : Str), x ∈ xs.foldl txAdd acc ↔ x ∈ xs ∨ x ∈ acc
  | [], acc, x => by simp
  | y :: r, acc, x => by
    show x ∈ r.foldl txAdd (txAdd acc y) ↔ _
    rw [txAll_in r (txAdd acc y) x, List.mem_cons]
    have e : x ∈ txAdd acc y ↔ x = y ∨ x ∈ acc := by
      unfold txAdd
      split
      · rename_i hy
        exact ⟨.inr, fun z => z.elim (fun q => q ▸ hy) id⟩
      · exact List.mem_cons
    rw [e]
    constructor
    · rintro (z | z | z)
      · exact .inl (.inr z)
      · exact .inl (.inl z)
      · exact .inr z
    · rintro ((z | z) | z)
      · exact .inr (.inl z)
      · exact .inl z
      · exact .inr (.inr z)
theorem txAll_len : ∀ (xs acc : List Str), (xs.foldl txAdd acc).length ≤ acc.length + xs.length
  | [], acc => Nat.le_refl _
  | y :: r, acc => by
    have q := txAll_len r (txAdd acc y)
    have q2 := txAdd_len acc y
    show (r.foldl txAdd (txAdd acc y)).length ≤ acc.length + (r.length + 1)
    omega
theorem take_step {xs : List Str} {i : Nat} {z : Str} (hz : xs[i]? = some z) : txAll (xs.take (i + 1)) = txAdd (txAll (xs.take i)) z := by
  unfold txAll
  rw [List.take_add_one, hz, List.foldl_append]
  rfl
section
variable {P : Program} {w : World} {A : Around} {E : Value → Shared → Prop} {s : Shared}
theorem tx_loop {I : Addr} {fp wr : List Addr} {G : Array GenState → Array GenState → Prop} {n : Nat} {Pv : Nat → Value → Prop} {St : Nat → Shared → Prop} {R : Result → Shared → Prop}
    (W : WalksS P w A.in1 I fp wr G n Pv St) (S : Addr) (away : S ∉ fp) (xs : List Str) (hn : n = xs.length) (hb : xs.length + 1 < scanBound) (hval : ∀ i v, Pv i v → ∃ k t, xs[i]? = some k ∧ v = .str k t) :
    ∀ (k i : Nat) (s : Shared), n - i = k → i ≤ n → St i s → TxS P w s.heap S (txAll (xs.take i)) →
      (∀ s', Moved (S :: wr) G s s' → TxS P w s'.heap S (txAll xs) → R (.ok (.ret .none)) s') →
      codeAny (model P w) A (.builtin "set.update.loop" ⟨[.ref S, .ref I], []⟩) R s := by
  have nw : S ∉ wr := fun h => away (W.sub _ h)
  have more : ∀ b ∈ wr, b ∈ S :: wr := fun b hb => List.mem_cons_of_mem _ hb
  intro k
  induction k with
  | zero =>
    intro i s hk' hi hst hS hR
    obtain rfl : i = n := by omega
    refine codeAny_builtin F.entry_set_update_loop ?_
    rw [Around.under_plainId F.plain_set_update_loop _]
    show wpAny _ A.in1 (pyNext (.ref I) >>= _) _ _ s
    refine wpAny_bind (W.done s _ _ hst fun s' hm => ?_)
    show wpAny _ A.in1 (ret Value.none) _ _ s'
    rw [List.take_of_length_le (by omega : xs.length ≤ i)] at hS
    exact wpAny_pure (hR s' (hm.mono more) (hS.to fun o e => hm.heap S o nw e))
  | succ k ih =>
    intro i s hk' hi hst hS hR
    have lt : i < n := by omega
    refine codeAny_builtin F.entry_set_update_loop ?_
    rw [Around.under_plainId F.plain_set_update_loop _]
    show wpAny _ A.in1 (pyNext (.ref I) >>= _) _ _ s
    refine wpAny_bind (W.item i s _ _ lt hst fun v s' hP hst' hm => ?_)
    obtain ⟨z, t, hz, rfl⟩ := hval i v hP
    have hS' : TxS P w s'.heap S (txAll (xs.take i)) := hS.to fun o e => hm.heap S o nw e
    show wpAny _ A.in1 (holding [Value.str z t] (setAdd S (.str z t)) >>= _) _ _ s'
    refine wpAny_bind (wpAny_holding ?_)
    unfold setAdd
    refine wpAny_holding ?_
    refine wpAny_bind ((PySem.strKind P w).pyHash (k := z) (PySem.strKind_is _ _ _ _) ?_)
    have few : (txAll (xs.take i)).length + 1 < scanBound := by
      have q := txAll_len (xs.take i) []
      have q2 : (xs.take i).length ≤ xs.length := by rw [List.length_take]; omega
      have q3 : ([] : List Str).length = 0 := rfl
      unfold txAll
      omega
    refine tx_add (s := { s' with toks := s'.toks + 1 }) hS' few fun h' bb hsb hS2 => ?_
    rw [← take_step hz] at hS2
    refine wpAny_pure ⟨plainId_quiet F.plain_set_update_loop _, ih (i + 1) _ (by omega) lt (W.frame _ s' _ _ hst' (Nat.le_succ _) fun b hb o e => ?_) hS2 fun s'' hm'' hS'' => ?_⟩
    · rw [hsb.2 b (fun q : b = S => away (by rw [← q]; exact hb))]; exact e
    · refine hR s'' (Moved.trans W.gtrans ((hm.mono more).then_heap (Nat.le_succ _) fun b o hb e => ?_) hm'') hS''
      rw [hsb.2 b (fun q : b = S => hb (by rw [q]; exact List.mem_cons_self))]; exact e

set_option maxHeartbeats 8000000 in
theorem tx_of_list {l : Addr} {items : Array Value} (xs : List Str) {Q : Value → Shared → Prop} (calm : A.handled = none) (hl : s.heap.IsList l items) (hit : StrsAre items.toList xs) (hb : xs.length + 1 < scanBound)
    (fin : ∀ (hz : Heap) (tk : Nat), TxS P w hz s.heap.objs.size (txAll xs) → (∀ b o, s.heap.get? b = some o → hz.get? b = some o) → Q (.ref s.heap.objs.size) { s with heap := hz, toks := tk }) :
    wpAny (model P w) A (call (.type "set") [.ref l]) Q E s := by
  have hisz : items.size = xs.length := by
    have q := hit.length
    rw [Array.length_toList] at q
    exact q
  obtain ⟨c, tl, hmro⟩ := F.called_set.mro
  have z0 := F.called_set.made
  have z1 := F.called_set.sub
  refine wpAny_call (codeAny_of_tree ?_)
  show wpAny _ _ (callAny (.type "set") _) _ _ _
  refine wpAny_pure ⟨Code.quiet_builtin _ (by decide +kernel), codeAny_builtin F.entry_type_call ?_⟩
  rw [Around.under_plain (weight_type_call_type "set" [.ref l] []) rfl]
  have z2 := F.called_set.notType
  have z3 := F.called_set.canCreate
  have z4 := F.typeCall_set_1 (.ref l)
  repeat (any_goals (first | assumption | wp_step))
  refine codeAny_mono (code_set_led1 (.ref l) (E := E) (Q₁ := fun obj s₁ => obj = .ref s.heap.objs.size ∧ s₁ = { s with heap := putS w s.heap }) ⟨rfl, rfl⟩) fun r s₁ hr => ?_
  cases r with
  | error e => exact hr
  | ok fl =>
    cases fl with
    | ret obj =>
      obtain ⟨rfl, rfl⟩ := hr
      have hS : (putS w s.heap).get? s.heap.objs.size = some (bareS w) := Heap.get?_push_size _ rfl
      have hT : Shared.TypeIs { s with heap := putS w s.heap } (.ref s.heap.objs.size) "set" := ⟨_, hS, rfl⟩
      have z5 := F.called_set.init.lookup
      have z6 := F.called_set.init.bind (.ref s.heap.objs.size)
      repeat (any_goals (first | assumption | wp_step))
      refine codeAny_mono (codeAny_call_builtin (R := wants (fun r s₂ => r = .none ∧ ∃ hz tk, s₂ = { s with heap := hz, toks := tk } ∧ TxS P w hz s.heap.objs.size (txAll xs) ∧
          (∀ b o, s.heap.get? b = some o → hz.get? b = some o)) E) F.called_set.init.plain F.entry_set_init (check_set_init_1 hT ?_)) fun r₂ s₂ hr₂ => ?_
      · obtain ⟨ol, hol, hcl, nl, hdl⟩ := hl
        obtain ⟨oc, od, dt, osl⟩ := ol
        simp only at hcl hdl
        subst hcl
        subst hdl
        have hol' : (putS w s.heap).get? l = some { cls := .type "list", dict := od, data := .seq items nl, slots := osl } := Heap.get?_push_of_some _ hol
        have z7 := F.sub_list_set
        have z8 := F.sub_list_frozenset
        have z9 : (Value.type "list" == Value.type "dict") = false := by decide
        have hl1 : (putS w s.heap).IsList l items := ⟨_, hol', rfl, nl, rfl⟩
        unfold Builtin.«set.__init__» noKeywords Builtin.Frozenset.updateFrom
        generalize hPI : pyIter = PI
        wp_walk
        subst hPI
        refine wpAny_pyIter_list hl1 ?_
        refine wpAny_bind (wpAny_runValue ?_)
        have lt : l < s.heap.objs.size := Heap.lt_size hol
        have calm3 : A.in1.in1.in1.handled = none := by simp [calm]
        have sz1 : (putS w s.heap).objs.size = s.heap.objs.size + 1 := Heap.size_push ..
        have neI : l ≠ (putS w s.heap).objs.size := by
          rw [sz1]
          exact Nat.ne_of_lt (Nat.lt_succ_of_lt lt)
        have away : s.heap.objs.size ∉ [(putS w s.heap).objs.size, l] := by
          rw [sz1]; simp only [List.mem_cons, List.mem_singleton, List.not_mem_nil, or_false, not_or]
          exact ⟨Nat.ne_of_lt (Nat.lt_succ_self _), Nat.ne_of_gt lt⟩
        have hval : ∀ (i : Nat) (v : Value), items[i]? = some v → ∃ k t, xs[i]? = some k ∧ v = .str k t := fun i v hv => by
          have hi : i < xs.length := by rw [← hisz]; exact (Array.getElem?_eq_some_iff.mp hv).1
          exact tx_at hit i v (by rw [Array.getElem?_toList]; exact hv)
        refine tx_loop ((Walks.list calm3 _ l neI items).toS) s.heap.objs.size
          away xs hisz hb hval (items.size - 0) 0 _ (by omega) (Nat.zero_le _)
          ⟨⟨_, Heap.get?_push_size _ rfl, rfl, rfl⟩, (hl1.push _)⟩ ?hS0 ?hR
        case hS0 =>
          exact bare_tx (Heap.get?_push_of_some _ hS)
        case hR =>
          intro s' hm hS'
          obtain ⟨h', g2, d', tk', os'⟩ := s'
          have eg : g2 = s.gens := hm.gens
          have ed : d' = s.drawn := hm.drawn
          have eo : os' = s.os := hm.os
          subst eg; subst ed; subst eo
          show wpAny _ _ _ _ _ _
          refine wpAny_pure ?_
          show wpAny _ _ (ret Value.none) _ _ _
          refine wpAny_pure ⟨rfl, h', tk', rfl, hS', fun b o e => ?_⟩
          have b0 : b < s.heap.objs.size := Heap.lt_size e
          have b1 : b ≠ s.heap.objs.size := Nat.ne_of_lt b0
          have b2 : b ≠ (putS w s.heap).objs.size := by
            rw [sz1]
            exact Nat.ne_of_lt (Nat.lt_succ_of_lt b0)
          exact hm.heap b o (by simp only [List.mem_cons, List.mem_singleton, List.not_mem_nil, or_false, not_or]; exact ⟨b1, b2⟩) (Heap.get?_push_of_some _ (Heap.get?_push_of_some _ e))
      · cases r₂ with
        | error e => exact hr₂
        | ok fl₂ =>
          cases fl₂ with
          | ret r =>
            obtain ⟨rfl, h', tk, rfl, hS', hk'⟩ := hr₂
            repeat (any_goals (first | assumption | wp_step))
            exact fin _ _ hS' hk'
          | _ => exact hr₂.elim
    | _ => exact hr.elim

set_option maxHeartbeats 8000000 in
theorem tx_of_tuple {l : Addr} {items : Array Value} (xs : List Str) {Q : Value → Shared → Prop} (calm : A.handled = none) (hl : s.heap.IsTuple l items) (hit : StrsAre items.toList xs) (hb : xs.length + 1 < scanBound)
    (fin : ∀ (hz : Heap) (tk : Nat), TxS P w hz s.heap.objs.size (txAll xs) → (∀ b o, s.heap.get? b = some o → hz.get? b = some o) → Q (.ref s.heap.objs.size) { s with heap := hz, toks := tk }) :
    wpAny (model P w) A (call (.type "set") [.ref l]) Q E s := by
  have hisz : items.size = xs.length := by
    have q := hit.length
    rw [Array.length_toList] at q
    exact q
  obtain ⟨c, tl, hmro⟩ := F.called_set.mro
  have z0 := F.called_set.made
  have z1 := F.called_set.sub
  refine wpAny_call (codeAny_of_tree ?_)
  show wpAny _ _ (callAny (.type "set") _) _ _ _
  refine wpAny_pure ⟨Code.quiet_builtin _ (by decide +kernel), codeAny_builtin F.entry_type_call ?_⟩
  rw [Around.under_plain (weight_type_call_type "set" [.ref l] []) rfl]
  have z2 := F.called_set.notType
  have z3 := F.called_set.canCreate
  have z4 := F.typeCall_set_1 (.ref l)
  repeat (any_goals (first | assumption | wp_step))
  refine codeAny_mono (code_set_led1 (.ref l) (E := E) (Q₁ := fun obj s₁ => obj = .ref s.heap.objs.size ∧ s₁ = { s with heap := putS w s.heap }) ⟨rfl, rfl⟩) fun r s₁ hr => ?_
  cases r with
  | error e => exact hr
  | ok fl =>
    cases fl with
    | ret obj =>
      obtain ⟨rfl, rfl⟩ := hr
      have hS : (putS w s.heap).get? s.heap.objs.size = some (bareS w) := Heap.get?_push_size _ rfl
      have hT : Shared.TypeIs { s with heap := putS w s.heap } (.ref s.heap.objs.size) "set" := ⟨_, hS, rfl⟩
      have z5 := F.called_set.init.lookup
      have z6 := F.called_set.init.bind (.ref s.heap.objs.size)
      repeat (any_goals (first | assumption | wp_step))
      refine codeAny_mono (codeAny_call_builtin (R := wants (fun r s₂ => r = .none ∧ ∃ hz tk, s₂ = { s with heap := hz, toks := tk } ∧ TxS P w hz s.heap.objs.size (txAll xs) ∧
          (∀ b o, s.heap.get? b = some o → hz.get? b = some o)) E) F.called_set.init.plain F.entry_set_init (check_set_init_1 hT ?_)) fun r₂ s₂ hr₂ => ?_
      · obtain ⟨ol, hol, hcl, nl, hdl⟩ := hl
        obtain ⟨oc, od, dt, osl⟩ := ol
        simp only at hcl hdl
        subst hcl
        subst hdl
        have hol' : (putS w s.heap).get? l = some { cls := .type "tuple", dict := od, data := .seq items nl, slots := osl } := Heap.get?_push_of_some _ hol
        have z7 := F.sub_tuple_set
        have z8 := F.sub_tuple_frozenset
        have z9 : (Value.type "tuple" == Value.type "dict") = false := by decide
        have hl1 : (putS w s.heap).IsTuple l items := ⟨_, hol', rfl, nl, rfl⟩
        unfold Builtin.«set.__init__» noKeywords Builtin.Frozenset.updateFrom
        generalize hPI : pyIter = PI
        wp_walk
        subst hPI
        refine wpAny_pyIter_tuple hl1 ?_
        refine wpAny_bind (wpAny_runValue ?_)
        have lt : l < s.heap.objs.size := Heap.lt_size hol
        have calm3 : A.in1.in1.in1.handled = none := by simp [calm]
        have sz1 : (putS w s.heap).objs.size = s.heap.objs.size + 1 := Heap.size_push ..
        have neI : l ≠ (putS w s.heap).objs.size := by
          rw [sz1]
          exact Nat.ne_of_lt (Nat.lt_succ_of_lt lt)
        have away : s.heap.objs.size ∉ [(putS w s.heap).objs.size, l] := by
          rw [sz1]; simp only [List.mem_cons, List.mem_singleton, List.not_mem_nil, or_false, not_or]
          exact ⟨Nat.ne_of_lt (Nat.lt_succ_self _), Nat.ne_of_gt lt⟩
        have hval : ∀ (i : Nat) (v : Value), items[i]? = some v → ∃ k t, xs[i]? = some k ∧ v = .str k t := fun i v hv => by
          have hi : i < xs.length := by rw [← hisz]; exact (Array.getElem?_eq_some_iff.mp hv).1
          exact tx_at hit i v (by rw [Array.getElem?_toList]; exact hv)
        refine tx_loop ((Walks.tuple calm3 _ l neI items).toS) s.heap.objs.size
          away xs hisz hb hval (items.size - 0) 0 _ (by omega) (Nat.zero_le _)
          ⟨⟨_, Heap.get?_push_size _ rfl, rfl, rfl⟩, (hl1.push _)⟩ ?hS0 ?hR
        case hS0 =>
          exact bare_tx (Heap.get?_push_of_some _ hS)
        case hR =>
          intro s' hm hS'
          obtain ⟨h', g2, d', tk', os'⟩ := s'
          have eg : g2 = s.gens := hm.gens
          have ed : d' = s.drawn := hm.drawn
          have eo : os' = s.os := hm.os
          subst eg; subst ed; subst eo
          show wpAny _ _ _ _ _ _
          refine wpAny_pure ?_
          show wpAny _ _ (ret Value.none) _ _ _
          refine wpAny_pure ⟨rfl, h', tk', rfl, hS', fun b o e => ?_⟩
          have b0 : b < s.heap.objs.size := Heap.lt_size e
          have b1 : b ≠ s.heap.objs.size := Nat.ne_of_lt b0
          have b2 : b ≠ (putS w s.heap).objs.size := by
            rw [sz1]
            exact Nat.ne_of_lt (Nat.lt_succ_of_lt b0)
          exact hm.heap b o (by simp only [List.mem_cons, List.mem_singleton, List.not_mem_nil, or_false, not_or]; exact ⟨b1, b2⟩) (Heap.get?_push_of_some _ (Heap.get?_push_of_some _ e))
      · cases r₂ with
        | error e => exact hr₂
        | ok fl₂ =>
          cases fl₂ with
          | ret r =>
            obtain ⟨rfl, h', tk, rfl, hS', hk'⟩ := hr₂
            repeat (any_goals (first | assumption | wp_step))
            exact fin _ _ hS' hk'
          | _ => exact hr₂.elim
    | _ => exact hr.elim

theorem strs_good : ∀ (l : List Value), (∀ v ∈ l, ∃ x tk, v = Value.str x tk) → StrsAre l (l.map strOf)
  | [], _ => .nil
  | v :: l, h => by
    obtain ⟨x, tk, rfl⟩ := h v List.mem_cons_self
    exact .cons x tk (strs_good l fun u hu => h u (List.mem_cons_of_mem _ hu))
theorem tx_sorted {a : Addr} {xs : List Str} {Q : Value → Shared → Prop} (R : TxS P w s.heap a xs) (calm : A.handled = none) (h64 : xs.length < 64)
    (fin : ∀ s' p (out : Array Value) (c : Nat) (ys : List Str), (∀ b o, s.heap.get? b = some o → s'.heap.get? b = some o) → s'.gens = s.gens → s'.os = s.os → s.heap.objs.size ≤ p →
      s'.heap.get? p = some (seqObj "list" out c) → StrsAre out.toList ys → sortedS ys = true → ys.Perm xs → Q (.ref p) s') :
    wpAny (model P w) A (call (.builtin "sorted") [.ref a]) Q E s := by
  obtain ⟨o, es, ep, t, q0, q1, q2, q3, ⟨q4, q5⟩, q6, q7⟩ := R
  refine Calls.call_function_entry kind_sorted plain_sorted entry_sorted (args_sorted1 _) ?_
  unfold Builtin.«sorted»
  refine wpAny_bind (m := checkCount "sorted" 1 1 _) (wpAny_pure ?_)
  refine wpAny_bind (collect_set (A := A.in1) calm ⟨o, q0, q1.1, q2⟩ q5 q4 q6 q7 fun s1 vs k1 hz g1 o1 pm => ?_)
  have few : vs.length < 64 := by
    rw [pm.length_eq, List.length_map, Array.length_toList, q3.size]
    exact h64
  have hI : StrsAre vs (vs.map strOf) := strs_good vs fun v hv => by
    obtain ⟨e, he, q⟩ := List.mem_map.mp (pm.mem_iff.mp hv)
    obtain ⟨x, tk, h1, _⟩ := q3.good e he
    exact ⟨x, tk, by rw [← q]; exact h1⟩
  have pk : (vs.map strOf).Perm xs := by
    have q := pm.map strOf
    rw [List.map_map] at q
    have e : es.toList.map (strOf ∘ fun x => x.2) = es.toList.map txK := List.map_congr_left fun e he => by
      obtain ⟨x, tk, h1, _⟩ := q3.good e he
      show strOf e.2 = txK e
      unfold txK
      rw [h1]
      rfl
    rw [e] at q
    exact q.trans q3.perm
  refine wpAny_bind (wpAny_newList ?_ (by rw [sizeLine_eq]; omega))
  have oL : (s1.heap.push (seqObj "list" vs.toArray 0)).get? s1.heap.objs.size = some (seqObj "list" vs.toArray 0) := Heap.get?_push_size _ rfl
  refine wpAny_bind (wpAny_holding (wpAny_call_entry slot_list_sort ⟨_, oL, rfl⟩ entry_list_sort
    (list_sort_treeK PyProof.Rows.strKind_oneLt oL hI.keysOf (fun v₁ v₂ rest e => keyKind_strs (by rw [← e]; exact hI)) few fun st' hp hs => ⟨_, rfl, ?_⟩) (args_list_sort _)))
  obtain ⟨ys, a1, a2, a3⟩ := sorted_out_str hI hp hs
  obtain ⟨c, hc⟩ := sortedHeap_at (vs := vs) (out := (arrOf st').map (·.2)) oL
  refine wpAny_pure ⟨_, rfl, fin _ s1.heap.objs.size _ c ys (fun b u e => ?_) g1 o1 hz hc a1 a3 (a2.trans pk)⟩
  have q := k1 b u e
  have lt := Heap.lt_size q
  show (sortedHeap (s1.heap.push (seqObj "list" vs.toArray 0)) s1.heap.objs.size vs ((arrOf st').map (·.2))).get? b = some u
  rw [sortedHeap_old (Nat.ne_of_lt lt) (by rw [Heap.size_push]; exact Nat.lt_succ_of_lt lt)]
  exact Heap.get?_push_of_some _ q
end
/-! ### over the layer -/
def TxO (P : Program) (w : World) (a : Addr) (xs : List Str) : HO := .ext fun h => TxS P w h a xs
section
variable {X : Cx}
theorem txO_ok {P : Program} {w : World} {H : Hp} {h : Heap} {a : Addr} {xs : List Str} (R : TxS P w h a xs) : ObjOk P w H h a (TxO P w a xs) := by
  have ⟨o, _, _, _, ho, _⟩ := R
  exact ⟨R, ⟨o, ho⟩, fun h1 h2 p k => TxS.to p k⟩
def rSetTx (X : Cx) : List V → Hp → VK → Prop := fun vs H Q => ∃ (l : Addr) (xs : List Str), vs = [V.ref l] ∧ (SqL X.K H l (xs.map V.str) ∨ SqT X.K H l (xs.map V.str)) ∧ xs.length < 64 ∧
  ∀ a, H a = none → Q (.ref a) (upd H a (TxO X.prog X.w a (txAll xs)))
theorem cr_setTx (hc : X.calm = true) : CallR X (.type "set") (rSetTx X) := by
  intro pins s σ H vs us Q I r h
  obtain ⟨l, xs, rfl, hl, h64, q⟩ := h
  rw [Vals.ref1 r]
  have hn : H s.heap.objs.size = none := I.hok.fresh (Nat.le_refl _)
  have sb : xs.length + 1 < scanBound := by unfold scanBound; omega
  rcases hl with hl | hl
  · obtain ⟨its, rv, pl, hz⟩ := I.list hl
    refine tx_of_list (P := X.prog) (w := X.w) xs (I.ok.hd hc) pl.isList (by simpa using rv.strs) sb fun h' tk R k => ?_
    exact ⟨.ref s.heap.objs.size, upd H s.heap.objs.size (TxO X.prog X.w s.heap.objs.size (txAll xs)), I.laid (t' := tk) k (Nat.le_refl _) (txO_ok R), rfl, q _ hn⟩
  · obtain ⟨its, rv, ⟨o, ho, hcl, n, hd⟩, _⟩ := I.tuple hl
    refine tx_of_tuple (P := X.prog) (w := X.w) xs (I.ok.hd hc) (items := its.toArray) ⟨o, ho, hcl, n, hd⟩ (by simpa using rv.strs) sb fun h' tk R k => ?_
    exact ⟨.ref s.heap.objs.size, upd H s.heap.objs.size (TxO X.prog X.w s.heap.objs.size (txAll xs)), I.laid (t' := tk) k (Nat.le_refl _) (txO_ok R), rfl, q _ hn⟩
def rSortTx (X : Cx) : List V → Hp → VK → Prop := fun vs H Q => ∃ (a : Addr) (xs : List Str), vs = [V.ref a] ∧ H a = some (TxO X.prog X.w a xs) ∧ xs.length < 64 ∧
  ∀ (ys : List Str) (p : Addr), ys.Perm xs → sortedS ys = true → xs.Nodup → H p = none → Q (.ref p) (upd H p (.lst (ys.map V.str)))
theorem cr_sortTx (hc : X.calm = true) : CallR X (.builtin "sorted") (rSortTx X) := by
  intro pins s σ H vs us Q I r h
  obtain ⟨a, xs, rfl, ha, h64, q⟩ := h
  have R : TxS X.prog X.w s.heap a xs := (I.hok a _ ha).1
  have nd : xs.Nodup := by
    obtain ⟨_, _, _, _, _, _, _, q3, _⟩ := R
    exact q3.nd
  rw [Vals.ref1 r]
  refine tx_sorted R (I.ok.hd hc) h64 fun s' p out c ys k g o hp hg hi hs hm => ?_
  have hlen : (ys.map V.str).length ≤ sizeLine := by
    rw [List.length_map, hm.length_eq, sizeLine_eq]
    omega
  have hn : H p = none := I.hok.fresh hp
  have J : Inv X pins σ (upd H p (.lst (ys.map V.str))) { s with heap := s'.heap, gens := s'.gens, drawn := s'.drawn, toks := s'.toks } :=
    I.call (ch := []) (Un.laid k hp hn) (I.hok.laid k hp ⟨hlen, out.toList, c, vals_of_strs hi, hg⟩) (by rw [g]; exact I.bare) (fun _ z => nomatch z)
  have e : s' = { s with heap := s'.heap, gens := s'.gens, drawn := s'.drawn, toks := s'.toks } := by
    obtain ⟨b0, b1, b2, b3, b4⟩ := s'
    obtain ⟨c0, c1, c2, c3, c4⟩ := s
    cases o
    rfl
  rw [e]
  exact ⟨.ref p, _, J, rfl, q ys p hm hs nd hn⟩
end
end Jd
/-! try: .. except (A, B, ..) as e: suite, where the error outlives the suite: it is tracked behind it. -/
namespace Jd
open PySem PySem.Spec PyProof.Rows L2
/-- an error object at a: its class, its own dict -/
def ErO (cls : Value) (d : Option Addr) (a : Addr) : HO := .ext fun h => ∃ (oe : Obj) (vs : Array Value), h.get? a = some oe ∧ Zc cls d oe ∧ oe.data = .fields vs
theorem erO_ok {P : Program} {w : World} {H : Hp} {h : Heap} {a : Addr} {cls : Value} {d : Option Addr} {oe : Obj} {vs : Array Value} (q : h.get? a = some oe) (z : Zc cls d oe) (dt : oe.data = .fields vs) : ObjOk P w H h a (ErO cls d a) :=
  ⟨⟨oe, vs, q, z, dt⟩, ⟨oe, q⟩, fun _ _ ⟨o, v, r0, r1⟩ k => ⟨o, v, k o r0, r1⟩⟩
theorem flyZ_more {B : Heap} {l : List Env} {e : Addr} {Z : Obj → Prop} {h h' : Heap} (R : HandSPX.FlyingZ B l e Z h) (k : ∀ b o, h.get? b = some o → h'.get? b = some o) : HandSPX.FlyingZ B l e Z h' := by
  obtain ⟨f1, f2, f3, oe, vs, T, oT, ts, q0, q1, q2, q3, q4, q5, q6, q7⟩ := R
  exact ⟨fun b o q => k b o (f1 b o q), f2, f3.of_keeps fun b o q _ => ⟨o, k b o q, rfl⟩, oe, vs, T, oT, ts, k _ _ q0, q1, q2, q3, q4, q5, k _ _ q6, q7⟩
section
variable {X : Cx} {pins : List (Addr × Obj)} {σ : L2.St} {H : Hp} {s : Shared}
/-- an object that stands untracked in the heap is tracked from now on -/
theorem Inv_track {a : Addr} {oe : Obj} {o : HO} (I : Inv X pins σ H s) (he : s.heap.get? a = some oe) (na : H a = none) (n0 : X.s_0.heap.get? a = none) (np : ∀ p ∈ X.pn ++ pins, p.1 ≠ a) (nL : a ≠ X.env.locals)
    (nc : ∀ v, oe.data ≠ .cell v) (new : ObjOk X.prog X.w (upd H a o) s.heap a o) : Inv X pins σ (upd H a o) s := by
  have ne0 : ∀ {b : Addr} {ob : Obj}, X.s_0.heap.get? b = some ob → b ≠ a := fun {b ob} q z => by
    rw [z, n0] at q
    cases q
  have neS : ∀ {b : Addr} {u : HO}, H b = some u → b ≠ a := fun {b u} q z => by
    rw [z, na] at q
    cases q
  have nce : ∀ x c, X.env.cells.lookup x = some c → c ≠ a := fun x c q z => by
    obtain ⟨v, ob, r0, r1⟩ := I.cell x c q
    rw [z, he] at r0
    cases r0
    exact nc v r1
  refine ⟨I.ok, I.os, I.bare, ⟨I.base.keep, I.base.slot, fun b ob q n hx => ?_, I.base.there, fun b xs q => ?_, fun b ob u q => ?_, fun b ps q => ?_⟩, I.loc, I.cell, ?_, fun x c q => ?_, fun p hp => ?_, fun b u q => ?_, I.len⟩
  · rw [upd_ne (ne0 q)]
    exact I.base.free b ob q n hx
  · have r := I.base.tups b xs q
    rw [upd_ne (neS r)]
    exact r
  · have r := I.base.frzs b ob u q
    rw [upd_ne (neS r)]
    exact r
  · obtain ⟨m, r⟩ := I.base.tbls b ps q
    exact ⟨m, by rw [upd_ne (neS r)]; exact r⟩
  · rw [upd_ne nL.symm]
    exact I.free
  · rw [upd_ne (nce x c q)]
    exact I.freeC x c q
  · obtain ⟨r0, r1, r2⟩ := I.pin p hp
    exact ⟨r0, by rw [upd_ne (np p hp)]; exact r1, r2⟩
  · by_cases hb : b = a
    · subst hb
      rw [upd_same] at q
      cases q
      exact new
    · rw [upd_ne hb] at q
      exact (I.hok b u q).stay (fun c v _ r => r) (fun c r => by rw [upd_ne (neS r)]; exact r) fun c xs r => by rw [upd_ne (neS r)]; exact r
end
/-- what an except clause's tuple of classes is worth -/
def HTest (X : Cx) (t : Expr) (cs : List Value) : Prop := ∀ (a : Addr) (oe : Obj) (pn pins : List (Addr × Obj)) (σ : L2.St) (H : Hp) (s : Shared) (b : Bool) (Q : Bool → Shared → Prop) (E : Value → Shared → Prop),
  Inv (X.suite a pn) pins σ H s → s.heap.get? a = some oe → PySem.W.exmAny X.K oe.cls cs = some b → (∀ hz, (∀ q o, s.heap.get? q = some o → hz.get? q = some o) → Q b { s with heap := hz }) →
  wpAny (model X.prog X.w) (X.A.mark (some (.ref a))) (eval t X.env) (fun c s₁ => wpAny (model X.prog X.w) (X.A.mark (some (.ref a))) (excMatches (.ref a) c) Q E s₁) E s
theorem names_ev {X : Cx} {x : Str} {c : Value} {a : Addr} {pn pins : List (Addr × Obj)} {σ : L2.St} {H : Hp} {s : Shared} {np : Pos} {Q : Value → Shared → Prop} {E : Value → Shared → Prop} (n : Names X x c) (I : Inv (X.suite a pn) pins σ H s) (q : Q c s) :
    wpAny (model X.prog X.w) (X.A.mark (some (.ref a))) (eval (.Name x np) X.env) Q E s := by
  obtain ⟨hg, hdbg, hm | ⟨hm, hv, hnn⟩⟩ := n
  · exact ld_glob (X := X.suite a pn) I hg hm q hdbg
  · exact ld_blt (X := X.suite a pn) I hg hm hv q hnn hdbg
theorem htest2 {X : Cx} {x1 x2 : Str} {c1 c2 : Value} {p1 p2 tp : Pos} {kk : Nat} (n1 : Names X x1 c1) (n2 : Names X x2 c2) : HTest X (.Tuple [.Name x1 p1, .Name x2 p2] kk tp) [c1, c2] := by
  intro a oe pn pins σ H s b Q E I he hx q
  refine wpAny_Tuple (wpAny_items_cons (names_ev (pn := pn) (pins := pins) (σ := σ) (H := H) n1 I (wpAny_items_cons (names_ev (pn := pn) (pins := pins) (σ := σ) (H := H) n2 I (wpAny_items_nil ⟨(by show 2 ≤ sizeLine; decide), ?_⟩)))))
  have kp : ∀ q o, s.heap.get? q = some o → (s.heap.push { cls := .type "tuple", data := .seq [c1, c2].toArray }).get? q = some o := fun _ _ z => Heap.get?_push_of_some _ z
  have LT : PySem.W.Looks (model X.prog X.w) s.heap (typeOf (.ref a)) oe.cls := fun A Q E s k q => wpAny_typeOf_ref (k _ _ he) q
  exact (PySem.W.exm_tup2 (I.kIn.keeps kp) (LT.keeps kp) (Heap.get?_push_size s.heap rfl) hx).here (q _ kp)
theorem htest3 {X : Cx} {x1 x2 x3 : Str} {c1 c2 c3 : Value} {p1 p2 p3 tp : Pos} {kk : Nat} (n1 : Names X x1 c1) (n2 : Names X x2 c2) (n3 : Names X x3 c3) : HTest X (.Tuple [.Name x1 p1, .Name x2 p2, .Name x3 p3] kk tp) [c1, c2, c3] := by
  intro a oe pn pins σ H s b Q E I he hx q
  refine wpAny_Tuple (wpAny_items_cons (names_ev (pn := pn) (pins := pins) (σ := σ) (H := H) n1 I (wpAny_items_cons (names_ev (pn := pn) (pins := pins) (σ := σ) (H := H) n2 I (wpAny_items_cons (names_ev (pn := pn) (pins := pins) (σ := σ) (H := H) n3 I (wpAny_items_nil ⟨(by show 3 ≤ sizeLine; decide), ?_⟩)))))))
  have kp : ∀ q o, s.heap.get? q = some o → (s.heap.push { cls := .type "tuple", data := .seq [c1, c2, c3].toArray }).get? q = some o := fun _ _ z => Heap.get?_push_of_some _ z
  have LT : PySem.W.Looks (model X.prog X.w) s.heap (typeOf (.ref a)) oe.cls := fun A Q E s k q => wpAny_typeOf_ref (k _ _ he) q
  exact (PySem.W.exm_tup3 (I.kIn.keeps kp) (LT.keeps kp) (Heap.get?_push_size s.heap rfl) hx).here (q _ kp)
theorem htest4 {X : Cx} {x1 x2 x3 x4 : Str} {c1 c2 c3 c4 : Value} {p1 p2 p3 p4 tp : Pos} {kk : Nat} (n1 : Names X x1 c1) (n2 : Names X x2 c2) (n3 : Names X x3 c3) (n4 : Names X x4 c4) :
    HTest X (.Tuple [.Name x1 p1, .Name x2 p2, .Name x3 p3, .Name x4 p4] kk tp) [c1, c2, c3, c4] := by
  intro a oe pn pins σ H s b Q E I he hx q
  refine wpAny_Tuple (wpAny_items_cons (names_ev (pn := pn) (pins := pins) (σ := σ) (H := H) n1 I (wpAny_items_cons (names_ev (pn := pn) (pins := pins) (σ := σ) (H := H) n2 I (wpAny_items_cons (names_ev (pn := pn) (pins := pins) (σ := σ) (H := H) n3 I (wpAny_items_cons (names_ev (pn := pn) (pins := pins) (σ := σ) (H := H) n4 I (wpAny_items_nil ⟨(by show 4 ≤ sizeLine; decide), ?_⟩)))))))))
  have kp : ∀ q o, s.heap.get? q = some o → (s.heap.push { cls := .type "tuple", data := .seq [c1, c2, c3, c4].toArray }).get? q = some o := fun _ _ z => Heap.get?_push_of_some _ z
  have LT : PySem.W.Looks (model X.prog X.w) s.heap (typeOf (.ref a)) oe.cls := fun A Q E s k q => wpAny_typeOf_ref (k _ _ he) q
  exact (PySem.W.exm_tup4 (I.kIn.keeps kp) (LT.keeps kp) (Heap.get?_push_size s.heap rfl) hx).here (q _ kp)
/-- what the clause wishes of an exception of the body: slot i is the error's name; behind the suite the error stands tracked -/
def wErr (K : PySem.W.Frag) (cs : List Value) (i : Nat) (ts : Addr → Value → Option Addr → TS) (Wout : WX) (D : Ends) : WX := fun cls d σ H =>
  ∃ b, PySem.W.exmAny K cls cs = some b ∧ (b = true → ∀ a, H a = none → ts a cls d { nx := fun σ' H' => H' a = none → D.nx (σ'.set i none) (upd H' a (ErO cls d a)), rt := D.rt, bk := fun σ' H' => D.bk (σ'.set i none) H', ct := fun σ' H' => D.ct (σ'.set i none) H' } (σ.set i (some (.ref a))) H) ∧
    (b = false → Wout cls d σ H)
section
variable {X : Cx} {n : Str} {t : Expr} {cs : List Value} {i : Nat} {body suite : List Stmt} {b₀ : Stmt} {pos pos' : Pos} {tb : WX → TS} {ts : Addr → Value → Option Addr → TS} {Wout : WX}
theorem ps_try_err (hs : X.stack = X.env :: X.outer) (hf : X.env.frame = some X.env.locals) (hex : X.ex = []) (hN : X.N.Nodup) (hi : X.N[i]? = some n) (hln : X.env.kindOf n = some .local) (hc : HTest X t cs) (tk : Takes X Wout)
    (hb : ∀ (W : WX) (pn : List (Addr × Obj)) (xe : Value → Shared → Prop), Takes (X.tr pn xe) W → PassesOwn (model X.prog X.w) X.A X.env xe → PSs (X.tr pn xe) body (tb W))
    (hsu : ∀ (a : Addr) (oe : Obj) (cls : Value) (d : Option Addr) (pn : List (Addr × Obj)), Zc cls d oe → (∃ vs, oe.data = .fields vs) → PSs (X.suite a ((a, oe) :: pn)) (b₀ :: suite) (ts a cls d)) :
    PS X (.Try body [.ExceptHandler (some t) (some n) (b₀ :: suite) pos'] [] [] pos) (fun D σ H => tb (wErr X.K cs i ts Wout D) D σ H) := by
  refine ⟨fun pins s σ H D I h => ?_⟩
  have ok := I.ok
  have loc : Loc X.env.scope n := .inl hln
  have frm : X.A.frames = some (X.env :: X.outer) := by rw [ok.frames, hs]
  refine wpAny_Try_except ?_
  refine wpAny_mono ((hb (wErr X.K cs i ts Wout D) (X.pn ++ pins) (fun e s₁ => wpAny (model X.prog X.w) X.A (noteFrame e X.env) (fun _ s₂ => wpAny (model X.prog X.w) X.A (setFlight e none) (fun _ s₃ =>
    wpAny (model X.prog X.w) X.A (handleBy e X.env [.ExceptHandler (some t) (some n) (b₀ :: suite) pos']) (SP X pins D) X.xe s₃) X.xe s₂) X.xe s₁) (fun u s' xx => ?_) PassesOwn.looking).run [] s σ H D (I.toTry _) h) (fun f s1 hsp => ?_) (fun e s1 he => he)
  · obtain ⟨a, B, sI, pins', σ', H', cls, d, rfl, J', nb, up, sky, na, os, ag, b, w1, w2, w3⟩ := xx
    have J : Inv X pins σ' H' sI := J'.ofTry ok
    have sk : Sky B (X.env :: X.outer) a (Zc cls d) X.env.locals s'.heap := by rw [← hs]; exact sky
    show wpAny (model X.prog X.w) X.A (noteFrame (.ref a) X.env) _ _ _
    refine Sky.land Zc.steady frm hf sk fun h3 fl3 up3 => ?_
    have J3 : Inv X pins σ' H' { s' with heap := h3 } := J.landed nb fl3.1 (up.trans up3) os ag
    obtain ⟨oe3, vs3, he3, hz3, hd3⟩ := fl3.there
    have nfr : a ∉ frs (X.env :: X.outer) := fun hm => by
      obtain ⟨_, o', e', nf⟩ := fl3.2.2.1.mem hm
      rw [he3] at e'
      cases e'
      exact nf _ hd3
    have nL : a ≠ X.env.locals := fun z => nfr (List.mem_filterMap.mpr ⟨X.env, List.mem_cons_self, by rw [hf, z]⟩)
    have nF : a ∉ X.fs := fun hm => by
      obtain ⟨e, he, q⟩ := List.mem_filterMap.mp hm
      exact nfr (List.mem_filterMap.mpr ⟨e, List.mem_cons_of_mem _ he, q⟩)
    have nI : sI.heap.get? a = none := by
      cases q : sI.heap.get? a with
      | none => rfl
      | some o =>
        have r := nb a o q (by rw [hs]; exact nfr)
        rw [fl3.2.1] at r
        cases r
    have n0 : X.s_0.heap.get? a = none := by
      cases q : X.s_0.heap.get? a with
      | none => rfl
      | some o =>
        obtain ⟨o', r⟩ := J.base.there a o q (by rw [hex]; exact fun z => nomatch z)
        rw [nI] at r
        cases r
    have np : ∀ p ∈ X.pn ++ pins, p.1 ≠ a := fun p hp z => by
      have r := (J.pin p hp).1
      rw [z, nI] at r
      cases r
    have S3 := J3.suite he3 hd3 na nL nF
    refine wpAny_handleBy_cons (codeAny_handlers_test (hc a oe3 ((a, oe3) :: (X.pn ++ pins)) [] σ' H' _ b _ _ S3 he3 (by rw [hz3.1]; exact w1) fun h5 k5 => ?_)) (by intro q; cases q)
    have fl5 : HandSPX.FlyingZ B (X.env :: X.outer) a (Zc cls d) h5 := flyZ_more fl3 k5
    have up5 : h3.UpToSlots h5 := Heap.UpToSlots.of_keeps k5
    cases b with
    | true =>
      refine codeAny_handlers_suite_as ?_
      refine HandSPX.lands_againZ fl5 fun h4 fl4 up4 => ?_
      have J4 : Inv X pins σ' H' { s' with heap := h4 } := J.landed nb fl4.1 (((up.trans up3).trans up5).trans up4) os ag
      obtain ⟨oe4, vs4, he4, hz4, hd4⟩ := fl4.there
      have S4 := J4.suite he4 hd4 na nL nF
      refine store_ok (X := X.suite a ((a, oe4) :: (X.pn ++ pins))) (v := .ref a) S4 hN hi loc rfl (fun s5 S5 => ?_) (.inr hln)
      refine wpAny_mono ((hsu a oe4 cls d (X.pn ++ pins) hz4 ⟨_, hd4⟩).run [] s5 _ H' _ S5 (w2 rfl a na)) (fun f s6 hsp => ?_) (fun _ _ z => False.elim z)
      have gone : ∀ {σ6 : L2.St} {H6 : Hp} {Q : Shared → Prop}, Inv X pins σ6 H6 s6 → (∀ s7, Inv X pins (σ6.set i none) H6 s7 → Q s7) →
          wpAny (model X.prog X.w) X.A (do bindName X.env n .none; unbindBehindTheSuite X.env n pos') (fun _ s7 => Q s7) X.xe s6 := fun {σ6 H6 Q} S6 hq => gone_ok S6 hN hi hln hq
      cases f with
      | next =>
        obtain ⟨σ6, H6, S6, q6⟩ := hsp
        obtain ⟨r0, r1, _⟩ := S6.pin (a, oe4) (List.mem_append_left _ List.mem_cons_self)
        have S7 := Inv_track (o := ErO cls d a) (S6.unsuite ok) r0 r1 n0 np nL (fun v z => by have z' : oe4.data = .cell v := z; rw [hd4] at z'; cases z') (erO_ok r0 hz4 hd4)
        exact gone S7 fun s7 J7 => ⟨_, _, J7, q6 r1⟩
      | brk =>
        obtain ⟨σ6, H6, S6, q6⟩ := hsp
        exact gone (S6.unsuite ok) fun s7 J7 => ⟨_, _, J7, q6⟩
      | cont =>
        obtain ⟨σ6, H6, S6, q6⟩ := hsp
        exact gone (S6.unsuite ok) fun s7 J7 => ⟨_, _, J7, q6⟩
      | ret u =>
        obtain ⟨v6, σ6, H6, S6, r6, q6⟩ := hsp
        exact gone (S6.unsuite ok) fun s7 J7 => ⟨_, _, _, J7, r6, q6⟩
    | false =>
      show wpAny _ X.A (handleBy (.ref a) X.env []) _ _ _
      refine wpAny_handleBy_nil ?_
      obtain ⟨k1, k2, k3, oe, vs, T, oT, ts', g0, g1, g2, g3, gr⟩ := id fl5
      unfold PySem.passOn
      refine wpAny_bind (wpAny_field g0 g2 g3 ?_)
      rw [if_neg (show ¬ ((Value.ref T == Value.none) = true) from by simp)]
      have last : wpAny (model X.prog X.w) X.A (setFlight (.ref a) X.env.frame) (fun _ s4 => wpAny (model X.prog X.w) X.A (throw (.ref a) : Sem Flow) (SP X pins D) X.xe s4) X.xe { s' with heap := h5 } := by
        rw [hf]
        refine HandSPX.setFlight_upZ fl5 fun h4 hh4 up4 => wpAny_throw (tk _ _ ?_)
        exact ⟨a, B, sI, pins, σ', H', cls, d, rfl, J, nb, ((up.trans up3).trans up5).trans up4, .inr (.inr (by rw [hs]; exact hh4)), na, os, ag, w3 rfl⟩
      first
        | exact wpAny_bind (wpAny_pure (wpAny_bind last))
        | exact wpAny_bind last
  · cases f with
    | next =>
      obtain ⟨σ', H', J', q⟩ := hsp
      exact wpAny_execs_nil ⟨σ', H', J'.ofTry ok, q⟩
    | brk =>
      obtain ⟨σ', H', J', q⟩ := hsp
      exact ⟨σ', H', J'.ofTry ok, q⟩
    | cont =>
      obtain ⟨σ', H', J', q⟩ := hsp
      exact ⟨σ', H', J'.ofTry ok, q⟩
    | ret u =>
      obtain ⟨v, σ', H', J', r, q⟩ := hsp
      exact ⟨v, σ', H', J'.ofTry ok, r, q⟩
end
/-! ### the error behind the suite: its field, isinstance -/
/-- e.f, e an error that is tracked -/
def tErF (K : PySem.W.Frag) (f : Str) (te : TE) : TE := fun σ H Q => te σ H fun x H1 => ∃ (a C dd : Addr) (fs : List (Str × V)) (v : V), x = .ref a ∧ H1 a = some (ErO (.ref C) (some dd) a) ∧ XfC K C ∧ PySem.W.findIn K (.ref C) f = some none ∧
  H1 dd = some (.xd fs) ∧ fs.lookup f = some v ∧ Q v H1
theorem pe_erF {X : Cx} {e : Expr} {te : TE} {pos : Pos} {f : Str} (he : PE X e te) (hb : attributeBase e f X.env (eval e X.env) = eval e X.env := by rfl) : PE X (.Attribute e f pos) (tErF X.K f te) := by
  refine ⟨fun pins s σ H Q I h => ?_⟩
  refine attr_of hb (thn (he.run pins s σ H _ I h) fun u s1 hh => ?_)
  obtain ⟨x, H1, I1, rx, a, C, dd, fs, v, ex, ea, T, hno, ed, l, q⟩ := hh
  subst ex
  obtain rfl : u = Value.ref a := rx
  obtain ⟨oe, vs, r0, r1, r2⟩ := (I1.hok a _ ea).1
  have hx : ObjOk X.prog X.w H1 s1.heap dd (.xd fs) := I1.hok dd _ ed
  obtain ⟨mA, hns, hr⟩ := hx
  obtain ⟨od, ho, hl⟩ := lookIn_ns hns
  obtain ⟨u, hu, ru⟩ := RelO.some_of (v := v) (o := mA f) (by rw [← l]; exact hr f)
  have J : PySem.W.InstAt s1.heap a oe C (some od) := ⟨r0, r1.1, by unfold PySem.W.notCls; rw [r2] <;> rfl, by rw [r1.2]; exact ho⟩
  exact HandSPX.exc_get I1.kIn J T.ga T.gg T.exC (PySem.W.findObj_own T.hdC hno rfl (by rw [hl, hu])) (handed_of ru) ⟨v, H1, I1.tok _, ru, q⟩
end Jd
namespace Jd
open PySem PySem.Spec PyProof.Rows L2
/-! ### an own error over LookupError, made by its own __init__ -/
/-- what stands behind such a class in its order -/
abbrev leRow : List Value := [.type "LookupError", .type "Exception", .type "BaseException", .type "object"]
structure LexC (K : PySem.W.Frag) (C : Addr) : Prop where
  shape : ∃ nm ql N bs sl sb ab cl dt j0 j1 j2 j3 j5,
    K.lookup C = some (excClassObj nm ql C N bs leRow true sl sb ab cl dt j0 j1 j2 j3 j5 "LookupError.__new__")
  store : PySem.W.findIn K (.ref C) "__setattr__" = some (some (.builtin "object.__setattr__"))
  isE : PySem.W.subIn K (.ref C) (.type "BaseException") = some true
  isT : PySem.W.typeIn K (.ref C) = some (.type "type")
  keep : PySem.W.keepIn K (.ref C) = true
end Jd
namespace Jd
open PySem Builtin Builtin.ObjectAttr
theorem le_pass (self : Value) (C : Addr) : refuseLoop self "__setattr__" (.ref C :: leRow) = pure () := by
  rw [refuseLoop_ref]
  exact F.store_LookupError.passes self
section
variable {P : Program} {w : World} {A : Around} {R : Result → Shared → Prop} {hp : Heap} {g : Array GenState} {dr : Drawn} {tk0 : Nat} {os : OsState}
/-- e.f = v, e an error of such a class without a dict -/
theorem le_first {K : W.Frag} {f : Str} {tk : Tok} {v : Value} {e C : Addr} {cells : Array Value} {c : ClassData} (inK : K.In hp)
    (he : hp.get? e = some { cls := .ref C, data := .fields cells }) (hc : W.clsIn K C = some c) (hm : c.mro = .ref C :: leRow)
    (hh : c.hasDict = true) (hf : W.findIn K (.ref C) f = some none)
    (fin : ∀ hp' tk' dx, (∀ b o, b ≠ e → hp.get? b = some o → hp'.get? b = some o) → hp.objs.size ≤ dx → dx ≠ e →
      hp'.get? e = some { cls := .ref C, dict := some dx, data := .fields cells } →
      hp'.Ns1 dx (fun y => if y = f then some v else none) → R (.ok (.ret .none)) ⟨hp', g, dr, tk', os⟩) :
    codeAny (model P w) A (.call (.builtin "object.__setattr__") ⟨[.ref e, .str f tk, v], []⟩) R ⟨hp, g, dr, tk0, os⟩ := by
  have inst : W.InstAt hp e { cls := .ref C, data := .fields cells } C none := ⟨he, rfl, rfl, trivial⟩
  have S := F.store_object
  have obj : c.mro.contains (.type "object") = true := by
    rw [hm, List.contains_cons]
    rfl
  have far : e ≠ hp.objs.size := Nat.ne_of_lt (Heap.lt_size he)
  have isO : W.Looks (model P w) hp (isInstance (.ref e) (.type "object")) true :=
    inst.type.andThen (W.looks_mroIn inK (by
      unfold W.mroIn
      rw [hc, Option.bind_some, if_neg (by rw [hm]; exact Bool.false_ne_true), obj]))
  refine codeAny_call_builtin S.slot.plain S.entry
    (@W.check_slot (model P w) _ _ ⟨hp, g, dr, tk0, os⟩ "object.__setattr__" "object" "__setattr__" (.ref e) [.str f tk, v] [] _
      S.kind S.split isO (S.args (.ref e) (.str f tk) v) ?_)
  have lm : W.Looks (model P w) hp (mroOf (.ref C)) c.mro := (W.looks_clsIn inK hc).andThen .now
  have lt : W.Looks (model P w) hp (storeTaker? none) none := .now
  have lc : W.Looks (model P w) hp (classData C) c := W.looks_clsIn inK hc
  rw [W.osa_eq, refuse_eq]
  refine wpAny_bind (wpAny_bind (inst.type.at (wpAny_bind (lm.at ?_))))
  rw [hm, le_pass]
  refine wpAny_pure (wpAny_bind (inst.type.at (wpAny_bind
    ((W.looks_findIn inK hf).at (wpAny_bind (lt.at ?_))))))
  show wpAny _ _ (storeInOwnDict (.ref e) (.ref C) (.str f tk) f v false) _ _ _
  obtain ⟨a1, a2, a3, a4, a5, a6, a7, a8, a9, a10, a11⟩ := c
  dsimp only at hh
  subst hh
  unfold storeInOwnDict ownDictForStores
  repeat (first
    | with_reducible refine HandSPX.store_in_new ?_ ?_
    | with_reducible refine wpAny_loadPart_at he ?_
    | with_reducible refine lc.at ?_
    | wp_step)
  · refine ⟨_, #[], _, (Heap.get?_update_ne _ _ _ _ far.symm).trans (Heap.get?_push_at rfl rfl), rfl, ?_, fun _ => rfl⟩
    exact fun q hq => absurd hq (by simp)
  · intro hp' tk' ns same
    have he2 : (hp.push { cls := .type "dict", data := .dict #[] }).get? e = some { cls := .ref C, data := .fields cells } :=
      Heap.get?_push_of_some _ he
    refine fin hp' tk' hp.objs.size (fun b o nb ho => ?_) (Nat.le_refl _) far.symm ?_ ns
    · rw [same.2 b (Nat.ne_of_lt (Heap.lt_size ho)), Heap.get?_update_ne _ _ _ _ nb]
      exact Heap.get?_push_of_some _ ho
    · rw [same.2 e far]
      exact Heap.get?_update_self _ he2 rfl
end
end Jd
namespace Jd
open PySem PySem.Spec PyProof.Rows L2
section
variable {X : Cx} {pins : List (Addr × Obj)} {σ : L2.St} {H : Hp} {s : Shared} {a C : Addr} {A : Around}
theorem LexC.cd {K : PySem.W.Frag} (T : LexC K C) : ∃ c : ClassData, PySem.W.clsIn K C = some c ∧ c.mro = .ref C :: leRow ∧ c.hasDict = true := by
  obtain ⟨nm, ql, N, bs, sl, sb, ab, cl, dt, j0, j1, j2, j3, j5, lk⟩ := T.shape
  refine ⟨{ name := nm, bases := bs, mro := .ref C :: leRow, ns := N, qualname := ql, hasDict := true, slotNames := sl, subclasses := sb, abstract := ab, collection := cl, hasDel := false }, ?_, rfl, rfl⟩
  unfold PySem.W.clsIn
  rw [lk] <;> rfl
/-- the error's first field -/
theorem le_field {f : Str} {y : V} {u : Value} {Q : Unit → Shared → Prop} {E : Value → Shared → Prop} (T : LexC X.K C)
    (I : Inv X pins σ H s) (ea : H a = some (exo a C none)) (nf : PySem.W.findIn X.K (.ref C) f = some none) (ry : RelV y u)
    (fin : ∀ dx s', H dx = none → dx ≠ a → Inv X pins σ (upd (upd H dx (exd dx [(f, y)])) a (exo a C (some dx))) s' → Q () s') :
    wpAny (model X.prog X.w) A (setAttr (.ref a) f u) Q E s := by
  obtain ⟨c, hc, hm, hh⟩ := T.cd
  obtain ⟨t1, ho⟩ := exo_at I.hok ea
  obtain ⟨hp, g, d, t, os⟩ := s
  refine PySem.W.set_plain I.kIn (od := none)
    (ox := { cls := .ref C, dict := none, data := .fields #[.ref t1, .none, .none, .none, .bool false, .none] })
    ⟨ho, rfl, rfl, trivial⟩ T.store ?_
  refine le_first I.kIn ho hc hm hh nf (fun hp' tk' dx kept lo ne hx ns => ?_)
  have free : H dx = none := I.hok.fresh lo
  have below : ∀ {b : Addr} {o : Obj}, hp.get? b = some o → b ≠ dx := fun {b o} q =>
    Nat.ne_of_lt (Nat.lt_of_lt_of_le (Heap.lt_size q) lo)
  have other : ∀ {b : Addr}, H b = none → b ≠ a := fun {b} q z => by
    rw [z, ea] at q
    cases q
  have two_off : ∀ {b : Addr} {o : HO}, H b = some o → b ≠ a → (upd (upd H dx (exd dx [(f, y)])) a (exo a C (some dx))) b = some o :=
    fun {b o} q n => by
      rw [upd_ne n, upd_ne (ne_of_none q free)]
      exact q
  have un : Un X.fs [] H (upd (upd H dx (exd dx [(f, y)])) a (exo a C (some dx))) hp hp' := {
    keep := fun b o q n _ _ => kept b o (other n) q
    slot := fun b o q n _ _ => ⟨o.slots, kept b o (other n) q⟩
    free := fun b o q n _ => by
      rw [upd_ne (other n), upd_ne (below q)]
      exact n
    there := fun b o q _ => by
      rcases Nat.decEq b a with h | h
      · exact ⟨o, kept b o h q⟩
      · exact ⟨_, h ▸ hx⟩
    tups := fun b xs q => two_off q (at_ne ea q exo_tup)
    frzs := fun b o v q => two_off q (at_ne ea q exo_frz)
    tbls := fun b ps q => ⟨#[], by
      rw [two_off q (at_ne ea q exo_tbl)]
      simp⟩ }
  refine fin dx _ free ne (I.un (t' := tk') un fun b o q => ?_)
  by_cases ba : b = a
  · subst ba
    rw [upd_same] at q
    cases q
    exact exo_ok hx
  rw [upd_ne ba] at q
  by_cases bd : b = dx
  · subst bd
    rw [upd_same] at q
    cases q
    exact exd_ok ns (relO_put (fs := []) ry fun _ => True.intro)
  rw [upd_ne bd] at q
  refine (I.hok b o q).stay (fun c v hcv z => kept c v ?_ z) (fun c hcv => ?_) (fun c xs hcv => two_off hcv (at_ne ea hcv exo_tup))
  · rcases hcv with h | h
    · exact h ▸ ba
    · exact at_ne ea h exo_own
  · rw [upd_ne (at_ne ea hcv exo_own), upd_ne (ne_of_none hcv free)]
    exact hcv
/-- LookupError.__init__(e, ..) -/
theorem le_init {us : List Value} {Q : Value → Shared → Prop} {E : Value → Shared → Prop} (T : LexC X.K C) (I : Inv X pins σ H s)
    (ea : H a = some (exo a C none)) (hl : us.length ≤ sizeLine) (fin : ∀ s', Inv X pins σ H s' → Q .none s') :
    wpAny (model X.prog X.w) A (call (.builtin "LookupError.__init__") (.ref a :: us)) Q E s := by
  obtain ⟨nm, ql, N, bs, sl, sb, ab, cl, dt, j0, j1, j2, j3, j5, lk⟩ := T.shape
  obtain ⟨t1, ho⟩ := exo_at I.hok ea
  obtain ⟨hp, g, d, t, os⟩ := s
  refine wpAny_call (PySem.HandSPX.init_base F.excBase_LookupError (fun _ => rfl) (I.kIn _ _ lk) ho hl fun hp' t2 kept hx => ?_)
  have again : upd H a (exo a C none) = H := funext fun b => by
    unfold upd
    split
    · rename_i h
      rw [h, ea]
    · rfl
  have J := I.write (t' := t) (x := a) (e := a) (o := exo a C none) (by rw [ea]; exact True.intro) (.inl rfl) kept ⟨_, hx⟩ (exo_ok hx)
  exact fin _ (by rw [again] at J; exact J)
end
end Jd
namespace Jd
open PySem PySem.Spec PyProof.Rows L2
/-! ### its rules -/
def tLeI (K : PySem.W.Frag) (ta : TA) : TE := fun σ H Q => ta σ H fun vs H1 =>
  ∃ (a C : Addr) (ws : List V), vs = .ref a :: ws ∧ ws.length ≤ 1000 ∧ LexC K C ∧ H1 a = some (exo a C none) ∧ Q .non H1
def tLeF (K : PySem.W.Frag) (f : Str) (to te : TE) : TS := fun D σ H => te σ H fun y H1 => to σ H1 fun x H2 =>
  ∃ a C : Addr, x = .ref a ∧ LexC K C ∧ PySem.W.findIn K (.ref C) f = some none ∧ H2 a = some (exo a C none) ∧
    ∀ dx, H2 dx = none → dx ≠ a → D.nx σ (upd (upd H2 dx (exd dx [(f, y)])) a (exo a C (some dx)))
section
variable {X : Cx} {o e : Expr} {es : List Expr} {to te : TE} {ta : TA} {f : Str} {p p' p1 p2 pos : Pos}
theorem typ_LE : typeOf (.type "LookupError") = pure (.type "type") := by kernel_rfl
/-- LookupError.__init__(self, ..) as an expression -/
theorem pe_leinit {pl : Sem Bool} (hg : Gl X "LookupError") (hm : X.mg "LookupError" = none)
    (at_ : PySem.W.findCls X.K (.type "LookupError") (.type "type") "__init__" = some (.val (.builtin "LookupError.__init__"))) (ha : PA X (e :: es) ta)
    (ev : eval (.Call (.Attribute (.Name "LookupError" p1) "__init__" p2) (e :: es) [] pos) X.env = (do
      let base ← eval (.Name "LookupError" p1) X.env
      standAt p2.atName
      let (f, first) ← holding [base] (getMethod base "__init__" pl)
      callWith pos f first (backTo pos (starEach (e :: es) X.env)) (backToKw pos (keywordEach [] X.env))) := by rfl)
    (st : starEach (e :: es) X.env = (false, eval e X.env) :: starEach es X.env := by rfl)
    (ns : (backTo pos (starEach es X.env)).any (fun q => q.1) = false := by rfl) :
    PE X (.Call (.Attribute (.Name "LookupError" p1) "__init__" p2) (e :: es) [] pos) (tLeI X.K ta) := by
  refine ⟨fun pins s σ H Q I h => PySem.W.methodCall_KW (ld_blt I hg hm PyProof.Rows.Boot.«LookupError» ?_ (by decide) (by decide)) ev⟩
  obtain ⟨m, fr⟩ := I.fr
  refine PySem.W.method_type fr I.ok.mod.kin typ_LE (by decide +kernel) at_ (by decide +kernel) ?_
  show wpAny _ _ (callWith pos (Value.builtin "LookupError.__init__") [] (backTo pos (starEach (e :: es) X.env)) []) _ _ _
  refine PyProof.Rows.callWith_method1 (thn (ha.run pos pins _ σ H _ (I.tok _) h) fun us s1 hz => ?_) st ns
  obtain ⟨vs, H1, I1, rel, a, C, ws, rfl, short, T, ea, q⟩ := hz
  cases rel with
  | @cons _ self _ rest r0 rs =>
    obtain rfl : self = Value.ref a := r0
    have few : rest.length ≤ sizeLine := by
      have z := Paired.length rs
      rw [sizeLine_eq]
      omega
    exact le_init T I1 ea few fun s' J => ⟨.non, H1, J, rfl, q⟩
/-- self.f = e, the first one -/
theorem ps_leF (ho : PE X o to) (he : PE X e te) (hs : swapsWith e (some (.Attribute o f p')) pos.line X.env = pure false := by rfl) :
    PS X (.Assign [.Attribute o f p'] e pos) (tLeF X.K f to te) := by
  refine ⟨fun pins s σ H D I h => plainObj_wpAny_Assign_Attribute (thn (he.run pins s σ H _ I h) fun v s1 hy => ?_) hs⟩
  obtain ⟨y, H1, I1, ry, q1⟩ := hy
  refine thn (ho.run pins s1 σ H1 _ I1 q1) fun u s2 hx => ?_
  obtain ⟨x, H2, I2, rx, a, C, rfl, T, nf, ea, q⟩ := hx
  obtain rfl : u = Value.ref a := rx
  exact le_field T I2 ea nf ry fun dx s' n ne J => ⟨σ, _, J, q dx n ne⟩
/-- raise C(e, ..): the error is made, its __init__ keeps sp -/
theorem pmk_lex {CX : CXT} {x : Str} {C fI : Addr} {k : Nat} {fd : FuncData} {ps : List Str} {sp : Sp} {ds : List Value} {dvs : List V}
    (T : LexC X.K C) (iC : PySem.W.findIn X.K (.ref C) "__init__" = some (some (.ref fI)))
    (tI : PySem.W.typeIn X.K (.ref fI) = some (.type "function")) (F1 : FnOk X.prog X.w X.K X.mg X.base CX k fI fd ps sp)
    (hr : Room (k + 1) X.A) (hb : Binds X.K fd ps ds) (hd : Vals dvs ds) (hx : Passes CX X (fun _ _ _ => False)) (hg : Gl X x)
    (hm : X.mg x = some (.ref C)) (ha : PA X (e :: es) ta) (nd : (x == ("__debug__" : Str)) = false := by decide)
    (st : starEach (e :: es) X.env = (false, eval e X.env) :: starEach es X.env := by rfl)
    (ns : (backTo pos (starEach es X.env)).any (fun q => q.1) = false := by rfl) : PMk X (.Call (.Name x p) (e :: es) [] pos) (tMkO C sp dvs ta) := by
  intro pins s σ H Q I h
  obtain ⟨nm, ql, N, bs, sl, sb, ab, cl, dt, j0, j1, j2, j3, j5, lk⟩ := T.shape
  refine wpAny_Call_Name_kw (ld_glob I hg hm ?_ nd)
  refine PySem.W.callWith_K (h₀ := X.base) I.ok.mod.kin T.keep (thn (ha.run pos pins s σ H _ I h) fun us s1 hu => ?_) st ns
  obtain ⟨vs, H1, I1, rel, short, way⟩ := hu
  refine ⟨I1.kIn, ?_⟩
  show wpAny _ _ (call (.ref C) us) _ _ _
  obtain ⟨hp, g, dr, tk, os⟩ := s1
  -- where the error will stand
  have lo : hp.objs.size ≤ hp.objs.size + 1 := Nat.le_succ _
  have vac : H1 (hp.objs.size + 1) = none := I1.hok.fresh lo
  have todo := way (hp.objs.size + 1) vac
  have grow : ∀ b o, hp.get? b = some o → ((hp.push (PySem.W.kdv_tup us)).push (PySem.HandSPX.excO C hp.objs.size)).get? b = some o :=
    fun b o q => Heap.get?_push_of_some _ (Heap.get?_push_of_some _ q)
  have here : ((hp.push (PySem.W.kdv_tup us)).push (PySem.HandSPX.excO C hp.objs.size)).get? (hp.objs.size + 1) = some (PySem.HandSPX.excO C hp.objs.size) := by
    heap_get
  have I2 := I1.laid (t' := tk) (o := exo (hp.objs.size + 1) C none) grow lo (exo_ok here)
  have rel2 : Vals (V.ref (hp.objs.size + 1) :: (vs ++ dvs)) (Value.ref (hp.objs.size + 1) :: (us ++ ds)) := .cons rfl (rel.append hd)
  have args : (Value.ref (hp.objs.size + 1) :: us ++ ds).length = ps.length := by
    have z := rel2.length
    rw [F1.len _ _ _ _ todo] at z
    exact z.symm
  have few : us.length ≤ sizeLine := by
    have z := Paired.length rel
    rw [sizeLine_eq]
    omega
  have body := F1.run (Around.under X.A (.builtin "type.__call__" ⟨.ref C :: us, []⟩)) X.stack _ _ ⟨Value.ref (hp.objs.size + 1) :: us, []⟩ (Value.ref (hp.objs.size + 1) :: (us ++ ds)) _ _
    (fun _ _ _ => False) (hr.make C us []) (I2.env0.make C us []) (hb _ (Value.ref (hp.objs.size + 1) :: us) I2.kIn args) rel2 todo
  refine wpAny_call (PySem.HandSPX.call_own F.excBase_LookupError (fun _ => rfl) (I1.kIn _ _ lk) (PySem.W.looks_findIn I1.kIn iC)
    (fun self => PySem.W.bind_fn I1.kIn self tI) few (codeAny_mono body fun r s' out => ?_))
  cases r with
  | error er => exact hx pins σ _ _ er s' I2 out
  | ok way2 =>
    cases way2 with
    | ret u =>
      obtain ⟨v, H2, os2, bare2, un2, ok2, rv, ev, d, fs, ea, ed, vd, q2⟩ := out
      subst ev
      obtain ⟨h2, g2, d2, t2, os'⟩ := s'
      exact ⟨rv, mk_end (raises_own T.isE T.isT) I1 lo grow un2 ok2 os2 bare2 ea ed vd q2⟩
    | _ => exact out.elim
end
end Jd
namespace Jd
open PySem PySem.Spec PyProof.Rows L2
def top (i : Nat) : Stmt := PySem.Challenge.pw_keyspans_k01_keys_and_what_they_tell.main.body.getD i (.Pass ⟨0, 0, 0, 0⟩)
abbrev s_Keys___init__ : Stmt := inClass (top 9) 0
abbrev s_Keys_p_names : Stmt := inClass (top 9) 1
abbrev s_Keys_p_pairs : Stmt := inClass (top 9) 2
abbrev s_Keys_tells : Stmt := inClass (top 9) 4
abbrev s_Keys_told : Stmt := inClass (top 9) 5
abbrev s_Keys__check : Stmt := inClass (top 9) 6
abbrev s_Keys___contains__ : Stmt := inClass (top 9) 7
abbrev s_Keys___len__ : Stmt := inClass (top 9) 8
abbrev s_Keys___eq__ : Stmt := inClass (top 9) 9
abbrev s__all_told : Stmt := top 11
abbrev s_NoName___init__ : Stmt := inClass (top 1) 0
abbrev s__law_box : Stmt := top 13
abbrev s__law_take : Stmt := top 14
abbrev s__law_cells : Stmt := top 15
abbrev s__law_lists : Stmt := top 17
abbrev s__law_same : Stmt := top 18
abbrev s__law_few : Stmt := top 19
abbrev s__law_mixed : Stmt := top 20
abbrev s__law_book : Stmt := top 21
abbrev s__law_told : Stmt := top 22
abbrev s__law_heard : Stmt := top 23
abbrev s__law_by_hand_right : Stmt := top 24
abbrev s__law_right : Stmt := top 25
abbrev s_law : Stmt := top 26
end Jd
namespace Jd
open PySem PySem.Spec PyProof.Rows L2
/-! ### facts of the written part that the house's own list does not hold -/
/-- the getter of a property -/
def propG (K : PySem.W.Frag) (c m : Str) : Addr := match PySem.W.recIn K (He.ma K (He.ga K c) m) "property" with
  | some (.ref g :: _) => g
  | _ => 0
def propB (K : PySem.W.Frag) (c m : Str) : Bool :=
  He.eqO (PySem.W.findIn K (.ref (He.ga K c)) m) (some (some (.ref (He.ma K (He.ga K c) m)))) && (He.eqO (PySem.W.specialIn K (.ref (He.ma K (He.ga K c) m)) "__get__") (some (some (.builtin "property.__get__"))) &&
    (decide (PySem.W.takesIn K (.ref (He.ma K (He.ga K c) m)) = some true) && (match PySem.W.recIn K (He.ma K (He.ga K c) m) "property" with
      | some (.ref _ :: _) => true
      | _ => false)))
theorem propB_ok {K : PySem.W.Frag} {c m : Str} (h : propB K c m = true) : PropOf K (He.ga K c) m (He.ma K (He.ga K c) m) (propG K c m) := by
  obtain ⟨c1, h⟩ := He.ba h
  obtain ⟨c2, h⟩ := He.ba h
  obtain ⟨c3, c4⟩ := He.ba h
  refine ⟨He.eqO_ok c1, He.eqO_ok c2, of_decide_eq_true c3, ?_⟩
  unfold propG
  cases e : PySem.W.recIn K (He.ma K (He.ga K c) m) "property" with
  | none =>
    rw [e] at c4
    cases c4
  | some l =>
    rw [e] at c4
    cases l with
    | nil => cases c4
    | cons v r =>
      cases v with
      | ref g => exact ⟨r, rfl⟩
      | _ => cases c4
/-- a name of the module that holds a built-in function -/
def blB (K : PySem.W.Frag) (x : Str) (id : String) : Bool := He.eqO (PySem.W.nsIn K mainGlobals x) (some (some (.builtin id)))
theorem blB_ok {K : PySem.W.Frag} {h : Heap} {mg : Str → Option Value} (X : K.In h) (G : h.Ns mainGlobals mg) {x : Str} {id : String} (c : blB K x id = true) : mg x = some (.builtin id) := PySem.W.mg_of X G (He.eqO_ok c)
/-- an exception class over ValueError with an __init__ of its own -/
def oexB (K : PySem.W.Frag) (c : Str) : Bool :=
  (match K.lookup (He.ga K c) with
    | some ⟨.type n, _, .cls cd, sl⟩ => decide (n = "type") && ((match cd.mro, sl.toList with
      | .ref C' :: bm, [_, _, _, _, some (.builtin n), _] => decide (C' = He.ga K c) && (decide (n = "ValueError.__new__") && PySem.HandSPX.refsVE bm)
      | _, _ => false) && (cd.hasDict && !cd.hasDel))
    | _ => false) && (He.eqO (PySem.W.findIn K (.ref (He.ga K c)) "__setattr__") (some (some (.builtin "object.__setattr__"))) &&
  (decide (PySem.W.subIn K (.ref (He.ga K c)) (.type "BaseException") = some true) && (decide (PySem.W.typeIn K (.ref (He.ga K c)) = some (.type "type")) && (PySem.W.keepIn K (.ref (He.ga K c)) &&
  (He.eqO (PySem.W.findIn K (.ref (He.ga K c)) "__init__") (some (some (.ref (He.ma K (He.ga K c) "__init__")))) && decide (PySem.W.typeIn K (.ref (He.ma K (He.ga K c) "__init__")) = some (.type "function")))))))
theorem oexB_ok {K : PySem.W.Frag} {c : Str} (h : oexB K c = true) : OexC K (He.ga K c) ∧ PySem.W.findIn K (.ref (He.ga K c)) "__init__" = some (some (.ref (He.ma K (He.ga K c) "__init__"))) ∧
    PySem.W.typeIn K (.ref (He.ma K (He.ga K c) "__init__")) = some (.type "function") := by
  obtain ⟨c1, h⟩ := He.ba h
  obtain ⟨c2, h⟩ := He.ba h
  obtain ⟨c3, h⟩ := He.ba h
  obtain ⟨c4, h⟩ := He.ba h
  obtain ⟨c5, h⟩ := He.ba h
  obtain ⟨c6, c7⟩ := He.ba h
  refine ⟨⟨?_, He.eqO_ok c2, of_decide_eq_true c3, of_decide_eq_true c4, c5⟩, He.eqO_ok c6, of_decide_eq_true c7⟩
  split at c1
  · rename_i n dd cd sl ho
    obtain ⟨b1, c1⟩ := He.ba c1
    obtain ⟨b2, b3⟩ := He.ba c1
    obtain ⟨b4, b5⟩ := He.ba b3
    have en : n = "type" := of_decide_eq_true b1
    split at b2
    · rename_i C' bm k0 k1 k2 k3 n' k5 hm hs
      obtain ⟨b6, b2⟩ := He.ba b2
      obtain ⟨b7, b8⟩ := He.ba b2
      have e1 : C' = He.ga K c := of_decide_eq_true b6
      have e2 : n' = "ValueError.__new__" := of_decide_eq_true b7
      subst e2
      subst en
      obtain ⟨nm, bs, mro, ns, qn, hd, sn, sub, ab, col, del⟩ := cd
      dsimp only at hm b4 b5
      rw [e1] at hm
      have ed : del = false := by simpa using b5
      subst b4
      subst ed
      have hsl : sl = #[k0, k1, k2, k3, some (.builtin "ValueError.__new__"), k5] := by
        obtain ⟨l⟩ := sl
        simp only at hs
        rw [hs]
      subst hsl
      subst hm
      exact ⟨nm, qn, ns, bs, bm, sn, sub, ab, col, dd, k0, k1, k2, k3, k5, ho, b8⟩
    · cases b2
  · cases c1
/-- an exception class over LookupError with an __init__ of its own -/
def lexB (K : PySem.W.Frag) (c : Str) : Bool :=
  (match K.lookup (He.ga K c) with
    | some ⟨.type n, _, .cls cd, sl⟩ => decide (n = "type") && ((match cd.mro, sl.toList with
      | [.ref C', .type b1, .type b2, .type b3, .type b4], [_, _, _, _, some (.builtin n), _] => decide (C' = He.ga K c) && (decide (n = "LookupError.__new__") && (decide (b1 = "LookupError") && (decide (b2 = "Exception") && (decide (b3 = "BaseException") && decide (b4 = "object")))))
      | _, _ => false) && (cd.hasDict && !cd.hasDel))
    | _ => false) && (He.eqO (PySem.W.findIn K (.ref (He.ga K c)) "__setattr__") (some (some (.builtin "object.__setattr__"))) &&
  (decide (PySem.W.subIn K (.ref (He.ga K c)) (.type "BaseException") = some true) && (decide (PySem.W.typeIn K (.ref (He.ga K c)) = some (.type "type")) && (PySem.W.keepIn K (.ref (He.ga K c)) &&
  (He.eqO (PySem.W.findIn K (.ref (He.ga K c)) "__init__") (some (some (.ref (He.ma K (He.ga K c) "__init__")))) && decide (PySem.W.typeIn K (.ref (He.ma K (He.ga K c) "__init__")) = some (.type "function")))))))
theorem lexB_ok {K : PySem.W.Frag} {c : Str} (h : lexB K c = true) : LexC K (He.ga K c) ∧ PySem.W.findIn K (.ref (He.ga K c)) "__init__" = some (some (.ref (He.ma K (He.ga K c) "__init__"))) ∧
    PySem.W.typeIn K (.ref (He.ma K (He.ga K c) "__init__")) = some (.type "function") := by
  obtain ⟨c1, h⟩ := He.ba h
  obtain ⟨c2, h⟩ := He.ba h
  obtain ⟨c3, h⟩ := He.ba h
  obtain ⟨c4, h⟩ := He.ba h
  obtain ⟨c5, h⟩ := He.ba h
  obtain ⟨c6, c7⟩ := He.ba h
  refine ⟨⟨?_, He.eqO_ok c2, of_decide_eq_true c3, of_decide_eq_true c4, c5⟩, He.eqO_ok c6, of_decide_eq_true c7⟩
  split at c1
  · rename_i n dd cd sl ho
    obtain ⟨b1, c1⟩ := He.ba c1
    obtain ⟨b2, b3⟩ := He.ba c1
    obtain ⟨b4, b5⟩ := He.ba b3
    have en : n = "type" := of_decide_eq_true b1
    split at b2
    · rename_i C' m1 m2 m3 m4 k0 k1 k2 k3 n' k5 hm hs
      obtain ⟨b6, b2⟩ := He.ba b2
      obtain ⟨b7, b2⟩ := He.ba b2
      obtain ⟨b8, b2⟩ := He.ba b2
      obtain ⟨b9, b2⟩ := He.ba b2
      obtain ⟨b10, b11⟩ := He.ba b2
      have e1 : C' = He.ga K c := of_decide_eq_true b6
      have e2 : n' = "LookupError.__new__" := of_decide_eq_true b7
      have e3 : m1 = "LookupError" := of_decide_eq_true b8
      have e4 : m2 = "Exception" := of_decide_eq_true b9
      have e5 : m3 = "BaseException" := of_decide_eq_true b10
      have e6 : m4 = "object" := of_decide_eq_true b11
      subst e2
      subst en
      subst e3
      subst e4
      subst e5
      subst e6
      obtain ⟨nm, bs, mro, ns, qn, hd, sn, sub, ab, col, del⟩ := cd
      dsimp only at hm b4 b5
      rw [e1] at hm
      have ed : del = false := by simpa using b5
      subst b4
      subst ed
      have hsl : sl = #[k0, k1, k2, k3, some (.builtin "LookupError.__new__"), k5] := by
        obtain ⟨l⟩ := sl
        simp only at hs
        rw [hs]
      subst hsl
      subst hm
      exact ⟨nm, qn, ns, bs, sn, sub, ab, col, dd, k0, k1, k2, k3, k5, ho⟩
    · cases b2
  · cases c1
/-- a special method of an own class, a def -/
def eqsB (K : PySem.W.Frag) (c m : Str) : Bool := He.eqO (PySem.W.findIn K (.ref (He.ga K c)) m) (some (some (.ref (He.ma K (He.ga K c) m)))) && PySem.W.isFn K (.ref (He.ma K (He.ga K c) m))
theorem eqsB_ok {K : PySem.W.Frag} {c m : Str} (h : eqsB K c m = true) : PySem.W.findIn K (.ref (He.ga K c)) m = some (some (.ref (He.ma K (He.ga K c) m))) ∧ PySem.W.isFn K (.ref (He.ma K (He.ga K c) m)) = true := by
  obtain ⟨c1, c2⟩ := He.ba h
  exact ⟨He.eqO_ok c1, c2⟩
/-- the i-th default of a def, if it is an object -/
def dflA (f : PySem.W.Frag → Addr) (i : Nat) (K : PySem.W.Frag) : Addr := match K.lookup (f K) with
  | some ⟨_, _, .func fd, _⟩ => (match fd.defaults with
    | .ref T => (match K.lookup T with
      | some ⟨_, _, .seq its _, _⟩ => (match its.toList[i]? with
        | some (.ref a) => a
        | _ => 0)
      | _ => 0)
    | _ => 0)
  | _ => 0
/-- what isinstance asks of an instance's class -/
def tyB (K : PySem.W.Frag) (C : Addr) : Bool := He.eqO (PySem.W.findIn K (.ref C) "__class__") (some (some (.builtin "object.__class__"))) && (He.eqO (PySem.W.specialIn K (.builtin "object.__class__") "__get__") (some (some (.builtin "getset_descriptor.__get__"))) &&
  (decide (PySem.W.takesIn K (.builtin "object.__class__") = some true) && decide (PySem.W.mroIn K C (.type "object") = some true)))
theorem tyB_ok {K : PySem.W.Frag} {C : Addr} (h : tyB K C = true) : PySem.W.findIn K (.ref C) "__class__" = some (some (.builtin "object.__class__")) ∧ PySem.W.specialIn K (.builtin "object.__class__") "__get__" = some (some (.builtin "getset_descriptor.__get__")) ∧
    PySem.W.takesIn K (.builtin "object.__class__") = some true ∧ PySem.W.mroIn K C (.type "object") = some true := by
  obtain ⟨c1, h⟩ := He.ba h
  obtain ⟨c2, h⟩ := He.ba h
  obtain ⟨c3, c4⟩ := He.ba h
  exact ⟨He.eqO_ok c1, He.eqO_ok c2, of_decide_eq_true c3, of_decide_eq_true c4⟩
/-- an empty tuple of the written part -/
def tup0B (K : PySem.W.Frag) (a : Addr) : Bool := match K.lookup a with
  | some ⟨.type c, _, .seq its _, _⟩ => decide (c = "tuple") && its.isEmpty
  | _ => false
theorem tup0B_ok {K : PySem.W.Frag} {a : Addr} (h : tup0B K a = true) (H : Hp) : SqT K H a [] := by
  unfold tup0B at h
  cases q : K.lookup a with
  | none =>
    rw [q] at h
    cases h
  | some o =>
    obtain ⟨oc, od, dt, osl⟩ := o
    rw [q] at h
    cases oc with
    | type c =>
      cases dt with
      | seq its n =>
        obtain ⟨h1, h2⟩ := He.ba (show (decide (c = "tuple") && its.isEmpty) = true from h)
        have e : its = #[] := Array.isEmpty_iff.mp h2
        subst e
        exact .inr ⟨_, #[], n, q, congrArg Value.type (of_decide_eq_true h1), rfl, Nat.zero_le _, .nil⟩
      | _ => cases h
    | _ => cases dt <;> cases h
/-- what isinstance and a field's reading ask of an error's class -/
def xcB (K : PySem.W.Frag) (D : Addr) : Bool :=
  He.eqO (PySem.W.findIn K (.ref D) "__getattribute__") (some (some (.builtin "BaseException.__getattribute__"))) && (He.eqO (PySem.W.findIn K (.ref D) "__getattr__") (some none) && (decide (PySem.W.subIn K (.ref D) (.type "BaseException") = some true) && (PySem.W.hasDictIn K D &&
  (He.eqO (PySem.W.findIn K (.ref D) "__class__") (some (some (.builtin "object.__class__"))) && (He.eqO (PySem.W.specialIn K (.builtin "object.__class__") "__get__") (some (some (.builtin "getset_descriptor.__get__"))) &&
  (decide (PySem.W.takesIn K (.builtin "object.__class__") = some true) && decide (PySem.W.mroIn K D (.type "object") = some true)))))))
theorem xcB_ok {K : PySem.W.Frag} {D : Addr} (h : xcB K D = true) : ExcC K D := by
  obtain ⟨c1, h⟩ := He.ba h
  obtain ⟨c2, h⟩ := He.ba h
  obtain ⟨c3, h⟩ := He.ba h
  obtain ⟨c4, h⟩ := He.ba h
  obtain ⟨c5, h⟩ := He.ba h
  obtain ⟨c6, h⟩ := He.ba h
  obtain ⟨c7, c8⟩ := He.ba h
  exact ⟨He.eqO_ok c1, He.eqO_ok c2, of_decide_eq_true c3, c4, He.eqO_ok c5, He.eqO_ok c6, of_decide_eq_true c7, of_decide_eq_true c8⟩
/-! ### the Hook -/
abbrev AlJ : Type := Bool × List He5.FnW
def obsJ (fa : List He.Fa) (fn : List He5.DefA) (ex : PySem.W.Frag → Bool) (K : PySem.W.Frag) : AlJ := (((fa.all fun f => f.ok K) && fn.all fun d => d.ok K) && ex K, fn.map fun d => He5.fnA K (d.at_ K))
def valJ (fn : List He5.DefA) : AlJ := (true, fn.map He5.DefA.val)
def SaysJ (fa : List He.Fa) (fn : List He5.DefA) (ex : PySem.W.Frag → Bool) (K : PySem.W.Frag) : Prop := obsJ fa fn ex K = valJ fn
def obsJG (n : Nat) (fa : List He.Fa) (fn : List He5.DefA) (ex : PySem.W.Frag → Bool) (g : Addr → Option Obj) : AlJ := obsJ fa fn ex (He.frG g (He5.asA g n))
def hookJ (n : Nat) (fa : List He.Fa) (fn : List He5.DefA) (ex : PySem.W.Frag → Bool) : PySem.W.Hook where
  α := AlJ
  obs := fun s => obsJG n fa fn ex s.heap.get?
  val := fun _ => valJ fn
  says := fun _ h => ∃ K : PySem.W.Frag, K.In h ∧ SaysJ fa fn ex K
  of := fun _ _ e => ⟨_, He.frG_in, e⟩
  keeps := fun _ _ _ ⟨K, inK, c⟩ k => ⟨K, PySem.W.Frag.In.keeps inK k, c⟩
theorem obsJG_eq {n : Nat} {fa : List He.Fa} {fn : List He5.DefA} {ex : PySem.W.Frag → Bool} {g : Addr → Option Obj} {s : Shared} (h : ∀ a, g a = s.heap.get? a) : obsJG n fa fn ex g = (hookJ n fa fn ex).obs s := by
  obtain rfl : g = s.heap.get? := funext h
  rfl
section
variable {fa : List He.Fa} {fn : List He5.DefA} {ex : PySem.W.Frag → Bool} {K : PySem.W.Frag}
theorem SaysJ.b (c : SaysJ fa fn ex K) : ((fa.all fun f => f.ok K) = true ∧ (fn.all fun d => d.ok K) = true) ∧ ex K = true := by
  obtain ⟨c1, c2⟩ := He.ba (show (((fa.all fun f => f.ok K) && fn.all fun d => d.ok K) && ex K) = true from congrArg (fun z : AlJ => z.1) c)
  exact ⟨He.ba c1, c2⟩
theorem SaysJ.fact (c : SaysJ fa fn ex K) {f : He.Fa} (h : f ∈ fa) : f.ok K = true := List.all_eq_true.mp c.b.1.1 f h
theorem SaysJ.def_ (c : SaysJ fa fn ex K) {d : He5.DefA} (h : d ∈ fn) : ∃ fd, L2.FunD K d.name d.qual d.params d.body d.scope (d.dvs K) (d.kws K) (d.at_ K) fd := by
  have e : fn.map (fun d => He5.fnA K (d.at_ K)) = fn.map He5.DefA.val := congrArg (fun z : AlJ => z.2) c
  obtain ⟨i, hi, q⟩ := List.mem_iff_getElem.mp h
  have e2 : (fn.map fun d => He5.fnA K (d.at_ K))[i]? = (fn.map He5.DefA.val)[i]? := by rw [e]
  rw [List.getElem?_map, List.getElem?_map, List.getElem?_eq_getElem hi, q] at e2
  exact He5.DefA.funD (Option.some.inj e2) (List.all_eq_true.mp c.b.1.2 d h)
end
/-! ### the head -/
def d_Keys___init__ : He5.DefA := ⟨(fun K => He.ma K (He.ga K "Keys") "__init__"), "__init__", "Keys.__init__", defArgs s_Keys___init__, defBody s_Keys___init__, defScope s_Keys___init__, [.adr (dflA (fun K => He.ma K (He.ga K "Keys") "__init__") 0)], []⟩
def d_Keys_p_names : He5.DefA := ⟨(fun K => propG K "Keys" "names"), "names", "Keys.names", defArgs s_Keys_p_names, defBody s_Keys_p_names, defScope s_Keys_p_names, [], []⟩
def d_Keys_p_pairs : He5.DefA := ⟨(fun K => propG K "Keys" "pairs"), "pairs", "Keys.pairs", defArgs s_Keys_p_pairs, defBody s_Keys_p_pairs, defScope s_Keys_p_pairs, [], []⟩
def d_Keys_tells : He5.DefA := ⟨(fun K => He.ma K (He.ga K "Keys") "tells"), "tells", "Keys.tells", defArgs s_Keys_tells, defBody s_Keys_tells, defScope s_Keys_tells, [], []⟩
def d_Keys_told : He5.DefA := ⟨(fun K => He.ma K (He.ga K "Keys") "told"), "told", "Keys.told", defArgs s_Keys_told, defBody s_Keys_told, defScope s_Keys_told, [], []⟩
def d_Keys__check : He5.DefA := ⟨(fun K => He.ma K (He.ga K "Keys") "_check"), "_check", "Keys._check", defArgs s_Keys__check, defBody s_Keys__check, defScope s_Keys__check, [], []⟩
def d_Keys___contains__ : He5.DefA := ⟨(fun K => He.ma K (He.ga K "Keys") "__contains__"), "__contains__", "Keys.__contains__", defArgs s_Keys___contains__, defBody s_Keys___contains__, defScope s_Keys___contains__, [], []⟩
def d_Keys___len__ : He5.DefA := ⟨(fun K => He.ma K (He.ga K "Keys") "__len__"), "__len__", "Keys.__len__", defArgs s_Keys___len__, defBody s_Keys___len__, defScope s_Keys___len__, [], []⟩
def d_Keys___eq__ : He5.DefA := ⟨(fun K => He.ma K (He.ga K "Keys") "__eq__"), "__eq__", "Keys.__eq__", defArgs s_Keys___eq__, defBody s_Keys___eq__, defScope s_Keys___eq__, [], []⟩
def d__all_told : He5.DefA := ⟨(fun K => He.ga K "_all_told"), "_all_told", "_all_told", defArgs s__all_told, defBody s__all_told, defScope s__all_told, [], []⟩
def d_NoName___init__ : He5.DefA := ⟨(fun K => He.ma K (He.ga K "NoName") "__init__"), "__init__", "NoName.__init__", defArgs s_NoName___init__, defBody s_NoName___init__, defScope s_NoName___init__, [], []⟩
def d__law_box : He5.DefA := ⟨(fun K => He.ga K "_law_box"), "_law_box", "_law_box", defArgs s__law_box, defBody s__law_box, defScope s__law_box, [], []⟩
def d__law_take : He5.DefA := ⟨(fun K => He.ga K "_law_take"), "_law_take", "_law_take", defArgs s__law_take, defBody s__law_take, defScope s__law_take, [], []⟩
def d__law_cells : He5.DefA := ⟨(fun K => He.ga K "_law_cells"), "_law_cells", "_law_cells", defArgs s__law_cells, defBody s__law_cells, defScope s__law_cells, [], []⟩
def d__law_lists : He5.DefA := ⟨(fun K => He.ga K "_law_lists"), "_law_lists", "_law_lists", defArgs s__law_lists, defBody s__law_lists, defScope s__law_lists, [], []⟩
def d__law_same : He5.DefA := ⟨(fun K => He.ga K "_law_same"), "_law_same", "_law_same", defArgs s__law_same, defBody s__law_same, defScope s__law_same, [], []⟩
def d__law_few : He5.DefA := ⟨(fun K => He.ga K "_law_few"), "_law_few", "_law_few", defArgs s__law_few, defBody s__law_few, defScope s__law_few, [], []⟩
def d__law_mixed : He5.DefA := ⟨(fun K => He.ga K "_law_mixed"), "_law_mixed", "_law_mixed", defArgs s__law_mixed, defBody s__law_mixed, defScope s__law_mixed, [], []⟩
def d__law_book : He5.DefA := ⟨(fun K => He.ga K "_law_book"), "_law_book", "_law_book", defArgs s__law_book, defBody s__law_book, defScope s__law_book, [], []⟩
def d__law_told : He5.DefA := ⟨(fun K => He.ga K "_law_told"), "_law_told", "_law_told", defArgs s__law_told, defBody s__law_told, defScope s__law_told, [], []⟩
def d__law_heard : He5.DefA := ⟨(fun K => He.ga K "_law_heard"), "_law_heard", "_law_heard", defArgs s__law_heard, defBody s__law_heard, defScope s__law_heard, [], []⟩
def d__law_by_hand_right : He5.DefA := ⟨(fun K => He.ga K "_law_by_hand_right"), "_law_by_hand_right", "_law_by_hand_right", defArgs s__law_by_hand_right, defBody s__law_by_hand_right, defScope s__law_by_hand_right, [], []⟩
def d__law_right : He5.DefA := ⟨(fun K => He.ga K "_law_right"), "_law_right", "_law_right", defArgs s__law_right, defBody s__law_right, defScope s__law_right, [], []⟩
def d_law : He5.DefA := ⟨(fun K => He.ga K "law"), "law", "law", defArgs s_law, defBody s_law, defScope s_law, [], []⟩
def fn : List He5.DefA := [d_Keys___init__, d_Keys_p_names, d_Keys_p_pairs, d_Keys_tells, d_Keys_told, d_Keys__check, d_Keys___contains__, d_Keys___len__, d_Keys___eq__, d__all_told, d_NoName___init__, d__law_box, d__law_take, d__law_cells, d__law_lists, d__law_same, d__law_few, d__law_mixed, d__law_book, d__law_told, d__law_heard, d__law_by_hand_right, d__law_right, d_law]
def fa1 : List He.Fa := [.glo "_all_told", .glo "_law_box", .glo "_law_take", .glo "_law_cells", .glo "_law_lists", .glo "_law_same", .glo "_law_few", .glo "_law_mixed", .glo "_law_book", .glo "_law_told", .glo "_law_heard", .glo "_law_by_hand_right", .glo "_law_right", .glo "law", .glo "NoName", .glo "NoPlace", .glo "BadField", .glo "BadLine", .glo "Ringed", .glo "Keys", .free "len", .free "isinstance", .free "all", .free "sorted", .free "set", .free "tuple", .free "list", .free "range", .free "int", .free "str"]
def fa2 : List He.Fa := [.free "abs", .free "zip", .free "enumerate", .free "divmod", .free "LookupError", .free "ValueError", .free "bool", .free "dict", .cls "Keys", .mkr "Keys", .noat "Keys" "_names", .noat "Keys" "_told", .meth "Keys" "tells", .meth "Keys" "told", .meth "Keys" "_check"]
def fa3 : List He.Fa := []
def fa : List He.Fa := fa1 ++ (fa2 ++ fa3)
def exs0 : List (PySem.W.Frag → Bool) := [fun K => oexB K "BadField", fun K => oexB K "BadLine", fun K => oexB K "Ringed", fun K => lexB K "NoName", fun K => lexB K "NoPlace", fun K => He.eqO (PySem.W.nsIn K mainGlobals "NotImplemented") (some none), fun K => eqsB K "Keys" "__contains__", fun K => eqsB K "Keys" "__len__", fun K => eqsB K "Keys" "__eq__", fun K => He.eqO (PySem.W.findIn K (.ref (He.ga K "Keys")) "__ne__") (some (some (.builtin "object.__ne__"))), fun K => propB K "Keys" "names", fun K => propB K "Keys" "pairs", fun K => xcB K (He.ga K "NoName"), fun K => decide (PySem.W.kitOne K (.ref (He.ga K "NoName")) (.type "LookupError") = some true), fun K => He.eqO (PySem.W.findIn K (.ref (He.ga K "NoName")) "name") (some none), fun K => xcB K (He.ga K "NoPlace"), fun K => decide (PySem.W.kitOne K (.ref (He.ga K "NoPlace")) (.type "LookupError") = some true), fun K => He.eqO (PySem.W.findIn K (.ref (He.ga K "NoPlace")) "place") (some none), fun K => xcB K (He.ga K "BadField"), fun K => decide (PySem.W.kitOne K (.ref (He.ga K "BadField")) (.type "ValueError") = some true)]
def exs1 : List (PySem.W.Frag → Bool) := [fun K => He.eqO (PySem.W.findIn K (.ref (He.ga K "BadField")) "field") (some none), fun K => xcB K (He.ga K "BadLine"), fun K => decide (PySem.W.kitOne K (.ref (He.ga K "BadLine")) (.type "ValueError") = some true), fun K => He.eqO (PySem.W.findIn K (.ref (He.ga K "BadLine")) "number") (some none), fun K => xcB K (He.ga K "Ringed"), fun K => decide (PySem.W.kitOne K (.ref (He.ga K "Ringed")) (.type "ValueError") = some true), fun K => He.eqO (PySem.W.findIn K (.ref (He.ga K "Ringed")) "ring") (some none), fun K => decide (PySem.W.kitOne K (.ref (He.ga K "Keys")) (.type "str") = some false), fun K => decide (PySem.W.kitOne K (.ref (He.ga K "Keys")) (.type "list") = some false), fun K => decide (PySem.W.kitOne K (.ref (He.ga K "Keys")) (.type "tuple") = some false), fun K => decide (PySem.W.kitOne K (.ref (He.ga K "Keys")) (.type "bool") = some false), fun K => decide (PySem.W.kitOne K (.ref (He.ga K "Keys")) (.type "int") = some false), fun K => decide (PySem.W.kitOne K (.ref (He.ga K "Keys")) (.ref (He.ga K "Keys")) = some true), fun K => PySem.W.notFirst K (He.ga K "Keys") (.type "tuple"), fun K => decide (PySem.W.kitOne K (.type "tuple") (.ref (He.ga K "Keys")) = some false), fun K => PySem.W.notFirst K (He.ga K "Keys") (.type "list"), fun K => decide (PySem.W.kitOne K (.type "list") (.ref (He.ga K "Keys")) = some false), fun K => tyB K (He.ga K "Keys"), fun K => tup0B K (dflA (fun K => He.ma K (He.ga K "Keys") "__init__") 0 K), fun K => decide (PySem.W.exmOne K (.ref (He.ga K "NoName")) (.ref (He.ga K "NoName")) = some true)]
def exs2 : List (PySem.W.Frag → Bool) := [fun K => decide (PySem.W.exmOne K (.ref (He.ga K "NoName")) (.ref (He.ga K "NoPlace")) = some false), fun K => decide (PySem.W.exmOne K (.ref (He.ga K "NoName")) (.ref (He.ga K "BadField")) = some false), fun K => decide (PySem.W.exmOne K (.ref (He.ga K "NoName")) (.ref (He.ga K "BadLine")) = some false), fun K => decide (PySem.W.exmOne K (.ref (He.ga K "NoName")) (.ref (He.ga K "Ringed")) = some false), fun K => decide (PySem.W.exmOne K (.ref (He.ga K "NoPlace")) (.ref (He.ga K "NoName")) = some false), fun K => decide (PySem.W.exmOne K (.ref (He.ga K "NoPlace")) (.ref (He.ga K "NoPlace")) = some true), fun K => decide (PySem.W.exmOne K (.ref (He.ga K "NoPlace")) (.ref (He.ga K "BadField")) = some false), fun K => decide (PySem.W.exmOne K (.ref (He.ga K "NoPlace")) (.ref (He.ga K "BadLine")) = some false), fun K => decide (PySem.W.exmOne K (.ref (He.ga K "NoPlace")) (.ref (He.ga K "Ringed")) = some false), fun K => decide (PySem.W.exmOne K (.ref (He.ga K "BadField")) (.ref (He.ga K "NoName")) = some false), fun K => decide (PySem.W.exmOne K (.ref (He.ga K "BadField")) (.ref (He.ga K "NoPlace")) = some false), fun K => decide (PySem.W.exmOne K (.ref (He.ga K "BadField")) (.ref (He.ga K "BadField")) = some true), fun K => decide (PySem.W.exmOne K (.ref (He.ga K "BadField")) (.ref (He.ga K "BadLine")) = some false), fun K => decide (PySem.W.exmOne K (.ref (He.ga K "BadField")) (.ref (He.ga K "Ringed")) = some false), fun K => decide (PySem.W.exmOne K (.ref (He.ga K "BadLine")) (.ref (He.ga K "NoName")) = some false), fun K => decide (PySem.W.exmOne K (.ref (He.ga K "BadLine")) (.ref (He.ga K "NoPlace")) = some false), fun K => decide (PySem.W.exmOne K (.ref (He.ga K "BadLine")) (.ref (He.ga K "BadField")) = some false), fun K => decide (PySem.W.exmOne K (.ref (He.ga K "BadLine")) (.ref (He.ga K "BadLine")) = some true), fun K => decide (PySem.W.exmOne K (.ref (He.ga K "BadLine")) (.ref (He.ga K "Ringed")) = some false), fun K => decide (PySem.W.exmOne K (.ref (He.ga K "Ringed")) (.ref (He.ga K "NoName")) = some false)]
def exs3 : List (PySem.W.Frag → Bool) := [fun K => decide (PySem.W.exmOne K (.ref (He.ga K "Ringed")) (.ref (He.ga K "NoPlace")) = some false), fun K => decide (PySem.W.exmOne K (.ref (He.ga K "Ringed")) (.ref (He.ga K "BadField")) = some false), fun K => decide (PySem.W.exmOne K (.ref (He.ga K "Ringed")) (.ref (He.ga K "BadLine")) = some false), fun K => decide (PySem.W.exmOne K (.ref (He.ga K "Ringed")) (.ref (He.ga K "Ringed")) = some true)]
def exs : List (PySem.W.Frag → Bool) := exs0 ++ (exs1 ++ (exs2 ++ (exs3)))
def ex1 (K : PySem.W.Frag) : Bool := exs.all fun f => f K

abbrev R : PySem.W.OpenRow := PySem.W.OpenLaw.row PySem.Challenge.rw_keyspans_k01_keys_and_what_they_tell
abbrev qv : Program := PySem.W.view R.prog [26]
abbrev hk : PySem.W.Hook := hookJ 6 fa fn ex1
def ob (s : PySem.W.SharedT) : AlJ := obsJG 6 fa fn ex1 (HandSHeadRun.getT s)
theorem ob_eq (s : PySem.W.SharedT) : ob s = hk.obs s.abs := obsJG_eq (HandSHeadRun.getT_eq s)
def lo0 : List Str := ["NoName", "NoPlace", "BadField", "BadLine", "Ringed", "is_name", "words_of", "Keys", "_stated", "_all_told", "_law_box", "_law_take", "_law_cells", "_law_of", "_law_lists", "_law_same", "_law_few", "_law_mixed", "_law_book", "_law_told", "_law_heard", "_law_by_hand_right", "_law_right"]
def loose : List Str := lo0
theorem run (w : World) : HandSHeadRun.RunEq R qv hk ob 4000 loose w := by
  intro os
  kernel_rfl
end Jd
namespace Jd
open PySem PySem.Spec PyProof.Rows L2
/-- what the top has written -/
structure Bk (K : PySem.W.Frag) (mg : Str → Option Value) : Prop where
  c : SaysJ fa fn ex1 K
  h : ∃ h : Heap, K.In h ∧ h.Ns mainGlobals mg
section
variable {K : PySem.W.Frag} {mg : Str → Option Value}
theorem Bk.fact (B : Bk K mg) (i : Nat) {f : He.Fa} (h : fa[i]? = some f := by rfl) : f.ok K = true := B.c.fact (List.mem_of_getElem? h)
theorem Bk.ex (B : Bk K mg) (i : Nat) {f : PySem.W.Frag → Bool} (h : exs[i]? = some f := by rfl) : f K = true := List.all_eq_true.mp B.c.b.2 f (List.mem_of_getElem? h)
theorem Bk.fn_ (B : Bk K mg) (i : Nat) {d : He5.DefA} (h : fn[i]? = some d := by rfl) : ∃ fd, L2.FunD K d.name d.qual d.params d.body d.scope (d.dvs K) (d.kws K) (d.at_ K) fd := B.c.def_ (List.mem_of_getElem? h)

theorem Bk.g_all_told (B : Bk K mg) : mg "_all_told" = some (.ref (He.ga K "_all_told")) := let ⟨_, X, G⟩ := B.h; He.glo_ok X G (B.fact 0 (f := .glo "_all_told"))
theorem Bk.g_law_box (B : Bk K mg) : mg "_law_box" = some (.ref (He.ga K "_law_box")) := let ⟨_, X, G⟩ := B.h; He.glo_ok X G (B.fact 1 (f := .glo "_law_box"))
theorem Bk.g_law_take (B : Bk K mg) : mg "_law_take" = some (.ref (He.ga K "_law_take")) := let ⟨_, X, G⟩ := B.h; He.glo_ok X G (B.fact 2 (f := .glo "_law_take"))
theorem Bk.g_law_cells (B : Bk K mg) : mg "_law_cells" = some (.ref (He.ga K "_law_cells")) := let ⟨_, X, G⟩ := B.h; He.glo_ok X G (B.fact 3 (f := .glo "_law_cells"))
theorem Bk.g_law_lists (B : Bk K mg) : mg "_law_lists" = some (.ref (He.ga K "_law_lists")) := let ⟨_, X, G⟩ := B.h; He.glo_ok X G (B.fact 4 (f := .glo "_law_lists"))
theorem Bk.g_law_same (B : Bk K mg) : mg "_law_same" = some (.ref (He.ga K "_law_same")) := let ⟨_, X, G⟩ := B.h; He.glo_ok X G (B.fact 5 (f := .glo "_law_same"))
theorem Bk.g_law_few (B : Bk K mg) : mg "_law_few" = some (.ref (He.ga K "_law_few")) := let ⟨_, X, G⟩ := B.h; He.glo_ok X G (B.fact 6 (f := .glo "_law_few"))
theorem Bk.g_law_mixed (B : Bk K mg) : mg "_law_mixed" = some (.ref (He.ga K "_law_mixed")) := let ⟨_, X, G⟩ := B.h; He.glo_ok X G (B.fact 7 (f := .glo "_law_mixed"))
theorem Bk.g_law_book (B : Bk K mg) : mg "_law_book" = some (.ref (He.ga K "_law_book")) := let ⟨_, X, G⟩ := B.h; He.glo_ok X G (B.fact 8 (f := .glo "_law_book"))
theorem Bk.g_law_told (B : Bk K mg) : mg "_law_told" = some (.ref (He.ga K "_law_told")) := let ⟨_, X, G⟩ := B.h; He.glo_ok X G (B.fact 9 (f := .glo "_law_told"))
theorem Bk.g_law_heard (B : Bk K mg) : mg "_law_heard" = some (.ref (He.ga K "_law_heard")) := let ⟨_, X, G⟩ := B.h; He.glo_ok X G (B.fact 10 (f := .glo "_law_heard"))
theorem Bk.g_law_by_hand_right (B : Bk K mg) : mg "_law_by_hand_right" = some (.ref (He.ga K "_law_by_hand_right")) := let ⟨_, X, G⟩ := B.h; He.glo_ok X G (B.fact 11 (f := .glo "_law_by_hand_right"))
theorem Bk.g_law_right (B : Bk K mg) : mg "_law_right" = some (.ref (He.ga K "_law_right")) := let ⟨_, X, G⟩ := B.h; He.glo_ok X G (B.fact 12 (f := .glo "_law_right"))
theorem Bk.g_law (B : Bk K mg) : mg "law" = some (.ref (He.ga K "law")) := let ⟨_, X, G⟩ := B.h; He.glo_ok X G (B.fact 13 (f := .glo "law"))
theorem Bk.g_NoName (B : Bk K mg) : mg "NoName" = some (.ref (He.ga K "NoName")) := let ⟨_, X, G⟩ := B.h; He.glo_ok X G (B.fact 14 (f := .glo "NoName"))
theorem Bk.g_NoPlace (B : Bk K mg) : mg "NoPlace" = some (.ref (He.ga K "NoPlace")) := let ⟨_, X, G⟩ := B.h; He.glo_ok X G (B.fact 15 (f := .glo "NoPlace"))
theorem Bk.g_BadField (B : Bk K mg) : mg "BadField" = some (.ref (He.ga K "BadField")) := let ⟨_, X, G⟩ := B.h; He.glo_ok X G (B.fact 16 (f := .glo "BadField"))
theorem Bk.g_BadLine (B : Bk K mg) : mg "BadLine" = some (.ref (He.ga K "BadLine")) := let ⟨_, X, G⟩ := B.h; He.glo_ok X G (B.fact 17 (f := .glo "BadLine"))
theorem Bk.g_Ringed (B : Bk K mg) : mg "Ringed" = some (.ref (He.ga K "Ringed")) := let ⟨_, X, G⟩ := B.h; He.glo_ok X G (B.fact 18 (f := .glo "Ringed"))
theorem Bk.g_Keys (B : Bk K mg) : mg "Keys" = some (.ref (He.ga K "Keys")) := let ⟨_, X, G⟩ := B.h; He.glo_ok X G (B.fact 19 (f := .glo "Keys"))
theorem Bk.b_len (B : Bk K mg) : mg "len" = none := let ⟨_, X, G⟩ := B.h; He.free_ok X G (B.fact 20 (f := .free "len"))
theorem Bk.b_isinstance (B : Bk K mg) : mg "isinstance" = none := let ⟨_, X, G⟩ := B.h; He.free_ok X G (B.fact 21 (f := .free "isinstance"))
theorem Bk.b_all (B : Bk K mg) : mg "all" = none := let ⟨_, X, G⟩ := B.h; He.free_ok X G (B.fact 22 (f := .free "all"))
theorem Bk.b_sorted (B : Bk K mg) : mg "sorted" = none := let ⟨_, X, G⟩ := B.h; He.free_ok X G (B.fact 23 (f := .free "sorted"))
theorem Bk.b_set (B : Bk K mg) : mg "set" = none := let ⟨_, X, G⟩ := B.h; He.free_ok X G (B.fact 24 (f := .free "set"))
theorem Bk.b_tuple (B : Bk K mg) : mg "tuple" = none := let ⟨_, X, G⟩ := B.h; He.free_ok X G (B.fact 25 (f := .free "tuple"))
theorem Bk.b_list (B : Bk K mg) : mg "list" = none := let ⟨_, X, G⟩ := B.h; He.free_ok X G (B.fact 26 (f := .free "list"))
theorem Bk.b_range (B : Bk K mg) : mg "range" = none := let ⟨_, X, G⟩ := B.h; He.free_ok X G (B.fact 27 (f := .free "range"))
theorem Bk.b_int (B : Bk K mg) : mg "int" = none := let ⟨_, X, G⟩ := B.h; He.free_ok X G (B.fact 28 (f := .free "int"))
theorem Bk.b_str (B : Bk K mg) : mg "str" = none := let ⟨_, X, G⟩ := B.h; He.free_ok X G (B.fact 29 (f := .free "str"))
theorem Bk.b_abs (B : Bk K mg) : mg "abs" = none := let ⟨_, X, G⟩ := B.h; He.free_ok X G (B.fact 30 (f := .free "abs"))
theorem Bk.b_zip (B : Bk K mg) : mg "zip" = none := let ⟨_, X, G⟩ := B.h; He.free_ok X G (B.fact 31 (f := .free "zip"))
theorem Bk.b_enumerate (B : Bk K mg) : mg "enumerate" = none := let ⟨_, X, G⟩ := B.h; He.free_ok X G (B.fact 32 (f := .free "enumerate"))
theorem Bk.b_divmod (B : Bk K mg) : mg "divmod" = none := let ⟨_, X, G⟩ := B.h; He.free_ok X G (B.fact 33 (f := .free "divmod"))
theorem Bk.b_LookupError (B : Bk K mg) : mg "LookupError" = none := let ⟨_, X, G⟩ := B.h; He.free_ok X G (B.fact 34 (f := .free "LookupError"))
theorem Bk.b_ValueError (B : Bk K mg) : mg "ValueError" = none := let ⟨_, X, G⟩ := B.h; He.free_ok X G (B.fact 35 (f := .free "ValueError"))
theorem Bk.b_bool (B : Bk K mg) : mg "bool" = none := let ⟨_, X, G⟩ := B.h; He.free_ok X G (B.fact 36 (f := .free "bool"))
theorem Bk.b_dict (B : Bk K mg) : mg "dict" = none := let ⟨_, X, G⟩ := B.h; He.free_ok X G (B.fact 37 (f := .free "dict"))
theorem Bk.cl_Keys (B : Bk K mg) : Cls K (He.ga K "Keys") := He.cls_ok (B.fact 38 (f := .cls "Keys"))
theorem Bk.mk_Keys (B : Bk K mg) : Mk K (He.ga K "Keys") (He.ma K (He.ga K "Keys") "__init__") := He.mkr_ok (B.fact 39 (f := .mkr "Keys"))
theorem Bk.no_Keys__names (B : Bk K mg) : NoAttr K (He.ga K "Keys") "_names" := He.noat_ok (B.fact 40 (f := .noat "Keys" "_names"))
theorem Bk.no_Keys__told (B : Bk K mg) : NoAttr K (He.ga K "Keys") "_told" := He.noat_ok (B.fact 41 (f := .noat "Keys" "_told"))
theorem Bk.me_Keys_tells (B : Bk K mg) : Meth K (He.ga K "Keys") "tells" (He.ma K (He.ga K "Keys") "tells") := He.meth_ok (B.fact 42 (f := .meth "Keys" "tells"))
theorem Bk.me_Keys_told (B : Bk K mg) : Meth K (He.ga K "Keys") "told" (He.ma K (He.ga K "Keys") "told") := He.meth_ok (B.fact 43 (f := .meth "Keys" "told"))
theorem Bk.me_Keys__check (B : Bk K mg) : Meth K (He.ga K "Keys") "_check" (He.ma K (He.ga K "Keys") "_check") := He.meth_ok (B.fact 44 (f := .meth "Keys" "_check"))
theorem Bk.ox_BadField (B : Bk K mg) : OexC K (He.ga K "BadField") ∧ PySem.W.findIn K (.ref (He.ga K "BadField")) "__init__" = some (some (.ref (He.ma K (He.ga K "BadField") "__init__"))) ∧ PySem.W.typeIn K (.ref (He.ma K (He.ga K "BadField") "__init__")) = some (.type "function") := oexB_ok (B.ex 0 (f := fun K => oexB K "BadField"))
theorem Bk.ox_BadLine (B : Bk K mg) : OexC K (He.ga K "BadLine") ∧ PySem.W.findIn K (.ref (He.ga K "BadLine")) "__init__" = some (some (.ref (He.ma K (He.ga K "BadLine") "__init__"))) ∧ PySem.W.typeIn K (.ref (He.ma K (He.ga K "BadLine") "__init__")) = some (.type "function") := oexB_ok (B.ex 1 (f := fun K => oexB K "BadLine"))
theorem Bk.ox_Ringed (B : Bk K mg) : OexC K (He.ga K "Ringed") ∧ PySem.W.findIn K (.ref (He.ga K "Ringed")) "__init__" = some (some (.ref (He.ma K (He.ga K "Ringed") "__init__"))) ∧ PySem.W.typeIn K (.ref (He.ma K (He.ga K "Ringed") "__init__")) = some (.type "function") := oexB_ok (B.ex 2 (f := fun K => oexB K "Ringed"))
theorem Bk.lx_NoName (B : Bk K mg) : LexC K (He.ga K "NoName") ∧ PySem.W.findIn K (.ref (He.ga K "NoName")) "__init__" = some (some (.ref (He.ma K (He.ga K "NoName") "__init__"))) ∧ PySem.W.typeIn K (.ref (He.ma K (He.ga K "NoName") "__init__")) = some (.type "function") := lexB_ok (B.ex 3 (f := fun K => lexB K "NoName"))
theorem Bk.lx_NoPlace (B : Bk K mg) : LexC K (He.ga K "NoPlace") ∧ PySem.W.findIn K (.ref (He.ga K "NoPlace")) "__init__" = some (some (.ref (He.ma K (He.ga K "NoPlace") "__init__"))) ∧ PySem.W.typeIn K (.ref (He.ma K (He.ga K "NoPlace") "__init__")) = some (.type "function") := lexB_ok (B.ex 4 (f := fun K => lexB K "NoPlace"))
theorem Bk.sp_Keys_contains (B : Bk K mg) : PySem.W.findIn K (.ref (He.ga K "Keys")) "__contains__" = some (some (.ref (He.ma K (He.ga K "Keys") "__contains__"))) ∧ PySem.W.isFn K (.ref (He.ma K (He.ga K "Keys") "__contains__")) = true := eqsB_ok (B.ex 6 (f := fun K => eqsB K "Keys" "__contains__"))
theorem Bk.sp_Keys_len (B : Bk K mg) : PySem.W.findIn K (.ref (He.ga K "Keys")) "__len__" = some (some (.ref (He.ma K (He.ga K "Keys") "__len__"))) ∧ PySem.W.isFn K (.ref (He.ma K (He.ga K "Keys") "__len__")) = true := eqsB_ok (B.ex 7 (f := fun K => eqsB K "Keys" "__len__"))
theorem Bk.sp_Keys_eq (B : Bk K mg) : PySem.W.findIn K (.ref (He.ga K "Keys")) "__eq__" = some (some (.ref (He.ma K (He.ga K "Keys") "__eq__"))) ∧ PySem.W.isFn K (.ref (He.ma K (He.ga K "Keys") "__eq__")) = true := eqsB_ok (B.ex 8 (f := fun K => eqsB K "Keys" "__eq__"))
theorem Bk.ne_Keys (B : Bk K mg) : PySem.W.findIn K (.ref (He.ga K "Keys")) "__ne__" = some (some (.builtin "object.__ne__")) := He.eqO_ok (B.ex 9 (f := fun K => He.eqO (PySem.W.findIn K (.ref (He.ga K "Keys")) "__ne__") (some (some (.builtin "object.__ne__")))))
theorem Bk.pr_Keys_names (B : Bk K mg) : PropOf K (He.ga K "Keys") "names" (He.ma K (He.ga K "Keys") "names") (propG K "Keys" "names") := propB_ok (B.ex 10 (f := fun K => propB K "Keys" "names"))
theorem Bk.pr_Keys_pairs (B : Bk K mg) : PropOf K (He.ga K "Keys") "pairs" (He.ma K (He.ga K "Keys") "pairs") (propG K "Keys" "pairs") := propB_ok (B.ex 11 (f := fun K => propB K "Keys" "pairs"))
theorem Bk.xc_NoName (B : Bk K mg) : ExcC K (He.ga K "NoName") := xcB_ok (B.ex 12 (f := fun K => xcB K (He.ga K "NoName")))
theorem Bk.kit_NoName_LookupError (B : Bk K mg) : PySem.W.kitOne K (.ref (He.ga K "NoName")) (.type "LookupError") = some true := of_decide_eq_true (B.ex 13 (f := fun K => decide (PySem.W.kitOne K (.ref (He.ga K "NoName")) (.type "LookupError") = some true)))
theorem Bk.nf_NoName_name (B : Bk K mg) : PySem.W.findIn K (.ref (He.ga K "NoName")) "name" = some none := He.eqO_ok (B.ex 14 (f := fun K => He.eqO (PySem.W.findIn K (.ref (He.ga K "NoName")) "name") (some none)))
theorem Bk.xc_NoPlace (B : Bk K mg) : ExcC K (He.ga K "NoPlace") := xcB_ok (B.ex 15 (f := fun K => xcB K (He.ga K "NoPlace")))
theorem Bk.kit_NoPlace_LookupError (B : Bk K mg) : PySem.W.kitOne K (.ref (He.ga K "NoPlace")) (.type "LookupError") = some true := of_decide_eq_true (B.ex 16 (f := fun K => decide (PySem.W.kitOne K (.ref (He.ga K "NoPlace")) (.type "LookupError") = some true)))
theorem Bk.nf_NoPlace_place (B : Bk K mg) : PySem.W.findIn K (.ref (He.ga K "NoPlace")) "place" = some none := He.eqO_ok (B.ex 17 (f := fun K => He.eqO (PySem.W.findIn K (.ref (He.ga K "NoPlace")) "place") (some none)))
theorem Bk.xc_BadField (B : Bk K mg) : ExcC K (He.ga K "BadField") := xcB_ok (B.ex 18 (f := fun K => xcB K (He.ga K "BadField")))
theorem Bk.kit_BadField_ValueError (B : Bk K mg) : PySem.W.kitOne K (.ref (He.ga K "BadField")) (.type "ValueError") = some true := of_decide_eq_true (B.ex 19 (f := fun K => decide (PySem.W.kitOne K (.ref (He.ga K "BadField")) (.type "ValueError") = some true)))
theorem Bk.nf_BadField_field (B : Bk K mg) : PySem.W.findIn K (.ref (He.ga K "BadField")) "field" = some none := He.eqO_ok (B.ex 20 (f := fun K => He.eqO (PySem.W.findIn K (.ref (He.ga K "BadField")) "field") (some none)))
theorem Bk.xc_BadLine (B : Bk K mg) : ExcC K (He.ga K "BadLine") := xcB_ok (B.ex 21 (f := fun K => xcB K (He.ga K "BadLine")))
theorem Bk.kit_BadLine_ValueError (B : Bk K mg) : PySem.W.kitOne K (.ref (He.ga K "BadLine")) (.type "ValueError") = some true := of_decide_eq_true (B.ex 22 (f := fun K => decide (PySem.W.kitOne K (.ref (He.ga K "BadLine")) (.type "ValueError") = some true)))
theorem Bk.nf_BadLine_number (B : Bk K mg) : PySem.W.findIn K (.ref (He.ga K "BadLine")) "number" = some none := He.eqO_ok (B.ex 23 (f := fun K => He.eqO (PySem.W.findIn K (.ref (He.ga K "BadLine")) "number") (some none)))
theorem Bk.xc_Ringed (B : Bk K mg) : ExcC K (He.ga K "Ringed") := xcB_ok (B.ex 24 (f := fun K => xcB K (He.ga K "Ringed")))
theorem Bk.kit_Ringed_ValueError (B : Bk K mg) : PySem.W.kitOne K (.ref (He.ga K "Ringed")) (.type "ValueError") = some true := of_decide_eq_true (B.ex 25 (f := fun K => decide (PySem.W.kitOne K (.ref (He.ga K "Ringed")) (.type "ValueError") = some true)))
theorem Bk.nf_Ringed_ring (B : Bk K mg) : PySem.W.findIn K (.ref (He.ga K "Ringed")) "ring" = some none := He.eqO_ok (B.ex 26 (f := fun K => He.eqO (PySem.W.findIn K (.ref (He.ga K "Ringed")) "ring") (some none)))
theorem Bk.kit_Keys_str (B : Bk K mg) : PySem.W.kitOne K (.ref (He.ga K "Keys")) (.type "str") = some false := of_decide_eq_true (B.ex 27 (f := fun K => decide (PySem.W.kitOne K (.ref (He.ga K "Keys")) (.type "str") = some false)))
theorem Bk.kit_Keys_list (B : Bk K mg) : PySem.W.kitOne K (.ref (He.ga K "Keys")) (.type "list") = some false := of_decide_eq_true (B.ex 28 (f := fun K => decide (PySem.W.kitOne K (.ref (He.ga K "Keys")) (.type "list") = some false)))
theorem Bk.kit_Keys_tuple (B : Bk K mg) : PySem.W.kitOne K (.ref (He.ga K "Keys")) (.type "tuple") = some false := of_decide_eq_true (B.ex 29 (f := fun K => decide (PySem.W.kitOne K (.ref (He.ga K "Keys")) (.type "tuple") = some false)))
theorem Bk.kit_Keys_bool (B : Bk K mg) : PySem.W.kitOne K (.ref (He.ga K "Keys")) (.type "bool") = some false := of_decide_eq_true (B.ex 30 (f := fun K => decide (PySem.W.kitOne K (.ref (He.ga K "Keys")) (.type "bool") = some false)))
theorem Bk.kit_Keys_int (B : Bk K mg) : PySem.W.kitOne K (.ref (He.ga K "Keys")) (.type "int") = some false := of_decide_eq_true (B.ex 31 (f := fun K => decide (PySem.W.kitOne K (.ref (He.ga K "Keys")) (.type "int") = some false)))
theorem Bk.kit_Keys_Keys (B : Bk K mg) : PySem.W.kitOne K (.ref (He.ga K "Keys")) (.ref (He.ga K "Keys")) = some true := of_decide_eq_true (B.ex 32 (f := fun K => decide (PySem.W.kitOne K (.ref (He.ga K "Keys")) (.ref (He.ga K "Keys")) = some true)))
theorem Bk.nfst_Keys_tuple (B : Bk K mg) : PySem.W.notFirst K (He.ga K "Keys") (.type "tuple") = true := (B.ex 33 (f := fun K => PySem.W.notFirst K (He.ga K "Keys") (.type "tuple")))
theorem Bk.kit_tuple_Keys (B : Bk K mg) : PySem.W.kitOne K (.type "tuple") (.ref (He.ga K "Keys")) = some false := of_decide_eq_true (B.ex 34 (f := fun K => decide (PySem.W.kitOne K (.type "tuple") (.ref (He.ga K "Keys")) = some false)))
theorem Bk.nfst_Keys_list (B : Bk K mg) : PySem.W.notFirst K (He.ga K "Keys") (.type "list") = true := (B.ex 35 (f := fun K => PySem.W.notFirst K (He.ga K "Keys") (.type "list")))
theorem Bk.kit_list_Keys (B : Bk K mg) : PySem.W.kitOne K (.type "list") (.ref (He.ga K "Keys")) = some false := of_decide_eq_true (B.ex 36 (f := fun K => decide (PySem.W.kitOne K (.type "list") (.ref (He.ga K "Keys")) = some false)))
theorem Bk.ty_Keys (B : Bk K mg) : PySem.W.findIn K (.ref (He.ga K "Keys")) "__class__" = some (some (.builtin "object.__class__")) ∧ PySem.W.specialIn K (.builtin "object.__class__") "__get__" = some (some (.builtin "getset_descriptor.__get__")) ∧ PySem.W.takesIn K (.builtin "object.__class__") = some true ∧ PySem.W.mroIn K (He.ga K "Keys") (.type "object") = some true := tyB_ok (B.ex 37 (f := fun K => tyB K (He.ga K "Keys")))
theorem Bk.df_Keys_init (B : Bk K mg) (H : Hp) : SqT K H (dflA (fun K => He.ma K (He.ga K "Keys") "__init__") 0 K) [] := tup0B_ok (B.ex 38 (f := fun K => tup0B K (dflA (fun K => He.ma K (He.ga K "Keys") "__init__") 0 K))) H
theorem Bk.exm_NoName_NoName (B : Bk K mg) : PySem.W.exmOne K (.ref (He.ga K "NoName")) (.ref (He.ga K "NoName")) = some true := of_decide_eq_true (B.ex 39 (f := fun K => decide (PySem.W.exmOne K (.ref (He.ga K "NoName")) (.ref (He.ga K "NoName")) = some true)))
theorem Bk.exm_NoName_NoPlace (B : Bk K mg) : PySem.W.exmOne K (.ref (He.ga K "NoName")) (.ref (He.ga K "NoPlace")) = some false := of_decide_eq_true (B.ex 40 (f := fun K => decide (PySem.W.exmOne K (.ref (He.ga K "NoName")) (.ref (He.ga K "NoPlace")) = some false)))
theorem Bk.exm_NoName_BadField (B : Bk K mg) : PySem.W.exmOne K (.ref (He.ga K "NoName")) (.ref (He.ga K "BadField")) = some false := of_decide_eq_true (B.ex 41 (f := fun K => decide (PySem.W.exmOne K (.ref (He.ga K "NoName")) (.ref (He.ga K "BadField")) = some false)))
theorem Bk.exm_NoName_BadLine (B : Bk K mg) : PySem.W.exmOne K (.ref (He.ga K "NoName")) (.ref (He.ga K "BadLine")) = some false := of_decide_eq_true (B.ex 42 (f := fun K => decide (PySem.W.exmOne K (.ref (He.ga K "NoName")) (.ref (He.ga K "BadLine")) = some false)))
theorem Bk.exm_NoName_Ringed (B : Bk K mg) : PySem.W.exmOne K (.ref (He.ga K "NoName")) (.ref (He.ga K "Ringed")) = some false := of_decide_eq_true (B.ex 43 (f := fun K => decide (PySem.W.exmOne K (.ref (He.ga K "NoName")) (.ref (He.ga K "Ringed")) = some false)))
theorem Bk.exm_NoPlace_NoName (B : Bk K mg) : PySem.W.exmOne K (.ref (He.ga K "NoPlace")) (.ref (He.ga K "NoName")) = some false := of_decide_eq_true (B.ex 44 (f := fun K => decide (PySem.W.exmOne K (.ref (He.ga K "NoPlace")) (.ref (He.ga K "NoName")) = some false)))
theorem Bk.exm_NoPlace_NoPlace (B : Bk K mg) : PySem.W.exmOne K (.ref (He.ga K "NoPlace")) (.ref (He.ga K "NoPlace")) = some true := of_decide_eq_true (B.ex 45 (f := fun K => decide (PySem.W.exmOne K (.ref (He.ga K "NoPlace")) (.ref (He.ga K "NoPlace")) = some true)))
theorem Bk.exm_NoPlace_BadField (B : Bk K mg) : PySem.W.exmOne K (.ref (He.ga K "NoPlace")) (.ref (He.ga K "BadField")) = some false := of_decide_eq_true (B.ex 46 (f := fun K => decide (PySem.W.exmOne K (.ref (He.ga K "NoPlace")) (.ref (He.ga K "BadField")) = some false)))
theorem Bk.exm_NoPlace_BadLine (B : Bk K mg) : PySem.W.exmOne K (.ref (He.ga K "NoPlace")) (.ref (He.ga K "BadLine")) = some false := of_decide_eq_true (B.ex 47 (f := fun K => decide (PySem.W.exmOne K (.ref (He.ga K "NoPlace")) (.ref (He.ga K "BadLine")) = some false)))
theorem Bk.exm_NoPlace_Ringed (B : Bk K mg) : PySem.W.exmOne K (.ref (He.ga K "NoPlace")) (.ref (He.ga K "Ringed")) = some false := of_decide_eq_true (B.ex 48 (f := fun K => decide (PySem.W.exmOne K (.ref (He.ga K "NoPlace")) (.ref (He.ga K "Ringed")) = some false)))
theorem Bk.exm_BadField_NoName (B : Bk K mg) : PySem.W.exmOne K (.ref (He.ga K "BadField")) (.ref (He.ga K "NoName")) = some false := of_decide_eq_true (B.ex 49 (f := fun K => decide (PySem.W.exmOne K (.ref (He.ga K "BadField")) (.ref (He.ga K "NoName")) = some false)))
theorem Bk.exm_BadField_NoPlace (B : Bk K mg) : PySem.W.exmOne K (.ref (He.ga K "BadField")) (.ref (He.ga K "NoPlace")) = some false := of_decide_eq_true (B.ex 50 (f := fun K => decide (PySem.W.exmOne K (.ref (He.ga K "BadField")) (.ref (He.ga K "NoPlace")) = some false)))
theorem Bk.exm_BadField_BadField (B : Bk K mg) : PySem.W.exmOne K (.ref (He.ga K "BadField")) (.ref (He.ga K "BadField")) = some true := of_decide_eq_true (B.ex 51 (f := fun K => decide (PySem.W.exmOne K (.ref (He.ga K "BadField")) (.ref (He.ga K "BadField")) = some true)))
theorem Bk.exm_BadField_BadLine (B : Bk K mg) : PySem.W.exmOne K (.ref (He.ga K "BadField")) (.ref (He.ga K "BadLine")) = some false := of_decide_eq_true (B.ex 52 (f := fun K => decide (PySem.W.exmOne K (.ref (He.ga K "BadField")) (.ref (He.ga K "BadLine")) = some false)))
theorem Bk.exm_BadField_Ringed (B : Bk K mg) : PySem.W.exmOne K (.ref (He.ga K "BadField")) (.ref (He.ga K "Ringed")) = some false := of_decide_eq_true (B.ex 53 (f := fun K => decide (PySem.W.exmOne K (.ref (He.ga K "BadField")) (.ref (He.ga K "Ringed")) = some false)))
theorem Bk.exm_BadLine_NoName (B : Bk K mg) : PySem.W.exmOne K (.ref (He.ga K "BadLine")) (.ref (He.ga K "NoName")) = some false := of_decide_eq_true (B.ex 54 (f := fun K => decide (PySem.W.exmOne K (.ref (He.ga K "BadLine")) (.ref (He.ga K "NoName")) = some false)))
theorem Bk.exm_BadLine_NoPlace (B : Bk K mg) : PySem.W.exmOne K (.ref (He.ga K "BadLine")) (.ref (He.ga K "NoPlace")) = some false := of_decide_eq_true (B.ex 55 (f := fun K => decide (PySem.W.exmOne K (.ref (He.ga K "BadLine")) (.ref (He.ga K "NoPlace")) = some false)))
theorem Bk.exm_BadLine_BadField (B : Bk K mg) : PySem.W.exmOne K (.ref (He.ga K "BadLine")) (.ref (He.ga K "BadField")) = some false := of_decide_eq_true (B.ex 56 (f := fun K => decide (PySem.W.exmOne K (.ref (He.ga K "BadLine")) (.ref (He.ga K "BadField")) = some false)))
theorem Bk.exm_BadLine_BadLine (B : Bk K mg) : PySem.W.exmOne K (.ref (He.ga K "BadLine")) (.ref (He.ga K "BadLine")) = some true := of_decide_eq_true (B.ex 57 (f := fun K => decide (PySem.W.exmOne K (.ref (He.ga K "BadLine")) (.ref (He.ga K "BadLine")) = some true)))
theorem Bk.exm_BadLine_Ringed (B : Bk K mg) : PySem.W.exmOne K (.ref (He.ga K "BadLine")) (.ref (He.ga K "Ringed")) = some false := of_decide_eq_true (B.ex 58 (f := fun K => decide (PySem.W.exmOne K (.ref (He.ga K "BadLine")) (.ref (He.ga K "Ringed")) = some false)))
theorem Bk.exm_Ringed_NoName (B : Bk K mg) : PySem.W.exmOne K (.ref (He.ga K "Ringed")) (.ref (He.ga K "NoName")) = some false := of_decide_eq_true (B.ex 59 (f := fun K => decide (PySem.W.exmOne K (.ref (He.ga K "Ringed")) (.ref (He.ga K "NoName")) = some false)))
theorem Bk.exm_Ringed_NoPlace (B : Bk K mg) : PySem.W.exmOne K (.ref (He.ga K "Ringed")) (.ref (He.ga K "NoPlace")) = some false := of_decide_eq_true (B.ex 60 (f := fun K => decide (PySem.W.exmOne K (.ref (He.ga K "Ringed")) (.ref (He.ga K "NoPlace")) = some false)))
theorem Bk.exm_Ringed_BadField (B : Bk K mg) : PySem.W.exmOne K (.ref (He.ga K "Ringed")) (.ref (He.ga K "BadField")) = some false := of_decide_eq_true (B.ex 61 (f := fun K => decide (PySem.W.exmOne K (.ref (He.ga K "Ringed")) (.ref (He.ga K "BadField")) = some false)))
theorem Bk.exm_Ringed_BadLine (B : Bk K mg) : PySem.W.exmOne K (.ref (He.ga K "Ringed")) (.ref (He.ga K "BadLine")) = some false := of_decide_eq_true (B.ex 62 (f := fun K => decide (PySem.W.exmOne K (.ref (He.ga K "Ringed")) (.ref (He.ga K "BadLine")) = some false)))
theorem Bk.exm_Ringed_Ringed (B : Bk K mg) : PySem.W.exmOne K (.ref (He.ga K "Ringed")) (.ref (He.ga K "Ringed")) = some true := of_decide_eq_true (B.ex 63 (f := fun K => decide (PySem.W.exmOne K (.ref (He.ga K "Ringed")) (.ref (He.ga K "Ringed")) = some true)))
theorem Bk.F_Keys___init (B : Bk K mg) : ∃ fd, FunD K "__init__" "Keys.__init__" (defArgs s_Keys___init__) (defBody s_Keys___init__) (defScope s_Keys___init__) (d_Keys___init__.dvs K) [] (He.ma K (He.ga K "Keys") "__init__") fd := B.fn_ 0 (d := d_Keys___init__)
theorem Bk.F_Keys_p_names (B : Bk K mg) : ∃ fd, Fun K "names" "Keys.names" s_Keys_p_names (propG K "Keys" "names") fd := let ⟨fd, h⟩ := B.fn_ 1 (d := d_Keys_p_names); ⟨fd, He5.fun_of h⟩
theorem Bk.F_Keys_p_pairs (B : Bk K mg) : ∃ fd, Fun K "pairs" "Keys.pairs" s_Keys_p_pairs (propG K "Keys" "pairs") fd := let ⟨fd, h⟩ := B.fn_ 2 (d := d_Keys_p_pairs); ⟨fd, He5.fun_of h⟩
theorem Bk.F_Keys_tells (B : Bk K mg) : ∃ fd, Fun K "tells" "Keys.tells" s_Keys_tells (He.ma K (He.ga K "Keys") "tells") fd := let ⟨fd, h⟩ := B.fn_ 3 (d := d_Keys_tells); ⟨fd, He5.fun_of h⟩
theorem Bk.F_Keys_told (B : Bk K mg) : ∃ fd, Fun K "told" "Keys.told" s_Keys_told (He.ma K (He.ga K "Keys") "told") fd := let ⟨fd, h⟩ := B.fn_ 4 (d := d_Keys_told); ⟨fd, He5.fun_of h⟩
theorem Bk.F_Keys__check (B : Bk K mg) : ∃ fd, Fun K "_check" "Keys._check" s_Keys__check (He.ma K (He.ga K "Keys") "_check") fd := let ⟨fd, h⟩ := B.fn_ 5 (d := d_Keys__check); ⟨fd, He5.fun_of h⟩
theorem Bk.F_Keys___contains (B : Bk K mg) : ∃ fd, Fun K "__contains__" "Keys.__contains__" s_Keys___contains__ (He.ma K (He.ga K "Keys") "__contains__") fd := let ⟨fd, h⟩ := B.fn_ 6 (d := d_Keys___contains__); ⟨fd, He5.fun_of h⟩
theorem Bk.F_Keys___len (B : Bk K mg) : ∃ fd, Fun K "__len__" "Keys.__len__" s_Keys___len__ (He.ma K (He.ga K "Keys") "__len__") fd := let ⟨fd, h⟩ := B.fn_ 7 (d := d_Keys___len__); ⟨fd, He5.fun_of h⟩
theorem Bk.F_Keys___eq (B : Bk K mg) : ∃ fd, Fun K "__eq__" "Keys.__eq__" s_Keys___eq__ (He.ma K (He.ga K "Keys") "__eq__") fd := let ⟨fd, h⟩ := B.fn_ 8 (d := d_Keys___eq__); ⟨fd, He5.fun_of h⟩
theorem Bk.F_all_told (B : Bk K mg) : ∃ fd, Fun K "_all_told" "_all_told" s__all_told (He.ga K "_all_told") fd := let ⟨fd, h⟩ := B.fn_ 9 (d := d__all_told); ⟨fd, He5.fun_of h⟩
theorem Bk.F_NoName___init (B : Bk K mg) : ∃ fd, Fun K "__init__" "NoName.__init__" s_NoName___init__ (He.ma K (He.ga K "NoName") "__init__") fd := let ⟨fd, h⟩ := B.fn_ 10 (d := d_NoName___init__); ⟨fd, He5.fun_of h⟩
theorem Bk.F_law_box (B : Bk K mg) : ∃ fd, Fun K "_law_box" "_law_box" s__law_box (He.ga K "_law_box") fd := let ⟨fd, h⟩ := B.fn_ 11 (d := d__law_box); ⟨fd, He5.fun_of h⟩
theorem Bk.F_law_take (B : Bk K mg) : ∃ fd, Fun K "_law_take" "_law_take" s__law_take (He.ga K "_law_take") fd := let ⟨fd, h⟩ := B.fn_ 12 (d := d__law_take); ⟨fd, He5.fun_of h⟩
theorem Bk.F_law_cells (B : Bk K mg) : ∃ fd, Fun K "_law_cells" "_law_cells" s__law_cells (He.ga K "_law_cells") fd := let ⟨fd, h⟩ := B.fn_ 13 (d := d__law_cells); ⟨fd, He5.fun_of h⟩
theorem Bk.F_law_lists (B : Bk K mg) : ∃ fd, Fun K "_law_lists" "_law_lists" s__law_lists (He.ga K "_law_lists") fd := let ⟨fd, h⟩ := B.fn_ 14 (d := d__law_lists); ⟨fd, He5.fun_of h⟩
theorem Bk.F_law_same (B : Bk K mg) : ∃ fd, Fun K "_law_same" "_law_same" s__law_same (He.ga K "_law_same") fd := let ⟨fd, h⟩ := B.fn_ 15 (d := d__law_same); ⟨fd, He5.fun_of h⟩
theorem Bk.F_law_few (B : Bk K mg) : ∃ fd, Fun K "_law_few" "_law_few" s__law_few (He.ga K "_law_few") fd := let ⟨fd, h⟩ := B.fn_ 16 (d := d__law_few); ⟨fd, He5.fun_of h⟩
theorem Bk.F_law_mixed (B : Bk K mg) : ∃ fd, Fun K "_law_mixed" "_law_mixed" s__law_mixed (He.ga K "_law_mixed") fd := let ⟨fd, h⟩ := B.fn_ 17 (d := d__law_mixed); ⟨fd, He5.fun_of h⟩
theorem Bk.F_law_book (B : Bk K mg) : ∃ fd, Fun K "_law_book" "_law_book" s__law_book (He.ga K "_law_book") fd := let ⟨fd, h⟩ := B.fn_ 18 (d := d__law_book); ⟨fd, He5.fun_of h⟩
theorem Bk.F_law_told (B : Bk K mg) : ∃ fd, Fun K "_law_told" "_law_told" s__law_told (He.ga K "_law_told") fd := let ⟨fd, h⟩ := B.fn_ 19 (d := d__law_told); ⟨fd, He5.fun_of h⟩
theorem Bk.F_law_heard (B : Bk K mg) : ∃ fd, Fun K "_law_heard" "_law_heard" s__law_heard (He.ga K "_law_heard") fd := let ⟨fd, h⟩ := B.fn_ 20 (d := d__law_heard); ⟨fd, He5.fun_of h⟩
theorem Bk.F_law_by_hand_right (B : Bk K mg) : ∃ fd, Fun K "_law_by_hand_right" "_law_by_hand_right" s__law_by_hand_right (He.ga K "_law_by_hand_right") fd := let ⟨fd, h⟩ := B.fn_ 21 (d := d__law_by_hand_right); ⟨fd, He5.fun_of h⟩
theorem Bk.F_law_right (B : Bk K mg) : ∃ fd, Fun K "_law_right" "_law_right" s__law_right (He.ga K "_law_right") fd := let ⟨fd, h⟩ := B.fn_ 22 (d := d__law_right); ⟨fd, He5.fun_of h⟩
theorem Bk.F_law (B : Bk K mg) : ∃ fd, Fun K "law" "law" s_law (He.ga K "law") fd := let ⟨fd, h⟩ := B.fn_ 23 (d := d_law); ⟨fd, He5.fun_of h⟩
end
end Jd
/-! len, in, ==, != by a class's own defs; calls by keywords alone; a class made where errors are caught -/
namespace PySem.W
open PySem PySem.Calls PyProof.Rows Builtin
section
variable {prog : Program} {w : World} {A : Around} {E : Value → Shared → Prop} {s : Shared} {K : Frag} {x C L f : Addr} {h₀ : Heap} {m : Str → Option Value} {ox : Obj} {od : Option Obj} {b tb : Value}
theorem ifBoundB_K {M : Model} {id : String} {name : Str} {args : List Value} {Q : Option Value → Shared → Prop} (X : K.In s.heap) (I : InstAt s.heap x ox C od) (hs : findIn K (.ref C) name = some (some (.builtin id)))
    (hb : bindSpecial (.builtin id) (.ref x) = pure (.builtin id, [.ref x]))
    (h : wpAny M A (call (.builtin id) (.ref x :: args)) (fun v => Q (some v)) E s) : wpAny M A (callSpecialIfBound? (.ref x) name args) Q E s := by
  simp only [callSpecialIfBound?, bindSpecialIfBound?]
  refine wpAny_holding (wpAny_bind (wpAny_bind (wpAny_bind (I.type.here ((looks_findIn X hs).here ?_)))))
  simp only [hb]
  refine wpAny_bind (wpAny_askSetting (wpAny_ite ?_))
  have fin : wpAny M A (call (.builtin id) ([.ref x] ++ args) >>= fun v => pure (some v)) Q E s := wpAny_bind (wpAny_mono h (fun v s' h' => wpAny_pure h') fun _ _ h' => h')
  split
  · exact wpAny_bind (wpAny_pure (wpAny_pure (by exact fin)))
  · exact wpAny_tryCatch (wpAny_bind (wpAny_pure (wpAny_pure (by exact fin))))
theorem ne_K {Q : Value → Shared → Prop} (hu : A.units + 1 < cLine) (X : K.In s.heap) (I : InstAt s.heap x ox C od) (hb : Looks (model prog w) s.heap (typeOf b) tb) (hn : notFirst K C tb = true)
    (hne : findIn K (.ref C) "__ne__" = some (some (.builtin "object.__ne__"))) (hm : mroIn K C (.type "object") = some true)
    (hs : findIn K (.ref C) "__eq__" = some (some (.ref f))) (hf : isFn K (.ref f) = true)
    (h : wpAny (model prog w) A.in1 (call (.ref f) [.ref x, b]) (fun v s' => ∃ c, v = .bool c ∧ Q (.bool (!c)) s') E s) : wpAny (model prog w) A (richCompare .NotEq (.ref x) b) Q E s := by
  have isO : Looks (model prog w) s.heap (isInstance (.ref x) (.type "object")) true := I.type.andThen (looks_mroIn X hm)
  have body : wpAny (model prog w) A (call (.builtin "object.__ne__") [.ref x, b]) (fun v s' => ∃ c, v = .bool c ∧ Q v s') E s := by
    refine wpAny_call (codeAny_call_builtin PySem.F.cmp_object.ne.plain PySem.F.cmpEntry_ne
      (@check_slot (model prog w) _ _ s "object.__ne__" "object" "__ne__" (.ref x) [b] [] _ PySem.F.cmpKind_ne PySem.F.cmpSplit_ne isO (PySem.F.cmpArgs_ne _ _) ?_))
    unfold Builtin.«object.__ne__»
    refine wpAny_bind (wpAny_of_eq (a := ((Value.ref x : Value), [b])) (by first | rfl | (simp only [slotArgs]; rfl)) ?_)
    refine wpAny_bind (wpAny_cRoomFor (A := A.in1) hu ?_)
    refine wpAny_bind (ifBound_K X I hs hf (wpAny_mono h (fun v s' hv => ?_) fun _ _ e => e))
    obtain ⟨c, rfl, q⟩ := hv
    refine wpAny_bind (wpAny_truthy_bool ?_)
    exact wpAny_pure ⟨_, rfl, q⟩
  have one : wpAny (model prog w) A (tryCompare (.ref x) (cmpInfo .NotEq).2.1 b) (fun r s' => ∃ v, r = some v ∧ Q v s') E s := by
    unfold tryCompare
    refine wpAny_bind (ifBoundB_K X I hne (PySem.F.cmp_object.ne.bind _) (wpAny_mono body (fun v s' hv => ?_) fun _ _ e => e))
    obtain ⟨c, rfl, q⟩ := hv
    exact wpAny_pure ⟨_, rfl, q⟩
  unfold richCompare
  simp only [oneThing_ref]
  refine wpAny_holding (wpAny_bind (wpAny_cRoomFor (Nat.lt_of_succ_lt hu) ?_))
  refine wpAny_bind (I.type.here (wpAny_bind (hb.here ?_)))
  split
  · rename_i q
    have e : subIn K tb (.ref C) = some false := by
      rcases Bool.or_eq_true_iff.mp hn with e | e
      · rw [beq_iff_eq.mp e] at q; simp at q
      · exact beq_iff_eq.mp e
    refine wpAny_bind ((looks_subIn X e).here ?_)
    simp only [Bool.false_eq_true, if_false]
    refine wpAny_bind (wpAny_mono one (fun r s' z => ?_) fun _ _ e => e)
    obtain ⟨v, rfl, hq⟩ := z
    exact wpAny_pure hq
  · refine wpAny_bind (wpAny_pure ?_)
    simp only [Bool.false_eq_true, if_false]
    refine wpAny_bind (wpAny_mono one (fun r s' z => ?_) fun _ _ e => e)
    obtain ⟨v, rfl, hq⟩ := z
    exact wpAny_pure hq
end
end PySem.W
namespace Jd
open PySem PySem.Spec PyProof.Rows L2
section
variable {X : Cx} {CX : CXT} {k : Nat} {C f : Addr} {fd : FuncData} {ps : List Str} {sp : Sp} {E : XK}
def rLenOwn (C : Addr) (sp : Sp) (E : XK) : List V → Hp → VK → Prop := fun xs H Q => ∃ a dx fs, xs = [.ref a] ∧ H a = some (.ins C dx fs) ∧ sp [.ref a] H (fun v H' => ∃ n : Int, v = .int n ∧ 0 ≤ n ∧ n < 2 ^ 63 ∧ Q (.int n) H') E
def rInOwn (C : Addr) (sp : Sp) (E : XK) : R2 := fun x y H Q => ∃ a dx fs, y = .ref a ∧ H a = some (.ins C dx fs) ∧ sp [y, x] H (fun v H' => ∃ c : Bool, v = .bl c ∧ Q (.bl c) H') E
def rEqOwn (K : PySem.W.Frag) (C : Addr) (sp : Sp) (E : XK) : R2 := fun x y H Q => ∃ a dx fs t, x = .ref a ∧ H a = some (.ins C dx fs) ∧ TyX K H y t ∧ PySem.W.notFirst K C t = true ∧ sp [x, y] H (fun v H' => ∃ c : Bool, v = .bl c ∧ Q (.bl c) H') E
def rNeOwn (K : PySem.W.Frag) (C : Addr) (sp : Sp) (E : XK) : R2 := fun x y H Q => ∃ a dx fs t, x = .ref a ∧ H a = some (.ins C dx fs) ∧ TyX K H y t ∧ PySem.W.notFirst K C t = true ∧ sp [x, y] H (fun v H' => ∃ c : Bool, v = .bl c ∧ Q (.bl (!c)) H') E
/-- the def run around A, which stands as deep as X.A or one deeper -/
theorem own_run {pins : List (Addr × Obj)} {s : Shared} {σ : L2.St} {H : Hp} {Q : VK} {vs : List V} {us : List Value} (A : Around) (hA : A.frames = X.A.frames) (F : FnOk X.prog X.w X.K X.mg X.base CX k f fd ps sp) (hr : Room k A) (hb : Binds X.K fd ps []) (hx : Passes CX X E)
    (I : Inv X pins σ H s) (r : Vals vs us) (h : sp vs H Q E) : wpAny (model X.prog X.w) A (call (.ref f) us) (EP X pins σ Q) X.xe s := by
  have e := I.env0
  have e0 : Env0 X.prog X.w X.K X.mg X.base A X.stack s H := ⟨by rw [hA]; exact e.frames, e.mod, e.bs, e.bsz, e.funs, e.frf, e.hok, e.bare⟩
  have hl := F.len _ _ _ _ h
  refine wpAny_call (codeAny_mono (F.run A X.stack s H ⟨us, []⟩ us vs _ E hr e0 (by
    have := hb s us I.kIn (by simpa [← r.length] using hl)
    simpa using this) r h) fun r s' hq => ?_)
  cases r with
  | error e => exact hx pins σ H s e s' I hq
  | ok fl =>
    cases fl with
    | ret w => exact I.after hq
    | next => exact False.elim hq
    | brk => exact False.elim hq
    | cont => exact False.elim hq
theorem call_lenOwn (F : FnOk X.prog X.w X.K X.mg X.base CX k f fd ps sp) (hr : Room (k + 1) X.A) (hs : PySem.W.findIn X.K (.ref C) "__len__" = some (some (.ref f))) (hf : PySem.W.isFn X.K (.ref f) = true) (hb : Binds X.K fd ps []) (hx : Passes CX X E) : CallR X (.builtin "len") (rLenOwn C sp E) := by
  intro pins s σ H xs us Q I r h
  obtain ⟨a, dx, fs, rfl, ha, hsp⟩ := h
  cases r with
  | cons rx rr =>
    cases rr
    cases rx
    obtain ⟨mA, J, _⟩ := ins_get I.hok ha
    obtain ⟨od, J, _⟩ := J.look
    obtain ⟨m, hF⟩ := I.fr
    refine PySem.W.len_K hF I.ok.mod.kin J hs hf (wpAny_mono (own_run X.A.in1 rfl F hr.in1 hb hx I (.cons (show RelV (V.ref a) (Value.ref a) from rfl) .nil) hsp) (fun v s' z => ?_) fun _ _ x => x)
    obtain ⟨y, H', I', rz, n, ez, n0, n1, q⟩ := z
    subst ez
    obtain ⟨t, rfl⟩ := (show ∃ t, v = Value.int n t from rz)
    exact ⟨⟨n0, n1⟩, .int n, H', I'.tok _, ⟨_, rfl⟩, q⟩
theorem op_inOwn (F : FnOk X.prog X.w X.K X.mg X.base CX k f fd ps sp) (hr : Room k X.A) (hs : PySem.W.findIn X.K (.ref C) "__contains__" = some (some (.ref f))) (hf : PySem.W.isFn X.K (.ref f) = true) (hb : Binds X.K fd ps []) (hx : Passes CX X E) : OpR X (compareOp .In) (rInOwn C sp E) := by
  intro pins s σ H x y v u Q I rx ry h
  obtain ⟨a, dx, fs, rfl, ha, hsp⟩ := h
  cases ry
  obtain ⟨mA, J, _⟩ := ins_get I.hok ha
  obtain ⟨od, J, _⟩ := J.look
  obtain ⟨m, hF⟩ := I.fr
  refine PySem.W.in_K hF I.ok.mod.kin J hs hf (wpAny_mono (own_run X.A rfl F hr hb hx I (.cons (show RelV (V.ref a) (Value.ref a) from rfl) (.cons rx .nil)) hsp) (fun v s' z => ?_) fun _ _ x => x)
  obtain ⟨y, H', I', rz, c, ez, q⟩ := z
  subst ez
  cases rz
  exact wpAny_truthy_bool ⟨.bl c, H', I', rfl, q⟩
theorem op_eqOwn (F : FnOk X.prog X.w X.K X.mg X.base CX k f fd ps sp) (hr : Room k X.A) (hs : PySem.W.findIn X.K (.ref C) "__eq__" = some (some (.ref f))) (hf : PySem.W.isFn X.K (.ref f) = true) (hb : Binds X.K fd ps []) (hx : Passes CX X E) : OpR X (compareOp .Eq) (rEqOwn X.K C sp E) := by
  intro pins s σ H x y v u Q I rx ry h
  obtain ⟨a, dx, fs, t, rfl, ha, ht, hn, hsp⟩ := h
  obtain ⟨P, kx, hP, _⟩ := kit_of I ry ht
  cases rx
  obtain ⟨mA, J, _⟩ := ins_get I.hok ha
  obtain ⟨od, J, _⟩ := J.look
  obtain ⟨m, hF⟩ := I.fr
  show wpAny (model X.prog X.w) X.A (richCompare .Eq (.ref a) u) (EP X pins σ Q) X.xe s
  refine PySem.W.cmp_K (op := .Eq) (tb := t) hr.units0 hF I.ok.mod.kin J (kx.ty _ _ I.kIn hP) hn hs hf (wpAny_mono (own_run X.A rfl F hr hb hx I (.cons (show RelV (V.ref a) (Value.ref a) from rfl) (.cons ry .nil)) hsp) (fun v s' z => ?_) fun _ _ x => x)
  obtain ⟨y, H', I', rz, c, ez, q⟩ := z
  subst ez
  cases rz
  exact ⟨.bl c, H', I', rfl, q⟩
theorem op_neOwn (F : FnOk X.prog X.w X.K X.mg X.base CX k f fd ps sp) (hr : Room (k + 1) X.A) (hu : X.A.units + 1 < cLine) (hs : PySem.W.findIn X.K (.ref C) "__eq__" = some (some (.ref f))) (hf : PySem.W.isFn X.K (.ref f) = true)
    (hne : PySem.W.findIn X.K (.ref C) "__ne__" = some (some (.builtin "object.__ne__"))) (hm : PySem.W.mroIn X.K C (.type "object") = some true) (hb : Binds X.K fd ps []) (hx : Passes CX X E) : OpR X (compareOp .NotEq) (rNeOwn X.K C sp E) := by
  intro pins s σ H x y v u Q I rx ry h
  obtain ⟨a, dx, fs, t, rfl, ha, ht, hn, hsp⟩ := h
  obtain ⟨P, kx, hP, _⟩ := kit_of I ry ht
  cases rx
  obtain ⟨mA, J, _⟩ := ins_get I.hok ha
  obtain ⟨od, J, _⟩ := J.look
  show wpAny (model X.prog X.w) X.A (richCompare .NotEq (.ref a) u) (EP X pins σ Q) X.xe s
  refine PySem.W.ne_K (tb := t) hu I.kIn J (kx.ty _ _ I.kIn hP) hn hne hm hs hf (wpAny_mono (own_run X.A.in1 rfl F hr.in1 hb hx I (.cons (show RelV (V.ref a) (Value.ref a) from rfl) (.cons ry .nil)) hsp) (fun v s' z => ?_) fun _ _ x => x)
  obtain ⟨y, H', I', rz, c, ez, q⟩ := z
  subst ez
  cases rz
  exact ⟨c, rfl, .bl (!c), H', I', rfl, q⟩
end
/-! two readings of one piece -/
section
variable {X : Cx} {e tg : Expr} {t1 t2 : TE} {w1 w2 : TI} {g1 g2 : TG}
theorem pe_or2 (h1 : PE X e t1) (h2 : PE X e t2) : PE X e (fun σ H Q => t1 σ H Q ∨ t2 σ H Q) :=
  ⟨fun pins s σ H Q I h => h.elim (h1.run pins s σ H Q I) (h2.run pins s σ H Q I)⟩
theorem pi_or2 (h1 : PI X tg e w1) (h2 : PI X tg e w2) : PI X tg e (fun σ H R => w1 σ H R ∨ w2 σ H R) :=
  ⟨fun pins s σ H R I h => h.elim (h1.run pins s σ H R I) (h2.run pins s σ H R I)⟩
theorem pg_or2 (h1 : PG X tg g1) (h2 : PG X tg g2) : PG X tg (fun v σ H Q => g1 v σ H Q ∨ g2 v σ H Q) :=
  ⟨fun pins s σ H v u Q I r h => h.elim (h1.run pins s σ H v u Q I r) (h2.run pins s σ H v u Q I r)⟩
end
end Jd
namespace Jd
open PySem PySem.Spec PyProof.Rows L2
/-! ### words -/
/-- a def that stands behind the top, its promise -/
structure Df (P : Program) (w : World) (K : PySem.W.Frag) (mg : Str → Option Value) (base : Heap) (CX : CXT) (k : Nat) (x : Str) (ps : List Str) (sp : Sp) : Prop where
  ex : ∃ fd, FnOk P w K mg base CX k (He.ga K x) fd ps sp ∧ Binds K fd ps []
  g : mg x = some (.ref (He.ga K x))
  kp : PySem.W.keepIn K (.ref (He.ga K x)) = true
/-- the codes of a text -/
abbrev cd (z : Str) : List Nat := z.cps.toList
theorem len_cd (z : Str) : z.length = (cd z).length := by
  show z.cps.size = z.cps.toList.length
  rw [Array.length_toList]
theorem cd_ext {a b : Str} (h : cd a = cd b) : a = b := by
  obtain ⟨x⟩ := a
  obtain ⟨y⟩ := b
  congr 1
  exact Array.toList_inj.mp h
theorem cd_at {z : Str} {i c : Nat} (h : z.cps[i]? = some c) : (cd z)[i]? = some c := by
  rw [Array.getElem?_toList]
  exact h
/-- both ways of a test -/
theorem two {c : Bool} {A B : Prop} (h1 : c = true → A) (h2 : c = false → B) : if c = true then A else B := by
  cases c with
  | true => exact iteT (h1 rfl)
  | false => exact iteF (h2 rfl)
theorem one_lt (a b : Nat) : decide ([a] < [b]) = decide (a < b) := by
  have e : ([a] < [b]) ↔ a < b := by
    constructor
    · intro h
      cases h with
      | rel h => exact h
      | cons h => cases h
    · exact fun h => .rel h
  exact decide_eq_decide.mpr e
/-! ### heaps -/
theorem Same_upd {H H' : Hp} {a : Addr} {o : HO} (s : Same H H') (n : H a = none) : Same H (upd H' a o) := fun b u q => by
  rw [upd_ne (ne_of_none q n)]
  exact s b u q
theorem Same_new {H : Hp} {a : Addr} {o : HO} (n : H a = none) : Same H (upd H a o) := Same_upd (Same.refl H) n
theorem Same_lay {H H' : Hp} {a : Addr} {o : HO} (s : Same H H') (n : H' a = none) : Same H (upd H' a o) := fun b u q => by
  rw [upd_ne (ne_of_none (s b u q) n)]
  exact s b u q
theorem Same_seqT {K : PySem.W.Frag} {H H' : Hp} {a : Addr} {xs : List V} (e : Same H H') (h : SqT K H a xs) : SqT K H' a xs := by
  rcases h with (h | ⟨o, h⟩) | h
  · exact .inl (.inl (e _ _ h))
  · exact .inl (.inr ⟨o, e _ _ h⟩)
  · exact .inr h
/-! ### a comprehension that only lays new objects -/
theorem fm_step {f : Nat → Option V} (i : Nat) : (List.range (i + 1)).filterMap f = (List.range i).filterMap f ++ (match f i with
    | some y => [y]
    | none => []) := by
  rw [List.range_succ, List.filterMap_append]
  congr 1
  cases e : f i with
  | none => simp [e]
  | some y => simp [e]
theorem fm_len {f : Nat → Option V} (i : Nat) : ((List.range i).filterMap f).length ≤ i := by
  have q := List.length_filterMap_le f (List.range i)
  rw [List.length_range] at q
  exact q
section
variable {J : It} {n : Nat} {G : Hp → Prop} {Y : Nat → Hp → V → Hp → Prop}
theorem lc_fm (w : Walk J n G Y) {g : TG} {tt : TT} {te : TE} {vs : List Nat} {σ : L2.St} {H1 : Hp} {D : Addr} {Qd : Hp → Prop} (f : Nat → Option V) (hD : H1 D = none) (hn : n ≤ sizeLine) (hG : ∀ H, Same H1 H → G H)
    (hs : ∀ i x H H' (Kt : VK) (Kf : Hp → Prop), i < n → Same H1 H → Y i H x H' → (∀ y H4, f i = some y → Same H H4 → Kt y H4) → (∀ H4, f i = none → Same H H4 → Kf H4) →
      g x (wipe σ vs) H' fun σ2 H2 => wipe σ2 vs = wipe σ vs ∧ tt σ2 H2 fun b H3 => if b = true then te σ2 H3 Kt else Kf H3)
    (hd : ∀ H, Same H1 H → H D = some (.lst ((List.range n).filterMap f)) → Qd H) :
    ∃ W : Nat → Nat → Hp → Prop, (∃ m, W 0 m (upd H1 D (.lst []))) ∧ ∀ i m H, W i m H →
      (J.stop i H ∧ Qd H) ∨ (J.go i H ∧ ∃ Nx : Hp → Prop, (∀ H', Nx H' → ∃ m', m' < m ∧ W (i + 1) m' H') ∧ ∀ x H', J.yld i H x H' → g x (wipe σ vs) H' fun σ2 H2 => wipe σ2 vs = wipe σ vs ∧ tt σ2 H2 fun b H3 =>
        if b = true then te σ2 H3 fun y H4 => ∃ acc, H4 D = some (.lst acc) ∧ acc.length < sizeLine ∧ Nx (upd H4 D (.lst (acc ++ [y]))) else Nx H3) := by
  refine lc_it w (fun i H => Same H1 H ∧ H D = some (.lst ((List.range i).filterMap f))) ⟨Same_new hD, upd_same⟩ (fun i H _ p => hG H p.1) (fun i x H H' hi p y => ?_) (fun H p => hd H p.1 p.2)
  refine hs i x H H' _ _ hi p.1 y (fun y H4 e s4 => ⟨_, s4 _ _ p.2, Nat.lt_of_le_of_lt (fm_len i) (Nat.lt_of_lt_of_le hi hn), Same_upd (p.1.trans s4) hD, ?_⟩) (fun H4 e s4 => ⟨p.1.trans s4, ?_⟩)
  · rw [upd_same, fm_step, e]
  · rw [fm_step, e, List.append_nil]
    exact s4 _ _ p.2
end
theorem fm_some {α : Type} {l : List α} {g : α → V} {f : Nat → Option V} (h : ∀ i x, l[i]? = some x → f i = some (g x)) : (List.range l.length).filterMap f = l.map g := by
  have key : ∀ k, k ≤ l.length → (List.range k).filterMap f = (l.take k).map g := by
    intro k
    induction k with
    | zero => intro _; rfl
    | succ k ih =>
      intro hk
      have hl : k < l.length := hk
      have e : l[k]? = some l[k] := List.getElem?_eq_getElem hl
      rw [fm_step, ih (Nat.le_of_lt hl), h k _ e, List.take_add_one, e, List.map_append]
      rfl
  have q := key l.length (Nat.le_refl _)
  rw [List.take_length] at q
  exact q
end Jd
namespace Jd
open PySem PySem.Spec PyProof.Rows L2
/-! ### lists and tuples alike -/
def Sq (K : PySem.W.Frag) (H : Hp) (a : Addr) (xs : List V) : Prop := SqL K H a xs ∨ SqT K H a xs
theorem sm_seqT {K : PySem.W.Frag} {H H' : Hp} {a : Addr} {xs : List V} (e : ∀ b o, H b = some o → H' b = some o) (h : SqT K H a xs) : SqT K H' a xs := by
  rcases h with (h | ⟨o, h⟩) | h
  · exact .inl (.inl (e _ _ h))
  · exact .inl (.inr ⟨o, e _ _ h⟩)
  · exact .inr h
theorem sm_seqL {K : PySem.W.Frag} {H H' : Hp} {a : Addr} {xs : List V} (e : ∀ b o, H b = some o → H' b = some o) (h : SqL K H a xs) : SqL K H' a xs := by
  rcases h with (h | ⟨o, h⟩) | h
  · exact .inl (.inl (e _ _ h))
  · exact .inl (.inr ⟨o, e _ _ h⟩)
  · exact .inr h
theorem Sq.same {K : PySem.W.Frag} {H H' : Hp} {a : Addr} {xs : List V} (e : ∀ b o, H b = some o → H' b = some o) (h : Sq K H a xs) : Sq K H' a xs := h.elim (fun h => .inl (sm_seqL e h)) fun h => .inr (sm_seqT e h)
/-- all but the instance at u is as it was -/
theorem Sq.keep {K : PySem.W.Frag} {u : Addr} {H H' : Hp} {a : Addr} {xs : List V} {C dx : Addr} {fs : List (Str × V)} (hu : H u = some (.ins C dx fs)) (k : ∀ b o, b ≠ u → H b = some o → H' b = some o) (h : Sq K H a xs) : Sq K H' a xs := by
  rcases h with ((h | ⟨o, h⟩) | h) | ((h | ⟨o, h⟩) | h)
  · exact .inl (.inl (.inl (k _ _ (ne_of h hu (by intro z; cases z)) h)))
  · exact .inl (.inl (.inr ⟨o, k _ _ (ne_of h hu (by intro z; cases z)) h⟩))
  · exact .inl (.inr h)
  · exact .inr (.inl (.inl (k _ _ (ne_of h hu (by intro z; cases z)) h)))
  · exact .inr (.inl (.inr ⟨o, k _ _ (ne_of h hu (by intro z; cases z)) h⟩))
  · exact .inr (.inr h)
/-- a list or a tuple, walked -/
def iSq (K : PySem.W.Frag) (te : TE) : TI := fun σ H R => te σ H fun x H1 => ∃ (a : Addr) (xs : List V), x = .ref a ∧ Sq K H1 a xs ∧
  ∀ (J : It) (G : Hp → Prop), Walk J xs.length G (YAt xs) → (∀ H', (∀ b o, H1 b = some o → H' b = some o) → G H') → R J H1
section
variable {X : Cx} {tg : Expr}
theorem pi_seq {l : Expr} {te : TE} (hl : PE X l te) : PI X tg l (iSq X.K te) := by
  refine ⟨fun pins s σ H R I h => ?_⟩
  refine thn (hl.run pins s σ H _ I h) fun v s1 ⟨x, H1, I1, r1, q1⟩ => ?_
  obtain ⟨a, xs, e, hq, q⟩ := q1
  subst e
  cases r1
  rcases hq with hq | hq
  · obtain ⟨its, rv, p, hz⟩ := I1.list hq
    refine wpAny_pyIter_list p.isList ?_
    refine ⟨s1.heap.objs.size, [s1.heap.objs.size], _, _, H1, rfl, I1.kept (t' := s1.toks) fun b o e => Heap.get?_push_of_some _ e, turn_list a _, ⟨_, Heap.get?_push_size _ rfl, rfl, rfl⟩, fun b hb => ?_,
      q (Itl X.K a) _ walk_list fun H' e => sm_seqL e hq⟩
    have e : b = s1.heap.objs.size := by simpa using hb
    subst e
    exact I1.fpOk (Nat.le_refl _) (I1.hok.fresh (Nat.le_refl _))
  · obtain ⟨its, rv, p, hz⟩ := I1.tuple hq
    refine wpAny_pyIter_tuple (show s1.heap.IsTuple a its.toArray from p) ?_
    refine ⟨s1.heap.objs.size, [s1.heap.objs.size], _, _, H1, rfl, I1.kept (t' := s1.toks) fun b o e => Heap.get?_push_of_some _ e, turn_tuple a _, ⟨_, Heap.get?_push_size _ rfl, rfl, rfl⟩, fun b hb => ?_,
      q (Itt X.K a) _ walk_tup fun H' e => sm_seqT e hq⟩
    have e : b = s1.heap.objs.size := by simpa using hb
    subst e
    exact I1.fpOk (Nat.le_refl _) (I1.hok.fresh (Nat.le_refl _))
/-- unpacked, a list or a tuple -/
def gSq (K : PySem.W.Frag) (n : Nat) (t : TGs) : TG := fun v σ H Q => ∃ (a : Addr) (xs : List V), v = .ref a ∧ Sq K H a xs ∧ xs.length = n ∧ t xs σ H Q
theorem pg_sq {es : List Expr} {kk : Nat} {pos : Pos} {n : Nat} {t : TGs} (h1 : PG X (.Tuple es kk pos) (gTup X.K n t)) (h2 : PG X (.Tuple es kk pos) (gLst X.K n t)) : PG X (.Tuple es kk pos) (gSq X.K n t) := by
  refine ⟨fun pins s σ H v u Q I r h => ?_⟩
  obtain ⟨a, xs, e, hq, hl, q⟩ := h
  rcases hq with hq | hq
  · exact h2.run pins s σ H v u Q I r ⟨a, xs, e, hq, hl, q⟩
  · exact h1.run pins s σ H v u Q I r ⟨a, xs, e, hq, hl, q⟩
end
end Jd
namespace Jd
/-! ### what follows from tellings -/
section
variable {α : Type} [DecidableEq α]
/-- reached by pairs, what lies between being among M -/
inductive Via (R : List (α × α)) (M : List α) : α → α → Prop
  | one {a b : α} : (a, b) ∈ R → Via R M a b
  | two {a m b : α} : Via R M a m → m ∈ M → Via R M m b → Via R M a b
theorem Via.mono {R : List (α × α)} {M M' : List α} (h : ∀ x, x ∈ M → x ∈ M') {a b : α} (v : Via R M a b) : Via R M' a b := by
  induction v with
  | one q => exact .one q
  | two _ m _ ih1 ih2 => exact .two ih1 (h _ m) ih2
theorem via_step {R : List (α × α)} {M : List α} {m a b : α} : Via R (M ++ [m]) a b ↔ Via R M a b ∨ (Via R M a m ∧ Via R M m b) := by
  constructor
  · intro v
    induction v with
    | one q => exact .inl (.one q)
    | @two a k b _ hk _ ih1 ih2 =>
      have hk' : k ∈ M ∨ k = m := by
        rcases List.mem_append.mp hk with h | h
        · exact .inl h
        · exact .inr (List.mem_singleton.mp h)
      rcases ih1 with l1 | ⟨l1, l2⟩
      · rcases ih2 with r1 | ⟨r1, r2⟩
        · rcases hk' with h | h
          · exact .inl (.two l1 h r1)
          · exact .inr ⟨h ▸ l1, h ▸ r1⟩
        · rcases hk' with h | h
          · exact .inr ⟨.two l1 h r1, r2⟩
          · exact .inr ⟨h ▸ l1, r2⟩
      · rcases ih2 with r1 | ⟨r1, r2⟩
        · rcases hk' with h | h
          · exact .inr ⟨l1, .two l2 h r1⟩
          · exact .inr ⟨l1, h ▸ r1⟩
        · exact .inr ⟨l1, r2⟩
  · have up : ∀ x, x ∈ M → x ∈ M ++ [m] := fun x h => List.mem_append.mpr (.inl h)
    rintro (v | ⟨v1, v2⟩)
    · exact v.mono up
    · exact .two (v1.mono up) (List.mem_append.mpr (.inr (List.mem_singleton.mpr rfl))) (v2.mono up)
/-- the table at the start: what is told at once -/
def tab0 (R : List (α × α)) (a : α) : List α := (R.filter fun p => decide (p.1 = a)).map (·.2)
theorem tab0_in {R : List (α × α)} {a b : α} : b ∈ tab0 R a ↔ (a, b) ∈ R := by
  unfold tab0
  constructor
  · intro h
    obtain ⟨⟨x, y⟩, hp, e⟩ := List.mem_map.mp h
    obtain ⟨h1, h2⟩ := List.mem_filter.mp hp
    have e1 : x = a := of_decide_eq_true h2
    have e2 : y = b := e
    exact e1 ▸ e2 ▸ h1
  · intro h
    exact List.mem_map.mpr ⟨(a, b), List.mem_filter.mpr ⟨h, decide_eq_true rfl⟩, rfl⟩
/-- one pass for one name in the middle -/
def passT (T : α → List α) (m a : α) : List α := if m ∈ T a then T a ++ (T m).filter (fun o => decide (o ∉ T a)) else T a
theorem filter_none {l : List α} : l.filter (fun o => decide (o ∉ l)) = [] := by
  rw [List.filter_eq_nil_iff]
  intro x hx h
  exact of_decide_eq_true h hx
theorem passT_self (T : α → List α) (m : α) : passT T m m = T m := by
  unfold passT
  rw [filter_none, List.append_nil]
  split <;> rfl
theorem passT_in {T : α → List α} {m a b : α} : b ∈ passT T m a ↔ b ∈ T a ∨ (m ∈ T a ∧ b ∈ T m) := by
  unfold passT
  split
  · rename_i h
    constructor
    · intro q
      rcases List.mem_append.mp q with q | q
      · exact .inl q
      · exact .inr ⟨h, (List.mem_filter.mp q).1⟩
    · rintro (q | ⟨_, q⟩)
      · exact List.mem_append.mpr (.inl q)
      · by_cases hb : b ∈ T a
        · exact List.mem_append.mpr (.inl hb)
        · exact List.mem_append.mpr (.inr (List.mem_filter.mpr ⟨q, decide_eq_true hb⟩))
  · rename_i h
    exact ⟨.inl, fun q => q.elim id fun q => absurd q.1 h⟩
theorem passT_len {T : α → List α} {m : α} {n : Nat} (h : ∀ a, (T a).length ≤ n) (a : α) : (passT T m a).length ≤ 2 * n := by
  unfold passT
  split
  · rw [List.length_append]
    have h1 := h a
    have h2 := h m
    have h3 := List.length_filter_le (fun o => decide (o ∉ T a)) (T m)
    omega
  · have h1 := h a
    omega
def closeT (R : List (α × α)) (ns : List α) : α → List α := ns.foldl (fun T m => passT T m) (tab0 R)
theorem close_via (R : List (α × α)) : ∀ (ns M : List α) (T : α → List α), (∀ a b, b ∈ T a ↔ Via R M a b) → ∀ a b, b ∈ (ns.foldl (fun T m => passT T m) T) a ↔ Via R (M ++ ns) a b
  | [], M, T, h, a, b => by rw [List.append_nil]; exact h a b
  | m :: ns, M, T, h, a, b => by
    have q := close_via R ns (M ++ [m]) (passT T m) (fun a b => by rw [passT_in, via_step, h, h, h]) a b
    rw [List.append_assoc] at q
    exact q
theorem via_nil {R : List (α × α)} {a b : α} : Via R [] a b ↔ (a, b) ∈ R := by
  constructor
  · intro v
    cases v with
    | one q => exact q
    | two _ h _ => cases h
  · exact .one
theorem close_in {R : List (α × α)} {ns : List α} {a b : α} : b ∈ closeT R ns a ↔ Via R ns a b := by
  have q := close_via R ns [] (tab0 R) (fun a b => by rw [tab0_in, via_nil]) a b
  rw [List.nil_append] at q
  exact q
theorem tab0_len (R : List (α × α)) (a : α) : (tab0 R a).length ≤ R.length := by
  unfold tab0
  rw [List.length_map]
  exact List.length_filter_le _ _
theorem close_len (R : List (α × α)) : ∀ (ns : List α) (T : α → List α) (n : Nat), (∀ a, (T a).length ≤ n) → ∀ a, ((ns.foldl (fun T m => passT T m) T) a).length ≤ 2 ^ ns.length * n
  | [], T, n, h, a => by simpa using h a
  | m :: ns, T, n, h, a => by
    have q := close_len R ns (passT T m) (2 * n) (passT_len h) a
    rw [List.length_cons, Nat.pow_succ, Nat.mul_assoc]
    exact q
/-- what a name tells, in the order of the names -/
def toldOf (R : List (α × α)) (ns : List α) (a : α) : List α := ns.filter fun b => decide (b ∈ closeT R ns a)
theorem told_in {R : List (α × α)} {ns : List α} {a b : α} : b ∈ toldOf R ns a ↔ b ∈ ns ∧ Via R ns a b := by
  unfold toldOf
  rw [List.mem_filter]
  constructor
  · rintro ⟨h1, h2⟩
    exact ⟨h1, close_in.mp (of_decide_eq_true h2)⟩
  · rintro ⟨h1, h2⟩
    exact ⟨h1, decide_eq_true (close_in.mpr h2)⟩
/-! steps one behind the other -/
inductive Steps (R : List (α × α)) : Nat → α → α → Prop
  | one {a b : α} : (a, b) ∈ R → Steps R 1 a b
  | more {a m b : α} {k : Nat} : (a, m) ∈ R → Steps R k m b → Steps R (k + 1) a b
theorem Steps.app {R : List (α × α)} {k l : Nat} {a m b : α} (h : Steps R k a m) (g : Steps R l m b) : Steps R (k + l) a b := by
  induction h with
  | one q => rw [Nat.add_comm]; exact .more q g
  | more q _ ih =>
    rw [Nat.add_right_comm]
    exact .more q (ih g)
theorem via_steps {R : List (α × α)} {M : List α} {a b : α} (v : Via R M a b) : ∃ k, Steps R k a b := by
  induction v with
  | one q => exact ⟨1, .one q⟩
  | two _ _ _ ih1 ih2 =>
    obtain ⟨k, h⟩ := ih1
    obtain ⟨l, g⟩ := ih2
    exact ⟨k + l, h.app g⟩
theorem steps_via {R : List (α × α)} {M : List α} (hM : ∀ p ∈ R, p.2 ∈ M) {k : Nat} {a b : α} (h : Steps R k a b) : Via R M a b := by
  induction h with
  | one q => exact .one q
  | more q _ ih => exact .two (.one q) (hM _ q) ih
theorem steps_rank {R : List (α × α)} {rk : α → Nat} (hr : ∀ p ∈ R, rk p.1 < rk p.2) {k : Nat} {a b : α} (h : Steps R k a b) : rk a + k ≤ rk b := by
  induction h with
  | one q => exact hr _ q
  | more q _ ih =>
    have := hr _ q
    dsimp only at this
    omega
theorem via_pos {R : List (α × α)} {k : Nat} {a b : α} (h : Steps R k a b) : 1 ≤ k := by
  cases h <;> omega
/-- without a ring nobody tells itself -/
theorem no_ring {R : List (α × α)} {M : List α} {rk : α → Nat} (hr : ∀ p ∈ R, rk p.1 < rk p.2) (a : α) : ¬ Via R M a a := fun v => by
  obtain ⟨k, h⟩ := via_steps v
  have h1 := steps_rank hr h
  have h2 := via_pos h
  omega
theorem via_any {R : List (α × α)} {M M' : List α} (hM : ∀ p ∈ R, p.2 ∈ M') {a b : α} (v : Via R M a b) : Via R M' a b := by
  obtain ⟨k, h⟩ := via_steps v
  exact steps_via hM h
/-! the law's own table -/
def updT (T : α → List α) (o : α) (l : List α) : α → List α := fun a => if a = o then l else T a
/-- one far name for one own -/
def farT (o : α) (T : α → List α) (far : α) : α → List α := updT T o (T o ++ (T far).filter fun b => decide (b ∉ T o))
def ownT (T : α → List α) (o : α) : α → List α := (T o).foldl (farT o) T
def roundT (ns : List α) (T : α → List α) : α → List α := ns.foldl ownT T
def lawT (R : List (α × α)) (ns : List α) (k : Nat) : α → List α := (List.range k).foldl (fun T _ => roundT ns T) (tab0 R)
def lawTold (R : List (α × α)) (ns : List α) (a : α) : List α := ns.filter fun b => decide (b ∈ lawT R ns ns.length a)
theorem farT_ne {o a : α} {T : α → List α} {far : α} (h : a ≠ o) : farT o T far a = T a := if_neg h
theorem farT_in {o : α} {T : α → List α} {far b : α} : b ∈ farT o T far o ↔ b ∈ T o ∨ b ∈ T far := by
  show b ∈ (if o = o then _ else _) ↔ _
  rw [if_pos rfl, List.mem_append]
  constructor
  · rintro (h | h)
    · exact .inl h
    · exact .inr (List.mem_filter.mp h).1
  · rintro (h | h)
    · exact .inl h
    · by_cases q : b ∈ T o
      · exact .inl q
      · exact .inr (List.mem_filter.mpr ⟨h, decide_eq_true q⟩)
theorem farT_up {o : α} {T : α → List α} {far a b : α} (h : b ∈ T a) : b ∈ farT o T far a := by
  by_cases e : a = o
  · subst e
    exact farT_in.mpr (.inl h)
  · rw [farT_ne e]
    exact h
theorem fars_up {o : α} : ∀ (l : List α) {T : α → List α} {a b : α}, b ∈ T a → b ∈ (l.foldl (farT o) T) a
  | [], _, _, _, h => h
  | f :: l, T, a, b, h => fars_up l (farT_up h)
theorem fars_ne {o a : α} (h : a ≠ o) : ∀ (l : List α) {T : α → List α}, (l.foldl (farT o) T) a = T a
  | [], _ => rfl
  | f :: l, T => by
    show (l.foldl (farT o) (farT o T f)) a = T a
    rw [fars_ne h l, farT_ne h]
theorem fars_all {o : α} : ∀ (l : List α) {T : α → List α} {far b : α}, far ∈ l → b ∈ T far → b ∈ (l.foldl (farT o) T) o
  | [], _, _, _, h, _ => by cases h
  | f :: l, T, far, b, h, hb => by
    show b ∈ (l.foldl (farT o) (farT o T f)) o
    rcases List.mem_cons.mp h with e | h
    · subst e
      exact fars_up l (farT_in.mpr (.inr hb))
    · exact fars_all l h (farT_up hb)
theorem ownT_up {o a b : α} {T : α → List α} (h : b ∈ T a) : b ∈ ownT T o a := fars_up _ h
theorem round_up : ∀ (ns : List α) {T : α → List α} {a b : α}, b ∈ T a → b ∈ roundT ns T a
  | [], _, _, _, h => h
  | o :: ns, T, a, b, h => round_up ns (ownT_up h)
theorem round_all : ∀ (ns : List α) {T : α → List α} {a m b : α}, a ∈ ns → m ∈ T a → b ∈ T m → b ∈ roundT ns T a
  | [], _, _, _, _, h, _, _ => by cases h
  | o :: ns, T, a, m, b, h, hm, hb => by
    show b ∈ roundT ns (ownT T o) a
    rcases List.mem_cons.mp h with e | h
    · subst e
      exact round_up ns (fars_all _ hm hb)
    · exact round_all ns h (ownT_up hm) (ownT_up hb)
/-- what the table holds follows -/
def Sound (R : List (α × α)) (M : List α) (T : α → List α) : Prop := ∀ a b, b ∈ T a → Via R M a b
theorem far_sound {R : List (α × α)} {M : List α} {T : α → List α} {o far : α} (s : Sound R M T) (hv : Via R M o far) (hf : far ∈ M) : Sound R M (farT o T far) := fun a b h => by
  by_cases e : a = o
  · subst e
    rcases farT_in.mp h with h | h
    · exact s _ _ h
    · exact .two hv hf (s _ _ h)
  · rw [farT_ne e] at h
    exact s _ _ h
theorem via_snd {R : List (α × α)} {M : List α} (hM : ∀ p ∈ R, p.2 ∈ M) {a b : α} (v : Via R M a b) : b ∈ M := by
  induction v with
  | one q => exact hM _ q
  | two _ _ _ _ ih => exact ih
theorem fars_sound {R : List (α × α)} {M : List α} (hM : ∀ p ∈ R, p.2 ∈ M) {o : α} : ∀ (l : List α) {T : α → List α}, Sound R M T → (∀ f ∈ l, Via R M o f) → Sound R M (l.foldl (farT o) T)
  | [], _, s, _ => s
  | f :: l, T, s, h => fars_sound hM l (far_sound s (h f List.mem_cons_self) (via_snd hM (h f List.mem_cons_self))) fun g hg => h g (List.mem_cons_of_mem _ hg)
theorem own_sound {R : List (α × α)} {M : List α} (hM : ∀ p ∈ R, p.2 ∈ M) {T : α → List α} {o : α} (s : Sound R M T) : Sound R M (ownT T o) := fars_sound hM _ s fun f h => s _ _ h
theorem round_sound {R : List (α × α)} {M : List α} (hM : ∀ p ∈ R, p.2 ∈ M) : ∀ (ns : List α) {T : α → List α}, Sound R M T → Sound R M (roundT ns T)
  | [], _, s => s
  | o :: ns, T, s => round_sound hM ns (own_sound hM s)
theorem law_sound {R : List (α × α)} {ns : List α} (hM : ∀ p ∈ R, p.2 ∈ ns) : ∀ k, Sound R ns (lawT R ns k)
  | 0 => fun a b h => .one (tab0_in.mp h)
  | k + 1 => by
    unfold lawT
    rw [List.range_succ, List.foldl_append]
    exact round_sound hM ns (law_sound hM k)
theorem law_all {R : List (α × α)} {ns : List α} (h1 : ∀ p ∈ R, p.1 ∈ ns) : ∀ (k l : Nat) (a b : α), l ≤ k + 1 → Steps R l a b → b ∈ lawT R ns k a
  | 0, l, a, b, hl, h => by
    cases h with
    | one q => exact tab0_in.mpr q
    | more q g =>
      have := via_pos g
      omega
  | k + 1, l, a, b, hl, h => by
    have e : lawT R ns (k + 1) = roundT ns (lawT R ns k) := by
      unfold lawT
      rw [List.range_succ, List.foldl_append]
      rfl
    rw [e]
    cases h with
    | one q => exact round_up ns (law_all h1 k 1 a b (by omega) (.one q))
    | @more a m b l' q g => exact round_all ns (h1 _ q) (law_all h1 k 1 a m (by omega) (.one q)) (law_all h1 k l' m b (by omega) g)
/-- the law's table and the program's tell the same -/
theorem law_told {R : List (α × α)} {ns : List α} {rk : α → Nat} (h1 : ∀ p ∈ R, p.1 ∈ ns) (h2 : ∀ p ∈ R, p.2 ∈ ns) (hr : ∀ p ∈ R, rk p.1 < rk p.2) (hb : ∀ p ∈ R, rk p.2 ≤ ns.length) (a : α) : lawTold R ns a = toldOf R ns a := by
  unfold lawTold toldOf
  refine List.filter_congr fun b _ => decide_eq_decide.mpr ?_
  rw [close_in]
  constructor
  · exact law_sound h2 ns.length a b
  · intro v
    obtain ⟨k, g⟩ := via_steps v
    refine law_all h1 ns.length k a b ?_ g
    have q := steps_rank hr g
    have : rk b ≤ ns.length := by
      have key : ∀ {k : Nat} {a b : α}, Steps R k a b → rk b ≤ ns.length := by
        intro k a b g
        induction g with
        | one q => exact hb _ q
        | more _ _ ih => exact ih
      exact key g
    omega
/-- lists without repetition in the law's table -/
def Fine (ns : List α) (T : α → List α) : Prop := ∀ a, (T a).Nodup ∧ ∀ b ∈ T a, b ∈ ns
theorem fine_far {ns : List α} {T : α → List α} {o far : α} (f : Fine ns T) : Fine ns (farT o T far) := fun a => by
  by_cases e : a = o
  · subst e
    refine ⟨?_, fun b h => ?_⟩
    · show (if a = a then _ else _ : List α).Nodup
      rw [if_pos rfl]
      refine List.nodup_append.mpr ⟨(f a).1, ((f far).1).filter _, fun x hx y hy e => ?_⟩
      subst e
      exact of_decide_eq_true (List.mem_filter.mp hy).2 hx
    · rcases farT_in.mp h with h | h
      · exact (f _).2 b h
      · exact (f _).2 b h
  · rw [farT_ne e]
    exact f a
theorem sub_len : ∀ (l m : List α), l.Nodup → (∀ x ∈ l, x ∈ m) → l.length ≤ m.length
  | [], _, _, _ => Nat.zero_le _
  | x :: l, m, nd, h => by
    obtain ⟨n1, n2⟩ := List.nodup_cons.mp nd
    have hx := h x List.mem_cons_self
    have q := sub_len l (m.erase x) n2 fun y hy => (List.mem_erase_of_ne fun (e : y = x) => n1 (e ▸ hy)).mpr (h y (List.mem_cons_of_mem _ hy))
    rw [List.length_erase_of_mem hx] at q
    have : 0 < m.length := List.length_pos_of_mem hx
    rw [List.length_cons]
    omega
theorem fine_len {ns : List α} {T : α → List α} (f : Fine ns T) (a : α) : (T a).length ≤ ns.length := sub_len _ _ (f a).1 (f a).2
theorem fine_tab0 {R : List (α × α)} {ns : List α} (nd : R.Nodup) (h2 : ∀ p ∈ R, p.2 ∈ ns) : Fine ns (tab0 R) := fun a => by
  refine ⟨?_, fun b h => h2 _ (tab0_in.mp h)⟩
  unfold tab0
  induction R with
  | nil => exact List.nodup_nil
  | cons p R ih =>
    obtain ⟨n1, n2⟩ := List.nodup_cons.mp nd
    have q := ih n2 fun p hp => h2 p (List.mem_cons_of_mem _ hp)
    rw [List.filter_cons]
    split
    · rename_i hp
      rw [List.map_cons]
      refine List.nodup_cons.mpr ⟨fun hm => ?_, q⟩
      obtain ⟨p', h1, h3⟩ := List.mem_map.mp hm
      obtain ⟨h4, h5⟩ := List.mem_filter.mp h1
      have e1 : p.1 = a := of_decide_eq_true hp
      have e2 : p'.1 = a := of_decide_eq_true h5
      have e3 : p' = p := Prod.ext (e2.trans e1.symm) h3
      exact n1 (e3 ▸ h4)
    · exact q
theorem told_len (R : List (α × α)) (ns : List α) (a : α) : (toldOf R ns a).length ≤ ns.length := List.length_filter_le _ _
end
end Jd
namespace Jd
open PySem PySem.Spec PyProof.Rows L2
/-! ### tables: dicts by names -/
theorem fl_str {xs : List Str} : (xs.map V.str).all flatV = true := by
  rw [List.all_eq_true]
  intro x hx
  obtain ⟨z, _, rfl⟩ := List.mem_map.mp hx
  rfl
theorem inV_str (z : Str) (xs : List Str) : inV (.str z) (xs.map V.str) = decide (z ∈ xs) := by
  unfold inV
  induction xs with
  | nil => rfl
  | cons x xs ih =>
    rw [List.map_cons, List.any_cons, ih]
    show ((x == z) || _) = _
    by_cases h : x = z
    · subst h
      simp
    · have h' : ¬ z = x := fun q => h q.symm
      have hb : (x == z) = false := by
        cases e : (x == z) with
        | false => rfl
        | true => exact absurd (eq_of_beq e) h
      rw [hb, Bool.false_or]
      exact decide_eq_decide.mpr (by simp [h'])
theorem fm_bind {α : Type} {l : List α} (h : α → Option V) : (List.range l.length).filterMap (fun i => (l[i]?).bind h) = l.filterMap h := by
  have key : ∀ k, k ≤ l.length → (List.range k).filterMap (fun i => (l[i]?).bind h) = (l.take k).filterMap h := by
    intro k
    induction k with
    | zero => intro _; rfl
    | succ k ih =>
      intro hk
      have hl : k < l.length := hk
      have e : l[k]? = some l[k] := List.getElem?_eq_getElem hl
      rw [fm_step, ih (Nat.le_of_lt hl), e, List.take_add_one, e, List.filterMap_append]
      congr 1
      show (match h l[k] with
        | some y => [y]
        | none => []) = List.filterMap h [l[k]]
      cases q : h l[k] with
      | none => rw [List.filterMap_cons_none q]; rfl
      | some y => rw [List.filterMap_cons_some q]; rfl
  have q := key l.length (Nat.le_refl _)
  rw [List.take_length] at q
  exact q
theorem fm_filter {l : List Str} {p : Str → Bool} : l.filterMap (fun o => if p o = true then some (V.str o) else none) = (l.filter p).map V.str := by
  induction l with
  | nil => rfl
  | cons x l ih =>
    by_cases h : p x = true
    · rw [List.filterMap_cons_some (by rw [if_pos h]), List.filter_cons_of_pos h, List.map_cons, ih]
    · rw [List.filterMap_cons_none (by rw [if_neg h]), List.filter_cons_of_neg h, ih]
theorem fm_tab0 {R : List (Str × Str)} {n : Str} : R.filterMap (fun pr => if pr.1 = n then some (V.str pr.2) else none) = (tab0 R n).map V.str := by
  unfold tab0
  induction R with
  | nil => rfl
  | cons x l ih =>
    by_cases h : x.1 = n
    · rw [List.filterMap_cons_some (by rw [if_pos h]), List.filter_cons_of_pos (by rw [decide_eq_true h]), List.map_cons, List.map_cons, ih]
    · rw [List.filterMap_cons_none (by rw [if_neg h]), List.filter_cons_of_neg (by rw [decide_eq_false h]; decide), ih]
def kvT (ns : List Str) (A : Str → Addr) : List (Key × V) := ns.map fun n => (Sum.inr n, V.ref (A n))
theorem kvT_len (ns : List Str) (A : Str → Addr) : (kvT ns A).length = ns.length := List.length_map ..
theorem valV_kvT {n : Str} {A : Str → Addr} : ∀ {ns : List Str}, n ∈ ns → valV (kvT ns A) (Sum.inr n) = some (.ref (A n))
  | [], h => by cases h
  | m :: ns, h => by
    show valV ((Sum.inr m, V.ref (A m)) :: kvT ns A) (Sum.inr n) = _
    by_cases e : m = n
    · subst e
      exact valV_pos rfl
    · rw [valV_neg (fun q => e (Sum.inr.inj q))]
      exact valV_kvT ((List.mem_cons.mp h).resolve_left fun q => e q.symm)
theorem valV_kvN {n : Str} {A : Str → Addr} : ∀ {ns : List Str}, n ∉ ns → valV (kvT ns A) (Sum.inr n) = none
  | [], h => rfl
  | m :: ns, h => by
    show valV ((Sum.inr m, V.ref (A m)) :: kvT ns A) (Sum.inr n) = _
    have e : m ≠ n := fun q => h (q ▸ List.mem_cons_self)
    rw [valV_neg (fun q => e (Sum.inr.inj q))]
    exact valV_kvN fun q => h (List.mem_cons_of_mem _ q)
/-- A changed at n -/
def atA (A : Str → Addr) (n : Str) (p : Addr) : Str → Addr := fun m => if m = n then p else A m
theorem atA_at {A : Str → Addr} {n : Str} {p : Addr} : atA A n p n = p := if_pos rfl
theorem atA_ne {A : Str → Addr} {n m : Str} {p : Addr} (h : m ≠ n) : atA A n p m = A m := if_neg h
theorem putK_old {n : Str} {A : Str → Addr} {p : Addr} {ns : List Str} (h : n ∈ ns) : putK (kvT ns A) (Sum.inr n) (.ref p) = kvT ns (atA A n p) := by
  unfold putK
  have e : ((kvT ns A).any fun kv => decide (kv.1 = Sum.inr n)) = true := by
    rw [List.any_eq_true]
    exact ⟨(Sum.inr n, V.ref (A n)), List.mem_map.mpr ⟨n, h, rfl⟩, decide_eq_true rfl⟩
  rw [if_pos e]
  unfold kvT
  rw [List.map_map]
  refine List.map_congr_left fun m _ => ?_
  show (if (Sum.inr m : Key) = Sum.inr n then ((Sum.inr m : Key), V.ref p) else (Sum.inr m, V.ref (A m))) = (Sum.inr m, V.ref (atA A n p m))
  by_cases q : m = n
  · subst q
    rw [if_pos rfl, atA_at]
  · rw [if_neg (fun z => q (Sum.inr.inj z)), atA_ne q]
theorem putK_new {n : Str} {A : Str → Addr} {p : Addr} {ns : List Str} (h : n ∉ ns) : putK (kvT ns A) (Sum.inr n) (.ref p) = kvT (ns ++ [n]) (atA A n p) := by
  unfold putK
  have e : ((kvT ns A).any fun kv => decide (kv.1 = Sum.inr n)) = false := by
    rw [List.any_eq_false]
    intro kv hk q
    obtain ⟨m, hm, rfl⟩ := List.mem_map.mp hk
    exact h (Sum.inr.inj (of_decide_eq_true q) ▸ hm)
  rw [e, if_neg Bool.false_ne_true]
  unfold kvT
  rw [List.map_append]
  congr 1
  · refine List.map_congr_left fun m hm => ?_
    rw [atA_ne (fun (q : m = n) => h (q ▸ hm))]
  · show [((Sum.inr n : Key), V.ref p)] = [((Sum.inr n : Key), V.ref (atA A n p n))]
    rw [atA_at]
/-- a dict of lists -/
structure TabA (H : Hp) (d : Addr) (ns : List Str) (A : Str → Addr) (T : Str → List Str) : Prop where
  at_ : H d = some (.dK (kvT ns A))
  lst : ∀ n ∈ ns, H (A n) = some (.lst ((T n).map V.str))
theorem TabA.same {H H' : Hp} {d : Addr} {ns : List Str} {A : Str → Addr} {T : Str → List Str} (s : Same H H') (t : TabA H d ns A T) : TabA H' d ns A T := ⟨s _ _ t.at_, fun n h => s _ _ (t.lst n h)⟩
theorem TabA.congr {H : Hp} {d : Addr} {ns : List Str} {A : Str → Addr} {T T' : Str → List Str} (t : TabA H d ns A T) (e : ∀ n ∈ ns, T n = T' n) : TabA H d ns A T' := ⟨t.at_, fun n h => by rw [← e n h]; exact t.lst n h⟩
theorem TabA.get {H : Hp} {d : Addr} {ns : List Str} {A : Str → Addr} {T : Str → List Str} (t : TabA H d ns A T) {n : Str} (h : n ∈ ns) : DGet H d (.str n) (some (.ref (A n))) := by
  have q := DGet.k (k := Sum.inr n) t.at_
  rw [valV_kvT h] at q
  exact q
theorem TabA.put_old {H : Hp} {d D : Addr} {ns : List Str} {A : Str → Addr} {T : Str → List Str} (t : TabA H d ns A T) {n : Str} {l : List Str} (h : n ∈ ns) (hD : H D = some (.lst (l.map V.str))) :
    TabA (upd H d (.dK (putK (kvT ns A) (Sum.inr n) (.ref D)))) d ns (atA A n D) (fun m => if m = n then l else T m) := by
  refine ⟨by rw [upd_same, putK_old h], fun m hm => ?_⟩
  by_cases e : m = n
  · subst e
    rw [atA_at, if_pos rfl, upd_ne (ne_of hD t.at_ (by intro z; cases z))]
    exact hD
  · rw [atA_ne e, if_neg e, upd_ne (ne_of (t.lst m hm) t.at_ (by intro z; cases z))]
    exact t.lst m hm
theorem TabA.put_new {H : Hp} {d D : Addr} {ns : List Str} {A : Str → Addr} {T : Str → List Str} (t : TabA H d ns A T) {n : Str} (h : n ∉ ns) (hD : H D = some (.lst ((T n).map V.str))) :
    TabA (upd H d (.dK (putK (kvT ns A) (Sum.inr n) (.ref D)))) d (ns ++ [n]) (atA A n D) T := by
  refine ⟨by rw [upd_same, putK_new h], fun m hm => ?_⟩
  by_cases e : m = n
  · subst e
    rw [atA_at, upd_ne (ne_of hD t.at_ (by intro z; cases z))]
    exact hD
  · have hm' : m ∈ ns := (List.mem_append.mp hm).resolve_right fun q => e (List.mem_singleton.mp q)
    rw [atA_ne e, upd_ne (ne_of (t.lst m hm') t.at_ (by intro z; cases z))]
    exact t.lst m hm'
/-- the i-th name is none of those ahead -/
theorem nd_take {ns : List Str} (nd : ns.Nodup) {i : Nat} {n : Str} (h : ns[i]? = some n) : n ∉ ns.take i := fun q => by
  obtain ⟨j, hj, e⟩ := List.mem_iff_getElem.mp q
  obtain ⟨hi, e2⟩ := List.getElem?_eq_some_iff.mp h
  rw [List.length_take] at hj
  rw [List.getElem_take] at e
  have := (List.getElem_inj nd).mp (e.trans e2.symm)
  omega
theorem take_next {ns : List Str} {i : Nat} {n : Str} (h : ns[i]? = some n) : ns.take (i + 1) = ns.take i ++ [n] := by
  rw [List.take_add_one, h]
  rfl
theorem at_str {ns : List Str} {i : Nat} {x : V} (h : (ns.map V.str)[i]? = some x) : ∃ n, ns[i]? = some n ∧ x = .str n := by
  rw [List.getElem?_map] at h
  cases q : ns[i]? with
  | none => rw [q] at h; cases h
  | some n => rw [q] at h; exact ⟨n, rfl, (Option.some.inj h).symm⟩
theorem at_ref {ps : List Addr} {i : Nat} {x : V} (h : (ps.map V.ref)[i]? = some x) : ∃ p, ps[i]? = some p ∧ x = .ref p := by
  rw [List.getElem?_map] at h
  cases q : ps[i]? with
  | none => rw [q] at h; cases h
  | some n => rw [q] at h; exact ⟨n, rfl, (Option.some.inj h).symm⟩
/-- tellings as they are handed in -/
def Tells (K : PySem.W.Frag) (H : Hp) (te : Addr) (R : List (Str × Str)) : Prop := ∃ ps : List Addr, Sq K H te (ps.map V.ref) ∧ ps.length = R.length ∧
  ∀ (i : Nat) (p : Addr), ps[i]? = some p → ∃ pr, R[i]? = some pr ∧ Sq K H p [.str pr.1, .str pr.2]
theorem Tells.same {K : PySem.W.Frag} {H H' : Hp} {te : Addr} {R : List (Str × Str)} (s : Same H H') (t : Tells K H te R) : Tells K H' te R := by
  obtain ⟨ps, h1, h2, h3⟩ := t
  exact ⟨ps, h1.same s, h2, fun i p hp => let ⟨pr, e, q⟩ := h3 i p hp; ⟨pr, e, q.same s⟩⟩
theorem Tells.keep {K : PySem.W.Frag} {u : Addr} {H H' : Hp} {te : Addr} {R : List (Str × Str)} {C dx : Addr} {fs : List (Str × V)} (hu : H u = some (.ins C dx fs)) (k : ∀ b o, b ≠ u → H b = some o → H' b = some o) (t : Tells K H te R) : Tells K H' te R := by
  obtain ⟨ps, h1, h2, h3⟩ := t
  exact ⟨ps, h1.keep hu k, h2, fun i p hp => let ⟨pr, e, q⟩ := h3 i p hp; ⟨pr, e, q.keep hu k⟩⟩
theorem Tells.nil {K : PySem.W.Frag} {H : Hp} {te : Addr} (h : Sq K H te []) : Tells K H te [] := ⟨[], h, rfl, fun i p hp => by cases hp⟩
end Jd
namespace Jd
open PySem PySem.Spec PyProof.Rows L2
/-! ### _all_told -/
theorem Same_lay2 {H H' : Hp} {a : Addr} {o : HO} (s : Same H H') (n : H' a = none) : Same H (upd H' a o) := fun b u q => by
  rw [upd_ne (ne_of_none (s b u q) n)]
  exact s b u q
def retScope : List Stmt → Scope
  | [.Return (some (.DictComp _ _ _ sc _)) _] => sc
  | _ :: r => retScope r
  | [] => { kind := .function, names := [], isGenerator := false, isCoroutine := false }
def retVal : List Stmt → Expr
  | [.Return (some (.DictComp _ v _ _ _)) _] => v
  | _ :: r => retVal r
  | [] => .Name "" ⟨0, 0, 0, 0⟩
def argScope : Expr → Scope
  | .Call _ [.ListComp _ _ sc _] _ _ => sc
  | _ => { kind := .function, names := [], isGenerator := false, isCoroutine := false }
abbrev N7 : List Str := ["names", "tells", "told", "name", "teller", "other", "middle"]
/-- tuple(a sequence) -/
def rTupOf (K : PySem.W.Frag) : List V → Hp → VK → Prop := fun xs H Q => ∃ p ys, xs = [V.ref p] ∧ ((SqL K H p ys ∧ ∀ l, H l = none → Q (.ref l) (upd H l (.tup ys))) ∨ (SqT K H p ys ∧ Q (.ref p) H))
/-- the row of one name -/
def tRow (K : PySem.W.Frag) : TE := tCB (rTupOf K) (tCons (tLc (iTup K (tVar 0)) (gName 5) (tTest (tOp (rIn K false) (tVar 5) (tDGet (tVar 2) (tVar 3)))) (tVar 5) [5]) tNil)
def spAT (K : PySem.W.Frag) : Sp := fun vs H Q _ => ∃ (t te : Addr) (ns : List Str) (R : List (Str × Str)), vs = [.ref t, .ref te] ∧ SqT K H t (ns.map V.str) ∧ ns.Nodup ∧ ns.length ≤ 7 ∧ Tells K H te R ∧ R.length ≤ 64 ∧
  ∀ H' d A, Same H H' → H' d = some (.dK (kvT ns A)) → (∀ n ∈ ns, H' (A n) = some (.tup ((toldOf R ns n).map V.str))) → Q (.ref d) H'
def stT (R : List (Str × Str)) (M : List Str) : Str → List Str := M.foldl (fun T m => passT T m) (tab0 R)
theorem stT_len {R : List (Str × Str)} {M : List Str} (h1 : M.length ≤ 7) (h2 : R.length ≤ 64) (a : Str) : (stT R M a).length ≤ 8192 := by
  have q := close_len R M (tab0 R) R.length (tab0_len R) a
  have p : 2 ^ M.length ≤ 2 ^ 7 := Nat.pow_le_pow_right (by decide) h1
  have q2 : 2 ^ M.length * R.length ≤ 2 ^ 7 * 64 := Nat.mul_le_mul p h2
  exact Nat.le_trans q q2
theorem stT_next {R : List (Str × Str)} {M : List Str} {m : Str} : stT R (M ++ [m]) = passT (stT R M) m := by
  unfold stT
  rw [List.foldl_append]
  rfl
section
variable {P : Program} {w : World} {K : PySem.W.Frag} {mg : Str → Option Value} {base : Heap}
theorem sc_at : FnScope ["names", "tells", "told", "name", "teller", "other", "middle"] ["names", "tells"] (defScope s__all_told) := ⟨rfl, rfl, rfl, by decide +kernel, rfl, by decide +kernel, by decide +kernel⟩
theorem ok_all_told (B : Bk K mg) : Df P w K mg base CX0 1 "_all_told" ["names", "tells"] (spAT K) := by
  obtain ⟨fd, F⟩ := B.F_all_told
  refine ⟨⟨fd, ?_, F.binds fun _ _ _ _ _ _ us hl => match us, hl with | [_, _], _ => rfl⟩, B.g_all_told, F.kp⟩
  refine F.ok sc_at (fun vs H Q E h => ?_) (fun cdv A outer s H vs Q E hr h => ?_)
  · obtain ⟨_, _, _, _, rfl, _⟩ := h
    rfl
  · obtain ⟨t, te, ns, R, rfl, ht, nd, h7, hte, h64, k⟩ := h
    have hu := hu_of hr
    have inner := fun (s' : Shared) (H' : Hp) (C : Addr) (cl : List (Str × Addr)) (fp : List Addr) => (show PE ((cxOf CX0 P w K mg base N7 "_all_told" (defScope s__all_told) (He.ga K "_all_told") cdv A outer s H E).nox.blk s' H' (retScope (defBody s__all_told)) (compEnvC (retScope (defBody s__all_told)) cl C (cxOf CX0 P w K mg base N7 "_all_told" (defScope s__all_told) (He.ga K "_all_told") cdv A outer s H E).nox.env) fp) (retVal (defBody s__all_told)) (tRow K) from
      pe_callTy call_tuple_of (by rfl) B.b_tuple (by decide +kernel) (pa_cons (pe_lc (own := [("other", 5)]) (g := gName 5) (tt := tTest (tOp (rIn K false) (tVar 5) (tDGet (tVar 2) (tVar 3)))) rfl sc_at.nd (pi_tup (pv 0)) (blkOk_by (N := N7) (sc := relS (retScope (defBody s__all_told)) (defScope s__all_told)) (scope := argScope (retVal (defBody s__all_told))) (own := [("other", 5)]) (by decide +kernel)) (fun _ _ _ _ _ => pg_name (i := 5) sc_at.nd rfl (Or.inl rfl)) (fun _ _ _ _ _ => pts_one (pt_cmpR op_in_seq (pv 5) (pe_dget hu (pv 2) (pv 3) (fun _ _ => rfl)) (by rfl))) (fun _ _ _ _ _ => pv 5)) pa_nil))
    refine ⟨_, pss_cons (ps_set (i := 2) sc_at.nd rfl (Or.inr rfl) pe_dnewK)
      (pss_cons (ps_for PassesOwn.never rfl (pi_tup (pv 0)) (pg_name (i := 3) sc_at.nd rfl (Or.inr rfl))
        (pss_one (ps_dput hu (pv 2) (pv 3) (pe_lc (own := [("teller", 4), ("other", 5)]) (g := gSq K 2 (gCons (gName 4) (gCons (gName 5) gNil))) (tt := tTest (tOp rEq (tVar 4) (tVar 3))) rfl sc_at.nd (pi_seq (pv 1)) (blkOk_by (N := ["names", "tells", "told", "name", "teller", "other", "middle"]) (sc := defScope s__all_told) (by decide +kernel))
          (fun _ _ _ _ _ => pg_sq (pg_tup rfl (pgs_cons (pg_name (i := 4) sc_at.nd rfl (Or.inl rfl)) (pgs_cons (pg_name (i := 5) sc_at.nd rfl (Or.inl rfl)) pgs_nil))) (pg_lst rfl (pgs_cons (pg_name (i := 4) sc_at.nd rfl (Or.inl rfl)) (pgs_cons (pg_name (i := 5) sc_at.nd rfl (Or.inl rfl)) pgs_nil)))) (fun _ _ _ _ _ => pts_one (pt_cmpR op_eq (pv 4) (pv 3) (nomark _))) (fun _ _ _ _ _ => pv 5)) rfl)))
      (pss_cons (ps_for PassesOwn.never rfl (pi_tup (pv 0)) (pg_name (i := 6) sc_at.nd rfl (Or.inl rfl))
        (pss_one (ps_for PassesOwn.never rfl (pi_tup (pv 0)) (pg_name (i := 3) sc_at.nd rfl (Or.inr rfl))
          (pss_one (ps_if (pt_cmpR op_in_seq (pv 6) (pe_dget hu (pv 2) (pv 3) (fun _ _ => rfl)) (by rfl))
            (pss_one (ps_dput hu (pv 2) (pv 3) (pe_op op_cat (pe_dget hu (pv 2) (pv 3) (fun _ _ => rfl))
              (pe_lc (own := [("other", 5)]) (g := gName 5) (tt := tTest (tOp (rIn K true) (tVar 5) (tDGet (tVar 2) (tVar 3)))) rfl sc_at.nd (pi_list (pe_dget hu (pv 2) (pv 6) (fun _ _ => rfl))) (blkOk_by (N := ["names", "tells", "told", "name", "teller", "other", "middle"]) (sc := defScope s__all_told) (by decide +kernel))
                (fun _ _ _ _ _ => pg_name (i := 5) sc_at.nd rfl (Or.inl rfl)) (fun _ _ _ _ _ => pts_one (pt_cmpR op_notIn_seq (pv 5) (pe_dget hu (pv 2) (pv 3) (fun _ _ => rfl)) (by rfl))) (fun _ _ _ _ _ => pv 5))) rfl)) pss_nil)))))
      (pss_one (ps_ret (pe_dc (own := [("name", 3)]) (g := gName 3) (tt := tYes) rfl sc_at.nd (pi_tup (pv 0)) (blkOk_by (N := ["names", "tells", "told", "name", "teller", "other", "middle"]) (sc := defScope s__all_told) (by decide +kernel))
          (fun _ _ _ _ _ => pg_name (i := 3) sc_at.nd rfl (Or.inr rfl)) (fun _ _ _ _ _ => pts_nil) (fun _ _ _ _ _ => pv 3)
          inner))))), ?_⟩
    refine fun d hd => ?_
    have s0 : Same H (upd H d (.dK [])) := Same_new hd
    obtain ⟨ps, hps, pl, hpp⟩ := hte
    refine ⟨_, rfl, t, rfl, ⟨_, Same_seqT s0 ht⟩, ?_⟩
    refine for_it (walk_tup (xs := ns.map V.str)) (fun i σ H' => ∃ (v3 v4 v5 v6 : Option V) (A : Str → Addr), σ = [some (.ref t), some (.ref te), some (.ref d), v3, v4, v5, v6] ∧ Same H H' ∧ TabA H' d (ns.take i) A (tab0 R))
      ⟨Option.none, Option.none, Option.none, Option.none, fun _ => 0, rfl, s0, upd_same, fun n h => by cases h⟩ (fun i σ H' _ ⟨_, _, _, _, _, _, s1, _⟩ => Same_seqT s1 ht)
      (fun i x σ H1 H2 hi ⟨v3, v4, v5, v6, A, e, s1, ta⟩ y => ?_) (fun σ H1 ⟨v3, v4, v5, v6, A, e, s1, ta⟩ => ?_)
    · obtain ⟨rfl, hx⟩ := y
      subst e
      obtain ⟨n, hn, rfl⟩ := at_str hx
      refine ⟨_, rfl, te, _, rfl, hps.same s1, fun J G wk hG D hD => ?_⟩
      have hl : (ps.map V.ref).length ≤ sizeLine := by
        rw [List.length_map, pl]
        exact Nat.le_trans h64 (by decide)
      refine lc_fm wk (fun i => (R[i]?).bind fun pr => if pr.1 = n then some (V.str pr.2) else Option.none) hD hl (fun H' s' => hG H' s') (fun j v H3 H4 Kt Kf hj s3 y kt kf => ?_) (fun H3 s3 hD3 => ?_)
      · obtain ⟨rfl, hv⟩ := y
        obtain ⟨p, hp, rfl⟩ := at_ref hv
        obtain ⟨pr, hpr, hq⟩ := hpp j p hp
        refine ⟨p, _, rfl, hq.same (s1.trans s3), rfl, _, _, rfl, _, _, rfl, rfl, rfl, _, rfl, _, rfl, rfl, _, rfl, two (fun h1 => ?_) (fun h1 => ?_)⟩
        · have e1 : pr.1 = n := V.str.inj (of_decide_eq_true h1)
          exact ⟨_, rfl, kt _ _ (by rw [hpr]; show (if pr.1 = n then _ else _) = _; rw [if_pos e1]) (Same.refl _)⟩
        · have e1 : ¬ pr.1 = n := fun q => of_decide_eq_false h1 (by rw [q])
          exact kf _ (by rw [hpr]; show (if pr.1 = n then _ else _) = _; rw [if_neg e1]) (Same.refl _)
      · have eD : (List.range (ps.map V.ref).length).filterMap (fun i => (R[i]?).bind fun pr => if pr.1 = n then some (V.str pr.2) else Option.none) = (tab0 R n).map V.str := by
          rw [List.length_map, pl, fm_bind, fm_tab0]
        rw [eD] at hD3
        have ta3 := ta.same s3
        refine ⟨_, rfl, _, rfl, d, _, rfl, DPut.k (k := Sum.inr n) ta3.at_ (by rw [kvT_len, List.length_take]; exact Nat.lt_of_le_of_lt (Nat.le_trans (Nat.min_le_right _ _) h7) (by decide)), ?_⟩
        have q := ta3.put_new (nd_take nd hn) hD3
        rw [← take_next hn] at q
        exact ⟨_, _, _, _, _, rfl, fun b o q => by
          rw [upd_ne (ne_of_none q hd)]
          exact s3 _ _ (s1 _ _ q), q⟩
    · subst e
      have ta1 : TabA H1 d ns A (tab0 R) := by
        have q := ta
        rw [List.length_map, List.take_length] at q
        exact q
      clear ta
      refine ⟨_, rfl, t, rfl, ⟨_, Same_seqT s1 ht⟩, ?_⟩
      refine for_it (walk_tup (xs := ns.map V.str)) (fun i σ H' => ∃ (v3 v4 v5 v6 : Option V) (A : Str → Addr), σ = [some (.ref t), some (.ref te), some (.ref d), v3, v4, v5, v6] ∧ Same H H' ∧ TabA H' d ns A (stT R (ns.take i)))
        ⟨_, _, _, _, A, rfl, s1, ta1⟩ (fun i σ H' _ ⟨_, _, _, _, _, _, s1, _⟩ => Same_seqT s1 ht)
        (fun i x σ H3 H2 hi ⟨w3, w4, w5, w6, A2, e, s2, ta2⟩ y => ?_) (fun σ H3 ⟨w3, w4, w5, w6, A2, e, s2, ta2⟩ => ?_)
      · obtain ⟨rfl, hx⟩ := y
        subst e
        obtain ⟨m, hm, rfl⟩ := at_str hx
        have hmi : m ∈ ns := List.mem_of_getElem? hm
        have hT : ∀ a, (stT R (ns.take i) a).length ≤ 8192 := stT_len (by rw [List.length_take]; exact Nat.le_trans (Nat.min_le_right _ _) h7) h64
        generalize hTe : stT R (ns.take i) = T at ta2 hT
        refine ⟨_, rfl, t, rfl, ⟨_, Same_seqT s2 ht⟩, ?_⟩
        refine for_it (walk_tup (xs := ns.map V.str)) (fun j σ H' => ∃ (v3 v4 v5 : Option V) (A : Str → Addr), σ = [some (.ref t), some (.ref te), some (.ref d), v3, v4, v5, some (.str m)] ∧ Same H H' ∧ TabA H' d ns A (fun a => if a ∈ ns.take j then passT T m a else T a))
          ⟨_, _, _, A2, rfl, s2, ta2.congr fun n _ => by rw [List.take_zero, if_neg List.not_mem_nil]⟩ (fun i σ H' _ ⟨_, _, _, _, _, s1, _⟩ => Same_seqT s1 ht)
          (fun j x σ H4 H5 hj ⟨u3, u4, u5, A3, e, s4, ta4⟩ y => ?_) (fun σ H4 ⟨u3, u4, u5, A3, e, s4, ta4⟩ => ?_)
        · obtain ⟨rfl, hx⟩ := y
          subst e
          obtain ⟨n, hn, rfl⟩ := at_str hx
          have hni : n ∈ ns := List.mem_of_getElem? hn
          have nn := nd_take nd hn
          have hAn := ta4.lst n hni
          have hAm := ta4.lst m hmi
          rw [if_neg nn] at hAn
          rw [passT_self, ite_self] at hAm
          refine ⟨_, rfl, _, rfl, _, rfl, d, _, rfl, ta4.get hni, _, _, rfl, .inl (SqL.of hAn), rfl, fl_str, _, rfl, two (fun h1 => ?_) (fun h1 => ?_)⟩
          · have h1' : inV (.str m) ((T n).map V.str) = true := h1
            rw [inV_str] at h1'
            have hin : m ∈ T n := of_decide_eq_true h1'
            refine ⟨_, rfl, _, rfl, d, _, rfl, ta4.get hni, _, rfl, _, rfl, d, _, rfl, ta4.get hmi, _, rfl, ⟨_, SqL.of hAm⟩, fun D hD => ?_⟩
            have hl : ((T m).map V.str).length ≤ sizeLine := by
              rw [List.length_map]
              exact Nat.le_trans (hT m) (by decide)
            refine lc_fm (walk_list (xs := (T m).map V.str)) (fun q => ((T m)[q]?).bind fun o => if decide (o ∉ T n) = true then some (V.str o) else Option.none) hD hl (fun H' s' => sm_seqL s' (SqL.of hAm)) (fun q v H6 H7 Kt Kf hq s6 y kt kf => ?_) (fun H6 s6 hD6 => ?_)
            · obtain ⟨rfl, hv⟩ := y
              obtain ⟨o, ho, rfl⟩ := at_str hv
              refine ⟨rfl, _, rfl, _, rfl, _, rfl, d, _, rfl, (ta4.same s6).get hni, _, _, rfl, .inl (SqL.of (s6 _ _ hAn)), rfl, fl_str, _, rfl, two (fun h2 => ?_) (fun h2 => ?_)⟩
              · have h2' : (!inV (.str o) ((T n).map V.str)) = true := h2
                rw [inV_str] at h2'
                have e1 : decide (o ∉ T n) = true := by
                  rw [decide_not]
                  exact h2'
                exact ⟨_, rfl, kt _ _ (by rw [ho]; show (if decide (o ∉ T n) = true then _ else _) = _; rw [if_pos e1]) (Same.refl _)⟩
              · have h2' : (!inV (.str o) ((T n).map V.str)) = false := h2
                rw [inV_str] at h2'
                have e1 : decide (o ∉ T n) = false := by
                  rw [decide_not]
                  exact h2'
                exact kf _ (by rw [ho]; show (if decide (o ∉ T n) = true then _ else _) = _; rw [e1, if_neg Bool.false_ne_true]) (Same.refl _)
            · have eD : (List.range ((T m).map V.str).length).filterMap (fun q => ((T m)[q]?).bind fun o => if decide (o ∉ T n) = true then some (V.str o) else Option.none) = ((T m).filter fun o => decide (o ∉ T n)).map V.str := by
                rw [List.length_map, fm_bind, fm_filter]
              rw [eD] at hD6
              have lF : ((T m).filter fun o => decide (o ∉ T n)).length ≤ 8192 := Nat.le_trans (List.length_filter_le _ _) (hT m)
              refine ⟨_, _, _, _, rfl, rfl, s6 _ _ hAn, hD6, ?_, fun p hp => ?_⟩
              · rw [List.length_map, List.length_map]
                have := hT n
                have : (16384 : Nat) ≤ sizeLine := by decide
                omega
              · have ta6 := (ta4.same s6).same (Same_new (o := HO.lst ((T n).map V.str ++ ((T m).filter fun o => decide (o ∉ T n)).map V.str)) hp)
                have hP : (upd H6 p (.lst ((T n).map V.str ++ ((T m).filter fun o => decide (o ∉ T n)).map V.str))) p = some (.lst ((T n ++ (T m).filter fun o => decide (o ∉ T n)).map V.str)) := by
                  rw [upd_same, List.map_append]
                have sp : Same H (upd H6 p (.lst ((T n).map V.str ++ ((T m).filter fun o => decide (o ∉ T n)).map V.str))) := Same_lay2 (s4.trans s6) hp
                refine ⟨_, rfl, _, rfl, d, _, rfl, DPut.k (k := Sum.inr n) ta6.at_ (by rw [kvT_len]; exact Nat.lt_of_le_of_lt h7 (by decide)), ?_⟩
                have q := ta6.put_old hni hP
                refine ⟨_, _, _, _, rfl, fun b o q => by
                  rw [upd_ne (ne_of_none q hd)]
                  exact sp _ _ q, q.congr fun a ha => ?_⟩
                rw [take_next hn]
                by_cases ea : a = n
                · subst ea
                  rw [if_pos rfl, if_pos (List.mem_append.mpr (.inr (List.mem_singleton.mpr rfl)))]
                  unfold passT
                  rw [if_pos hin]
                · rw [if_neg ea]
                  by_cases eb : a ∈ ns.take j
                  · rw [if_pos eb, if_pos (List.mem_append.mpr (.inl eb))]
                  · rw [if_neg eb, if_neg fun z => (List.mem_append.mp z).elim eb fun z => ea (List.mem_singleton.mp z)]
          · have h1' : inV (.str m) ((T n).map V.str) = false := h1
            rw [inV_str] at h1'
            have hin : m ∉ T n := of_decide_eq_false h1'
            refine ⟨_, _, _, A3, rfl, s4, ta4.congr fun a ha => ?_⟩
            rw [take_next hn]
            by_cases ea : a = n
            · subst ea
              rw [if_neg nn, if_pos (List.mem_append.mpr (.inr (List.mem_singleton.mpr rfl)))]
              unfold passT
              rw [if_neg hin]
            · by_cases eb : a ∈ ns.take j
              · rw [if_pos eb, if_pos (List.mem_append.mpr (.inl eb))]
              · rw [if_neg eb, if_neg fun z => (List.mem_append.mp z).elim eb fun z => ea (List.mem_singleton.mp z)]
        · subst e
          refine ⟨_, _, _, _, A3, rfl, s4, ta4.congr fun a ha => ?_⟩
          rw [take_next hm, stT_next, hTe, List.length_map, List.take_length]
          rw [if_pos ha]
      · subst e
        have ta3 : TabA H3 d ns A2 (closeT R ns) := by
          have q := ta2
          rw [List.length_map, List.take_length] at q
          exact q
        have hT : ∀ a, (closeT R ns a).length ≤ 8192 := stT_len h7 h64
        refine ⟨_, rfl, t, rfl, ⟨_, Same_seqT s2 ht⟩, fun D hD => ?_⟩
        refine dc_tup (xs := ns.map V.str) (fun i H' => Same H3 H' ∧ ∃ A4 : Str → Addr, H' D = some (.dK (kvT (ns.take i) A4)) ∧ ∀ n ∈ ns.take i, H' (A4 n) = some (.tup ((toldOf R ns n).map V.str)))
          ⟨Same_new hD, fun _ => 0, upd_same, fun n h => by cases h⟩ (fun i H' _ ⟨s', _⟩ => Same_seqT (s2.trans s') ht) (fun i x H4 hx ⟨s4, A4, hD4, hr4⟩ => ?_) (fun H4 ⟨s4, A4, hD4, hr4⟩ => ?_)
        · obtain ⟨n, hn, rfl⟩ := at_str hx
          have hni : n ∈ ns := List.mem_of_getElem? hn
          refine ⟨rfl, ?_⟩
          refine iteT (B := ∃ z : Nat, z = 0) ?_
          have hAn := s4 _ _ (ta3.lst n hni)
          refine ⟨_, rfl, _, rfl, t, rfl, ⟨_, Same_seqT (s2.trans s4) ht⟩, fun D2 hD2 => ?_⟩
          refine lc_fm (walk_tup (xs := ns.map V.str)) (fun q => (ns[q]?).bind fun o => if decide (o ∈ closeT R ns n) = true then some (V.str o) else Option.none) hD2 (by rw [List.length_map]; exact Nat.le_trans h7 (by decide)) (fun H' s' => Same_seqT ((s2.trans s4).trans s') ht) (fun q v H5 H6 Kt Kf hq s5 y kt kf => ?_) (fun H5 s5 hD5 => ?_)
          · obtain ⟨rfl, hv⟩ := y
            obtain ⟨o, ho, rfl⟩ := at_str hv
            refine ⟨rfl, _, rfl, _, rfl, _, rfl, d, _, rfl, ((ta3.same s4).same s5).get hni, _, _, rfl, .inl (SqL.of (s5 _ _ hAn)), rfl, fl_str, _, rfl, two (fun h2 => ?_) (fun h2 => ?_)⟩
            · have h2' : inV (.str o) ((closeT R ns n).map V.str) = true := h2
              rw [inV_str] at h2'
              exact ⟨_, rfl, kt _ _ (by rw [ho]; show (if decide (o ∈ closeT R ns n) = true then _ else _) = _; rw [if_pos h2']) (Same.refl _)⟩
            · have h2' : inV (.str o) ((closeT R ns n).map V.str) = false := h2
              rw [inV_str] at h2'
              exact kf _ (by rw [ho]; show (if decide (o ∈ closeT R ns n) = true then _ else _) = _; rw [h2', if_neg Bool.false_ne_true]) (Same.refl _)
          · have eD : (List.range (ns.map V.str).length).filterMap (fun q => (ns[q]?).bind fun o => if decide (o ∈ closeT R ns n) = true then some (V.str o) else Option.none) = (toldOf R ns n).map V.str := by
              rw [List.length_map, fm_bind, fm_filter]
              rfl
            rw [eD] at hD5
            refine ⟨D2, _, rfl, .inl ⟨SqL.of hD5, fun L hL => ?_⟩⟩
            have hDL := s5 _ _ hD4
            have nDL : D ≠ L := ne_of_none hDL hL
            refine ⟨_, Sum.inr n, rfl, by rw [upd_ne nDL]; exact hDL, by rw [kvT_len, List.length_take]; exact Nat.lt_of_le_of_lt (Nat.le_trans (Nat.min_le_right _ _) h7) (by decide), ?_, atA A4 n L, ?_, ?_⟩
            · exact fun b o q => by
                have q4 := s4 _ _ q
                rw [upd_ne (ne_of_none q hD)]
                exact Same_new hL _ _ (s5 _ _ q4)
            · rw [upd_same, putK_new (nd_take nd hn), ← take_next hn]
            · intro m hm
              rw [take_next hn] at hm
              by_cases e : m = n
              · subst e
                rw [atA_at, upd_ne nDL.symm, upd_same]
              · have hm' := (List.mem_append.mp hm).resolve_right fun q => e (List.mem_singleton.mp q)
                have q4 := s5 _ _ (hr4 m hm')
                rw [atA_ne e, upd_ne (ne_of q4 hDL (by intro z; cases z)), upd_ne (ne_of_none q4 hL)]
                exact q4
        · rw [List.length_map, List.take_length] at hD4 hr4
          exact k _ _ _ (s2.trans s4) hD4 hr4
end
end Jd
namespace Jd
open PySem PySem.Spec PyProof.Rows L2
/-! ### sorted texts are told by their order -/
theorem rising_le : ∀ (l : List Str) (p : Str), risingS p l = true → ∀ y ∈ l, cd p ≤ cd y
  | [], _, _, _, h => nomatch h
  | x :: r, p, h, y, hy => by
    have h' : (!ltCps x.cps.toList p.cps.toList && risingS x r) = true := h
    rw [Bool.and_eq_true] at h'
    obtain ⟨h1, h2⟩ := h'
    have px : cd p ≤ cd x := by
      rw [ltCps_eq] at h1
      have h3 : ¬ cd x < cd p := fun q => by
        rw [decide_eq_true (show x.cps.toList < p.cps.toList from q)] at h1
        cases h1
      exact List.not_lt.mp h3
    rcases List.mem_cons.mp hy with rfl | hy
    · exact px
    · exact List.le_trans px (rising_le r x h2 y hy)
theorem sorted_pw : ∀ (l : List Str), sortedS l = true → l.Pairwise fun a b => cd a ≤ cd b
  | [], _ => List.Pairwise.nil
  | [x], _ => List.pairwise_singleton _ _
  | x :: y :: r, h => by
    have h' : risingS x (y :: r) = true := h
    have h2 : (!ltCps y.cps.toList x.cps.toList && risingS y r) = true := h
    rw [Bool.and_eq_true] at h2
    exact List.pairwise_cons.mpr ⟨rising_le _ _ h', sorted_pw (y :: r) h2.2⟩
theorem sorted_one {xs ys : List Str} (pm : xs.Perm ys) (hx : sortedS xs = true) (hy : sortedS ys = true) : xs = ys :=
  pm.eq_of_pairwise (fun a b _ _ h1 h2 => cd_ext (List.le_antisymm h1 h2)) (sorted_pw xs hx) (sorted_pw ys hy)
theorem txAll_perm : ∀ (xs acc : List Str), (xs ++ acc).Nodup → (xs.foldl txAdd acc).Perm (xs ++ acc)
  | [], acc, _ => List.Perm.refl _
  | x :: r, acc, h => by
    have h' : (x :: (r ++ acc)).Nodup := h
    obtain ⟨h1, h2⟩ := List.nodup_cons.mp h'
    have hx : x ∉ acc := fun q => h1 (List.mem_append_right _ q)
    have e : txAdd acc x = x :: acc := by unfold txAdd; rw [if_neg hx]
    show (r.foldl txAdd (txAdd acc x)).Perm (x :: (r ++ acc))
    rw [e]
    have pm : (r ++ x :: acc).Perm (x :: (r ++ acc)) := List.perm_middle
    exact (txAll_perm r (x :: acc) (pm.nodup_iff.mpr h')).trans pm
theorem nodup_perm_map {α β : Type} {f : α → β} {ys : List β} {xs : List α} (h : ys.Perm (xs.map f)) : ∃ zs : List α, ys = zs.map f ∧ zs.Perm xs := by
  have key : ∀ (as bs : List β), as.Perm bs → ∀ xs : List α, bs = xs.map f → ∃ zs : List α, as = zs.map f ∧ zs.Perm xs := by
    intro as bs pm
    induction pm with
    | nil => intro xs e; exact ⟨[], rfl, by rw [List.map_eq_nil_iff.mp e.symm]⟩
    | cons x _ ih =>
      intro xs e
      obtain ⟨a, r, rfl, rfl, er⟩ := List.map_eq_cons_iff.mp e.symm
      obtain ⟨zs, e1, p1⟩ := ih r er.symm
      exact ⟨a :: zs, by rw [e1]; rfl, p1.cons a⟩
    | swap x y l =>
      intro xs e
      obtain ⟨a, r, rfl, rfl, er⟩ := List.map_eq_cons_iff.mp e.symm
      obtain ⟨b, r2, rfl, rfl, er2⟩ := List.map_eq_cons_iff.mp er
      subst er2
      exact ⟨b :: a :: r2, rfl, List.Perm.swap a b r2⟩
    | trans _ _ ih1 ih2 =>
      intro xs e
      obtain ⟨zs, e1, p1⟩ := ih2 xs e
      obtain ⟨ws, e2, p2⟩ := ih1 zs e1
      exact ⟨ws, e2, p2.trans p1⟩
  exact key ys _ h xs rfl
end Jd
namespace Jd
open PySem PySem.Spec PyProof.Rows L2
/-! a class made, a method called, where what is raised is wished for at the slots; methods called by keywords alone -/
section
variable {X : Cx} {CX : CXT} {k : Nat} {f C : Addr} {fd : FuncData} {ps : List Str} {sp : Sp} {dvs : List V} {ds : List Value} {E : L2.St → XK} {x m : Str} {p pos apos : Pos} {e o : Expr} {es : List Expr} {t : TA} {ta : TE}
def tMakeS (C : Addr) (sp : Sp) (dvs : List V) (E : L2.St → XK) (t : TA) : TE := fun σ H Q => t σ H fun vs H1 => ∀ x dx, H1 x = none → H1 dx = none → dx ≠ x →
  sp (.ref x :: (vs ++ dvs)) (upd (upd H1 dx (.own x)) x (.ins C dx [])) (fun v H2 => v = .non ∧ Q (.ref x) H2) (E σ)
theorem run_makeS {pins : List (Addr × Obj)} {σ : L2.St} {H : Hp} {s : Shared} {Q : VK} {us : List Value} {vs : List V} (M : Mk X.K C f) (F : FnOk X.prog X.w X.K X.mg X.base CX k f fd ps sp) (hr : Room (k + 1) X.A) (hb : Binds X.K fd ps ds) (hd : Vals dvs ds)
    (hx : PassesAt CX X σ (E σ)) (I : Inv X pins σ H s) (r : Vals vs us)
    (h : ∀ x dx, H x = none → H dx = none → dx ≠ x → sp (.ref x :: (vs ++ dvs)) (upd (upd H dx (.own x)) x (.ins C dx [])) (fun v H2 => v = .non ∧ Q (.ref x) H2) (E σ)) :
    wpAny (model X.prog X.w) X.A (call (.ref C) us) (EP X pins σ Q) X.xe s := by
  have hq := h (s.heap.objs.size + 1) s.heap.objs.size (I.hok.fresh (Nat.le_succ _)) (I.hok.fresh (Nat.le_refl _)) (Nat.ne_of_lt (Nat.lt_succ_self _))
  have I2 := Inv.made (C := C) I
  have r2 : Vals (V.ref (s.heap.objs.size + 1) :: (vs ++ dvs)) (Value.ref (s.heap.objs.size + 1) :: (us ++ ds)) := .cons rfl (r.append hd)
  have hl : (Value.ref (s.heap.objs.size + 1) :: us ++ ds).length = ps.length := by
    have e := r2.length
    rw [F.len _ _ _ _ hq] at e
    exact e.symm
  refine wpAny_call (make_map (f := f) I.kIn M.makes M.init (beq_iff_eq.mp M.fn) (codeAny_mono (F.run _ X.stack _ _ ⟨Value.ref (s.heap.objs.size + 1) :: us, []⟩ (Value.ref (s.heap.objs.size + 1) :: (us ++ ds)) _ _ (E σ) (hr.make C us [])
    (I2.env0.make C us []) (hb _ (Value.ref (s.heap.objs.size + 1) :: us) I2.kIn hl) r2 hq) fun r s' hq' => ?_))
  cases r with
  | error e => exact hx pins _ _ e s' I2 hq'
  | ok fl =>
    cases fl with
    | ret u =>
      obtain ⟨v, H', I3, rv, ev, q3⟩ := I2.after hq'
      subst ev
      exact ⟨rv, ⟨V.ref (s.heap.objs.size + 1), H', I3, rfl, q3⟩⟩
    | next => exact False.elim hq'
    | brk => exact False.elim hq'
    | cont => exact False.elim hq'
theorem pe_makeS (M : Mk X.K C f) (F : FnOk X.prog X.w X.K X.mg X.base CX k f fd ps sp) (hr : Room (k + 1) X.A) (hg : Gl X x) (hm : X.mg x = some (.ref C)) (hb : Binds X.K fd ps ds) (hd : Vals dvs ds) (hx : ∀ σ, PassesAt CX X σ (E σ))
    (ha : PA X (e :: es) t) (hdb : (x == ("__debug__" : Str)) = false := by decide) (he : starEach (e :: es) X.env = (false, eval e X.env) :: starEach es X.env := by rfl) (hpl : (backTo pos (starEach es X.env)).any (·.1) = false := by rfl) :
    PE X (.Call (.Name x p) (e :: es) [] pos) (tMakeS C sp dvs E t) := by
  refine ⟨fun pins s σ H Q I h => ?_⟩
  refine wpAny_Call_Name_kw (ld_glob I hg hm ?_ hdb)
  refine PySem.W.callWith_K (h₀ := X.base) I.ok.mod.kin M.kp (thn (ha.run pos pins s σ H _ I h) fun us s1 ⟨vs, H1, I1, r, q⟩ => ⟨I1.kIn, ?_⟩) he hpl
  exact run_makeS M F hr hb hd (hx σ) I1 r q
/-- o.m(e, ..), what is raised wished for at the slots -/
def tMethSA (C : Addr) (m : Str) (sp : Sp) (E : L2.St → XK) (ta : TE) (t : TA) : TE := fun σ H Q => ta σ H fun x H1 => ∃ a dx fs, x = .ref a ∧ H1 a = some (.ins C dx fs) ∧ fs.lookup m = none ∧ t σ H1 fun vs H2 => sp (x :: vs) H2 Q (E σ)
theorem pe_methSA {pl : Sem Bool} (he : PE X o ta) (c : Cls X.K C) (hm : Meth X.K C m f) (F : FnOk X.prog X.w X.K X.mg X.base CX k f fd ps sp) (hr : Room k X.A) (hb : Binds X.K fd ps []) (hx : ∀ σ, PassesAt CX X σ (E σ)) (ha : PA X (e :: es) t)
    (ht : eval (.Call (.Attribute o m apos) (e :: es) [] pos) X.env = (do
      let ov ← eval o X.env
      standAt apos.atName
      let (f, first) ← holding [ov] (getMethod ov m pl)
      callWith pos f first (backTo pos (starEach (e :: es) X.env)) (backToKw pos (keywordEach [] X.env))) := by rfl)
    (hst : starEach (e :: es) X.env = (false, eval e X.env) :: starEach es X.env := by rfl) (hpl : (backTo pos (starEach es X.env)).any (·.1) = false := by rfl) :
    PE X (.Call (.Attribute o m apos) (e :: es) [] pos) (tMethSA C m sp E ta t) := by
  refine ⟨fun pins s σ H Q I h => ?_⟩
  refine PySem.W.methodCall_KW (pl := pl) (thn (he.run pins s σ H _ I h) fun u s1 ⟨x, H1, I1, rx, a, dx, fs, ex, ea, l, q⟩ => ?_) ht
  subst ex
  obtain rfl : u = Value.ref a := rx
  refine getmeth_ok I1 ea c hm l ?_
  refine PySem.W.callWith_K (first := [.ref a]) (h₀ := X.base) I1.ok.mod.kin hm.kp (thn (ha.run pos pins s1 σ H1 _ I1 q) fun us s2 ⟨vs, H2, I2, r, q2⟩ => ⟨I2.kIn, ?_⟩) hst hpl
  exact run_fnSD (us := .ref a :: us) (vs := .ref a :: vs) (dvs := []) (ds := []) F hr hb .nil (hx σ) I2 (.cons rfl r) (by rw [List.append_nil]; exact q2)
end
section
variable {X : Cx} {CX : CXT} {k : Nat} {f C : Addr} {fd : FuncData} {ps ks : List Str} {sp : Sp} {E : XK} {m : Str} {pos apos : Pos} {o : Expr} {ta : TE} {kws : List Keyword} {tk : TA} {g : List Value → List Value → List Value} {gV : List V → List V → List V}
/-- o.m(k = v, ..) -/
def tMethK0 (C : Addr) (m : Str) (sp : Sp) (gV : List V → List V → List V) (E : XK) (ta : TE) (tk : TA) : TE := fun σ H Q => ta σ H fun x H1 => ∃ a dx fs, x = .ref a ∧ H1 a = some (.ins C dx fs) ∧ fs.lookup m = none ∧ tk σ H1 fun zs H2 => sp (gV [x] zs) H2 Q E
theorem pe_methK0 {pl : Sem Bool} (he : PE X o ta) (c : Cls X.K C) (hm : Meth X.K C m f) (F : FnOk X.prog X.w X.K X.mg X.base CX k f fd ps sp) (hr : Room k X.A) (hb : KBinds X.K fd ps ks g gV) (hx : Passes CX X E) (hkw : PK X kws tk)
    (ht : eval (.Call (.Attribute o m apos) [] kws pos) X.env = (do
      let ov ← eval o X.env
      standAt apos.atName
      let (f, first) ← holding [ov] (getMethod ov m pl)
      callWith pos f first (backTo pos (starEach [] X.env)) (backToKw pos (keywordEach kws X.env))) := by rfl)
    (hall : (backToKw pos (keywordEach kws X.env)).all (fun q => q.1.isSome) = true := by rfl) (hks : (backToKw pos (keywordEach kws X.env)).filterMap (fun q => q.1) = ks := by rfl)
    (hpl : ((backTo pos (starEach [] X.env)).any (fun q => q.1) || (backToKw pos (keywordEach kws X.env)).any (fun q => q.1.isNone)) = false := by rfl) :
    PE X (.Call (.Attribute o m apos) [] kws pos) (tMethK0 C m sp gV E ta tk) := by
  refine ⟨fun pins s σ H Q I h => ?_⟩
  refine PySem.W.methodCall_KW (pl := pl) (thn (he.run pins s σ H _ I h) fun u s1 ⟨x, H1, I1, rx, a, dx, fs, ex, ea, l, q⟩ => ?_) ht
  subst ex
  obtain rfl : u = Value.ref a := rx
  refine getmeth_ok I1 ea c hm l ?_
  refine PySem.W.callWith_KW0 (first := [.ref a]) (h₀ := X.base) I1.ok.mod.kin hm.kp hall ?_ hpl
  refine thn (hkw.run pos pins s1 σ H1 _ I1 q) fun ws s2 hz => ?_
  obtain ⟨zs, H2, I2, rz, q2⟩ := hz
  refine ⟨I2.kIn, ?_⟩
  rw [hks]
  exact run_fnk (us := [.ref a]) (vs := [.ref a]) F hr hb hx I2 (.cons rfl .nil) rz q2
end
end Jd
namespace Jd
open PySem PySem.Spec PyProof.Rows L2
/-! ### NoName, Keys -/
theorem passF {P : Program} {w : World} {X : Cx} : Passes (L2.CX P w) X (fun _ _ _ => False) := fun _ _ _ _ _ _ _ ⟨_, _, _, _, _, _, _, _, _, _, _, _, h⟩ => h.elim
def spNN (C : Addr) : Sp := fun vs H Q _ => ∃ (a : Addr) (v : V), vs = [.ref a, v] ∧ H a = some (exo a C none) ∧ ∀ dx, H dx = none → dx ≠ a → Q .non (upd (upd H dx (exd dx [("name", v)])) a (exo a C (some dx)))
/-- the first name of the tellings that is none -/
def firstOut (ns : List Str) : List (Str × Str) → Option Str
  | [] => none
  | p :: R => if p.1 ∈ ns then (if p.2 ∈ ns then firstOut ns R else some p.2) else some p.1
theorem out_none {ns : List Str} : ∀ {R : List (Str × Str)}, (∀ p ∈ R, p.1 ∈ ns ∧ p.2 ∈ ns) → firstOut ns R = none
  | [], _ => rfl
  | p :: R, h => by
    have q := h p List.mem_cons_self
    unfold firstOut
    rw [if_pos q.1, if_pos q.2]
    exact out_none fun p hp => h p (List.mem_cons_of_mem _ hp)
theorem out_in {ns : List Str} : ∀ {R : List (Str × Str)}, firstOut ns R = none → ∀ p ∈ R, p.1 ∈ ns ∧ p.2 ∈ ns
  | [], _, _, hp => by cases hp
  | p :: R, h, p', hp => by
    unfold firstOut at h
    split at h
    · split at h
      · rename_i h1 h2
        rcases List.mem_cons.mp hp with rfl | hp
        · exact ⟨h1, h2⟩
        · exact out_in h p' hp
      · cases h
    · cases h
theorem out_at {ns : List Str} : ∀ {R : List (Str × Str)} {i : Nat} {pr : Str × Str}, R[i]? = some pr → (∀ p ∈ R.take i, p.1 ∈ ns ∧ p.2 ∈ ns) → firstOut ns R = (if pr.1 ∈ ns then (if pr.2 ∈ ns then firstOut ns (R.drop (i + 1)) else some pr.2) else some pr.1)
  | [], i, pr, h, _ => by cases h
  | p :: R, 0, pr, h, _ => by
    cases h
    rfl
  | p :: R, i + 1, pr, h, hi => by
    have q := hi p List.mem_cons_self
    show firstOut ns (p :: R) = _
    conv => lhs; unfold firstOut
    rw [if_pos q.1, if_pos q.2]
    exact out_at (R := R) (i := i) h fun p hp => hi p (List.mem_cons_of_mem _ hp)
def KeysO (K : PySem.W.Frag) (H : Hp) (x : Addr) (ns : List Str) (t : Str → List Str) : Prop := ∃ (dx tn d : Addr) (A : Str → Addr), H x = some (.ins (He.ga K "Keys") dx [("_names", .ref tn), ("_told", .ref d)]) ∧ H tn = some (.tup (ns.map V.str)) ∧
  H d = some (.dK (kvT ns A)) ∧ (∀ n ∈ ns, H (A n) = some (.tup ((t n).map V.str))) ∧ ns.Nodup ∧ ns.length ≤ 7 ∧ (∀ n ∈ ns, PyData.strOk n = true) ∧ ∀ n ∈ ns, (t n).length ≤ 7 ∧ ∀ z ∈ t n, z ∈ ns
theorem KeysO.same {K : PySem.W.Frag} {H H' : Hp} {x : Addr} {ns : List Str} {t : Str → List Str} (h : KeysO K H x ns t) (s : Same H H') : KeysO K H' x ns t := by
  obtain ⟨dx, tn, d, A, h1, h2, h3, h4, h5⟩ := h
  exact ⟨dx, tn, d, A, s _ _ h1, s _ _ h2, s _ _ h3, fun n hn => s _ _ (h4 n hn), h5⟩
theorem KeysO.keep {K : PySem.W.Frag} {H H' : Hp} {x u : Addr} {ns : List Str} {t : Str → List Str} {xs : List V} (h : KeysO K H x ns t) (hu : H u = some (.lst xs)) (s : ∀ b o, b ≠ u → H b = some o → H' b = some o) : KeysO K H' x ns t := by
  obtain ⟨dx, tn, d, A, h1, h2, h3, h4, h5⟩ := h
  exact ⟨dx, tn, d, A, s _ _ (ne_of h1 hu (by intro z; cases z)) h1, s _ _ (ne_of h2 hu (by intro z; cases z)) h2, s _ _ (ne_of h3 hu (by intro z; cases z)) h3, fun n hn => s _ _ (ne_of (h4 n hn) hu (by intro z; cases z)) (h4 n hn), h5⟩
/-- all but the object at u is as it was -/
abbrev KeepX (u : Addr) (H H' : Hp) : Prop := ∀ b o, b ≠ u → H b = some o → H' b = some o
def spKI (K : PySem.W.Frag) : Sp := fun vs H Q E => ∃ (x nm te dx : Addr) (names : List Str) (R : List (Str × Str)), vs = [.ref x, .ref nm, .ref te] ∧ H x = some (.ins (He.ga K "Keys") dx []) ∧ Sq K H nm (names.map V.str) ∧ names.length < 64 ∧ (txAll names).length ≤ 7 ∧ (∀ z ∈ names, PyData.strOk z = true) ∧ Tells K H te R ∧ R.length ≤ 64 ∧
  ∀ ns : List Str, ns.Perm (txAll names) → sortedS ns = true → ns.Nodup →
    (firstOut ns R = none → (∀ n ∈ ns, n ∉ toldOf R ns n) ∧ ∀ H', KeysO K H' x ns (toldOf R ns) → KeepX x H H' → Q .non H') ∧
    (∀ z, firstOut ns R = some z → ∀ H' d, KeepX x H H' → H' d = some (.xd [("name", .str z)]) → E (.ref (He.ga K "NoName")) (some d) H')
section
variable {P : Program} {w : World} {K : PySem.W.Frag} {mg : Str → Option Value} {base : Heap}
theorem sc_nn : FnScope ["self", "name"] ["self", "name"] (defScope s_NoName___init__) := ⟨rfl, rfl, rfl, by decide +kernel, rfl, by decide +kernel, by decide +kernel⟩
theorem ok_nn (B : Bk K mg) : ∃ fd, FnOk P w K mg base CX0 1 (He.ma K (He.ga K "NoName") "__init__") fd ["self", "name"] (spNN (He.ga K "NoName")) ∧ Binds K fd ["self", "name"] [] := by
  obtain ⟨fd, F⟩ := B.F_NoName___init
  refine ⟨fd, ?_, F.binds fun _ _ _ _ _ _ us hl => match us, hl with | [_, _], _ => rfl⟩
  refine F.ok sc_nn (fun vs H Q E h => ?_) (fun cdv A outer s H vs Q E hr h => ?_)
  · obtain ⟨a, v, rfl, _⟩ := h
    rfl
  · obtain ⟨a, v, rfl, ha, k⟩ := h
    refine ⟨_, pss_cons (ps_expr (pe_leinit (by rfl) B.b_LookupError (by rfl) (pa_cons (pv 0) (pa_cons (pv 1) pa_nil)))) (pss_one (ps_leF (pv 0) (pv 1))), ?_⟩
    refine ⟨_, rfl, _, rfl, a, _, [v], rfl, (by show 1 ≤ 1000; decide), B.lx_NoName.1, ha, ?_⟩
    exact ⟨_, rfl, _, rfl, a, _, rfl, B.lx_NoName.1, B.nf_NoName_name, ha, fun dx n ne => k dx n ne⟩
abbrev NK : List Str := ["self", "names", "tells", "pair", "name", "ring"]
theorem sc_ki : FnScope ["self", "names", "tells", "pair", "name", "ring"] ["self", "names", "tells"] (defScope s_Keys___init__) := ⟨rfl, rfl, rfl, by decide +kernel, rfl, by decide +kernel, by decide +kernel⟩
theorem ok_Keys_init (B : Bk K mg) : ∃ fd, FnOk P w K mg base (L2.CX P w) 3 (He.ma K (He.ga K "Keys") "__init__") fd ["self", "names", "tells"] (spKI K) ∧ (∃ ds, Vals [.ref (dflA (fun K => He.ma K (He.ga K "Keys") "__init__") 0 K)] ds ∧ Binds K fd ["self", "names", "tells"] ds) ∧ FunD K "__init__" "Keys.__init__" (defArgs s_Keys___init__) (defBody s_Keys___init__) (defScope s_Keys___init__) (d_Keys___init__.dvs K) [] (He.ma K (He.ga K "Keys") "__init__") fd := by
  obtain ⟨fd, F⟩ := B.F_Keys___init
  obtain ⟨fdA, GA, bA⟩ := (ok_all_told (P := P) (w := w) (base := base) B).ex
  have kA := (ok_all_told (P := P) (w := w) (base := base) B).kp
  obtain ⟨fdE, GE, bE⟩ := ok_nn (P := P) (w := w) (base := base) B
  obtain ⟨lxc, li, lt⟩ := B.lx_NoName
  refine ⟨fd, ?_, ?_, F⟩
  · refine F.ok (CX := L2.CX P w) sc_ki (fun vs H Q E h => ?_) (fun cdv A outer s H vs Q E hr h => ?_)
    · obtain ⟨_, _, _, _, _, _, rfl, _⟩ := h
      rfl
    · obtain ⟨x, nm, te, dx, names, R, rfl, hx, hnm, n64, n7, gN, hte, h64, kk⟩ := h
      have hu := hu_of hr
      have hr1 : Room 1 _ := hr.mono (by decide)
      refine ⟨_, (pss_cons (ps_fld (pv 0) (pe_callTy call_tuple_of (by rfl) B.b_tuple (by decide +kernel) (pa_cons (pe_callB (cr_sortTx rfl) (by rfl) B.b_sorted (by decide +kernel) (pa_cons (pe_callTy (cr_setTx rfl) (by rfl) B.b_set (by decide +kernel) (pa_cons (pv 1) pa_nil)) pa_nil)) pa_nil)) rfl)
        (pss_cons (ps_for (passes_of rfl) rfl (pi_seq (pv 2)) (pg_name (i := 3) sc_ki.nd rfl (Or.inl rfl))
          (pss_one (ps_for (passes_of rfl) rfl (pi_seq (pv 3)) (pg_name (i := 4) sc_ki.nd rfl (Or.inl rfl))
            (pss_one (ps_if (pt_cmpR op_notIn_seq (pv 4) (pe_fld (pv 0) rfl) (by rfl)) (pss_one (ps_raise rfl (takes_of rfl rfl rfl rfl) (pmk_lex lxc li lt GE hr bE .nil pass0 (by rfl) B.g_NoName (pa_cons (pv 4) pa_nil)))) pss_nil)))))
        (pss_cons (ps_fld (pv 0) (pe_call GA hr1 rfl B.g_all_told kA bA .nil pass0 (pa_cons (pe_fld (pv 0) rfl) (pa_cons (pv 2) pa_nil))) rfl)
        (pss_cons (ps_set (i := 5) sc_ki.nd rfl (Or.inl rfl) (pe_callTy call_tuple_of (by rfl) B.b_tuple (by decide +kernel) (pa_cons (pe_lc (own := [("name", 4)]) (g := gName 4) (tt := tTest (tOp (rIn K false) (tVar 4) (tDGet (tFld K (tVar 0) "_told") (tVar 4)))) rfl sc_ki.nd (pi_tup (pe_fld (pv 0) rfl)) (blkOk_by (N := ["self", "names", "tells", "pair", "name", "ring"]) (sc := defScope s_Keys___init__) (by decide +kernel))
            (fun _ _ _ _ _ => pg_name (i := 4) sc_ki.nd rfl (Or.inl rfl)) (fun _ _ _ _ _ => pts_one (pt_cmpR op_in_seq (pv 4) (pe_dget hu (pe_fld (pv 0) rfl) (pv 4) (fun _ _ => rfl)) (by rfl))) (fun _ _ _ _ _ => pv 4)) pa_nil)))
        (pss_one (ps_if (pt_cmpR op_gt (pe_callB call_len_seq (by rfl) B.b_len (by decide +kernel) (pa_cons (pv 5) pa_nil)) pe_int (nomark _)) (pss_one ps_never) pss_nil)))))), ?_⟩
      refine ⟨_, rfl, nm, names, rfl, hnm, n64, fun a na => ?_⟩
      refine ⟨a, _, rfl, upd_same, Nat.lt_of_le_of_lt n7 (by decide), fun ns p2 pm so nd0 np => ?_⟩
      refine ⟨p2, _, rfl, .inl ⟨SqL.of upd_same, fun t nt => ?_⟩⟩
      have nd : ns.Nodup := pm.nodup_iff.mpr nd0
      have l7 : ns.length ≤ 7 := by rw [pm.length_eq]; exact n7
      obtain ⟨kQ, kE⟩ := kk ns pm so nd
      dsimp only [cxOf, Cx.nox]
      have s1 : Same H (upd (upd (upd H a (TxO P w a (txAll names))) p2 (.lst (List.map V.str ns))) t (.tup (List.map V.str ns))) := Same_lay (Same_lay (Same_new na) np) nt
      have ht : (upd (upd (upd H a (TxO P w a (txAll names))) p2 (.lst (List.map V.str ns))) t (.tup (List.map V.str ns))) t = some (.tup (ns.map V.str)) := upd_same
      generalize (upd (upd (upd H a (TxO P w a (txAll names))) p2 (.lst (List.map V.str ns))) t (.tup (List.map V.str ns))) = H1 at s1 ht
      refine ⟨_, rfl, x, _, dx, [], rfl, s1 _ _ hx, B.cl_Keys, B.no_Keys__names, by decide, ?_⟩
      have htx : t ≠ x := ne_of ht (s1 _ _ hx) (by intro z; cases z)
      have kp2 : KeepX x H (upd H1 x (.ins (He.ga K "Keys") dx [("_names", .ref t)])) := fun b o n q => by
        rw [upd_ne n]
        exact s1 _ _ q
      have ht2 : (upd H1 x (.ins (He.ga K "Keys") dx [("_names", .ref t)])) t = some (.tup (ns.map V.str)) := by rw [upd_ne htx]; exact ht
      have hx2 : (upd H1 x (.ins (He.ga K "Keys") dx [("_names", .ref t)])) x = some (.ins (He.ga K "Keys") dx [("_names", .ref t)]) := upd_same
      have ep : putF ("_names" : Str) (V.ref t) [] = [(("_names" : Str), V.ref t)] := rfl
      rw [ep]
      generalize (upd H1 x (.ins (He.ga K "Keys") dx [("_names", .ref t)])) = H2 at kp2 ht2 hx2
      have hte2 := hte.keep hx kp2
      obtain ⟨ps, hps, pl, hpp⟩ := id hte2
      refine ⟨_, rfl, te, _, rfl, hps, fun J G wk hG => ?_⟩
      refine for_it wk (fun i σ H' => ∃ v3 v4 : Option V, σ = [some (.ref x), some (.ref nm), some (.ref te), v3, v4, Option.none] ∧ H' = H2 ∧ ∀ p ∈ R.take i, p.1 ∈ ns ∧ p.2 ∈ ns)
        ⟨_, _, rfl, rfl, fun p hp => by cases hp⟩ (fun i σ H' _ ⟨_, _, _, e, _⟩ => by rw [e]; exact hG _ fun _ _ z => z) (fun i v σ H3 H4 hi ⟨v3, v4, e, e1, hin⟩ y => ?_) (fun σ H3 ⟨v3, v4, e, e1, hin⟩ => ?_)
      · obtain ⟨rfl, hv⟩ := y
        subst e e1
        obtain ⟨p, hp, rfl⟩ := at_ref hv
        obtain ⟨pr, hpr, hq⟩ := hpp i p hp
        have oa := out_at hpr hin
        refine ⟨_, rfl, p, _, rfl, hq, fun J2 G2 wk2 hG2 => ?_⟩
        refine for_it wk2 (fun j σ H' => ∃ v4 : Option V, σ = [some (.ref x), some (.ref nm), some (.ref te), some (.ref p), v4, Option.none] ∧ H' = H4 ∧ (1 ≤ j → pr.1 ∈ ns) ∧ (2 ≤ j → pr.2 ∈ ns))
          ⟨_, rfl, rfl, fun h => absurd h (by decide), fun h => absurd h (by decide)⟩ (fun i σ H' _ ⟨_, _, e, _⟩ => by rw [e]; exact hG2 _ fun _ _ z => z) (fun j v σ H5 H6 hj ⟨v4, e, e1, g1, g2⟩ y => ?_) (fun σ H5 ⟨v4, e, e1, g1, g2⟩ => ?_)
        · obtain ⟨rfl, hv⟩ := y
          subst e e1
          obtain ⟨z, ez, hno, hyes⟩ : ∃ z : Str, v = .str z ∧ (z ∉ ns → firstOut ns R = some z) ∧ (z ∈ ns → (1 ≤ j + 1 → pr.1 ∈ ns) ∧ (2 ≤ j + 1 → pr.2 ∈ ns)) := by
            have hj2 : j < 2 := hj
            have hc : j = 0 ∨ j = 1 := by omega
            rcases hc with rfl | rfl
            · refine ⟨pr.1, (Option.some.inj hv).symm, fun h => ?_, fun h => ⟨fun _ => h, fun q => absurd q (by decide)⟩⟩
              rw [oa, if_neg h]
            · have q1 := g1 (by decide)
              refine ⟨pr.2, (Option.some.inj hv).symm, fun h => ?_, fun h => ⟨fun _ => q1, fun _ => h⟩⟩
              rw [oa, if_pos q1, if_neg h]
          subst ez
          refine ⟨_, rfl, _, rfl, x, _, dx, _, _, rfl, hx2, B.cl_Keys, B.no_Keys__names, rfl, t, _, rfl, .inr (SqT.of ht2), rfl, fl_str, _, rfl, two (fun h1 => ?_) (fun h1 => ?_)⟩
          · have h1' : (!inV (.str z) (ns.map V.str)) = true := h1
            rw [inV_str] at h1'
            have hz : z ∉ ns := fun q => by rw [decide_eq_true q] at h1'; cases h1'
            refine ⟨_, rfl, (by show 1 ≤ 1000; decide), fun a na => ⟨a, _, rfl, upd_same, fun ex nd ne => ⟨rfl, ex, [("name", .str z)], upd_same, ?_, ?_, ?_⟩⟩⟩
            · rw [upd_ne ne, upd_same]
            · rw [upd_ne ne] at nd
              exact nd
            · have nd' : H6 ex = none := by
                rw [upd_ne ne] at nd
                exact nd
              refine kE z (hno hz) _ ex (fun b o nb q => ?_) upd_same
              have q1 := kp2 b o nb q
              have nb : b ≠ a := ne_of_none q1 na
              rw [upd_ne (ne_of_none q1 nd'), del_ne nb, upd_ne nb, upd_ne (ne_of_none q1 nd'), upd_ne nb]
              exact q1
          · have h1' : (!inV (.str z) (ns.map V.str)) = false := h1
            rw [inV_str] at h1'
            have hz : z ∈ ns := by
              by_cases q : z ∈ ns
              · exact q
              · rw [decide_eq_false q] at h1'; cases h1'
            exact ⟨_, rfl, rfl, hyes hz⟩
        · subst e
          refine ⟨_, _, rfl, e1, fun p' hp' => ?_⟩
          rw [List.take_add_one, hpr] at hp'
          rcases List.mem_append.mp hp' with hp' | hp'
          · exact hin p' hp'
          · have e : p' = pr := by simpa using hp'
            subst e
            exact ⟨g1 (by show 1 ≤ 2; decide), g2 (by show 2 ≤ 2; decide)⟩
      · subst e
        cases e1
        have hall : ∀ p ∈ R, p.1 ∈ ns ∧ p.2 ∈ ns := by
          have q := hin
          rw [List.length_map, pl, List.take_length] at q
          exact q
        obtain ⟨noring, kQ⟩ := kQ (out_none hall)
        refine ⟨_, rfl, x, _, dx, _, _, rfl, hx2, B.cl_Keys, B.no_Keys__names, rfl, _, rfl, t, te, ns, R, rfl, SqT.of ht2, nd, l7, hte2, h64, fun H3 d A s3 hd hA => ?_⟩
        refine ⟨_, rfl, x, _, dx, _, rfl, s3 _ _ hx2, B.cl_Keys, B.no_Keys__told, (by show 1 < 1000; decide), ?_⟩
        have hx3 := s3 _ _ hx2
        have ht3 := s3 _ _ ht2
        have ep : putF ("_told" : Str) (V.ref d) [(("_names" : Str), V.ref t)] = [(("_names" : Str), V.ref t), (("_told" : Str), V.ref d)] := rfl
        rw [ep]
        have kp4 : KeepX x H (upd H3 x (.ins (He.ga K "Keys") dx [("_names", .ref t), ("_told", .ref d)])) := fun b o n q => by
          rw [upd_ne n]
          exact s3 _ _ (kp2 _ _ n q)
        have ht4 : (upd H3 x (.ins (He.ga K "Keys") dx [("_names", .ref t), ("_told", .ref d)])) t = some (.tup (ns.map V.str)) := by rw [upd_ne htx]; exact ht3
        have hd4 : (upd H3 x (.ins (He.ga K "Keys") dx [("_names", .ref t), ("_told", .ref d)])) d = some (.dK (kvT ns A)) := by rw [upd_ne (ne_of hd hx3 (by intro z; cases z))]; exact hd
        have hA4 : ∀ n ∈ ns, (upd H3 x (.ins (He.ga K "Keys") dx [("_names", .ref t), ("_told", .ref d)])) (A n) = some (.tup ((toldOf R ns n).map V.str)) := fun n hn => by rw [upd_ne (ne_of (hA n hn) hx3 (by intro z; cases z))]; exact hA n hn
        have hx4 : (upd H3 x (.ins (He.ga K "Keys") dx [("_names", .ref t), ("_told", .ref d)])) x = some (.ins (He.ga K "Keys") dx [("_names", .ref t), ("_told", .ref d)]) := upd_same
        generalize (upd H3 x (.ins (He.ga K "Keys") dx [("_names", .ref t), ("_told", .ref d)])) = H4 at kp4 ht4 hd4 hA4 hx4
        refine ⟨_, rfl, x, _, dx, _, _, rfl, hx4, B.cl_Keys, B.no_Keys__names, rfl, t, rfl, ⟨_, SqT.of ht4⟩, fun D hD => ?_⟩
        refine lc_fm (walk_tup (xs := ns.map V.str)) (fun _ => Option.none) hD (by rw [List.length_map]; exact Nat.le_trans l7 (by decide)) (fun H' s' => sm_seqT s' (SqT.of ht4)) (fun i v H5 H6 Kt Kf hi s5 y kt kf => ?_) (fun H5 s5 hD5 => ?_)
        · obtain ⟨rfl, hv⟩ := y
          obtain ⟨n, hn, rfl⟩ := at_str hv
          have hni : n ∈ ns := List.mem_of_getElem? hn
          have gd : DGet H6 d (.str n) (some (.ref (A n))) := by
            have q := DGet.k (k := Sum.inr n) (s5 _ _ hd4)
            rw [valV_kvT hni] at q
            exact q
          refine ⟨rfl, _, rfl, _, rfl, x, _, dx, _, _, rfl, s5 _ _ hx4, B.cl_Keys, B.no_Keys__told, rfl, _, rfl, d, _, rfl, gd, _, _, rfl, .inr (SqT.of (s5 _ _ (hA4 n hni))), rfl, fl_str, _, rfl, two (fun h1 => ?_) (fun h1 => ?_)⟩
          · have h1' : inV (.str n) ((toldOf R ns n).map V.str) = true := h1
            rw [inV_str] at h1'
            exact absurd (of_decide_eq_true h1') (noring n hni)
          · exact kf _ rfl (Same.refl _)
        · have eD : (List.range (ns.map V.str).length).filterMap (fun _ => (Option.none : Option V)) = [] := by
            rw [List.filterMap_eq_nil_iff]
            intro _ _
            rfl
          rw [eD] at hD5
          refine ⟨D, [], rfl, .inl ⟨SqL.of hD5, fun r nr => ?_⟩⟩
          refine ⟨_, rfl, r, [], rfl, .inr (SqT.of upd_same), _, _, rfl, rfl, _, rfl, iteF ?_⟩
          have s6 : Same H4 (upd H5 r (.tup [])) := Same_lay s5 nr
          exact kQ _ ⟨dx, t, d, A, s6 _ _ hx4, s6 _ _ ht4, s6 _ _ hd4, fun n hn => s6 _ _ (hA4 n hn), nd, l7, fun n hn => gN n (((txAll_in names [] n).mp (pm.mem_iff.mp hn)).resolve_right List.not_mem_nil), fun n _ => ⟨Nat.le_trans (told_len R ns n) l7, fun z hz => (told_in.mp hz).1⟩⟩ (fun b o n q => s6 _ _ (kp4 _ _ n q))
  · have hd : d_Keys___init__.dvs K = [.ref (dflA (fun K => He.ma K (He.ga K "Keys") "__init__") 0 K)] := rfl
    rw [← hd]
    have q := F.binds1 (ps := ["self", "names", "tells"]) 2 0 (by rw [hd]; exact List.cons_ne_nil _ _) (by rw [hd]; rfl) (fun T kV doc pm an cdv ct us its hu hi => by
      rw [hd] at hi
      match us, its, hu, hi with
      | [_, _], [_], _, _ => exact ⟨_, rfl, rfl⟩)
    exact q
end
end Jd
namespace Jd
open PySem PySem.Spec PyProof.Rows L2
/-! ### dicts of tuples of texts compared -/
theorem eqv_strs : ∀ l m : List Str, PyData.eqvAll (l.map PyData.str) (m.map PyData.str) = decide (l = m)
  | [], [] => by simp [PyData.eqvAll]
  | [], y :: ys => by simp [PyData.eqvAll]
  | x :: xs, [] => by simp [PyData.eqvAll]
  | x :: xs, y :: ys => by
    rw [List.map_cons, List.map_cons, PyData.eqvAll, eqv_strs xs ys, PyData.eqv]
    by_cases h : x = y
    · subst h
      simp
    · have hb : (x == y) = false := by
        cases e : (x == y) with
        | false => rfl
        | true => exact absurd (eq_of_beq e) h
      rw [hb, Bool.false_and, decide_eq_false fun q => h (List.cons.inj q).1]
theorem lay_strs : ∀ l : List Str, (∀ z ∈ l, PyData.strOk z = true) → PyData.canLayAll0 (l.map PyData.str) = true
  | [], _ => by simp [PyData.canLayAll0]
  | x :: xs, h => by
    rw [List.map_cons]
    simp [PyData.canLayAll0, PyData.canLay0, lay_strs xs fun z hz => h z (List.mem_cons_of_mem _ hz), h x List.mem_cons_self]
theorem dep_strs : ∀ l : List Str, PyData.depthAll (l.map PyData.str) = 0
  | [] => by simp [PyData.depthAll]
  | x :: xs => by
    rw [List.map_cons]
    simp [PyData.depthAll, PyData.depth, dep_strs xs]
theorem dp_strs {K : PySem.W.Frag} {H : Hp} : ∀ l : List Str, DpAll K H (l.map V.str) (l.map PyData.str)
  | [] => .nil
  | x :: xs => .cons (.str x) (dp_strs xs)
def hitB (ms : List Str) (t u : Str → List Str) : List Str → Bool
  | [] => true
  | n :: r => if n ∈ ms then (decide (t n = u n) && hitB ms t u r) else false
theorem hitB_eq (ms : List Str) (t u : Str → List Str) : ∀ ns : List Str, hitB ms t u ns = decide (∀ n ∈ ns, n ∈ ms ∧ t n = u n)
  | [] => by
    unfold hitB
    exact (decide_eq_true fun n h => by cases h).symm
  | n :: r => by
    unfold hitB
    rw [hitB_eq ms t u r]
    by_cases h : n ∈ ms
    · rw [if_pos h, ← Bool.decide_and]
      refine decide_eq_decide.mpr ⟨fun q m hm => ?_, fun q => ⟨(q n List.mem_cons_self).2, fun m hm => q m (List.mem_cons_of_mem _ hm)⟩⟩
      rcases List.mem_cons.mp hm with rfl | hm
      · exact ⟨h, q.1⟩
      · exact q.2 m hm
    · rw [if_neg h]
      exact (decide_eq_false fun q => h (q n List.mem_cons_self).1).symm
def rEqT (K : PySem.W.Frag) : R2 := fun x y H Q => ∃ (a b : Addr) (ns ms : List Str) (A B : Str → Addr) (t u : Str → List Str), x = .ref a ∧ y = .ref b ∧ H a = some (.dK (kvT ns A)) ∧ H b = some (.dK (kvT ms B)) ∧
  (∀ n ∈ ns, H (A n) = some (.tup ((t n).map V.str))) ∧ (∀ n ∈ ms, H (B n) = some (.tup ((u n).map V.str))) ∧ (∀ n ∈ ns, ∀ z ∈ t n, PyData.strOk z = true) ∧ (∀ n ∈ ms, ∀ z ∈ u n, PyData.strOk z = true) ∧ Q (.bl (decide (ns.length = ms.length ∧ ∀ n ∈ ns, n ∈ ms ∧ t n = u n))) H
section
variable {X : Cx} {pins : List (Addr × Obj)} {σ : L2.St} {H : Hp} {s : Shared}
theorem hits_T (I : Inv X pins σ H s) {A0 : Around} (hu : A0.units + 1 < cLine) {ms : List Str} {A B : Str → Addr} {t u : Str → List Str} {vb : List (Key × Value)} (rb : KV (kvT ms B) vb) (hB : ∀ n ∈ ms, H (B n) = some (.tup ((u n).map V.str))) (gu : ∀ n ∈ ms, ∀ z ∈ u n, PyData.strOk z = true) :
    ∀ (ns : List Str) (va : List (Key × Value)), KV (kvT ns A) va → (∀ n ∈ ns, H (A n) = some (.tup ((t n).map V.str))) → (∀ n ∈ ns, ∀ z ∈ t n, PyData.strOk z = true) → PySem.W.KeqHitsP X.prog X.w A0 s vb va (hitB ms t u ns)
  | [], va, ra, _, _ => by
    cases ra
    exact .nil
  | n :: r, va, ra, hA, gt => by
    cases ra with
    | @cons p q ps qs h tl =>
      obtain ⟨key, v⟩ := q
      obtain ⟨h1, h2⟩ := h
      have h1' : (Sum.inr n : Key) = key := h1
      subst h1'
      cases (show v = Value.ref (A n) from h2)
      unfold hitB
      by_cases hm : n ∈ ms
      · rw [if_pos hm]
        have rr : RelO (some (V.ref (B n))) (valueAt vb (Sum.inr n)) := by
          have q := rb.val (Sum.inr n)
          rw [valV_kvT hm] at q
          exact q
        obtain ⟨y, hy, ry⟩ := rr.some_of
        cases (show y = Value.ref (B n) from ry)
        have d1 : Dp X.K H (.ref (A n)) (.tuple ((t n).map PyData.str)) := .tup (SqT.of (hA n List.mem_cons_self)) (dp_strs _)
        have d2 : Dp X.K H (.ref (B n)) (.tuple ((u n).map PyData.str)) := .tup (SqT.of (hB n hm)) (dp_strs _)
        obtain ⟨as, r1⟩ := Dp.reads I _ _ (.ref (A n)) d1 rfl
        obtain ⟨bs, r2⟩ := Dp.reads I _ _ (.ref (B n)) d2 rfl
        have e := SeqAt.eqAt_reads (.tuple ((t n).map PyData.str)) (.tuple ((u n).map PyData.str)) A0 s _ _ as bs r1 r2 (by simpa [PyData.canLay0] using lay_strs (t n) (gt n List.mem_cons_self)) (by simpa [PyData.canLay0] using lay_strs (u n) (gu n hm))
          (by
            have z1 : (PyData.tuple ((t n).map PyData.str)).depth = 1 := by simp [PyData.depth, dep_strs]
            rw [z1]
            have := Nat.min_le_left 1 (PyData.tuple ((u n).map PyData.str)).depth
            omega)
        have e2 : PyData.eqv (.tuple ((t n).map PyData.str)) (.tuple ((u n).map PyData.str)) = decide (t n = u n) := by
          rw [PyData.eqv]
          exact eqv_strs _ _
        rw [e2] at e
        exact .hit hy e.eqP (hits_T I hu rb hB gu r qs tl (fun m h => hA m (List.mem_cons_of_mem _ h)) fun m h => gt m (List.mem_cons_of_mem _ h))
      · rw [if_neg hm]
        have rr : RelO none (valueAt vb (Sum.inr n)) := by
          have q := rb.val (Sum.inr n)
          rw [valV_kvN hm] at q
          exact q
        exact .miss rr.none_of
theorem op_eqT (hu : X.A.units + 64 < cLine) : OpR X (compareOp .Eq) (rEqT X.K) := by
  intro pins s σ H x y v u Q I rx ry h
  obtain ⟨a, b, ns, ms, A, B, t, u', rfl, rfl, ha, hb, hA, hB, gt, gu, q⟩ := h
  cases (show v = Value.ref a from rx)
  cases (show u = Value.ref b from ry)
  obtain ⟨_, ya, va, ra, da⟩ := (show ObjOk X.prog X.w H s.heap a (.dK (kvT ns A)) from I.hok a _ ha)
  obtain ⟨_, yb, vb, rb, db⟩ := (show ObjOk X.prog X.w H s.heap b (.dK (kvT ms B)) from I.hok b _ hb)
  show wpAny (model X.prog X.w) X.A (richCompare .Eq (.ref a) (.ref b)) (EP X pins σ Q) X.xe s
  refine PySem.W.rcP_dicts (knd := mixKind X.prog X.w) (r := hitB ms t u' ns) ya yb da db (by omega) (fun _ => hits_T I (A0 := X.A.in1) (by show X.A.units + 1 + 1 < cLine; omega) rb hB gu ns va ra hA gt) _ _ ?_
  have e1 : va.length = ns.length := by rw [← ra.length, kvT_len]
  have e2 : vb.length = ms.length := by rw [← rb.length, kvT_len]
  have e : (va.length == vb.length && hitB ms t u' ns) = decide (ns.length = ms.length ∧ ∀ n ∈ ns, n ∈ ms ∧ t n = u' n) := by
    rw [e1, e2, hitB_eq, Bool.decide_and]
    rfl
  rw [e]
  exact ⟨.bl _, H, I, rfl, q⟩
end
end Jd
namespace Jd
open PySem PySem.Spec PyProof.Rows L2
/-! ### Keys asked -/
section
variable {J : It} {n : Nat} {G : Hp → Prop} {Y : Nat → Hp → V → Hp → Prop}
/-- a comprehension's outer walk: what a turn does is told whole -/
theorem walk_by (w : Walk J n G Y) (T : (Hp → Prop) → V → Hp → Prop) (Pv : Nat → Hp → Prop) {Z : Hp} {Qd : Hp → Prop} (h0 : Pv 0 Z) (hG : ∀ i H, Pv i H → G H)
    (hs : ∀ i x H H', i < n → Pv i H → Y i H x H' → T (Pv (i + 1)) x H') (hd : ∀ H, Pv n H → Qd H) :
    ∃ W : Nat → Nat → Hp → Prop, (∃ m, W 0 m Z) ∧ ∀ i m H, W i m H → (J.stop i H ∧ Qd H) ∨ (J.go i H ∧ ∃ Nx : Hp → Prop, (∀ H', Nx H' → ∃ m', m' < m ∧ W (i + 1) m' H') ∧ ∀ x H', J.yld i H x H' → T Nx x H') := by
  refine ⟨fun i m H => i + m = n ∧ Pv i H, ⟨n, by omega, h0⟩, fun i m H hw => ?_⟩
  obtain ⟨e, p⟩ := hw
  rcases Nat.eq_zero_or_pos m with z | z
  · have ei : i = n := by omega
    rw [ei] at p
    exact .inl ⟨by rw [ei]; exact w.stops H (hG _ _ p), hd H p⟩
  · have li : i < n := by omega
    exact .inr ⟨w.goes i H li (hG _ _ p), Pv (i + 1), fun H' q => ⟨m - 1, by omega, by omega, q⟩, fun x H' y => hs i x H H' li p (w.yields i H x H' li (hG _ _ p) y)⟩
end
/-- tuples of two texts, one behind another -/
def PrAt (H : Hp) (qs : List Addr) (prs : List (Str × Str)) : Prop := qs.length = prs.length ∧ ∀ (i : Nat) (q : Addr), qs[i]? = some q → ∃ pr, prs[i]? = some pr ∧ H q = some (.tup [.str pr.1, .str pr.2])
theorem PrAt.same {H H' : Hp} {qs : List Addr} {prs : List (Str × Str)} (h : PrAt H qs prs) (s : Same H H') : PrAt H' qs prs := ⟨h.1, fun i q hq => let ⟨pr, e, z⟩ := h.2 i q hq; ⟨pr, e, s _ _ z⟩⟩
theorem PrAt.nil {H : Hp} : PrAt H [] [] := ⟨rfl, fun i q h => by cases h⟩
theorem PrAt.snoc {H : Hp} {qs : List Addr} {prs : List (Str × Str)} {q : Addr} {pr : Str × Str} (h : PrAt H qs prs) (hq : H q = some (.tup [.str pr.1, .str pr.2])) : PrAt H (qs ++ [q]) (prs ++ [pr]) := by
  refine ⟨by rw [List.length_append, List.length_append, h.1]; rfl, fun i p hp => ?_⟩
  by_cases hi : i < qs.length
  · rw [List.getElem?_append_left hi] at hp
    obtain ⟨pr', e, z⟩ := h.2 i p hp
    exact ⟨pr', by rw [List.getElem?_append_left (by rw [← h.1]; exact hi)]; exact e, z⟩
  · rw [List.getElem?_append_right (by omega)] at hp
    have i0 : i - qs.length = 0 := by
      rcases Nat.eq_zero_or_pos (i - qs.length) with z | z
      · exact z
      · rw [List.getElem?_eq_none (by show 1 ≤ _; omega)] at hp
        cases hp
    rw [i0] at hp
    cases hp
    refine ⟨pr, ?_, hq⟩
    rw [List.getElem?_append_right (by rw [← h.1]; omega), ← h.1, i0]
    rfl
def pairsOf (ns : List Str) (t : Str → List Str) : List (Str × Str) := ns.flatMap fun n => (t n).map fun o => (n, o)
theorem pairs_len {t : Str → List Str} : ∀ {ns : List Str}, (∀ n ∈ ns, (t n).length ≤ 7) → (pairsOf ns t).length ≤ 7 * ns.length
  | [], _ => Nat.le_refl _
  | n :: r, h => by
    have q := pairs_len (ns := r) fun m hm => h m (List.mem_cons_of_mem _ hm)
    have q2 := h n List.mem_cons_self
    unfold pairsOf at q ⊢
    rw [List.flatMap_cons, List.length_append, List.length_map, List.length_cons]
    omega
theorem pairs_snoc {ns : List Str} {t : Str → List Str} {n : Str} : pairsOf (ns ++ [n]) t = pairsOf ns t ++ (t n).map fun o => (n, o) := by
  unfold pairsOf
  rw [List.flatMap_append]
  simp
def spCheck (K : PySem.W.Frag) : Sp := fun vs H Q E => ∃ (x : Addr) (z : Str) (ns : List Str) (t : Str → List Str), vs = [.ref x, .str z] ∧ KeysO K H x ns t ∧ ((z = "#" ∨ z ∈ ns) → Q .non H) ∧
  (¬ (z = "#" ∨ z ∈ ns) → ∀ H' d, Same H H' → H' d = some (.xd [("name", .str z)]) → E (.ref (He.ga K "NoName")) (some d) H')
def toldAt (ns : List Str) (t : Str → List Str) (z : Str) : List Str := if z = "#" then ns else t z
def spTold (K : PySem.W.Frag) : Sp := fun vs H Q E => ∃ (x : Addr) (z : Str) (ns : List Str) (t : Str → List Str), vs = [.ref x, .str z] ∧ KeysO K H x ns t ∧ ((z = "#" ∨ z ∈ ns) → ∀ p, H p = some (.tup ((toldAt ns t z).map V.str)) → Q (.ref p) H) ∧
  (¬ (z = "#" ∨ z ∈ ns) → ∀ H' d, Same H H' → H' d = some (.xd [("name", .str z)]) → E (.ref (He.ga K "NoName")) (some d) H')
def spTells (K : PySem.W.Frag) : Sp := fun vs H Q E => ∃ (x : Addr) (z y : Str) (ns : List Str) (t : Str → List Str), vs = [.ref x, .str z, .str y] ∧ KeysO K H x ns t ∧ ((z = "#" ∨ z ∈ ns) → (y = "#" ∨ y ∈ ns) → Q (.bl (decide (y ∈ toldAt ns t z))) H) ∧
  (∀ b : Str, (if (z = "#" ∨ z ∈ ns) then (¬ (y = "#" ∨ y ∈ ns) ∧ b = y) else b = z) → ∀ H' d, Same H H' → H' d = some (.xd [("name", .str b)]) → E (.ref (He.ga K "NoName")) (some d) H')
def spNames (K : PySem.W.Frag) : Sp := fun vs H Q _ => ∃ (x : Addr) (ns : List Str) (t : Str → List Str), vs = [.ref x] ∧ KeysO K H x ns t ∧ ∀ p, H p = some (.tup (ns.map V.str)) → Q (.ref p) H
def spPairs (K : PySem.W.Frag) : Sp := fun vs H Q _ => ∃ (x : Addr) (ns : List Str) (t : Str → List Str), vs = [.ref x] ∧ KeysO K H x ns t ∧ ∀ H' p qs, Same H H' → H' p = some (.tup (qs.map V.ref)) → PrAt H' qs (pairsOf ns t) → Q (.ref p) H'
def spHas (K : PySem.W.Frag) : Sp := fun vs H Q _ => ∃ (x : Addr) (z : Str) (ns : List Str) (t : Str → List Str), vs = [.ref x, .str z] ∧ KeysO K H x ns t ∧ Q (.bl (decide (z ∈ ns))) H
def spLenK (K : PySem.W.Frag) : Sp := fun vs H Q _ => ∃ (x : Addr) (ns : List Str) (t : Str → List Str), vs = [.ref x] ∧ KeysO K H x ns t ∧ Q (.int ns.length) H
def spEqK (K : PySem.W.Frag) : Sp := fun vs H Q _ => ∃ (x y : Addr) (ns : List Str) (t : Str → List Str), vs = [.ref x, .ref y] ∧ KeysO K H x ns t ∧
  ((∃ (ms : List Str) (u : Str → List Str), KeysO K H y ms u ∧ Q (.bl (decide (ns.length = ms.length ∧ ∀ n ∈ ns, n ∈ ms ∧ t n = u n))) H) ∨ ((∃ xs, H y = some (.tup xs)) ∧ Q (.bl false) H))
/-- a name that is none, told by its error -/
theorem rd_nn {C : Addr} {i : Nat} {σ : L2.St} {H1 : Hp} {z : Str} {E : XK} (hσ : σ[i]? = some (some (.str z))) (h : ∀ H' d, Same H1 H' → H' d = some (.xd [("name", .str z)]) → E (.ref C) (some d) H') : tMkO C (spNN C) [] (tCons (tVar i) tNil) σ H1 E := by
  refine ⟨_, hσ, (by show 1 ≤ 1000; decide), fun a na => ⟨a, _, rfl, upd_same, fun ex nd ne => ⟨rfl, ex, [("name", .str z)], upd_same, ?_, ?_, ?_⟩⟩⟩
  · rw [upd_ne ne, upd_same]
  · rw [upd_ne ne] at nd
    exact nd
  · have nd' : H1 ex = none := by
      rw [upd_ne ne] at nd
      exact nd
    refine h _ ex (fun b o q => ?_) upd_same
    have nb : b ≠ a := ne_of_none q na
    rw [upd_ne (ne_of_none q nd'), del_ne nb, upd_ne nb, upd_ne (ne_of_none q nd'), upd_ne nb]
    exact q
theorem str_eq (a b : Str) : decide (V.str a = V.str b) = decide (a = b) := decide_eq_decide.mpr ⟨V.str.inj, fun e => e ▸ rfl⟩
section
variable {P : Program} {w : World} {K : PySem.W.Frag} {mg : Str → Option Value} {base : Heap}
theorem sc_ck : FnScope ["self", "name"] ["self", "name"] (defScope s_Keys__check) := ⟨rfl, rfl, rfl, by decide +kernel, rfl, by decide +kernel, by decide +kernel⟩
theorem ok_check (B : Bk K mg) : ∃ fd, FnOk P w K mg base (L2.CX P w) 3 (He.ma K (He.ga K "Keys") "_check") fd ["self", "name"] (spCheck K) ∧ Binds K fd ["self", "name"] [] := by
  obtain ⟨fd, F⟩ := B.F_Keys__check
  obtain ⟨fdE, GE, bE⟩ := ok_nn (P := P) (w := w) (base := base) B
  obtain ⟨lxc, li, lt⟩ := B.lx_NoName
  refine ⟨fd, ?_, F.binds fun _ _ _ _ _ _ us hl => match us, hl with | [_, _], _ => rfl⟩
  refine F.okX sc_ck (fun vs H Q E h => ?_) (fun cdv A outer s H vs Q E hr h => ?_)
  · obtain ⟨_, _, _, _, rfl, _⟩ := h
    rfl
  · obtain ⟨x, z, ns, t, rfl, ⟨dx, tn, d, A, hx, ht, hd, hq⟩, k, kE⟩ := h
    refine ⟨_, pss_one (ps_if (PW.pt (pw_and (pt_cmpR op_ne (pv 1) pe_str (nomark _)) (pw_and1 (pt_cmpR op_notIn_seq (pv 1) (pe_fld (pv 0) rfl) (by rfl)))))
      (pss_one (ps_raise rfl (takes_of rfl rfl rfl rfl) (pmk_lex lxc li lt GE hr bE .nil pass0 (by rfl) B.g_NoName (pa_cons (pv 1) pa_nil)))) pss_nil), ?_⟩
    refine ⟨_, rfl, rfl, _, rfl, two (fun h1 => ?_) (fun h1 => ?_)⟩
    · refine ⟨_, rfl, _, rfl, x, _, dx, _, _, rfl, hx, B.cl_Keys, B.no_Keys__names, rfl, tn, _, rfl, .inr (SqT.of ht), rfl, fl_str, _, rfl, two (fun h2 => ?_) (fun h2 => ?_)⟩
      · have h1' : (!decide (V.str z = V.str "#")) = true := h1
        have h2' : (!inV (.str z) (ns.map V.str)) = true := h2
        rw [str_eq] at h1'
        rw [inV_str] at h2'
        have n1 : ¬ z = "#" := fun q => by rw [decide_eq_true q] at h1'; cases h1'
        have n2 : z ∉ ns := fun q => by rw [decide_eq_true q] at h2'; cases h2'
        exact rd_nn rfl (kE fun q => q.elim n1 n2)
      · have h2' : (!inV (.str z) (ns.map V.str)) = false := h2
        rw [inV_str] at h2'
        have n2 : z ∈ ns := by
          by_cases q : z ∈ ns
          · exact q
          · rw [decide_eq_false q] at h2'; cases h2'
        exact k (.inr n2)
    · have h1' : (!decide (V.str z = V.str "#")) = false := h1
      rw [str_eq] at h1'
      have n1 : z = "#" := by
        by_cases q : z = "#"
        · exact q
        · rw [decide_eq_false q] at h1'; cases h1'
      exact iteF (k (.inl n1))
theorem sc_td : FnScope ["self", "name"] ["self", "name"] (defScope s_Keys_told) := ⟨rfl, rfl, rfl, by decide +kernel, rfl, by decide +kernel, by decide +kernel⟩
theorem ok_told (B : Bk K mg) : ∃ fd, FnOk P w K mg base (L2.CX P w) 4 (He.ma K (He.ga K "Keys") "told") fd ["self", "name"] (spTold K) ∧ Fun K "told" "Keys.told" s_Keys_told (He.ma K (He.ga K "Keys") "told") fd := by
  obtain ⟨fd, F⟩ := B.F_Keys_told
  obtain ⟨fdC, GC, bC⟩ := ok_check (P := P) (w := w) (base := base) B
  refine ⟨fd, ?_, F⟩
  refine F.okX sc_td (fun vs H Q E h => ?_) (fun cdv A outer s H vs Q E hr h => ?_)
  · obtain ⟨_, _, _, _, rfl, _⟩ := h
    rfl
  · obtain ⟨x, z, ns, t, rfl, ko, k, kE⟩ := h
    have hu := hu_of hr
    refine ⟨_, pss_cons (ps_expr (pe_meth (pv 0) B.cl_Keys B.me_Keys__check GC hr bC .nil (passes_call (takes_of rfl rfl rfl rfl) (fun _ _ _ _ h => h)) (pa_cons (pv 1) pa_nil)))
      (pss_cons (ps_if (pt_cmpR op_eq (pv 1) pe_str (nomark _)) (pss_one (ps_ret (pe_fld (pv 0) rfl))) pss_nil)
      (pss_one (ps_ret (pe_dget hu (pe_fld (pv 0) rfl) (pv 1) (fun _ _ => rfl))))), ?_⟩
    obtain ⟨dx, tn, d, A, hx, ht, hd, hq, _⟩ := id ko
    refine ⟨_, rfl, x, dx, _, rfl, hx, rfl, _, rfl, x, z, ns, t, rfl, ko, fun hz => ?_, kE⟩
    have k := k hz
    refine ⟨_, rfl, rfl, _, rfl, two (fun h1 => ?_) (fun h1 => ?_)⟩
    · have h1' : decide (V.str z = V.str "#") = true := h1
      rw [str_eq] at h1'
      have e : z = "#" := of_decide_eq_true h1'
      unfold toldAt at k
      rw [if_pos e] at k
      exact ⟨_, rfl, x, _, dx, _, _, rfl, hx, B.cl_Keys, B.no_Keys__names, rfl, k tn ht⟩
    · have h1' : decide (V.str z = V.str "#") = false := h1
      rw [str_eq] at h1'
      have e : ¬ z = "#" := of_decide_eq_false h1'
      unfold toldAt at k
      rw [if_neg e] at k
      have hz2 : z ∈ ns := hz.resolve_left e
      have gd : DGet H d (.str z) (some (.ref (A z))) := by
        have q := DGet.k (k := Sum.inr z) hd
        rw [valV_kvT hz2] at q
        exact q
      exact ⟨_, rfl, x, _, dx, _, _, rfl, hx, B.cl_Keys, B.no_Keys__told, rfl, _, rfl, d, _, rfl, gd, k _ (hq z hz2)⟩
theorem sc_tl : FnScope ["self", "one", "other"] ["self", "one", "other"] (defScope s_Keys_tells) := ⟨rfl, rfl, rfl, by decide +kernel, rfl, by decide +kernel, by decide +kernel⟩
theorem ok_tells (B : Bk K mg) : ∃ fd, FnOk P w K mg base (L2.CX P w) 5 (He.ma K (He.ga K "Keys") "tells") fd ["self", "one", "other"] (spTells K) ∧ Fun K "tells" "Keys.tells" s_Keys_tells (He.ma K (He.ga K "Keys") "tells") fd := by
  obtain ⟨fd, F⟩ := B.F_Keys_tells
  obtain ⟨fdC, GC, bC⟩ := ok_check (P := P) (w := w) (base := base) B
  obtain ⟨fdT, GT, FT⟩ := ok_told (P := P) (w := w) (base := base) B
  have bT : Binds K fdT ["self", "name"] [] := FT.binds fun _ _ _ _ _ _ us hl => match us, hl with | [_, _], _ => rfl
  refine ⟨fd, ?_, F⟩
  refine F.okX sc_tl (fun vs H Q E h => ?_) (fun cdv A outer s H vs Q E hr h => ?_)
  · obtain ⟨_, _, _, _, _, rfl, _⟩ := h
    rfl
  · obtain ⟨x, z, y, ns, t, rfl, ko, k, kE⟩ := h
    have hr3 : Room 3 _ := hr.mono (by decide)
    refine ⟨_, pss_cons (ps_expr (pe_meth (pv 0) B.cl_Keys B.me_Keys__check GC hr3 bC .nil (passes_call (takes_of rfl rfl rfl rfl) (fun _ _ _ _ h => h)) (pa_cons (pv 1) pa_nil)))
      (pss_cons (ps_expr (pe_meth (pv 0) B.cl_Keys B.me_Keys__check GC hr3 bC .nil (passes_call (takes_of rfl rfl rfl rfl) (fun _ _ _ _ h => h)) (pa_cons (pv 2) pa_nil)))
      (pss_one (ps_ret (pe_cmpR op_in_seq (pv 2) (pe_meth (pv 0) B.cl_Keys B.me_Keys_told GT hr bT .nil (passes_call (takes_of rfl rfl rfl rfl) (fun _ _ _ _ h => h)) (pa_cons (pv 1) pa_nil)) (by rfl))))), ?_⟩
    obtain ⟨dx, tn, d, A, hx, _⟩ := id ko
    refine ⟨_, rfl, x, dx, _, rfl, hx, rfl, _, rfl, x, z, ns, t, rfl, ko, fun hz => ?_, fun hz => kE z (by rw [if_neg hz])⟩
    refine ⟨_, rfl, x, dx, _, rfl, hx, rfl, _, rfl, x, y, ns, t, rfl, ko, fun hy => ?_, fun hy => kE y (by rw [if_pos hz]; exact ⟨hy, rfl⟩)⟩
    refine ⟨_, rfl, _, rfl, x, dx, _, rfl, hx, rfl, _, rfl, x, z, ns, t, rfl, ko, fun _ p hp => ?_, fun h => absurd hz h⟩
    refine ⟨p, _, rfl, .inr (SqT.of hp), rfl, fl_str, ?_⟩
    show Q (.bl (inV (.str y) ((toldAt ns t z).map V.str))) H
    rw [inV_str]
    exact k hz hy
theorem sc_nm : FnScope ["self"] ["self"] (defScope s_Keys_p_names) := ⟨rfl, rfl, rfl, by decide +kernel, rfl, by decide +kernel, by decide +kernel⟩
theorem ok_names (B : Bk K mg) : ∃ fd, FnOk P w K mg base CX0 1 (propG K "Keys" "names") fd ["self"] (spNames K) ∧ Binds K fd ["self"] [] := by
  obtain ⟨fd, F⟩ := B.F_Keys_p_names
  refine ⟨fd, ?_, F.binds fun _ _ _ _ _ _ us hl => match us, hl with | [_], _ => rfl⟩
  refine F.ok sc_nm (fun vs H Q E h => ?_) (fun cdv A outer s H vs Q E hr h => ?_)
  · obtain ⟨_, _, _, rfl, _⟩ := h
    rfl
  · obtain ⟨x, ns, t, rfl, ⟨dx, tn, d, A, hx, ht, hd, hq⟩, k⟩ := h
    refine ⟨_, pss_one (ps_ret (pe_fld (pv 0) rfl)), ?_⟩
    exact ⟨_, rfl, x, _, dx, _, _, rfl, hx, B.cl_Keys, B.no_Keys__names, rfl, k tn ht⟩
theorem sc_hs : FnScope ["self", "name"] ["self", "name"] (defScope s_Keys___contains__) := ⟨rfl, rfl, rfl, by decide +kernel, rfl, by decide +kernel, by decide +kernel⟩
theorem ok_has (B : Bk K mg) : ∃ fd, FnOk P w K mg base CX0 1 (He.ma K (He.ga K "Keys") "__contains__") fd ["self", "name"] (spHas K) ∧ Binds K fd ["self", "name"] [] := by
  obtain ⟨fd, F⟩ := B.F_Keys___contains
  refine ⟨fd, ?_, F.binds fun _ _ _ _ _ _ us hl => match us, hl with | [_, _], _ => rfl⟩
  refine F.ok sc_hs (fun vs H Q E h => ?_) (fun cdv A outer s H vs Q E hr h => ?_)
  · obtain ⟨_, _, _, _, rfl, _⟩ := h
    rfl
  · obtain ⟨x, z, ns, t, rfl, ⟨dx, tn, d, A, hx, ht, hd, hq⟩, k⟩ := h
    refine ⟨_, pss_one (ps_ret (pe_cmpR op_in_seq (pv 1) (pe_fld (pv 0) rfl) (by rfl))), ?_⟩
    refine ⟨_, rfl, _, rfl, x, _, dx, _, _, rfl, hx, B.cl_Keys, B.no_Keys__names, rfl, tn, _, rfl, .inr (SqT.of ht), rfl, fl_str, ?_⟩
    show Q (.bl (inV (.str z) (ns.map V.str))) H
    rw [inV_str]
    exact k
theorem sc_ln : FnScope ["self"] ["self"] (defScope s_Keys___len__) := ⟨rfl, rfl, rfl, by decide +kernel, rfl, by decide +kernel, by decide +kernel⟩
theorem ok_lenK (B : Bk K mg) : ∃ fd, FnOk P w K mg base CX0 1 (He.ma K (He.ga K "Keys") "__len__") fd ["self"] (spLenK K) ∧ Binds K fd ["self"] [] := by
  obtain ⟨fd, F⟩ := B.F_Keys___len
  refine ⟨fd, ?_, F.binds fun _ _ _ _ _ _ us hl => match us, hl with | [_], _ => rfl⟩
  refine F.ok sc_ln (fun vs H Q E h => ?_) (fun cdv A outer s H vs Q E hr h => ?_)
  · obtain ⟨_, _, _, rfl, _⟩ := h
    rfl
  · obtain ⟨x, ns, t, rfl, ⟨dx, tn, d, A, hx, ht, hd, hq⟩, k⟩ := h
    refine ⟨_, pss_one (ps_ret (pe_callB call_len_seq (by rfl) B.b_len (by decide +kernel) (pa_cons (pe_fld (pv 0) rfl) pa_nil))), ?_⟩
    refine ⟨_, rfl, x, _, dx, _, _, rfl, hx, B.cl_Keys, B.no_Keys__names, rfl, tn, _, rfl, .inr (SqT.of ht), ?_⟩
    show Q (.int ((ns.map V.str).length : Nat)) H
    rw [List.length_map]
    exact k
theorem sc_eq : FnScope ["self", "other"] ["self", "other"] (defScope s_Keys___eq__) := ⟨rfl, rfl, rfl, by decide +kernel, rfl, by decide +kernel, by decide +kernel⟩
theorem ok_eqK (B : Bk K mg) : ∃ fd, FnOk P w K mg base CX0 1 (He.ma K (He.ga K "Keys") "__eq__") fd ["self", "other"] (spEqK K) ∧ Binds K fd ["self", "other"] [] := by
  obtain ⟨fd, F⟩ := B.F_Keys___eq
  refine ⟨fd, ?_, F.binds fun _ _ _ _ _ _ us hl => match us, hl with | [_, _], _ => rfl⟩
  refine F.ok sc_eq (fun vs H Q E h => ?_) (fun cdv A outer s H vs Q E hr h => ?_)
  · obtain ⟨_, _, _, _, rfl, _⟩ := h
    rfl
  · obtain ⟨x, y, ns, t, rfl, ⟨dx, tn, d, A, hx, ht, hd, hq, g1, g2, g3, g4⟩, h⟩ := h
    refine ⟨_, pss_one (ps_ret (pe_and (pe_callB call_isi (by rfl) B.b_isinstance (by decide +kernel) (pa_cons (pv 1) (pa_cons (pe_glob (v := .ref (He.ga K "Keys")) rfl B.g_Keys rfl) pa_nil)))
      (pe_one (pe_cmpR (op_eqT hr.units) (pe_fld (pv 0) rfl) (pe_fld (pv 1) rfl) (nomark _))))), ?_⟩
    rcases h with ⟨ms, u, ⟨ey, tm, e, B', hy, hm, he, hq', f1, f2, f3, f4⟩, k⟩ | ⟨⟨xs, hy⟩, k⟩
    · obtain ⟨ha, hn, htk, hmo⟩ := B.ty_Keys
      refine ⟨_, rfl, _, _, _, _, _, rfl, .own _, .base (.ins hy B.cl_Keys ha hn htk hmo), B.kit_Keys_Keys, _, rfl, iteT ?_⟩
      refine ⟨_, rfl, x, _, dx, _, _, rfl, hx, B.cl_Keys, B.no_Keys__told, rfl, _, rfl, y, _, ey, _, _, rfl, hy, B.cl_Keys, B.no_Keys__told, rfl, ?_⟩
      exact ⟨d, e, ns, ms, A, B', t, u, rfl, rfl, hd, he, hq, hq', fun n hn z hz => g3 z ((g4 n hn).2 z hz), fun n hn z hz => f3 z ((f4 n hn).2 z hz), k⟩
    · exact ⟨_, rfl, _, _, _, _, _, rfl, .own _, .base (.tup hy), B.kit_tuple_Keys, _, rfl, iteF k⟩
theorem sc_pr : FnScope ["self", "one", "other"] ["self"] (defScope s_Keys_p_pairs) := ⟨rfl, rfl, rfl, by decide +kernel, rfl, by decide +kernel, by decide +kernel⟩
theorem ok_pairs (B : Bk K mg) : ∃ fd, FnOk P w K mg base CX0 1 (propG K "Keys" "pairs") fd ["self"] (spPairs K) ∧ Binds K fd ["self"] [] := by
  obtain ⟨fd, F⟩ := B.F_Keys_p_pairs
  refine ⟨fd, ?_, F.binds fun _ _ _ _ _ _ us hl => match us, hl with | [_], _ => rfl⟩
  refine F.ok sc_pr (fun vs H Q E h => ?_) (fun cdv A outer s H vs Q E hr h => ?_)
  · obtain ⟨_, _, _, rfl, _⟩ := h
    rfl
  · obtain ⟨x, ns, t, rfl, ⟨dx, tn, d, A, hx, ht, hd, hq, g1, g2, g3, g4⟩, k⟩ := h
    have hu := hu_of hr
    refine ⟨_, pss_one (ps_ret (pe_callTy call_tuple_of (by rfl) B.b_tuple (by decide +kernel) (pa_cons (pe_lc2 (own := [("one", 1), ("other", 2)]) (vs1 := [2]) (g := gName 1) (g1 := gName 2) (tt := tYes) (tt1 := tYes)
          (wi1 := iTup K (tDGet (tFld K (tVar 0) "_told") (tVar 1))) rfl sc_pr.nd (pi_tup (pe_fld (pv 0) rfl)) (blkOk_by (N := ["self", "one", "other"]) (sc := defScope s_Keys_p_pairs) (by decide +kernel)) (by decide)
          (fun _ _ _ _ _ => pg_name (i := 1) sc_pr.nd rfl (Or.inl rfl)) (fun _ _ _ _ _ => pts_nil)
          (fun _ _ _ _ _ => pi_tup (pe_dget hu (pe_fld (pv 0) rfl) (pv 1) (fun _ _ => rfl))) (fun _ _ _ _ _ => pg_name (i := 2) sc_pr.nd rfl (Or.inl rfl)) (fun _ _ _ _ _ => pts_nil) (fun _ _ _ _ _ => pe_tup (pa_cons (pv 1) (pa_cons (pv 2) pa_nil)))) pa_nil))), ?_⟩
    refine ⟨_, rfl, x, _, dx, _, _, rfl, hx, B.cl_Keys, B.no_Keys__names, rfl, tn, rfl, ⟨_, SqT.of ht⟩, fun D hD => ?_⟩
    refine walk_by (walk_tup (xs := ns.map V.str)) _ (fun i H' => Same H H' ∧ i ≤ ns.length ∧ ∃ qs : List Addr, H' D = some (.lst (qs.map V.ref)) ∧ PrAt H' qs (pairsOf (ns.take i) t))
      ⟨Same_new hD, Nat.zero_le _, [], upd_same, PrAt.nil⟩ (fun i H' p => sm_seqT p.1 (SqT.of ht)) (fun i v H1 H2 hi ⟨s1, li, qs, hD1, hp1⟩ y => ?_) (fun H1 ⟨s1, _, qs, hD1, hp1⟩ => ?_)
    · obtain ⟨rfl, hv⟩ := y
      obtain ⟨n, hn, rfl⟩ := at_str hv
      have hni : n ∈ ns := List.mem_of_getElem? hn
      have gd : ∀ H', Same H H' → DGet H' d (.str n) (some (.ref (A n))) := fun H' s' => by
        have q := DGet.k (k := Sum.inr n) (s' _ _ hd)
        rw [valV_kvT hni] at q
        exact q
      have hi' : i < ns.length := by rw [List.length_map] at hi; exact hi
      refine ⟨rfl, iteT (B := Same H H2 ∧ i + 1 ≤ ns.length ∧ ∃ qs : List Addr, H2 D = some (.lst (qs.map V.ref)) ∧ PrAt H2 qs (pairsOf (ns.take (i + 1)) t)) ?_⟩
      refine ⟨_, rfl, x, _, dx, _, _, rfl, s1 _ _ hx, B.cl_Keys, B.no_Keys__told, rfl, _, rfl, d, _, rfl, gd _ s1, _, rfl, ⟨_, SqT.of (s1 _ _ (hq n hni))⟩, ?_⟩
      refine walk_by (walk_tup (xs := (t n).map V.str)) _ (fun j H' => Same H H' ∧ j ≤ (t n).length ∧ ∃ qs : List Addr, H' D = some (.lst (qs.map V.ref)) ∧ PrAt H' qs (pairsOf (ns.take i) t ++ ((t n).take j).map fun o => (n, o)))
        ⟨s1, Nat.zero_le _, qs, hD1, by rw [List.take_zero, List.map_nil, List.append_nil]; exact hp1⟩ (fun j H' p => sm_seqT p.1 (SqT.of (hq n hni))) (fun j v H3 H4 hj ⟨s3, lj, qs3, hD3, hp3⟩ y => ?_) (fun H3 ⟨s3, _, qs3, hD3, hp3⟩ => ?_)
      · obtain ⟨rfl, hv⟩ := y
        obtain ⟨o, ho, rfl⟩ := at_str hv
        have hj' : j < (t n).length := by rw [List.length_map] at hj; exact hj
        refine ⟨rfl, iteT (B := ∃ z : Nat, z = 0) ?_⟩
        refine ⟨_, rfl, _, rfl, (by show 2 ≤ sizeLine; decide), fun q nq => ?_⟩
        have s4 := Same_new (o := HO.tup [.str n, .str o]) nq
        have hD4 := s4 _ _ hD3
        have lq : qs3.length < sizeLine := by
          have z := hp3.1
          rw [List.length_append, List.length_map, List.length_take] at z
          have z2 := pairs_len (ns := ns.take i) (t := t) fun m hm => (g4 m (List.mem_of_mem_take hm)).1
          rw [List.length_take] at z2
          have z3 := (g4 n hni).1
          have : (1000 : Nat) < sizeLine := by decide
          have z4 : min i ns.length ≤ 7 := Nat.le_trans (Nat.min_le_right _ _) g2
          have z5 : min j (t n).length ≤ 7 := Nat.le_trans (Nat.min_le_right _ _) z3
          omega
        refine ⟨_, hD4, by rw [List.length_map]; exact lq, fun b o' q' => ?_, hj', qs3 ++ [q], ?_, ?_⟩
        · rw [upd_ne (ne_of_none q' hD)]
          exact s4 _ _ (s3 _ _ q')
        · rw [upd_same, List.map_append]
          rfl
        · rw [List.take_add_one, ho, List.map_append, ← List.append_assoc]
          have nqD : q ≠ D := fun z => by rw [z, hD3] at nq; cases nq
          refine PrAt.snoc (pr := (n, o)) ⟨hp3.1, fun i' p hp => ?_⟩ (by rw [upd_ne nqD, upd_same])
          obtain ⟨pr, e1, e2⟩ := hp3.2 i' p hp
          refine ⟨pr, e1, ?_⟩
          have e3 := s4 _ _ e2
          rw [upd_ne (ne_of e3 hD4 (by intro z; cases z))]
          exact e3
      · refine ⟨s3, hi', qs3, hD3, ?_⟩
        rw [List.length_map, List.take_length, ← pairs_snoc, ← take_next hn] at hp3
        exact hp3
    · refine ⟨D, _, rfl, .inl ⟨SqL.of hD1, fun r nr => ?_⟩⟩
      rw [List.length_map, List.take_length] at hp1
      exact k _ r qs (Same_lay s1 nr) upd_same (hp1.same (Same_new nr))
end
end Jd
namespace Jd
open PySem PySem.Spec PyProof.Rows L2
/-! ### the urn -/
/-- all but the object at u is as it was -/
def Keep (u : Addr) (H H' : Hp) : Prop := ∀ b o, b ≠ u → H b = some o → H' b = some o
theorem Keep.trans {u : Addr} {H H1 H2 : Hp} (a : Keep u H H1) (b : Keep u H1 H2) : Keep u H H2 := fun c o n h => b c o n (a c o n h)
theorem Keep.refl (u : Addr) (H : Hp) : Keep u H H := fun _ _ _ h => h
theorem Same.keep {u : Addr} {H H' : Hp} (s : Same H H') : Keep u H H' := fun b o _ h => s b o h
theorem Keep_upd {u : Addr} {H : Hp} {o : HO} : Keep u H (upd H u o) := fun b q n h => by rw [upd_ne n]; exact h
theorem Keep.at {u : Addr} {H H' : Hp} (k : Keep u H H') {b : Addr} {o : HO} (h : H b = some o) (n : b ≠ u) : H' b = some o := k b o n h
def Urn (H : Hp) (u : Addr) (n : Nat) : Prop := ∃ a b c : Int, H u = some (.lst [.int a, .int b, .int c]) ∧ 0 ≤ c ∧ c ≤ (n : Int)
theorem Urn.same {H H' : Hp} {u : Addr} {n : Nat} (h : Urn H u n) (s : Same H H') : Urn H' u n := by
  obtain ⟨a, b, c, h, h1⟩ := h
  exact ⟨a, b, c, s _ _ h, h1⟩
theorem Urn.some {H : Hp} {u : Addr} {n : Nat} (h : Urn H u n) : ∃ o, H u = some o := by
  obtain ⟨a, b, c, h, h1⟩ := h
  exact ⟨_, h⟩
theorem Urn.le {H : Hp} {u : Addr} {n m : Nat} (h : Urn H u n) (l : n ≤ m) : Urn H u m := by
  obtain ⟨a, b, c, h, h1, h2⟩ := h
  exact ⟨a, b, c, h, h1, by omega⟩
def spTake : Sp := fun vs H Q _ => ∃ (u : Addr) (lo : Int) (n : Nat), vs = [.ref u, .int lo] ∧ Urn H u n ∧ n < 100000 ∧ 0 < lo ∧ lo < 1073741824 ∧
  ∀ r H', 0 ≤ r → r < lo → Urn H' u (n + 1) → Keep u H H' → Q (.int r) H'
section
variable {P : Program} {w : World} {K : PySem.W.Frag} {mg : Str → Option Value} {base : Heap}
theorem sc_take : FnScope ["_law_urn", "_law_low_so", "_law_drawn", "_law_once", "_law_far", "_law_both_so"] ["_law_urn", "_law_low_so"] (defScope s__law_take) := ⟨rfl, rfl, rfl, by decide +kernel, rfl, by decide +kernel, by decide +kernel⟩
theorem ok_law_take (B : Bk K mg) : Df P w K mg base CX0 1 "_law_take" ["_law_urn", "_law_low_so"] spTake := by
  obtain ⟨fd, F⟩ := B.F_law_take
  refine ⟨⟨fd, ?_, F.binds fun _ _ _ _ _ _ us hl => match us, hl with | [_, _], _ => rfl⟩, B.g_law_take, F.kp⟩
  refine F.ok sc_take (fun vs H Q E h => ?_) (fun cdv A outer s H vs Q E hr h => ?_)
  · obtain ⟨u, lo, n, rfl, _⟩ := h
    rfl
  · obtain ⟨u, lo, n, rfl, ⟨a, b, c, hu, c0, c1⟩, hn, l0, l1, k⟩ := h
    refine ⟨_, pss_cons (ps_if (pt_cmpR op_gt (pe_ix ix_list (pv 0) pe_int (fun _ _ => rfl)) pe_int (nomark _))
        (pss_cons (ps_set (i := 2) sc_take.nd rfl (Or.inl rfl) (pe_op op_mod (pe_callTy call_int1 (by rfl) B.b_int (by decide +kernel) (pa_cons (pe_ix ix_list (pv 0) pe_int (fun _ _ => rfl)) pa_nil)) (pv 1)))
        (pss_cons (ps_asg (pe_op op_fdiv (pe_ix ix_list (pv 0) pe_int (fun _ _ => rfl)) (pv 1)) (pg_sub (pv 0) pe_int set_list))
        (pss_one (ps_ret (pv 2))))) pss_nil)
      (pss_cons (ps_asg (pe_op op_add (pe_ix ix_list (pv 0) pe_int (fun _ _ => rfl)) pe_int) (pg_sub (pv 0) pe_int set_list))
      (pss_cons (ps_set (i := 3) sc_take.nd rfl (Or.inl rfl) (pe_op op_mod (pe_callTy call_int1 (by rfl) B.b_int (by decide +kernel) (pa_cons (pe_op op_mul (pe_op op_add (pe_ix ix_list (pv 0) pe_int (fun _ _ => rfl)) (pe_op op_mul pe_int (pe_ix ix_list (pv 0) pe_int (fun _ _ => rfl)))) (pe_op op_add pe_int (pe_ix ix_list (pv 0) pe_int (fun _ _ => rfl)))) pa_nil)) pe_int))
      (pss_cons (ps_set (i := 4) sc_take.nd rfl (Or.inl rfl) (pe_op op_add (pe_op op_mod (pe_callTy call_int1 (by rfl) B.b_int (by decide +kernel) (pa_cons (pv 3) pa_nil)) pe_int) pe_int))
      (pss_cons (ps_set (i := 5) sc_take.nd rfl (Or.inl rfl) (pe_op op_mod (pe_callTy call_int1 (by rfl) B.b_int (by decide +kernel) (pa_cons (pe_op op_mul (pe_op op_add (pe_op op_add (pv 3) (pe_ix ix_list (pv 0) pe_int (fun _ _ => rfl))) (pe_op op_fdiv (pe_ix ix_list (pv 0) pe_int (fun _ _ => rfl)) pe_int)) (pv 4)) pa_nil)) pe_int))
      (pss_one (ps_ret (pe_op op_mod (pe_callTy call_int1 (by rfl) B.b_int (by decide +kernel) (pa_cons (pe_op op_fdiv (pe_op op_mod (pe_callTy call_int1 (by rfl) B.b_int (by decide +kernel) (pa_cons (pe_op op_add (pe_op op_mul (pv 5) pe_int) (pv 3)) pa_nil)) pe_int) pe_int) pa_nil)) (pv 1)))))))), ?_⟩
    have L : SqL K H u [.int a, .int b, .int c] := SqL.of hu
    refine ⟨_, rfl, _, _, _, _, rfl, rfl, L, rfl, _, _, rfl, rfl, _, rfl, two (fun h1 => ?_) (fun h1 => ?_)⟩
    · refine ⟨_, rfl, _, _, _, _, rfl, rfl, L, rfl, .inl ⟨_, rfl, _, rfl, _, _, rfl, rfl, l0, ?_⟩⟩
      refine ⟨_, rfl, _, _, _, _, rfl, rfl, L, rfl, _, rfl, _, _, rfl, rfl, ⟨l0, l1⟩, _, rfl, u, _, _, 0, rfl, rfl, hu, rfl, ?_⟩
      refine ⟨_, rfl, k _ _ (Int.emod_nonneg _ (by omega)) (Int.emod_lt_of_pos _ l0) ⟨a / lo, b, c, upd_same, c0, by omega⟩ Keep_upd⟩
    · refine ⟨_, rfl, _, _, _, _, rfl, rfl, L, rfl, _, _, rfl, rfl, _, rfl, u, _, _, 2, rfl, rfl, hu, rfl, ?_⟩
      have L2 : SqL K (upd H u (.lst [.int a, .int b, .int (c + 1)])) u [.int a, .int b, .int (c + 1)] := SqL.of upd_same
      refine ⟨_, rfl, _, _, _, _, rfl, rfl, L2, rfl, _, rfl, _, _, _, _, rfl, rfl, L2, rfl, _, _, rfl, rfl, .inl ⟨by decide, by decide⟩, _, _, rfl, rfl, _, rfl, _, _, _, _, rfl, rfl, L2, rfl, _, _, rfl, rfl, _, _, rfl, rfl, .inr ⟨?_, ?_⟩, .inl ⟨_, rfl, _, _, rfl, rfl, (show (0 : Int) < 2147483647 by decide), ?_⟩⟩
      · show -(2 ^ 64) < (39373 : Int) + (c + 1)
        omega
      · show (39373 : Int) + (c + 1) < 2 ^ 64
        omega
      · refine ⟨_, rfl, .inl ⟨_, rfl, _, _, rfl, rfl, (show (0 : Int) < 40009 by decide), _, _, rfl, rfl, ?_⟩⟩
        refine ⟨_, rfl, _, rfl, _, _, _, _, rfl, rfl, L2, rfl, _, _, rfl, rfl, _, rfl, _, _, _, _, rfl, rfl, L2, rfl, _, _, rfl, rfl, ⟨by decide, by decide⟩, _, _, rfl, rfl, _, rfl, _, _, rfl, rfl, .inr ⟨?_, ?_⟩, .inl ⟨_, rfl, _, _, rfl, rfl, (show (0 : Int) < 2147483629 by decide), ?_⟩⟩
        · have q := Int.emod_nonneg (((b : Int) + 48271 * (c + 1)) * (39373 + (c + 1)) % 2147483647) (show (40009 : Int) ≠ 0 by decide)
          show -(2 ^ 64) < ((b : Int) + 48271 * (c + 1)) * (39373 + (c + 1)) % 2147483647 % 40009 + 7
          omega
        · have q := Int.emod_lt_of_pos (((b : Int) + 48271 * (c + 1)) * (39373 + (c + 1)) % 2147483647) (show (0 : Int) < 40009 by decide)
          show ((b : Int) + 48271 * (c + 1)) * (39373 + (c + 1)) % 2147483647 % 40009 + 7 < 2 ^ 64
          omega
        · refine ⟨_, rfl, _, _, rfl, rfl, .inr ⟨by decide, by decide⟩, _, rfl, _, _, rfl, rfl, .inl ⟨_, rfl, _, _, rfl, rfl, (show (0 : Int) < 2147483587 by decide), _, _, rfl, rfl, ⟨by decide, by decide⟩, .inl ⟨_, rfl, _, rfl, _, _, rfl, rfl, l0, ?_⟩⟩⟩
          exact k _ _ (Int.emod_nonneg _ (by omega)) (Int.emod_lt_of_pos _ l0) ⟨a, b, c + 1, upd_same, by omega, by omega⟩ Keep_upd
end
end Jd
namespace Jd
open PySem PySem.Spec PyProof.Rows L2
/-! ### box, cells -/
theorem cut_to (xs : List V) (k : Nat) : cutV xs none (some (k : Int)) = xs.take k := by
  unfold cutV
  rw [HT.sIx_none, HT.sIx_nat, List.drop_zero, Nat.sub_zero]
  by_cases h : k ≤ xs.length
  · rw [Nat.min_eq_left h]
  · rw [Nat.min_eq_right (by omega), List.take_of_length_le (Nat.le_refl _), List.take_of_length_le (by omega)]
theorem cut_of (xs : List V) (a b : Nat) : cutV xs (some (a : Int)) (some (b : Int)) = (xs.drop (min a xs.length)).take (min b xs.length - min a xs.length) := by
  unfold cutV
  rw [HT.sIx_nat, HT.sIx_nat]
theorem b01 (b : Bool) : -(2 ^ 64) < (if b then (1 : Int) else 0) ∧ (if b then (1 : Int) else 0) < 2 ^ 64 := by
  cases b <;> decide
/-- an expression's ways are joined -/
theorem pe_cut {X : Cx} {e : Expr} {t : TE} (h : PE X e t) : PE X e (fun σ H Q => ∃ Q0 : VK, t σ H Q0 ∧ ∀ x H1, Q0 x H1 → Q x H1) :=
  ⟨fun pins s σ H Q I ⟨Q0, h0, h1⟩ => wpAny_mono (h.run pins s σ H Q0 I h0) (fun u s1 ⟨v, H1, I1, r, q⟩ => ⟨v, H1, I1, r, h1 v H1 q⟩) (fun _ _ x => x)⟩
/-- a statement's ways are joined -/
theorem ps_cut {X : Cx} {st : Stmt} {t : TS} (h : PS X st t) : PS X st (fun D σ H => ∃ N : L2.St → Hp → Prop, t { D with nx := N } σ H ∧ ∀ σ' H', N σ' H' → D.nx σ' H') := by
  refine ⟨fun pins s σ H D I ⟨N, h0, h1⟩ => wpAny_mono (h.run pins s σ H { D with nx := N } I h0) (fun f s1 q => ?_) (fun _ _ x => x)⟩
  cases f with
  | next =>
    obtain ⟨σ', H', I', q⟩ := q
    exact ⟨σ', H', I', h1 σ' H' q⟩
  | brk => exact q
  | cont => exact q
  | ret u => exact q
def spBox (K : PySem.W.Frag) : Sp := fun vs H Q _ => ∃ (a : Addr) (ns : List Int) (k : Nat), vs = [.ref a, .int (k : Int)] ∧ SqL K H a (ns.map V.int) ∧ k < ns.length ∧ k < 1000 ∧ ∀ H' p, Same H H' → H p = none → Urn H' p 0 → Q (.ref p) H'
def spCells (K : PySem.W.Frag) : Sp := fun vs H Q _ => ∃ (a : Addr) (ns : List Int), vs = [.ref a, .int 3] ∧ SqL K H a (ns.map V.int) ∧ ns.length ≤ 63 ∧
  ∀ (H' : Hp) (p : Addr) (ms : List Int), Same H H' → H p = none → H' p = some (.lst (ms.map V.int)) → 1 ≤ ms.length → ms.length ≤ 3 → Q (.ref p) H'
section
variable {P : Program} {w : World} {K : PySem.W.Frag} {mg : Str → Option Value} {base : Heap}
theorem sc_box : FnScope ["_law_script", "_law_k", "_law_cell"] ["_law_script", "_law_k"] (defScope s__law_box) := ⟨rfl, rfl, rfl, by decide +kernel, rfl, by decide +kernel, by decide +kernel⟩
theorem ok_law_box (B : Bk K mg) : Df P w K mg base CX0 1 "_law_box" ["_law_script", "_law_k"] (spBox K) := by
  obtain ⟨fd, F⟩ := B.F_law_box
  refine ⟨⟨fd, ?_, F.binds fun _ _ _ _ _ _ us hl => match us, hl with | [_, _], _ => rfl⟩, B.g_law_box, F.kp⟩
  refine F.ok sc_box (fun vs H Q E h => ?_) (fun cdv A outer s H vs Q E hr h => ?_)
  · obtain ⟨u, lo, n, rfl, _⟩ := h
    rfl
  · obtain ⟨a, ns, k, rfl, hs, hk, hk2, kq⟩ := h
    refine ⟨_, pss_cons (ps_set (i := 2) sc_box.nd rfl (Or.inl rfl) (pe_ifExp (pt_cmpR op_lt (pv 1) (pe_callB call_len (by rfl) B.b_len (by decide +kernel) (pa_cons (pv 0) pa_nil)) (nomark _)) (pe_ix ix_list (pv 0) (pv 1) (fun _ _ => rfl)) pe_int))
      (pss_one (ps_ret (pe_lst (pa_cons (pe_op op_mul (pe_callB call_abs (by rfl) B.b_abs (by decide +kernel) (pa_cons (pv 2) pa_nil)) (pe_callTy call_int1 (by rfl) B.b_int (by decide +kernel) (pa_cons (pe_cmpR op_ge (pe_callB call_abs (by rfl) B.b_abs (by decide +kernel) (pa_cons (pv 2) pa_nil)) (pe_op op_pow pe_int pe_int) (nomark _)) pa_nil)))
        (pa_cons (pe_op op_add (pe_op op_add (pe_op op_mod (pe_callTy call_int1 (by rfl) B.b_int (by decide +kernel) (pa_cons (pv 2) pa_nil)) pe_int) (pe_op op_mul pe_int (pv 1))) pe_int) (pa_cons pe_int pa_nil)))))), ?_⟩
    obtain ⟨x, hx⟩ : ∃ x, ns[k]? = some x := ⟨ns[k], List.getElem?_eq_getElem hk⟩
    have hx2 : atI (ns.map V.int) (k : Int) = some (V.int x) := at_of rfl (by rw [List.getElem?_map, hx]; rfl)
    refine ⟨_, rfl, _, rfl, _, _, rfl, .inl ⟨_, hs, rfl⟩, _, _, rfl, rfl, _, rfl, ?_⟩
    have c1 : decide ((k : Int) < ((ns.map V.int).length : Int)) = true := decide_eq_true (by rw [List.length_map]; omega)
    show if decide ((k : Int) < ((ns.map V.int).length : Int)) = true then _ else _
    rw [c1]
    refine iteT ?_
    refine ⟨_, rfl, _, rfl, _, _, _, _, rfl, rfl, hs, hx2, ?_⟩
    refine ⟨_, rfl, _, rfl, _, rfl, _, rfl, _, _, rfl, rfl, ⟨by decide, by decide, by decide⟩, _, _, rfl, rfl, .inr ⟨_, rfl, _, _, rfl, rfl, .inr (b01 _), ?_⟩⟩
    · refine ⟨_, rfl, .inl ⟨_, rfl, _, _, rfl, rfl, (show (0 : Int) < 2305843009213693951 by decide), _, rfl, _, _, rfl, rfl, .inl ⟨by decide, by decide⟩, _, _, rfl, rfl, _, _, rfl, rfl, ?_⟩⟩
      refine ⟨(by show 3 ≤ sizeLine; decide), fun p hp => ?_⟩
      exact kq _ p (Same_new hp) hp ⟨_, _, _, upd_same, by omega, by omega⟩
theorem sc_cells : FnScope ["_law_script", "_law_top", "_law_cells_here", "_law_k", "_law_cell", "_law_at_so"] ["_law_script", "_law_top"] (defScope s__law_cells) := ⟨rfl, rfl, rfl, by decide +kernel, rfl, by decide +kernel, by decide +kernel⟩
theorem ok_law_cells (B : Bk K mg) : Df P w K mg base CX0 1 "_law_cells" ["_law_script", "_law_top"] (spCells K) := by
  obtain ⟨fd, F⟩ := B.F_law_cells
  refine ⟨⟨fd, ?_, F.binds fun _ _ _ _ _ _ us hl => match us, hl with | [_, _], _ => rfl⟩, B.g_law_cells, F.kp⟩
  refine F.ok sc_cells (fun vs H Q E h => ?_) (fun cdv A outer s H vs Q E hr h => ?_)
  · obtain ⟨u, lo, rfl, _⟩ := h
    rfl
  · obtain ⟨a, ns, rfl, hs, hk, kq⟩ := h
    refine ⟨_, pss_cons (ps_set (i := 2) sc_cells.nd rfl (Or.inl rfl) (pe_cut (pe_orT (pe_callTy call_list_of (by rfl) B.b_list (by decide +kernel) (pa_cons (pe_slice sl_list (pv 0) po_none (po_some (pv 1))) pa_nil)) (pe_one (pe_lst (pa_cons pe_int pa_nil))))))
      (pss_cons (ps_for PassesOwn.never rfl (pi_enum (by rfl) B.b_enumerate (pa_cons (pe_slice sl_list (pv 0) (po_some (pv 1)) (po_some pe_int)) pa_nil)) (pg_tup rfl (pgs_cons (pg_name (i := 3) sc_cells.nd rfl (.inl rfl)) (pgs_cons (pg_name (i := 4) sc_cells.nd rfl (.inl rfl)) pgs_nil)))
        (pss_cons (ps_set (i := 5) sc_cells.nd rfl (Or.inl rfl) (pe_op op_mod (pe_callTy call_int1 (by rfl) B.b_int (by decide +kernel) (pa_cons (pv 3) pa_nil)) (pv 1)))
        (pss_one (ps_asg (pe_op op_add (pe_ix ix_list (pv 2) (pv 5) (fun _ _ => rfl)) (pe_op op_mul (pv 4) (pe_op op_add (pv 3) pe_int))) (pg_sub (pv 2) (pv 5) set_list)))))
      (pss_one (ps_ret (pv 2)))), ?_⟩
    refine ⟨fun x H1 => ∃ (p : Addr) (ms : List Int), x = .ref p ∧ Same H H1 ∧ H p = none ∧ H1 p = some (.lst (ms.map V.int)) ∧ 1 ≤ ms.length ∧ ms.length ≤ 3 ∧ (3 < ns.length → ms.length = 3), ?_, ?_⟩
    · refine ⟨_, rfl, _, rfl, _, rfl, a, _, rfl, hs, fun q hq => ⟨_, _, rfl, .inl (SqL.of upd_same), fun l hl => ?_⟩⟩
      have sl : Same H (upd (upd H q (.lst (cutV (ns.map V.int) none (some (3 : Int))))) l (.lst (cutV (ns.map V.int) none (some (3 : Int))))) := Same_lay (Same_new hq) hl
      have nl : H l = none := (Same_new hq).free hl
      have ec : cutV (ns.map V.int) none (some (3 : Int)) = (ns.take 3).map V.int := by
        rw [show (3 : Int) = ((3 : Nat) : Int) from rfl, cut_to, List.map_take]
      refine ⟨_, .inl ⟨_, SqL.of upd_same, rfl⟩, two (fun h1 => ?_) (fun h1 => ?_)⟩
      · refine ⟨l, ns.take 3, rfl, sl, nl, by rw [upd_same, ec], ?_, by rw [List.length_take]; omega, fun h => by rw [List.length_take]; omega⟩
        have h1' : (!(cutV (ns.map V.int) none (some (3 : Int))).isEmpty) = true := h1
        rw [ec] at h1'
        cases hns : ns.take 3 with
        | nil => rw [hns] at h1'; cases h1'
        | cons x r => exact Nat.succ_le_succ (Nat.zero_le _)
      · have h1' : (!(cutV (ns.map V.int) none (some (3 : Int))).isEmpty) = false := h1
        rw [ec] at h1'
        have e0 : ns = [] := by
          cases ns with
          | nil => rfl
          | cons x r => cases h1'
        refine ⟨(by show 1 ≤ sizeLine; decide), fun p hp => ⟨p, [0], rfl, Same_lay sl hp, sl.free hp, upd_same, Nat.le_refl _, by decide, fun h => ?_⟩⟩
        rw [e0] at h
        exact absurd h (by decide)
    · rintro x H1 ⟨p, ms, rfl, s1, np, h1, l1, l3, l3'⟩
      have hs1 := s1.seq hs
      have ec : cutV (ns.map V.int) (some (3 : Int)) (some (63 : Int)) = ((ns.drop (min 3 ns.length)).take (min 63 ns.length - min 3 ns.length)).map V.int := by
        rw [show (3 : Int) = ((3 : Nat) : Int) from rfl, show (63 : Int) = ((63 : Nat) : Int) from rfl, cut_of, List.length_map, List.map_take, List.map_drop]
      have kl : ((ns.drop (min 3 ns.length)).take (min 63 ns.length - min 3 ns.length)).length ≤ ns.length - 3 := by
        rw [List.length_take, List.length_drop]
        omega
      generalize (ns.drop (min 3 ns.length)).take (min 63 ns.length - min 3 ns.length) = ks at ec kl
      refine ⟨_, rfl, _, rfl, _, rfl, _, rfl, a, _, rfl, hs1, fun q hq => ⟨q, ks.map V.int, rfl, SqL.of (by rw [upd_same, ec]), ?_⟩⟩
      have npq : p ≠ q := ne_of_none h1 hq
      refine for_it (n := (ks.map V.int).length) walk_enum (fun i σ H' => ∃ (ms' : List Int) (v3 v4 v5 : Option V), σ = [some (.ref a), some (.int 3), some (.ref p), v3, v4, v5] ∧ Same H H' ∧ H' p = some (.lst (ms'.map V.int)) ∧ ms'.length = ms.length ∧ H' q = some (.lst (ks.map V.int)))
        ⟨ms, none, none, none, rfl, Same_lay s1 hq, by rw [upd_ne npq]; exact h1, rfl, by rw [upd_same, ec]⟩ (fun i σ H' _ ⟨_, _, _, _, _, _, _, _, e⟩ => SqL.of e) (fun i x σ H2 H3 hi ⟨ms', v3, v4, v5, e, s2, h2, hl2, hq2⟩ y => ?_) (fun σ H2 ⟨ms', v3, v4, v5, e, s2, h2, hl2, hq2⟩ => ?_)
      · obtain ⟨T, x1, x2, rfl, nT, rfl, e1, e2⟩ := y
        have e1' := Option.some.inj e1
        subst e1'
        have e2 : (ks.map V.int)[i]? = some x2 := e2
        rw [List.getElem?_map] at e2
        cases hz : ks[i]? with
        | none =>
          rw [hz] at e2
          cases e2
        | some z =>
          rw [hz] at e2
          have e2' := Option.some.inj e2
          subst e2' e
          have hik : i < ks.length := (List.getElem?_eq_some_iff.mp hz).1
          have hm3 : ms'.length = 3 := by rw [hl2]; exact l3' (by omega)
          have nTp : p ≠ T := ne_of_none h2 nT
          have nTq : q ≠ T := ne_of_none hq2 nT
          refine ⟨_, _, rfl, SqT.of upd_same, rfl, _, _, rfl, _, _, rfl, rfl, ?_⟩
          have j0 : 0 ≤ (i : Int) % 3 := Int.emod_nonneg _ (by decide)
          have j1 : (i : Int) % 3 < 3 := Int.emod_lt_of_pos _ (by decide)
          have j2 : ((i : Int) % 3) = (((i : Int) % 3).toNat : Int) := by omega
          obtain ⟨m, hm⟩ : ∃ m, ms'[((i : Int) % 3).toNat]? = some m := ⟨ms'[((i : Int) % 3).toNat]'(by omega), List.getElem?_eq_getElem _⟩
          have h3 : (upd H2 T (.tup [V.int (i : Nat), V.int z])) p = some (.lst (ms'.map V.int)) := by rw [upd_ne nTp]; exact h2
          refine ⟨_, rfl, .inl ⟨_, rfl, _, rfl, _, _, rfl, rfl, (show (0 : Int) < 3 by decide), ?_⟩⟩
          refine ⟨_, rfl, _, rfl, _, _, _, _, rfl, rfl, SqL.of h3, at_of j2 (by rw [List.getElem?_map, hm]; rfl), _, rfl, _, rfl, _, _, rfl, rfl, _, _, rfl, rfl, .inr ⟨?_, ?_⟩, _, _, rfl, rfl, ?_⟩
          · show -(2 ^ 64) < ((i : Int) + 2)
            omega
          · show ((i : Int) + 2) < 2 ^ 64
            omega
          · refine ⟨_, rfl, _, rfl, p, _, _, ((i : Int) % 3).toNat, rfl, rfl, h3, ?_, ?_⟩
            · show ixN (ms'.map V.int).length ((i : Int) % 3) = _
              unfold ixN
              rw [if_pos j0, if_pos (by rw [List.length_map, hm3]; exact j1)]
            · refine ⟨ms'.set ((i : Int) % 3).toNat (m + z * ((i : Int) + 2)), _, _, _, rfl, Same_upd (Same_lay s2 nT) np, ?_, ?_, ?_⟩
              · rw [upd_same, List.map_set]
              · rw [List.length_set, hl2]
              · rw [upd_ne npq.symm, upd_ne nTq]
                exact hq2
      · subst e
        exact ⟨_, rfl, kq H2 p ms' s2 np h2 (by omega) (by omega)⟩
end
end Jd
namespace Jd
open PySem PySem.Spec PyProof.Rows L2
/-! ### of, mixed -/
theorem Keep_lay {u : Addr} {H H' : Hp} {a : Addr} {o : HO} (k : Keep u H H') (n : H a = none) : Keep u H (upd H' a o) := fun b q nb h => by
  rw [upd_ne (ne_of_none h n)]
  exact k b q nb h
theorem Keep.none {u : Addr} {H H' : Hp} (k : Keep u H H') {b : Addr} (h : H' b = Option.none) (n : b ≠ u) : H b = Option.none := by
  cases q : H b with
  | none => rfl
  | some o =>
    rw [k b o n q] at h
    cases h
theorem Keep.seq {K : PySem.W.Frag} {u : Addr} {H H' : Hp} (k : Keep u H H') {a : Addr} {xs : List V} (h : SqL K H a xs) (n : a ≠ u) : SqL K H' a xs := by
  rcases h with (h | ⟨o, h⟩) | h
  · exact .inl (.inl (k _ _ n h))
  · exact .inl (.inr ⟨o, k _ _ n h⟩)
  · exact .inr h
def spOf (K : PySem.W.Frag) : Sp := fun vs H Q _ => ∃ (u l : Addr) (xs : List V) (n : Nat), vs = [.ref u, .ref l] ∧ Urn H u n ∧ n < 100000 ∧ SqL K H l xs ∧ l ≠ u ∧ 0 < xs.length ∧ xs.length < 1000 ∧
  ∀ (r : Nat) x H', xs[r]? = some x → Urn H' u (n + 1) → Keep u H H' → Q x H'
def spMixed (K : PySem.W.Frag) : Sp := fun vs H Q _ => ∃ (u l : Addr) (xs : List V) (n : Nat), vs = [.ref u, .ref l] ∧ Urn H u n ∧ n + xs.length < 100000 ∧ (SqL K H l xs ∨ SqT K H l xs) ∧ xs.length < 1000 ∧
  ∀ (ys : List V) p H', ys.Perm xs → Urn H' u (n + xs.length) → Keep u H H' → H p = none → H' p = some (.tup ys) → Q (.ref p) H'
section
variable {P : Program} {w : World} {K : PySem.W.Frag} {mg : Str → Option Value} {base : Heap}
theorem sc_mixed : FnScope ["_law_urn", "_law_pool", "_law_left", "_law_found", "_law_turn"] ["_law_urn", "_law_pool"] (defScope s__law_mixed) := ⟨rfl, rfl, rfl, by decide +kernel, rfl, by decide +kernel, by decide +kernel⟩
theorem perm_move {α : Type} {fs ls : List α} {k : Nat} {y : α} (h : ls[k]? = some y) : ((fs ++ [y]) ++ ls.eraseIdx k).Perm (fs ++ ls) := by
  rw [List.append_assoc]
  exact List.Perm.append_left fs (erase_perm ls k y h)
theorem ok_law_mixed (B : Bk K mg) : Df P w K mg base CX0 2 "_law_mixed" ["_law_urn", "_law_pool"] (spMixed K) := by
  obtain ⟨fd, F⟩ := B.F_law_mixed
  obtain ⟨fdT, GT, bT⟩ := (ok_law_take (P := P) (w := w) (base := base) B).ex
  have kT := (ok_law_take (P := P) (w := w) (base := base) B).kp
  refine ⟨⟨fd, ?_, F.binds fun _ _ _ _ _ _ us hl => match us, hl with | [_, _], _ => rfl⟩, B.g_law_mixed, F.kp⟩
  refine F.ok sc_mixed (fun vs H Q E h => ?_) (fun cdv A outer s H vs Q E hr h => ?_)
  · obtain ⟨u, lo, xs, n, rfl, _⟩ := h
    rfl
  · obtain ⟨u, l, xs, n, rfl, hu, hn, hs, h1, k⟩ := h
    refine ⟨_, pss_cons (ps_par (i := 2) (j := 3) (by rfl) sc_mixed.nd rfl rfl (by decide) rfl rfl (pa_cons (pe_callTy call_list_of (by rfl) B.b_list (by decide +kernel) (pa_cons (pv 1) pa_nil)) (pa_cons (pe_lst pa_nil) pa_nil)) (by rfl))
      (pss_cons (ps_for PassesOwn.never rfl (pi_range1 rfl B.b_range (pa_cons (pe_callB call_len (by rfl) B.b_len (by decide +kernel) (pa_cons (pv 1) pa_nil)) pa_nil)) (pg_name (i := 4) sc_mixed.nd rfl (Or.inl rfl))
        (pss_one (ps_expr (pe_bm PySem.F.plainAttrs_list PySem.F.slot_list_append PySem.F.type_list_append mt_append (pv 3) (pa_cons
          (pe_bm PySem.F.plainAttrs_list PySem.F.slot_list_pop PySem.F.type_list_pop mt_popAt (pv 2) (pa_cons (pe_call GT hr rfl B.g_law_take kT bT .nil pass0 (pa_cons (pv 0) (pa_cons (pe_callB call_len (by rfl) B.b_len (by decide +kernel) (pa_cons (pv 2) pa_nil)) pa_nil))) pa_nil)) pa_nil)))))
      (pss_one (ps_ret (pe_callTy call_tuple_of (by rfl) B.b_tuple (by decide +kernel) (pa_cons (pv 3) pa_nil))))), ?_⟩
    refine ⟨_, rfl, l, xs, rfl, hs, fun L nL => ⟨Nat.zero_le _, fun Fo nF => ⟨_, _, rfl, ?_⟩⟩⟩
    have uo := hu.some
    have nLu : L ≠ u := fun e => by obtain ⟨o, h⟩ := uo; rw [← e, nL] at h; cases h
    have nF0 : H Fo = Option.none := (Same_new nL).free nF
    have nFu : Fo ≠ u := fun e => by obtain ⟨o, h⟩ := uo; rw [← e, nF0] at h; cases h
    have nFL : Fo ≠ L := fun e => by rw [e, upd_same] at nF; cases nF
    have s2 : Same H (upd (upd H L (.lst xs)) Fo (.lst [])) := Same_lay (Same_new nL) nF
    have hlen : LenV K (.ref l) (upd (upd H L (.lst xs)) Fo (.lst [])) xs.length := by
      rcases hs with hs | hs
      · exact .inl ⟨_, s2.seq hs, rfl⟩
      · exact .inr ⟨_, Same_seqT s2 hs, rfl⟩
    refine ⟨_, rfl, _, xs.length, rfl, hlen, (xs.length : Int), rfl, by omega, by omega, ?_⟩
    rw [show ((xs.length : Int)).toNat = xs.length by omega]
    refine for_it walk_range (fun i σ H' => ∃ (ls fs : List V) (v : Option V), σ = [some (.ref u), some (.ref l), some (.ref L), some (.ref Fo), v] ∧ H' L = some (.lst ls) ∧ H' Fo = some (.lst fs) ∧ (fs ++ ls).Perm xs ∧ fs.length = i ∧ Urn H' u (n + i) ∧ Keep u H H')
      ⟨xs, [], Option.none, rfl, by rw [upd_ne nFL.symm, upd_same], upd_same, List.Perm.refl _, rfl, hu.same s2, Same.keep s2⟩ (fun _ _ _ _ _ => trivial) (fun i x σ H1 H2 hi ⟨ls, fs, v, e, hL, hF, pm, fl, hu1, kp⟩ y => ?_) (fun σ H1 ⟨ls, fs, v, e, hL, hF, pm, fl, hu1, kp⟩ => ?_)
    · obtain ⟨rfl, rfl⟩ := y
      subst e
      have ll : ls.length = xs.length - i := by
        have q := pm.length_eq
        rw [List.length_append] at q
        omega
      refine ⟨_, rfl, .inl ⟨rfl, _, SqL.of hF⟩, _, rfl, .inl ⟨rfl, _, SqL.of hL⟩, _, rfl, _, rfl, _, ls.length, rfl, .inl ⟨_, SqL.of hL, rfl⟩, u, (ls.length : Int), n + i, rfl, hu1, by omega, by omega, by omega, fun r H3 r0 r1 hu3 kp3 => ?_⟩
      have hrl : r.toNat < ls.length := by omega
      have hy : ls[r.toNat]? = some ls[r.toNat] := List.getElem?_eq_getElem hrl
      have hL3 : H3 L = some (.lst ls) := kp3 _ _ nLu hL
      have hF3 : H3 Fo = some (.lst fs) := kp3 _ _ nFu hF
      refine ⟨L, ls, r, r.toNat, ls[r.toNat], rfl, rfl, hL3, by omega, by omega, ?_, hy, ?_⟩
      · have q : ixN ls.length r = some r.toNat := by
          unfold ixN
          rw [if_pos r0, if_pos r1]
        exact (ixN_seq q).1
      · refine ⟨Fo, fs, ls[r.toNat], rfl, rfl, by rw [upd_ne nFL]; exact hF3, by have : (1000 : Nat) < sizeLine := (by decide); omega, ?_⟩
        refine ⟨ls.eraseIdx r.toNat, fs ++ [ls[r.toNat]], _, rfl, by rw [upd_ne nFL.symm, upd_same], upd_same, (perm_move hy).trans pm, by rw [List.length_append, fl]; rfl, ?_, Keep_lay (Keep_lay (kp.trans kp3) nL) nF0⟩
        obtain ⟨a, b, c, h3, h4⟩ := hu3
        exact ⟨a, b, c, by rw [upd_ne nFu.symm, upd_ne nLu.symm]; exact h3, h4⟩
    · subst e
      have ll : ls = [] := by
        have q := pm.length_eq
        rw [List.length_append] at q
        exact List.eq_nil_of_length_eq_zero (by omega)
      subst ll
      rw [List.append_nil] at pm
      refine ⟨_, rfl, Fo, fs, rfl, .inl ⟨SqL.of hF, fun p hp => ?_⟩⟩
      have np : H p = Option.none := by
        by_cases e : p = u
        · rw [e] at hp
          obtain ⟨a, b, c, h3, _⟩ := hu1
          rw [h3] at hp
          cases hp
        · exact kp.none hp e
      refine k fs p _ pm ?_ (Keep_lay kp np) np upd_same
      obtain ⟨a, b, c, h3, h4⟩ := hu1
      exact ⟨a, b, c, by rw [upd_ne (ne_of_none h3 hp)]; exact h3, h4⟩
end
end Jd
namespace Jd
open PySem PySem.Spec PyProof.Rows L2 RZ
/-! ### same -/
/-- flat and the same -/
def FlatV : V → Prop
  | .non => True
  | .bl _ => True
  | .str _ => True
  | .int _ => True
  | _ => False
/-- the same, so many levels deep -/
def Sm (H : Hp) : Nat → V → V → Prop
  | 0, x, y => x = y ∧ FlatV y
  | n + 1, x, y => (x = y ∧ FlatV y) ∨ ∃ (a b : Addr) (xs ys : List V), x = .ref a ∧ y = .ref b ∧ xs.length = ys.length ∧ xs.length < 1000 ∧ (∀ (i : Nat) (u v : V), xs[i]? = some u → ys[i]? = some v → Sm H n u v) ∧
      ((H a = some (.lst xs) ∧ H b = some (.lst ys)) ∨ (H a = some (.tup xs) ∧ H b = some (.tup ys)))
theorem Sm_same {H H' : Hp} (s : Same H H') : ∀ (n : Nat) {x y : V}, Sm H n x y → Sm H' n x y
  | 0, _, _, h => h
  | n + 1, x, y, h => by
    rcases (show (x = y ∧ FlatV y) ∨ _ from h) with h | ⟨a, b, xs, ys, e1, e2, hl, h3, he, h | h⟩
    · exact .inl h
    · exact .inr ⟨a, b, xs, ys, e1, e2, hl, h3, fun i u v q1 q2 => Sm_same s n (he i u v q1 q2), .inl ⟨s _ _ h.1, s _ _ h.2⟩⟩
    · exact .inr ⟨a, b, xs, ys, e1, e2, hl, h3, fun i u v q1 q2 => Sm_same s n (he i u v q1 q2), .inr ⟨s _ _ h.1, s _ _ h.2⟩⟩
theorem Sm_flat {H : Hp} {n : Nat} {x : V} (h : FlatV x) : Sm H n x x := by
  cases n with
  | zero => exact ⟨rfl, h⟩
  | succ n => exact Or.inl ⟨rfl, h⟩
theorem walk_zipT {K : PySem.W.Frag} {a b : Addr} {xs ys : List V} {n : Nat} (hn : n = min xs.length ys.length) : Walk (ItzT K a b) n (fun H => SqT K H a xs ∧ SqT K H b ys) (YPair (fun i => xs[i]?) (fun i => ys[i]?)) := by
  subst hn
  refine ⟨fun i _ hi q => ?_, fun _ q => ⟨xs, ys, q.1, q.2, by omega⟩, fun i H v H' _ q y => ?_⟩
  · have h1 : i < xs.length := by omega
    have h2 : i < ys.length := by omega
    exact ⟨xs, ys, xs[i], ys[i], q.1, q.2, by simp [h1], by simp [h2]⟩
  · obtain ⟨T, x, z, h1, h2, h3, h4, h5⟩ := y
    exact ⟨T, x, z, h1, h2, h3, h4 xs q.1, h5 ys q.2⟩
def spSame (n : Nat) : Sp := fun vs H Q _ => ∃ x y : V, vs = [x, y] ∧ Sm H n x y ∧ ∀ H', Same H H' → Q (.bl true) H'
def spPrev : Nat → Sp
  | 0 => fun _ _ _ _ => False
  | n + 1 => spSame n
/-- the types of flat values -/
def tyN : V → String
  | .non => "NoneType"
  | .bl _ => "bool"
  | .str _ => "str"
  | _ => "int"
theorem ty_flat {K : PySem.W.Frag} {H : Hp} {x : V} (h : FlatV x) : TyX K H x (.type (tyN x)) := by
  cases x with
  | non => exact .base .non
  | bl b => exact .base (.bl b)
  | str z => exact .base (.str z)
  | int i => exact .base (.int i)
  | _ => exact h.elim
theorem kit2 {K : PySem.W.Frag} {a b c : String} {r s : Bool} (h1 : kitB a b = some r) (h2 : kitB a c = some s) : PySem.W.kitAny K (.type a) [.type b, .type c] = some (r || s) := by
  refine kitAny_cons (kit_ty h1) (fun e => ?_) (fun e => by rw [e]; rfl)
  rw [e, Bool.false_or]
  refine kitAny_cons (kit_ty h2) (fun e2 => by rw [e2]; rfl) (fun e2 => e2)
theorem cls2 (a b : String) : Paired ClsV [.ty a, .ty b] [.type a, .type b] := .cons (.ty a) (.cons (.ty b) .nil)
theorem ifd {p : Prop} [Decidable p] {A B : Prop} (hp : p) (h : A) : if decide p = true then A else B := by
  rw [decide_eq_true hp]
  exact iteT h
theorem ifdn {p : Prop} [Decidable p] {A B : Prop} (hp : ¬ p) (h : B) : if decide p = true then A else B := by
  rw [decide_eq_false hp]
  exact iteF h
theorem rep_true (n : Nat) : (List.range n).filterMap (fun _ => some (V.bl true)) = (List.replicate n true).map V.bl := by
  induction n with
  | zero => rfl
  | succ n ih =>
    rw [fm_step, ih, List.replicate_succ', List.map_append]
    rfl
theorem rep_all (n : Nat) : (List.replicate n true).all id = true := by
  rw [List.all_eq_true]
  intro x hx
  rw [(List.mem_replicate.mp hx).2]
  rfl
section
variable {P : Program} {w : World} {K : PySem.W.Frag} {mg : Str → Option Value} {base : Heap}
theorem sc_same : FnScope ["_law_got", "_law_goal", "_law_mine_so", "_law_own"] ["_law_got", "_law_goal"] (defScope s__law_same) := ⟨rfl, rfl, rfl, by decide +kernel, rfl, by decide +kernel, by decide +kernel⟩
theorem ok_same_step (B : Bk K mg) {fd : FuncData} (F : Fun K "_law_same" "_law_same" s__law_same (He.ga K "_law_same") fd) (n k : Nat) (G : FnOk P w K mg base CX0 k (He.ga K "_law_same") fd ["_law_got", "_law_goal"] (spPrev n)) (bG : Binds K fd ["_law_got", "_law_goal"] []) :
    FnOk P w K mg base CX0 (k + 1) (He.ga K "_law_same") fd ["_law_got", "_law_goal"] (spSame n) := by
  refine F.ok sc_same (fun vs H Q E h => ?_) (fun cdv A outer s H vs Q E hr h => ?_)
  · obtain ⟨x, y, rfl, _⟩ := h
    rfl
  · obtain ⟨x, y, rfl, hs, kq⟩ := h
    have isi := fun {X : Cx} => @call_isi X
    refine ⟨_, pss_cons (ps_if (pt_val (pe_callB call_isiT (by rfl) B.b_isinstance (by decide +kernel) (pa_cons (pv 1) (pa_cons (pe_tup (pa_cons (pe_bltn (by rfl) B.b_list (by decide +kernel) (show RelV (.ty "list") (.type "list") from rfl)) (pa_cons (pe_bltn (by rfl) B.b_tuple (by decide +kernel) (show RelV (.ty "tuple") (.type "tuple") from rfl)) pa_nil))) pa_nil))))
        (pss_cons (ps_if (PW.pt (pw_or (pt_cmpR op_ne (pe_callB call_isi (by rfl) B.b_isinstance (by decide +kernel) (pa_cons (pv 0) (pa_cons (pe_bltn (by rfl) B.b_list (by decide +kernel) (show RelV (.ty "list") (.type "list") from rfl)) pa_nil))) (pe_callB call_isi (by rfl) B.b_isinstance (by decide +kernel) (pa_cons (pv 1) (pa_cons (pe_bltn (by rfl) B.b_list (by decide +kernel) (show RelV (.ty "list") (.type "list") from rfl)) pa_nil))) (nomark _))
            (pw_or1 (pt_cmpR op_ne (pe_callB call_isi (by rfl) B.b_isinstance (by decide +kernel) (pa_cons (pv 0) (pa_cons (pe_bltn (by rfl) B.b_tuple (by decide +kernel) (show RelV (.ty "tuple") (.type "tuple") from rfl)) pa_nil))) (pe_callB call_isi (by rfl) B.b_isinstance (by decide +kernel) (pa_cons (pv 1) (pa_cons (pe_bltn (by rfl) B.b_tuple (by decide +kernel) (show RelV (.ty "tuple") (.type "tuple") from rfl)) pa_nil))) (nomark _))))) (pss_one (ps_ret pe_bl)) pss_nil)
        (pss_one (ps_ret (pe_and (pe_cmpR op_eq (pe_callB call_len (by rfl) B.b_len (by decide +kernel) (pa_cons (pv 0) pa_nil)) (pe_callB call_len (by rfl) B.b_len (by decide +kernel) (pa_cons (pv 1) pa_nil)) (nomark _))
          (pe_one (pe_callB (cr_all rfl) (by rfl) B.b_all (by decide +kernel) (pa_cons (pe_lc (own := [("_law_mine_so", 2), ("_law_own", 3)]) (g := gTup K 2 (gCons (gName 2) (gCons (gName 3) gNil))) (tt := tYes) rfl sc_same.nd (pi_zipA (by rfl) B.b_zip (pa_cons (pv 0) (pa_cons (pv 1) pa_nil))) (blkOk_by (N := ["_law_got", "_law_goal", "_law_mine_so", "_law_own"]) (sc := defScope s__law_same) (by decide +kernel))
            (fun _ _ _ _ _ => pg_tup rfl (pgs_cons (pg_name (i := 2) sc_same.nd rfl (Or.inl rfl)) (pgs_cons (pg_name (i := 3) sc_same.nd rfl (Or.inl rfl)) pgs_nil))) (fun _ _ _ _ _ => pts_nil)
            (fun _ _ _ _ _ => pe_call G hr rfl B.g_law_same F.kp bG .nil pass0 (pa_cons (pv 2) (pa_cons (pv 3) pa_nil)))) pa_nil))))))) pss_nil)
      (pss_cons (ps_if (PW.pt (pw_or (pt_cmp (pc_isN (pv 1))) (pw_or1 (pt_val (pe_callB call_isiT (by rfl) B.b_isinstance (by decide +kernel) (pa_cons (pv 1) (pa_cons (pe_tup (pa_cons (pe_bltn (by rfl) B.b_bool (by decide +kernel) (show RelV (.ty "bool") (.type "bool") from rfl)) (pa_cons (pe_bltn (by rfl) B.b_str (by decide +kernel) (show RelV (.ty "str") (.type "str") from rfl)) pa_nil))) pa_nil)))))))
        (pss_one (ps_ret (pe_and (pe_cmpR op_eq (pv 0) (pv 1) (nomark _)) (pe_and (pe_cmpR op_eq (pe_callB call_isi (by rfl) B.b_isinstance (by decide +kernel) (pa_cons (pv 0) (pa_cons (pe_bltn (by rfl) B.b_bool (by decide +kernel) (show RelV (.ty "bool") (.type "bool") from rfl)) pa_nil))) (pe_callB call_isi (by rfl) B.b_isinstance (by decide +kernel) (pa_cons (pv 1) (pa_cons (pe_bltn (by rfl) B.b_bool (by decide +kernel) (show RelV (.ty "bool") (.type "bool") from rfl)) pa_nil))) (nomark _))
          (pe_one (pe_cmpR op_eq (pe_cmp (pc_isN (pv 0)) rfl) (pe_cmp (pc_isN (pv 1)) rfl) (nomark _))))))) pss_nil)
      (pss_one (ps_ret (pe_and (pe_callB call_isi (by rfl) B.b_isinstance (by decide +kernel) (pa_cons (pv 0) (pa_cons (pe_bltn (by rfl) B.b_int (by decide +kernel) (show RelV (.ty "int") (.type "int") from rfl)) pa_nil))) (pe_and (pe_not (pe_callB call_isi (by rfl) B.b_isinstance (by decide +kernel) (pa_cons (pv 0) (pa_cons (pe_bltn (by rfl) B.b_bool (by decide +kernel) (show RelV (.ty "bool") (.type "bool") from rfl)) pa_nil)))) (pe_one (pe_cmpR op_eq (pv 0) (pv 1) (nomark _)))))))), ?_⟩
    have hc : (x = y ∧ FlatV y) ∨ ∃ (m : Nat) (a b : Addr) (xs ys : List V), n = m + 1 ∧ x = .ref a ∧ y = .ref b ∧ xs.length = ys.length ∧ xs.length < 1000 ∧ (∀ (i : Nat) (u v : V), xs[i]? = some u → ys[i]? = some v → Sm H m u v) ∧
        ((H a = some (.lst xs) ∧ H b = some (.lst ys)) ∨ (H a = some (.tup xs) ∧ H b = some (.tup ys))) := by
      cases n with
      | zero => exact .inl hs
      | succ m =>
        rcases (show (x = y ∧ FlatV y) ∨ _ from hs) with h | ⟨a, b, xs, ys, h1, h2, h3⟩
        · exact .inl h
        · exact .inr ⟨m, a, b, xs, ys, rfl, h1, h2, h3⟩
    rcases hc with ⟨rfl, hf⟩ | ⟨n, a, b, xs, ys, rfl, rfl, rfl, hl, h3, he, hab⟩
    · cases x with
      | non =>
        refine ⟨_, rfl, (by show 2 ≤ sizeLine; decide), fun p hp => ⟨_, p, _, _, _, _, rfl, upd_same, cls2 "list" "tuple", ty_flat hf, kit2 (a := "NoneType") (r := false) (s := false) (by decide +kernel) (by decide +kernel), _, rfl, iteF ?_⟩⟩
        refine ⟨_, rfl, _, rfl, ifd rfl ?_⟩
        refine ⟨_, rfl, _, rfl, rfl, _, rfl, ifd rfl ?_⟩
        refine ⟨_, rfl, _, _, _, _, _, rfl, .ty "bool", ty_flat hf, kit_ty (a := "NoneType") (r := false) (by decide +kernel), _, rfl, _, _, _, _, _, rfl, .ty "bool", ty_flat hf, kit_ty (a := "NoneType") (r := false) (by decide +kernel), rfl, _, rfl, ifd rfl ?_⟩
        refine ⟨_, rfl, _, rfl, rfl, ?_⟩
        have e : decide (V.bl (decide (V.non = V.non)) = V.bl (decide (V.non = V.non))) = true := decide_eq_true rfl
        show Q (V.bl (decide (V.bl (decide (V.non = V.non)) = V.bl (decide (V.non = V.non))))) _
        rw [e]
        exact kq _ (Same_new hp)
      | bl bb =>
        refine ⟨_, rfl, (by show 2 ≤ sizeLine; decide), fun p hp => ⟨_, p, _, _, _, _, rfl, upd_same, cls2 "list" "tuple", ty_flat hf, kit2 (a := "bool") (r := false) (s := false) (by decide +kernel) (by decide +kernel), _, rfl, iteF ?_⟩⟩
        refine ⟨_, rfl, _, rfl, ifdn (fun z => nomatch z) ?_⟩
        refine ⟨_, rfl, (by show 2 ≤ sizeLine; decide), fun p2 hp2 => ⟨_, p2, _, _, _, _, rfl, upd_same, cls2 "bool" "str", ty_flat hf, kit2 (a := "bool") (r := true) (s := false) (by decide +kernel) (by decide +kernel), _, rfl, iteT ?_⟩⟩
        refine ⟨_, rfl, _, rfl, rfl, _, rfl, ifd rfl ?_⟩
        refine ⟨_, rfl, _, _, _, _, _, rfl, .ty "bool", ty_flat hf, kit_ty (a := "bool") (r := true) (by decide +kernel), _, rfl, _, _, _, _, _, rfl, .ty "bool", ty_flat hf, kit_ty (a := "bool") (r := true) (by decide +kernel), rfl, _, rfl, ifd rfl ?_⟩
        refine ⟨_, rfl, _, rfl, rfl, ?_⟩
        have e : decide (V.bl (decide (V.bl bb = V.non)) = V.bl (decide (V.bl bb = V.non))) = true := decide_eq_true rfl
        show Q (V.bl (decide (V.bl (decide (V.bl bb = V.non)) = V.bl (decide (V.bl bb = V.non))))) _
        rw [e]
        exact kq _ (Same_lay (Same_new hp) hp2)
      | str z =>
        refine ⟨_, rfl, (by show 2 ≤ sizeLine; decide), fun p hp => ⟨_, p, _, _, _, _, rfl, upd_same, cls2 "list" "tuple", ty_flat hf, kit2 (a := "str") (r := false) (s := false) (by decide +kernel) (by decide +kernel), _, rfl, iteF ?_⟩⟩
        refine ⟨_, rfl, _, rfl, ifdn (fun z => nomatch z) ?_⟩
        refine ⟨_, rfl, (by show 2 ≤ sizeLine; decide), fun p2 hp2 => ⟨_, p2, _, _, _, _, rfl, upd_same, cls2 "bool" "str", ty_flat hf, kit2 (a := "str") (r := false) (s := true) (by decide +kernel) (by decide +kernel), _, rfl, iteT ?_⟩⟩
        refine ⟨_, rfl, _, rfl, rfl, _, rfl, ifd rfl ?_⟩
        refine ⟨_, rfl, _, _, _, _, _, rfl, .ty "bool", ty_flat hf, kit_ty (a := "str") (r := false) (by decide +kernel), _, rfl, _, _, _, _, _, rfl, .ty "bool", ty_flat hf, kit_ty (a := "str") (r := false) (by decide +kernel), rfl, _, rfl, ifd rfl ?_⟩
        refine ⟨_, rfl, _, rfl, rfl, ?_⟩
        have e : decide (V.bl (decide (V.str z = V.non)) = V.bl (decide (V.str z = V.non))) = true := decide_eq_true rfl
        show Q (V.bl (decide (V.bl (decide (V.str z = V.non)) = V.bl (decide (V.str z = V.non))))) _
        rw [e]
        exact kq _ (Same_lay (Same_new hp) hp2)
      | int i =>
        refine ⟨_, rfl, (by show 2 ≤ sizeLine; decide), fun p hp => ⟨_, p, _, _, _, _, rfl, upd_same, cls2 "list" "tuple", ty_flat hf, kit2 (a := "int") (r := false) (s := false) (by decide +kernel) (by decide +kernel), _, rfl, iteF ?_⟩⟩
        refine ⟨_, rfl, _, rfl, ifdn (fun z => nomatch z) ?_⟩
        refine ⟨_, rfl, (by show 2 ≤ sizeLine; decide), fun p2 hp2 => ⟨_, p2, _, _, _, _, rfl, upd_same, cls2 "bool" "str", ty_flat hf, kit2 (a := "int") (r := false) (s := false) (by decide +kernel) (by decide +kernel), _, rfl, iteF ?_⟩⟩
        refine ⟨_, rfl, _, _, _, _, _, rfl, .ty "int", ty_flat hf, kit_ty (a := "int") (r := true) (by decide +kernel), _, rfl, iteT ?_⟩
        refine ⟨_, rfl, _, _, _, _, _, rfl, .ty "bool", ty_flat hf, kit_ty (a := "int") (r := false) (by decide +kernel), _, rfl, _, rfl, iteT ?_⟩
        refine ⟨_, rfl, _, rfl, rfl, ?_⟩
        have e : decide (V.int i = V.int i) = true := decide_eq_true rfl
        show Q (V.bl (decide (V.int i = V.int i))) _
        rw [e]
        exact kq _ (Same_lay (Same_new hp) hp2)
      | _ => exact hf.elim
    · rcases hab with ⟨ha, hb⟩ | ⟨ha, hb⟩
      · have hk := he
        refine ⟨_, rfl, (by show 2 ≤ sizeLine; decide), fun p hp => ⟨_, p, _, _, _, _, rfl, upd_same, cls2 "list" "tuple", .base (.lst (Same_new hp _ _ hb)), kit2 (a := "list") (r := true) (s := false) (by decide +kernel) (by decide +kernel), _, rfl, iteT ?_⟩⟩
        have s1 : Same H (upd H p (.tup [.ty "list", .ty "tuple"])) := Same_new hp
        have ha1 := s1 _ _ ha
        have hb1 := s1 _ _ hb
        refine ⟨_, rfl, _, _, _, _, _, rfl, .ty "list", .base (.lst ha1), kit_ty (a := "list") (r := true) (by decide +kernel), _, rfl, _, _, _, _, _, rfl, .ty "list", .base (.lst hb1), kit_ty (a := "list") (r := true) (by decide +kernel), rfl, _, rfl, iteNS rfl ?_⟩
        refine ⟨_, rfl, _, _, _, _, _, rfl, .ty "tuple", .base (.lst ha1), kit_ty (a := "list") (r := false) (by decide +kernel), _, rfl, _, _, _, _, _, rfl, .ty "tuple", .base (.lst hb1), kit_ty (a := "list") (r := false) (by decide +kernel), rfl, _, rfl, iteNS rfl ?_⟩
        refine ⟨_, rfl, _, _, rfl, .inl ⟨_, SqL.of ha1, rfl⟩, _, rfl, _, _, rfl, .inl ⟨_, SqL.of hb1, rfl⟩, rfl, _, rfl, ifd (by rw [hl]) ?_⟩
        refine ⟨_, rfl, _, rfl, a, b, xs, ys, rfl, .inl ⟨SqL.of ha1, SqL.of hb1, fun D hD => ?_⟩⟩
        refine lc_fm (walk_zip (show xs.length = min xs.length ys.length by omega)) (fun _ => some (.bl true)) hD (by have : (1000 : Nat) < sizeLine := (by decide); omega) (fun H' s' => ⟨SqL.of (s' _ _ ha1), SqL.of (s' _ _ hb1)⟩) (fun i v H2 H3 Kt Kf hi s2 yy kt kf => ?_) (fun H2 s2 hD2 => ?_)
        · obtain ⟨T, u', v', rfl, nT, rfl, e1, e2⟩ := yy
          refine ⟨_, _, rfl, SqT.of upd_same, rfl, _, _, rfl, _, _, rfl, rfl, rfl, iteT (B := Kf (upd H2 T (.tup [u', v']))) ?_⟩
          exact ⟨_, rfl, _, rfl, u', v', rfl, Sm_same ((s1.trans s2).trans (Same_new nT)) n (he i u' v' e1 e2), fun H4 s4 => kt _ _ rfl ((Same_new nT).trans s4)⟩
        · refine ⟨D, List.replicate xs.length true, rfl, SqL.of (hD2.trans ?_), ?_⟩
          · rw [rep_true]
          · rw [rep_all]
            exact kq _ (s1.trans s2)
      · have hk := he
        refine ⟨_, rfl, (by show 2 ≤ sizeLine; decide), fun p hp => ⟨_, p, _, _, _, _, rfl, upd_same, cls2 "list" "tuple", .base (.tup (Same_new hp _ _ hb)), kit2 (a := "tuple") (r := false) (s := true) (by decide +kernel) (by decide +kernel), _, rfl, iteT ?_⟩⟩
        have s1 : Same H (upd H p (.tup [.ty "list", .ty "tuple"])) := Same_new hp
        have ha1 := s1 _ _ ha
        have hb1 := s1 _ _ hb
        refine ⟨_, rfl, _, _, _, _, _, rfl, .ty "list", .base (.tup ha1), kit_ty (a := "tuple") (r := false) (by decide +kernel), _, rfl, _, _, _, _, _, rfl, .ty "list", .base (.tup hb1), kit_ty (a := "tuple") (r := false) (by decide +kernel), rfl, _, rfl, iteNS rfl ?_⟩
        refine ⟨_, rfl, _, _, _, _, _, rfl, .ty "tuple", .base (.tup ha1), kit_ty (a := "tuple") (r := true) (by decide +kernel), _, rfl, _, _, _, _, _, rfl, .ty "tuple", .base (.tup hb1), kit_ty (a := "tuple") (r := true) (by decide +kernel), rfl, _, rfl, iteNS rfl ?_⟩
        refine ⟨_, rfl, _, _, rfl, .inr ⟨_, SqT.of ha1, rfl⟩, _, rfl, _, _, rfl, .inr ⟨_, SqT.of hb1, rfl⟩, rfl, _, rfl, ifd (by rw [hl]) ?_⟩
        refine ⟨_, rfl, _, rfl, a, b, xs, ys, rfl, .inr ⟨SqT.of ha1, SqT.of hb1, fun D hD => ?_⟩⟩
        refine lc_fm (walk_zipT (show xs.length = min xs.length ys.length by omega)) (fun _ => some (.bl true)) hD (by have : (1000 : Nat) < sizeLine := (by decide); omega) (fun H' s' => ⟨SqT.of (s' _ _ ha1), SqT.of (s' _ _ hb1)⟩) (fun i v H2 H3 Kt Kf hi s2 yy kt kf => ?_) (fun H2 s2 hD2 => ?_)
        · obtain ⟨T, u', v', rfl, nT, rfl, e1, e2⟩ := yy
          refine ⟨_, _, rfl, SqT.of upd_same, rfl, _, _, rfl, _, _, rfl, rfl, rfl, iteT (B := Kf (upd H2 T (.tup [u', v']))) ?_⟩
          exact ⟨_, rfl, _, rfl, u', v', rfl, Sm_same ((s1.trans s2).trans (Same_new nT)) n (he i u' v' e1 e2), fun H4 s4 => kt _ _ rfl ((Same_new nT).trans s4)⟩
        · refine ⟨D, List.replicate xs.length true, rfl, SqL.of (hD2.trans ?_), ?_⟩
          · rw [rep_true]
          · rw [rep_all]
            exact kq _ (s1.trans s2)

theorem ok_false {fd : FuncData} (F : Fun K "_law_same" "_law_same" s__law_same (He.ga K "_law_same") fd) : FnOk P w K mg base CX0 1 (He.ga K "_law_same") fd ["_law_got", "_law_goal"] (spPrev 0) :=
  F.ok sc_same (fun vs H Q E h => False.elim h) (fun cdv A outer s H vs Q E hr h => False.elim h)
theorem ok_same_all (B : Bk K mg) {fd : FuncData} (F : Fun K "_law_same" "_law_same" s__law_same (He.ga K "_law_same") fd) (b : Binds K fd ["_law_got", "_law_goal"] []) : ∀ n, FnOk P w K mg base CX0 (n + 2) (He.ga K "_law_same") fd ["_law_got", "_law_goal"] (spSame n)
  | 0 => ok_same_step B F 0 1 (ok_false F) b
  | n + 1 => ok_same_step B F (n + 1) (n + 2) (ok_same_all B F b n) b
theorem ok_law_same (B : Bk K mg) (n : Nat) : Df P w K mg base CX0 (n + 2) "_law_same" ["_law_got", "_law_goal"] (spSame n) := by
  obtain ⟨fd, F⟩ := B.F_law_same
  have b := F.binds (ps := ["_law_got", "_law_goal"]) fun _ _ _ _ _ _ us hl => match us, hl with | [_, _], _ => rfl
  exact ⟨⟨fd, ok_same_all B F b n, b⟩, B.g_law_same, F.kp⟩
end
end Jd
namespace Jd
open PySem PySem.Spec PyProof.Rows L2
/-! ### lists, few -/
def spNo : Sp := fun _ _ _ _ => False
def spLs0 : Sp := fun vs H Q _ => ∃ z : Str, vs = [.str z] ∧ ∀ H', Same H H' → Q (.str z) H'
def spLs1 : Sp := fun vs H Q _ => ∃ (a : Addr) (ns : List Str), vs = [.ref a] ∧ H a = some (.tup (ns.map V.str)) ∧ ns.length ≤ 1000 ∧ ∀ H' l, Same H H' → H l = none → H' l = some (.lst (ns.map V.str)) → Q (.ref l) H'
/-- lists of two texts -/
def LsAt (H : Hp) (qs : List Addr) (prs : List (Str × Str)) : Prop := qs.length = prs.length ∧ ∀ (i : Nat) (q : Addr), qs[i]? = some q → ∃ pr, prs[i]? = some pr ∧ H q = some (.lst [.str pr.1, .str pr.2])
def spLs2 : Sp := fun vs H Q _ => ∃ (a : Addr) (ps : List Addr) (R : List (Str × Str)), vs = [.ref a] ∧ H a = some (.tup (ps.map V.ref)) ∧ PrAt H ps R ∧ R.length ≤ 1000 ∧ ∀ H' l qs, Same H H' → H l = none → H' l = some (.lst (qs.map V.ref)) → LsAt H' qs R → l ∉ qs → (∀ q ∈ qs, H q = none) → Q (.ref l) H'
def spFew (K : PySem.W.Frag) : Sp := fun vs H Q _ => ∃ (u l : Addr) (xs : List V) (n : Nat) (m : Int), vs = [.ref u, .ref l, .int m] ∧ Urn H u n ∧ n + xs.length < 100000 ∧ SqT K H l xs ∧ xs.length ≤ 1000 ∧ 0 < m ∧ m < 1073741824 ∧
  ∀ (ys : List V) p H', ys.Sublist xs → Urn H' u (n + xs.length) → Keep u H H' → H p = none → H' p = some (.tup ys) → Q (.ref p) H'
theorem Keep.seqT {K : PySem.W.Frag} {u : Addr} {H H' : Hp} (k : Keep u H H') {a : Addr} {xs ys : List V} (h : SqT K H a xs) (hu : H u = some (.lst ys)) : SqT K H' a xs := by
  rcases h with (h | ⟨o, h⟩) | h
  · exact .inl (.inl (k _ _ (ne_of h hu (by intro z; cases z)) h))
  · exact .inl (.inr ⟨o, k _ _ (ne_of h hu (by intro z; cases z)) h⟩)
  · exact .inr h
theorem at_last {α : Type} {l : List α} {x y : α} {j : Nat} (h : (l ++ [x])[j]? = some y) : l[j]? = some y ∨ (j = l.length ∧ y = x) := by
  by_cases hj : j < l.length
  · rw [List.getElem?_append_left hj] at h
    exact .inl h
  · rw [List.getElem?_append_right (by omega)] at h
    have j0 : j - l.length = 0 := by
      rcases Nat.eq_zero_or_pos (j - l.length) with z | z
      · exact z
      · rw [List.getElem?_eq_none (by show 1 ≤ _; omega)] at h
        cases h
    rw [j0] at h
    cases h
    exact .inr ⟨by omega, rfl⟩
section
variable {P : Program} {w : World} {K : PySem.W.Frag} {mg : Str → Option Value} {base : Heap}
theorem sc_ls : FnScope ["_law_matter", "_law_bit"] ["_law_matter"] (defScope s__law_lists) := ⟨rfl, rfl, rfl, by decide +kernel, rfl, by decide +kernel, by decide +kernel⟩
theorem ok_ls0 (B : Bk K mg) {fd : FuncData} (F : Fun K "_law_lists" "_law_lists" s__law_lists (He.ga K "_law_lists") fd) (bG : Binds K fd ["_law_matter"] []) :
    FnOk P w K mg base CX0 2 (He.ga K "_law_lists") fd ["_law_matter"] spLs0 := by
  have G := F.ok (P := P) (w := w) (mg := mg) (base := base) (k := 0) sc_ls (sp := spNo) (fun vs H Q E h => False.elim h) (fun cdv A outer s H vs Q E hr h => False.elim h)
  refine F.ok sc_ls (fun vs H Q E h => ?_) (fun cdv A outer s H vs Q E hr h => ?_)
  · obtain ⟨_, rfl, _⟩ := h
    rfl
  · obtain ⟨z, rfl, k⟩ := h
    refine ⟨_, pss_one (ps_ret (pe_ifExp (pt_val (pe_callB call_isiT (by rfl) B.b_isinstance (by decide +kernel) (pa_cons (pv 0) (pa_cons (pe_tup (pa_cons (pe_bltn (by rfl) B.b_list (by decide +kernel) (show RelV (.ty "list") (.type "list") from rfl)) (pa_cons (pe_bltn (by rfl) B.b_tuple (by decide +kernel) (show RelV (.ty "tuple") (.type "tuple") from rfl)) pa_nil))) pa_nil))))
      (pe_lc (own := [("_law_bit", 1)]) (g := gName 1) (tt := tYes) rfl sc_ls.nd (pi_tup (pv 0)) (blkOk_by (N := ["_law_matter", "_law_bit"]) (sc := defScope s__law_lists) (by decide +kernel))
        (fun _ _ _ _ _ => pg_name (i := 1) sc_ls.nd rfl (Or.inl rfl)) (fun _ _ _ _ _ => pts_nil) (fun _ _ _ _ _ => pe_call G hr rfl B.g_law_lists F.kp bG .nil pass0 (pa_cons (pv 1) pa_nil))) (pv 0))), ?_⟩
    refine ⟨_, rfl, (by show 2 ≤ sizeLine; decide), fun p hp => ⟨_, p, _, _, _, _, rfl, upd_same, cls2 "list" "tuple", .base (.str z), kit2 (a := "str") (r := false) (s := false) (by decide +kernel) (by decide +kernel), _, rfl, iteF ?_⟩⟩
    exact ⟨_, rfl, k _ (Same_new hp)⟩
theorem ok_ls1 (B : Bk K mg) {fd : FuncData} (F : Fun K "_law_lists" "_law_lists" s__law_lists (He.ga K "_law_lists") fd) (bG : Binds K fd ["_law_matter"] []) :
    FnOk P w K mg base CX0 3 (He.ga K "_law_lists") fd ["_law_matter"] spLs1 := by
  have G := ok_ls0 (P := P) (w := w) (base := base) B F bG
  refine F.ok sc_ls (fun vs H Q E h => ?_) (fun cdv A outer s H vs Q E hr h => ?_)
  · obtain ⟨_, _, rfl, _⟩ := h
    rfl
  · obtain ⟨a, ns, rfl, ha, hl, k⟩ := h
    refine ⟨_, pss_one (ps_ret (pe_ifExp (pt_val (pe_callB call_isiT (by rfl) B.b_isinstance (by decide +kernel) (pa_cons (pv 0) (pa_cons (pe_tup (pa_cons (pe_bltn (by rfl) B.b_list (by decide +kernel) (show RelV (.ty "list") (.type "list") from rfl)) (pa_cons (pe_bltn (by rfl) B.b_tuple (by decide +kernel) (show RelV (.ty "tuple") (.type "tuple") from rfl)) pa_nil))) pa_nil))))
      (pe_lc (own := [("_law_bit", 1)]) (g := gName 1) (tt := tYes) rfl sc_ls.nd (pi_tup (pv 0)) (blkOk_by (N := ["_law_matter", "_law_bit"]) (sc := defScope s__law_lists) (by decide +kernel))
        (fun _ _ _ _ _ => pg_name (i := 1) sc_ls.nd rfl (Or.inl rfl)) (fun _ _ _ _ _ => pts_nil) (fun _ _ _ _ _ => pe_call G hr rfl B.g_law_lists F.kp bG .nil pass0 (pa_cons (pv 1) pa_nil))) (pv 0))), ?_⟩
    refine ⟨_, rfl, (by show 2 ≤ sizeLine; decide), fun p hp => ⟨_, p, _, _, _, _, rfl, upd_same, cls2 "list" "tuple", .base (.tup (Same_new hp _ _ ha)), kit2 (a := "tuple") (r := false) (s := true) (by decide +kernel) (by decide +kernel), _, rfl, iteT ?_⟩⟩
    have s0 : Same H (upd H p (.tup [.ty "list", .ty "tuple"])) := Same_new hp
    refine ⟨_, rfl, a, rfl, ⟨_, SqT.of (s0 _ _ ha)⟩, fun D hD => ?_⟩
    have hD0 : H D = none := s0.free hD
    refine lc_fm (walk_tup (xs := ns.map V.str)) (fun i => (ns[i]?).map V.str) hD (by rw [List.length_map]; exact Nat.le_trans hl (by decide)) (fun H' s' => sm_seqT (s0.trans s') (SqT.of ha)) (fun i x H1 H2 Kt Kf hi s1 y kt kf => ?_) (fun H1 s1 hD1 => ?_)
    · obtain ⟨rfl, hx⟩ := y
      obtain ⟨z, hz, rfl⟩ := at_str hx
      refine ⟨rfl, iteT (B := Kf H2) ?_⟩
      exact ⟨_, rfl, z, rfl, fun H3 s3 => kt _ _ (by rw [hz]; rfl) s3⟩
    · have e : (List.range (ns.map V.str).length).filterMap (fun i => (ns[i]?).map V.str) = ns.map V.str := by
        rw [List.length_map]
        exact fm_some (fun i x hx => by rw [hx]; rfl)
      rw [e] at hD1
      exact k _ D (s0.trans s1) hD0 hD1
theorem ok_ls2 (B : Bk K mg) {fd : FuncData} (F : Fun K "_law_lists" "_law_lists" s__law_lists (He.ga K "_law_lists") fd) (bG : Binds K fd ["_law_matter"] []) :
    FnOk P w K mg base CX0 4 (He.ga K "_law_lists") fd ["_law_matter"] spLs2 := by
  have G := ok_ls1 (P := P) (w := w) (base := base) B F bG
  refine F.ok sc_ls (fun vs H Q E h => ?_) (fun cdv A outer s H vs Q E hr h => ?_)
  · obtain ⟨_, _, _, rfl, _⟩ := h
    rfl
  · obtain ⟨a, ps, R, rfl, ha, hp, hl, k⟩ := h
    refine ⟨_, pss_one (ps_ret (pe_ifExp (pt_val (pe_callB call_isiT (by rfl) B.b_isinstance (by decide +kernel) (pa_cons (pv 0) (pa_cons (pe_tup (pa_cons (pe_bltn (by rfl) B.b_list (by decide +kernel) (show RelV (.ty "list") (.type "list") from rfl)) (pa_cons (pe_bltn (by rfl) B.b_tuple (by decide +kernel) (show RelV (.ty "tuple") (.type "tuple") from rfl)) pa_nil))) pa_nil))))
      (pe_lc (own := [("_law_bit", 1)]) (g := gName 1) (tt := tYes) rfl sc_ls.nd (pi_tup (pv 0)) (blkOk_by (N := ["_law_matter", "_law_bit"]) (sc := defScope s__law_lists) (by decide +kernel))
        (fun _ _ _ _ _ => pg_name (i := 1) sc_ls.nd rfl (Or.inl rfl)) (fun _ _ _ _ _ => pts_nil) (fun _ _ _ _ _ => pe_call G hr rfl B.g_law_lists F.kp bG .nil pass0 (pa_cons (pv 1) pa_nil))) (pv 0))), ?_⟩
    refine ⟨_, rfl, (by show 2 ≤ sizeLine; decide), fun p hpp => ⟨_, p, _, _, _, _, rfl, upd_same, cls2 "list" "tuple", .base (.tup (Same_new hpp _ _ ha)), kit2 (a := "tuple") (r := false) (s := true) (by decide +kernel) (by decide +kernel), _, rfl, iteT ?_⟩⟩
    have s0 : Same H (upd H p (.tup [.ty "list", .ty "tuple"])) := Same_new hpp
    refine ⟨_, rfl, a, rfl, ⟨_, SqT.of (s0 _ _ ha)⟩, fun D hD => ?_⟩
    have hD0 : H D = none := s0.free hD
    refine lc_it (walk_tup (xs := ps.map V.ref)) (fun i H' => Same H H' ∧ ∃ qs : List Addr, H' D = some (.lst (qs.map V.ref)) ∧ qs.length = i ∧ (∀ q ∈ qs, q ≠ D ∧ H q = none) ∧ ∀ (j : Nat) (q : Addr), qs[j]? = some q → ∃ pr, R[j]? = some pr ∧ H' q = some (.lst [.str pr.1, .str pr.2]))
      ⟨Same_lay s0 hD, [], upd_same, rfl, (fun q h => by cases h), fun j q h => by cases h⟩ (fun i H' _ ⟨s', _⟩ => sm_seqT s' (SqT.of ha)) (fun i x H1 H2 hi ⟨s1, qs, hD1, hl1, hn1, hr1⟩ y => ?_) (fun H1 ⟨s1, qs, hD1, hl1, hn1, hr1⟩ => ?_)
    · obtain ⟨rfl, hx⟩ := y
      obtain ⟨p0, hp0, rfl⟩ := at_ref hx
      obtain ⟨pr, hpr, hpo⟩ := hp.2 i p0 hp0
      have hi' : i < R.length := (List.getElem?_eq_some_iff.mp hpr).1
      refine ⟨rfl, iteT (B := ∃ z : Nat, z = 0) ?_⟩
      refine ⟨_, rfl, p0, [pr.1, pr.2], rfl, s1 _ _ hpo, (by show 2 ≤ 1000; decide), fun H3 l s3 nl hl3 => ?_⟩
      have hD3 := s3 _ _ hD1
      have lD : l ≠ D := fun z => by rw [z, hD1] at nl; cases nl
      refine ⟨qs.map V.ref, hD3, by rw [List.length_map, hl1]; exact Nat.lt_of_lt_of_le hi' (Nat.le_trans hl (by decide)), fun b o q => ?_, qs ++ [l], by rw [upd_same, List.map_append]; rfl, by rw [List.length_append, hl1]; rfl, fun q hq => ?_, fun j q hq => ?_⟩
      · rw [upd_ne (ne_of_none q hD0)]
        exact s3 _ _ (s1 _ _ q)
      · rcases List.mem_append.mp hq with hq | hq
        · exact hn1 q hq
        · rw [List.mem_singleton.mp hq]
          exact ⟨lD, s1.free nl⟩
      · rcases at_last hq with hq | ⟨rfl, rfl⟩
        · obtain ⟨pr', e1, e2⟩ := hr1 j q hq
          exact ⟨pr', e1, by rw [upd_ne (hn1 q (List.mem_of_getElem? hq)).1]; exact s3 _ _ e2⟩
        · exact ⟨pr, by rw [hl1]; exact hpr, by rw [upd_ne lD]; exact hl3⟩
    · exact k _ D qs s1 hD0 hD1 ⟨by rw [hl1, List.length_map, hp.1], hr1⟩ (fun z => (hn1 D z).1 rfl) fun q hq => (hn1 q hq).2
theorem sc_few : FnScope ["_law_urn", "_law_pool", "_law_one_of", "_law_own"] ["_law_urn", "_law_pool", "_law_one_of"] (defScope s__law_few) := ⟨rfl, rfl, rfl, by decide +kernel, rfl, by decide +kernel, by decide +kernel⟩
theorem ok_few (B : Bk K mg) : Df P w K mg base CX0 2 "_law_few" ["_law_urn", "_law_pool", "_law_one_of"] (spFew K) := by
  obtain ⟨fd, F⟩ := B.F_law_few
  obtain ⟨fdT, GT, bT⟩ := (ok_law_take (P := P) (w := w) (base := base) B).ex
  have kT := (ok_law_take (P := P) (w := w) (base := base) B).kp
  refine ⟨⟨fd, ?_, F.binds fun _ _ _ _ _ _ us hl => match us, hl with | [_, _, _], _ => rfl⟩, B.g_law_few, F.kp⟩
  refine F.ok sc_few (fun vs H Q E h => ?_) (fun cdv A outer s H vs Q E hr h => ?_)
  · obtain ⟨_, _, _, _, _, rfl, _⟩ := h
    rfl
  · obtain ⟨u, l, xs, n, m, rfl, hu, hn, hl, h1, m0, m1, k⟩ := h
    refine ⟨_, pss_one (ps_ret (pe_callTy call_tuple_of (by rfl) B.b_tuple (by decide +kernel) (pa_cons (pe_lc (own := [("_law_own", 3)]) (g := gName 3) (tt := tTest (tOp rEq (tCall spTake [] E0 (tCons (tVar 0) (tCons (tVar 2) tNil))) (tC (.int 0)))) rfl sc_few.nd (pi_tup (pv 1)) (blkOk_by (N := ["_law_urn", "_law_pool", "_law_one_of", "_law_own"]) (sc := defScope s__law_few) (by decide +kernel))
      (fun _ _ _ _ _ => pg_name (i := 3) sc_few.nd rfl (Or.inl rfl)) (fun _ _ _ _ _ => pts_one (pt_cmpR op_eq (pe_call GT hr rfl B.g_law_take kT bT .nil pass0 (pa_cons (pv 0) (pa_cons (pv 2) pa_nil))) pe_int (nomark _))) (fun _ _ _ _ _ => pv 3)) pa_nil))), ?_⟩
    obtain ⟨a0, b0, c0, hu0, _⟩ := id hu
    refine ⟨_, rfl, l, rfl, ⟨_, hl⟩, fun D hD => ?_⟩
    have nDu : D ≠ u := fun z => by rw [z, hu0] at hD; cases hD
    refine lc_it (walk_tup (xs := xs)) (fun i H' => Keep u H H' ∧ Urn H' u (n + i) ∧ ∃ ys : List V, H' D = some (.lst ys) ∧ ys.Sublist (xs.take i))
      ⟨Same.keep (Same_new hD), (hu.same (Same_new hD)), [], upd_same, List.Sublist.refl _⟩ (fun i H' _ ⟨k', _⟩ => k'.seqT hl hu0) (fun i x H1 H2 hi ⟨k1, hu1, ys, hD1, hs1⟩ y => ?_) (fun H1 ⟨k1, hu1, ys, hD1, hs1⟩ => ?_)
    · obtain ⟨rfl, hx⟩ := y
      have hi' : i < xs.length := hi
      refine ⟨rfl, _, rfl, _, rfl, u, m, n + i, rfl, hu1, by omega, m0, m1, fun r H3 r0 r1 hu3 k3 => ⟨rfl, _, rfl, ?_⟩⟩
      have hD3 : H3 D = some (.lst ys) := k3 _ _ nDu hD1
      have e : xs.take (i + 1) = xs.take i ++ [x] := by rw [List.take_add_one, hx]; rfl
      have ly : ys.length ≤ i := by
        have q := hs1.length_le
        rw [List.length_take] at q
        omega
      refine two (fun _ => ?_) (fun _ => ⟨k1.trans k3, hu3, ys, hD3, by rw [e]; exact hs1.trans (List.sublist_append_left _ _)⟩)
      refine ⟨_, rfl, ys, hD3, by have : (1000 : Nat) < sizeLine := (by decide); omega, fun b o nb q => ?_, ?_, ys ++ [x], upd_same, by rw [e]; exact hs1.append (List.Sublist.refl _)⟩
      · rw [upd_ne (ne_of_none q hD)]
        exact k3 _ _ nb (k1 _ _ nb q)
      · obtain ⟨a, b, c, h3, h4⟩ := hu3
        exact ⟨a, b, c, by rw [upd_ne nDu.symm]; exact h3, h4⟩
    · rw [List.take_length] at hs1
      refine ⟨D, ys, rfl, .inl ⟨SqL.of hD1, fun p hp => ?_⟩⟩
      obtain ⟨a, b, c, h3, h4⟩ := hu1
      have npu : p ≠ u := fun z => by rw [z, h3] at hp; cases hp
      exact k ys p _ hs1 ⟨a, b, c, by rw [upd_ne npu.symm]; exact h3, h4⟩ (Keep_lay k1 (k1.none hp npu)) (k1.none hp npu) upd_same
end
end Jd
namespace Jd
open PySem PySem.Spec PyProof.Rows L2
/-! ### book -/
def pool7 : List Str := ["a", "city", "item", "lot", "shop", "user", "zzzzzzzz"]
theorem pool_nd : pool7.Nodup := by decide +kernel
theorem idx_at : ∀ {ns : List Str} {i : Nat} {z : Str}, ns.Nodup → ns[i]? = some z → ns.idxOf z = i
  | [], _, _, _, h => by cases h
  | x :: r, 0, z, _, h => by
    cases h
    exact List.idxOf_cons_self
  | x :: r, i + 1, z, nd, h => by
    obtain ⟨n1, n2⟩ := List.nodup_cons.mp nd
    have hz : z ∈ r := List.mem_of_getElem? (show r[i]? = some z from h)
    have ne : x ≠ z := fun e => n1 (e ▸ hz)
    have hb : (x == z) = false := by
      cases e : (x == z) with
      | false => rfl
      | true => exact absurd (eq_of_beq e) ne
    rw [List.idxOf_cons, hb, idx_at n2 (show r[i]? = some z from h)]
    rfl
structure Book (ns : List Str) (R : List (Str × Str)) : Prop where
  nd : ns.Nodup
  so : sortedS ns = true
  l1 : 1 ≤ ns.length
  l5 : ns.length ≤ 5
  pool : ∀ z ∈ ns, z ∈ pool7
  rnd : R.Nodup
  r1 : ∀ p ∈ R, p.1 ∈ ns
  r2 : ∀ p ∈ R, p.2 ∈ ns
  rk : ∃ rk : Str → Nat, (∀ p ∈ R, rk p.1 < rk p.2) ∧ ∀ p ∈ R, rk p.2 ≤ ns.length
  rl : R.length ≤ 30
def loP (st : Int) (p : Str × Str) : Str := if st = 1 then p.1 else p.2
def hiP (st : Int) (p : Str × Str) : Str := if st = 1 then p.2 else p.1
def mkP (st : Int) (a b : Str) : Str × Str := if st = 1 then (a, b) else (b, a)
theorem lo_mk (st : Int) (a b : Str) : loP st (mkP st a b) = a := by
  unfold loP mkP
  by_cases h : st = 1
  · rw [if_pos h, if_pos h]
  · rw [if_neg h, if_neg h]
theorem hi_mk (st : Int) (a b : Str) : hiP st (mkP st a b) = b := by
  unfold hiP mkP
  by_cases h : st = 1
  · rw [if_pos h, if_pos h]
  · rw [if_neg h, if_neg h]
structure PkI (ns : List Str) (st : Int) (R : List (Str × Str)) (i j : Nat) : Prop where
  nd : R.Nodup
  mem : ∀ p ∈ R, loP st p ∈ ns ∧ hiP st p ∈ ns ∧ ns.idxOf (loP st p) < ns.idxOf (hiP st p) ∧ (ns.idxOf (loP st p) < i ∨ (ns.idxOf (loP st p) = i ∧ ns.idxOf (hiP st p) < j))
  len : R.length ≤ 5 * i + (j - (i + 1))
theorem PkI.zero {ns : List Str} {st : Int} : PkI ns st [] 0 1 := ⟨List.nodup_nil, (fun p h => by cases h), Nat.zero_le _⟩
theorem PkI.add {ns : List Str} {st : Int} {R : List (Str × Str)} {i j : Nat} {a b : Str} (h : PkI ns st R i j) (nd : ns.Nodup) (ha : ns[i]? = some a) (hb : ns[j]? = some b) (hij : i < j) : PkI ns st (R ++ [mkP st a b]) i (j + 1) := by
  have ea := idx_at nd ha
  have eb := idx_at nd hb
  refine ⟨List.nodup_append.mpr ⟨h.nd, List.nodup_cons.mpr ⟨List.not_mem_nil, List.nodup_nil⟩, fun p hp q hq e => ?_⟩, fun p hp => ?_, ?_⟩
  · rw [List.mem_singleton.mp hq] at e
    subst e
    obtain ⟨_, _, _, z⟩ := h.mem _ hp
    rw [lo_mk, hi_mk, ea, eb] at z
    omega
  · rcases List.mem_append.mp hp with hp | hp
    · obtain ⟨h1, h2, h3, h4⟩ := h.mem p hp
      exact ⟨h1, h2, h3, by omega⟩
    · rw [List.mem_singleton.mp hp, lo_mk, hi_mk, ea, eb]
      exact ⟨List.mem_of_getElem? ha, List.mem_of_getElem? hb, hij, .inr ⟨rfl, Nat.lt_succ_self _⟩⟩
  · rw [List.length_append]
    have := h.len
    show R.length + 1 ≤ _
    omega
theorem PkI.skip {ns : List Str} {st : Int} {R : List (Str × Str)} {i j : Nat} (h : PkI ns st R i j) : PkI ns st R i (j + 1) := ⟨h.nd, fun p hp => by
  obtain ⟨h1, h2, h3, h4⟩ := h.mem p hp
  exact ⟨h1, h2, h3, by omega⟩, by have := h.len; omega⟩
theorem PkI.next {ns : List Str} {st : Int} {R : List (Str × Str)} {i : Nat} (h : PkI ns st R i ns.length) (l5 : ns.length ≤ 5) : PkI ns st R (i + 1) (i + 2) := ⟨h.nd, fun p hp => by
  obtain ⟨h1, h2, h3, h4⟩ := h.mem p hp
  exact ⟨h1, h2, h3, by omega⟩, by have := h.len; omega⟩
theorem PkI.book {ns : List Str} {st : Int} {R : List (Str × Str)} {i j : Nat} (h : PkI ns st R ns.length j) (hj : j ≤ ns.length + 1) (nd : ns.Nodup) (so : sortedS ns = true) (l1 : 1 ≤ ns.length) (l5 : ns.length ≤ 5) (pool : ∀ z ∈ ns, z ∈ pool7) : Book ns R := by
  have lt : ∀ z ∈ ns, ns.idxOf z < ns.length := fun z hz => List.idxOf_lt_length_of_mem hz
  refine ⟨nd, so, l1, l5, pool, h.nd, fun p hp => ?_, fun p hp => ?_, ?_, by have := h.len; omega⟩
  · obtain ⟨h1, h2, _⟩ := h.mem p hp
    unfold loP at h1
    unfold hiP at h2
    split at h1
    · exact h1
    · rename_i q
      rw [if_neg q] at h2
      exact h2
  · obtain ⟨h1, h2, _⟩ := h.mem p hp
    unfold loP at h1
    unfold hiP at h2
    split at h2
    · exact h2
    · rename_i q
      rw [if_neg q] at h1
      exact h1
  · by_cases e : st = 1
    · refine ⟨fun z => ns.idxOf z, fun p hp => ?_, fun p hp => ?_⟩
      · obtain ⟨_, _, h3, _⟩ := h.mem p hp
        unfold loP hiP at h3
        rw [if_pos e, if_pos e] at h3
        exact h3
      · obtain ⟨_, h2, _, _⟩ := h.mem p hp
        unfold hiP at h2
        rw [if_pos e] at h2
        exact Nat.le_of_lt (lt _ h2)
    · refine ⟨fun z => ns.length - ns.idxOf z, fun p hp => ?_, fun p hp => Nat.sub_le _ _⟩
      obtain ⟨h1, h2, h3, _⟩ := h.mem p hp
      unfold loP hiP at h3
      unfold hiP at h2
      rw [if_neg e] at h2
      rw [if_neg e, if_neg e] at h3
      have := lt _ h2
      show ns.length - ns.idxOf p.1 < ns.length - ns.idxOf p.2
      omega
theorem cut_from (xs : List V) (k : Nat) : cutV xs (some (k : Int)) none = xs.drop (min k xs.length) := by
  unfold cutV
  rw [HT.sIx_nat, HT.sIx_none]
  rw [List.take_of_length_le (by rw [List.length_drop]; exact Nat.le_refl _)]
theorem free_of {u b : Addr} {H H' : Hp} {o : HO} (k : Keep u H H') (hu : H' u = some o) (h : H' b = none) : H b = none := by
  by_cases e : b = u
  · rw [e, hu] at h
    cases h
  · exact k.none h e
def spBook : Sp := fun vs H Q _ => ∃ (u : Addr) (m : Int) (n : Nat), vs = [.ref u, .int m] ∧ Urn H u n ∧ n < 90000 ∧ 0 < m ∧ m ≤ 5 ∧
  ∀ (ns : List Str) (R : List (Str × Str)) (t f g : Addr) (qs : List Addr) (H' : Hp), Book ns R → Urn H' u (n + 40) → Keep u H H' → H t = none → H f = none → H g = none → (∀ q ∈ qs, H q = none) → H' t = some (.tup [.ref f, .ref g]) → H' f = some (.tup (ns.map V.str)) → H' g = some (.tup (qs.map V.ref)) → PrAt H' qs R → Q (.ref t) H'
section
variable {P : Program} {w : World} {K : PySem.W.Frag} {mg : Str → Option Value} {base : Heap}
abbrev NBk : List Str := ["_law_urn", "_law_most_so", "_law_pool", "_law_flats", "_law_pairs_so", "_law_style", "_law_k", "_law_own", "_law_far"]
theorem sc_bk : FnScope NBk ["_law_urn", "_law_most_so"] (defScope s__law_book) := ⟨rfl, rfl, rfl, by decide +kernel, rfl, by decide +kernel, by decide +kernel⟩
theorem ok_book (B : Bk K mg) : Df P w K mg base CX0 3 "_law_book" ["_law_urn", "_law_most_so"] spBook := by
  obtain ⟨fd, F⟩ := B.F_law_book
  obtain ⟨fdT, GT, bT⟩ := (ok_law_take (P := P) (w := w) (base := base) B).ex
  have kT := (ok_law_take (P := P) (w := w) (base := base) B).kp
  obtain ⟨fdM, GM, bM⟩ := (ok_law_mixed (P := P) (w := w) (base := base) B).ex
  have kM := (ok_law_mixed (P := P) (w := w) (base := base) B).kp
  refine ⟨⟨fd, ?_, F.binds fun _ _ _ _ _ _ us hl => match us, hl with | [_, _], _ => rfl⟩, B.g_law_book, F.kp⟩
  refine F.ok sc_bk (fun vs H Q E h => ?_) (fun cdv A outer s H vs Q E hr h => ?_)
  · obtain ⟨_, _, _, rfl, _⟩ := h
    rfl
  · obtain ⟨u, m, n, rfl, hu, hn, m0, m5, k⟩ := h
    have hr1 : Room 1 _ := hr.mono (by decide)
    refine ⟨_, pss_cons (ps_set (i := 2) sc_bk.nd rfl (Or.inl rfl) (pe_callTy call_list_of (by rfl) B.b_list (by decide +kernel) (pa_cons (pe_call GM hr rfl B.g_law_mixed kM bM .nil pass0 (pa_cons (pv 0) (pa_cons (pe_lst (pa_cons pe_str (pa_cons pe_str (pa_cons pe_str (pa_cons pe_str (pa_cons pe_str (pa_cons pe_str (pa_cons pe_str pa_nil)))))))) pa_nil))) pa_nil)))
      (pss_cons (ps_par3 (i := 3) (j := 4) (l := 5) (by rfl) sc_bk.nd rfl rfl rfl (by decide) (by decide) (by decide) rfl rfl rfl
        (pa_cons (pe_callB cr_sortedS (by rfl) B.b_sorted (by decide +kernel) (pa_cons (pe_lc (own := [("_law_own", 7)]) (g := gName 7) (tt := tYes) rfl sc_bk.nd (pi_list (pe_slice sl_list (pv 2) po_none (po_some (pe_op op_add pe_int (pe_call GT hr1 rfl B.g_law_take kT bT .nil pass0 (pa_cons (pv 0) (pa_cons (pv 1) pa_nil)))))))
            (blkOk_by (N := NBk) (sc := defScope s__law_book) (by decide +kernel)) (fun _ _ _ _ _ => pg_name (i := 7) sc_bk.nd rfl (Or.inl rfl)) (fun _ _ _ _ _ => pts_nil) (fun _ _ _ _ _ => pe_callTy SkE.call_str_str (by rfl) B.b_str (by decide +kernel) (pa_cons (pv 7) pa_nil))) pa_nil))
          (pa_cons (pe_lst pa_nil) (pa_cons (pe_call GT hr1 rfl B.g_law_take kT bT .nil pass0 (pa_cons (pv 0) (pa_cons pe_int pa_nil))) pa_nil))) (by rfl))
      (pss_cons (ps_for PassesOwn.never rfl (pi_enum (by rfl) B.b_enumerate (pa_cons (pv 3) pa_nil)) (pg_tup rfl (pgs_cons (pg_name (i := 6) sc_bk.nd rfl (.inl rfl)) (pgs_cons (pg_name (i := 7) sc_bk.nd rfl (.inl rfl)) pgs_nil)))
        (pss_one (ps_for PassesOwn.never rfl (pi_list (pe_slice sl_list (pv 3) (po_some (pe_op op_add (pv 6) pe_int)) po_none)) (pg_name (i := 8) sc_bk.nd rfl (.inl rfl))
          (pss_one (ps_if (PW.pt (pw_and (pt_cmpR op_gt (pv 5) pe_int (nomark _)) (pw_and1 (pt_cmpR op_eq (pe_call GT hr1 rfl B.g_law_take kT bT .nil pass0 (pa_cons (pv 0) (pa_cons pe_int pa_nil))) pe_int (nomark _)))))
            (pss_one (ps_expr (pe_bm PySem.F.plainAttrs_list PySem.F.slot_list_append PySem.F.type_list_append mt_append (pv 4) (pa_cons (pe_cut (pe_ifExp (pt_cmpR op_eq (pv 5) pe_int (nomark _)) (pe_tup (pa_cons (pv 7) (pa_cons (pv 8) pa_nil))) (pe_tup (pa_cons (pv 8) (pa_cons (pv 7) pa_nil))))) pa_nil)))) pss_nil)))))
      (pss_one (ps_ret (pe_tup (pa_cons (pe_callTy call_tuple_of (by rfl) B.b_tuple (by decide +kernel) (pa_cons (pv 3) pa_nil)) (pa_cons (pe_callTy call_tuple_of (by rfl) B.b_tuple (by decide +kernel) (pa_cons (pv 4) pa_nil)) pa_nil))))))), ?_⟩
    obtain ⟨ua, ub, uc, hu0, _⟩ := id hu
    refine ⟨_, rfl, (by show 7 ≤ sizeLine; decide), fun p hp => ⟨u, p, pool7.map V.str, n, rfl, hu.same (Same_new hp), (by show n + 7 < 100000; omega), .inl (SqL.of upd_same), (by decide), fun ys t H1 pm hu1 kp1 nt ht => ?_⟩⟩
    obtain ⟨zs, rfl, pz⟩ := nodup_perm_map pm
    have ndz : zs.Nodup := pz.nodup_iff.mpr pool_nd
    have kp0 : Keep u H H1 := (Same.keep (Same_new hp)).trans kp1
    refine ⟨t, _, rfl, .inr (SqT.of ht), fun L nL => ?_⟩
    have nLH : H L = none := by
      obtain ⟨a, b, c, h3, _⟩ := hu1
      exact free_of kp0 h3 nL
    have nLu : L ≠ u := fun e => by rw [e, hu0] at nLH; cases nLH
    have kp2 : Keep u H (upd H1 L (.lst (zs.map V.str))) := Keep_lay kp0 nLH
    have hu2 : Urn (upd H1 L (.lst (zs.map V.str))) u (n + 7) := hu1.same (Same_new nL)
    refine ⟨_, rfl, _, rfl, _, rfl, u, m, n + 7, rfl, hu2, by omega, m0, by omega, fun r H3 r0 r1 hu3 kp3 => ?_⟩
    have hL3 : H3 L = some (.lst (zs.map V.str)) := kp3 _ _ nLu upd_same
    refine ⟨_, _, rfl, rfl, _, rfl, L, _, rfl, SqL.of hL3, fun q hq => ⟨q, rfl, ⟨_, SqL.of upd_same⟩, fun D hD => ?_⟩⟩
    have ec : cutV (zs.map V.str) Option.none (some ((fun i j => i + j) (1 : Int) r)) = (zs.take (1 + r.toNat)).map V.str := by
      have e : ((fun i j => i + j) (1 : Int) r) = ((1 + r.toNat : Nat) : Int) := by
        show 1 + r = _
        omega
      rw [e, cut_to, List.map_take]
    have zl : 1 ≤ (zs.take (1 + r.toNat)).length ∧ (zs.take (1 + r.toNat)).length ≤ 5 := by
      rw [List.length_take, pz.length_eq]
      have : pool7.length = 7 := rfl
      omega
    have ndx : (zs.take (1 + r.toNat)).Nodup := ndz.sublist (List.take_sublist _ _)
    have xin : ∀ z ∈ zs.take (1 + r.toNat), z ∈ pool7 := fun z h => pz.mem_iff.mp (List.mem_of_mem_take h)
    rw [ec] at hD ⊢
    generalize zs.take (1 + r.toNat) = xs at zl ndx xin hD
    obtain ⟨a3, b3, c3, hu3', _⟩ := id hu3
    have kq : Keep u H H3 := kp2.trans kp3
    have nqH : H q = none := free_of kq hu3' hq
    have kq1 : Keep u H (upd H3 q (.lst (xs.map V.str))) := Keep_lay kq nqH
    have huq : Urn (upd H3 q (.lst (xs.map V.str))) u (n + 8) := hu3.same (Same_new hq)
    refine lc_fm (walk_list (xs := xs.map V.str)) (fun i => (xs[i]?).map V.str) hD (by rw [List.length_map]; exact Nat.le_trans zl.2 (by decide)) (fun H' s' => sm_seqL s' (SqL.of upd_same)) (fun i x H4 H5 Kt Kf hi s4 y kt kf => ?_) (fun H4 s4 hD4 => ?_)
    · obtain ⟨rfl, hx⟩ := y
      obtain ⟨z, hz, rfl⟩ := at_str hx
      exact ⟨rfl, iteT (B := Kf H5) ⟨_, rfl, z, rfl, kt _ _ (by rw [hz]; rfl) (Same.refl _)⟩⟩
    · have e : (List.range (xs.map V.str).length).filterMap (fun i => (xs[i]?).map V.str) = xs.map V.str := by
        rw [List.length_map]
        exact fm_some (fun i x hx => by rw [hx]; rfl)
      rw [e] at hD4
      refine ⟨D, xs, rfl, SqL.of hD4, Nat.lt_of_le_of_lt zl.2 (by decide), fun ns fl pn so nf => ?_⟩
      have kf4 : Keep u H H4 := kq1.trans (Same.keep s4)
      have huf : Urn H4 u (n + 8) := huq.same s4
      obtain ⟨a4, b4, c4, hu4', _⟩ := id huf
      have nfH : H fl = none := free_of kf4 hu4' nf
      have nfu : fl ≠ u := fun e => by rw [e, hu0] at nfH; cases nfH
      have nd : ns.Nodup := pn.nodup_iff.mpr ndx
      have l1 : 1 ≤ ns.length := by rw [pn.length_eq]; exact zl.1
      have l5 : ns.length ≤ 5 := by rw [pn.length_eq]; exact zl.2
      have pool : ∀ z ∈ ns, z ∈ pool7 := fun z hz => xin z (pn.mem_iff.mp hz)
      refine ⟨Nat.zero_le _, fun W nW => ?_⟩
      have kW : Keep u H (upd H4 fl (.lst (ns.map V.str))) := Keep_lay kf4 nfH
      have huW : Urn (upd H4 fl (.lst (ns.map V.str))) u (n + 8) := huf.same (Same_new nf)
      obtain ⟨a5, b5, c5, hu5', _⟩ := id huW
      have nWH : H W = none := free_of kW hu5' nW
      have nWu : W ≠ u := fun e => by rw [e, hu0] at nWH; cases nWH
      have nWf : W ≠ fl := fun e => by rw [e, upd_same] at nW; cases nW
      refine ⟨_, rfl, u, 3, n + 8, rfl, huW.same (Same_new nW), by omega, by decide, by decide, fun st H6 st0 st3 hu6 kp6 => ⟨_, _, _, rfl, ?_⟩⟩
      have kW6 : Keep u H H6 := (Keep_lay kW nWH).trans kp6
      have hf6 : H6 fl = some (.lst (ns.map V.str)) := kp6 _ _ nfu (by rw [upd_ne nWf.symm, upd_same])
      have hW6 : H6 W = some (.lst []) := kp6 _ _ nWu upd_same
      refine ⟨_, rfl, fl, _, rfl, SqL.of hf6, ?_⟩
      refine for_it (n := (ns.map V.str).length) walk_enum (fun i σ H' => ∃ (v6 v7 v8 : Option V) (qs : List Addr) (R : List (Str × Str)), σ = [some (.ref u), some (.int m), some (.ref L), some (.ref fl), some (.ref W), some (.int st), v6, v7, v8] ∧ Keep u H H' ∧ Urn H' u (n + 9 + 5 * i) ∧
          H' fl = some (.lst (ns.map V.str)) ∧ H' W = some (.lst (qs.map V.ref)) ∧ PrAt H' qs R ∧ (∀ q ∈ qs, H q = none) ∧ PkI ns st R i (i + 1))
        ⟨_, _, _, [], [], rfl, kW6, hu6, hf6, hW6, PrAt.nil, (fun q h => by cases h), PkI.zero⟩ (fun i σ H' _ ⟨_, _, _, _, _, _, _, _, e, _⟩ => SqL.of e) (fun i x σ H7 H8 hi ⟨v6, v7, v8, qs, R, e, k7, hu7, hf7, hW7, hp7, hq7, pk⟩ y => ?_) (fun σ H7 ⟨v6, v7, v8, qs, R, e, k7, hu7, hf7, hW7, hp7, hq7, pk⟩ => ?_)
      · obtain ⟨T, x1, x2, rfl, nT, rfl, e1, e2⟩ := y
        cases e1
        subst e
        obtain ⟨a, ha, rfl⟩ := at_str (show (ns.map V.str)[i]? = some x2 from e2)
        have hi' : i < ns.length := (List.getElem?_eq_some_iff.mp ha).1
        obtain ⟨a7, b7, c7, hu7', _⟩ := id hu7
        have nTH : H T = none := free_of k7 hu7' nT
        have sT := Same_new (o := HO.tup [V.int (i : Nat), V.str a]) nT
        refine ⟨_, _, rfl, SqT.of upd_same, rfl, _, _, rfl, _, _, rfl, rfl, ?_⟩
        have kT8 : Keep u H (upd H7 T (.tup [V.int (i : Nat), V.str a])) := Keep_lay k7 nTH
        have hu8 := hu7.same sT
        have hf8 := sT _ _ hf7
        have hW8 := sT _ _ hW7
        have hp8 := hp7.same sT
        generalize (upd H7 T (.tup [V.int (i : Nat), V.str a])) = H8 at kT8 hu8 hf8 hW8 hp8
        clear sT nT hu7 hf7 hW7 hp7 k7 hu7'
        refine ⟨_, rfl, _, rfl, _, _, rfl, rfl, _, rfl, fl, _, rfl, SqL.of hf8, fun sl nsl => ?_⟩
        have es : cutV (ns.map V.str) (some ((fun i j => i + j) (i : Int) (1 : Int))) Option.none = (ns.drop (i + 1)).map V.str := by
          have e : ((fun i j => i + j) (i : Int) (1 : Int)) = ((i + 1 : Nat) : Int) := by
            show (i : Int) + 1 = _
            omega
          rw [e, cut_from, List.map_drop, List.length_map, Nat.min_eq_left (by omega)]
        rw [es]
        obtain ⟨a8, b8, c8, hu8', _⟩ := id hu8
        have nsH : H sl = none := free_of kT8 hu8' nsl
        have nsu : sl ≠ u := fun e => by rw [e, hu0] at nsH; cases nsH
        have sS := Same_new (o := HO.lst ((ns.drop (i + 1)).map V.str)) nsl
        refine ⟨sl, rfl, ⟨_, SqL.of upd_same⟩, ?_⟩
        have nsf : sl ≠ fl := fun e => by rw [e, hf8] at nsl; cases nsl
        have nsW : sl ≠ W := fun e => by rw [e, hW8] at nsl; cases nsl
        refine for_it (n := ((ns.drop (i + 1)).map V.str).length) (walk_list (xs := (ns.drop (i + 1)).map V.str)) (fun j σ H' => ∃ (v8 : Option V) (qs : List Addr) (R : List (Str × Str)), σ = [some (.ref u), some (.int m), some (.ref L), some (.ref fl), some (.ref W), some (.int st), some (.int i), some (.str a), v8] ∧ Keep u H H' ∧ Urn H' u (n + 9 + 5 * i + j) ∧
            H' fl = some (.lst (ns.map V.str)) ∧ H' W = some (.lst (qs.map V.ref)) ∧ H' sl = some (.lst ((ns.drop (i + 1)).map V.str)) ∧ PrAt H' qs R ∧ (∀ q ∈ qs, H q = none) ∧ PkI ns st R i (i + 1 + j))
          ⟨_, qs, R, rfl, Keep_lay kT8 nsH, hu8.same sS, sS _ _ hf8, sS _ _ hW8, upd_same, hp8.same sS, hq7, pk⟩ (fun j σ H' _ ⟨_, _, _, _, _, _, _, _, e, _⟩ => SqL.of e) (fun j x σ H9 HA hj ⟨w8, qs, R, e, k9, hu9, hf9, hW9, hs9, hp9, hq9, pk9⟩ y => ?_) (fun σ H9 ⟨w8, qs, R, e, k9, hu9, hf9, hW9, hs9, hp9, hq9, pk9⟩ => ?_)
        · obtain ⟨rfl, hx⟩ := y
          subst e
          obtain ⟨b, hb, rfl⟩ := at_str hx
          rw [List.getElem?_drop] at hb
          have hj' : i + 1 + j < ns.length := (List.getElem?_eq_some_iff.mp hb).1
          refine ⟨_, rfl, _, _, rfl, rfl, _, rfl, two (fun h1 => ?_) (fun h1 => ?_)⟩
          · refine ⟨_, rfl, u, 4, n + 9 + 5 * i + j, rfl, hu9, by omega, by decide, by decide, fun r2 HB r20 r24 huB kB => ⟨rfl, _, rfl, ?_⟩⟩
            have kB1 : Keep u H HB := k9.trans kB
            have hfB := kB _ _ nfu hf9
            have hWB := kB _ _ nWu hW9
            have hsB := kB _ _ nsu hs9
            obtain ⟨a9, b9, c9, hu9', _⟩ := id hu9
            have hpB : PrAt HB qs R := ⟨hp9.1, fun i' q hq => let ⟨pr, e1, e2⟩ := hp9.2 i' q hq; ⟨pr, e1, kB _ _ (ne_of e2 hu9' (by intro z; cases z)) e2⟩⟩
            refine two (fun h2 => ?_) (fun h2 => ⟨_, qs, R, rfl, kB1, huB, hfB, hWB, hsB, hpB, hq9, pk9.skip⟩)
            obtain ⟨aB, bB, cB, huB', _⟩ := id huB
            refine ⟨_, rfl, .inl ⟨rfl, _, SqL.of hWB⟩, ?_⟩
            refine ⟨fun x H' => ∃ q, x = .ref q ∧ HB q = none ∧ H' = upd HB q (.tup [.str (mkP st a b).1, .str (mkP st a b).2]), ?_, ?_⟩
            · refine ⟨_, rfl, rfl, _, rfl, two (fun h3 => ?_) (fun h3 => ?_)⟩
              · have e3 : st = 1 := V.int.inj (of_decide_eq_true h3)
                refine ⟨_, rfl, _, rfl, (by show 2 ≤ sizeLine; decide), fun q nq => ⟨q, rfl, nq, ?_⟩⟩
                unfold mkP
                rw [if_pos e3]
              · have e3 : ¬ st = 1 := fun z => of_decide_eq_false h3 (by rw [z])
                refine ⟨_, rfl, _, rfl, (by show 2 ≤ sizeLine; decide), fun q nq => ⟨q, rfl, nq, ?_⟩⟩
                unfold mkP
                rw [if_neg e3]
            · rintro x H' ⟨q, rfl, nq, rfl⟩
              have sq := Same_new (o := HO.tup [V.str (mkP st a b).1, V.str (mkP st a b).2]) nq
              have nqH' : H q = none := free_of kB1 huB' nq
              have nqW : q ≠ W := fun z => by rw [z, hWB] at nq; cases nq
              have lq : qs.length < sizeLine := by
                have z := hp9.1
                have z2 := pk9.len
                have : (1000 : Nat) < sizeLine := by decide
                omega
              refine ⟨W, _, _, rfl, rfl, sq _ _ hWB, by rw [List.length_map]; exact lq, ?_⟩
              refine ⟨_, qs ++ [q], R ++ [mkP st a b], rfl, Keep_lay (Keep_lay kB1 nqH') nWH, ?_, ?_, ?_, ?_, ?_, ?_, ?_⟩
              · exact ⟨aB, bB, cB, by rw [upd_ne nWu.symm]; exact sq _ _ huB', by
                  obtain ⟨x1, x2, x3, y1, y2⟩ := huB
                  rw [huB'] at y1
                  cases y1
                  exact y2⟩
              · rw [upd_ne nWf.symm]
                exact sq _ _ hfB
              · rw [upd_same, List.map_append]
                rfl
              · rw [upd_ne nsW]
                exact sq _ _ hsB
              · refine PrAt.snoc ⟨hpB.1, fun i' q' hq' => ?_⟩ (by rw [upd_ne nqW, upd_same])
                obtain ⟨pr, e1, e2⟩ := hpB.2 i' q' hq'
                exact ⟨pr, e1, by rw [upd_ne (ne_of e2 hWB (by intro z; cases z))]; exact sq _ _ e2⟩
              · intro q' hq'
                rcases List.mem_append.mp hq' with hq' | hq'
                · exact hq9 q' hq'
                · rw [List.mem_singleton.mp hq']
                  exact nqH'
              · exact pk9.add nd ha hb (by omega)
          · refine iteF ⟨_, qs, R, rfl, k9, hu9.le (by omega), hf9, hW9, hs9, hp9, hq9, pk9.skip⟩
        · subst e
          have lj : ((ns.drop (i + 1)).map V.str).length ≤ 4 := by
            rw [List.length_map, List.length_drop]
            omega
          refine ⟨_, _, _, qs, R, rfl, k9, hu9.le (by omega), hf9, hW9, hp9, hq9, ?_⟩
          have el : i + 1 + ((ns.drop (i + 1)).map V.str).length = ns.length := by
            rw [List.length_map, List.length_drop]
            omega
          rw [el] at pk9
          exact pk9.next l5
      · subst e
        rw [List.length_map] at hu7 pk
        obtain ⟨a7, b7, c7, hu7', _⟩ := id hu7
        refine ⟨_, rfl, fl, _, rfl, .inl ⟨SqL.of hf7, fun f nf' => ?_⟩⟩
        have sf := Same_new (o := HO.tup (ns.map V.str)) nf'
        have nfH' : H f = none := free_of k7 hu7' nf'
        refine ⟨_, rfl, W, _, rfl, .inl ⟨SqL.of (sf _ _ hW7), fun g ng => ?_⟩⟩
        have sg := Same_new (o := HO.tup (qs.map V.ref)) ng
        have k8 := Keep_lay (o := HO.tup (ns.map V.str)) k7 nfH'
        have ngH : H g = none := free_of k8 (sf _ _ hu7') ng
        refine ⟨(by show 2 ≤ sizeLine; decide), fun t' nt' => ?_⟩
        have k9 := Keep_lay (o := HO.tup (qs.map V.ref)) k8 ngH
        have ntH : H t' = none := free_of k9 (sg _ _ (sf _ _ hu7')) nt'
        have st' := Same_new (o := HO.tup [V.ref f, V.ref g]) nt'
        exact k ns R t' f g qs _ (pk.book (i := 0) (Nat.le_refl _) nd so l1 l5 pool) (((hu7.same sf).same sg).same st' |>.le (by omega)) (Keep_lay k9 ntH) ntH nfH' ngH hq7 upd_same (st' _ _ (sg _ _ upd_same)) (st' _ _ upd_same) (((hp7.same sf).same sg).same st')
end
end Jd
namespace Jd
open PySem PySem.Spec PyProof.Rows L2
/-! ### told, the law's own -/
def asgArg : Stmt → Expr
  | .Assign _ (.Call _ [e] _ _) _ => e
  | _ => .Name "" ⟨0, 0, 0, 0⟩
def lcScope : Expr → Scope
  | .ListComp _ _ sc _ => sc
  | _ => { kind := .function, names := [], isGenerator := false, isCoroutine := false }
def lcElt : Expr → Expr
  | .ListComp e _ _ _ => e
  | _ => .Name "" ⟨0, 0, 0, 0⟩
def tupSnd : Expr → Expr
  | .Tuple [_, e] _ _ => e
  | _ => .Name "" ⟨0, 0, 0, 0⟩
abbrev NT : List Str := ["_law_book_here", "_law_flats", "_law_pairs_so", "_law_table", "_law_own", "_law_pair", "_law_turn", "_law_far", "_law_bit"]
abbrev tdSt (i : Nat) : Stmt := (defBody s__law_told).getD i (.Pass ⟨0, 0, 0, 0⟩)
abbrev tdSc1 : Scope := lcScope (asgArg (tdSt 1))
abbrev tdIn1 : Expr := tupSnd (lcElt (asgArg (tdSt 1)))
abbrev tdSc2 : Scope := lcScope (asgArg (tdSt 3))
abbrev tdIn2 : Expr := tupSnd (lcElt (asgArg (tdSt 3)))
def tRow1 (K : PySem.W.Frag) : TE := tLc (iTup K (tVar 2)) (gName 5) (tTest (tOp rEq (tOp (rIxT K) (tVar 5) (tC (.int 0))) (tVar 4))) (tOp (rIxT K) (tVar 5) (tC (.int 1))) [5]
def tRow2 (K : PySem.W.Frag) : TE := tLc (iTup K (tVar 1)) (gName 7) (tTest (tOp (rIn K false) (tVar 7) (tDGet (tVar 3) (tVar 4)))) (tVar 7) [7]
theorem merge_kvT {A : Str → Addr} : ∀ {ns acc : List Str}, (acc ++ ns).Nodup → mergeK (kvT acc A) (kvT ns A) = kvT (acc ++ ns) A
  | [], acc, _ => by
    rw [List.append_nil]
    rfl
  | n :: r, acc, nd => by
    have hn : n ∉ acc := fun h => by
      obtain ⟨_, _, h3⟩ := List.nodup_append.mp nd
      exact h3 n h n List.mem_cons_self rfl
    show mergeK (putK (kvT acc A) (Sum.inr n) (.ref (A n))) (kvT r A) = _
    rw [putK_new hn]
    have e : kvT (acc ++ [n]) (atA A n (A n)) = kvT (acc ++ [n]) A := by
      unfold kvT
      refine List.map_congr_left fun m _ => ?_
      by_cases q : m = n
      · subst q
        rw [atA_at]
      · rw [atA_ne q]
    rw [e, merge_kvT (by rw [List.append_assoc]; exact nd), List.append_assoc]
    rfl
theorem kvT_snoc {A : Str → Addr} {ns : List Str} {n : Str} {p : Addr} (h : n ∉ ns) : kvT (ns ++ [n]) (atA A n p) = kvT ns A ++ [(Sum.inr n, V.ref p)] := by
  unfold kvT
  rw [List.map_append]
  congr 1
  · refine List.map_congr_left fun m hm => ?_
    rw [atA_ne (fun (q : m = n) => h (q ▸ hm))]
  · show [((Sum.inr n : Key), V.ref (atA A n p n))] = [((Sum.inr n : Key), V.ref p)]
    rw [atA_at]
theorem pr_imp {α β : Type} {F G : α → β → Prop} (h : ∀ a b, F a b → G a b) : ∀ {xs : List α} {ys : List β}, Paired F xs ys → Paired G xs ys
  | _, _, .nil => .nil
  | _, _, .cons q r => .cons (h _ _ q) (pr_imp h r)
def spToldL : Sp := fun vs H Q _ => ∃ (b f g : Addr) (ns : List Str) (qs : List Addr) (R : List (Str × Str)), vs = [.ref b] ∧ H b = some (.tup [.ref f, .ref g]) ∧ H f = some (.tup (ns.map V.str)) ∧ H g = some (.tup (qs.map V.ref)) ∧ PrAt H qs R ∧ Book ns R ∧
  ∀ H' d A, Same H H' → TabA H' d (ns ++ [("#" : Str)]) A (toldAt ns (toldOf R ns)) → Q (.ref d) H'
theorem fine_lists {ns : List Str} (l : List Str) {o : Str} {T : Str → List Str} (f : Fine ns T) : Fine ns (l.foldl (farT o) T) := by
  induction l generalizing T with
  | nil => exact f
  | cons x l ih => exact ih (fine_far f)
theorem fine_own {ns : List Str} {o : Str} {T : Str → List Str} (f : Fine ns T) : Fine ns (ownT T o) := fine_lists _ f
theorem fine_owns {ns : List Str} (l : List Str) {T : Str → List Str} (f : Fine ns T) : Fine ns (l.foldl ownT T) := by
  induction l generalizing T with
  | nil => exact f
  | cons x l ih => exact ih (fine_own f)
theorem fine_law {R : List (Str × Str)} {ns : List Str} (f : Fine ns (tab0 R)) : ∀ k, Fine ns (lawT R ns k)
  | 0 => f
  | k + 1 => by
    unfold lawT
    rw [List.range_succ, List.foldl_append]
    exact fine_owns ns (fine_law f k)
theorem lawT_next {R : List (Str × Str)} {ns : List Str} {k : Nat} : lawT R ns (k + 1) = roundT ns (lawT R ns k) := by
  unfold lawT
  rw [List.range_succ, List.foldl_append]
  rfl
theorem fold_next {α β : Type} {f : β → α → β} {b : β} {l : List α} {i : Nat} {x : α} (h : l[i]? = some x) : (l.take (i + 1)).foldl f b = f ((l.take i).foldl f b) x := by
  rw [List.take_add_one, h, List.foldl_append]
  rfl
section
variable {P : Program} {w : World} {K : PySem.W.Frag} {mg : Str → Option Value} {base : Heap}
theorem sc_tdl : FnScope NT ["_law_book_here"] (defScope s__law_told) := ⟨rfl, rfl, rfl, by decide +kernel, rfl, by decide +kernel, by decide +kernel⟩
theorem ok_toldL (B : Bk K mg) : Df P w K mg base CX0 1 "_law_told" ["_law_book_here"] spToldL := by
  obtain ⟨fd, F⟩ := B.F_law_told
  refine ⟨⟨fd, ?_, F.binds fun _ _ _ _ _ _ us hl => match us, hl with | [_], _ => rfl⟩, B.g_law_told, F.kp⟩
  refine F.ok sc_tdl (fun vs H Q E h => ?_) (fun cdv A0 outer s H vs Q E hr h => ?_)
  · obtain ⟨_, _, _, _, _, _, rfl, _⟩ := h
    rfl
  · obtain ⟨b, f, g, ns, qs, R, rfl, hb, hf, hg, hp, bk, k⟩ := h
    have hu := hu_of hr
    have inner1 := fun (s' : Shared) (H' : Hp) (C : Addr) (cl : List (Str × Addr)) (fp : List Addr) => (show PE ((cxOf CX0 P w K mg base NT "_law_told" (defScope s__law_told) (He.ga K "_law_told") cdv A0 outer s H E).nox.blk s' H' tdSc1 (compEnvC tdSc1 cl C (cxOf CX0 P w K mg base NT "_law_told" (defScope s__law_told) (He.ga K "_law_told") cdv A0 outer s H E).nox.env) fp) tdIn1 (tRow1 K) from
      pe_lc (own := [("_law_pair", 5)]) (g := gName 5) (tt := tTest (tOp rEq (tOp (rIxT K) (tVar 5) (tC (.int 0))) (tVar 4))) rfl sc_tdl.nd (pi_tup (pv 2)) (blkOk_by (N := NT) (sc := relS tdSc1 (defScope s__law_told)) (scope := lcScope tdIn1) (own := [("_law_pair", 5)]) (by decide +kernel)) (fun _ _ _ _ _ => pg_name (i := 5) sc_tdl.nd rfl (Or.inl rfl))
        (fun _ _ _ _ _ => pts_one (pt_cmpR op_eq (pe_ix ix_tup (pv 5) pe_int (fun _ _ => rfl)) (pv 4) (nomark _))) (fun _ _ _ _ _ => pe_ix ix_tup (pv 5) pe_int (fun _ _ => rfl)))
    have inner2 := fun (s' : Shared) (H' : Hp) (C : Addr) (cl : List (Str × Addr)) (fp : List Addr) => (show PE ((cxOf CX0 P w K mg base NT "_law_told" (defScope s__law_told) (He.ga K "_law_told") cdv A0 outer s H E).nox.blk s' H' tdSc2 (compEnvC tdSc2 cl C (cxOf CX0 P w K mg base NT "_law_told" (defScope s__law_told) (He.ga K "_law_told") cdv A0 outer s H E).nox.env) fp) tdIn2 (tRow2 K) from
      pe_lc (own := [("_law_far", 7)]) (g := gName 7) (tt := tTest (tOp (rIn K false) (tVar 7) (tDGet (tVar 3) (tVar 4)))) rfl sc_tdl.nd (pi_tup (pv 1)) (blkOk_by (N := NT) (sc := relS tdSc2 (defScope s__law_told)) (scope := lcScope tdIn2) (own := [("_law_far", 7)]) (by decide +kernel)) (fun _ _ _ _ _ => pg_name (i := 7) sc_tdl.nd rfl (Or.inl rfl))
        (fun _ _ _ _ _ => pts_one (pt_cmpR op_in_seq (pv 7) (pe_dget hu (pv 3) (pv 4) (fun _ _ => rfl)) (by rfl))) (fun _ _ _ _ _ => pv 7))
    refine ⟨_, pss_cons (ps_asg (pv 0) (pg_tup rfl (pgs_cons (pg_name (i := 1) sc_tdl.nd rfl (Or.inr rfl)) (pgs_cons (pg_name (i := 2) sc_tdl.nd rfl (Or.inr rfl)) pgs_nil))))
      (pss_cons (ps_set (i := 3) sc_tdl.nd rfl (Or.inr rfl) (pe_callTy (call_dictP rfl) (by rfl) B.b_dict (by decide +kernel) (pa_cons (pe_lc (own := [("_law_own", 4)]) (g := gName 4) (tt := tYes) rfl sc_tdl.nd (pi_tup (pv 1)) (blkOk_by (N := NT) (sc := defScope s__law_told) (by decide +kernel))
          (fun _ _ _ _ _ => pg_name (i := 4) sc_tdl.nd rfl (Or.inr rfl)) (fun _ _ _ _ _ => pts_nil) (fun s' H' C cl fp => pe_tup (pa_cons (pv 4) (pa_cons (inner1 s' H' C cl fp) pa_nil)))) pa_nil)))
      (pss_cons (ps_for PassesOwn.never rfl (pi_range1 rfl B.b_range (pa_cons (pe_callB call_len (by rfl) B.b_len (by decide +kernel) (pa_cons (pv 1) pa_nil)) pa_nil)) (pg_name (i := 6) sc_tdl.nd rfl (Or.inl rfl))
        (pss_one (ps_for PassesOwn.never rfl (pi_tup (pv 1)) (pg_name (i := 4) sc_tdl.nd rfl (Or.inr rfl))
          (pss_one (ps_for PassesOwn.never rfl (pi_list (pe_callTy call_list_of (by rfl) B.b_list (by decide +kernel) (pa_cons (pe_dget hu (pv 3) (pv 4) (fun _ _ => rfl)) pa_nil))) (pg_name (i := 7) sc_tdl.nd rfl (Or.inl rfl))
            (pss_one (ps_dput hu (pv 3) (pv 4) (pe_op op_cat (pe_dget hu (pv 3) (pv 4) (fun _ _ => rfl))
              (pe_lc (own := [("_law_bit", 8)]) (g := gName 8) (tt := tTest (tOp (rIn K true) (tVar 8) (tDGet (tVar 3) (tVar 4)))) rfl sc_tdl.nd (pi_list (pe_dget hu (pv 3) (pv 7) (fun _ _ => rfl))) (blkOk_by (N := NT) (sc := defScope s__law_told) (by decide +kernel))
                (fun _ _ _ _ _ => pg_name (i := 8) sc_tdl.nd rfl (Or.inl rfl)) (fun _ _ _ _ _ => pts_one (pt_cmpR op_notIn_seq (pv 8) (pe_dget hu (pv 3) (pv 4) (fun _ _ => rfl)) (by rfl))) (fun _ _ _ _ _ => pv 8))) rfl)))))))
      (pss_cons (ps_set (i := 3) sc_tdl.nd rfl (Or.inr rfl) (pe_callTy (call_dictP rfl) (by rfl) B.b_dict (by decide +kernel) (pa_cons (pe_lc (own := [("_law_own", 4)]) (g := gName 4) (tt := tYes) rfl sc_tdl.nd (pi_tup (pv 1)) (blkOk_by (N := NT) (sc := defScope s__law_told) (by decide +kernel))
          (fun _ _ _ _ _ => pg_name (i := 4) sc_tdl.nd rfl (Or.inr rfl)) (fun _ _ _ _ _ => pts_nil) (fun s' H' C cl fp => pe_tup (pa_cons (pv 4) (pa_cons (inner2 s' H' C cl fp) pa_nil)))) pa_nil)))
      (pss_cons (ps_dput hu (pv 3) pe_str (pe_callTy call_list_of (by rfl) B.b_list (by decide +kernel) (pa_cons (pv 1) pa_nil)) rfl)
      (pss_one (ps_ret (pv 3))))))), ?_⟩
    have l5 := bk.l5
    have nd := bk.nd
    refine ⟨_, rfl, _, _, rfl, SqT.of hb, rfl, _, _, rfl, _, _, rfl, rfl, ?_⟩
    -- the rows of a dict made of pairs
    refine ⟨_, rfl, f, rfl, ⟨_, SqT.of hf⟩, fun D hD => ?_⟩
    refine lc_it (walk_tup (xs := ns.map V.str)) (fun i H' => Same H H' ∧ ∃ (ps : List Addr) (A : Str → Addr), H' D = some (.lst (ps.map V.ref)) ∧ ps.length = i ∧ Paired (fun p (kv : Key × V) => H' p = some (.tup [kV kv.1, kv.2])) ps (kvT (ns.take i) A) ∧ ∀ n ∈ ns.take i, H' (A n) = some (.lst ((tab0 R n).map V.str)))
      ⟨Same_new hD, [], fun _ => 0, upd_same, rfl, .nil, fun n h => by cases h⟩ (fun i H' _ ⟨s', _⟩ => sm_seqT s' (SqT.of hf)) (fun i x H1 H2 hi ⟨s1, ps, A, hD1, pl1, pp1, hA1⟩ y => ?_) (fun H1 ⟨s1, ps, A, hD1, pl1, pp1, hA1⟩ => ?_)
    · obtain ⟨rfl, hx⟩ := y
      obtain ⟨n, hn, rfl⟩ := at_str hx
      have hi' : i < ns.length := (List.getElem?_eq_some_iff.mp hn).1
      refine ⟨rfl, iteT (B := ∃ z : Nat, z = 0) ?_⟩
      refine ⟨_, rfl, _, rfl, g, rfl, ⟨_, SqT.of (s1 _ _ hg)⟩, fun D2 hD2 => ?_⟩
      have hql : (qs.map V.ref).length = R.length := by rw [List.length_map, hp.1]
      refine lc_fm (walk_tup (xs := qs.map V.ref)) (fun j => (R[j]?).bind fun pr => if pr.1 = n then some (V.str pr.2) else Option.none) hD2 (by rw [hql]; exact Nat.le_trans bk.rl (by decide)) (fun H' s' => sm_seqT (s1.trans s') (SqT.of hg)) (fun j v H3 H4 Kt Kf hj s3 y kt kf => ?_) (fun H3 s3 hD3 => ?_)
      · obtain ⟨rfl, hv⟩ := y
        obtain ⟨q, hq, rfl⟩ := at_ref hv
        obtain ⟨pr, hpr, hqo⟩ := hp.2 j q hq
        have hq4 := s3 _ _ (s1 _ _ hqo)
        refine ⟨rfl, _, rfl, q, _, _, _, rfl, rfl, SqT.of hq4, rfl, _, rfl, rfl, _, rfl, two (fun h1 => ?_) (fun h1 => ?_)⟩
        · have e1 : pr.1 = n := V.str.inj (of_decide_eq_true h1)
          exact ⟨_, rfl, q, _, _, _, rfl, rfl, SqT.of hq4, rfl, kt _ _ (by rw [hpr]; show (if pr.1 = n then _ else _) = _; rw [if_pos e1]) (Same.refl _)⟩
        · have e1 : ¬ pr.1 = n := fun q => of_decide_eq_false h1 (by rw [q])
          exact kf _ (by rw [hpr]; show (if pr.1 = n then _ else _) = _; rw [if_neg e1]) (Same.refl _)
      · have eD : (List.range (qs.map V.ref).length).filterMap (fun j => (R[j]?).bind fun pr => if pr.1 = n then some (V.str pr.2) else Option.none) = (tab0 R n).map V.str := by
          rw [hql, fm_bind, fm_tab0]
        rw [eD] at hD3
        refine ⟨(by show 2 ≤ sizeLine; decide), fun p hpn => ?_⟩
        have s4 := Same_new (o := HO.tup [V.str n, V.ref D2]) hpn
        have hDp := s4 _ _ (s3 _ _ hD1)
        have npD : p ≠ D := fun z => by rw [z, s3 _ _ hD1] at hpn; cases hpn
        have n2D : D2 ≠ D := fun z => by rw [z, hD1] at hD2; cases hD2
        refine ⟨_, hDp, by rw [List.length_map, pl1]; exact Nat.lt_of_lt_of_le hi' (Nat.le_trans l5 (by decide)), fun b' o q => ?_, ps ++ [p], atA A n D2, by rw [upd_same, List.map_append]; rfl, by rw [List.length_append, pl1]; rfl, ?_, fun m hm => ?_⟩
        · rw [upd_ne (ne_of_none q hD)]
          exact s4 _ _ (s3 _ _ (s1 _ _ q))
        · rw [take_next hn, kvT_snoc (nd_take nd hn)]
          refine Paired.snoc (pr_imp (fun a kv h => ?_) pp1) ?_
          · have h4 := s4 _ _ (s3 _ _ h)
            rw [upd_ne (ne_of h4 hDp (by intro z; cases z))]
            exact h4
          · rw [upd_ne npD, upd_same]
            rfl
        · rw [take_next hn] at hm
          by_cases e : m = n
          · subst e
            rw [atA_at, upd_ne n2D]
            exact s4 _ _ hD3
          · have hm' := (List.mem_append.mp hm).resolve_right fun q => e (List.mem_singleton.mp q)
            have h4 := s4 _ _ (s3 _ _ (hA1 m hm'))
            have nAD : A m ≠ D := fun z => by
              have q := hA1 m hm'
              rw [z, hD1] at q
              have q2 := Option.some.inj q
              injection q2 with q2
              cases ps with
              | nil =>
                have : ns.take i = [] := List.eq_nil_of_length_eq_zero (by rw [List.length_take]; simp at pl1; omega)
                rw [this] at hm'
                cases hm'
              | cons p0 ps =>
                cases hT : tab0 R m with
                | nil => rw [hT] at q2; cases q2
                | cons z1 zs => rw [hT] at q2; cases q2
            rw [atA_ne e, upd_ne nAD]
            exact h4
    · rw [List.length_map, List.take_length] at pp1 hA1
      refine ⟨D, ps, kvT ns A, rfl, SqL.of hD1, pr_imp (fun a kv h => SqT.of h) pp1, fun d hd => ?_⟩
      have hdH : H d = none := s1.free hd
      have em : mergeK [] (kvT ns A) = kvT ns A := merge_kvT (acc := []) nd
      rw [em]
      have sd := Same_new (o := HO.dK (kvT ns A)) hd
      have ta0 : TabA (upd H1 d (.dK (kvT ns A))) d ns A (tab0 R) := ⟨upd_same, fun n hn => sd _ _ (hA1 n hn)⟩
      have s2 : Same H (upd H1 d (.dK (kvT ns A))) := Same_lay s1 hd
      generalize (upd H1 d (.dK (kvT ns A))) = H2 at ta0 s2
      clear hD1 pp1 hA1 sd em hD s1
      have fine0 : Fine ns (tab0 R) := fine_tab0 bk.rnd bk.r2
      refine ⟨_, rfl, _, (ns.map V.str).length, rfl, .inr ⟨_, SqT.of (s2 _ _ hf), rfl⟩, ((ns.map V.str).length : Int), rfl, by rw [List.length_map]; omega, by rw [List.length_map]; omega, ?_⟩
      rw [show (((ns.map V.str).length : Int)).toNat = ns.length by rw [List.length_map]; omega]
      refine for_it walk_range (fun i σ H' => ∃ (v4 v5 v6 v7 v8 : Option V) (A : Str → Addr), σ = [some (.ref b), some (.ref f), some (.ref g), some (.ref d), v4, v5, v6, v7, v8] ∧ Same H H' ∧ TabA H' d ns A (lawT R ns i))
        ⟨_, _, _, _, _, A, rfl, s2, ta0⟩ (fun _ _ _ _ _ => trivial) (fun i x σ H3 H4 hi ⟨v4, v5, v6, v7, v8, A3, e, s3, ta3⟩ y => ?_) (fun σ H3 ⟨v4, v5, v6, v7, v8, A3, e, s3, ta3⟩ => ?_)
      · obtain ⟨rfl, rfl⟩ := y
        subst e
        have fi := fine_law fine0 i
        refine ⟨_, rfl, f, rfl, ⟨_, SqT.of (s3 _ _ hf)⟩, ?_⟩
        refine for_it (walk_tup (xs := ns.map V.str)) (fun j σ H' => ∃ (v4 v5 v7 v8 : Option V) (A : Str → Addr), σ = [some (.ref b), some (.ref f), some (.ref g), some (.ref d), v4, v5, some (.int (0 + (i : Int))), v7, v8] ∧ Same H H' ∧ TabA H' d ns A ((ns.take j).foldl ownT (lawT R ns i)))
          ⟨_, _, _, _, A3, rfl, s3, ta3⟩ (fun i σ H' _ ⟨_, _, _, _, _, _, s', _⟩ => sm_seqT s' (SqT.of hf)) (fun j x σ H5 H6 hj ⟨w4, w5, w7, w8, A5, e, s5, ta5⟩ y => ?_) (fun σ H5 ⟨w4, w5, w7, w8, A5, e, s5, ta5⟩ => ?_)
        · obtain ⟨rfl, hx⟩ := y
          subst e
          obtain ⟨n, hn, rfl⟩ := at_str hx
          have hni : n ∈ ns := List.mem_of_getElem? hn
          have fj := fine_owns (ns.take j) fi
          rw [fold_next hn (f := ownT)] 
          generalize (ns.take j).foldl ownT (lawT R ns i) = T at ta5 fj
          have hAn := ta5.lst n hni
          refine ⟨_, rfl, _, rfl, d, _, rfl, ta5.get hni, _, _, rfl, .inl (SqL.of hAn), fun L hL => ?_⟩
          have sL := Same_new (o := HO.lst ((T n).map V.str)) hL
          refine ⟨L, rfl, ⟨_, SqL.of upd_same⟩, ?_⟩
          refine for_it (walk_list (xs := (T n).map V.str)) (fun q σ H' => ∃ (v5 v7 v8 : Option V) (A : Str → Addr), σ = [some (.ref b), some (.ref f), some (.ref g), some (.ref d), some (.str n), v5, some (.int (0 + (i : Int))), v7, v8] ∧ Same H H' ∧ H' L = some (.lst ((T n).map V.str)) ∧ TabA H' d ns A (((T n).take q).foldl (farT n) T))
            ⟨_, _, _, A5, rfl, Same_lay s5 hL, upd_same, ta5.same sL⟩ (fun q σ H' _ ⟨_, _, _, _, _, _, e, _⟩ => SqL.of e) (fun q x σ H7 H8 hq ⟨u5, u7, u8, A7, e, s7, hL7, ta7⟩ y => ?_) (fun σ H7 ⟨u5, u7, u8, A7, e, s7, hL7, ta7⟩ => ?_)
          · obtain ⟨rfl, hx⟩ := y
            subst e
            obtain ⟨z, hz, rfl⟩ := at_str hx
            have hzi : z ∈ ns := (fj n).2 z (List.mem_of_getElem? hz)
            have fq := fine_lists ((T n).take q) (o := n) fj
            rw [fold_next hz (f := farT n)]
            generalize ((T n).take q).foldl (farT n) T = T7 at ta7 fq
            have hAn7 := ta7.lst n hni
            have hAz7 := ta7.lst z hzi
            have lT : ∀ a, (T7 a).length ≤ 5 := fun a => Nat.le_trans (fine_len fq a) l5
            refine ⟨_, rfl, _, rfl, d, _, rfl, ta7.get hni, _, rfl, _, rfl, d, _, rfl, ta7.get hzi, _, rfl, ⟨_, SqL.of hAz7⟩, fun D9 hD9 => ?_⟩
            refine lc_fm (walk_list (xs := (T7 z).map V.str)) (fun j => ((T7 z)[j]?).bind fun o => if decide (o ∉ T7 n) = true then some (V.str o) else Option.none) hD9 (by rw [List.length_map]; exact Nat.le_trans (lT z) (by decide)) (fun H' s' => sm_seqL s' (SqL.of hAz7)) (fun j v H9 HA Kt Kf hj s9 y kt kf => ?_) (fun H9 s9 hD10 => ?_)
            · obtain ⟨rfl, hv⟩ := y
              obtain ⟨o, ho, rfl⟩ := at_str hv
              refine ⟨rfl, _, rfl, _, rfl, _, rfl, d, _, rfl, (ta7.same s9).get hni, _, _, rfl, .inl (SqL.of (s9 _ _ hAn7)), rfl, fl_str, _, rfl, two (fun h2 => ?_) (fun h2 => ?_)⟩
              · have h2' : (!inV (.str o) ((T7 n).map V.str)) = true := h2
                rw [inV_str] at h2'
                have e1 : decide (o ∉ T7 n) = true := by
                  rw [decide_not]
                  exact h2'
                exact ⟨_, rfl, kt _ _ (by rw [ho]; show (if decide (o ∉ T7 n) = true then _ else _) = _; rw [if_pos e1]) (Same.refl _)⟩
              · have h2' : (!inV (.str o) ((T7 n).map V.str)) = false := h2
                rw [inV_str] at h2'
                have e1 : decide (o ∉ T7 n) = false := by
                  rw [decide_not]
                  exact h2'
                exact kf _ (by rw [ho]; show (if decide (o ∉ T7 n) = true then _ else _) = _; rw [e1, if_neg Bool.false_ne_true]) (Same.refl _)
            · have eD : (List.range ((T7 z).map V.str).length).filterMap (fun j => ((T7 z)[j]?).bind fun o => if decide (o ∉ T7 n) = true then some (V.str o) else Option.none) = ((T7 z).filter fun o => decide (o ∉ T7 n)).map V.str := by
                rw [List.length_map, fm_bind, fm_filter]
              rw [eD] at hD10
              have lF : ((T7 z).filter fun o => decide (o ∉ T7 n)).length ≤ 5 := Nat.le_trans (List.length_filter_le _ _) (lT z)
              refine ⟨_, _, _, _, rfl, rfl, s9 _ _ hAn7, hD10, ?_, fun p hp' => ?_⟩
              · rw [List.length_map, List.length_map]
                have := lT n
                have : (1000 : Nat) ≤ sizeLine := by decide
                omega
              · have sP := Same_new (o := HO.lst ((T7 n).map V.str ++ ((T7 z).filter fun o => decide (o ∉ T7 n)).map V.str)) hp'
                have ta9 := (ta7.same s9).same sP
                have hP : (upd H9 p (.lst ((T7 n).map V.str ++ ((T7 z).filter fun o => decide (o ∉ T7 n)).map V.str))) p = some (.lst ((T7 n ++ (T7 z).filter fun o => decide (o ∉ T7 n)).map V.str)) := by
                  rw [upd_same, List.map_append]
                refine ⟨_, rfl, _, rfl, d, _, rfl, DPut.k (k := Sum.inr n) ta9.at_ (by rw [kvT_len]; exact Nat.lt_of_le_of_lt l5 (by decide)), ?_⟩
                have q' := ta9.put_old hni hP
                refine ⟨_, _, _, _, rfl, fun b' o q2 => ?_, ?_, q'⟩
                · rw [upd_ne (ne_of_none q2 hdH)]
                  exact sP _ _ (s9 _ _ (s7 _ _ q2))
                · have hL9 := sP _ _ (s9 _ _ hL7)
                  rw [upd_ne (ne_of hL9 ta9.at_ (by intro z; cases z))]
                  exact hL9
          · subst e
            rw [List.length_map, List.take_length] at ta7
            exact ⟨_, _, _, _, A7, rfl, s7, ta7⟩
        · subst e
          rw [List.length_map, List.take_length] at ta5
          exact ⟨_, _, _, _, _, A5, rfl, s5, by rw [lawT_next]; exact ta5⟩
      · subst e
        -- the last table
        refine ⟨_, rfl, f, rfl, ⟨_, SqT.of (s3 _ _ hf)⟩, fun D hD => ?_⟩
        have hDH : H D = none := s3.free hD
        have fl := fine_law fine0 ns.length
        refine lc_it (walk_tup (xs := ns.map V.str)) (fun i H' => Same H3 H' ∧ ∃ (ps : List Addr) (A : Str → Addr), H' D = some (.lst (ps.map V.ref)) ∧ ps.length = i ∧ Paired (fun p (kv : Key × V) => H' p = some (.tup [kV kv.1, kv.2])) ps (kvT (ns.take i) A) ∧ ∀ n ∈ ns.take i, A n ≠ D ∧ H' (A n) = some (.lst ((lawTold R ns n).map V.str)))
          ⟨Same_new hD, [], fun _ => 0, upd_same, rfl, .nil, fun n h => by cases h⟩ (fun i H' _ ⟨s', _⟩ => sm_seqT (s3.trans s') (SqT.of hf)) (fun i x H4 H5 hi ⟨s4, ps, A4, hD4, pl4, pp4, hA4⟩ y => ?_) (fun H4 ⟨s4, ps, A4, hD4, pl4, pp4, hA4⟩ => ?_)
        · obtain ⟨rfl, hx⟩ := y
          obtain ⟨n, hn, rfl⟩ := at_str hx
          have hni : n ∈ ns := List.mem_of_getElem? hn
          have hi' : i < ns.length := (List.getElem?_eq_some_iff.mp hn).1
          refine ⟨rfl, iteT (B := ∃ z : Nat, z = 0) ?_⟩
          refine ⟨_, rfl, _, rfl, f, rfl, ⟨_, SqT.of (s4 _ _ (s3 _ _ hf))⟩, fun D2 hD2 => ?_⟩
          have ta5 := ta3.same s4
          have hAn := ta5.lst n hni
          refine lc_fm (walk_tup (xs := ns.map V.str)) (fun j => (ns[j]?).bind fun o => if decide (o ∈ lawT R ns ns.length n) = true then some (V.str o) else Option.none) hD2 (by rw [List.length_map]; exact Nat.le_trans l5 (by decide)) (fun H' s' => sm_seqT ((s3.trans s4).trans s') (SqT.of hf)) (fun j v H6 H7 Kt Kf hj s6 y kt kf => ?_) (fun H6 s6 hD6 => ?_)
          · obtain ⟨rfl, hv⟩ := y
            obtain ⟨o, ho, rfl⟩ := at_str hv
            refine ⟨rfl, _, rfl, _, rfl, _, rfl, d, _, rfl, (ta5.same s6).get hni, _, _, rfl, .inl (SqL.of (s6 _ _ hAn)), rfl, fl_str, _, rfl, two (fun h2 => ?_) (fun h2 => ?_)⟩
            · have h2' : inV (.str o) ((lawT R ns ns.length n).map V.str) = true := h2
              rw [inV_str] at h2'
              exact ⟨_, rfl, kt _ _ (by rw [ho]; show (if decide (o ∈ lawT R ns ns.length n) = true then _ else _) = _; rw [if_pos h2']) (Same.refl _)⟩
            · have h2' : inV (.str o) ((lawT R ns ns.length n).map V.str) = false := h2
              rw [inV_str] at h2'
              exact kf _ (by rw [ho]; show (if decide (o ∈ lawT R ns ns.length n) = true then _ else _) = _; rw [h2', if_neg Bool.false_ne_true]) (Same.refl _)
          · have eD : (List.range (ns.map V.str).length).filterMap (fun j => (ns[j]?).bind fun o => if decide (o ∈ lawT R ns ns.length n) = true then some (V.str o) else Option.none) = (lawTold R ns n).map V.str := by
              rw [List.length_map, fm_bind, fm_filter]
              rfl
            rw [eD] at hD6
            refine ⟨(by show 2 ≤ sizeLine; decide), fun p hpn => ?_⟩
            have sp := Same_new (o := HO.tup [V.str n, V.ref D2]) hpn
            have hDp := sp _ _ (s6 _ _ hD4)
            have npD : p ≠ D := fun z => by rw [z, s6 _ _ hD4] at hpn; cases hpn
            have n2D : D2 ≠ D := fun z => by rw [z, hD4] at hD2; cases hD2
            refine ⟨_, hDp, by rw [List.length_map, pl4]; exact Nat.lt_of_lt_of_le hi' (Nat.le_trans l5 (by decide)), fun b' o q => ?_, ps ++ [p], atA A4 n D2, by rw [upd_same, List.map_append]; rfl, by rw [List.length_append, pl4]; rfl, ?_, fun m hm => ?_⟩
            · rw [upd_ne (ne_of_none q hD)]
              exact sp _ _ (s6 _ _ (s4 _ _ q))
            · rw [take_next hn, kvT_snoc (nd_take nd hn)]
              refine Paired.snoc (pr_imp (fun a kv h => ?_) pp4) ?_
              · have h4 := sp _ _ (s6 _ _ h)
                rw [upd_ne (ne_of h4 hDp (by intro z; cases z))]
                exact h4
              · rw [upd_ne npD, upd_same]
                rfl
            · rw [take_next hn] at hm
              by_cases e : m = n
              · subst e
                rw [atA_at]
                exact ⟨n2D, by rw [upd_ne n2D]; exact sp _ _ hD6⟩
              · have hm' := (List.mem_append.mp hm).resolve_right fun q => e (List.mem_singleton.mp q)
                obtain ⟨nA, hA⟩ := hA4 m hm'
                rw [atA_ne e]
                exact ⟨nA, by rw [upd_ne nA]; exact sp _ _ (s6 _ _ hA)⟩
        · rw [List.length_map, List.take_length] at pp4 hA4
          refine ⟨D, ps, kvT ns A4, rfl, SqL.of hD4, pr_imp (fun a kv h => SqT.of h) pp4, fun d2 hd2 => ?_⟩
          have em : mergeK [] (kvT ns A4) = kvT ns A4 := merge_kvT (acc := []) nd
          rw [em]
          have sd := Same_new (o := HO.dK (kvT ns A4)) hd2
          have ta4 : TabA (upd H4 d2 (.dK (kvT ns A4))) d2 ns A4 (lawTold R ns) := ⟨upd_same, fun n hn => sd _ _ (hA4 n hn).2⟩
          have s5 : Same H (upd H4 d2 (.dK (kvT ns A4))) := Same_lay (s3.trans s4) hd2
          have hd2H : H d2 = none := (s3.trans s4).free hd2
          generalize (upd H4 d2 (.dK (kvT ns A4))) = H5 at ta4 s5
          refine ⟨_, rfl, f, _, rfl, .inr (SqT.of (s5 _ _ hf)), fun l hl => ?_⟩
          have sl := Same_new (o := HO.lst (ns.map V.str)) hl
          have ta6 := ta4.same sl
          refine ⟨_, rfl, d2, _, rfl, DPut.k (k := Sum.inr "#") ta6.at_ (by rw [kvT_len]; exact Nat.lt_of_le_of_lt l5 (by decide)), ?_⟩
          have n0 : ("#" : Str) ∉ ns := fun h => absurd (bk.pool _ h) (by decide +kernel)
          have rk := bk.rk
          obtain ⟨rk, hr1, hr2⟩ := rk
          have ta7 : TabA (upd H5 l (.lst (ns.map V.str))) d2 ns A4 (toldAt ns (toldOf R ns)) := ta6.congr fun n hn => by
            have e : n ≠ "#" := fun z => n0 (z ▸ hn)
            unfold toldAt
            rw [if_neg e]
            exact law_told bk.r1 bk.r2 hr1 hr2 n
          have q := ta7.put_new n0 (D := l) (by unfold toldAt; rw [if_pos rfl]; exact upd_same)
          refine ⟨_, rfl, k _ d2 _ (fun b' o q2 => ?_) q⟩
          rw [upd_ne (ne_of_none q2 hd2H)]
          exact sl _ _ (s5 _ _ q2)
end
end Jd
/-! isinstance of an error that is tracked -/
namespace Jd
open PySem PySem.Spec PySem.Calls PyProof.Rows PySem.W
section
variable {prog : Program} {w : World} {A : Around} {E : Value → Shared → Prop} {s : Shared} {K : Frag} {x D : Addr} {ox od : Obj}
theorem err_class {Q : Option Value → Shared → Prop} (C : L2.ExcC K D) (X : K.In s.heap) (I : InstAt s.heap x ox D (some od)) (h : Q (some (.ref D)) { s with toks := s.toks + 1 }) : wpAny (model prog w) A (getAttr? (.ref x) "__class__") Q E s := by
  have q0 : findObj K D (some od) "__class__" = some (.bind (.builtin "getset_descriptor.__get__") (.builtin "object.__class__")) :=
    findObj_data (by obtain ⟨cd, hc, _⟩ := any_some C.hd; rw [hc]; rfl) C.ha C.hn C.ht
  obtain ⟨hp, g, d, t, os⟩ := s
  have l0 := I.type (M := model prog w)
  have l1 := looks_findIn (M := model prog w) X C.hg
  have l2 := looks_findIn (M := model prog w) X C.hk
  have l3 := looks_find (M := model prog w) X I q0
  have l4 : Looks (model prog w) hp (isInstance (.ref x) (.type "BaseException")) true := l0.andThen (looks_subIn X C.hs)
  have n0 : (false && onTheHeap (Value.builtin "BaseException.__getattribute__")) = false := rfl
  have n2 : (Value.builtin "BaseException.__getattribute__" == Value.builtin "object.__getattribute__") = false := by decide +kernel
  have n1 : (onTheHeap (Value.ref D) && Value.builtin "BaseException.__getattribute__" == Value.builtin "object.__getattribute__") = false := by rw [n2]; rfl
  unfold getAttr? getAttrBy? getAttrBy
  refine wpAny_bind (wpAny_mkText (wpAny_bind (wpAny_attempt (wpAny_holding (wpAny_bind (l0.at (wpAny_bind (l1.at ?_))))))))
  show wpAny _ _ (if (onTheHeap (Value.ref D) && Value.builtin "BaseException.__getattribute__" == Value.builtin "object.__getattribute__") = true then _ else _) _ _ _
  rw [n1, if_neg Bool.false_ne_true]
  unfold getAttrByItsOwn hookBefore
  refine wpAny_bind ?_
  rw [if_pos (show onTheHeap (Value.ref D) = true from rfl)]
  refine l2.at ?_
  refine wpAny_bind (wpAny_attempt (wpAny_holding ?_))
  unfold callGetattribute
  rw [n0, if_neg Bool.false_ne_true]
  unfold boundAndCalled
  rw [PySem.F.excAttr_ValueError.ga.bind (.ref x)]
  refine wpAny_bind (wpAny_pure ?_)
  show wpAny _ _ (call (.builtin "BaseException.__getattribute__") [.ref x, .str "__class__" t]) _ _ _
  refine wpAny_call (codeAny_call_builtin PySem.F.excAttr_ValueError.ga.plain PySem.F.entry_bexc_ga ?_)
  refine @check_slot (model prog w) _ _ ⟨hp, g, d, t + 1, os⟩ "BaseException.__getattribute__" "BaseException" "__getattribute__" (.ref x) [.str "__class__" t] [] _ (by decide +kernel) (by decide +kernel) l4 (PySem.F.args_bexc_ga (.ref x) (.str "__class__" t)) ?_
  unfold Builtin.«object.__getattribute__»
  refine wpAny_bind (wpAny_of_eq (a := ((Value.ref x : Value), [Value.str "__class__" t])) (by first | rfl | (simp only [slotArgs]; rfl)) ?_)
  refine wpAny_bind (wpAny_pure (wpAny_bind (l0.at (wpAny_bind (l3.at ?_)))))
  show wpAny _ _ (holding [Value.builtin "object.__class__"] (call (.builtin "getset_descriptor.__get__") [.builtin "object.__class__", .ref x, .ref D]) >>= ret) _ _ _
  refine wpAny_bind (wpAny_holding (wpAny_call (class_get (s := ⟨hp, g, d, t + 1, os⟩) (ox := ox) (od := some od) X I C.hm ?_)))
  refine wpAny_pure ?_
  show wpAny _ _ (handedOut (.ref D)) _ _ _
  rw [handedOut_of (v := .ref D) rfl]
  first
    | exact wpAny_pure (wpAny_pure h)
    | exact wpAny_pure h
    | exact wpAny_pure (wpAny_bind (wpAny_pure (wpAny_pure h)))
theorem err_kit (C : L2.ExcC K D) : KitX K (.ref x) (.ref D) (fun h => InstAt h x ox D (some od)) where
  ty := fun _ _ _ I => I.type
  it := fun _ _ X _ => by
    obtain ⟨c0, h0, _⟩ := any_some C.hd
    unfold clsIn at h0
    split at h0
    · rename_i c' d' cd' sl' ho
      intro A' Q' E' s' k q
      unfold isType loadHead
      exact wpAny_bind (wpAny_loadPart (k _ _ (X _ _ ho)) (wpAny_pure q))
    · cases h0
  ne := fun h tp dd its n sl X htp => by
    obtain ⟨c0, h0, _⟩ := any_some C.hd
    refine Bool.eq_false_iff.mpr fun q => ?_
    have e : D = tp := Value.ref.inj (beq_iff_eq.mp q)
    subst e
    unfold clsIn at h0
    split at h0
    · rename_i c' d' cd' sl' ho
      have z := (X _ _ ho).symm.trans htp
      cases z
    · cases h0
  ca := fun X I k => err_class C X I k
end
end Jd
namespace Jd
open PySem PySem.Spec PyProof.Rows L2
def rIsEr (K : PySem.W.Frag) : List V → Hp → VK → Prop := fun xs H Q => ∃ (a D dd : Addr) (fs : List (Str × V)) (c : V) (cv : Value) (b : Bool), xs = [.ref a, c] ∧ H a = some (ErO (.ref D) (some dd) a) ∧ H dd = some (.xd fs) ∧ ExcC K D ∧
  (∀ u, RelV c u → u = cv) ∧ PySem.W.kitOne K (.ref D) cv = some b ∧ Q (.bl b) H
theorem call_isEr {X : Cx} : CallR X (.builtin "isinstance") (rIsEr X.K) := by
  intro pins s σ H xs us Q I r h
  obtain ⟨a, D, dd, fs, c, cv, b, rfl, ha, hd, C, hcv, e, q⟩ := h
  cases r with
  | cons rx rr =>
    cases rr with
    | cons rt rr =>
      cases rr
      cases rx
      have ec := hcv _ rt
      subst ec
      obtain ⟨oe, vs, r0, r1, r2⟩ := (I.hok a _ ha).1
      have hx : ObjOk X.prog X.w H s.heap dd (.xd fs) := I.hok dd _ hd
      obtain ⟨mA, hns, hr⟩ := hx
      obtain ⟨od, ho, hl⟩ := lookIn_ns hns
      have J : PySem.W.InstAt s.heap a oe D (some od) := ⟨r0, r1.1, by unfold PySem.W.notCls; rw [r2] <;> rfl, by rw [r1.2]; exact ho⟩
      exact PySem.W.kia_one (err_kit C) I.kIn J e (fun z => nomatch z) fun tk => ⟨.bl b, H, I.kept (t' := tk) fun _ _ z => z, rfl, q⟩
end Jd
namespace Jd
open PySem PySem.Spec PyProof.Rows L2
/-! ### heard; how Keys are called -/
theorem exm4 {K : PySem.W.Frag} {cls c1 c2 c3 c4 : Value} {b1 b2 b3 b4 : Bool} (h1 : PySem.W.exmOne K cls c1 = some b1) (h2 : PySem.W.exmOne K cls c2 = some b2) (h3 : PySem.W.exmOne K cls c3 = some b3) (h4 : PySem.W.exmOne K cls c4 = some b4) : PySem.W.exmAny K cls [c1, c2, c3, c4] = some (b1 || (b2 || (b3 || (b4 || false)))) := by
  simp only [PySem.W.exmAny, h1, h2, h3, h4]
theorem kit_self {K : PySem.W.Frag} {t : Value} : PySem.W.kitOne K t t = some true := by
  unfold PySem.W.kitOne
  rw [if_pos (by simp)]
abbrev PK3 : List Str := ["self", "names", "tells"]
/-- Keys(a, b) -/
theorem kb_two {K : PySem.W.Frag} {fd : FuncData} (F : FunD K "__init__" "Keys.__init__" (defArgs s_Keys___init__) (defBody s_Keys___init__) (defScope s_Keys___init__) (d_Keys___init__.dvs K) [] (He.ma K (He.ga K "Keys") "__init__") fd) : Binds K fd PK3 [] := by
  have hd : d_Keys___init__.dvs K = [.ref (dflA (fun K => He.ma K (He.ga K "Keys") "__init__") 0 K)] := rfl
  obtain ⟨ds, v, b⟩ := F.binds1 (ps := PK3) 3 1 (by rw [hd]; exact List.cons_ne_nil _ _) (by rw [hd]; rfl) (fun T kV doc pm an cdv ct us its hu hi => by
    rw [hd] at hi
    match us, its, hu, hi with
    | [_, _, _], [_], _, _ => exact ⟨_, rfl, rfl⟩)
  have e : ds = [] := by
    rw [hd] at v
    cases v
    rfl
  rw [e] at b
  exact b
/-- Keys(names=a, tells=b) -/
theorem kb_kw {K : PySem.W.Frag} {fd : FuncData} (F : FunD K "__init__" "Keys.__init__" (defArgs s_Keys___init__) (defBody s_Keys___init__) (defScope s_Keys___init__) (d_Keys___init__.dvs K) [] (He.ma K (He.ga K "Keys") "__init__") fd) : ∃ its : List Value, KBn K fd PK3 1 ["names", "tells"] (fun us ws => us ++ ws) (fun vs zs => vs ++ zs) := by
  have hd : d_Keys___init__.dvs K = [.ref (dflA (fun K => He.ma K (He.ga K "Keys") "__init__") 0 K)] := rfl
  obtain ⟨its, b⟩ := F.kbindsD (ps := PK3) 1 ["names", "tells"] (fun us _ ws => us ++ ws) (by rw [hd]; exact List.cons_ne_nil _ _) (fun r1 _ r3 => r1.append r3) (fun T kV doc pm an cdv ct us its ws l1 l2 l3 => by
    rw [hd] at l2
    match us, its, ws, l1, l2, l3 with
    | [_], [_], [_, _], _, _, _ => exact ⟨_, rfl, rfl⟩)
  exact ⟨its, b⟩
end Jd
namespace Jd
open PySem PySem.Spec PyProof.Rows L2
/-- what Keys(own, far) raises -/
def HdKeys (K : PySem.W.Frag) (H : Hp) (own far : V) (z : Str) : Prop := ∃ (nm te : Addr) (names : List Str) (R : List (Str × Str)), own = .ref nm ∧ far = .ref te ∧ Sq K H nm (names.map V.str) ∧ names.length < 64 ∧ (txAll names).length ≤ 7 ∧ (∀ z ∈ names, PyData.strOk z = true) ∧ Tells K H te R ∧ R.length ≤ 64 ∧
  ∀ ns : List Str, ns.Perm (txAll names) → sortedS ns = true → firstOut ns R = some z
def spHeard (K : PySem.W.Frag) : Sp := fun vs H Q _ => ∃ (way : Int) (kr own far : V) (z : Str), vs = [.int way, kr, own, far] ∧ (∀ H' p, Same H H' → H' p = some (.tup [.str z]) → Q (.ref p) H') ∧
  ((way = 0 ∧ HdKeys K H own far z) ∨
   (way = 1 ∧ ∃ (x : Addr) (o y : Str) (ns : List Str) (t : Str → List Str), kr = .ref x ∧ own = .str o ∧ far = .str y ∧ KeysO K H x ns t ∧ ¬ ((o = "#" ∨ o ∈ ns) ∧ (y = "#" ∨ y ∈ ns)) ∧ (if (o = "#" ∨ o ∈ ns) then z = y else z = o)) ∨
   (way = 2 ∧ ∃ (x : Addr) (ns : List Str) (t : Str → List Str), kr = .ref x ∧ own = .str z ∧ KeysO K H x ns t ∧ ¬ (z = "#" ∨ z ∈ ns)))
theorem Same_mk {H : Hp} {x dx : Addr} {o1 o2 : HO} (n1 : H x = none) (n2 : H dx = none) : Same H (upd (upd H dx o1) x o2) := fun b o q => by
  rw [upd_ne (ne_of_none q n1), upd_ne (ne_of_none q n2)]
  exact q
theorem Same_made {H H' : Hp} {x dx : Addr} {o1 o2 : HO} (n1 : H x = none) (n2 : H dx = none) (k : KeepX x (upd (upd H dx o1) x o2) H') : Same H H' := fun b o q => k _ _ (ne_of_none q n1) (Same_mk n1 n2 _ _ q)
section
variable {P : Program} {w : World} {K : PySem.W.Frag} {mg : Str → Option Value} {base : Heap}
theorem sc_hd : FnScope ["_law_way", "_law_keyring", "_law_own", "_law_far", "_law_caught", "_law_found", "error"] ["_law_way", "_law_keyring", "_law_own", "_law_far"] (defScope s__law_heard) := ⟨rfl, rfl, rfl, by decide +kernel, rfl, by decide +kernel, by decide +kernel⟩
theorem ok_heard (B : Bk K mg) : Df P w K mg base CX0 6 "_law_heard" ["_law_way", "_law_keyring", "_law_own", "_law_far"] (spHeard K) := by
  obtain ⟨fd, F⟩ := B.F_law_heard
  obtain ⟨fdI, GI, _, FI⟩ := ok_Keys_init (P := P) (w := w) (base := base) B
  have bI := kb_two FI
  obtain ⟨fdL, GL, bL⟩ := ok_lenK (P := P) (w := w) (base := base) B
  obtain ⟨fdT, GT, FT⟩ := ok_told (P := P) (w := w) (base := base) B
  have bT : Binds K fdT ["self", "name"] [] := FT.binds fun _ _ _ _ _ _ us hl => match us, hl with | [_, _], _ => rfl
  obtain ⟨fdS, GS, FS⟩ := ok_tells (P := P) (w := w) (base := base) B
  have bS : Binds K fdS ["self", "one", "other"] [] := FS.binds fun _ _ _ _ _ _ us hl => match us, hl with | [_, _, _], _ => rfl
  refine ⟨⟨fd, ?_, F.binds fun _ _ _ _ _ _ us hl => match us, hl with | [_, _, _, _], _ => rfl⟩, B.g_law_heard, F.kp⟩
  refine F.ok sc_hd (fun vs H Q E h => ?_) (fun cdv A outer s H vs Q E hr h => ?_)
  · obtain ⟨_, _, _, _, _, rfl, _⟩ := h
    rfl
  · obtain ⟨way, kr, own, far, z, rfl, k, h⟩ := h
    have hr2 : Room 2 _ := hr.mono (by decide)
    have hr4 : Room 4 _ := hr.mono (by decide)
    have Wk := fun {σ : L2.St} {H' : Hp} {H0 : Hp} (d : Addr) (s1 : Same H0 H') => s1
    refine ⟨_, pss_cons (ps_asg (pe_tup (pa_cons pe_non (pa_cons pe_non pa_nil))) (pg_tup (by rfl) (pgs_cons (pg_name (i := 4) sc_hd.nd rfl (.inl rfl)) (pgs_cons (pg_name (i := 5) sc_hd.nd rfl (.inl rfl)) pgs_nil))))
      (pss_cons (ps_try_err (i := 6) (tb := fun W => tIfS (tTest (tOp rEq (tVar 0) (tC (.int 0)))) (tAsg (tCB (rLenOwn (He.ga K "Keys") (spLenK K) E0) (tCons (tMakeS (He.ga K "Keys") (spKI K) [] (WE W) (tCons (tVar 2) (tCons (tVar 3) tNil))) tNil)) (gName 5))
            (tAsg (tIf (tTest (tOp rEq (tVar 0) (tC (.int 1)))) (tMethSA (He.ga K "Keys") "tells" (spTells K) (WE W) (tVar 1) (tCons (tVar 2) (tCons (tVar 3) tNil))) (tMethSA (He.ga K "Keys") "told" (spTold K) (WE W) (tVar 1) (tCons (tVar 2) tNil))) (gName 5)))
          (ts := fun _ _ _ => tAsg (tVar 6) (gName 4)) (Wout := fun _ _ _ _ => False)
          rfl rfl rfl sc_hd.nd rfl rfl (htest4 ⟨rfl, by decide, .inl B.g_BadField⟩ ⟨rfl, by decide, .inl B.g_NoName⟩ ⟨rfl, by decide, .inl B.g_NoPlace⟩ ⟨rfl, by decide, .inl B.g_Ringed⟩) takes0
          (fun W pn xe tk _ => pss_one (ps_if (pt_cmpR op_eq (pv 0) pe_int (nomark _))
            (pss_one (ps_set (i := 5) sc_hd.nd rfl (Or.inl rfl) (pe_callB (call_lenOwn GL hr2 B.sp_Keys_len.1 B.sp_Keys_len.2 bL pass0) (by rfl) B.b_len (by decide +kernel) (pa_cons (pe_makeS B.mk_Keys GI hr4 (by rfl) B.g_Keys bI .nil (fun σ => passAt tk σ) (pa_cons (pv 2) (pa_cons (pv 3) pa_nil))) pa_nil))))
            (pss_one (ps_set (i := 5) sc_hd.nd rfl (Or.inl rfl) (pe_ifExp (pt_cmpR op_eq (pv 0) pe_int (nomark _))
              (pe_methSA (pv 1) B.cl_Keys B.me_Keys_tells GS hr bS (fun σ => passAt tk σ) (pa_cons (pv 2) (pa_cons (pv 3) pa_nil)))
              (pe_methSA (pv 1) B.cl_Keys B.me_Keys_told GT hr4 bT (fun σ => passAt tk σ) (pa_cons (pv 2) pa_nil)))))))
          (fun a oe cls d pn hz hf => pss_one (ps_set (i := 4) sc_hd.nd rfl (Or.inl rfl) (pv 6))))
      (pss_cons (ps_if (pt_cmp (pc_isN (pv 4))) (pss_one (ps_ret (pv 5))) pss_nil)
      (pss_one (ps_ret (pe_ifExp (PW.pt (pw_and (pt_val (pe_callB call_isEr (by rfl) B.b_isinstance (by decide +kernel) (pa_cons (pv 4) (pa_cons (pe_glob (v := .ref (He.ga K "NoName")) rfl B.g_NoName rfl) pa_nil))))
          (pw_and1 (pt_val (pe_callB call_isEr (by rfl) B.b_isinstance (by decide +kernel) (pa_cons (pv 4) (pa_cons (pe_bltn (by rfl) B.b_LookupError (by decide +kernel) (show RelV (.ty "LookupError") (.type "LookupError") from rfl)) pa_nil)))))))
        (pe_tup (pa_cons (pe_erF (pv 4)) pa_nil)) pe_str))))), ?_⟩
    refine ⟨(by show 2 ≤ sizeLine; decide), fun t0 h0 => ⟨_, _, rfl, SqT.of upd_same, rfl, _, _, rfl, _, _, rfl, rfl, ?_⟩⟩
    have s0 : Same H (upd H t0 (.tup [.non, .non])) := Same_new h0
    have c := B.xc_NoName
    rcases h with ⟨rfl, nm, te, names, R, rfl, rfl, hnm, l1, l2, g1, hte, l3, hz⟩ | ⟨rfl, x, o, y, ns, t, rfl, rfl, rfl, ko, hno, hz⟩ | ⟨rfl, x, ns, t, rfl, rfl, ko, hno⟩
    · refine ⟨_, rfl, rfl, _, rfl, iteT ?_⟩
      refine ⟨_, rfl, _, rfl, fun x dx nx ndx nex => ?_⟩
      have sm := Same_mk (o1 := HO.own x) (o2 := HO.ins (He.ga K "Keys") dx []) nx ndx
      refine ⟨x, nm, te, dx, names, R, rfl, upd_same, hnm.same (s0.trans sm), l1, l2, g1, hte.same (s0.trans sm), l3, fun ns pm so nd => ⟨fun q => ?_, fun z' q H' d kx hx => ?_⟩⟩
      · rw [hz ns pm so] at q
        cases q
      · rw [hz ns pm so] at q
        cases q
        have s1 := Same_made nx ndx kx
        refine ⟨_, exm4 B.exm_NoName_BadField B.exm_NoName_NoName B.exm_NoName_NoPlace B.exm_NoName_Ringed, fun _ a na => ?_, fun q => nomatch q⟩
        refine ⟨_, rfl, fun na' => ?_⟩
        have nda : d ≠ a := ne_of_none hx na'
        have hx2 : (upd H' a (ErO (.ref (He.ga K "NoName")) (some d) a)) d = some (.xd [("name", .str z)]) := by rw [upd_ne nda]; exact hx
        refine ⟨_, rfl, _, rfl, ifdn (fun z => nomatch z) ?_⟩
        refine ⟨_, rfl, a, _, d, _, _, _, true, rfl, upd_same, hx2, c, (fun u r => r), kit_self, _, rfl, iteT ?_⟩
        refine ⟨_, rfl, a, _, d, _, _, _, true, rfl, upd_same, hx2, c, (fun u r => r), B.kit_NoName_LookupError, _, rfl, iteT ?_⟩
        refine ⟨_, rfl, a, _, d, _, .str z, rfl, upd_same, ⟨c.hg, c.hk, c.hs, c.hd⟩, B.nf_NoName_name, hx2, rfl, (by show 1 ≤ sizeLine; decide), fun t ht => ?_⟩
        exact k _ t (Same_lay (Same_upd (s0.trans s1) ((s0.trans s1).free na')) ht) upd_same
    · refine ⟨_, rfl, rfl, _, rfl, iteF ?_⟩
      refine ⟨_, rfl, rfl, _, rfl, iteT ?_⟩
      have ko0 := ko.same s0
      obtain ⟨dx, tn, d', A', hx, _⟩ := id ko0
      refine ⟨_, rfl, x, dx, _, rfl, hx, rfl, _, rfl, _, rfl, x, o, y, ns, t, rfl, ko0, fun h1 h2 => absurd ⟨h1, h2⟩ hno, fun b hb H' d s1 hx => ?_⟩
      have eb : b = z := by
        by_cases e : (o = "#" ∨ o ∈ ns)
        · rw [if_pos e] at hb hz
          rw [hb.2, hz]
        · rw [if_neg e] at hb hz
          rw [hb, hz]
      subst eb
      refine ⟨_, exm4 B.exm_NoName_BadField B.exm_NoName_NoName B.exm_NoName_NoPlace B.exm_NoName_Ringed, fun _ a na => ?_, fun q => nomatch q⟩
      refine ⟨_, rfl, fun na' => ?_⟩
      have nda : d ≠ a := ne_of_none hx na'
      have hx2 : (upd H' a (ErO (.ref (He.ga K "NoName")) (some d) a)) d = some (.xd [("name", .str b)]) := by rw [upd_ne nda]; exact hx
      refine ⟨_, rfl, _, rfl, ifdn (fun z => nomatch z) ?_⟩
      refine ⟨_, rfl, a, _, d, _, _, _, true, rfl, upd_same, hx2, c, (fun u r => r), kit_self, _, rfl, iteT ?_⟩
      refine ⟨_, rfl, a, _, d, _, _, _, true, rfl, upd_same, hx2, c, (fun u r => r), B.kit_NoName_LookupError, _, rfl, iteT ?_⟩
      refine ⟨_, rfl, a, _, d, _, .str b, rfl, upd_same, ⟨c.hg, c.hk, c.hs, c.hd⟩, B.nf_NoName_name, hx2, rfl, (by show 1 ≤ sizeLine; decide), fun t ht => ?_⟩
      exact k _ t (Same_lay (Same_upd (s0.trans s1) ((s0.trans s1).free na')) ht) upd_same
    · refine ⟨_, rfl, rfl, _, rfl, iteF ?_⟩
      refine ⟨_, rfl, rfl, _, rfl, iteF ?_⟩
      have ko0 := ko.same s0
      obtain ⟨dx, tn, d', A', hx, _⟩ := id ko0
      refine ⟨_, rfl, x, dx, _, rfl, hx, rfl, _, rfl, x, z, ns, t, rfl, ko0, fun h1 => absurd h1 hno, fun _ H' d s1 hx => ?_⟩
      refine ⟨_, exm4 B.exm_NoName_BadField B.exm_NoName_NoName B.exm_NoName_NoPlace B.exm_NoName_Ringed, fun _ a na => ?_, fun q => nomatch q⟩
      refine ⟨_, rfl, fun na' => ?_⟩
      have nda : d ≠ a := ne_of_none hx na'
      have hx2 : (upd H' a (ErO (.ref (He.ga K "NoName")) (some d) a)) d = some (.xd [("name", .str z)]) := by rw [upd_ne nda]; exact hx
      refine ⟨_, rfl, _, rfl, ifdn (fun z => nomatch z) ?_⟩
      refine ⟨_, rfl, a, _, d, _, _, _, true, rfl, upd_same, hx2, c, (fun u r => r), kit_self, _, rfl, iteT ?_⟩
      refine ⟨_, rfl, a, _, d, _, _, _, true, rfl, upd_same, hx2, c, (fun u r => r), B.kit_NoName_LookupError, _, rfl, iteT ?_⟩
      refine ⟨_, rfl, a, _, d, _, .str z, rfl, upd_same, ⟨c.hg, c.hk, c.hs, c.hd⟩, B.nf_NoName_name, hx2, rfl, (by show 1 ≤ sizeLine; decide), fun t ht => ?_⟩
      exact k _ t (Same_lay (Same_upd (s0.trans s1) ((s0.trans s1).free na')) ht) upd_same
end
end Jd
namespace Jd
open PySem PySem.Spec PyProof.Rows L2
/-! ### rows of values, compared -/
inductive Item where
  | fl (v : V)
  | tf (xs : List Str)
  | tt (prs : List (Str × Str))
  | lt (xss : List (List Str))
def ItemAt (H : Hp) (v : V) : Item → Prop
  | .fl x => v = x ∧ FlatV x
  | .tf xs => ∃ a, v = .ref a ∧ H a = some (.tup (xs.map V.str)) ∧ xs.length < 1000
  | .tt prs => ∃ a qs, v = .ref a ∧ H a = some (.tup (qs.map V.ref)) ∧ PrAt H qs prs ∧ prs.length < 1000
  | .lt xss => ∃ (a : Addr) (qs : List Addr), v = .ref a ∧ H a = some (.lst (qs.map V.ref)) ∧ qs.length = xss.length ∧ xss.length < 1000 ∧ ∀ (i : Nat) (q : Addr), qs[i]? = some q → ∃ xs, xss[i]? = some xs ∧ H q = some (.tup (xs.map V.str)) ∧ xs.length < 1000
theorem ItemAt.same {H H' : Hp} {v : V} : ∀ {i : Item}, ItemAt H v i → Same H H' → ItemAt H' v i
  | .fl x, h, _ => h
  | .tf xs, ⟨a, e, h, l⟩, s => ⟨a, e, s _ _ h, l⟩
  | .tt prs, ⟨a, qs, e, h, p, l⟩, s => ⟨a, qs, e, s _ _ h, p.same s, l⟩
  | .lt xss, ⟨a, qs, e, h, l1, l2, p⟩, s => ⟨a, qs, e, s _ _ h, l1, l2, fun i q hq => let ⟨xs, e1, e2, e3⟩ := p i q hq; ⟨xs, e1, s _ _ e2, e3⟩⟩
abbrev ItemsAt (H : Hp) : List V → List Item → Prop := Paired (ItemAt H)
theorem items_same {H H' : Hp} (s : Same H H') : ∀ {vs : List V} {is : List Item}, ItemsAt H vs is → ItemsAt H' vs is
  | _, _, .nil => .nil
  | _, _, .cons q r => .cons (q.same s) (items_same s r)
theorem pr_app {α β : Type} {F : α → β → Prop} : ∀ {xs xs' : List α} {ys ys' : List β}, Paired F xs ys → Paired F xs' ys' → Paired F (xs ++ xs') (ys ++ ys')
  | _, _, _, _, .nil, h => h
  | _, _, _, _, .cons q r, h => .cons q (pr_app r h)
theorem pr_at {α β : Type} {F : α → β → Prop} : ∀ {xs : List α} {ys : List β} {i : Nat} {x : α}, Paired F xs ys → xs[i]? = some x → ∃ y, ys[i]? = some y ∧ F x y
  | _, _, 0, _, .cons q r, h => by
    cases h
    exact ⟨_, rfl, q⟩
  | _, _, i + 1, x, .cons q r, h => pr_at (i := i) r h
def ListAt (H : Hp) (a : Addr) (is : List Item) : Prop := ∃ vs, H a = some (.lst vs) ∧ ItemsAt H vs is
theorem ListAt.same {H H' : Hp} {a : Addr} {is : List Item} (h : ListAt H a is) (s : Same H H') : ListAt H' a is := by
  obtain ⟨vs, h1, h2⟩ := h
  exact ⟨vs, s _ _ h1, items_same s h2⟩
theorem sm_str {H : Hp} {n : Nat} {xs : List Str} {i : Nat} {u v : V} (h1 : (xs.map V.str)[i]? = some u) (h2 : (xs.map V.str)[i]? = some v) : Sm H n u v := by
  rw [h1] at h2
  cases h2
  obtain ⟨z, _, rfl⟩ := at_str h1
  exact Sm_flat trivial
theorem sm_tf {H : Hp} {n : Nat} {a b : Addr} {xs : List Str} (h1 : H a = some (.tup (xs.map V.str))) (h2 : H b = some (.tup (xs.map V.str))) (l : xs.length < 1000) : Sm H (n + 1) (.ref a) (.ref b) :=
  Or.inr ⟨a, b, _, _, rfl, rfl, rfl, by rw [List.length_map]; exact l, fun i u v e1 e2 => sm_str e1 e2, .inr ⟨h1, h2⟩⟩
theorem sm_item {H : Hp} {v w : V} : ∀ {i : Item}, ItemAt H v i → ItemAt H w i → Sm H 2 v w
  | .fl x, ⟨e1, f⟩, ⟨e2, _⟩ => by
    subst e1 e2
    exact Sm_flat f
  | .tf xs, ⟨a, e, h, l⟩, ⟨b, e', h', _⟩ => by
    subst e e'
    exact sm_tf h h' l
  | .tt prs, ⟨a, qs, e, h, p, l⟩, ⟨b, rs, e', h', p', _⟩ => by
    subst e e'
    refine Or.inr ⟨a, b, _, _, rfl, rfl, by rw [List.length_map, List.length_map, p.1, p'.1], by rw [List.length_map, p.1]; exact l, fun i u v e1 e2 => ?_, .inr ⟨h, h'⟩⟩
    obtain ⟨q, hq, rfl⟩ := at_ref e1
    obtain ⟨r, hr, rfl⟩ := at_ref e2
    obtain ⟨pr, k1, k2⟩ := p.2 i q hq
    obtain ⟨pr', k1', k2'⟩ := p'.2 i r hr
    rw [k1] at k1'
    cases k1'
    exact sm_tf (n := 0) (xs := [pr.1, pr.2]) k2 k2' (by show 2 < 1000; decide)
  | .lt xss, ⟨a, qs, e, h, l1, l2, p⟩, ⟨b, rs, e', h', l1', _, p'⟩ => by
    subst e e'
    refine Or.inr ⟨a, b, _, _, rfl, rfl, by rw [List.length_map, List.length_map, l1, l1'], by rw [List.length_map, l1]; exact l2, fun i u v e1 e2 => ?_, .inl ⟨h, h'⟩⟩
    obtain ⟨q, hq, rfl⟩ := at_ref e1
    obtain ⟨r, hr, rfl⟩ := at_ref e2
    obtain ⟨xs, k1, k2, k3⟩ := p i q hq
    obtain ⟨xs', k1', k2', k3'⟩ := p' i r hr
    rw [k1] at k1'
    cases k1'
    exact sm_tf (n := 0) k2 k2' k3
theorem sm_lists {H : Hp} {a b : Addr} {is : List Item} (h1 : ListAt H a is) (h2 : ListAt H b is) (l : is.length < 1000) : Sm H 3 (.ref a) (.ref b) := by
  obtain ⟨vs, e1, p1⟩ := h1
  obtain ⟨ws, e2, p2⟩ := h2
  refine Or.inr ⟨a, b, vs, ws, rfl, rfl, by rw [p1.length, p2.length], by rw [p1.length]; exact l, fun i u v k1 k2 => ?_, .inl ⟨e1, e2⟩⟩
  obtain ⟨x, q1, q2⟩ := pr_at p1 k1
  obtain ⟨y, q1', q2'⟩ := pr_at p2 k2
  rw [q1] at q1'
  cases q1'
  exact sm_item q2 q2'
end Jd
namespace Jd
open PySem PySem.Spec PyProof.Rows L2
/-! ### by hand -/
def ns3 : List Str := ["city", "shop", "user"]
def nm3 : List Str := ["user", "city", "shop", "user"]
def R3 : List (Str × Str) := [("user", "shop"), ("shop", "city")]
def pr3 : List (Str × Str) := [("shop", "city"), ("user", "city"), ("user", "shop")]
def gA : List Item := [.tf ns3, .tt pr3, .fl (.int 3), .fl (.bl false), .fl (.bl true), .fl (.bl false)]
def gB : List Item := [.tf ["city", "shop"], .tf ns3, .fl (.bl false), .fl (.bl false)]
def gC : List Item := [.tf ["c"], .tf ["x"], .tf ["z"], .tf ["x"], .tf ["y"], .tf ["y"]]
def gD : List Item := [.tf [], .tt [], .fl (.int 0), .tf [], .fl (.bl true), .fl (.bl false), .fl (.bl false)]
theorem new_at {H : Hp} {a : Addr} (o : HO) (n : H a = none) : upd H a o a = some o := upd_same
theorem pr_of {H : Hp} {qs : List Addr} {prs : List (Str × Str)} (p : Paired (fun q (pr : Str × Str) => H q = some (.tup [.str pr.1, .str pr.2])) qs prs) : PrAt H qs prs := ⟨p.length, fun i q h => pr_at p h⟩
theorem cat_at {H : Hp} {p : Addr} {vs ws : List V} {is js : List Item} (h1 : ItemsAt H vs is) (h2 : ItemsAt H ws js) (np : H p = none) : ListAt (upd H p (.lst (vs ++ ws))) p (is ++ js) :=
  ⟨_, upd_same, pr_app (items_same (Same_new np) h1) (items_same (Same_new np) h2)⟩
theorem tells_of {K : PySem.W.Frag} {H : Hp} {te : Addr} {ps : List Addr} {R : List (Str × Str)} (h : Sq K H te (ps.map V.ref)) (p : Paired (fun a (pr : Str × Str) => Sq K H a [.str pr.1, .str pr.2]) ps R) : Tells K H te R :=
  ⟨ps, h, p.length, fun i a ha => pr_at p ha⟩
theorem one_order {names ns0 : List Str} (h : ns0.Perm (txAll names)) (s0 : sortedS ns0 = true) {ns : List Str} (pm : ns.Perm (txAll names)) (so : sortedS ns = true) : ns = ns0 := sorted_one (pm.trans h.symm) so s0
def spBH : Sp := fun vs H Q _ => vs = [] ∧ ∀ H', Same H H' → Q (.bl true) H'
theorem nf_self {K : PySem.W.Frag} {C : Addr} : PySem.W.notFirst K C (.ref C) = true := by
  unfold PySem.W.notFirst
  simp
section
variable {P : Program} {w : World} {K : PySem.W.Frag} {mg : Str → Option Value} {base : Heap}
abbrev NH : List Str := ["_law_keyring", "_law_got", "_law_goal", "_law_bare"]
theorem sc_bh : FnScope NH [] (defScope s__law_by_hand_right) := ⟨rfl, rfl, rfl, by decide +kernel, rfl, by decide +kernel, by decide +kernel⟩
theorem ok_by_hand (B : Bk K mg) : Df P w K mg base CX0 7 "_law_by_hand_right" [] spBH := by
  obtain ⟨fd, F⟩ := B.F_law_by_hand_right
  obtain ⟨fdI, GI, ⟨dsF, vDf, bDf⟩, FI⟩ := ok_Keys_init (P := P) (w := w) (base := base) B
  have bI := kb_two FI
  obtain ⟨fdL, GL, bL⟩ := ok_lenK (P := P) (w := w) (base := base) B
  obtain ⟨fdH, GH, bH⟩ := ok_has (P := P) (w := w) (base := base) B
  obtain ⟨fdN, GN, bN⟩ := ok_names (P := P) (w := w) (base := base) B
  obtain ⟨fdP, GP, bP⟩ := ok_pairs (P := P) (w := w) (base := base) B
  obtain ⟨fdE, GE, bE⟩ := ok_eqK (P := P) (w := w) (base := base) B
  obtain ⟨fdT, GT, FT⟩ := ok_told (P := P) (w := w) (base := base) B
  have bT : Binds K fdT ["self", "name"] [] := FT.binds fun _ _ _ _ _ _ us hl => match us, hl with | [_, _], _ => rfl
  obtain ⟨fdS, GS, FS⟩ := ok_tells (P := P) (w := w) (base := base) B
  have bS : Binds K fdS ["self", "one", "other"] [] := FS.binds fun _ _ _ _ _ _ us hl => match us, hl with | [_, _, _], _ => rfl
  obtain ⟨fdD, GD, bD⟩ := (ok_heard (P := P) (w := w) (base := base) B).ex
  have kD := (ok_heard (P := P) (w := w) (base := base) B).kp
  obtain ⟨fdQ, GQ, bQ⟩ := (ok_law_same (P := P) (w := w) (base := base) B 3).ex
  have kQ := (ok_law_same (P := P) (w := w) (base := base) B 3).kp
  refine ⟨⟨fd, ?_, F.binds fun _ _ _ _ _ _ us hl => match us, hl with | [], _ => rfl⟩, B.g_law_by_hand_right, F.kp⟩
  refine F.ok sc_bh (fun vs H Q E h => ?_) (fun cdv A outer s H vs Q E hr h => ?_)
  · obtain ⟨rfl, _⟩ := h
    rfl
  · obtain ⟨rfl, k⟩ := h
    have hr11 : Room 1 _ := hr.mono (by decide)
    have hr2 : Room 2 _ := hr.mono (by decide)
    have hr4 : Room 4 _ := hr.mono (by decide)
    have hr5 : Room 5 _ := hr.mono (by decide)
    refine ⟨_, 
pss_cons (ps_cut (ps_set (i := 0) sc_bh.nd rfl (Or.inl rfl) (pe_make (E := fun _ _ _ => False) B.mk_Keys GI hr4 (by rfl) B.g_Keys bI .nil passF (pa_cons (pe_tup (pa_cons pe_str (pa_cons pe_str (pa_cons pe_str (pa_cons pe_str pa_nil))))) (pa_cons (pe_tup (pa_cons (pe_tup (pa_cons pe_str (pa_cons pe_str pa_nil))) (pa_cons (pe_tup (pa_cons pe_str (pa_cons pe_str pa_nil))) pa_nil))) pa_nil)))))
      (pss_cons (ps_cut (ps_set (i := 1) sc_bh.nd rfl (Or.inl rfl) (pe_lst (pa_cons (pe_prop (pv 0) B.cl_Keys B.pr_Keys_names GN hr2 bN .nil pass0 rfl) (pa_cons (pe_prop (pv 0) B.cl_Keys B.pr_Keys_pairs GP hr2 bP .nil pass0 rfl) (pa_cons (pe_callB (call_lenOwn (E := E0) GL hr2 B.sp_Keys_len.1 B.sp_Keys_len.2 bL pass0) (by rfl) B.b_len (by decide +kernel) (pa_cons (pv 0) pa_nil)) (pa_cons (pe_cmpR (op_inOwn (E := E0) GH hr11 B.sp_Keys_contains.1 B.sp_Keys_contains.2 bH pass0) pe_str (pv 0) (by rfl)) (pa_cons (pe_cmpR (op_inOwn (E := E0) GH hr11 B.sp_Keys_contains.1 B.sp_Keys_contains.2 bH pass0) pe_str (pv 0) (by rfl)) (pa_cons (pe_cmpR (op_inOwn (E := E0) GH hr11 B.sp_Keys_contains.1 B.sp_Keys_contains.2 bH pass0) pe_str (pv 0) (by rfl)) pa_nil)))))))))
      (pss_cons (ps_cut (ps_set (i := 2) sc_bh.nd rfl (Or.inl rfl) (pe_lst (pa_cons (pe_tup (pa_cons pe_str (pa_cons pe_str (pa_cons pe_str pa_nil)))) (pa_cons (pe_tup (pa_cons (pe_tup (pa_cons pe_str (pa_cons pe_str pa_nil))) (pa_cons (pe_tup (pa_cons pe_str (pa_cons pe_str pa_nil))) (pa_cons (pe_tup (pa_cons pe_str (pa_cons pe_str pa_nil))) pa_nil)))) (pa_cons pe_int (pa_cons pe_bl (pa_cons pe_bl (pa_cons pe_bl pa_nil)))))))))
      (pss_cons (ps_cut (ps_set (i := 1) sc_bh.nd rfl (Or.inl rfl) (pe_op op_cat (pv 1) (pe_lst (pa_cons (pe_meth (E := fun _ _ _ => False) (pv 0) B.cl_Keys B.me_Keys_told GT hr4 bT .nil passF (pa_cons pe_str pa_nil)) (pa_cons (pe_meth (E := fun _ _ _ => False) (pv 0) B.cl_Keys B.me_Keys_told GT hr4 bT .nil passF (pa_cons pe_str pa_nil)) (pa_cons (pe_meth (E := fun _ _ _ => False) (pv 0) B.cl_Keys B.me_Keys_tells GS hr5 bS .nil passF (pa_cons pe_str (pa_cons pe_str pa_nil))) (pa_cons (pe_meth (E := fun _ _ _ => False) (pv 0) B.cl_Keys B.me_Keys_tells GS hr5 bS .nil passF (pa_cons pe_str (pa_cons pe_str pa_nil))) pa_nil))))))))
      (pss_cons (ps_cut (ps_set (i := 2) sc_bh.nd rfl (Or.inl rfl) (pe_op op_cat (pv 2) (pe_lst (pa_cons (pe_tup (pa_cons pe_str (pa_cons pe_str pa_nil))) (pa_cons (pe_tup (pa_cons pe_str (pa_cons pe_str (pa_cons pe_str pa_nil)))) (pa_cons pe_bl (pa_cons pe_bl pa_nil))))))))
      (pss_cons (ps_cut (ps_set (i := 1) sc_bh.nd rfl (Or.inl rfl) (pe_op op_cat (pv 1) (pe_lst (pa_cons (pe_call GD hr rfl B.g_law_heard kD bD .nil pass0 (pa_cons pe_int (pa_cons pe_non (pa_cons (pe_tup (pa_cons pe_str (pa_cons pe_str pa_nil))) (pa_cons (pe_tup (pa_cons (pe_tup (pa_cons pe_str (pa_cons pe_str pa_nil))) (pa_cons (pe_tup (pa_cons pe_str (pa_cons pe_str pa_nil))) (pa_cons (pe_tup (pa_cons pe_str (pa_cons pe_str pa_nil))) pa_nil)))) pa_nil))))) pa_nil)))))
      (pss_cons (ps_cut (ps_set (i := 1) sc_bh.nd rfl (Or.inl rfl) (pe_op op_cat (pv 1) (pe_lst (pa_cons (pe_call GD hr rfl B.g_law_heard kD bD .nil pass0 (pa_cons pe_int (pa_cons pe_non (pa_cons (pe_tup (pa_cons pe_str (pa_cons pe_str pa_nil))) (pa_cons (pe_tup (pa_cons (pe_tup (pa_cons pe_str (pa_cons pe_str pa_nil))) pa_nil)) pa_nil))))) (pa_cons (pe_call GD hr rfl B.g_law_heard kD bD .nil pass0 (pa_cons pe_int (pa_cons pe_non (pa_cons (pe_tup (pa_cons pe_str pa_nil)) (pa_cons (pe_tup (pa_cons (pe_tup (pa_cons pe_str (pa_cons pe_str pa_nil))) (pa_cons (pe_tup (pa_cons pe_str (pa_cons pe_str pa_nil))) pa_nil))) pa_nil))))) pa_nil))))))
      (pss_cons (ps_cut (ps_set (i := 1) sc_bh.nd rfl (Or.inl rfl) (pe_op op_cat (pv 1) (pe_lst (pa_cons (pe_call GD hr rfl B.g_law_heard kD bD .nil pass0 (pa_cons pe_int (pa_cons (pv 0) (pa_cons pe_str (pa_cons pe_str pa_nil))))) (pa_cons (pe_call GD hr rfl B.g_law_heard kD bD .nil pass0 (pa_cons pe_int (pa_cons (pv 0) (pa_cons pe_str (pa_cons pe_str pa_nil))))) (pa_cons (pe_call GD hr rfl B.g_law_heard kD bD .nil pass0 (pa_cons pe_int (pa_cons (pv 0) (pa_cons pe_str (pa_cons pe_str pa_nil))))) pa_nil)))))))
      (pss_cons (ps_cut (ps_set (i := 2) sc_bh.nd rfl (Or.inl rfl) (pe_op op_cat (pv 2) (pe_lst (pa_cons (pe_tup (pa_cons pe_str pa_nil)) (pa_cons (pe_tup (pa_cons pe_str pa_nil)) (pa_cons (pe_tup (pa_cons pe_str pa_nil)) (pa_cons (pe_tup (pa_cons pe_str pa_nil)) (pa_cons (pe_tup (pa_cons pe_str pa_nil)) (pa_cons (pe_tup (pa_cons pe_str pa_nil)) pa_nil))))))))))
      (pss_cons (ps_cut (ps_set (i := 3) sc_bh.nd rfl (Or.inl rfl) (pe_make (E := fun _ _ _ => False) B.mk_Keys GI hr4 (by rfl) B.g_Keys bDf vDf passF (pa_cons (pe_tup pa_nil) pa_nil))))
      (pss_cons (ps_cut (ps_set (i := 1) sc_bh.nd rfl (Or.inl rfl) (pe_op op_cat (pv 1) (pe_lst (pa_cons (pe_prop (pv 3) B.cl_Keys B.pr_Keys_names GN hr2 bN .nil pass0 rfl) (pa_cons (pe_prop (pv 3) B.cl_Keys B.pr_Keys_pairs GP hr2 bP .nil pass0 rfl) (pa_cons (pe_callB (call_lenOwn (E := E0) GL hr2 B.sp_Keys_len.1 B.sp_Keys_len.2 bL pass0) (by rfl) B.b_len (by decide +kernel) (pa_cons (pv 3) pa_nil)) (pa_cons (pe_meth (E := fun _ _ _ => False) (pv 3) B.cl_Keys B.me_Keys_told GT hr4 bT .nil passF (pa_cons pe_str pa_nil)) (pa_cons (pe_cmpR (op_eqOwn (E := E0) GE hr11 B.sp_Keys_eq.1 B.sp_Keys_eq.2 bE pass0) (pv 3) (pe_make (E := fun _ _ _ => False) B.mk_Keys GI hr4 (by rfl) B.g_Keys bI .nil passF (pa_cons (pe_lst pa_nil) (pa_cons (pe_lst pa_nil) pa_nil))) (nomark _)) (pa_cons (pe_cmpR (op_eqOwn (E := E0) GE hr11 B.sp_Keys_eq.1 B.sp_Keys_eq.2 bE pass0) (pv 3) (pe_tup pa_nil) (nomark _)) (pa_cons (pe_cmpR (op_eqOwn (E := E0) GE hr11 B.sp_Keys_eq.1 B.sp_Keys_eq.2 bE pass0) (pv 0) (pv 3) (nomark _)) pa_nil)))))))))))
      (pss_one (ps_ret (pe_call GQ hr5 rfl B.g_law_same kQ bQ .nil pass0 (pa_cons (pv 1) (pa_cons (pe_op op_cat (pv 2) (pe_lst (pa_cons (pe_tup pa_nil) (pa_cons (pe_tup pa_nil) (pa_cons pe_int (pa_cons (pe_tup pa_nil) (pa_cons pe_bl (pa_cons pe_bl (pa_cons pe_bl pa_nil))))))))) pa_nil))))))))))))))), ?_⟩
    have hp0 : ns3.Perm (txAll nm3) := by decide +kernel
    refine ⟨fun σ' H' => ∃ x, σ' = [some (.ref x), none, none, none] ∧ Same H H' ∧ KeysO K H' x ns3 (toldOf R3 ns3), ?_, ?_⟩
    · refine ⟨(by show 4 ≤ sizeLine; decide), fun a na => ⟨(by show 2 ≤ sizeLine; decide), fun b1 nb1 => ⟨(by show 2 ≤ sizeLine; decide), fun b2 nb2 => ⟨(by show 2 ≤ sizeLine; decide), fun te nte => fun x dx nx ndx nex => ?_⟩⟩⟩⟩
      have sa := Same_new (o := HO.tup [V.str "user", V.str "city", V.str "shop", V.str "user"]) na
      have ha := new_at (HO.tup [V.str "user", V.str "city", V.str "shop", V.str "user"]) na
      have sb1 := Same_new (o := HO.tup [V.str "user", V.str "shop"]) nb1
      have hb1 := new_at (HO.tup [V.str "user", V.str "shop"]) nb1
      have sb2 := Same_new (o := HO.tup [V.str "shop", V.str "city"]) nb2
      have hb2 := new_at (HO.tup [V.str "shop", V.str "city"]) nb2
      have ste := Same_new (o := HO.tup [V.ref b1, V.ref b2]) nte
      have hte := new_at (HO.tup [V.ref b1, V.ref b2]) nte
      have sm := Same_mk (o1 := HO.own x) (o2 := HO.ins (He.ga K "Keys") dx []) nx ndx
      refine ⟨x, a, te, dx, nm3, R3, rfl, upd_same, .inr (SqT.of (sm _ _ (ste _ _ (sb2 _ _ (sb1 _ _ ha))))), by decide, by decide +kernel, by decide +kernel, tells_of (ps := [b1, b2]) (.inr (SqT.of (sm _ _ hte))) (.cons (.inr (SqT.of (sm _ _ (ste _ _ (sb2 _ _ hb1))))) (.cons (.inr (SqT.of (sm _ _ (ste _ _ hb2)))) .nil)), by decide, fun ns pm so nd => ?_⟩
      have e := one_order hp0 (by decide +kernel) pm so
      subst e
      refine ⟨fun _ => ⟨by decide +kernel, fun H' ko kx => ⟨rfl, x, rfl, (((sa.trans sb1).trans sb2).trans ste).trans (Same_made nx ndx kx), ko⟩⟩, fun z q => absurd (q.symm.trans (show firstOut ns3 R3 = none by decide +kernel)) (fun z => by cases z)⟩
    rintro σ1 H0 ⟨x, rfl, s0, ko⟩
    obtain ⟨dx, tn, d0, A0, hx, _⟩ := id ko
    refine ⟨fun σ' H' => ∃ G, σ' = [some (.ref x), some (.ref G), none, none] ∧ Same H0 H' ∧ ListAt H' G gA, ?_, ?_⟩
    · refine ⟨_, rfl, x, dx, _, rfl, hx, x, ns3, _, rfl, ko, fun p1 hp1 => ?_⟩
      refine ⟨_, rfl, x, dx, _, rfl, hx, x, ns3, _, rfl, ko, fun H2 p2 qs2 s2 hp2 pr2 => ?_⟩
      have ko2 := ko.same s2
      have hx2 := s2 _ _ hx
      refine ⟨_, rfl, x, dx, _, rfl, hx2, x, ns3, _, rfl, ko2, _, rfl, (by show (0 : Int) ≤ 3; decide), (by show (3 : Int) < 2 ^ 63; decide), ?_⟩
      refine ⟨_, rfl, x, dx, _, rfl, hx2, x, "#", ns3, _, rfl, ko2, _, rfl, ?_⟩
      refine ⟨_, rfl, x, dx, _, rfl, hx2, x, "city", ns3, _, rfl, ko2, _, rfl, ?_⟩
      refine ⟨_, rfl, x, dx, _, rfl, hx2, x, "b", ns3, _, rfl, ko2, _, rfl, ?_⟩
      refine ⟨(by show 6 ≤ sizeLine; decide), fun G nG => ?_⟩
      have sG := Same_new (o := HO.lst [V.ref p1, V.ref p2, V.int ((ns3.length : Nat) : Int), V.bl (decide (("#" : Str) ∈ ns3)), V.bl (decide (("city" : Str) ∈ ns3)), V.bl (decide (("b" : Str) ∈ ns3))]) nG
      rw [show pairsOf ns3 (toldOf R3 ns3) = pr3 by decide +kernel] at pr2
      exact ⟨G, rfl, s2.trans sG, _, upd_same, .cons ⟨p1, rfl, sG _ _ (s2 _ _ hp1), by decide⟩ (.cons ⟨p2, qs2, rfl, sG _ _ hp2, pr2.same sG, by decide⟩ (.cons ⟨rfl, trivial⟩ (.cons ⟨congrArg V.bl (show decide (("#" : Str) ∈ ns3) = false by decide +kernel), trivial⟩ (.cons ⟨congrArg V.bl (show decide (("city" : Str) ∈ ns3) = true by decide +kernel), trivial⟩ (.cons ⟨congrArg V.bl (show decide (("b" : Str) ∈ ns3) = false by decide +kernel), trivial⟩ .nil)))))⟩
    rintro σ2 H1 ⟨G, rfl, s1, lG⟩
    replace ko := ko.same s1
    replace hx := s1 _ _ hx
    replace s0 := s0.trans s1
    clear s1
    refine ⟨fun σ' H' => ∃ L, σ' = [some (.ref x), some (.ref G), some (.ref L), none] ∧ Same H1 H' ∧ ListAt H' L gA, ?_, ?_⟩
    · refine ⟨(by show 3 ≤ sizeLine; decide), fun a na => ⟨(by show 2 ≤ sizeLine; decide), fun b1 nb1 => ⟨(by show 2 ≤ sizeLine; decide), fun b2 nb2 => ⟨(by show 2 ≤ sizeLine; decide), fun b3 nb3 => ⟨(by show 3 ≤ sizeLine; decide), fun c nc => ⟨(by show 6 ≤ sizeLine; decide), fun L nL => ?_⟩⟩⟩⟩⟩⟩
      have sa := Same_new (o := HO.tup [V.str "city", V.str "shop", V.str "user"]) na
      have ha := new_at (HO.tup [V.str "city", V.str "shop", V.str "user"]) na
      have sb1 := Same_new (o := HO.tup [V.str "shop", V.str "city"]) nb1
      have hb1 := new_at (HO.tup [V.str "shop", V.str "city"]) nb1
      have sb2 := Same_new (o := HO.tup [V.str "user", V.str "city"]) nb2
      have hb2 := new_at (HO.tup [V.str "user", V.str "city"]) nb2
      have sb3 := Same_new (o := HO.tup [V.str "user", V.str "shop"]) nb3
      have hb3 := new_at (HO.tup [V.str "user", V.str "shop"]) nb3
      have sc := Same_new (o := HO.tup [V.ref b1, V.ref b2, V.ref b3]) nc
      have hc := new_at (HO.tup [V.ref b1, V.ref b2, V.ref b3]) nc
      have sL : Same _ _ := Same_new (o := HO.lst [V.ref a, V.ref c, V.int 3, V.bl false, V.bl true, V.bl false]) nL
      exact ⟨L, rfl, ((((sa.trans sb1).trans sb2).trans sb3).trans sc).trans sL, _, upd_same, .cons ⟨a, rfl, sL _ _ (sc _ _ (sb3 _ _ (sb2 _ _ (sb1 _ _ ha)))), by decide⟩ (.cons ⟨c, [b1, b2, b3], rfl, sL _ _ hc, pr_of (.cons (sL _ _ (sc _ _ (sb3 _ _ (sb2 _ _ hb1)))) (.cons (sL _ _ (sc _ _ (sb3 _ _ hb2))) (.cons (sL _ _ (sc _ _ hb3)) .nil))), by decide⟩ (.cons ⟨rfl, trivial⟩ (.cons ⟨rfl, trivial⟩ (.cons ⟨rfl, trivial⟩ (.cons ⟨rfl, trivial⟩ .nil)))))⟩
    rintro σ3 H2 ⟨L, rfl, sN, lL⟩
    replace ko := ko.same sN
    replace hx := sN _ _ hx
    replace s0 := s0.trans sN
    replace lG := lG.same sN
    clear sN
    obtain ⟨vG, hG, pG⟩ := lG
    refine ⟨fun σ' H' => ∃ G, σ' = [some (.ref x), some (.ref G), some (.ref L), none] ∧ Same H2 H' ∧ ListAt H' G (gA ++ gB), ?_, ?_⟩
    · refine ⟨_, rfl, ?_⟩
      refine ⟨_, rfl, x, dx, _, rfl, hx, rfl, x, "user", ns3, _, rfl, ko, fun _ p1 hp1 => ?_, fun h => absurd (Or.inr (by decide +kernel)) h⟩
      refine ⟨_, rfl, x, dx, _, rfl, hx, rfl, x, "#", ns3, _, rfl, ko, fun _ p2 hp2 => ?_, fun h => absurd (Or.inl rfl) h⟩
      refine ⟨_, rfl, x, dx, _, rfl, hx, rfl, x, "#", "#", ns3, _, rfl, ko, fun _ _ => ?_, fun b hb => absurd (Or.inl rfl) (by rw [if_pos (Or.inl rfl)] at hb; exact hb.1)⟩
      refine ⟨_, rfl, x, dx, _, rfl, hx, rfl, x, "city", "#", ns3, _, rfl, ko, fun _ _ => ?_, fun b hb => absurd (Or.inl rfl) (by rw [if_pos (Or.inr (by decide +kernel))] at hb; exact hb.1)⟩
      rw [show toldAt ns3 (toldOf R3 ns3) "user" = [("city" : Str), "shop"] by decide +kernel] at hp1
      rw [show toldAt ns3 (toldOf R3 ns3) "#" = ns3 by decide +kernel] at hp2
      refine ⟨(by show 4 ≤ sizeLine; decide), fun N nN => ⟨_, _, _, _, rfl, rfl, Same_new nN _ _ hG, upd_same, (by rw [pG.length]; show 6 + 4 ≤ sizeLine; decide), fun p np => ?_⟩⟩
      have sN := Same_new (o := HO.lst [V.ref p1, V.ref p2, V.bl (decide (("#" : Str) ∈ toldAt ns3 (toldOf R3 ns3) "#")), V.bl (decide (("#" : Str) ∈ toldAt ns3 (toldOf R3 ns3) "city"))]) nN
      exact ⟨p, rfl, sN.trans (Same_new np), cat_at (items_same sN pG) (.cons ⟨p1, rfl, sN _ _ hp1, by decide⟩ (.cons ⟨p2, rfl, sN _ _ hp2, by decide⟩ (.cons ⟨congrArg V.bl (show decide (("#" : Str) ∈ toldAt ns3 (toldOf R3 ns3) "#") = false by decide +kernel), trivial⟩ (.cons ⟨congrArg V.bl (show decide (("#" : Str) ∈ toldAt ns3 (toldOf R3 ns3) "city") = false by decide +kernel), trivial⟩ .nil)))) np⟩
    rintro σ4 H3 ⟨G, rfl, sN, lG⟩
    replace ko := ko.same sN
    replace hx := sN _ _ hx
    replace s0 := s0.trans sN
    replace lL := lL.same sN
    clear sN
    obtain ⟨vL, hL, pL⟩ := lL
    refine ⟨fun σ' H' => ∃ L, σ' = [some (.ref x), some (.ref G), some (.ref L), none] ∧ Same H3 H' ∧ ListAt H' L (gA ++ gB), ?_, ?_⟩
    · refine ⟨_, rfl, ?_⟩
      refine ⟨(by show 2 ≤ sizeLine; decide), fun a na => ⟨(by show 3 ≤ sizeLine; decide), fun b1 nb1 => ⟨(by show 4 ≤ sizeLine; decide), fun N nN => ⟨_, _, _, _, rfl, rfl, Same_new nN _ _ (Same_new nb1 _ _ (Same_new na _ _ hL)), upd_same, (by rw [pL.length]; show 6 + 4 ≤ sizeLine; decide), fun p np => ?_⟩⟩⟩⟩
      have sa := Same_new (o := HO.tup [V.str "city", V.str "shop"]) na
      have ha := new_at (HO.tup [V.str "city", V.str "shop"]) na
      have sb1 := Same_new (o := HO.tup [V.str "city", V.str "shop", V.str "user"]) nb1
      have hb1 := new_at (HO.tup [V.str "city", V.str "shop", V.str "user"]) nb1
      have sN := Same_new (o := HO.lst [V.ref a, V.ref b1, V.bl false, V.bl false]) nN
      have hN := new_at (HO.lst [V.ref a, V.ref b1, V.bl false, V.bl false]) nN
      exact ⟨p, rfl, ((sa.trans sb1).trans sN).trans (Same_new np), cat_at (items_same ((sa.trans sb1).trans sN) pL) (.cons ⟨a, rfl, (sN _ _ (sb1 _ _ ha)), by decide⟩ (.cons ⟨b1, rfl, (sN _ _ hb1), by decide⟩ (.cons ⟨rfl, trivial⟩ (.cons ⟨rfl, trivial⟩ .nil)))) np⟩
    rintro σ5 H4 ⟨L, rfl, sN, lL⟩
    replace ko := ko.same sN
    replace hx := sN _ _ hx
    replace s0 := s0.trans sN
    replace lG := lG.same sN
    clear sN
    obtain ⟨vG, hG, pG⟩ := lG
    refine ⟨fun σ' H' => ∃ G, σ' = [some (.ref x), some (.ref G), some (.ref L), none] ∧ Same H4 H' ∧ ListAt H' G ((gA ++ gB) ++ [.tf ["c"]]), ?_, ?_⟩
    · refine ⟨_, rfl, ?_⟩
      refine ⟨(by show 2 ≤ sizeLine; decide), fun a na => ⟨(by show 2 ≤ sizeLine; decide), fun b1 nb1 => ⟨(by show 2 ≤ sizeLine; decide), fun b2 nb2 => ⟨(by show 2 ≤ sizeLine; decide), fun b3 nb3 => ⟨(by show 3 ≤ sizeLine; decide), fun te nte => ?_⟩⟩⟩⟩⟩
      have sa := Same_new (o := HO.tup [V.str "a", V.str "b"]) na
      have ha := new_at (HO.tup [V.str "a", V.str "b"]) na
      have sb1 := Same_new (o := HO.tup [V.str "a", V.str "b"]) nb1
      have hb1 := new_at (HO.tup [V.str "a", V.str "b"]) nb1
      have sb2 := Same_new (o := HO.tup [V.str "b", V.str "c"]) nb2
      have hb2 := new_at (HO.tup [V.str "b", V.str "c"]) nb2
      have sb3 := Same_new (o := HO.tup [V.str "d", V.str "a"]) nb3
      have hb3 := new_at (HO.tup [V.str "d", V.str "a"]) nb3
      have ste := Same_new (o := HO.tup [V.ref b1, V.ref b2, V.ref b3]) nte
      have hte := new_at (HO.tup [V.ref b1, V.ref b2, V.ref b3]) nte
      refine ⟨0, .non, .ref a, .ref te, "c", rfl, fun H5 p1 s5 hp1 => ?_, .inl ⟨rfl, a, te, ["a", "b"], [("a", "b"), ("b", "c"), ("d", "a")], rfl, rfl, .inr (SqT.of (ste _ _ (sb3 _ _ (sb2 _ _ (sb1 _ _ ha))))), by decide, by decide +kernel, by decide +kernel, tells_of (ps := [b1, b2, b3]) (.inr (SqT.of hte)) (.cons (.inr (SqT.of (ste _ _ (sb3 _ _ (sb2 _ _ hb1))))) (.cons (.inr (SqT.of (ste _ _ (sb3 _ _ hb2)))) (.cons (.inr (SqT.of (ste _ _ hb3))) .nil))), by decide, fun ns pm so => ?_⟩⟩
      rotate_left
      · have e := one_order (ns0 := ["a", "b"]) (by decide +kernel) (by decide +kernel) pm so
        subst e
        decide +kernel
      refine ⟨(by show 1 ≤ sizeLine; decide), fun N nN => ⟨_, _, _, _, rfl, rfl, Same_new nN _ _ (s5 _ _ (((((sa.trans sb1).trans sb2).trans sb3).trans ste) _ _ hG)), upd_same, (by rw [pG.length]; show 10 + 1 ≤ sizeLine; decide), fun p np => ?_⟩⟩
      have sN := Same_new (o := HO.lst [V.ref p1]) nN
      have sA := ((((sa.trans sb1).trans sb2).trans sb3).trans ste).trans (s5.trans sN)
      exact ⟨p, rfl, sA.trans (Same_new np), cat_at (items_same sA pG) (.cons ⟨p1, rfl, sN _ _ hp1, by decide⟩ .nil) np⟩
    rintro σ6 H5 ⟨G, rfl, sN, lG⟩
    replace ko := ko.same sN
    replace hx := sN _ _ hx
    replace s0 := s0.trans sN
    replace lL := lL.same sN
    clear sN
    obtain ⟨vG, hG, pG⟩ := lG
    refine ⟨fun σ' H' => ∃ G, σ' = [some (.ref x), some (.ref G), some (.ref L), none] ∧ Same H5 H' ∧ ListAt H' G (((gA ++ gB) ++ [.tf ["c"]]) ++ [.tf ["x"], .tf ["z"]]), ?_, ?_⟩
    · refine ⟨_, rfl, ?_⟩
      refine ⟨(by show 2 ≤ sizeLine; decide), fun a na => ⟨(by show 2 ≤ sizeLine; decide), fun b1 nb1 => ⟨(by show 1 ≤ sizeLine; decide), fun te nte => ?_⟩⟩⟩
      have sa := Same_new (o := HO.tup [V.str "a", V.str "b"]) na
      have ha := new_at (HO.tup [V.str "a", V.str "b"]) na
      have sb1 := Same_new (o := HO.tup [V.str "x", V.str "y"]) nb1
      have hb1 := new_at (HO.tup [V.str "x", V.str "y"]) nb1
      have ste := Same_new (o := HO.tup [V.ref b1]) nte
      have hte := new_at (HO.tup [V.ref b1]) nte
      refine ⟨0, .non, .ref a, .ref te, "x", rfl, fun H6 p1 s6 hp1 => ?_, .inl ⟨rfl, a, te, ["a", "b"], [("x", "y")], rfl, rfl, .inr (SqT.of (ste _ _ (sb1 _ _ ha))), by decide, by decide +kernel, by decide +kernel, tells_of (ps := [b1]) (.inr (SqT.of hte)) (.cons (.inr (SqT.of (ste _ _ hb1))) .nil), by decide, fun ns pm so => ?_⟩⟩
      rotate_left
      · have e := one_order (ns0 := ["a", "b"]) (by decide +kernel) (by decide +kernel) pm so
        subst e
        decide +kernel
      refine ⟨(by show 1 ≤ sizeLine; decide), fun e ne => ⟨(by show 2 ≤ sizeLine; decide), fun f1 nf1 => ⟨(by show 2 ≤ sizeLine; decide), fun f2 nf2 => ⟨(by show 2 ≤ sizeLine; decide), fun tf ntf => ?_⟩⟩⟩⟩
      have se := Same_new (o := HO.tup [V.str "a"]) ne
      have he := new_at (HO.tup [V.str "a"]) ne
      have sf1 := Same_new (o := HO.tup [V.str "a", V.str "a"]) nf1
      have hf1 := new_at (HO.tup [V.str "a", V.str "a"]) nf1
      have sf2 := Same_new (o := HO.tup [V.str "a", V.str "z"]) nf2
      have hf2 := new_at (HO.tup [V.str "a", V.str "z"]) nf2
      have stf := Same_new (o := HO.tup [V.ref f1, V.ref f2]) ntf
      have htf := new_at (HO.tup [V.ref f1, V.ref f2]) ntf
      refine ⟨0, .non, .ref e, .ref tf, "z", rfl, fun H7 p2 s7 hp2 => ?_, .inl ⟨rfl, e, tf, ["a"], [("a", "a"), ("a", "z")], rfl, rfl, .inr (SqT.of (stf _ _ (sf2 _ _ (sf1 _ _ he)))), by decide, by decide +kernel, by decide +kernel, tells_of (ps := [f1, f2]) (.inr (SqT.of htf)) (.cons (.inr (SqT.of (stf _ _ (sf2 _ _ hf1)))) (.cons (.inr (SqT.of (stf _ _ hf2))) .nil)), by decide, fun ns pm so => ?_⟩⟩
      rotate_left
      · have e := one_order (ns0 := ["a"]) (by decide +kernel) (by decide +kernel) pm so
        subst e
        decide +kernel
      have sB := (((sa.trans sb1).trans ste).trans s6).trans ((((se.trans sf1).trans sf2).trans stf).trans s7)
      refine ⟨(by show 2 ≤ sizeLine; decide), fun N nN => ⟨_, _, _, _, rfl, rfl, Same_new nN _ _ (sB _ _ hG), upd_same, (by rw [pG.length]; show 11 + 2 ≤ sizeLine; decide), fun p np => ?_⟩⟩
      have sN := Same_new (o := HO.lst [V.ref p1, V.ref p2]) nN
      have sA := sB.trans sN
      exact ⟨p, rfl, sA.trans (Same_new np), cat_at (items_same sA pG) (.cons ⟨p1, rfl, sN _ _ (s7 _ _ ((((se.trans sf1).trans sf2).trans stf) _ _ hp1)), by decide⟩ (.cons ⟨p2, rfl, sN _ _ hp2, by decide⟩ .nil)) np⟩
    rintro σ7 H6 ⟨G, rfl, sN, lG⟩
    replace ko := ko.same sN
    replace hx := sN _ _ hx
    replace s0 := s0.trans sN
    replace lL := lL.same sN
    clear sN
    obtain ⟨vG, hG, pG⟩ := lG
    refine ⟨fun σ' H' => ∃ G, σ' = [some (.ref x), some (.ref G), some (.ref L), none] ∧ Same H6 H' ∧ ListAt H' G ((((gA ++ gB) ++ [.tf ["c"]]) ++ [.tf ["x"], .tf ["z"]]) ++ [.tf ["x"], .tf ["y"], .tf ["y"]]), ?_, ?_⟩
    · refine ⟨_, rfl, ?_⟩
      refine ⟨_, rfl, 1, .ref x, .str "x", .str "y", "x", rfl, fun H7 p1 s7 hp1 => ?_, .inr (.inl ⟨rfl, x, "x", "y", ns3, _, rfl, rfl, rfl, ko, (by decide +kernel), (by decide +kernel)⟩)⟩
      refine ⟨_, rfl, 1, .ref x, .str "city", .str "y", "y", rfl, fun H8 p2 s8 hp2 => ?_, .inr (.inl ⟨rfl, x, "city", "y", ns3, _, rfl, rfl, rfl, ko.same s7, (by decide +kernel), (by decide +kernel)⟩)⟩
      refine ⟨_, rfl, 2, .ref x, .str "y", .str "", "y", rfl, fun H9 p3 s9 hp3 => ?_, .inr (.inr ⟨rfl, x, ns3, _, rfl, rfl, (ko.same s7).same s8, (by decide +kernel)⟩)⟩
      have sB := (s7.trans s8).trans s9
      refine ⟨(by show 3 ≤ sizeLine; decide), fun N nN => ⟨_, _, _, _, rfl, rfl, Same_new nN _ _ (sB _ _ hG), upd_same, (by rw [pG.length]; show 13 + 3 ≤ sizeLine; decide), fun p np => ?_⟩⟩
      have sN := Same_new (o := HO.lst [V.ref p1, V.ref p2, V.ref p3]) nN
      have sA := sB.trans sN
      exact ⟨p, rfl, sA.trans (Same_new np), cat_at (items_same sA pG) (.cons ⟨p1, rfl, sN _ _ (s9 _ _ (s8 _ _ hp1)), by decide⟩ (.cons ⟨p2, rfl, sN _ _ (s9 _ _ hp2), by decide⟩ (.cons ⟨p3, rfl, sN _ _ hp3, by decide⟩ .nil))) np⟩
    rintro σ8 H7 ⟨G, rfl, sN, lG⟩
    replace ko := ko.same sN
    replace hx := sN _ _ hx
    replace s0 := s0.trans sN
    replace lL := lL.same sN
    clear sN
    obtain ⟨vL, hL, pL⟩ := lL
    refine ⟨fun σ' H' => ∃ L, σ' = [some (.ref x), some (.ref G), some (.ref L), none] ∧ Same H7 H' ∧ ListAt H' L ((gA ++ gB) ++ gC), ?_, ?_⟩
    · refine ⟨_, rfl, ?_⟩
      refine ⟨(by show 1 ≤ sizeLine; decide), fun c1 nc1 => ⟨(by show 1 ≤ sizeLine; decide), fun c2 nc2 => ⟨(by show 1 ≤ sizeLine; decide), fun c3 nc3 => ⟨(by show 1 ≤ sizeLine; decide), fun c4 nc4 => ⟨(by show 1 ≤ sizeLine; decide), fun c5 nc5 => ⟨(by show 1 ≤ sizeLine; decide), fun c6 nc6 => ⟨(by show 6 ≤ sizeLine; decide), fun N nN => ?_⟩⟩⟩⟩⟩⟩⟩
      have sc1 := Same_new (o := HO.tup [V.str "c"]) nc1
      have hc1 := new_at (HO.tup [V.str "c"]) nc1
      have sc2 := Same_new (o := HO.tup [V.str "x"]) nc2
      have hc2 := new_at (HO.tup [V.str "x"]) nc2
      have sc3 := Same_new (o := HO.tup [V.str "z"]) nc3
      have hc3 := new_at (HO.tup [V.str "z"]) nc3
      have sc4 := Same_new (o := HO.tup [V.str "x"]) nc4
      have hc4 := new_at (HO.tup [V.str "x"]) nc4
      have sc5 := Same_new (o := HO.tup [V.str "y"]) nc5
      have hc5 := new_at (HO.tup [V.str "y"]) nc5
      have sc6 := Same_new (o := HO.tup [V.str "y"]) nc6
      have hc6 := new_at (HO.tup [V.str "y"]) nc6
      have sN := Same_new (o := HO.lst [V.ref c1, V.ref c2, V.ref c3, V.ref c4, V.ref c5, V.ref c6]) nN
      have hN := new_at (HO.lst [V.ref c1, V.ref c2, V.ref c3, V.ref c4, V.ref c5, V.ref c6]) nN
      have sA := ((((((sc1.trans sc2).trans sc3).trans sc4).trans sc5).trans sc6).trans sN)
      refine ⟨_, _, _, _, rfl, rfl, sA _ _ hL, upd_same, (by rw [pL.length]; show 10 + 6 ≤ sizeLine; decide), fun p np => ?_⟩
      exact ⟨p, rfl, sA.trans (Same_new np), cat_at (items_same sA pL) (.cons ⟨c1, rfl, (sN _ _ (sc6 _ _ (sc5 _ _ (sc4 _ _ (sc3 _ _ (sc2 _ _ hc1)))))), by decide⟩ (.cons ⟨c2, rfl, (sN _ _ (sc6 _ _ (sc5 _ _ (sc4 _ _ (sc3 _ _ hc2))))), by decide⟩ (.cons ⟨c3, rfl, (sN _ _ (sc6 _ _ (sc5 _ _ (sc4 _ _ hc3)))), by decide⟩ (.cons ⟨c4, rfl, (sN _ _ (sc6 _ _ (sc5 _ _ hc4))), by decide⟩ (.cons ⟨c5, rfl, (sN _ _ (sc6 _ _ hc5)), by decide⟩ (.cons ⟨c6, rfl, (sN _ _ hc6), by decide⟩ .nil)))))) np⟩
    rintro σ9 H8 ⟨L, rfl, sN, lL⟩
    replace ko := ko.same sN
    replace hx := sN _ _ hx
    replace s0 := s0.trans sN
    replace lG := lG.same sN
    clear sN
    refine ⟨fun σ' H' => ∃ bx, σ' = [some (.ref x), some (.ref G), some (.ref L), some (.ref bx)] ∧ Same H8 H' ∧ KeysO K H' bx [] (toldOf [] []), ?_, ?_⟩
    · refine ⟨(by show 0 ≤ sizeLine; decide), fun a na => fun bx dx2 nx ndx nex => ?_⟩
      have sa := Same_new (o := HO.tup []) na
      have sm := Same_mk (o1 := HO.own bx) (o2 := HO.ins (He.ga K "Keys") dx2 []) nx ndx
      refine ⟨bx, a, _, dx2, [], [], rfl, upd_same, .inr (SqT.of (sm _ _ (new_at (.tup []) na))), by decide, by decide +kernel, (fun z h => by cases h), Tells.nil (.inr (B.df_Keys_init _)), by decide, fun ns pm so nd => ?_⟩
      have e : ns = [] := List.perm_nil.mp pm
      subst e
      refine ⟨fun _ => ⟨(fun n h => by cases h), fun H' ko kx => ⟨rfl, bx, rfl, sa.trans (Same_made nx ndx kx), ko⟩⟩, fun z q => by cases q⟩
    rintro σ10 H9 ⟨bx, rfl, sN, kb⟩
    replace ko := ko.same sN
    replace hx := sN _ _ hx
    replace s0 := s0.trans sN
    replace lG := lG.same sN
    replace lL := lL.same sN
    clear sN
    obtain ⟨vG, hG, pG⟩ := lG
    refine ⟨fun σ' H' => ∃ G, σ' = [some (.ref x), some (.ref G), some (.ref L), some (.ref bx)] ∧ Same H9 H' ∧ ListAt H' G (((((gA ++ gB) ++ [.tf ["c"]]) ++ [.tf ["x"], .tf ["z"]]) ++ [.tf ["x"], .tf ["y"], .tf ["y"]]) ++ gD), ?_, ?_⟩
    · obtain ⟨dy, tn2, d2, A2, hy, _⟩ := id kb
      obtain ⟨ha, hn, htk, hmo⟩ := B.ty_Keys
      refine ⟨_, rfl, ?_⟩
      refine ⟨_, rfl, bx, dy, _, rfl, hy, bx, [], _, rfl, kb, fun p1 hp1 => ?_⟩
      refine ⟨_, rfl, bx, dy, _, rfl, hy, bx, [], _, rfl, kb, fun HA p2 qs2 sA hp2 pr2 => ?_⟩
      have kbA := kb.same sA
      have hyA := sA _ _ hy
      refine ⟨_, rfl, bx, dy, _, rfl, hyA, bx, [], _, rfl, kbA, _, rfl, (by show (0 : Int) ≤ 0; decide), (by show (0 : Int) < 2 ^ 63; decide), ?_⟩
      refine ⟨_, rfl, bx, dy, _, rfl, hyA, rfl, bx, "#", [], _, rfl, kbA, fun _ p3 hp3 => ?_, fun h => absurd (Or.inl rfl) h⟩
      refine ⟨_, rfl, Nat.zero_le _, fun l1 nl1 => ⟨Nat.zero_le _, fun l2 nl2 => fun y dz nx ndx nex => ?_⟩⟩
      have sl1 := Same_new (o := HO.lst []) nl1
      have sl2 := Same_new (o := HO.lst []) nl2
      have sm := Same_mk (o1 := HO.own y) (o2 := HO.ins (He.ga K "Keys") dz []) nx ndx
      refine ⟨y, l1, l2, dz, [], [], rfl, upd_same, .inl (SqL.of (sm _ _ (sl2 _ _ (new_at (.lst []) nl1)))), by decide, by decide +kernel, (fun z h => by cases h), Tells.nil (.inl (SqL.of (sm _ _ (new_at (.lst []) nl2)))), by decide, fun ns pm so nd => ?_⟩
      have e : ns = [] := List.perm_nil.mp pm
      subst e
      refine ⟨fun _ => ⟨(fun n h => by cases h), fun HB kn kx => ⟨rfl, ?_⟩⟩, fun z q => by cases q⟩
      have sB := (sl1.trans sl2).trans (Same_made nx ndx kx)
      obtain ⟨dw, tw, dw2, Aw, hw, _⟩ := id kn
      refine ⟨bx, dy, _, _, rfl, sB _ _ hyA, .base (.ins hw B.cl_Keys ha hn htk hmo), nf_self, bx, y, [], _, rfl, kbA.same sB, .inl ⟨[], _, kn, _, rfl, ?_⟩⟩
      refine ⟨_, rfl, Nat.zero_le _, fun t5 nt5 => ?_⟩
      have s5 := Same_new (o := HO.tup []) nt5
      refine ⟨bx, dy, _, _, rfl, s5 _ _ (sB _ _ hyA), .base (.tup upd_same), B.nfst_Keys_tuple, bx, t5, [], _, rfl, (kbA.same sB).same s5, .inr ⟨⟨_, upd_same⟩, _, rfl, ?_⟩⟩
      have hxE := s5 _ _ (sB _ _ (sA _ _ hx))
      have hyE := s5 _ _ (sB _ _ hyA)
      refine ⟨_, rfl, _, rfl, x, dx, _, _, rfl, hxE, .base (.ins hyE B.cl_Keys ha hn htk hmo), nf_self, x, bx, ns3, _, rfl, ((ko.same sA).same sB).same s5, .inl ⟨[], _, (kbA.same sB).same s5, _, rfl, ?_⟩⟩
      refine ⟨(by show 7 ≤ sizeLine; decide), fun N nN => ?_⟩
      have sC := (sA.trans sB).trans s5
      have sN := Same_new (o := HO.lst [V.ref p1, V.ref p2, V.int 0, V.ref p3, V.bl (decide (([] : List Str).length = ([] : List Str).length ∧ ∀ n ∈ ([] : List Str), n ∈ ([] : List Str) ∧ toldOf [] [] n = toldOf [] [] n)), V.bl false, V.bl (decide (ns3.length = ([] : List Str).length ∧ ∀ n ∈ ns3, n ∈ ([] : List Str) ∧ toldOf R3 ns3 n = toldOf [] [] n))]) nN
      refine ⟨_, _, _, _, rfl, rfl, sN _ _ (sC _ _ hG), upd_same, (by rw [pG.length]; show 16 + 7 ≤ sizeLine; decide), fun p np => ?_⟩
      have pe : pairsOf [] (toldOf [] []) = ([] : List (Str × Str)) := rfl
      have sD := sC.trans sN
      refine ⟨p, rfl, sD.trans (Same_new np), cat_at (items_same sD pG) (.cons ⟨p1, rfl, sD _ _ hp1, by decide⟩ (.cons ⟨p2, qs2, rfl, sN _ _ (s5 _ _ (sB _ _ hp2)), pr2.same ((sB.trans s5).trans sN), by decide⟩ (.cons ⟨rfl, trivial⟩ (.cons ⟨p3, rfl, sN _ _ (s5 _ _ (sB _ _ hp3)), by decide⟩ (.cons ⟨congrArg V.bl ?_, trivial⟩ (.cons ⟨rfl, trivial⟩ (.cons ⟨congrArg V.bl ?_, trivial⟩ .nil))))))) np⟩
      · exact decide_eq_true ⟨rfl, fun n h => by cases h⟩
      · exact decide_eq_false fun h => absurd h.1 (by decide)
    rintro σ11 HA ⟨G, rfl, sM, lG⟩
    replace lL := lL.same sM
    obtain ⟨vL, hL, pL⟩ := lL
    refine ⟨_, rfl, _, rfl, ?_⟩
    refine ⟨(by show 0 ≤ sizeLine; decide), fun c1 nc1 => ⟨(by show 0 ≤ sizeLine; decide), fun c2 nc2 => ⟨(by show 0 ≤ sizeLine; decide), fun c3 nc3 => ⟨(by show 7 ≤ sizeLine; decide), fun N nN => ?_⟩⟩⟩⟩
    have sc1 := Same_new (o := HO.tup []) nc1
    have hc1 := new_at (HO.tup []) nc1
    have sc2 := Same_new (o := HO.tup []) nc2
    have hc2 := new_at (HO.tup []) nc2
    have sc3 := Same_new (o := HO.tup []) nc3
    have hc3 := new_at (HO.tup []) nc3
    have sN := Same_new (o := HO.lst [V.ref c1, V.ref c2, V.int 0, V.ref c3, V.bl true, V.bl false, V.bl false]) nN
    have hN := new_at (HO.lst [V.ref c1, V.ref c2, V.int 0, V.ref c3, V.bl true, V.bl false, V.bl false]) nN
    have sA := (((sc1.trans sc2).trans sc3).trans sN)
    refine ⟨_, _, _, _, rfl, rfl, sA _ _ hL, upd_same, (by rw [pL.length]; show 16 + 7 ≤ sizeLine; decide), fun p np => ?_⟩
    have sp := Same_new (o := HO.lst (vL ++ [V.ref c1, V.ref c2, V.int 0, V.ref c3, V.bl true, V.bl false, V.bl false])) np
    have lP := cat_at (js := gD) (items_same sA pL) (.cons ⟨c1, rfl, (sN _ _ (sc3 _ _ (sc2 _ _ hc1))), by decide⟩ (.cons ⟨c2, [], rfl, (sN _ _ (sc3 _ _ hc2)), PrAt.nil, by decide⟩ (.cons ⟨rfl, trivial⟩ (.cons ⟨c3, rfl, (sN _ _ hc3), by decide⟩ (.cons ⟨rfl, trivial⟩ (.cons ⟨rfl, trivial⟩ (.cons ⟨rfl, trivial⟩ .nil))))))) np
    refine ⟨_, _, rfl, sm_lists (is := ((gA ++ gB) ++ gC) ++ gD) ((lG.same sA).same sp) lP (by decide), fun HF sF => ?_⟩
    exact k _ (((s0.trans sM).trans sA).trans (sp.trans sF))
end
end Jd
namespace Jd
open PySem PySem.Spec PyProof.Rows L2
/-! ### what right asks of Keys -/
theorem via_perm {R R' : List (Str × Str)} (h : ∀ p, p ∈ R' ↔ p ∈ R) {M : List Str} {a b : Str} (v : Via R' M a b) : Via R M a b := by
  induction v with
  | one q => exact .one ((h _).mp q)
  | two _ m _ ih1 ih2 => exact .two ih1 m ih2
theorem told_perm {R R' : List (Str × Str)} (h : R'.Perm R) (ns : List Str) : toldOf R' ns = toldOf R ns := by
  funext n
  unfold toldOf
  refine List.filter_congr fun b _ => decide_eq_decide.mpr ?_
  rw [close_in, close_in]
  exact ⟨via_perm fun p => h.mem_iff, via_perm fun p => h.mem_iff.symm⟩
theorem txAdd_nd {xs : List Str} {x : Str} (h : xs.Nodup) : (txAdd xs x).Nodup := by
  unfold txAdd
  split
  · exact h
  · rename_i q
    exact List.nodup_cons.mpr ⟨q, h⟩
theorem txAll_nd0 : ∀ (xs acc : List Str), acc.Nodup → (xs.foldl txAdd acc).Nodup
  | [], _, h => h
  | x :: r, acc, h => txAll_nd0 r _ (txAdd_nd h)
theorem perm_of_nd {l m : List Str} (hl : l.Nodup) (hm : m.Nodup) (h : ∀ z, z ∈ l ↔ z ∈ m) : l.Perm m := by
  rw [List.perm_iff_count]
  intro a
  rw [hl.count, hm.count]
  by_cases q : a ∈ l
  · rw [if_pos q, if_pos ((h a).mp q)]
  · rw [if_neg q, if_neg fun z => q ((h a).mpr z)]
theorem names_one {names ns : List Str} (nd : ns.Nodup) (so : sortedS ns = true) (h : ∀ z, z ∈ names ↔ z ∈ ns) : ∀ ns' : List Str, ns'.Perm (txAll names) → sortedS ns' = true → ns' = ns := fun ns' pm so' => by
  refine sorted_one (pm.trans (perm_of_nd (txAll_nd0 names [] List.nodup_nil) nd fun z => ?_)) so' so
  rw [← h z]
  have q := txAll_in names [] z
  exact ⟨fun e => (q.mp e).resolve_right List.not_mem_nil, fun e => q.mpr (.inl e)⟩
theorem names_len {names ns : List Str} (nd : ns.Nodup) (h : ∀ z, z ∈ names ↔ z ∈ ns) : (txAll names).length = ns.length := by
  refine (perm_of_nd (txAll_nd0 names [] List.nodup_nil) nd fun z => ?_).length_eq
  rw [← h z]
  have q := txAll_in names [] z
  exact ⟨fun e => (q.mp e).resolve_right List.not_mem_nil, fun e => q.mpr (.inl e)⟩
theorem pr_to {H : Hp} : ∀ {qs : List Addr} {prs : List (Str × Str)}, PrAt H qs prs → Paired (fun q (pr : Str × Str) => H q = some (.tup [.str pr.1, .str pr.2])) qs prs
  | [], [], _ => .nil
  | [], _ :: _, h => by
    have := h.1
    cases this
  | _ :: _, [], h => by
    have := h.1
    cases this
  | q :: qs, pr :: prs, h => by
    refine .cons ?_ (pr_to ⟨by have := h.1; simpa using this, fun i p hp => h.2 (i + 1) p hp⟩)
    obtain ⟨pr', e, z⟩ := h.2 0 q rfl
    cases e
    exact z
theorem paired_perm {α β : Type} {F : α → β → Prop} {zs qs : List α} (pm : zs.Perm qs) : ∀ {R : List β}, Paired F qs R → ∃ R' : List β, R'.Perm R ∧ Paired F zs R' := by
  induction pm with
  | nil => intro R h; cases h; exact ⟨[], .nil, .nil⟩
  | cons x _ ih =>
    intro R h
    cases h with
    | cons a b =>
      obtain ⟨R', p, q⟩ := ih b
      exact ⟨_ :: R', p.cons _, .cons a q⟩
  | swap x y l =>
    intro R h
    cases h with
    | cons a b =>
      cases b with
      | cons c d => exact ⟨_, List.Perm.swap _ _ _, .cons c (.cons a d)⟩
  | trans _ _ ih1 ih2 =>
    intro R h
    obtain ⟨R1, p1, q1⟩ := ih2 h
    obtain ⟨R2, p2, q2⟩ := ih1 q1
    exact ⟨R2, p2.trans p1, q2⟩
theorem KeysO.congr {K : PySem.W.Frag} {H : Hp} {x : Addr} {ns : List Str} {t t' : Str → List Str} (h : KeysO K H x ns t) (e : t = t') : KeysO K H x ns t' := e ▸ h
theorem pool_ok : ∀ z ∈ pool7, PyData.strOk z = true := by decide +kernel
theorem noq : ("q" : Str) ∉ pool7 := by decide +kernel
theorem noh : ("#" : Str) ∉ pool7 := by decide +kernel
theorem nob : ("b" : Str) ∉ pool7 := by decide +kernel
theorem told_nil (ns : List Str) (n : Str) : toldOf [] ns n = [] := by
  unfold toldOf
  rw [List.filter_eq_nil_iff]
  intro b _ h
  have v := close_in.mp (of_decide_eq_true h)
  have key : ∀ {a b : Str}, Via ([] : List (Str × Str)) ns a b → False := by
    intro a b v
    induction v with
    | one q => cases q
    | two _ _ _ ih1 _ => exact ih1
  exact key v
theorem noring_of {R : List (Str × Str)} {ns M : List Str} (h : ∃ rk : Str → Nat, (∀ p ∈ R, rk p.1 < rk p.2) ∧ ∀ p ∈ R, rk p.2 ≤ M.length) : ∀ n ∈ ns, n ∉ toldOf R ns n := fun n _ q => by
  obtain ⟨rk, h1, _⟩ := h
  exact no_ring h1 n (told_in.mp q).2
theorem mk_keysG {K : PySem.W.Frag} {H : Hp} {nm te x dx : Addr} {names : List Str} {R : List (Str × Str)} (nx : H x = none) (ndx : H dx = none) (hnm : Sq K H nm (names.map V.str)) (hl : names.length < 64) (h7 : (txAll names).length ≤ 7) (g : ∀ z ∈ names, PyData.strOk z = true) (hte : Tells K H te R) (h64 : R.length ≤ 64) {Q : VK} {E : XK}
    (k : ∀ ns : List Str, ns.Perm (txAll names) → sortedS ns = true → ns.Nodup → firstOut ns R = none ∧ (∀ n ∈ ns, n ∉ toldOf R ns n) ∧ ∀ H', Same H H' → KeysO K H' x ns (toldOf R ns) → Q .non H') :
    spKI K [.ref x, .ref nm, .ref te] (upd (upd H dx (.own x)) x (.ins (He.ga K "Keys") dx [])) Q E := by
  have sm := Same_mk (o1 := HO.own x) (o2 := HO.ins (He.ga K "Keys") dx []) nx ndx
  refine ⟨x, nm, te, dx, names, R, rfl, upd_same, hnm.same sm, hl, h7, g, hte.same sm, h64, fun ns pm so nd => ?_⟩
  obtain ⟨k1, k2, k3⟩ := k ns pm so nd
  refine ⟨fun _ => ⟨k2, fun H' ko kx => k3 H' (Same_made nx ndx kx) ko⟩, fun z q => ?_⟩
  rw [k1] at q
  cases q
theorem mk_keys {K : PySem.W.Frag} {H : Hp} {nm te x dx : Addr} {names ns : List Str} {R : List (Str × Str)} (nx : H x = none) (ndx : H dx = none) (hnm : Sq K H nm (names.map V.str)) (hl : names.length < 64) (l7 : ns.length ≤ 7) (nd : ns.Nodup) (so : sortedS ns = true) (hz : ∀ z, z ∈ names ↔ z ∈ ns) (g : ∀ z ∈ ns, PyData.strOk z = true) (hte : Tells K H te R) (h64 : R.length ≤ 64)
    (hin : ∀ p ∈ R, p.1 ∈ ns ∧ p.2 ∈ ns) (hr : ∀ n ∈ ns, n ∉ toldOf R ns n) {Q : VK} {E : XK} (k : ∀ H', Same H H' → KeysO K H' x ns (toldOf R ns) → Q .non H') :
    spKI K [.ref x, .ref nm, .ref te] (upd (upd H dx (.own x)) x (.ins (He.ga K "Keys") dx [])) Q E := by
  refine mk_keysG nx ndx hnm hl (by rw [names_len nd hz]; exact l7) (fun z hm => g z ((hz z).mp hm)) hte h64 fun ns' pm so' _ => ?_
  have e := names_one nd so hz ns' pm so'
  subst e
  exact ⟨out_none hin, hr, k⟩
theorem atI_zero {x : V} {xs : List V} : atI (x :: xs) 0 = some x := by
  have e : ixN (x :: xs).length 0 = some 0 := by
    unfold ixN
    rw [if_pos (Int.le_refl 0), if_pos (by rw [List.length_cons]; omega)]
    rfl
  unfold atI
  rw [e]
  rfl
def five : List Str := ["a", "city", "q", "#", "b"]
def dPairs (prs : List (Str × Str)) : List PyData := prs.map fun pr => .tuple [.str pr.1, .str pr.2]
theorem dp_pairs {K : PySem.W.Frag} {H : Hp} : ∀ {qs : List Addr} {prs : List (Str × Str)}, PrAt H qs prs → DpAll K H (qs.map V.ref) (dPairs prs) := by
  intro qs prs h
  have p := pr_to h
  clear h
  induction p with
  | nil => exact .nil
  | cons a _ ih => exact .cons (.tup (SqT.of a) (.cons (.str _) (.cons (.str _) .nil))) ih
theorem lay_pairs : ∀ {prs : List (Str × Str)}, (∀ p ∈ prs, PyData.strOk p.1 = true ∧ PyData.strOk p.2 = true) → PyData.canLayAll0 (dPairs prs) = true
  | [], _ => by simp [dPairs, PyData.canLayAll0]
  | p :: r, h => by
    have q := lay_pairs (prs := r) fun p hp => h p (List.mem_cons_of_mem _ hp)
    have q2 := h p List.mem_cons_self
    unfold dPairs at q ⊢
    rw [List.map_cons]
    simp [PyData.canLayAll0, PyData.canLay0, q, q2]
theorem dep_pairs : ∀ prs : List (Str × Str), PyData.depthAll (dPairs prs) ≤ 1
  | [] => by simp [dPairs, PyData.depthAll]
  | p :: r => by
    have q := dep_pairs r
    unfold dPairs at q ⊢
    rw [List.map_cons]
    simp only [PyData.depthAll, PyData.depth]
    exact Nat.max_le.mpr ⟨by decide, q⟩
theorem shp_pairs {prs : List (Str × Str)} (h : ∀ p ∈ prs, PyData.strOk p.1 = true ∧ PyData.strOk p.2 = true) : SeqAt.shaped (.list (dPairs prs)) = true := by
  unfold SeqAt.shaped
  rw [Bool.and_eq_true]
  refine ⟨by simpa [PyData.canLay0] using lay_pairs h, decide_eq_true ?_⟩
  simp only [PyData.depth]
  have := dep_pairs prs
  omega
theorem eqv_pairs (prs : List (Str × Str)) : PyData.eqv (.list (dPairs prs)) (.list []) = decide (prs = []) := by
  cases prs with
  | nil => simp [dPairs, PyData.eqv, PyData.eqvAll]
  | cons p r => simp [dPairs, PyData.eqv, PyData.eqvAll]
theorem plain_eq {ns : List Str} {t : Str → List Str} : decide (ns.length = ns.length ∧ ∀ n ∈ ns, n ∈ ns ∧ toldOf [] ns n = t n) = decide (pairsOf ns t = []) := by
  refine decide_eq_decide.mpr ⟨fun h => ?_, fun h => ⟨rfl, fun n hn => ⟨hn, ?_⟩⟩⟩
  · unfold pairsOf
    rw [List.flatMap_eq_nil_iff]
    intro n hn
    rw [← (h.2 n hn).2, told_nil]
    rfl
  · unfold pairsOf at h
    rw [List.flatMap_eq_nil_iff] at h
    have q := List.map_eq_nil_iff.mp (h n hn)
    rw [q, told_nil]
theorem pairs_mem {ns : List Str} {t : Str → List Str} {p : Str × Str} (h : p ∈ pairsOf ns t) : p.1 ∈ ns ∧ p.2 ∈ t p.1 := by
  unfold pairsOf at h
  obtain ⟨n, hn, h⟩ := List.mem_flatMap.mp h
  obtain ⟨o, ho, rfl⟩ := List.mem_map.mp h
  exact ⟨hn, ho⟩
theorem bools_at {H : Hp} {f : Str → Bool} : ∀ l : List Str, ItemsAt H (l.map fun z => V.bl (f z)) (l.map fun z => Item.fl (.bl (f z)))
  | [] => .nil
  | z :: l => .cons ⟨rfl, trivial⟩ (bools_at l)
theorem fm_map {l : List Str} {f : Str → V} : (List.range l.length).filterMap (fun i => (l[i]?).map f) = l.map f := fm_some fun i x hx => by rw [hx]; rfl
end Jd
namespace Jd
open PySem PySem.Spec PyProof.Rows L2
/-! ### right -/
def g2 {α : Type} : List α → List α → List α
  | [a], [b] => [a, b]
  | _, _ => []
def g3 {α : Type} : List α → List α → List α
  | [a], [b, c] => [a, b, c]
  | _, _ => []
theorem kb_told {K : PySem.W.Frag} {fd : FuncData} (F : Fun K "told" "Keys.told" s_Keys_told (He.ma K (He.ga K "Keys") "told") fd) : KBinds K fd ["self", "name"] ["name"] g2 g2 := by
  obtain ⟨oc, od, kV, doc, pm, an, cdv, ct, osl, rfl, lk, hcd⟩ := F.ex
  refine ⟨fun s us ws X hl => ?_, fun r1 r2 => ?_⟩
  · match us, ws, hl with
    | [u], [v], _ => exact .of_eq rfl
  · cases r1 with
    | nil => exact .nil
    | cons a1 b1 =>
      cases b1 with
      | nil =>
        cases r2 with
        | nil => exact .nil
        | cons a2 b2 =>
          cases b2 with
          | nil => exact .cons a1 (.cons a2 .nil)
          | cons _ _ => exact .nil
      | cons _ _ => cases r2 <;> exact .nil
theorem kb_tells {K : PySem.W.Frag} {fd : FuncData} (F : Fun K "tells" "Keys.tells" s_Keys_tells (He.ma K (He.ga K "Keys") "tells") fd) : KBinds K fd ["self", "one", "other"] ["one", "other"] g3 g3 := by
  obtain ⟨oc, od, kV, doc, pm, an, cdv, ct, osl, rfl, lk, hcd⟩ := F.ex
  refine ⟨fun s us ws X hl => ?_, fun r1 r2 => ?_⟩
  · match us, ws, hl with
    | [u], [v, w], _ => exact .of_eq rfl
  · cases r1 with
    | nil => exact .nil
    | cons a1 b1 =>
      cases b1 with
      | nil =>
        cases r2 with
        | nil => exact .nil
        | cons a2 b2 =>
          cases b2 with
          | nil => exact .nil
          | cons a3 b3 =>
            cases b3 with
            | nil => exact .cons a1 (.cons a2 (.cons a3 .nil))
            | cons _ _ => exact .nil
      | cons _ _ => cases r2 <;> exact .nil
structure RtC (K : PySem.W.Frag) (H : Hp) (bt f g d x : Addr) (qs : List Addr) (ns : List Str) (R : List (Str × Str)) (A : Str → Addr) : Prop where
  ht : H bt = some (.tup [.ref f, .ref g])
  hf : H f = some (.tup (ns.map V.str))
  hg : H g = some (.tup (qs.map V.ref))
  pr : PrAt H qs R
  ta : TabA H d (ns ++ [("#" : Str)]) A (toldAt ns (toldOf R ns))
  ko : KeysO K H x ns (toldOf R ns)
theorem RtC.same {K : PySem.W.Frag} {H H' : Hp} {bt f g d x : Addr} {qs : List Addr} {ns : List Str} {R : List (Str × Str)} {A : Str → Addr} (c : RtC K H bt f g d x qs ns R A) (s : Same H H') : RtC K H' bt f g d x qs ns R A :=
  ⟨s _ _ c.ht, s _ _ c.hf, s _ _ c.hg, c.pr.same s, c.ta.same s, c.ko.same s⟩
theorem urn_no {H : Hp} {u a : Addr} {n : Nat} {l : List Str} (h : Urn H u n) (q : H a = some (.lst (l.map V.str))) : a ≠ u := fun e => by
  obtain ⟨i, j, k, h, _⟩ := h
  rw [e, h] at q
  have q := Option.some.inj q
  injection q with q
  cases l with
  | nil => cases q
  | cons z l => cases q
theorem TabA.keepU {H H' : Hp} {u d : Addr} {n : Nat} {ns : List Str} {A : Str → Addr} {T : Str → List Str} (t : TabA H d ns A T) (h : Urn H u n) (k : Keep u H H') : TabA H' d ns A T := by
  obtain ⟨i, j, q, h', _⟩ := id h
  exact ⟨k _ _ (ne_of t.at_ h' (by intro z; cases z)) t.at_, fun m hm => k _ _ (urn_no h (t.lst m hm)) (t.lst m hm)⟩
theorem PrAt.keepU {H H' : Hp} {u : Addr} {xs : List V} {qs : List Addr} {prs : List (Str × Str)} (p : PrAt H qs prs) (h : H u = some (.lst xs)) (k : Keep u H H') : PrAt H' qs prs :=
  ⟨p.1, fun i q hq => let ⟨pr, e1, e2⟩ := p.2 i q hq; ⟨pr, e1, k _ _ (ne_of e2 h (by intro z; cases z)) e2⟩⟩
theorem bt_tuple : bootBuiltins "tuple" = some (.type "tuple") := by decide +kernel
def spRt : Sp := fun vs H Q _ => ∃ (u : Addr) (n : Nat), vs = [.ref u] ∧ Urn H u n ∧ n < 10000 ∧ ∀ H', Keep u H H' → Q (.bl true) H'
section
variable {P : Program} {w : World} {K : PySem.W.Frag} {mg : Str → Option Value} {base : Heap}
abbrev NR : List Str := ["_law_urn", "_law_turn", "_law_book_here", "_law_flats", "_law_told_so", "_law_pool", "_law_goal", "_law_keyring", "_law_own", "_law_got", "_law_soft", "_law_far_so", "_law_kin", "_law_plain_so", "_law_wide", "_law_far"]
theorem sc_rt : FnScope NR ["_law_urn"] (defScope s__law_right) := ⟨rfl, rfl, rfl, by decide +kernel, rfl, by decide +kernel, by decide +kernel⟩
theorem ok_right (B : Bk K mg) : Df P w K mg base CX0 8 "_law_right" ["_law_urn"] spRt := by
  obtain ⟨fd, F⟩ := B.F_law_right
  obtain ⟨fdI, GI, ⟨dsF, vDf, bDf⟩, FI⟩ := ok_Keys_init (P := P) (w := w) (base := base) B
  have bI := kb_two FI
  obtain ⟨itsI, kI⟩ := kb_kw FI
  obtain ⟨fdL, GL, bL⟩ := ok_lenK (P := P) (w := w) (base := base) B
  obtain ⟨fdH, GH, bH⟩ := ok_has (P := P) (w := w) (base := base) B
  obtain ⟨fdN, GN, bN⟩ := ok_names (P := P) (w := w) (base := base) B
  obtain ⟨fdP, GP, bP⟩ := ok_pairs (P := P) (w := w) (base := base) B
  obtain ⟨fdE, GE, bE⟩ := ok_eqK (P := P) (w := w) (base := base) B
  obtain ⟨fdT, GT, FT⟩ := ok_told (P := P) (w := w) (base := base) B
  have bT : Binds K fdT ["self", "name"] [] := FT.binds fun _ _ _ _ _ _ us hl => match us, hl with | [_, _], _ => rfl
  have kT := kb_told FT
  obtain ⟨fdS, GS, FS⟩ := ok_tells (P := P) (w := w) (base := base) B
  have kS := kb_tells FS
  obtain ⟨fdQ, GQ, bQ⟩ := (ok_law_same (P := P) (w := w) (base := base) B 3).ex
  have kQ := (ok_law_same (P := P) (w := w) (base := base) B 3).kp
  obtain ⟨fdW, GW, bW⟩ := (ok_by_hand (P := P) (w := w) (base := base) B).ex
  have kW := (ok_by_hand (P := P) (w := w) (base := base) B).kp
  obtain ⟨fdB, GB, bB⟩ := (ok_book (P := P) (w := w) (base := base) B).ex
  have kB := (ok_book (P := P) (w := w) (base := base) B).kp
  obtain ⟨fdO, GO, bO⟩ := (ok_toldL (P := P) (w := w) (base := base) B).ex
  have kO := (ok_toldL (P := P) (w := w) (base := base) B).kp
  obtain ⟨fdM, GM, bM⟩ := (ok_law_mixed (P := P) (w := w) (base := base) B).ex
  have kM := (ok_law_mixed (P := P) (w := w) (base := base) B).kp
  obtain ⟨fdF, GF, bF⟩ := (ok_few (P := P) (w := w) (base := base) B).ex
  have kF := (ok_few (P := P) (w := w) (base := base) B).kp
  obtain ⟨fdLs, FLs⟩ := B.F_law_lists
  have bLs : Binds K fdLs ["_law_matter"] [] := FLs.binds fun _ _ _ _ _ _ us hl => match us, hl with | [_], _ => rfl
  have GL1 := ok_ls1 (P := P) (w := w) (base := base) B FLs bLs
  have GL2 := ok_ls2 (P := P) (w := w) (base := base) B FLs bLs
  refine ⟨⟨fd, ?_, F.binds fun _ _ _ _ _ _ us hl => match us, hl with | [_], _ => rfl⟩, B.g_law_right, F.kp⟩
  refine F.ok sc_rt (fun vs H Q E h => ?_) (fun cdv A outer s H vs Q E hr h => ?_)
  · obtain ⟨_, _, rfl, _⟩ := h
    rfl
  · obtain ⟨u, n, rfl, hu0, hn, k⟩ := h
    have hu := hu_of hr
    have hr1 : Room 1 _ := hr.mono (by decide)
    have hr2 : Room 2 _ := hr.mono (by decide)
    have hr3 : Room 3 _ := hr.mono (by decide)
    have hr4 : Room 4 _ := hr.mono (by decide)
    have hr5 : Room 5 _ := hr.mono (by decide)
    refine ⟨_, 
pss_cons (ps_if (pt_not (pt_val (pe_call0 GW hr rfl B.g_law_by_hand_right kW bW .nil pass0))) (pss_one (ps_ret pe_bl)) pss_nil)
      (pss_cons (ps_for PassesOwn.never rfl (pi_range1 rfl B.b_range (pa_cons pe_int pa_nil)) (pg_name (i := 1) sc_rt.nd rfl (Or.inl rfl)) (pss_cons (ps_cut (ps_set (i := 2) sc_rt.nd rfl (Or.inl rfl) (pe_call GB hr3 rfl B.g_law_book kB bB .nil pass0 (pa_cons (pv 0) (pa_cons pe_int pa_nil)))))
          (pss_cons (ps_cut (ps_asg (pe_tup (pa_cons (pe_ix ix_tup (pv 2) pe_int (fun _ _ => rfl)) (pa_cons (pe_call GO hr1 rfl B.g_law_told kO bO .nil pass0 (pa_cons (pv 2) pa_nil)) pa_nil))) (pg_tup rfl (pgs_cons (pg_name (i := 3) sc_rt.nd rfl (Or.inl rfl)) (pgs_cons (pg_name (i := 4) sc_rt.nd rfl (Or.inr rfl)) pgs_nil)))))
          (pss_cons (ps_cut (ps_par (i := 5) (j := 6) (by rfl) sc_rt.nd rfl rfl (by decide) rfl rfl (pa_cons (pe_call GM hr2 rfl B.g_law_mixed kM bM .nil pass0 (pa_cons (pv 0) (pa_cons (pe_op op_cat (pe_callTy call_list_of (by rfl) B.b_list (by decide +kernel) (pa_cons (pv 3) pa_nil)) (pe_callTy call_list_of (by rfl) B.b_list (by decide +kernel) (pa_cons (pe_call GF hr2 rfl B.g_law_few kF bF .nil pass0 (pa_cons (pv 0) (pa_cons (pv 3) (pa_cons pe_int pa_nil)))) pa_nil))) pa_nil))) (pa_cons (pe_lst pa_nil) pa_nil)) (by rfl)))
          (pss_cons (ps_cut (ps_set (i := 7) sc_rt.nd rfl (Or.inr rfl) (pe_make (E := fun _ _ _ => False) B.mk_Keys GI hr4 (by rfl) B.g_Keys bI .nil passF (pa_cons (pv 5) (pa_cons (pe_call GM hr2 rfl B.g_law_mixed kM bM .nil pass0 (pa_cons (pv 0) (pa_cons (pe_ix ix_tup (pv 2) pe_int (fun _ _ => rfl)) pa_nil))) pa_nil)))))
          (pss_cons (ps_cut (ps_for PassesOwn.never rfl (pi_tup (pv 3)) (pg_name (i := 8) sc_rt.nd rfl (Or.inr rfl)) (pss_one (ps_set (i := 6) sc_rt.nd rfl (Or.inl rfl) (pe_op op_cat (pv 6) (pe_lc (own := [("_law_far", 15)]) (g := gName 15) (tt := tYes) rfl sc_rt.nd (pi_list (pe_dget hu (pv 4) (pv 8) (fun _ _ => rfl))) (blkOk_by (N := NR) (sc := defScope s__law_right) (by decide +kernel)) (fun _ _ _ _ _ => pg_name (i := 15) sc_rt.nd rfl (Or.inl rfl)) (fun _ _ _ _ _ => pts_nil) (fun _ _ _ _ _ => (pe_tup (pa_cons (pv 8) (pa_cons (pv 15) pa_nil))))))))))
          (pss_cons (ps_cut (ps_set (i := 9) sc_rt.nd rfl (Or.inl rfl) (pe_lst (pa_cons (pe_prop (pv 7) B.cl_Keys B.pr_Keys_names GN hr2 bN .nil pass0 rfl) (pa_cons (pe_prop (pv 7) B.cl_Keys B.pr_Keys_pairs GP hr2 bP .nil pass0 rfl) (pa_cons (pe_callB (call_lenOwn (E := E0) GL hr2 B.sp_Keys_len.1 B.sp_Keys_len.2 bL pass0) (by rfl) B.b_len (by decide +kernel) (pa_cons (pv 7) pa_nil)) (pa_cons (pe_lc (own := [("_law_own", 8)]) (g := gName 8) (tt := tYes) rfl sc_rt.nd (pi_tup (pv 3)) (blkOk_by (N := NR) (sc := defScope s__law_right) (by decide +kernel)) (fun _ _ _ _ _ => pg_name (i := 8) sc_rt.nd rfl (Or.inl rfl)) (fun _ _ _ _ _ => pts_nil) (fun _ _ _ _ _ => (pe_methK0 (E := fun _ _ _ => False) (pv 7) B.cl_Keys B.me_Keys_told GT hr4 kT passF (pk_cons (pv 8) pk_nil)))) (pa_cons (pe_meth (E := fun _ _ _ => False) (pv 7) B.cl_Keys B.me_Keys_told GT hr4 bT .nil passF (pa_cons pe_str pa_nil)) pa_nil))))))))
          (pss_cons (ps_cut (ps_if (pt_not (pt_val (pe_call GQ hr5 rfl B.g_law_same kQ bQ .nil pass0 (pa_cons (pv 9) (pa_cons (pe_lst (pa_cons (pv 3) (pa_cons (pe_callTy call_tuple_of (by rfl) B.b_tuple bt_tuple (pa_cons (pv 6) pa_nil)) (pa_cons (pe_callB call_len_seq (by rfl) B.b_len (by decide +kernel) (pa_cons (pv 3) pa_nil)) (pa_cons (pe_lc (own := [("_law_own", 8)]) (g := gName 8) (tt := tYes) (te := tCB (rTupOf K) (tCons (tDGet (tVar 4) (tVar 8)) tNil)) rfl sc_rt.nd (pi_tup (pv 3)) (blkOk_by (N := NR) (sc := defScope s__law_right) (by decide +kernel)) (fun _ _ _ _ _ => pg_name (i := 8) sc_rt.nd rfl (Or.inl rfl)) (fun _ _ _ _ _ => pts_nil) (fun _ _ _ _ _ => (pe_callTy call_tuple_of (by rfl) B.b_tuple bt_tuple (pa_cons (pe_dget hu (pv 4) (pv 8) (fun _ _ => rfl)) pa_nil)))) (pa_cons (pv 3) pa_nil)))))) pa_nil))))) (pss_one (ps_ret pe_bl)) pss_nil))
          (pss_cons (ps_cut (ps_for PassesOwn.never rfl (pi_list (pe_op op_cat (pe_callTy call_list_of (by rfl) B.b_list (by decide +kernel) (pa_cons (pv 3) pa_nil)) (pe_lst (pa_cons pe_str pa_nil)))) (pg_name (i := 8) sc_rt.nd rfl (Or.inr rfl)) (pss_cons (ps_cut (ps_setLc (i := 9) (own := [("_law_far", 15)]) (g := gName 15) (tt := tYes) rfl sc_rt.nd rfl rfl (sw_true rfl rfl rfl (by decide +kernel)) (pi_list (pe_op op_cat (pe_callTy call_list_of (by rfl) B.b_list (by decide +kernel) (pa_cons (pv 3) pa_nil)) (pe_lst (pa_cons pe_str pa_nil)))) (blkOk_by (N := NR) (sc := defScope s__law_right) (by decide +kernel)) (fun _ _ _ _ _ => pg_name (i := 15) sc_rt.nd rfl (Or.inl rfl)) (fun _ _ _ _ _ => pts_nil) (fun _ _ _ _ _ => (pe_methK0 (E := fun _ _ _ => False) (pv 7) B.cl_Keys B.me_Keys_tells GS hr5 kS passF (pk_cons (pv 8) (pk_cons (pv 15) pk_nil)))))) (pss_one (ps_if (pt_not (pt_val (pe_call GQ hr5 rfl B.g_law_same kQ bQ .nil pass0 (pa_cons (pv 9) (pa_cons (pe_op op_cat (pe_lc (own := [("_law_far", 15)]) (g := gName 15) (tt := tYes) (te := tOp (rIn K false) (tVar 15) (tDGet (tVar 4) (tVar 8))) rfl sc_rt.nd (pi_tup (pv 3)) (blkOk_by (N := NR) (sc := defScope s__law_right) (by decide +kernel)) (fun _ _ _ _ _ => pg_name (i := 15) sc_rt.nd rfl (Or.inl rfl)) (fun _ _ _ _ _ => pts_nil) (fun _ _ _ _ _ => (pe_cmpR op_in_seq (pv 15) (pe_dget hu (pv 4) (pv 8) (fun _ _ => rfl)) (by rfl)))) (pe_lst (pa_cons pe_bl pa_nil))) pa_nil))))) (pss_one (ps_ret pe_bl)) pss_nil)))))
          (pss_cons (ps_cut (ps_par (i := 10) (j := 11) (by rfl) sc_rt.nd rfl rfl (by decide) rfl rfl (pa_cons (pe_call GL1 hr3 rfl B.g_law_lists FLs.kp bLs .nil pass0 (pa_cons (pv 3) pa_nil)) (pa_cons (pe_call GL2 hr4 rfl B.g_law_lists FLs.kp bLs .nil pass0 (pa_cons (pe_ix ix_tup (pv 2) pe_int (fun _ _ => rfl)) pa_nil)) pa_nil)) (by rfl)))
          (pss_cons (ps_cut (ps_set (i := 12) sc_rt.nd rfl (Or.inl rfl) (pe_makeK0 (E := fun _ _ _ => False) B.mk_Keys GI hr4 (by rfl) B.g_Keys kI passF (pk_cons (pv 10) (pk_cons (pv 11) pk_nil)))))
          (pss_cons (ps_cut (ps_expr (pe_bm PySem.F.plainAttrs_list PySem.F.slot_list_append PySem.F.type_list_append mt_append (pv 10) (pa_cons pe_str pa_nil))))
          (pss_cons (ps_cut (ps_expr (pe_bm PySem.F.plainAttrs_list PySem.F.slot_list_append PySem.F.type_list_append mt_append (pv 11) (pa_cons (pe_lst (pa_cons (pe_ix ix_tup (pv 3) pe_int (fun _ _ => rfl)) (pa_cons pe_str pa_nil))) pa_nil))))
          (pss_cons (ps_cut (ps_set (i := 13) sc_rt.nd rfl (Or.inl rfl) (pe_make (E := fun _ _ _ => False) B.mk_Keys GI hr4 (by rfl) B.g_Keys bDf vDf passF (pa_cons (pv 3) pa_nil))))
          (pss_cons (ps_cut (ps_set (i := 14) sc_rt.nd rfl (Or.inl rfl) (pe_cut (pe_ifExp (pt_cmpR op_eq (pe_callB call_len_seq (by rfl) B.b_len (by decide +kernel) (pa_cons (pv 3) pa_nil)) pe_int (nomark _)) (pe_make (E := fun _ _ _ => False) B.mk_Keys GI hr4 (by rfl) B.g_Keys bDf vDf passF (pa_cons (pe_op op_catT (pe_slice sl_tup (pv 3) (po_some pe_int) po_none) (pe_tup (pa_cons pe_str pa_nil))) pa_nil)) (pe_make (E := fun _ _ _ => False) B.mk_Keys GI hr4 (by rfl) B.g_Keys bI .nil passF (pa_cons (pe_op op_catT (pv 3) (pe_tup (pa_cons pe_str pa_nil))) (pa_cons (pe_ix ix_tup (pv 2) pe_int (fun _ _ => rfl)) pa_nil)))))))
          (pss_cons (ps_cut (ps_set (i := 9) sc_rt.nd rfl (Or.inl rfl) (pe_lst (pa_cons (pe_cmpR (op_eqOwn (E := E0) GE hr1 B.sp_Keys_eq.1 B.sp_Keys_eq.2 bE pass0) (pv 12) (pv 7) (nomark _)) (pa_cons (pe_cmpR (op_neOwn (E := E0) GE hr2 (Nat.lt_of_le_of_lt (Nat.add_le_add_left (show 1 ≤ 64 by decide) _) hr.units) B.sp_Keys_eq.1 B.sp_Keys_eq.2 B.ne_Keys B.ty_Keys.2.2.2 bE pass0) (pv 12) (pv 7) (nomark _)) (pa_cons (pe_cmpR (op_eqOwn (E := E0) GE hr1 B.sp_Keys_eq.1 B.sp_Keys_eq.2 bE pass0) (pv 13) (pv 7) (nomark _)) (pa_cons (pe_cmpR (op_eqOwn (E := E0) GE hr1 B.sp_Keys_eq.1 B.sp_Keys_eq.2 bE pass0) (pv 14) (pv 7) (nomark _)) pa_nil)))))))
          (pss_cons (ps_cut (ps_if (PW.pt (pw_or (pt_not (pt_val (pe_call GQ hr5 rfl B.g_law_same kQ bQ .nil pass0 (pa_cons (pv 9) (pa_cons (pe_lst (pa_cons pe_bl (pa_cons pe_bl (pa_cons (pe_cmpR (op_eqD hr.units) (pv 6) (pe_lst pa_nil) (nomark _)) (pa_cons pe_bl pa_nil))))) pa_nil))))) (pw_or1 (pt_cmpR (op_eqOwn (E := E0) GE hr1 B.sp_Keys_eq.1 B.sp_Keys_eq.2 bE pass0) (pv 7) (pv 3) (nomark _))))) (pss_one (ps_ret pe_bl)) pss_nil))
          (pss_cons (ps_cut (ps_setLc (i := 9) (own := [("_law_own", 8)]) (g := gName 8) (tt := tYes) rfl sc_rt.nd rfl rfl (sw_true rfl rfl rfl (by decide +kernel)) (pi_tup (pe_tup (pa_cons pe_str (pa_cons pe_str (pa_cons pe_str (pa_cons pe_str (pa_cons pe_str pa_nil))))))) (blkOk_by (N := NR) (sc := defScope s__law_right) (by decide +kernel)) (fun _ _ _ _ _ => pg_name (i := 8) sc_rt.nd rfl (Or.inl rfl)) (fun _ _ _ _ _ => pts_nil) (fun _ _ _ _ _ => (pe_cmpR (op_inOwn (E := E0) GH hr1 B.sp_Keys_contains.1 B.sp_Keys_contains.2 bH pass0) (pv 8) (pv 7) (by rfl)))))
          (pss_one (ps_if (pt_not (pt_val (pe_call GQ hr5 rfl B.g_law_same kQ bQ .nil pass0 (pa_cons (pv 9) (pa_cons (pe_op op_cat (pe_lst (pa_cons (pe_cmpR op_in_seq pe_str (pv 3) (by rfl)) (pa_cons (pe_cmpR op_in_seq pe_str (pv 3) (by rfl)) pa_nil))) (pe_op op_rep (pe_lst (pa_cons pe_bl pa_nil)) pe_int)) pa_nil))))) (pss_one (ps_ret pe_bl)) pss_nil))))))))))))))))))))
      (pss_one (ps_ret pe_bl))), ?_⟩
    refine ⟨rfl, fun H1 s1 => ⟨_, rfl, iteF ?_⟩⟩
    refine ⟨_, rfl, by decide, by decide, ?_⟩
    refine for_it (n := 10) walk_range (fun i σ H' => ∃ v1 v2 v3 v4 v5 v6 v7 v8 v9 v10 v11 v12 v13 v14 v15 : Option V, σ = [some (.ref u), v1, v2, v3, v4, v5, v6, v7, v8, v9, v10, v11, v12, v13, v14, v15] ∧ Urn H' u (n + 100 * i) ∧ Keep u H H')
      ⟨_, _, _, _, _, _, _, _, _, _, _, _, _, _, _, rfl, hu0.same s1, Same.keep s1⟩ (fun _ _ _ _ _ => trivial) (fun i xx σ H2 H3 hi ⟨v1, v2, v3, v4, v5, v6, v7, v8, v9, v10, v11, v12, v13, v14, v15, e, huT, kT⟩ y => ?_) (fun σ H2 ⟨v1, v2, v3, v4, v5, v6, v7, v8, v9, v10, v11, v12, v13, v14, v15, e, huT, kT⟩ => ?_)
    rotate_left
    · subst e
      exact k _ kT
    obtain ⟨rfl, rfl⟩ := y
    subst e
    have hi10 : i < 10 := hi
    refine ⟨fun σ' H' => ∃ (ns : List Str) (R : List (Str × Str)) (bt f g : Addr) (qs : List Addr), σ' = [some (.ref u), some (.int (0 + (i : Int))), some (.ref bt), v3, v4, v5, v6, v7, v8, v9, v10, v11, v12, v13, v14, v15] ∧ Keep u H3 H' ∧ Urn H' u (n + 100 * i + 40) ∧ Book ns R ∧ H' bt = some (.tup [.ref f, .ref g]) ∧ H' f = some (.tup (ns.map V.str)) ∧ H' g = some (.tup (qs.map V.ref)) ∧ PrAt H' qs R, ?_, ?_⟩
    · refine ⟨_, rfl, u, 5, n + 100 * i, rfl, huT, by omega, by decide, by decide, fun ns R t f g qs H' bk hu' kp nt nf ng nq ht hf hg pr => ?_⟩
      exact ⟨ns, R, t, f, g, qs, rfl, kp, hu', bk, ht, hf, hg, pr⟩
    rintro σ1 Ha ⟨ns, R, bt, f, g, qs, rfl, ka, hua, bk, ht, hf, hg, pr⟩
    obtain ⟨ua, ub, uc, hua', _⟩ := id hua
    refine ⟨fun σ' H' => ∃ (d : Addr) (A : Str → Addr), σ' = [some (.ref u), some (.int (0 + (i : Int))), some (.ref bt), some (.ref f), some (.ref d), v5, v6, v7, v8, v9, v10, v11, v12, v13, v14, v15] ∧ Same Ha H' ∧ TabA H' d (ns ++ [("#" : Str)]) A (toldAt ns (toldOf R ns)), ?_, ?_⟩
    · refine ⟨_, rfl, bt, _, _, _, rfl, rfl, SqT.of ht, rfl, ?_⟩
      refine ⟨_, rfl, bt, f, g, ns, qs, R, rfl, ht, hf, hg, pr, bk, fun H' d A s' ta => ?_⟩
      refine ⟨(by show 2 ≤ sizeLine; decide), fun tp ntp => ⟨_, _, rfl, SqT.of upd_same, rfl, _, _, rfl, _, _, rfl, rfl, ?_⟩⟩
      exact ⟨d, A, rfl, s'.trans (Same_new ntp), ta.same (Same_new ntp)⟩
    rintro σ2 Hb ⟨d, A4, rfl, sb, ta⟩
    replace ht := sb _ _ ht
    replace hf := sb _ _ hf
    replace hg := sb _ _ hg
    replace pr := pr.same sb
    replace hua := hua.same sb
    replace hua' := sb _ _ hua'
    replace ka := ka.trans (Same.keep sb)
    clear sb
    have l5 := bk.l5
    refine ⟨fun σ' H' => ∃ (pl G : Addr) (zs : List Str), σ' = [some (.ref u), some (.int (0 + (i : Int))), some (.ref bt), some (.ref f), some (.ref d), some (.ref pl), some (.ref G), v7, v8, v9, v10, v11, v12, v13, v14, v15] ∧ Keep u Hb H' ∧ Urn H' u (n + 100 * i + 60) ∧ H' pl = some (.tup (zs.map V.str)) ∧ (∀ z, z ∈ zs ↔ z ∈ ns) ∧ zs.length ≤ 10 ∧ H' G = some (.lst []) ∧ G ≠ u, ?_, ?_⟩
    · refine ⟨_, rfl, _, rfl, f, _, rfl, .inr (SqT.of hf), fun l1 nl1 => ?_⟩
      have sl1 := Same_new (o := HO.lst (ns.map V.str)) nl1
      have hl1 := new_at (.lst (ns.map V.str)) nl1
      have nl1u : l1 ≠ u := fun z => by rw [z, hua'] at nl1; cases nl1
      refine ⟨_, rfl, _, rfl, u, f, ns.map V.str, n + 100 * i + 40, 2, rfl, hua.same sl1, by rw [List.length_map]; omega, SqT.of (sl1 _ _ hf), by rw [List.length_map]; omega, by decide, by decide, fun fs p H4 sub hu4 k4 np hp => ?_⟩
      obtain ⟨fz, rfl, subz⟩ : ∃ fz : List Str, fs = fz.map V.str ∧ fz.Sublist ns := by
        obtain ⟨fz, h1, h2⟩ := List.sublist_map_iff.mp sub
        exact ⟨fz, h2, h1⟩
      have lfz := subz.length_le
      have hl14 : H4 l1 = some (.lst (ns.map V.str)) := k4 _ _ nl1u hl1
      refine ⟨p, _, rfl, .inr (SqT.of hp), fun l2 nl2 => ?_⟩
      have sl2 := Same_new (o := HO.lst (fz.map V.str)) nl2
      have hl2 := new_at (.lst (fz.map V.str)) nl2
      refine ⟨_, _, _, _, rfl, rfl, sl2 _ _ hl14, hl2, ?_, fun c nc => ?_⟩
      · rw [List.length_map, List.length_map]
        have : (1000 : Nat) ≤ sizeLine := by decide
        omega
      have sc := Same_new (o := HO.lst (ns.map V.str ++ fz.map V.str)) nc
      have hc : (upd (upd H4 l2 (.lst (fz.map V.str))) c (.lst (ns.map V.str ++ fz.map V.str))) c = some (.lst ((ns ++ fz).map V.str)) := by rw [upd_same, List.map_append]
      have lnf : (ns ++ fz).length ≤ 10 := by rw [List.length_append]; omega
      refine ⟨u, c, (ns ++ fz).map V.str, n + 100 * i + 45, rfl, ((hu4.same sl2).same sc).le (by rw [List.length_map]; omega), by rw [List.length_map]; omega, .inl (SqL.of hc), by rw [List.length_map]; omega, fun ws pl H5 pm hu5 k5 npl hpl => ?_⟩
      obtain ⟨zs, rfl, pz⟩ := nodup_perm_map pm
      refine ⟨Nat.zero_le _, fun G nG => ⟨_, _, rfl, ?_⟩⟩
      obtain ⟨u1, u2, u3, hu5', _⟩ := id hu5
      have sG := Same_new (o := HO.lst []) nG
      refine ⟨pl, G, zs, rfl, ?_, (hu5.same sG).le (by rw [List.length_map]; omega), sG _ _ hpl, fun z => ?_, by rw [pz.length_eq]; exact lnf, upd_same, fun z => by rw [z, hu5'] at nG; cases nG⟩
      · exact ((((Same.keep sl1).trans k4).trans (Same.keep sl2)).trans (Same.keep sc)).trans (k5.trans (Same.keep sG))
      · rw [pz.mem_iff, List.mem_append]
        exact ⟨fun q => q.elim id fun q => subz.subset q, .inl⟩
    rintro σ3 Hc ⟨pl, G, zs, rfl, kc, huc, hpl, hzs, lzs, hG, nGu⟩
    replace ta := ta.keepU hua kc
    replace ht := kc _ _ (ne_of ht hua' (by intro z; cases z)) ht
    replace hf := kc _ _ (ne_of hf hua' (by intro z; cases z)) hf
    replace hg := kc _ _ (ne_of hg hua' (by intro z; cases z)) hg
    replace pr := pr.keepU hua' kc
    replace ka := ka.trans kc
    clear kc hua
    obtain ⟨uc1, uc2, uc3, huc', _⟩ := id huc
    refine ⟨fun σ' H' => ∃ (x : Addr), σ' = [some (.ref u), some (.int (0 + (i : Int))), some (.ref bt), some (.ref f), some (.ref d), some (.ref pl), some (.ref G), some (.ref x), v8, v9, v10, v11, v12, v13, v14, v15] ∧ Keep u Hc H' ∧ Urn H' u (n + 100 * i + 100) ∧ KeysO K H' x ns (toldOf R ns), ?_, ?_⟩
    · refine ⟨_, rfl, _, rfl, _, rfl, bt, _, _, _, rfl, rfl, SqT.of ht, rfl, ?_⟩
      have lq : qs.length ≤ 30 := by rw [pr.1]; exact bk.rl
      refine ⟨u, g, qs.map V.ref, n + 100 * i + 60, rfl, huc, by rw [List.length_map]; omega, .inr (SqT.of hg), by rw [List.length_map]; omega, fun ws te H5 pm hu5 k5 nte hte => fun x dx nx ndx nex => ?_⟩
      obtain ⟨qz, rfl, pz⟩ := nodup_perm_map pm
      obtain ⟨R', pR, prz⟩ := paired_perm pz (pr_to (pr.keepU huc' k5))
      have et := told_perm pR ns
      have hpl5 := k5 _ _ (ne_of hpl huc' (by intro z; cases z)) hpl
      refine mk_keys (names := zs) (ns := ns) (R := R') nx ndx (.inr (SqT.of hpl5)) (by omega) (by omega) bk.nd bk.so hzs (fun z hz => pool_ok z (bk.pool z hz)) (tells_of (.inr (SqT.of hte)) (pr_imp (fun _ _ h => .inr (SqT.of h)) prz)) (by rw [pR.length_eq]; have := bk.rl; omega)
        (fun p hp => ⟨bk.r1 p (pR.mem_iff.mp hp), bk.r2 p (pR.mem_iff.mp hp)⟩) (by rw [et]; exact noring_of bk.rk) fun H' s' ko => ?_
      exact ⟨rfl, x, rfl, k5.trans (Same.keep s'), (hu5.same s').le (by rw [List.length_map]; omega), ko.congr et⟩
    rintro σ4 Hd ⟨x, rfl, kd, hud, ko⟩
    have C : RtC K Hd bt f g d x qs ns R A4 := ⟨kd _ _ (ne_of ht huc' (by intro z; cases z)) ht, kd _ _ (ne_of hf huc' (by intro z; cases z)) hf, kd _ _ (ne_of hg huc' (by intro z; cases z)) hg, pr.keepU huc' kd, ta.keepU huc kd, ko⟩
    replace hG := kd _ _ nGu hG
    replace ka := ka.trans kd
    clear kd ht hf hg pr ta ko huc hpl huc' hua'
    have n0 : ("#" : Str) ∉ ns := fun h => noh (bk.pool _ h)
    have tn : ∀ n ∈ ns, toldAt ns (toldOf R ns) n = toldOf R ns n := fun n hn => by
      unfold toldAt
      rw [if_neg fun z : n = "#" => n0 (z ▸ hn)]
    have t7 : ∀ n, (toldOf R ns n).length ≤ 5 := fun n => Nat.le_trans (told_len R ns n) l5
    have lp : (pairsOf ns (toldOf R ns)).length ≤ 35 := by
      have q := pairs_len (ns := ns) (t := toldOf R ns) fun n _ => Nat.le_trans (t7 n) (by decide)
      omega
    refine ⟨fun σ' H' => ∃ (G : Addr) (gs : List Addr) (w8 : Option V), σ' = [some (.ref u), some (.int (0 + (i : Int))), some (.ref bt), some (.ref f), some (.ref d), some (.ref pl), some (.ref G), some (.ref x), w8, v9, v10, v11, v12, v13, v14, v15] ∧ Same Hd H' ∧ H' G = some (.lst (gs.map V.ref)) ∧ PrAt H' gs (pairsOf ns (toldOf R ns)), ?_, ?_⟩
    · refine ⟨_, rfl, f, rfl, ⟨_, SqT.of C.hf⟩, ?_⟩
      refine for_it (walk_tup (xs := ns.map V.str)) (fun j σ H' => ∃ (G : Addr) (gs : List Addr) (w8 : Option V), σ = [some (.ref u), some (.int (0 + (i : Int))), some (.ref bt), some (.ref f), some (.ref d), some (.ref pl), some (.ref G), some (.ref x), w8, v9, v10, v11, v12, v13, v14, v15] ∧ Same Hd H' ∧ H' G = some (.lst (gs.map V.ref)) ∧ PrAt H' gs (pairsOf (ns.take j) (toldOf R ns)))
        ⟨G, [], _, rfl, Same.refl _, hG, PrAt.nil⟩ (fun j σ H' _ ⟨_, _, _, _, s', _⟩ => sm_seqT s' (SqT.of C.hf)) (fun j yy σ H4 H5 hj ⟨G, gs, w8, e, s4, hG4, pr4⟩ y => ?_) (fun σ H4 ⟨G, gs, w8, e, s4, hG4, pr4⟩ => ?_)
      · obtain ⟨rfl, hx⟩ := y
        subst e
        obtain ⟨m, hm, rfl⟩ := at_str hx
        have hmi : m ∈ ns := List.mem_of_getElem? hm
        have C4 := C.same s4
        have hAm := C4.ta.lst m (List.mem_append.mpr (.inl hmi))
        rw [tn m hmi] at hAm
        refine ⟨_, rfl, _, rfl, _, rfl, d, _, rfl, C4.ta.get (List.mem_append.mpr (.inl hmi)), _, rfl, ⟨_, SqL.of hAm⟩, fun D hD => ?_⟩
        refine lc_it (walk_list (xs := (toldOf R ns m).map V.str)) (fun q H' => Same H5 H' ∧ ∃ rs : List Addr, H' D = some (.lst (rs.map V.ref)) ∧ PrAt H' rs (((toldOf R ns m).take q).map fun o => (m, o)))
          ⟨Same_new hD, [], upd_same, PrAt.nil⟩ (fun q H' _ ⟨s', _⟩ => sm_seqL s' (SqL.of hAm)) (fun q zz H6 H7 hq ⟨s6, rs, hD6, pr6⟩ y => ?_) (fun H6 ⟨s6, rs, hD6, pr6⟩ => ?_)
        · obtain ⟨rfl, hv⟩ := y
          obtain ⟨o, ho, rfl⟩ := at_str hv
          have hq' : q < (toldOf R ns m).length := (List.getElem?_eq_some_iff.mp ho).1
          refine ⟨rfl, iteT (B := ∃ z : Nat, z = 0) ?_⟩
          refine ⟨_, rfl, _, rfl, (by show 2 ≤ sizeLine; decide), fun p np => ?_⟩
          have sp := Same_new (o := HO.tup [.str m, .str o]) np
          have hDp := sp _ _ hD6
          have npD : p ≠ D := fun z => by rw [z, hD6] at np; cases np
          refine ⟨_, hDp, ?_, fun b o' q' => ?_, rs ++ [p], ?_, ?_⟩
          · rw [List.length_map, pr6.1, List.length_map, List.length_take]
            have := t7 m
            have : (1000 : Nat) ≤ sizeLine := by decide
            omega
          · rw [upd_ne (ne_of_none q' hD)]
            exact sp _ _ (s6 _ _ q')
          · rw [upd_same, List.map_append]
            rfl
          · rw [List.take_add_one, ho, List.map_append]
            refine PrAt.snoc (pr := (m, o)) ⟨pr6.1, fun i' p' hp' => ?_⟩ (by rw [upd_ne npD, upd_same])
            obtain ⟨pr', e1, e2⟩ := pr6.2 i' p' hp'
            have e3 := sp _ _ e2
            exact ⟨pr', e1, by rw [upd_ne (ne_of e3 hDp (by intro z; cases z))]; exact e3⟩
        · rw [List.length_map, List.take_length] at pr6
          refine ⟨_, _, _, _, rfl, rfl, s6 _ _ hG4, hD6, ?_, fun p np => ?_⟩
          · rw [List.length_map, List.length_map, pr4.1, pr6.1, List.length_map]
            have q1 := t7 m
            have q2 := pairs_len (ns := ns.take j) (t := toldOf R ns) fun n _ => Nat.le_trans (t7 n) (by decide)
            rw [List.length_take] at q2
            have : (1000 : Nat) ≤ sizeLine := by decide
            omega
          · have sp := Same_new (o := HO.lst (gs.map V.ref ++ rs.map V.ref)) np
            refine ⟨p, gs ++ rs, _, rfl, (s4.trans s6).trans sp, by rw [upd_same, List.map_append], ?_⟩
            rw [take_next hm, pairs_snoc]
            exact pr_of (pr_app (pr_to ((pr4.same s6).same sp)) (pr_to (pr6.same sp)))
      · subst e
        rw [List.length_map, List.take_length] at pr4
        exact ⟨G, gs, _, rfl, s4, hG4, pr4⟩
    rintro σ5 He ⟨G, gs, w8, rfl, se, hG, prG⟩
    replace C := C.same se
    have sAll := se
    clear se
    refine ⟨fun σ' H' => ∃ (got : Addr), σ' = [some (.ref u), some (.int (0 + (i : Int))), some (.ref bt), some (.ref f), some (.ref d), some (.ref pl), some (.ref G), some (.ref x), w8, some (.ref got), v10, v11, v12, v13, v14, v15] ∧ Same He H' ∧ ListAt H' got [.tf ns, .tt (pairsOf ns (toldOf R ns)), .fl (.int ns.length), .lt (ns.map (toldOf R ns)), .tf ns], ?_, ?_⟩
    · obtain ⟨dx, tnm, dd, AA, hx, _⟩ := id C.ko
      refine ⟨_, rfl, x, dx, _, rfl, hx, x, ns, _, rfl, C.ko, fun p1 hp1 => ?_⟩
      refine ⟨_, rfl, x, dx, _, rfl, hx, x, ns, _, rfl, C.ko, fun H4 p2 qs2 s4 hp2 pr2 => ?_⟩
      have C4 := C.same s4
      have hx4 := s4 _ _ hx
      refine ⟨_, rfl, x, dx, _, rfl, hx4, x, ns, _, rfl, C4.ko, _, rfl, Int.ofNat_nonneg _, by omega, ?_⟩
      refine ⟨_, rfl, f, rfl, ⟨_, SqT.of C4.hf⟩, fun D hD => ?_⟩
      refine lc_it (walk_tup (xs := ns.map V.str)) (fun q H' => Same H4 H' ∧ ∃ rs : List Addr, H' D = some (.lst (rs.map V.ref)) ∧ rs.length = q ∧ ∀ (i' : Nat) (r : Addr), rs[i']? = some r → ∃ m, ns[i']? = some m ∧ H' r = some (.tup ((toldOf R ns m).map V.str)))
        ⟨Same_new hD, [], upd_same, rfl, fun i' r h => by cases h⟩ (fun q H' _ ⟨s', _⟩ => sm_seqT s' (SqT.of C4.hf)) (fun q zz H5 H6 hq ⟨s5, rs, hD5, lr5, pr5⟩ y => ?_) (fun H5 ⟨s5, rs, hD5, lr5, pr5⟩ => ?_)
      · obtain ⟨rfl, hv⟩ := y
        obtain ⟨m, hm, rfl⟩ := at_str hv
        have hmi : m ∈ ns := List.mem_of_getElem? hm
        have hq' : q < ns.length := (List.getElem?_eq_some_iff.mp hm).1
        refine ⟨rfl, iteT (B := ∃ z : Nat, z = 0) ?_⟩
        refine ⟨_, rfl, x, dx, _, rfl, s5 _ _ hx4, rfl, _, rfl, x, m, ns, _, rfl, C4.ko.same s5, fun _ r hr => ?_, fun h => absurd (Or.inr hmi) h⟩
        rw [tn m hmi] at hr
        refine ⟨_, hD5, by rw [List.length_map, lr5]; exact Nat.lt_of_lt_of_le hq' (Nat.le_trans l5 (by decide)), fun b o q' => ?_, rs ++ [r], by rw [upd_same, List.map_append]; rfl, by rw [List.length_append, lr5]; rfl, fun i' r' h' => ?_⟩
        · rw [upd_ne (ne_of_none q' hD)]
          exact s5 _ _ q'
        · rcases at_last h' with h' | ⟨rfl, rfl⟩
          · obtain ⟨m', e1, e2⟩ := pr5 i' r' h'
            exact ⟨m', e1, by rw [upd_ne (ne_of e2 hD5 (by intro z; cases z))]; exact e2⟩
          · exact ⟨m, by rw [lr5]; exact hm, by rw [upd_ne (ne_of hr hD5 (by intro z; cases z))]; exact hr⟩
      · have hx5 := s5 _ _ hx4
        refine ⟨_, rfl, x, dx, _, rfl, hx5, rfl, x, "#", ns, _, rfl, C4.ko.same s5, fun _ p3 hp3 => ?_, fun h => absurd (Or.inl rfl) h⟩
        rw [show toldAt ns (toldOf R ns) "#" = ns from if_pos rfl] at hp3
        refine ⟨(by show 5 ≤ sizeLine; decide), fun got ng => ?_⟩
        have sg := Same_new (o := HO.lst [V.ref p1, V.ref p2, V.int ((ns.length : Nat) : Int), V.ref D, V.ref p3]) ng
        rw [List.length_map] at lr5
        exact ⟨got, rfl, (s4.trans s5).trans sg, _, upd_same, .cons ⟨p1, rfl, sg _ _ (s5 _ _ (s4 _ _ hp1)), by omega⟩ (.cons ⟨p2, qs2, rfl, sg _ _ (s5 _ _ hp2), pr2.same (s5.trans sg), by omega⟩ (.cons ⟨rfl, trivial⟩ (.cons ⟨D, rs, rfl, sg _ _ hD5, by rw [List.length_map]; exact lr5, by rw [List.length_map]; omega, fun i' r h' => (let ⟨m, e1, e2⟩ := pr5 i' r h'; ⟨toldOf R ns m, by rw [List.getElem?_map, e1]; rfl, sg _ _ e2, by have := t7 m; omega⟩)⟩ (.cons ⟨p3, rfl, sg _ _ hp3, by omega⟩ .nil))))⟩
    rintro σ6 Hf ⟨got, rfl, sN, lGot⟩
    replace C := C.same sN
    replace sAll := sAll.trans sN
    replace hG := sN _ _ hG
    replace prG := prG.same sN
    clear sN
    refine ⟨fun σ' H' => σ' = [some (.ref u), some (.int (0 + (i : Int))), some (.ref bt), some (.ref f), some (.ref d), some (.ref pl), some (.ref G), some (.ref x), w8, some (.ref got), v10, v11, v12, v13, v14, v15] ∧ Same Hf H', ?_, ?_⟩
    · refine ⟨_, rfl, _, rfl, _, rfl, G, _, rfl, .inl ⟨SqL.of hG, fun tg ntg => ?_⟩⟩
      have stg := Same_new (o := HO.tup (gs.map V.ref)) ntg
      have htg := new_at (.tup (gs.map V.ref)) ntg
      have C4 := C.same stg
      refine ⟨_, rfl, f, _, rfl, .inr (SqT.of C4.hf), ?_⟩
      refine ⟨_, rfl, f, rfl, ⟨_, SqT.of C4.hf⟩, fun D hD => ?_⟩
      refine lc_it (walk_tup (xs := ns.map V.str)) (fun q H' => Same (upd Hf tg (.tup (gs.map V.ref))) H' ∧ ∃ rs : List Addr, H' D = some (.lst (rs.map V.ref)) ∧ rs.length = q ∧ ∀ (i' : Nat) (r : Addr), rs[i']? = some r → ∃ m, ns[i']? = some m ∧ H' r = some (.tup ((toldOf R ns m).map V.str)))
        ⟨Same_new hD, [], upd_same, rfl, fun i' r h => by cases h⟩ (fun q H' _ ⟨s', _⟩ => sm_seqT s' (SqT.of C4.hf)) (fun q zz H5 H6 hq ⟨s5, rs, hD5, lr5, pr5⟩ y => ?_) (fun H5 ⟨s5, rs, hD5, lr5, pr5⟩ => ?_)
      · obtain ⟨rfl, hv⟩ := y
        obtain ⟨m, hm, rfl⟩ := at_str hv
        have hmi : m ∈ ns := List.mem_of_getElem? hm
        have hq' : q < ns.length := (List.getElem?_eq_some_iff.mp hm).1
        have C5 := C4.same s5
        have hAm := C5.ta.lst m (List.mem_append.mpr (.inl hmi))
        rw [tn m hmi] at hAm
        refine ⟨rfl, iteT (B := ∃ z : Nat, z = 0) ?_⟩
        refine ⟨_, rfl, _, rfl, d, _, rfl, C5.ta.get (List.mem_append.mpr (.inl hmi)), _, _, rfl, .inl ⟨SqL.of hAm, fun r nr => ?_⟩⟩
        have sr := Same_new (o := HO.tup ((toldOf R ns m).map V.str)) nr
        have hDr := sr _ _ hD5
        have nrD : r ≠ D := fun z => by rw [z, hD5] at nr; cases nr
        refine ⟨_, hDr, by rw [List.length_map, lr5]; exact Nat.lt_of_lt_of_le hq' (Nat.le_trans l5 (by decide)), fun b o q' => ?_, rs ++ [r], by rw [upd_same, List.map_append]; rfl, by rw [List.length_append, lr5]; rfl, fun i' r' h' => ?_⟩
        · rw [upd_ne (ne_of_none q' hD)]
          exact sr _ _ (s5 _ _ q')
        · rcases at_last h' with h' | ⟨rfl, rfl⟩
          · obtain ⟨m', e1, e2⟩ := pr5 i' r' h'
            have e3 := sr _ _ e2
            exact ⟨m', e1, by rw [upd_ne (ne_of e3 hDr (by intro z; cases z))]; exact e3⟩
          · exact ⟨m, by rw [lr5]; exact hm, by rw [upd_ne nrD, upd_same]⟩
      · rw [List.length_map] at lr5
        have C5 := C4.same s5
        refine ⟨_, rfl, (by show 5 ≤ sizeLine; decide), fun lst nl => ?_⟩
        have sl := Same_new (o := HO.lst [V.ref f, V.ref tg, V.int (((ns.map V.str).length : Nat) : Int), V.ref D, V.ref f]) nl
        have sF : Same Hf _ := (stg.trans s5).trans sl
        have lG2 : ListAt _ lst [.tf ns, .tt (pairsOf ns (toldOf R ns)), .fl (.int ns.length), .lt (ns.map (toldOf R ns)), .tf ns] := ⟨_, new_at (.lst [V.ref f, V.ref tg, V.int (((ns.map V.str).length : Nat) : Int), V.ref D, V.ref f]) nl, .cons ⟨f, rfl, sl _ _ C5.hf, by omega⟩ (.cons ⟨tg, gs, rfl, sl _ _ (s5 _ _ htg), prG.same sF, by omega⟩ (.cons ⟨by rw [List.length_map], trivial⟩ (.cons ⟨D, rs, rfl, sl _ _ hD5, by rw [List.length_map]; exact lr5, by rw [List.length_map]; omega, fun i' r h' => (let ⟨m, e1, e2⟩ := pr5 i' r h'; ⟨toldOf R ns m, by rw [List.getElem?_map, e1]; rfl, sl _ _ e2, by have := t7 m; omega⟩)⟩ (.cons ⟨f, rfl, sl _ _ C5.hf, by omega⟩ .nil))))⟩
        exact ⟨_, _, rfl, sm_lists (lGot.same sF) lG2 (by show 5 < 1000; decide), fun H' s' => ⟨_, rfl, iteF ⟨rfl, sF.trans s'⟩⟩⟩
    rintro σ7 Hg ⟨rfl, sN⟩
    replace C := C.same sN
    replace sAll := sAll.trans sN
    replace hG := sN _ _ hG
    replace prG := prG.same sN
    clear sN lGot
    have nsn : ∀ m, m ∈ ns ++ [("#" : Str)] → m = "#" ∨ m ∈ ns := fun m h => (List.mem_append.mp h).elim .inr fun h => .inl (List.mem_singleton.mp h)
    have hsh : ∀ m, ("#" : Str) ∉ toldAt ns (toldOf R ns) m := fun m h => by
      unfold toldAt at h
      by_cases e : m = "#"
      · rw [if_pos e] at h
        exact n0 h
      · rw [if_neg e] at h
        exact n0 (told_in.mp h).1
    refine ⟨fun σ' H' => ∃ w8 w9 : Option V, σ' = [some (.ref u), some (.int (0 + (i : Int))), some (.ref bt), some (.ref f), some (.ref d), some (.ref pl), some (.ref G), some (.ref x), w8, w9, v10, v11, v12, v13, v14, v15] ∧ Same Hg H', ?_, ?_⟩
    · refine ⟨_, rfl, f, _, rfl, .inr (SqT.of C.hf), fun l1 nl1 => ?_⟩
      have sl1 := Same_new (o := HO.lst (ns.map V.str)) nl1
      have hl1 := new_at (.lst (ns.map V.str)) nl1
      refine ⟨(by show 1 ≤ sizeLine; decide), fun l2 nl2 => ?_⟩
      have sl2 := Same_new (o := HO.lst [V.str "#"]) nl2
      refine ⟨_, _, _, _, rfl, rfl, sl2 _ _ hl1, upd_same, ?_, fun c nc => ?_⟩
      · rw [List.length_map]
        exact Nat.le_trans (Nat.add_le_add_right l5 1) (by decide)
      have sc := Same_new (o := HO.lst (ns.map V.str ++ [V.str "#"])) nc
      have hc := new_at (.lst (ns.map V.str ++ [V.str "#"])) nc
      have ec : (ns.map V.str ++ [V.str "#"]) = (ns ++ [("#" : Str)]).map V.str := by rw [List.map_append]; rfl
      replace hc := hc.trans (congrArg (fun z => some (HO.lst z)) ec)
      refine ⟨c, rfl, ⟨_, SqL.of hc⟩, ?_⟩
      refine for_it (walk_list (xs := (ns ++ [("#" : Str)]).map V.str)) (fun j σ H' => ∃ w8 w9 : Option V, σ = [some (.ref u), some (.int (0 + (i : Int))), some (.ref bt), some (.ref f), some (.ref d), some (.ref pl), some (.ref G), some (.ref x), w8, w9, v10, v11, v12, v13, v14, v15] ∧ Same Hg H' ∧ H' c = some (.lst ((ns ++ [("#" : Str)]).map V.str)))
        ⟨_, _, rfl, (sl1.trans sl2).trans sc, hc⟩ (fun j σ H' _ ⟨_, _, _, _, e⟩ => SqL.of e) (fun j yy σ H4 H5 hj ⟨w8, w9, e, s4, hc4⟩ y => ?_) (fun σ H4 ⟨w8, w9, e, s4, hc4⟩ => ?_)
      rotate_left
      · subst e
        exact ⟨_, _, rfl, s4⟩
      obtain ⟨rfl, hx⟩ := y
      subst e
      obtain ⟨m, hm, rfl⟩ := at_str hx
      have hmi := nsn m (List.mem_of_getElem? hm)
      have C4 := C.same s4
      have hAm := C4.ta.lst m (List.mem_of_getElem? hm)
      obtain ⟨dx, tnm, dd, AA, hx4, _⟩ := id C4.ko
      refine ⟨fun σ' H' => ∃ got : Addr, σ' = [some (.ref u), some (.int (0 + (i : Int))), some (.ref bt), some (.ref f), some (.ref d), some (.ref pl), some (.ref G), some (.ref x), some (.str m), some (.ref got), v10, v11, v12, v13, v14, v15] ∧ Same H5 H' ∧ ListAt H' got ((ns ++ [("#" : Str)]).map fun z => Item.fl (.bl (decide (z ∈ toldAt ns (toldOf R ns) m)))), ?_, ?_⟩
      · refine ⟨_, rfl, f, _, rfl, .inr (SqT.of C4.hf), fun l1 nl1 => ?_⟩
        have sl1 := Same_new (o := HO.lst (ns.map V.str)) nl1
        have hl1 := new_at (.lst (ns.map V.str)) nl1
        refine ⟨(by show 1 ≤ sizeLine; decide), fun l2 nl2 => ?_⟩
        have sl2 := Same_new (o := HO.lst [V.str "#"]) nl2
        refine ⟨_, _, _, _, rfl, rfl, sl2 _ _ hl1, upd_same, ?_, fun c nc => ?_⟩
        · rw [List.length_map]
          exact Nat.le_trans (Nat.add_le_add_right l5 1) (by decide)
        have sc := Same_new (o := HO.lst (ns.map V.str ++ [V.str "#"])) nc
        have hc := new_at (.lst (ns.map V.str ++ [V.str "#"])) nc
        replace hc := hc.trans (congrArg (fun z => some (HO.lst z)) ec)
        have sA := (sl1.trans sl2).trans sc
        refine ⟨c, rfl, ⟨_, SqL.of hc⟩, fun D hD => ?_⟩
        refine lc_fm (walk_list (xs := (ns ++ [("#" : Str)]).map V.str)) (fun q => ((ns ++ [("#" : Str)])[q]?).map fun z => V.bl (decide (z ∈ toldAt ns (toldOf R ns) m))) hD (by rw [List.length_map, List.length_append]; exact Nat.le_trans (Nat.add_le_add_right l5 1) (by decide)) (fun H' s' => sm_seqL s' (SqL.of hc)) (fun q v H6 H7 Kt Kf hq s6 y kt kf => ?_) (fun H6 s6 hD6 => ?_)
        · obtain ⟨rfl, hv⟩ := y
          obtain ⟨z, hz, rfl⟩ := at_str hv
          have hzi := nsn z (List.mem_of_getElem? hz)
          refine ⟨rfl, iteT (B := Kf H7) ?_⟩
          refine ⟨_, rfl, x, dx, _, rfl, s6 _ _ (sA _ _ hx4), rfl, _, rfl, _, rfl, x, m, z, ns, _, rfl, (C4.ko.same sA).same s6, fun _ _ => kt _ _ (by rw [hz]; rfl) (Same.refl _), fun b hb => absurd hzi (by rw [if_pos hmi] at hb; exact hb.1)⟩
        · rw [List.length_map, fm_map] at hD6
          exact ⟨D, rfl, sA.trans s6, _, hD6, bools_at _⟩
      rintro σ8 H8 ⟨got, rfl, s5, lGot⟩
      replace C4 := C4.same s5
      replace hAm := s5 _ _ hAm
      replace hc4 := s5 _ _ hc4
      replace s4 := s4.trans s5
      clear s5 hx4
      refine ⟨_, rfl, _, rfl, f, rfl, ⟨_, SqT.of C4.hf⟩, fun D hD => ?_⟩
      refine lc_fm (walk_tup (xs := ns.map V.str)) (fun q => (ns[q]?).map fun z => V.bl (decide (z ∈ toldAt ns (toldOf R ns) m))) hD (by rw [List.length_map]; exact Nat.le_trans l5 (by decide)) (fun H' s' => sm_seqT s' (SqT.of C4.hf)) (fun q v H6 H7 Kt Kf hq s6 y kt kf => ?_) (fun H6 s6 hD6 => ?_)
      · obtain ⟨rfl, hv⟩ := y
        obtain ⟨z, hz, rfl⟩ := at_str hv
        refine ⟨rfl, iteT (B := Kf H7) ?_⟩
        refine ⟨_, rfl, _, rfl, _, rfl, d, _, rfl, (C4.ta.same s6).get (List.mem_of_getElem? hm), _, _, rfl, .inl (SqL.of (s6 _ _ hAm)), rfl, fl_str, kt _ _ ?_ (Same.refl _)⟩
        rw [hz]
        show some (V.bl _) = some (V.bl (inV (.str z) _))
        rw [inV_str]
      · rw [List.length_map, fm_map] at hD6
        refine ⟨(by show 1 ≤ sizeLine; decide), fun l2 nl2 => ?_⟩
        have sl2 := Same_new (o := HO.lst [V.bl false]) nl2
        refine ⟨_, _, _, _, rfl, rfl, sl2 _ _ hD6, upd_same, ?_, fun p np => ?_⟩
        · rw [List.length_map]
          exact Nat.le_trans (Nat.add_le_add_right l5 1) (by decide)
        have sp := Same_new (o := HO.lst ((ns.map fun z => V.bl (decide (z ∈ toldAt ns (toldOf R ns) m))) ++ [V.bl false])) np
        have sF := (s6.trans sl2).trans sp
        have lG2 : ListAt (upd (upd H6 l2 (.lst [V.bl false])) p (.lst ((ns.map fun z => V.bl (decide (z ∈ toldAt ns (toldOf R ns) m))) ++ [V.bl false]))) p ((ns ++ [("#" : Str)]).map fun z => Item.fl (.bl (decide (z ∈ toldAt ns (toldOf R ns) m)))) := by
          have e2 : ((ns ++ [("#" : Str)]).map fun z => Item.fl (.bl (decide (z ∈ toldAt ns (toldOf R ns) m)))) = (ns.map fun z => Item.fl (.bl (decide (z ∈ toldAt ns (toldOf R ns) m)))) ++ [.fl (.bl false)] := by
            rw [List.map_append]
            show _ ++ [Item.fl (.bl (decide (("#" : Str) ∈ toldAt ns (toldOf R ns) m)))] = _
            rw [decide_eq_false (hsh m)]
          rw [e2]
          exact cat_at (bools_at _) (.cons ⟨rfl, trivial⟩ .nil) np
        refine ⟨_, _, rfl, sm_lists (lGot.same sF) lG2 (by rw [List.length_map, List.length_append]; exact Nat.lt_of_le_of_lt (Nat.add_le_add_right l5 1) (by decide)), fun H' s' => ⟨_, rfl, iteF ⟨_, _, rfl, (s4.trans sF).trans s', (sF.trans s') _ _ hc4⟩⟩⟩
    rintro σ8 Hh ⟨w8, w9, rfl, sN⟩
    replace C := C.same sN
    replace sAll := sAll.trans sN
    replace hG := sN _ _ hG
    replace prG := prG.same sN
    clear sN
    have rl := bk.rl
    refine ⟨fun σ' H' => ∃ (so fr : Addr) (ls : List Addr), σ' = [some (.ref u), some (.int (0 + (i : Int))), some (.ref bt), some (.ref f), some (.ref d), some (.ref pl), some (.ref G), some (.ref x), w8, w9, some (.ref so), some (.ref fr), v12, v13, v14, v15] ∧ Same Hh H' ∧ Hh so = none ∧ Hh fr = none ∧ fr ≠ so ∧ H' so = some (.lst (ns.map V.str)) ∧ H' fr = some (.lst (ls.map V.ref)) ∧ LsAt H' ls R, ?_, ?_⟩
    · refine ⟨_, rfl, f, ns, rfl, C.hf, by omega, fun H1 so s1 nso hso => ?_⟩
      refine ⟨_, rfl, bt, _, _, _, rfl, rfl, SqT.of (s1 _ _ C.ht), rfl, ?_⟩
      refine ⟨g, qs, R, rfl, s1 _ _ C.hg, C.pr.same s1, by omega, fun H2 fr ls s2 nfr hfr lsA nin lnew => ?_⟩
      exact ⟨_, _, rfl, so, fr, ls, rfl, s1.trans s2, nso, s1.free nfr, (fun z => by rw [z, hso] at nfr; cases nfr), s2 _ _ hso, hfr, lsA⟩
    rintro σ9 Hi ⟨so, fr, ls, rfl, sI, nso, nfr, nfs, hso, hfr, lsA⟩
    refine ⟨fun σ' H' => ∃ (kin : Addr), σ' = [some (.ref u), some (.int (0 + (i : Int))), some (.ref bt), some (.ref f), some (.ref d), some (.ref pl), some (.ref G), some (.ref x), w8, w9, some (.ref so), some (.ref fr), some (.ref kin), v13, v14, v15] ∧ Same Hi H' ∧ KeysO K H' kin ns (toldOf R ns), ?_, ?_⟩
    · refine ⟨_, rfl, _, rfl, rfl, rfl, fun kin dk nx ndx nex => ?_⟩
      exact mk_keys (names := ns) (ns := ns) (R := R) nx ndx (.inl (SqL.of hso)) (by omega) (by omega) bk.nd bk.so (fun z => Iff.rfl) (fun z hz => pool_ok z (bk.pool z hz)) ⟨ls, .inl (SqL.of hfr), lsA.1, fun j q hq => let ⟨pr, e1, e2⟩ := lsA.2 j q hq; ⟨pr, e1, .inl (SqL.of e2)⟩⟩ (by omega)
        (fun p hp => ⟨bk.r1 p hp, bk.r2 p hp⟩) (noring_of bk.rk) fun H' s' ko => ⟨rfl, kin, rfl, s', ko⟩
    rintro σ10 Hj ⟨kin, rfl, sJ, koK⟩
    replace hso := sJ _ _ hso
    replace hfr := sJ _ _ hfr
    replace sI := sI.trans sJ
    have lls : ls.length ≤ 30 := by rw [lsA.1]; exact rl
    clear sJ lsA
    refine ⟨fun σ' H' => σ' = [some (.ref u), some (.int (0 + (i : Int))), some (.ref bt), some (.ref f), some (.ref d), some (.ref pl), some (.ref G), some (.ref x), w8, w9, some (.ref so), some (.ref fr), some (.ref kin), v13, v14, v15] ∧ Same Hh H' ∧ KeysO K H' kin ns (toldOf R ns) ∧ H' fr = some (.lst (ls.map V.ref)), ?_, ?_⟩
    · refine ⟨_, rfl, .inl ⟨rfl, _, SqL.of hso⟩, so, _, _, rfl, rfl, hso, by rw [List.length_map]; exact Nat.lt_of_le_of_lt l5 (by decide), ?_⟩
      exact ⟨rfl, Same_upd sI nso, koK.keep hso fun b o ne q => by rw [upd_ne ne]; exact q, by rw [upd_ne nfs]; exact hfr⟩
    rintro σ11 Hk ⟨rfl, sK, koK, hfr⟩
    clear sI hso
    refine ⟨fun σ' H' => σ' = [some (.ref u), some (.int (0 + (i : Int))), some (.ref bt), some (.ref f), some (.ref d), some (.ref pl), some (.ref G), some (.ref x), w8, w9, some (.ref so), some (.ref fr), some (.ref kin), v13, v14, v15] ∧ Same Hh H' ∧ KeysO K H' kin ns (toldOf R ns), ?_, ?_⟩
    · refine ⟨_, rfl, .inl ⟨rfl, _, SqL.of hfr⟩, ?_⟩
      have hf0 := sK _ _ C.hf
      obtain ⟨n1, rest, ens⟩ : ∃ n1 rest, ns = n1 :: rest := by
        cases ns with
        | nil => exact absurd bk.l1 (by decide)
        | cons a b => exact ⟨a, b, rfl⟩
      refine ⟨_, rfl, f, _, _, V.str n1, rfl, rfl, SqT.of hf0, by rw [ens]; exact atI_zero, ?_⟩
      refine ⟨(by show 2 ≤ sizeLine; decide), fun l nl => ?_⟩
      have sl := Same_new (o := HO.lst [V.str n1, V.str "q"]) nl
      refine ⟨fr, _, _, rfl, rfl, sl _ _ hfr, ?_, ?_⟩
      · have e := C.pr.1
        rw [List.length_map]
        refine Nat.lt_of_le_of_lt lls (by decide)
      exact ⟨rfl, Same_upd (sK.trans sl) nfr, (koK.same sl).keep (sl _ _ hfr) fun b o ne q => by rw [upd_ne ne]; exact q⟩
    rintro σ12 Hl ⟨rfl, sL, koK⟩
    replace C := C.same sL
    replace sAll := sAll.trans sL
    replace hG := sL _ _ hG
    replace prG := prG.same sL
    clear sL sK hfr nso nfr nfs
    refine ⟨fun σ' H' => ∃ px : Addr, σ' = [some (.ref u), some (.int (0 + (i : Int))), some (.ref bt), some (.ref f), some (.ref d), some (.ref pl), some (.ref G), some (.ref x), w8, w9, some (.ref so), some (.ref fr), some (.ref kin), some (.ref px), v14, v15] ∧ Same Hl H' ∧ KeysO K H' px ns (toldOf [] ns), ?_, ?_⟩
    · refine ⟨_, rfl, fun px dk nx ndx nex => ?_⟩
      exact mk_keys (names := ns) (ns := ns) (R := []) nx ndx (.inr (SqT.of C.hf)) (by omega) (by omega) bk.nd bk.so (fun z => Iff.rfl) (fun z hz => pool_ok z (bk.pool z hz)) (Tells.nil (.inr (B.df_Keys_init _))) (by decide)
        (fun p hp => by cases hp) (fun n _ q => by rw [told_nil] at q; cases q) fun H' s' ko => ⟨rfl, px, rfl, s', ko⟩
    rintro σ13 Hm ⟨px, rfl, sM, koP⟩
    replace C := C.same sM
    replace sAll := sAll.trans sM
    replace hG := sM _ _ hG
    replace prG := prG.same sM
    replace koK := koK.same sM
    clear sM
    refine ⟨fun σ' H' => ∃ (wx : Addr) (ms : List Str) (t2 : Str → List Str), σ' = [some (.ref u), some (.int (0 + (i : Int))), some (.ref bt), some (.ref f), some (.ref d), some (.ref pl), some (.ref G), some (.ref x), w8, w9, some (.ref so), some (.ref fr), some (.ref kin), some (.ref px), some (.ref wx), v15] ∧ Same Hm H' ∧ KeysO K H' wx ms t2 ∧ ("q" : Str) ∈ ms, ?_, ?_⟩
    · refine ⟨fun v H' => ∃ (wx : Addr) (ms : List Str) (t2 : Str → List Str), v = .ref wx ∧ Same Hm H' ∧ KeysO K H' wx ms t2 ∧ ("q" : Str) ∈ ms, ?_, ?_⟩
      rotate_left
      · rintro v H' ⟨wx, ms, t2, rfl, s', ko, qm⟩
        exact ⟨wx, ms, t2, rfl, s', ko, qm⟩
      refine ⟨_, rfl, f, _, rfl, .inr (SqT.of C.hf), rfl, _, rfl, two (fun h5 => ?_) (fun h5 => ?_)⟩
      · have e5 : ns.length = 5 := by
          have e := V.int.inj (of_decide_eq_true h5)
          rw [List.length_map] at e
          omega
        refine ⟨_, rfl, _, rfl, f, _, rfl, SqT.of C.hf, ?_, fun sl nsl => ?_⟩
        · rw [List.length_map, e5]
          decide
        have es : cutV (ns.map V.str) (some (1 : Int)) Option.none = (ns.drop 1).map V.str := by
          show cutV (ns.map V.str) (some ((1 : Nat) : Int)) Option.none = _
          rw [cut_from, List.map_drop, List.length_map, Nat.min_eq_left (by omega)]
        rw [es]
        have sS := Same_new (o := HO.tup ((ns.drop 1).map V.str)) nsl
        refine ⟨(by show 1 ≤ sizeLine; decide), fun tq ntq => ?_⟩
        have sQ := Same_new (o := HO.tup [V.str "q"]) ntq
        have l4 : ((ns.drop 1).map V.str).length = 4 := by rw [List.length_map, List.length_drop, e5]
        refine ⟨sl, tq, _, _, rfl, rfl, SqT.of (sQ _ _ upd_same), SqT.of upd_same, (fun z => by rw [z] at l4; cases l4), by rw [l4]; decide, (fun z => by cases z), fun _ p np => fun wx dk nx ndx nex => ?_⟩
        have sp := Same_new (o := HO.tup ((ns.drop 1).map V.str ++ [V.str "q"])) np
        have hp := new_at (.tup ((ns.drop 1).map V.str ++ [V.str "q"])) np
        replace hp := hp.trans (congrArg (fun z => some (HO.tup z)) (show (ns.drop 1).map V.str ++ [V.str "q"] = (ns.drop 1 ++ [("q" : Str)]).map V.str by rw [List.map_append]; rfl))
        refine mk_keysG (names := ns.drop 1 ++ [("q" : Str)]) (R := []) nx ndx (.inr (SqT.of hp)) (by rw [List.length_append, List.length_drop, e5]; decide) (Nat.le_trans (txAll_len _ _) (by rw [List.length_append, List.length_drop, e5]; decide)) (fun z hz => ?_) (Tells.nil (.inr (B.df_Keys_init _))) (by decide) fun ms pm so' nd' => ⟨out_none (fun p hp => by cases hp), (fun n _ q => by rw [told_nil] at q; cases q), fun H' s' ko => ⟨rfl, wx, ms, _, rfl, ((sS.trans sQ).trans sp).trans s', ko, pm.mem_iff.mpr ((txAll_in _ [] _).mpr (.inl (List.mem_append.mpr (.inr (List.mem_singleton.mpr rfl)))))⟩⟩
        rcases List.mem_append.mp hz with hz | hz
        · exact pool_ok z (bk.pool z (List.mem_of_mem_drop hz))
        · rw [List.mem_singleton.mp hz]
          decide +kernel
      · refine ⟨_, rfl, (by show 1 ≤ sizeLine; decide), fun tq ntq => ?_⟩
        have sQ := Same_new (o := HO.tup [V.str "q"]) ntq
        refine ⟨f, tq, _, _, rfl, rfl, SqT.of (sQ _ _ C.hf), SqT.of upd_same, (fun z => by have e := congrArg List.length z; rw [List.length_map] at e; exact absurd bk.l1 (by rw [e]; decide)), by rw [List.length_map]; exact Nat.le_trans (Nat.add_le_add_right l5 1) (by decide), (fun z => by cases z), fun _ p np => ?_⟩
        have sp := Same_new (o := HO.tup (ns.map V.str ++ [V.str "q"])) np
        have hp := new_at (.tup (ns.map V.str ++ [V.str "q"])) np
        replace hp := hp.trans (congrArg (fun z => some (HO.tup z)) (show ns.map V.str ++ [V.str "q"] = (ns ++ [("q" : Str)]).map V.str by rw [List.map_append]; rfl))
        have C2 := C.same (sQ.trans sp)
        refine ⟨_, rfl, bt, _, _, _, rfl, rfl, SqT.of C2.ht, rfl, fun wx dk nx ndx nex => ?_⟩
        refine mk_keysG (names := ns ++ [("q" : Str)]) (R := R) nx ndx (.inr (SqT.of hp)) (by rw [List.length_append]; show ns.length + 1 < 64; omega) (Nat.le_trans (txAll_len _ _) (by rw [List.length_append]; show 0 + (ns.length + 1) ≤ 7; omega)) (fun z hz => ?_) (tells_of (.inr (SqT.of C2.hg)) (pr_imp (fun _ _ h => .inr (SqT.of h)) (pr_to C2.pr))) (by omega) fun ms pm so' nd' => ?_
        · rcases List.mem_append.mp hz with hz | hz
          · exact pool_ok z (bk.pool z hz)
          · rw [List.mem_singleton.mp hz]
            decide +kernel
        · have im : ∀ z, z ∈ ns ++ [("q" : Str)] → z ∈ ms := fun z hz => pm.mem_iff.mpr ((txAll_in _ [] _).mpr (.inl hz))
          exact ⟨out_none (fun p hp => ⟨im _ (List.mem_append.mpr (.inl (bk.r1 p hp))), im _ (List.mem_append.mpr (.inl (bk.r2 p hp)))⟩), noring_of bk.rk, fun H' s' ko => ⟨rfl, wx, ms, _, rfl, (sQ.trans sp).trans s', ko, im _ (List.mem_append.mpr (.inr (List.mem_singleton.mpr rfl)))⟩⟩
    rintro σ14 Hn ⟨wx, ms, t2, rfl, sN, koW, qm⟩
    replace C := C.same sN
    replace sAll := sAll.trans sN
    replace hG := sN _ _ hG
    replace prG := prG.same sN
    replace koK := koK.same sN
    replace koP := koP.same sN
    clear sN
    refine ⟨fun σ' H' => ∃ got : Addr, σ' = [some (.ref u), some (.int (0 + (i : Int))), some (.ref bt), some (.ref f), some (.ref d), some (.ref pl), some (.ref G), some (.ref x), w8, some (.ref got), some (.ref so), some (.ref fr), some (.ref kin), some (.ref px), some (.ref wx), v15] ∧ Same Hn H' ∧ ListAt H' got [.fl (.bl true), .fl (.bl false), .fl (.bl (decide (pairsOf ns (toldOf R ns) = []))), .fl (.bl false)], ?_, ?_⟩
    · obtain ⟨dx, tnm, dd, AA, hx, _⟩ := id C.ko
      obtain ⟨dk, _, _, _, hk, _⟩ := id koK
      obtain ⟨dp, _, _, _, hp, _⟩ := id koP
      obtain ⟨dw, _, _, _, hw, _⟩ := id koW
      obtain ⟨ha, hn, htk, hmo⟩ := B.ty_Keys
      refine ⟨_, rfl, _, rfl, kin, dk, _, _, rfl, hk, .base (.ins hx B.cl_Keys ha hn htk hmo), nf_self, kin, x, ns, _, rfl, koK, .inl ⟨ns, _, C.ko, _, rfl, ?_⟩⟩
      refine ⟨_, rfl, _, rfl, kin, dk, _, _, rfl, hk, .base (.ins hx B.cl_Keys ha hn htk hmo), nf_self, kin, x, ns, _, rfl, koK, .inl ⟨ns, _, C.ko, _, rfl, ?_⟩⟩
      refine ⟨_, rfl, _, rfl, px, dp, _, _, rfl, hp, .base (.ins hx B.cl_Keys ha hn htk hmo), nf_self, px, x, ns, _, rfl, koP, .inl ⟨ns, _, C.ko, _, rfl, ?_⟩⟩
      refine ⟨_, rfl, _, rfl, wx, dw, _, _, rfl, hw, .base (.ins hx B.cl_Keys ha hn htk hmo), nf_self, wx, x, ms, _, rfl, koW, .inl ⟨ns, _, C.ko, _, rfl, ?_⟩⟩
      refine ⟨(by show 4 ≤ sizeLine; decide), fun got ng => ?_⟩
      have nq : ("q" : Str) ∉ ns := fun h => noq (bk.pool _ h)
      refine ⟨got, rfl, Same_new ng, _, upd_same, .cons ⟨congrArg V.bl ?_, trivial⟩ (.cons ⟨congrArg V.bl ?_, trivial⟩ (.cons ⟨congrArg V.bl ?_, trivial⟩ (.cons ⟨congrArg V.bl ?_, trivial⟩ .nil)))⟩
      · exact decide_eq_true ⟨rfl, fun n hn => ⟨hn, rfl⟩⟩
      · rw [Bool.not_eq_false']
        exact decide_eq_true ⟨rfl, fun n hn => ⟨hn, rfl⟩⟩
      · exact plain_eq
      · exact decide_eq_false fun h => nq (h.2 _ qm).1
    rintro σ15 Ho ⟨got, rfl, sN, lGot⟩
    replace C := C.same sN
    replace sAll := sAll.trans sN
    replace hG := sN _ _ hG
    replace prG := prG.same sN
    clear sN koK koP koW qm
    refine ⟨fun σ' H' => σ' = [some (.ref u), some (.int (0 + (i : Int))), some (.ref bt), some (.ref f), some (.ref d), some (.ref pl), some (.ref G), some (.ref x), w8, some (.ref got), some (.ref so), some (.ref fr), some (.ref kin), some (.ref px), some (.ref wx), v15] ∧ Same Ho H', ?_, ?_⟩
    · refine ⟨_, rfl, _, rfl, Nat.zero_le _, fun e ne => ?_⟩
      have se := Same_new (o := HO.lst []) ne
      have gOk : ∀ p ∈ pairsOf ns (toldOf R ns), PyData.strOk p.1 = true ∧ PyData.strOk p.2 = true := fun p hp => ⟨pool_ok _ (bk.pool _ (pairs_mem hp).1), pool_ok _ (bk.pool _ (told_in.mp (pairs_mem hp).2).1)⟩
      refine ⟨_, _, .lst (SqL.of (se _ _ hG)) (dp_pairs (prG.same se)), .lst (SqL.of upd_same) .nil, shp_pairs gOk, (by decide +kernel), ?_⟩
      refine ⟨(by show 4 ≤ sizeLine; decide), fun l nl => ?_⟩
      have sl : Same _ _ := Same_new (o := HO.lst [V.bl true, V.bl false, V.bl (PyData.eqv (.list (dPairs (pairsOf ns (toldOf R ns)))) (.list [])), V.bl false]) nl
      have sF := se.trans sl
      refine ⟨_, _, rfl, sm_lists (lGot.same sF) ⟨_, upd_same, .cons ⟨rfl, trivial⟩ (.cons ⟨rfl, trivial⟩ (.cons ⟨congrArg V.bl (eqv_pairs _), trivial⟩ (.cons ⟨rfl, trivial⟩ .nil)))⟩ (by show 4 < 1000; decide), fun H' s' => ⟨_, rfl, iteF ?_⟩⟩
      have C2 := C.same (sF.trans s')
      obtain ⟨dx, tnm, dd, AA, hx, _⟩ := id C2.ko
      exact ⟨_, rfl, _, rfl, x, dx, _, _, rfl, hx, .base (.tup C2.hf), B.nfst_Keys_tuple, x, f, ns, _, rfl, C2.ko, .inr ⟨⟨_, C2.hf⟩, _, rfl, _, rfl, iteF ⟨rfl, sF.trans s'⟩⟩⟩
    rintro σ16 Hp ⟨rfl, sN⟩
    replace C := C.same sN
    replace sAll := sAll.trans sN
    clear sN lGot hG prG
    refine ⟨fun σ' H' => ∃ got2 : Addr, σ' = [some (.ref u), some (.int (0 + (i : Int))), some (.ref bt), some (.ref f), some (.ref d), some (.ref pl), some (.ref G), some (.ref x), w8, some (.ref got2), some (.ref so), some (.ref fr), some (.ref kin), some (.ref px), some (.ref wx), v15] ∧ Same Hp H' ∧ ListAt H' got2 (five.map fun z => Item.fl (.bl (decide (z ∈ ns)))), ?_, ?_⟩
    · refine ⟨(by show 5 ≤ sizeLine; decide), fun c nc => ?_⟩
      have sc := Same_new (o := HO.tup [V.str "a", V.str "city", V.str "q", V.str "#", V.str "b"]) nc
      have hc : (upd Hp c (.tup [V.str "a", V.str "city", V.str "q", V.str "#", V.str "b"])) c = some (.tup (five.map V.str)) := upd_same
      have C4 := C.same sc
      obtain ⟨dx, tnm, dd, AA, hx, _⟩ := id C4.ko
      refine ⟨c, rfl, ⟨_, SqT.of hc⟩, fun D hD => ?_⟩
      refine lc_fm (walk_tup (xs := five.map V.str)) (fun q => (five[q]?).map fun z => V.bl (decide (z ∈ ns))) hD (by decide) (fun H' s' => sm_seqT s' (SqT.of hc)) (fun q v H6 H7 Kt Kf hq s6 y kt kf => ?_) (fun H6 s6 hD6 => ?_)
      · obtain ⟨rfl, hv⟩ := y
        obtain ⟨z, hz, rfl⟩ := at_str hv
        refine ⟨rfl, iteT (B := Kf H7) ?_⟩
        exact ⟨_, rfl, _, rfl, x, dx, _, rfl, s6 _ _ hx, x, z, ns, _, rfl, C4.ko.same s6, _, rfl, kt _ _ (by rw [hz]; rfl) (Same.refl _)⟩
      · rw [List.length_map, fm_map] at hD6
        exact ⟨D, rfl, sc.trans s6, _, hD6, bools_at _⟩
    rintro σ17 Hq ⟨got2, rfl, sN, lGot⟩
    replace C := C.same sN
    replace sAll := sAll.trans sN
    clear sN
    refine ⟨_, rfl, _, rfl, f, _, rfl, .inr (SqT.of C.hf), rfl, fl_str, _, rfl, f, _, rfl, .inr (SqT.of C.hf), rfl, fl_str, (by show 2 ≤ sizeLine; decide), fun l nl => ?_⟩
    have sl := Same_new (o := HO.lst [V.bl (inV (.str "a") (ns.map V.str)), V.bl (inV (.str "city") (ns.map V.str))]) nl
    have hl := new_at (.lst [V.bl (inV (.str "a") (ns.map V.str)), V.bl (inV (.str "city") (ns.map V.str))]) nl
    refine ⟨(by show 1 ≤ sizeLine; decide), fun l1 nl1 => ?_⟩
    have sl1 := Same_new (o := HO.lst [V.bl false]) nl1
    refine ⟨l1, 3, _, rfl, rfl, upd_same, by decide, by decide, by decide, fun l2 nl2 => ?_⟩
    have sl2 := Same_new (o := HO.lst [V.bl false, V.bl false, V.bl false]) nl2
    refine ⟨_, _, _, _, rfl, rfl, sl2 _ _ (sl1 _ _ hl), upd_same, (by show 2 + 3 ≤ sizeLine; decide), fun p np => ?_⟩
    have sp := Same_new (o := HO.lst ([V.bl (inV (.str "a") (ns.map V.str)), V.bl (inV (.str "city") (ns.map V.str))] ++ [V.bl false, V.bl false, V.bl false])) np
    have sF := ((sl.trans sl1).trans sl2).trans sp
    have nq : ("q" : Str) ∉ ns := fun h => noq (bk.pool _ h)
    have nb : ("b" : Str) ∉ ns := fun h => nob (bk.pool _ h)
    refine ⟨_, _, rfl, sm_lists (lGot.same sF) ⟨_, upd_same, .cons ⟨congrArg V.bl (inV_str _ _), trivial⟩ (.cons ⟨congrArg V.bl (inV_str _ _), trivial⟩ (.cons ⟨congrArg V.bl (decide_eq_false nq).symm, trivial⟩ (.cons ⟨congrArg V.bl (decide_eq_false n0).symm, trivial⟩ (.cons ⟨congrArg V.bl (decide_eq_false nb).symm, trivial⟩ .nil))))⟩ (by show 5 < 1000; decide), fun H' s' => ⟨_, rfl, iteF ?_⟩⟩
    exact ⟨_, _, _, _, _, _, _, _, _, _, _, _, _, _, _, rfl, (hud.same ((sAll.trans sF).trans s')).le (by omega), kT.trans (ka.trans (Same.keep ((sAll.trans sF).trans s')))⟩
end
end Jd
namespace Jd
open PySem PySem.Spec PyProof.Rows L2
/-! ### the law -/
def spLaw (K : PySem.W.Frag) : Sp := fun vs H Q _ => ∃ (a : Addr) (ns : List Int), vs = [.ref a] ∧ SqL K H a (ns.map V.int) ∧ ns.length ≤ 63 ∧ ∀ H', Same H H' → Q (.bl true) H'
section
variable {P : Program} {w : World} {K : PySem.W.Frag} {mg : Str → Option Value} {base : Heap}
abbrev NW : List Str := ["_law_script", "_law_cells_here", "_law_k"]
theorem sc_law : FnScope NW ["_law_script"] (defScope s_law) := ⟨rfl, rfl, rfl, by decide +kernel, rfl, by decide +kernel, by decide +kernel⟩
theorem ok_law (B : Bk K mg) {fd : FuncData} (F : Fun K "law" "law" s_law (He.ga K "law") fd) : FnOk P w K mg base CX0 9 (He.ga K "law") fd ["_law_script"] (spLaw K) := by
  obtain ⟨fdC, GC, bC⟩ := (ok_law_cells (P := P) (w := w) (base := base) B).ex
  have kC := (ok_law_cells (P := P) (w := w) (base := base) B).kp
  obtain ⟨fdX, GX, bX⟩ := (ok_law_box (P := P) (w := w) (base := base) B).ex
  have kX := (ok_law_box (P := P) (w := w) (base := base) B).kp
  obtain ⟨fdR, GR, bR⟩ := (ok_right (P := P) (w := w) (base := base) B).ex
  have kR := (ok_right (P := P) (w := w) (base := base) B).kp
  refine F.ok sc_law (fun vs H Q E h => ?_) (fun cdv A outer s H vs Q E hr h => ?_)
  · obtain ⟨_, _, rfl, _⟩ := h
    rfl
  · obtain ⟨a, ns, rfl, hs, hn, k⟩ := h
    have hr1 : Room 1 _ := hr.mono (by decide)
    refine ⟨_, pss_cons (ps_set (i := 1) sc_law.nd rfl (Or.inr rfl) (pe_call GC hr1 rfl B.g_law_cells kC bC .nil pass0 (pa_cons (pv 0) (pa_cons pe_int pa_nil))))
      (pss_one (ps_ret (pe_callB (cr_all rfl) (by rfl) B.b_all (by decide +kernel) (pa_cons (pe_lc (own := [("_law_k", 2)]) (g := gName 2) (tt := tYes) rfl sc_law.nd (pi_range1 rfl B.b_range (pa_cons (pe_callB call_len (by rfl) B.b_len (by decide +kernel) (pa_cons (pv 1) pa_nil)) pa_nil)) (blkOk_by (N := NW) (sc := defScope s_law) (by decide +kernel))
          (fun _ _ _ _ _ => pg_name (i := 2) sc_law.nd rfl (Or.inl rfl)) (fun _ _ _ _ _ => pts_nil) (fun _ _ _ _ _ => pe_call GR hr rfl B.g_law_right kR bR .nil pass0 (pa_cons (pe_call GX hr1 rfl B.g_law_box kX bX .nil pass0 (pa_cons (pv 1) (pa_cons (pv 2) pa_nil))) pa_nil))) pa_nil)))), ?_⟩
    refine ⟨_, rfl, a, ns, rfl, hs, hn, fun H1 p ms s1 np hp h1 h3 => ?_⟩
    refine ⟨_, rfl, _, _, rfl, .inl ⟨_, SqL.of hp, rfl⟩, _, rfl, by rw [List.length_map]; omega, by rw [List.length_map]; omega, fun D nD => ?_⟩
    refine lc_fm (n := ms.length) (by rw [List.length_map]; exact walk_range) (fun _ => some (.bl true)) nD (Nat.le_trans h3 (by decide)) (fun _ _ => trivial) (fun i x H2 H3 Kt Kf hi s2 y kt kf => ?_) (fun H2 s2 hD2 => ?_)
    · obtain ⟨rfl, rfl⟩ := y
      refine ⟨rfl, iteT (B := Kf H3) ?_⟩
      refine ⟨_, rfl, _, rfl, p, ms, i, by show [V.ref p, V.int (0 + (i : Int))] = _; rw [Int.zero_add], SqL.of (s2 _ _ hp), hi, by omega, fun H4 u s4 nu hu => ?_⟩
      refine ⟨u, _, rfl, hu, by decide, fun H5 kp => kt _ _ rfl fun b o q => kp _ _ (ne_of_none q nu) (s4 _ _ q)⟩
    · refine ⟨D, List.replicate ms.length true, rfl, SqL.of (hD2.trans (by rw [rep_true])), ?_⟩
      rw [rep_all]
      exact k _ (s1.trans s2)
theorem one_arg {fd : FuncData} (F : Fun K "law" "law" s_law (He.ga K "law") fd) (s : Shared) (u : Value) : BindsTo s fd ⟨[u], []⟩ [("_law_script", u)] := by
  obtain ⟨oc, od, kV, doc, pm, an, cdv, ct, osl, rfl, lk, hcd⟩ := F.ex
  exact .of_eq rfl
end
end Jd
namespace Jd
open PySem PySem.W PySem.Calls PyProof.Rows
/-! ### the end -/
abbrev lawDef := HandSHeadRun.topDef R.prog 26
theorem e_def : defOf qv R.name = some (lawDef, []) := by kernel_rfl
theorem e_the : R.prog.theDef R.name = some (lawDef.params, lawDef.body, lawDef.scope) := by kernel_rfl
theorem e_kw : kwWritten? lawDef.params.kwonlyargs lawDef.params.kw_defaults = some [] := by kernel_rfl
theorem e_wr : (!R.writes || R.records.isEmpty) = true := by rfl
theorem e_ok : (chainsOk qv && opensWell R.prog && (frees R.toRowW && R.within.isEmpty)) = true := by decide +kernel
theorem e_bare : R.prog.bare := ⟨rfl, rfl, rfl, rfl, rfl, by decide +kernel⟩
theorem e_name : lawDef.name = ("law" : PySem.Str) := by kernel_rfl
theorem e_nodf : lawDef.params.defaults = [] := by kernel_rfl
theorem e_prom : R.toRowW.promised := by w_witness2
theorem e_open : opening R.prog = plainProg R.prog.main.scope.names := by kernel_rfl
theorem e_fen : ∀ s, fenceModules? R.prog s = some s := fun s => by kernel_rfl
theorem e_walk : WalkO qv loose (XL qv []) hk.says R.toRowW lawDef [] fun f vs => PySem.call f vs := by
  refine L2.walk_ofE (l := PySem.Challenge.rw_keyspans_k01_keys_and_what_they_tell) (n := 63) (k := 9) (x := "_law_script") (CX := L2.CX0) rfl (by decide) e_nodf ⟨rfl, by decide, by decide⟩ ?F (fun _ _ _ _ z => z)
  intro w mg fa h Y G hmg0
  obtain ⟨K, KX, c⟩ := Y
  have hmg : mg ("law" : PySem.Str) = some (.ref fa) := by
    rw [← e_name]
    exact hmg0
  have B : Bk K mg := ⟨c, h, KX, G⟩
  have ef : fa = He.ga K "law" := by
    have q := B.g_law
    rw [hmg] at q
    injection q with q
    injection q
  subst ef
  obtain ⟨fd, F⟩ := B.F_law
  exact ⟨K, fd, spLaw K, KX, fun s u => one_arg F s u, fun H a ns hl _ hS => ⟨a, ns, rfl, hS, hl, fun _ _ => rfl⟩, fun base _ _ => ok_law B F⟩
theorem e_all (said : R.wellSaid = true) : R.Holds :=
  HandSHeadRun.head_any (r := R) (q := qv) (H := hk) (ob := ob) (M := 4000) (loose := loose) (d := lawDef) (kwd := []) ob_eq e_open e_fen run e_def e_the e_kw e_wr said e_ok e_bare e_prom e_walk
end Jd
open PySem PySem.W PySem.Calls PyProof.Rows
theorem PySem.Challenge.cw_keyspans_k01_keys_and_what_they_tell_holds : PySem.Challenge.rw_keyspans_k01_keys_and_what_they_tell.Holds := by
  w_on; o_law
  exact Jd.e_all (by assumption)
