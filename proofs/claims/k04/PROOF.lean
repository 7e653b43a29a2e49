import PyProof.Rows.All
import Wide.All
import OpenK.AllK
import Wide.FinOn
import PyProof.EqAt
import PyProof.EqKinds
import PyProof.TupleCall
import HandS.ForMost
import HandS.More
import HandS.Set
import HandS.SetFor
import HandS.Strs
import HandS.ExcInit
import HandS.ExcIs
import HandS.ExcField
import HandS.IsInst
import HandS.ExcOwn
import KE.KExcInit
import HandS.OwnEq
import HandS.DeepEq
import HandS.MakeKwOnly
import PyProof.InstEq
import HandS.CallSlots
import HandS.HeadNt
import HandS.Walk
import HandS.Gcd
import HandS.Property
import HandS.Defaults
import HandS.Wide
import HandS.WideBits
import HandS.StrMore
import HandS.FStr
import HandS.DictComp
import HandS.Conv
import HandS.Flow
import HandS.Head0
import HandS.Head1
import HandS.Head2
import HandS.Head3
import HandS.HeadEnd
import HandS.HeadHook1
import HandS.HeadHook2
import HandS.EndBits
import HandS.NoneIn
import HandS.ForExc
import HandS.TryOnly
import HandS.Comp
import HandS.Dict
import HandS.DictEq
import HandS.List
import PyProof.P3Eq
import HandS.Style
import HandS.Zip
import HandS.RaiseMore
import PyProof.StrBlock2
import HandS.MakeKw
import OpenK.KMeth
import KE.GoesComp
import PyProof.Rows.Range3
import PyProof.StrBlockL
import HandS.Text
import KE.KExcIs
import HandS.TupAny
import PySem.Challenge.RW_keyspans_k04_numbers_of_stages
set_option Elab.async false
set_option linter.all false
set_option maxRecDepth 100000
set_option maxHeartbeats 0
/-! Sets of texts: made of a list or a tuple of texts, sorted. -/
namespace Jd
open PySem PySem.Spec PyProof.Rows L2

def txK (e : Int × Value) : Str := match e.2 with
  | .str x _ => x
  | _ => Str.empty
def TxE (P : Program) (w : World) (e : Int × Value) : Prop := ∃ x tk, e.2 = Value.str x tk ∧ e.1 = (PySem.strKind P w).hash x
/-- the table holds the texts xs, each once -/
structure TxHas (P : Program) (w : World) (xs : List Str) (es : Array (Int × Value)) : Prop where
  good : ∀ e ∈ es.toList, TxE P w e
  perm : (es.toList.map txK).Perm xs
  nd : xs.Nodup
theorem TxHas.move {P : Program} {w : World} {xs : List Str} {es es' : Array (Int × Value)} (g : TxHas P w xs es) (p : es'.toList.Perm es.toList) : TxHas P w xs es' :=
  { good := fun e he => g.good e (p.mem_iff.mp he), perm := (p.map txK).trans g.perm, nd := g.nd }
theorem TxHas.size {P : Program} {w : World} {xs : List Str} {es : Array (Int × Value)} (g : TxHas P w xs es) : es.size = xs.length := by
  have q := g.perm.length_eq
  rw [List.length_map, Array.length_toList] at q
  exact q
/-- the set of texts at a -/
def TxS (P : Program) (w : World) (h : Heap) (a : Addr) (xs : List Str) : Prop :=
  ∃ o es ep t, h.get? a = some o ∧ o.ExactSet ∧ o.data = .set es ep t ∧ TxHas P w xs es ∧
    (es.size < scanBound ∧ t.fits es.size = true) ∧ Ris t.place.toList ∧ (w.params.followText "set-order" = true ∨ t.led = true)
section
variable {P : Program} {w : World} {h h' : Heap} {a : Addr} {xs : List Str}
theorem TxS.to (R : TxS P w h a xs) (k : ∀ o, h.get? a = some o → h'.get? a = some o) : TxS P w h' a xs := by
  obtain ⟨o, es, ep, t, q0, q1⟩ := R
  exact ⟨o, es, ep, t, k o q0, q1⟩
theorem tx_elems {l : List (Int × Value)} (g : ∀ e ∈ l, TxE P w e) : ElemsOf (PySem.strKind P w) l := by
  intro e he
  obtain ⟨x, tk, q1, q2⟩ := g e he
  refine ⟨⟨x, ?_, q2⟩, ?_⟩
  · rw [q1]
    exact PySem.strKind_is P w x tk
  · rw [q1]
    rfl
theorem tx_is {e : Int × Value} (g : TxE P w e) (x : Str) : (PySem.strKind P w).is x e.2 = true ↔ txK e = x := by
  obtain ⟨y, tk, q1, _⟩ := g
  have e1 : txK e = y := by
    unfold txK
    rw [q1]
  rw [e1, q1]
  show (Value.isStrOf x (.str y tk) = true) ↔ y = x
  simp [Value.isStrOf]
theorem tx_mem {l : List (Int × Value)} (g : ∀ e ∈ l, TxE P w e) (x : Str) : x ∈ l.map txK ↔ ∃ e ∈ l, (PySem.strKind P w).is x e.2 = true := by
  rw [List.mem_map]
  exact ⟨fun ⟨e, he, q⟩ => ⟨e, he, (tx_is (g e he) x).mpr q⟩, fun ⟨e, he, q⟩ => ⟨e, he, (tx_is (g e he) x).mp q⟩⟩
end
section
variable {P : Program} {w : World} {A : Around} {E : Value → Shared → Prop} {s : Shared} {a : Addr}
theorem tx_tail {g : Bool → Sem Unit} (hg : ∀ (b : Bool) (s₁ : Shared) (Q' : Unit → Shared → Prop), Q' () s₁ → wpAny (model P w) A (g b) Q' E s₁)
    {o : Obj} {es : Array (Int × Value)} {ep : Nat} {t : SetTable} (q0 : s.heap.get? a = some o) (q1 : o.ExactSet) (q2 : o.data = .set es ep t)
    {es1 : Array (Int × Value)} {t2 : SetTable} {xs : List Str} (q3 : TxHas P w xs es1)
    (q4 : es1.size < scanBound) (q5 : t2.fits es1.size = true) (q6 : Ris t2.place.toList) (q7 : w.params.followText "set-order" = true ∨ t2.led = true) {wasDummy : Bool} {R : Option Bool → Shared → Prop}
    (fin : ∀ hz, Heap.SameBut a s.heap hz → TxS P w hz a xs → R (some true) { s with heap := hz }) :
    wpAny (model P w) A (do
        storeSet a es1 t2
        if (!wasDummy && t2.tooFull) = true then do
            g (relayAll t2 es1 (SetTable.grown es1.size)).2.2
            storeSet a (relayAll t2 es1 (SetTable.grown es1.size)).1 (relayAll t2 es1 (SetTable.grown es1.size)).2.1
            pure (some true)
          else pure (some true)) R E s := by
  refine wpAny_bind (wpAny_storeSet_of q0 q2 ?_ (fits_of_scanBound q4))
  have r0 := store_at (es' := es1) (t' := t2) q0 q2
  have r1 := Heap.SameBut.update s.heap a (Obj.putSet es1 t2)
  split
  · have z1 := relayAll_perm t2 es1 (SetTable.grown es1.size)
    have z2 := relayAll_fits t2 es1 (SetTable.grown es1.size)
    have z3 := relayAll_ris t2 es1 (SetTable.grown es1.size)
    have z4 := relayAll_led t2 es1 (SetTable.grown es1.size)
    generalize relayAll t2 es1 (SetTable.grown es1.size) = Z at z1 z2 z3 z4 ⊢
    obtain ⟨es2, t3, gv⟩ := Z
    dsimp only at z1 z2 z3 z4 ⊢
    have q8 := q3.move z1
    have q9 : es2.size < scanBound := by rw [q8.size, ← q3.size]; exact q4
    refine wpAny_bind (hg _ _ _ ?_)
    refine wpAny_bind (wpAny_storeSet_of r0 rfl ?_ (fits_of_scanBound q9))
    have r2 := store_at (es' := es2) (t' := t3) r0 rfl
    refine wpAny_pure (fin _ (r1.trans (Heap.SameBut.update _ a _)) ?_)
    exact ⟨_, es2, _, t3, r2, q1, rfl, q8, ⟨q9, z2⟩, z3, q7.imp id fun z => by rw [z4]; exact z⟩
  · exact wpAny_pure (fin _ r1 ⟨_, es1, _, t2, r0, q1, rfl, q3, ⟨q4, q5⟩, q6, q7⟩)

def txAdd (xs : List Str) (x : Str) : List Str := if x ∈ xs then xs else x :: xs
theorem txAdd_len (xs : List Str) (x : Str) : (txAdd xs x).length ≤ xs.length + 1 := by
  unfold txAdd
  split
  · omega
  · exact Nat.le_refl _
theorem tx_add {x : Str} {tk : Tok} {xs : List Str} {Q : Bool → Shared → Prop} (R : TxS P w s.heap a xs) (room : xs.length + 1 < scanBound)
    (fin : ∀ hz b, Heap.SameBut a s.heap hz → TxS P w hz a (txAdd xs x) → Q b { s with heap := hz }) :
    wpAny (model P w) A (setAddHashed a (.str x tk) ((PySem.strKind P w).hash x)) Q E s := by
  obtain ⟨o, es, ep, t, q0, q1, q2, q3, ⟨q4, q5⟩, q6, q7⟩ := R
  have i1 : (PySem.strKind P w).is x (.str x tk) = true := PySem.strKind_is P w x tk
  have i2 : (Value.str x tk).scannable = true := rfl
  have i3 : ElemsOf (PySem.strKind P w) es.toList := tx_elems q3.good
  unfold setAddHashed setAddHashedIn
  refine wpAny_holding (wpAny_bind (wpAny_setState_of q0 q2 q5 ?_))
  dsimp only
  rw [byScan_of i2 q4 i3]
  simp only [↓reduceIte]
  unfold setAddByScan
  refine wpAny_bind ?_
  refine wpAny_bind (wpAny_rule ?_)
  refine wpAny_bind (wpAny_setScan_of i1 q0 q2 q5 i3 ?_)
  cases hf : List.findIdx? (fun e => (PySem.strKind P w).is x e.2) es.toList with
  | some j =>
    dsimp only
    obtain ⟨hj, pj, _⟩ := List.findIdx?_eq_some_iff_getElem.mp hf
    have hin : x ∈ xs := q3.perm.mem_iff.mp ((tx_mem (P := P) (w := w) q3.good x).mpr ⟨es.toList[j], List.getElem_mem hj, pj⟩)
    refine wpAny_pure (wpAny_pure ?_)
    refine fin s.heap false (Heap.SameBut.refl a s.heap) ?_
    unfold txAdd
    rw [if_pos hin]
    exact ⟨o, es, ep, t, q0, q1, q2, q3, ⟨q4, q5⟩, q6, q7⟩
  | none =>
    dsimp only
    have hno : x ∉ xs := fun z => by
      obtain ⟨e, he, q⟩ := (tx_mem (P := P) (w := w) q3.good x).mp (q3.perm.mem_iff.mpr z)
      have c := List.findIdx?_eq_none_iff.mp hf e he
      rw [q] at c
      cases c
    have gw : ∀ (b : Bool) {s₁ : Shared} {Q' : Unit → Shared → Prop}, Q' () s₁ → wpAny (model P w) A (match b with | true => rule "set.scan.the-table-gave-way" | false => pure ()) Q' E s₁ := by
      intro b s₁ Q' q
      cases b <;> first | exact wpAny_pure q | exact wpAny_rule q
    have z1 := layNew_perm t es ((PySem.strKind P w).hash x) (.str x tk)
    have z2 := layNew_fits t es ((PySem.strKind P w).hash x) (.str x tk)
    have z3 := layNew_ris t es ((PySem.strKind P w).hash x) (.str x tk) q6
    have z4 := layNew_led t es ((PySem.strKind P w).hash x) (.str x tk)
    generalize layNew t es ((PySem.strKind P w).hash x) (.str x tk) = Z at z1 z2 z3 z4 ⊢
    obtain ⟨es1, t1, wasDummy, gave⟩ := Z
    dsimp only at z1 z2 z3 z4 ⊢
    rw [Array.toList_push] at z1
    have pc : es1.toList.Perm (((PySem.strKind P w).hash x, Value.str x tk) :: es.toList) := z1.trans (List.perm_append_singleton _ _)
    have g1 : TxHas P w (x :: xs) es1 :=
      { good := fun e he => by
          rcases List.mem_cons.mp (pc.mem_iff.mp he) with z | z
          · rw [z]
            exact ⟨x, tk, rfl, rfl⟩
          · exact q3.good e z
        perm := (pc.map txK).trans (List.Perm.cons x q3.perm)
        nd := List.nodup_cons.mpr ⟨hno, q3.nd⟩ }
    have hb1 : es1.size < scanBound := by rw [g1.size]; exact room
    have hled : w.params.followText "set-order" = true ∨ t1.led = true := q7.imp id fun z => by rw [z4]; exact z
    have last : ∀ hz, Heap.SameBut a s.heap hz → TxS P w hz a (x :: xs) → Q true { s with heap := hz } := fun hz sb r => by
      refine fin hz true sb ?_
      unfold txAdd
      rw [if_neg hno]
      exact r
    refine wpAny_bind (gw _ ?_)
    split
    · refine wpAny_bind ?_
      rw [hashByValue_scannable 8 i2]
      refine wpAny_pure ?_
      refine tx_tail ?_ q0 q1 q2 g1 hb1 ?_ ?_ ?_ ?_
      · intro b s₁ Q' q; cases b <;> first | exact wpAny_pure q | exact wpAny_rule q
      · first | (split <;> first | exact z2 | exact SetTable.fits_plain_off z2) | exact z2
      · first | (split <;> exact z3) | exact z3
      · first | (split <;> exact hled) | exact hled
      · intro hz sb r; dsimp only; exact wpAny_pure (last hz sb r)
    · refine wpAny_bind (wpAny_pure ?_)
      simp only [↓reduceIte]
      refine tx_tail ?_ q0 q1 q2 g1 hb1 z2 z3 hled ?_
      · intro b s₁ Q' q; cases b <;> first | exact wpAny_pure q | exact wpAny_rule q
      · intro hz sb r; dsimp only; exact wpAny_pure (last hz sb r)
end
end Jd
namespace Jd
open PySem PySem.Spec PyProof.Rows L2
abbrev ledW (w : World) : Bool := !w.params.followText "set-order"
abbrev bareS (w : World) : Obj := { cls := .type "set", dict := none, data := .set #[] 0 (.fresh 0 0 (ledW w)) }
abbrev putS (w : World) (h : Heap) : Heap := h.push (bareS w)
theorem bare_tx {P : Program} {w : World} {h : Heap} {a : Addr} (q : h.get? a = some (bareS w)) : TxS P w h a [] :=
  ⟨_, #[], 0, _, q, ⟨rfl, rfl, rfl⟩, rfl, ⟨fun e he => (by simp at he), List.Perm.nil, List.nodup_nil⟩, ⟨by decide, by rfl⟩, List.Pairwise.nil, by
    show _ ∨ ledW w = true
    unfold ledW
    cases w.params.followText "set-order"
    · exact .inr rfl
    · exact .inl rfl⟩
theorem tx_at : ∀ {us : List Value} {xs : List Str}, StrsAre us xs → ∀ (i : Nat) (v : Value), us[i]? = some v → ∃ k t, xs[i]? = some k ∧ v = .str k t
  | _, _, .nil, i, v, h => by simp at h
  | _, _, .cons n t hr, 0, v, h => ⟨n, t, rfl, (Option.some.inj h).symm⟩
  | _, _, .cons n t hr, i + 1, v, h => tx_at hr i v h
def txAll (xs : List Str) : List Str := xs.foldl txAdd []
theorem txAll_in : ∀ (xs acc : List Str) (x : Str), x ∈ xs.foldl txAdd acc ↔ x ∈ xs ∨ x ∈ acc
  | [], acc, x => by simp
  | y :: r, acc, x => by
    show x ∈ r.foldl txAdd (txAdd acc y) ↔ _
    rw [txAll_in r (txAdd acc y) x, List.mem_cons]
    have e : x ∈ txAdd acc y ↔ x = y ∨ x ∈ acc := by
      unfold txAdd
      split
      · rename_i hy
        exact ⟨.inr, fun z => z.elim (fun q => q ▸ hy) id⟩
      · exact List.mem_cons
    rw [e]
    constructor
    · rintro (z | z | z)
      · exact .inl (.inr z)
      · exact .inl (.inl z)
      · exact .inr z
    · rintro ((z | z) | z)
      · exact .inr (.inl z)
      · exact .inl z
      · exact .inr (.inr z)
theorem txAll_len : ∀ (xs acc : List Str), (xs.foldl txAdd acc).length ≤ acc.length + xs.length
  | [], acc => Nat.le_refl _
  | y :: r, acc => by
    have q := txAll_len r (txAdd acc y)
    have q2 := txAdd_len acc y
    show (r.foldl txAdd (txAdd acc y)).length ≤ acc.length + (r.length + 1)
    omega
theorem take_step {xs : List Str} {i : Nat} {z : Str} (hz : xs[i]? = some z) : txAll (xs.take (i + 1)) = txAdd (txAll (xs.take i)) z := by
  unfold txAll
  rw [List.take_add_one, hz, List.foldl_append]
  rfl
section
variable {P : Program} {w : World} {A : Around} {E : Value → Shared → Prop} {s : Shared}
theorem tx_loop {I : Addr} {fp wr : List Addr} {G : Array GenState → Array GenState → Prop} {n : Nat} {Pv : Nat → Value → Prop} {St : Nat → Shared → Prop} {R : Result → Shared → Prop}
    (W : WalksS P w A.in1 I fp wr G n Pv St) (S : Addr) (away : S ∉ fp) (xs : List Str) (hn : n = xs.length) (hb : xs.length + 1 < scanBound) (hval : ∀ i v, Pv i v → ∃ k t, xs[i]? = some k ∧ v = .str k t) :
    ∀ (k i : Nat) (s : Shared), n - i = k → i ≤ n → St i s → TxS P w s.heap S (txAll (xs.take i)) →
      (∀ s', Moved (S :: wr) G s s' → TxS P w s'.heap S (txAll xs) → R (.ok (.ret .none)) s') →
      codeAny (model P w) A (.builtin "set.update.loop" ⟨[.ref S, .ref I], []⟩) R s := by
  have nw : S ∉ wr := fun h => away (W.sub _ h)
  have more : ∀ b ∈ wr, b ∈ S :: wr := fun b hb => List.mem_cons_of_mem _ hb
  intro k
  induction k with
  | zero =>
    intro i s hk' hi hst hS hR
    obtain rfl : i = n := by omega
    refine codeAny_builtin F.entry_set_update_loop ?_
    rw [Around.under_plainId F.plain_set_update_loop _]
    show wpAny _ A.in1 (pyNext (.ref I) >>= _) _ _ s
    refine wpAny_bind (W.done s _ _ hst fun s' hm => ?_)
    show wpAny _ A.in1 (ret Value.none) _ _ s'
    rw [List.take_of_length_le (by omega : xs.length ≤ i)] at hS
    exact wpAny_pure (hR s' (hm.mono more) (hS.to fun o e => hm.heap S o nw e))
  | succ k ih =>
    intro i s hk' hi hst hS hR
    have lt : i < n := by omega
    refine codeAny_builtin F.entry_set_update_loop ?_
    rw [Around.under_plainId F.plain_set_update_loop _]
    show wpAny _ A.in1 (pyNext (.ref I) >>= _) _ _ s
    refine wpAny_bind (W.item i s _ _ lt hst fun v s' hP hst' hm => ?_)
    obtain ⟨z, t, hz, rfl⟩ := hval i v hP
    have hS' : TxS P w s'.heap S (txAll (xs.take i)) := hS.to fun o e => hm.heap S o nw e
    show wpAny _ A.in1 (holding [Value.str z t] (setAdd S (.str z t)) >>= _) _ _ s'
    refine wpAny_bind (wpAny_holding ?_)
    unfold setAdd
    refine wpAny_holding ?_
    refine wpAny_bind ((PySem.strKind P w).pyHash (k := z) (PySem.strKind_is _ _ _ _) ?_)
    have few : (txAll (xs.take i)).length + 1 < scanBound := by
      have q := txAll_len (xs.take i) []
      have q2 : (xs.take i).length ≤ xs.length := by rw [List.length_take]; omega
      have q3 : ([] : List Str).length = 0 := rfl
      unfold txAll
      omega
    refine tx_add (s := { s' with toks := s'.toks + 1 }) hS' few fun h' bb hsb hS2 => ?_
    rw [← take_step hz] at hS2
    refine wpAny_pure ⟨plainId_quiet F.plain_set_update_loop _, ih (i + 1) _ (by omega) lt (W.frame _ s' _ _ hst' (Nat.le_succ _) fun b hb o e => ?_) hS2 fun s'' hm'' hS'' => ?_⟩
    · rw [hsb.2 b (fun q : b = S => away (by rw [← q]; exact hb))]; exact e
    · refine hR s'' (Moved.trans W.gtrans ((hm.mono more).then_heap (Nat.le_succ _) fun b o hb e => ?_) hm'') hS''
      rw [hsb.2 b (fun q : b = S => hb (by rw [q]; exact List.mem_cons_self))]; exact e

set_option maxHeartbeats 8000000 in
theorem tx_of_list {l : Addr} {items : Array Value} (xs : List Str) {Q : Value → Shared → Prop} (calm : A.handled = none) (hl : s.heap.IsList l items) (hit : StrsAre items.toList xs) (hb : xs.length + 1 < scanBound)
    (fin : ∀ (hz : Heap) (tk : Nat), TxS P w hz s.heap.objs.size (txAll xs) → (∀ b o, s.heap.get? b = some o → hz.get? b = some o) → Q (.ref s.heap.objs.size) { s with heap := hz, toks := tk }) :
    wpAny (model P w) A (call (.type "set") [.ref l]) Q E s := by
  have hisz : items.size = xs.length := by
    have q := hit.length
    rw [Array.length_toList] at q
    exact q
  obtain ⟨c, tl, hmro⟩ := F.called_set.mro
  have z0 := F.called_set.made
  have z1 := F.called_set.sub
  refine wpAny_call (codeAny_of_tree ?_)
  show wpAny _ _ (callAny (.type "set") _) _ _ _
  refine wpAny_pure ⟨Code.quiet_builtin _ (by decide +kernel), codeAny_builtin F.entry_type_call ?_⟩
  rw [Around.under_plain (weight_type_call_type "set" [.ref l] []) rfl]
  have z2 := F.called_set.notType
  have z3 := F.called_set.canCreate
  have z4 := F.typeCall_set_1 (.ref l)
  repeat (any_goals (first | assumption | wp_step))
  refine codeAny_mono (code_set_led1 (.ref l) (E := E) (Q₁ := fun obj s₁ => obj = .ref s.heap.objs.size ∧ s₁ = { s with heap := putS w s.heap }) ⟨rfl, rfl⟩) fun r s₁ hr => ?_
  cases r with
  | error e => exact hr
  | ok fl =>
    cases fl with
    | ret obj =>
      obtain ⟨rfl, rfl⟩ := hr
      have hS : (putS w s.heap).get? s.heap.objs.size = some (bareS w) := Heap.get?_push_size _ rfl
      have hT : Shared.TypeIs { s with heap := putS w s.heap } (.ref s.heap.objs.size) "set" := ⟨_, hS, rfl⟩
      have z5 := F.called_set.init.lookup
      have z6 := F.called_set.init.bind (.ref s.heap.objs.size)
      repeat (any_goals (first | assumption | wp_step))
      refine codeAny_mono (codeAny_call_builtin (R := wants (fun r s₂ => r = .none ∧ ∃ hz tk, s₂ = { s with heap := hz, toks := tk } ∧ TxS P w hz s.heap.objs.size (txAll xs) ∧
          (∀ b o, s.heap.get? b = some o → hz.get? b = some o)) E) F.called_set.init.plain F.entry_set_init (check_set_init_1 hT ?_)) fun r₂ s₂ hr₂ => ?_
      · obtain ⟨ol, hol, hcl, nl, hdl⟩ := hl
        obtain ⟨oc, od, dt, osl⟩ := ol
        simp only at hcl hdl
        subst hcl
        subst hdl
        have hol' : (putS w s.heap).get? l = some { cls := .type "list", dict := od, data := .seq items nl, slots := osl } := Heap.get?_push_of_some _ hol
        have z7 := F.sub_list_set
        have z8 := F.sub_list_frozenset
        have z9 : (Value.type "list" == Value.type "dict") = false := by decide
        have hl1 : (putS w s.heap).IsList l items := ⟨_, hol', rfl, nl, rfl⟩
        unfold Builtin.«set.__init__» noKeywords Builtin.Frozenset.updateFrom
        generalize hPI : pyIter = PI
        wp_walk
        subst hPI
        refine wpAny_pyIter_list hl1 ?_
        refine wpAny_bind (wpAny_runValue ?_)
        have lt : l < s.heap.objs.size := Heap.lt_size hol
        have calm3 : A.in1.in1.in1.handled = none := by simp [calm]
        have sz1 : (putS w s.heap).objs.size = s.heap.objs.size + 1 := Heap.size_push ..
        have neI : l ≠ (putS w s.heap).objs.size := by
          rw [sz1]
          exact Nat.ne_of_lt (Nat.lt_succ_of_lt lt)
        have away : s.heap.objs.size ∉ [(putS w s.heap).objs.size, l] := by
          rw [sz1]; simp only [List.mem_cons, List.mem_singleton, List.not_mem_nil, or_false, not_or]
          exact ⟨Nat.ne_of_lt (Nat.lt_succ_self _), Nat.ne_of_gt lt⟩
        have hval : ∀ (i : Nat) (v : Value), items[i]? = some v → ∃ k t, xs[i]? = some k ∧ v = .str k t := fun i v hv => by
          have hi : i < xs.length := by rw [← hisz]; exact (Array.getElem?_eq_some_iff.mp hv).1
          exact tx_at hit i v (by rw [Array.getElem?_toList]; exact hv)
        refine tx_loop ((Walks.list calm3 _ l neI items).toS) s.heap.objs.size
          away xs hisz hb hval (items.size - 0) 0 _ (by omega) (Nat.zero_le _)
          ⟨⟨_, Heap.get?_push_size _ rfl, rfl, rfl⟩, (hl1.push _)⟩ ?hS0 ?hR
        case hS0 =>
          exact bare_tx (Heap.get?_push_of_some _ hS)
        case hR =>
          intro s' hm hS'
          obtain ⟨h', g2, d', tk', os'⟩ := s'
          have eg : g2 = s.gens := hm.gens
          have ed : d' = s.drawn := hm.drawn
          have eo : os' = s.os := hm.os
          subst eg; subst ed; subst eo
          show wpAny _ _ _ _ _ _
          refine wpAny_pure ?_
          show wpAny _ _ (ret Value.none) _ _ _
          refine wpAny_pure ⟨rfl, h', tk', rfl, hS', fun b o e => ?_⟩
          have b0 : b < s.heap.objs.size := Heap.lt_size e
          have b1 : b ≠ s.heap.objs.size := Nat.ne_of_lt b0
          have b2 : b ≠ (putS w s.heap).objs.size := by
            rw [sz1]
            exact Nat.ne_of_lt (Nat.lt_succ_of_lt b0)
          exact hm.heap b o (by simp only [List.mem_cons, List.mem_singleton, List.not_mem_nil, or_false, not_or]; exact ⟨b1, b2⟩) (Heap.get?_push_of_some _ (Heap.get?_push_of_some _ e))
      · cases r₂ with
        | error e => exact hr₂
        | ok fl₂ =>
          cases fl₂ with
          | ret r =>
            obtain ⟨rfl, h', tk, rfl, hS', hk'⟩ := hr₂
            repeat (any_goals (first | assumption | wp_step))
            exact fin _ _ hS' hk'
          | _ => exact hr₂.elim
    | _ => exact hr.elim

set_option maxHeartbeats 8000000 in
theorem tx_of_tuple {l : Addr} {items : Array Value} (xs : List Str) {Q : Value → Shared → Prop} (calm : A.handled = none) (hl : s.heap.IsTuple l items) (hit : StrsAre items.toList xs) (hb : xs.length + 1 < scanBound)
    (fin : ∀ (hz : Heap) (tk : Nat), TxS P w hz s.heap.objs.size (txAll xs) → (∀ b o, s.heap.get? b = some o → hz.get? b = some o) → Q (.ref s.heap.objs.size) { s with heap := hz, toks := tk }) :
    wpAny (model P w) A (call (.type "set") [.ref l]) Q E s := by
  have hisz : items.size = xs.length := by
    have q := hit.length
    rw [Array.length_toList] at q
    exact q
  obtain ⟨c, tl, hmro⟩ := F.called_set.mro
  have z0 := F.called_set.made
  have z1 := F.called_set.sub
  refine wpAny_call (codeAny_of_tree ?_)
  show wpAny _ _ (callAny (.type "set") _) _ _ _
  refine wpAny_pure ⟨Code.quiet_builtin _ (by decide +kernel), codeAny_builtin F.entry_type_call ?_⟩
  rw [Around.under_plain (weight_type_call_type "set" [.ref l] []) rfl]
  have z2 := F.called_set.notType
  have z3 := F.called_set.canCreate
  have z4 := F.typeCall_set_1 (.ref l)
  repeat (any_goals (first | assumption | wp_step))
  refine codeAny_mono (code_set_led1 (.ref l) (E := E) (Q₁ := fun obj s₁ => obj = .ref s.heap.objs.size ∧ s₁ = { s with heap := putS w s.heap }) ⟨rfl, rfl⟩) fun r s₁ hr => ?_
  cases r with
  | error e => exact hr
  | ok fl =>
    cases fl with
    | ret obj =>
      obtain ⟨rfl, rfl⟩ := hr
      have hS : (putS w s.heap).get? s.heap.objs.size = some (bareS w) := Heap.get?_push_size _ rfl
      have hT : Shared.TypeIs { s with heap := putS w s.heap } (.ref s.heap.objs.size) "set" := ⟨_, hS, rfl⟩
      have z5 := F.called_set.init.lookup
      have z6 := F.called_set.init.bind (.ref s.heap.objs.size)
      repeat (any_goals (first | assumption | wp_step))
      refine codeAny_mono (codeAny_call_builtin (R := wants (fun r s₂ => r = .none ∧ ∃ hz tk, s₂ = { s with heap := hz, toks := tk } ∧ TxS P w hz s.heap.objs.size (txAll xs) ∧
          (∀ b o, s.heap.get? b = some o → hz.get? b = some o)) E) F.called_set.init.plain F.entry_set_init (check_set_init_1 hT ?_)) fun r₂ s₂ hr₂ => ?_
      · obtain ⟨ol, hol, hcl, nl, hdl⟩ := hl
        obtain ⟨oc, od, dt, osl⟩ := ol
        simp only at hcl hdl
        subst hcl
        subst hdl
        have hol' : (putS w s.heap).get? l = some { cls := .type "tuple", dict := od, data := .seq items nl, slots := osl } := Heap.get?_push_of_some _ hol
        have z7 := F.sub_tuple_set
        have z8 := F.sub_tuple_frozenset
        have z9 : (Value.type "tuple" == Value.type "dict") = false := by decide
        have hl1 : (putS w s.heap).IsTuple l items := ⟨_, hol', rfl, nl, rfl⟩
        unfold Builtin.«set.__init__» noKeywords Builtin.Frozenset.updateFrom
        generalize hPI : pyIter = PI
        wp_walk
        subst hPI
        refine wpAny_pyIter_tuple hl1 ?_
        refine wpAny_bind (wpAny_runValue ?_)
        have lt : l < s.heap.objs.size := Heap.lt_size hol
        have calm3 : A.in1.in1.in1.handled = none := by simp [calm]
        have sz1 : (putS w s.heap).objs.size = s.heap.objs.size + 1 := Heap.size_push ..
        have neI : l ≠ (putS w s.heap).objs.size := by
          rw [sz1]
          exact Nat.ne_of_lt (Nat.lt_succ_of_lt lt)
        have away : s.heap.objs.size ∉ [(putS w s.heap).objs.size, l] := by
          rw [sz1]; simp only [List.mem_cons, List.mem_singleton, List.not_mem_nil, or_false, not_or]
          exact ⟨Nat.ne_of_lt (Nat.lt_succ_self _), Nat.ne_of_gt lt⟩
        have hval : ∀ (i : Nat) (v : Value), items[i]? = some v → ∃ k t, xs[i]? = some k ∧ v = .str k t := fun i v hv => by
          have hi : i < xs.length := by rw [← hisz]; exact (Array.getElem?_eq_some_iff.mp hv).1
          exact tx_at hit i v (by rw [Array.getElem?_toList]; exact hv)
        refine tx_loop ((Walks.tuple calm3 _ l neI items).toS) s.heap.objs.size
          away xs hisz hb hval (items.size - 0) 0 _ (by omega) (Nat.zero_le _)
          ⟨⟨_, Heap.get?_push_size _ rfl, rfl, rfl⟩, (hl1.push _)⟩ ?hS0 ?hR
        case hS0 =>
          exact bare_tx (Heap.get?_push_of_some _ hS)
        case hR =>
          intro s' hm hS'
          obtain ⟨h', g2, d', tk', os'⟩ := s'
          have eg : g2 = s.gens := hm.gens
          have ed : d' = s.drawn := hm.drawn
          have eo : os' = s.os := hm.os
          subst eg; subst ed; subst eo
          show wpAny _ _ _ _ _ _
          refine wpAny_pure ?_
          show wpAny _ _ (ret Value.none) _ _ _
          refine wpAny_pure ⟨rfl, h', tk', rfl, hS', fun b o e => ?_⟩
          have b0 : b < s.heap.objs.size := Heap.lt_size e
          have b1 : b ≠ s.heap.objs.size := Nat.ne_of_lt b0
          have b2 : b ≠ (putS w s.heap).objs.size := by
            rw [sz1]
            exact Nat.ne_of_lt (Nat.lt_succ_of_lt b0)
          exact hm.heap b o (by simp only [List.mem_cons, List.mem_singleton, List.not_mem_nil, or_false, not_or]; exact ⟨b1, b2⟩) (Heap.get?_push_of_some _ (Heap.get?_push_of_some _ e))
      · cases r₂ with
        | error e => exact hr₂
        | ok fl₂ =>
          cases fl₂ with
          | ret r =>
            obtain ⟨rfl, h', tk, rfl, hS', hk'⟩ := hr₂
            repeat (any_goals (first | assumption | wp_step))
            exact fin _ _ hS' hk'
          | _ => exact hr₂.elim
    | _ => exact hr.elim

theorem strs_good : ∀ (l : List Value), (∀ v ∈ l, ∃ x tk, v = Value.str x tk) → StrsAre l (l.map strOf)
  | [], _ => .nil
  | v :: l, h => by
    obtain ⟨x, tk, rfl⟩ := h v List.mem_cons_self
    exact .cons x tk (strs_good l fun u hu => h u (List.mem_cons_of_mem _ hu))
theorem tx_sorted {a : Addr} {xs : List Str} {Q : Value → Shared → Prop} (R : TxS P w s.heap a xs) (calm : A.handled = none) (h64 : xs.length < 64)
    (fin : ∀ s' p (out : Array Value) (c : Nat) (ys : List Str), (∀ b o, s.heap.get? b = some o → s'.heap.get? b = some o) → s'.gens = s.gens → s'.os = s.os → s.heap.objs.size ≤ p →
      s'.heap.get? p = some (seqObj "list" out c) → StrsAre out.toList ys → sortedS ys = true → ys.Perm xs → Q (.ref p) s') :
    wpAny (model P w) A (call (.builtin "sorted") [.ref a]) Q E s := by
  obtain ⟨o, es, ep, t, q0, q1, q2, q3, ⟨q4, q5⟩, q6, q7⟩ := R
  refine Calls.call_function_entry kind_sorted plain_sorted entry_sorted (args_sorted1 _) ?_
  unfold Builtin.«sorted»
  refine wpAny_bind (m := checkCount "sorted" 1 1 _) (wpAny_pure ?_)
  refine wpAny_bind (collect_set (A := A.in1) calm ⟨o, q0, q1.1, q2⟩ q5 q4 q6 q7 fun s1 vs k1 hz g1 o1 pm => ?_)
  have few : vs.length < 64 := by
    rw [pm.length_eq, List.length_map, Array.length_toList, q3.size]
    exact h64
  have hI : StrsAre vs (vs.map strOf) := strs_good vs fun v hv => by
    obtain ⟨e, he, q⟩ := List.mem_map.mp (pm.mem_iff.mp hv)
    obtain ⟨x, tk, h1, _⟩ := q3.good e he
    exact ⟨x, tk, by rw [← q]; exact h1⟩
  have pk : (vs.map strOf).Perm xs := by
    have q := pm.map strOf
    rw [List.map_map] at q
    have e : es.toList.map (strOf ∘ fun x => x.2) = es.toList.map txK := List.map_congr_left fun e he => by
      obtain ⟨x, tk, h1, _⟩ := q3.good e he
      show strOf e.2 = txK e
      unfold txK
      rw [h1]
      rfl
    rw [e] at q
    exact q.trans q3.perm
  refine wpAny_bind (wpAny_newList ?_ (by rw [sizeLine_eq]; omega))
  have oL : (s1.heap.push (seqObj "list" vs.toArray 0)).get? s1.heap.objs.size = some (seqObj "list" vs.toArray 0) := Heap.get?_push_size _ rfl
  refine wpAny_bind (wpAny_holding (wpAny_call_entry slot_list_sort ⟨_, oL, rfl⟩ entry_list_sort
    (list_sort_treeK PyProof.Rows.strKind_oneLt oL hI.keysOf (fun v₁ v₂ rest e => keyKind_strs (by rw [← e]; exact hI)) few fun st' hp hs => ⟨_, rfl, ?_⟩) (args_list_sort _)))
  obtain ⟨ys, a1, a2, a3⟩ := sorted_out_str hI hp hs
  obtain ⟨c, hc⟩ := sortedHeap_at (vs := vs) (out := (arrOf st').map (·.2)) oL
  refine wpAny_pure ⟨_, rfl, fin _ s1.heap.objs.size _ c ys (fun b u e => ?_) g1 o1 hz hc a1 a3 (a2.trans pk)⟩
  have q := k1 b u e
  have lt := Heap.lt_size q
  show (sortedHeap (s1.heap.push (seqObj "list" vs.toArray 0)) s1.heap.objs.size vs ((arrOf st').map (·.2))).get? b = some u
  rw [sortedHeap_old (Nat.ne_of_lt lt) (by rw [Heap.size_push]; exact Nat.lt_succ_of_lt lt)]
  exact Heap.get?_push_of_some _ q
end
/-! ### over the layer -/
def TxO (P : Program) (w : World) (a : Addr) (xs : List Str) : HO := .ext fun h => TxS P w h a xs
section
variable {X : Cx}
theorem txO_ok {P : Program} {w : World} {H : Hp} {h : Heap} {a : Addr} {xs : List Str} (R : TxS P w h a xs) : ObjOk P w H h a (TxO P w a xs) := by
  have ⟨o, _, _, _, ho, _⟩ := R
  exact ⟨R, ⟨o, ho⟩, fun h1 h2 p k => TxS.to p k⟩
def rSetTx (X : Cx) : List V → Hp → VK → Prop := fun vs H Q => ∃ (l : Addr) (xs : List Str), vs = [V.ref l] ∧ (SqL X.K H l (xs.map V.str) ∨ SqT X.K H l (xs.map V.str)) ∧ xs.length < 64 ∧
  ∀ a, H a = none → Q (.ref a) (upd H a (TxO X.prog X.w a (txAll xs)))
theorem cr_setTx (hc : X.calm = true) : CallR X (.type "set") (rSetTx X) := by
  intro pins s σ H vs us Q I r h
  obtain ⟨l, xs, rfl, hl, h64, q⟩ := h
  rw [Vals.ref1 r]
  have hn : H s.heap.objs.size = none := I.hok.fresh (Nat.le_refl _)
  have sb : xs.length + 1 < scanBound := by unfold scanBound; omega
  rcases hl with hl | hl
  · obtain ⟨its, rv, pl, hz⟩ := I.list hl
    refine tx_of_list (P := X.prog) (w := X.w) xs (I.ok.hd hc) pl.isList (by simpa using rv.strs) sb fun h' tk R k => ?_
    exact ⟨.ref s.heap.objs.size, upd H s.heap.objs.size (TxO X.prog X.w s.heap.objs.size (txAll xs)), I.laid (t' := tk) k (Nat.le_refl _) (txO_ok R), rfl, q _ hn⟩
  · obtain ⟨its, rv, ⟨o, ho, hcl, n, hd⟩, _⟩ := I.tuple hl
    refine tx_of_tuple (P := X.prog) (w := X.w) xs (I.ok.hd hc) (items := its.toArray) ⟨o, ho, hcl, n, hd⟩ (by simpa using rv.strs) sb fun h' tk R k => ?_
    exact ⟨.ref s.heap.objs.size, upd H s.heap.objs.size (TxO X.prog X.w s.heap.objs.size (txAll xs)), I.laid (t' := tk) k (Nat.le_refl _) (txO_ok R), rfl, q _ hn⟩
def rSortTx (X : Cx) : List V → Hp → VK → Prop := fun vs H Q => ∃ (a : Addr) (xs : List Str), vs = [V.ref a] ∧ H a = some (TxO X.prog X.w a xs) ∧ xs.length < 64 ∧
  ∀ (ys : List Str) (p : Addr), ys.Perm xs → sortedS ys = true → xs.Nodup → H p = none → Q (.ref p) (upd H p (.lst (ys.map V.str)))
theorem cr_sortTx (hc : X.calm = true) : CallR X (.builtin "sorted") (rSortTx X) := by
  intro pins s σ H vs us Q I r h
  obtain ⟨a, xs, rfl, ha, h64, q⟩ := h
  have R : TxS X.prog X.w s.heap a xs := (I.hok a _ ha).1
  have nd : xs.Nodup := by
    obtain ⟨_, _, _, _, _, _, _, q3, _⟩ := R
    exact q3.nd
  rw [Vals.ref1 r]
  refine tx_sorted R (I.ok.hd hc) h64 fun s' p out c ys k g o hp hg hi hs hm => ?_
  have hlen : (ys.map V.str).length ≤ sizeLine := by
    rw [List.length_map, hm.length_eq, sizeLine_eq]
    omega
  have hn : H p = none := I.hok.fresh hp
  have J : Inv X pins σ (upd H p (.lst (ys.map V.str))) { s with heap := s'.heap, gens := s'.gens, drawn := s'.drawn, toks := s'.toks } :=
    I.call (ch := []) (Un.laid k hp hn) (I.hok.laid k hp ⟨hlen, out.toList, c, vals_of_strs hi, hg⟩) (by rw [g]; exact I.bare) (fun _ z => nomatch z)
  have e : s' = { s with heap := s'.heap, gens := s'.gens, drawn := s'.drawn, toks := s'.toks } := by
    obtain ⟨b0, b1, b2, b3, b4⟩ := s'
    obtain ⟨c0, c1, c2, c3, c4⟩ := s
    cases o
    rfl
  rw [e]
  exact ⟨.ref p, _, J, rfl, q ys p hm hs nd hn⟩
end
end Jd
/-! try: .. except (A, B, ..) as e: suite, where the error outlives the suite: it is tracked behind it. -/
namespace Jd
open PySem PySem.Spec PyProof.Rows L2
/-- an error object at a: its class, its own dict -/
def ErO (cls : Value) (d : Option Addr) (a : Addr) : HO := .ext fun h => ∃ (oe : Obj) (vs : Array Value), h.get? a = some oe ∧ Zc cls d oe ∧ oe.data = .fields vs
theorem erO_ok {P : Program} {w : World} {H : Hp} {h : Heap} {a : Addr} {cls : Value} {d : Option Addr} {oe : Obj} {vs : Array Value} (q : h.get? a = some oe) (z : Zc cls d oe) (dt : oe.data = .fields vs) : ObjOk P w H h a (ErO cls d a) :=
  ⟨⟨oe, vs, q, z, dt⟩, ⟨oe, q⟩, fun _ _ ⟨o, v, r0, r1⟩ k => ⟨o, v, k o r0, r1⟩⟩
theorem flyZ_more {B : Heap} {l : List Env} {e : Addr} {Z : Obj → Prop} {h h' : Heap} (R : HandSPX.FlyingZ B l e Z h) (k : ∀ b o, h.get? b = some o → h'.get? b = some o) : HandSPX.FlyingZ B l e Z h' := by
  obtain ⟨f1, f2, f3, oe, vs, T, oT, ts, q0, q1, q2, q3, q4, q5, q6, q7⟩ := R
  exact ⟨fun b o q => k b o (f1 b o q), f2, f3.of_keeps fun b o q _ => ⟨o, k b o q, rfl⟩, oe, vs, T, oT, ts, k _ _ q0, q1, q2, q3, q4, q5, k _ _ q6, q7⟩
section
variable {X : Cx} {pins : List (Addr × Obj)} {σ : L2.St} {H : Hp} {s : Shared}
/-- an object that stands untracked in the heap is tracked from now on -/
theorem Inv_track {a : Addr} {oe : Obj} {o : HO} (I : Inv X pins σ H s) (he : s.heap.get? a = some oe) (na : H a = none) (n0 : X.s_0.heap.get? a = none) (np : ∀ p ∈ X.pn ++ pins, p.1 ≠ a) (nL : a ≠ X.env.locals)
    (nc : ∀ v, oe.data ≠ .cell v) (new : ObjOk X.prog X.w (upd H a o) s.heap a o) : Inv X pins σ (upd H a o) s := by
  have ne0 : ∀ {b : Addr} {ob : Obj}, X.s_0.heap.get? b = some ob → b ≠ a := fun {b ob} q z => by
    rw [z, n0] at q
    cases q
  have neS : ∀ {b : Addr} {u : HO}, H b = some u → b ≠ a := fun {b u} q z => by
    rw [z, na] at q
    cases q
  have nce : ∀ x c, X.env.cells.lookup x = some c → c ≠ a := fun x c q z => by
    obtain ⟨v, ob, r0, r1⟩ := I.cell x c q
    rw [z, he] at r0
    cases r0
    exact nc v r1
  refine ⟨I.ok, I.os, I.bare, ⟨I.base.keep, I.base.slot, fun b ob q n hx => ?_, I.base.there, fun b xs q => ?_, fun b ob u q => ?_, fun b ps q => ?_⟩, I.loc, I.cell, ?_, fun x c q => ?_, fun p hp => ?_, fun b u q => ?_, I.len⟩
  · rw [upd_ne (ne0 q)]
    exact I.base.free b ob q n hx
  · have r := I.base.tups b xs q
    rw [upd_ne (neS r)]
    exact r
  · have r := I.base.frzs b ob u q
    rw [upd_ne (neS r)]
    exact r
  · obtain ⟨m, r⟩ := I.base.tbls b ps q
    exact ⟨m, by rw [upd_ne (neS r)]; exact r⟩
  · rw [upd_ne nL.symm]
    exact I.free
  · rw [upd_ne (nce x c q)]
    exact I.freeC x c q
  · obtain ⟨r0, r1, r2⟩ := I.pin p hp
    exact ⟨r0, by rw [upd_ne (np p hp)]; exact r1, r2⟩
  · by_cases hb : b = a
    · subst hb
      rw [upd_same] at q
      cases q
      exact new
    · rw [upd_ne hb] at q
      exact (I.hok b u q).stay (fun c v _ r => r) (fun c r => by rw [upd_ne (neS r)]; exact r) fun c xs r => by rw [upd_ne (neS r)]; exact r
end
/-- what an except clause's tuple of classes is worth -/
def HTest (X : Cx) (t : Expr) (cs : List Value) : Prop := ∀ (a : Addr) (oe : Obj) (pn pins : List (Addr × Obj)) (σ : L2.St) (H : Hp) (s : Shared) (b : Bool) (Q : Bool → Shared → Prop) (E : Value → Shared → Prop),
  Inv (X.suite a pn) pins σ H s → s.heap.get? a = some oe → PySem.W.exmAny X.K oe.cls cs = some b → (∀ hz, (∀ q o, s.heap.get? q = some o → hz.get? q = some o) → Q b { s with heap := hz }) →
  wpAny (model X.prog X.w) (X.A.mark (some (.ref a))) (eval t X.env) (fun c s₁ => wpAny (model X.prog X.w) (X.A.mark (some (.ref a))) (excMatches (.ref a) c) Q E s₁) E s
theorem names_ev {X : Cx} {x : Str} {c : Value} {a : Addr} {pn pins : List (Addr × Obj)} {σ : L2.St} {H : Hp} {s : Shared} {np : Pos} {Q : Value → Shared → Prop} {E : Value → Shared → Prop} (n : Names X x c) (I : Inv (X.suite a pn) pins σ H s) (q : Q c s) :
    wpAny (model X.prog X.w) (X.A.mark (some (.ref a))) (eval (.Name x np) X.env) Q E s := by
  obtain ⟨hg, hdbg, hm | ⟨hm, hv, hnn⟩⟩ := n
  · exact ld_glob (X := X.suite a pn) I hg hm q hdbg
  · exact ld_blt (X := X.suite a pn) I hg hm hv q hnn hdbg
theorem htest2 {X : Cx} {x1 x2 : Str} {c1 c2 : Value} {p1 p2 tp : Pos} {kk : Nat} (n1 : Names X x1 c1) (n2 : Names X x2 c2) : HTest X (.Tuple [.Name x1 p1, .Name x2 p2] kk tp) [c1, c2] := by
  intro a oe pn pins σ H s b Q E I he hx q
  refine wpAny_Tuple (wpAny_items_cons (names_ev (pn := pn) (pins := pins) (σ := σ) (H := H) n1 I (wpAny_items_cons (names_ev (pn := pn) (pins := pins) (σ := σ) (H := H) n2 I (wpAny_items_nil ⟨(by show 2 ≤ sizeLine; decide), ?_⟩)))))
  have kp : ∀ q o, s.heap.get? q = some o → (s.heap.push { cls := .type "tuple", data := .seq [c1, c2].toArray }).get? q = some o := fun _ _ z => Heap.get?_push_of_some _ z
  have LT : PySem.W.Looks (model X.prog X.w) s.heap (typeOf (.ref a)) oe.cls := fun A Q E s k q => wpAny_typeOf_ref (k _ _ he) q
  exact (PySem.W.exm_tup2 (I.kIn.keeps kp) (LT.keeps kp) (Heap.get?_push_size s.heap rfl) hx).here (q _ kp)
theorem htest3 {X : Cx} {x1 x2 x3 : Str} {c1 c2 c3 : Value} {p1 p2 p3 tp : Pos} {kk : Nat} (n1 : Names X x1 c1) (n2 : Names X x2 c2) (n3 : Names X x3 c3) : HTest X (.Tuple [.Name x1 p1, .Name x2 p2, .Name x3 p3] kk tp) [c1, c2, c3] := by
  intro a oe pn pins σ H s b Q E I he hx q
  refine wpAny_Tuple (wpAny_items_cons (names_ev (pn := pn) (pins := pins) (σ := σ) (H := H) n1 I (wpAny_items_cons (names_ev (pn := pn) (pins := pins) (σ := σ) (H := H) n2 I (wpAny_items_cons (names_ev (pn := pn) (pins := pins) (σ := σ) (H := H) n3 I (wpAny_items_nil ⟨(by show 3 ≤ sizeLine; decide), ?_⟩)))))))
  have kp : ∀ q o, s.heap.get? q = some o → (s.heap.push { cls := .type "tuple", data := .seq [c1, c2, c3].toArray }).get? q = some o := fun _ _ z => Heap.get?_push_of_some _ z
  have LT : PySem.W.Looks (model X.prog X.w) s.heap (typeOf (.ref a)) oe.cls := fun A Q E s k q => wpAny_typeOf_ref (k _ _ he) q
  exact (PySem.W.exm_tup3 (I.kIn.keeps kp) (LT.keeps kp) (Heap.get?_push_size s.heap rfl) hx).here (q _ kp)
theorem htest4 {X : Cx} {x1 x2 x3 x4 : Str} {c1 c2 c3 c4 : Value} {p1 p2 p3 p4 tp : Pos} {kk : Nat} (n1 : Names X x1 c1) (n2 : Names X x2 c2) (n3 : Names X x3 c3) (n4 : Names X x4 c4) :
    HTest X (.Tuple [.Name x1 p1, .Name x2 p2, .Name x3 p3, .Name x4 p4] kk tp) [c1, c2, c3, c4] := by
  intro a oe pn pins σ H s b Q E I he hx q
  refine wpAny_Tuple (wpAny_items_cons (names_ev (pn := pn) (pins := pins) (σ := σ) (H := H) n1 I (wpAny_items_cons (names_ev (pn := pn) (pins := pins) (σ := σ) (H := H) n2 I (wpAny_items_cons (names_ev (pn := pn) (pins := pins) (σ := σ) (H := H) n3 I (wpAny_items_cons (names_ev (pn := pn) (pins := pins) (σ := σ) (H := H) n4 I (wpAny_items_nil ⟨(by show 4 ≤ sizeLine; decide), ?_⟩)))))))))
  have kp : ∀ q o, s.heap.get? q = some o → (s.heap.push { cls := .type "tuple", data := .seq [c1, c2, c3, c4].toArray }).get? q = some o := fun _ _ z => Heap.get?_push_of_some _ z
  have LT : PySem.W.Looks (model X.prog X.w) s.heap (typeOf (.ref a)) oe.cls := fun A Q E s k q => wpAny_typeOf_ref (k _ _ he) q
  exact (PySem.W.exm_tup4 (I.kIn.keeps kp) (LT.keeps kp) (Heap.get?_push_size s.heap rfl) hx).here (q _ kp)
/-- what the clause wishes of an exception of the body: slot i is the error's name; behind the suite the error stands tracked -/
def wErr (K : PySem.W.Frag) (cs : List Value) (i : Nat) (ts : Addr → Value → Option Addr → TS) (Wout : WX) (D : Ends) : WX := fun cls d σ H =>
  ∃ b, PySem.W.exmAny K cls cs = some b ∧ (b = true → ∀ a, H a = none → ts a cls d { nx := fun σ' H' => H' a = none → D.nx (σ'.set i none) (upd H' a (ErO cls d a)), rt := D.rt, bk := fun σ' H' => D.bk (σ'.set i none) H', ct := fun σ' H' => D.ct (σ'.set i none) H' } (σ.set i (some (.ref a))) H) ∧
    (b = false → Wout cls d σ H)
section
variable {X : Cx} {n : Str} {t : Expr} {cs : List Value} {i : Nat} {body suite : List Stmt} {b₀ : Stmt} {pos pos' : Pos} {tb : WX → TS} {ts : Addr → Value → Option Addr → TS} {Wout : WX}
theorem ps_try_err (hs : X.stack = X.env :: X.outer) (hf : X.env.frame = some X.env.locals) (hex : X.ex = []) (hN : X.N.Nodup) (hi : X.N[i]? = some n) (hln : X.env.kindOf n = some .local) (hc : HTest X t cs) (tk : Takes X Wout)
    (hb : ∀ (W : WX) (pn : List (Addr × Obj)) (xe : Value → Shared → Prop), Takes (X.tr pn xe) W → PassesOwn (model X.prog X.w) X.A X.env xe → PSs (X.tr pn xe) body (tb W))
    (hsu : ∀ (a : Addr) (oe : Obj) (cls : Value) (d : Option Addr) (pn : List (Addr × Obj)), Zc cls d oe → (∃ vs, oe.data = .fields vs) → PSs (X.suite a ((a, oe) :: pn)) (b₀ :: suite) (ts a cls d)) :
    PS X (.Try body [.ExceptHandler (some t) (some n) (b₀ :: suite) pos'] [] [] pos) (fun D σ H => tb (wErr X.K cs i ts Wout D) D σ H) := by
  refine ⟨fun pins s σ H D I h => ?_⟩
  have ok := I.ok
  have loc : Loc X.env.scope n := .inl hln
  have frm : X.A.frames = some (X.env :: X.outer) := by rw [ok.frames, hs]
  refine wpAny_Try_except ?_
  refine wpAny_mono ((hb (wErr X.K cs i ts Wout D) (X.pn ++ pins) (fun e s₁ => wpAny (model X.prog X.w) X.A (noteFrame e X.env) (fun _ s₂ => wpAny (model X.prog X.w) X.A (setFlight e none) (fun _ s₃ =>
    wpAny (model X.prog X.w) X.A (handleBy e X.env [.ExceptHandler (some t) (some n) (b₀ :: suite) pos']) (SP X pins D) X.xe s₃) X.xe s₂) X.xe s₁) (fun u s' xx => ?_) PassesOwn.looking).run [] s σ H D (I.toTry _) h) (fun f s1 hsp => ?_) (fun e s1 he => he)
  · obtain ⟨a, B, sI, pins', σ', H', cls, d, rfl, J', nb, up, sky, na, os, ag, b, w1, w2, w3⟩ := xx
    have J : Inv X pins σ' H' sI := J'.ofTry ok
    have sk : Sky B (X.env :: X.outer) a (Zc cls d) X.env.locals s'.heap := by rw [← hs]; exact sky
    show wpAny (model X.prog X.w) X.A (noteFrame (.ref a) X.env) _ _ _
    refine Sky.land Zc.steady frm hf sk fun h3 fl3 up3 => ?_
    have J3 : Inv X pins σ' H' { s' with heap := h3 } := J.landed nb fl3.1 (up.trans up3) os ag
    obtain ⟨oe3, vs3, he3, hz3, hd3⟩ := fl3.there
    have nfr : a ∉ frs (X.env :: X.outer) := fun hm => by
      obtain ⟨_, o', e', nf⟩ := fl3.2.2.1.mem hm
      rw [he3] at e'
      cases e'
      exact nf _ hd3
    have nL : a ≠ X.env.locals := fun z => nfr (List.mem_filterMap.mpr ⟨X.env, List.mem_cons_self, by rw [hf, z]⟩)
    have nF : a ∉ X.fs := fun hm => by
      obtain ⟨e, he, q⟩ := List.mem_filterMap.mp hm
      exact nfr (List.mem_filterMap.mpr ⟨e, List.mem_cons_of_mem _ he, q⟩)
    have nI : sI.heap.get? a = none := by
      cases q : sI.heap.get? a with
      | none => rfl
      | some o =>
        have r := nb a o q (by rw [hs]; exact nfr)
        rw [fl3.2.1] at r
        cases r
    have n0 : X.s_0.heap.get? a = none := by
      cases q : X.s_0.heap.get? a with
      | none => rfl
      | some o =>
        obtain ⟨o', r⟩ := J.base.there a o q (by rw [hex]; exact fun z => nomatch z)
        rw [nI] at r
        cases r
    have np : ∀ p ∈ X.pn ++ pins, p.1 ≠ a := fun p hp z => by
      have r := (J.pin p hp).1
      rw [z, nI] at r
      cases r
    have S3 := J3.suite he3 hd3 na nL nF
    refine wpAny_handleBy_cons (codeAny_handlers_test (hc a oe3 ((a, oe3) :: (X.pn ++ pins)) [] σ' H' _ b _ _ S3 he3 (by rw [hz3.1]; exact w1) fun h5 k5 => ?_)) (by intro q; cases q)
    have fl5 : HandSPX.FlyingZ B (X.env :: X.outer) a (Zc cls d) h5 := flyZ_more fl3 k5
    have up5 : h3.UpToSlots h5 := Heap.UpToSlots.of_keeps k5
    cases b with
    | true =>
      refine codeAny_handlers_suite_as ?_
      refine HandSPX.lands_againZ fl5 fun h4 fl4 up4 => ?_
      have J4 : Inv X pins σ' H' { s' with heap := h4 } := J.landed nb fl4.1 (((up.trans up3).trans up5).trans up4) os ag
      obtain ⟨oe4, vs4, he4, hz4, hd4⟩ := fl4.there
      have S4 := J4.suite he4 hd4 na nL nF
      refine store_ok (X := X.suite a ((a, oe4) :: (X.pn ++ pins))) (v := .ref a) S4 hN hi loc rfl (fun s5 S5 => ?_) (.inr hln)
      refine wpAny_mono ((hsu a oe4 cls d (X.pn ++ pins) hz4 ⟨_, hd4⟩).run [] s5 _ H' _ S5 (w2 rfl a na)) (fun f s6 hsp => ?_) (fun _ _ z => False.elim z)
      have gone : ∀ {σ6 : L2.St} {H6 : Hp} {Q : Shared → Prop}, Inv X pins σ6 H6 s6 → (∀ s7, Inv X pins (σ6.set i none) H6 s7 → Q s7) →
          wpAny (model X.prog X.w) X.A (do bindName X.env n .none; unbindBehindTheSuite X.env n pos') (fun _ s7 => Q s7) X.xe s6 := fun {σ6 H6 Q} S6 hq => gone_ok S6 hN hi hln hq
      cases f with
      | next =>
        obtain ⟨σ6, H6, S6, q6⟩ := hsp
        obtain ⟨r0, r1, _⟩ := S6.pin (a, oe4) (List.mem_append_left _ List.mem_cons_self)
        have S7 := Inv_track (o := ErO cls d a) (S6.unsuite ok) r0 r1 n0 np nL (fun v z => by have z' : oe4.data = .cell v := z; rw [hd4] at z'; cases z') (erO_ok r0 hz4 hd4)
        exact gone S7 fun s7 J7 => ⟨_, _, J7, q6 r1⟩
      | brk =>
        obtain ⟨σ6, H6, S6, q6⟩ := hsp
        exact gone (S6.unsuite ok) fun s7 J7 => ⟨_, _, J7, q6⟩
      | cont =>
        obtain ⟨σ6, H6, S6, q6⟩ := hsp
        exact gone (S6.unsuite ok) fun s7 J7 => ⟨_, _, J7, q6⟩
      | ret u =>
        obtain ⟨v6, σ6, H6, S6, r6, q6⟩ := hsp
        exact gone (S6.unsuite ok) fun s7 J7 => ⟨_, _, _, J7, r6, q6⟩
    | false =>
      show wpAny _ X.A (handleBy (.ref a) X.env []) _ _ _
      refine wpAny_handleBy_nil ?_
      obtain ⟨k1, k2, k3, oe, vs, T, oT, ts', g0, g1, g2, g3, gr⟩ := id fl5
      unfold PySem.passOn
      refine wpAny_bind (wpAny_field g0 g2 g3 ?_)
      rw [if_neg (show ¬ ((Value.ref T == Value.none) = true) from by simp)]
      have last : wpAny (model X.prog X.w) X.A (setFlight (.ref a) X.env.frame) (fun _ s4 => wpAny (model X.prog X.w) X.A (throw (.ref a) : Sem Flow) (SP X pins D) X.xe s4) X.xe { s' with heap := h5 } := by
        rw [hf]
        refine HandSPX.setFlight_upZ fl5 fun h4 hh4 up4 => wpAny_throw (tk _ _ ?_)
        exact ⟨a, B, sI, pins, σ', H', cls, d, rfl, J, nb, ((up.trans up3).trans up5).trans up4, .inr (.inr (by rw [hs]; exact hh4)), na, os, ag, w3 rfl⟩
      first
        | exact wpAny_bind (wpAny_pure (wpAny_bind last))
        | exact wpAny_bind last
  · cases f with
    | next =>
      obtain ⟨σ', H', J', q⟩ := hsp
      exact wpAny_execs_nil ⟨σ', H', J'.ofTry ok, q⟩
    | brk =>
      obtain ⟨σ', H', J', q⟩ := hsp
      exact ⟨σ', H', J'.ofTry ok, q⟩
    | cont =>
      obtain ⟨σ', H', J', q⟩ := hsp
      exact ⟨σ', H', J'.ofTry ok, q⟩
    | ret u =>
      obtain ⟨v, σ', H', J', r, q⟩ := hsp
      exact ⟨v, σ', H', J'.ofTry ok, r, q⟩
end
/-! ### the error behind the suite: its field, isinstance -/
/-- e.f, e an error that is tracked -/
def tErF (K : PySem.W.Frag) (f : Str) (te : TE) : TE := fun σ H Q => te σ H fun x H1 => ∃ (a C dd : Addr) (fs : List (Str × V)) (v : V), x = .ref a ∧ H1 a = some (ErO (.ref C) (some dd) a) ∧ XfC K C ∧ PySem.W.findIn K (.ref C) f = some none ∧
  H1 dd = some (.xd fs) ∧ fs.lookup f = some v ∧ Q v H1
theorem pe_erF {X : Cx} {e : Expr} {te : TE} {pos : Pos} {f : Str} (he : PE X e te) (hb : attributeBase e f X.env (eval e X.env) = eval e X.env := by rfl) : PE X (.Attribute e f pos) (tErF X.K f te) := by
  refine ⟨fun pins s σ H Q I h => ?_⟩
  refine attr_of hb (thn (he.run pins s σ H _ I h) fun u s1 hh => ?_)
  obtain ⟨x, H1, I1, rx, a, C, dd, fs, v, ex, ea, T, hno, ed, l, q⟩ := hh
  subst ex
  obtain rfl : u = Value.ref a := rx
  obtain ⟨oe, vs, r0, r1, r2⟩ := (I1.hok a _ ea).1
  have hx : ObjOk X.prog X.w H1 s1.heap dd (.xd fs) := I1.hok dd _ ed
  obtain ⟨mA, hns, hr⟩ := hx
  obtain ⟨od, ho, hl⟩ := lookIn_ns hns
  obtain ⟨u, hu, ru⟩ := RelO.some_of (v := v) (o := mA f) (by rw [← l]; exact hr f)
  have J : PySem.W.InstAt s1.heap a oe C (some od) := ⟨r0, r1.1, by unfold PySem.W.notCls; rw [r2] <;> rfl, by rw [r1.2]; exact ho⟩
  exact HandSPX.exc_get I1.kIn J T.ga T.gg T.exC (PySem.W.findObj_own T.hdC hno rfl (by rw [hl, hu])) (handed_of ru) ⟨v, H1, I1.tok _, ru, q⟩
end Jd
namespace Jd
open PySem PySem.Spec PyProof.Rows L2
/-! ### an own error over LookupError, made by its own __init__ -/
/-- what stands behind such a class in its order -/
abbrev leRow : List Value := [.type "LookupError", .type "Exception", .type "BaseException", .type "object"]
structure LexC (K : PySem.W.Frag) (C : Addr) : Prop where
  shape : ∃ nm ql N bs sl sb ab cl dt j0 j1 j2 j3 j5,
    K.lookup C = some (excClassObj nm ql C N bs leRow true sl sb ab cl dt j0 j1 j2 j3 j5 "LookupError.__new__")
  store : PySem.W.findIn K (.ref C) "__setattr__" = some (some (.builtin "object.__setattr__"))
  isE : PySem.W.subIn K (.ref C) (.type "BaseException") = some true
  isT : PySem.W.typeIn K (.ref C) = some (.type "type")
  keep : PySem.W.keepIn K (.ref C) = true
end Jd
namespace Jd
open PySem Builtin Builtin.ObjectAttr
theorem le_pass (self : Value) (C : Addr) : refuseLoop self "__setattr__" (.ref C :: leRow) = pure () := by
  rw [refuseLoop_ref]
  exact F.store_LookupError.passes self
section
variable {P : Program} {w : World} {A : Around} {R : Result → Shared → Prop} {hp : Heap} {g : Array GenState} {dr : Drawn} {tk0 : Nat} {os : OsState}
/-- e.f = v, e an error of such a class without a dict -/
theorem le_first {K : W.Frag} {f : Str} {tk : Tok} {v : Value} {e C : Addr} {cells : Array Value} {c : ClassData} (inK : K.In hp)
    (he : hp.get? e = some { cls := .ref C, data := .fields cells }) (hc : W.clsIn K C = some c) (hm : c.mro = .ref C :: leRow)
    (hh : c.hasDict = true) (hf : W.findIn K (.ref C) f = some none)
    (fin : ∀ hp' tk' dx, (∀ b o, b ≠ e → hp.get? b = some o → hp'.get? b = some o) → hp.objs.size ≤ dx → dx ≠ e →
      hp'.get? e = some { cls := .ref C, dict := some dx, data := .fields cells } →
      hp'.Ns1 dx (fun y => if y = f then some v else none) → R (.ok (.ret .none)) ⟨hp', g, dr, tk', os⟩) :
    codeAny (model P w) A (.call (.builtin "object.__setattr__") ⟨[.ref e, .str f tk, v], []⟩) R ⟨hp, g, dr, tk0, os⟩ := by
  have inst : W.InstAt hp e { cls := .ref C, data := .fields cells } C none := ⟨he, rfl, rfl, trivial⟩
  have S := F.store_object
  have obj : c.mro.contains (.type "object") = true := by
    rw [hm, List.contains_cons]
    rfl
  have far : e ≠ hp.objs.size := Nat.ne_of_lt (Heap.lt_size he)
  have isO : W.Looks (model P w) hp (isInstance (.ref e) (.type "object")) true :=
    inst.type.andThen (W.looks_mroIn inK (by
      unfold W.mroIn
      rw [hc, Option.bind_some, if_neg (by rw [hm]; exact Bool.false_ne_true), obj]))
  refine codeAny_call_builtin S.slot.plain S.entry
    (@W.check_slot (model P w) _ _ ⟨hp, g, dr, tk0, os⟩ "object.__setattr__" "object" "__setattr__" (.ref e) [.str f tk, v] [] _
      S.kind S.split isO (S.args (.ref e) (.str f tk) v) ?_)
  have lm : W.Looks (model P w) hp (mroOf (.ref C)) c.mro := (W.looks_clsIn inK hc).andThen .now
  have lt : W.Looks (model P w) hp (storeTaker? none) none := .now
  have lc : W.Looks (model P w) hp (classData C) c := W.looks_clsIn inK hc
  rw [W.osa_eq, refuse_eq]
  refine wpAny_bind (wpAny_bind (inst.type.at (wpAny_bind (lm.at ?_))))
  rw [hm, le_pass]
  refine wpAny_pure (wpAny_bind (inst.type.at (wpAny_bind
    ((W.looks_findIn inK hf).at (wpAny_bind (lt.at ?_))))))
  show wpAny _ _ (storeInOwnDict (.ref e) (.ref C) (.str f tk) f v false) _ _ _
  obtain ⟨a1, a2, a3, a4, a5, a6, a7, a8, a9, a10, a11⟩ := c
  dsimp only at hh
  subst hh
  unfold storeInOwnDict ownDictForStores
  repeat (first
    | with_reducible refine HandSPX.store_in_new ?_ ?_
    | with_reducible refine wpAny_loadPart_at he ?_
    | with_reducible refine lc.at ?_
    | wp_step)
  · refine ⟨_, #[], _, (Heap.get?_update_ne _ _ _ _ far.symm).trans (Heap.get?_push_at rfl rfl), rfl, ?_, fun _ => rfl⟩
    exact fun q hq => absurd hq (by simp)
  · intro hp' tk' ns same
    have he2 : (hp.push { cls := .type "dict", data := .dict #[] }).get? e = some { cls := .ref C, data := .fields cells } :=
      Heap.get?_push_of_some _ he
    refine fin hp' tk' hp.objs.size (fun b o nb ho => ?_) (Nat.le_refl _) far.symm ?_ ns
    · rw [same.2 b (Nat.ne_of_lt (Heap.lt_size ho)), Heap.get?_update_ne _ _ _ _ nb]
      exact Heap.get?_push_of_some _ ho
    · rw [same.2 e far]
      exact Heap.get?_update_self _ he2 rfl
end
end Jd
namespace Jd
open PySem PySem.Spec PyProof.Rows L2
section
variable {X : Cx} {pins : List (Addr × Obj)} {σ : L2.St} {H : Hp} {s : Shared} {a C : Addr} {A : Around}
theorem LexC.cd {K : PySem.W.Frag} (T : LexC K C) : ∃ c : ClassData, PySem.W.clsIn K C = some c ∧ c.mro = .ref C :: leRow ∧ c.hasDict = true := by
  obtain ⟨nm, ql, N, bs, sl, sb, ab, cl, dt, j0, j1, j2, j3, j5, lk⟩ := T.shape
  refine ⟨{ name := nm, bases := bs, mro := .ref C :: leRow, ns := N, qualname := ql, hasDict := true, slotNames := sl, subclasses := sb, abstract := ab, collection := cl, hasDel := false }, ?_, rfl, rfl⟩
  unfold PySem.W.clsIn
  rw [lk] <;> rfl
/-- the error's first field -/
theorem le_field {f : Str} {y : V} {u : Value} {Q : Unit → Shared → Prop} {E : Value → Shared → Prop} (T : LexC X.K C)
    (I : Inv X pins σ H s) (ea : H a = some (exo a C none)) (nf : PySem.W.findIn X.K (.ref C) f = some none) (ry : RelV y u)
    (fin : ∀ dx s', H dx = none → dx ≠ a → Inv X pins σ (upd (upd H dx (exd dx [(f, y)])) a (exo a C (some dx))) s' → Q () s') :
    wpAny (model X.prog X.w) A (setAttr (.ref a) f u) Q E s := by
  obtain ⟨c, hc, hm, hh⟩ := T.cd
  obtain ⟨t1, ho⟩ := exo_at I.hok ea
  obtain ⟨hp, g, d, t, os⟩ := s
  refine PySem.W.set_plain I.kIn (od := none)
    (ox := { cls := .ref C, dict := none, data := .fields #[.ref t1, .none, .none, .none, .bool false, .none] })
    ⟨ho, rfl, rfl, trivial⟩ T.store ?_
  refine le_first I.kIn ho hc hm hh nf (fun hp' tk' dx kept lo ne hx ns => ?_)
  have free : H dx = none := I.hok.fresh lo
  have below : ∀ {b : Addr} {o : Obj}, hp.get? b = some o → b ≠ dx := fun {b o} q =>
    Nat.ne_of_lt (Nat.lt_of_lt_of_le (Heap.lt_size q) lo)
  have other : ∀ {b : Addr}, H b = none → b ≠ a := fun {b} q z => by
    rw [z, ea] at q
    cases q
  have two_off : ∀ {b : Addr} {o : HO}, H b = some o → b ≠ a → (upd (upd H dx (exd dx [(f, y)])) a (exo a C (some dx))) b = some o :=
    fun {b o} q n => by
      rw [upd_ne n, upd_ne (ne_of_none q free)]
      exact q
  have un : Un X.fs [] H (upd (upd H dx (exd dx [(f, y)])) a (exo a C (some dx))) hp hp' := {
    keep := fun b o q n _ _ => kept b o (other n) q
    slot := fun b o q n _ _ => ⟨o.slots, kept b o (other n) q⟩
    free := fun b o q n _ => by
      rw [upd_ne (other n), upd_ne (below q)]
      exact n
    there := fun b o q _ => by
      rcases Nat.decEq b a with h | h
      · exact ⟨o, kept b o h q⟩
      · exact ⟨_, h ▸ hx⟩
    tups := fun b xs q => two_off q (at_ne ea q exo_tup)
    frzs := fun b o v q => two_off q (at_ne ea q exo_frz)
    tbls := fun b ps q => ⟨#[], by
      rw [two_off q (at_ne ea q exo_tbl)]
      simp⟩ }
  refine fin dx _ free ne (I.un (t' := tk') un fun b o q => ?_)
  by_cases ba : b = a
  · subst ba
    rw [upd_same] at q
    cases q
    exact exo_ok hx
  rw [upd_ne ba] at q
  by_cases bd : b = dx
  · subst bd
    rw [upd_same] at q
    cases q
    exact exd_ok ns (relO_put (fs := []) ry fun _ => True.intro)
  rw [upd_ne bd] at q
  refine (I.hok b o q).stay (fun c v hcv z => kept c v ?_ z) (fun c hcv => ?_) (fun c xs hcv => two_off hcv (at_ne ea hcv exo_tup))
  · rcases hcv with h | h
    · exact h ▸ ba
    · exact at_ne ea h exo_own
  · rw [upd_ne (at_ne ea hcv exo_own), upd_ne (ne_of_none hcv free)]
    exact hcv
/-- LookupError.__init__(e, ..) -/
theorem le_init {us : List Value} {Q : Value → Shared → Prop} {E : Value → Shared → Prop} (T : LexC X.K C) (I : Inv X pins σ H s)
    (ea : H a = some (exo a C none)) (hl : us.length ≤ sizeLine) (fin : ∀ s', Inv X pins σ H s' → Q .none s') :
    wpAny (model X.prog X.w) A (call (.builtin "LookupError.__init__") (.ref a :: us)) Q E s := by
  obtain ⟨nm, ql, N, bs, sl, sb, ab, cl, dt, j0, j1, j2, j3, j5, lk⟩ := T.shape
  obtain ⟨t1, ho⟩ := exo_at I.hok ea
  obtain ⟨hp, g, d, t, os⟩ := s
  refine wpAny_call (PySem.HandSPX.init_base F.excBase_LookupError (fun _ => rfl) (I.kIn _ _ lk) ho hl fun hp' t2 kept hx => ?_)
  have again : upd H a (exo a C none) = H := funext fun b => by
    unfold upd
    split
    · rename_i h
      rw [h, ea]
    · rfl
  have J := I.write (t' := t) (x := a) (e := a) (o := exo a C none) (by rw [ea]; exact True.intro) (.inl rfl) kept ⟨_, hx⟩ (exo_ok hx)
  exact fin _ (by rw [again] at J; exact J)
end
end Jd
namespace Jd
open PySem PySem.Spec PyProof.Rows L2
/-! ### its rules -/
def tLeI (K : PySem.W.Frag) (ta : TA) : TE := fun σ H Q => ta σ H fun vs H1 =>
  ∃ (a C : Addr) (ws : List V), vs = .ref a :: ws ∧ ws.length ≤ 1000 ∧ LexC K C ∧ H1 a = some (exo a C none) ∧ Q .non H1
def tLeF (K : PySem.W.Frag) (f : Str) (to te : TE) : TS := fun D σ H => te σ H fun y H1 => to σ H1 fun x H2 =>
  ∃ a C : Addr, x = .ref a ∧ LexC K C ∧ PySem.W.findIn K (.ref C) f = some none ∧ H2 a = some (exo a C none) ∧
    ∀ dx, H2 dx = none → dx ≠ a → D.nx σ (upd (upd H2 dx (exd dx [(f, y)])) a (exo a C (some dx)))
section
variable {X : Cx} {o e : Expr} {es : List Expr} {to te : TE} {ta : TA} {f : Str} {p p' p1 p2 pos : Pos}
theorem typ_LE : typeOf (.type "LookupError") = pure (.type "type") := by kernel_rfl
/-- LookupError.__init__(self, ..) as an expression -/
theorem pe_leinit {pl : Sem Bool} (hg : Gl X "LookupError") (hm : X.mg "LookupError" = none)
    (at_ : PySem.W.findCls X.K (.type "LookupError") (.type "type") "__init__" = some (.val (.builtin "LookupError.__init__"))) (ha : PA X (e :: es) ta)
    (ev : eval (.Call (.Attribute (.Name "LookupError" p1) "__init__" p2) (e :: es) [] pos) X.env = (do
      let base ← eval (.Name "LookupError" p1) X.env
      standAt p2.atName
      let (f, first) ← holding [base] (getMethod base "__init__" pl)
      callWith pos f first (backTo pos (starEach (e :: es) X.env)) (backToKw pos (keywordEach [] X.env))) := by rfl)
    (st : starEach (e :: es) X.env = (false, eval e X.env) :: starEach es X.env := by rfl)
    (ns : (backTo pos (starEach es X.env)).any (fun q => q.1) = false := by rfl) :
    PE X (.Call (.Attribute (.Name "LookupError" p1) "__init__" p2) (e :: es) [] pos) (tLeI X.K ta) := by
  refine ⟨fun pins s σ H Q I h => PySem.W.methodCall_KW (ld_blt I hg hm PyProof.Rows.Boot.«LookupError» ?_ (by decide) (by decide)) ev⟩
  obtain ⟨m, fr⟩ := I.fr
  refine PySem.W.method_type fr I.ok.mod.kin typ_LE (by decide +kernel) at_ (by decide +kernel) ?_
  show wpAny _ _ (callWith pos (Value.builtin "LookupError.__init__") [] (backTo pos (starEach (e :: es) X.env)) []) _ _ _
  refine PyProof.Rows.callWith_method1 (thn (ha.run pos pins _ σ H _ (I.tok _) h) fun us s1 hz => ?_) st ns
  obtain ⟨vs, H1, I1, rel, a, C, ws, rfl, short, T, ea, q⟩ := hz
  cases rel with
  | @cons _ self _ rest r0 rs =>
    obtain rfl : self = Value.ref a := r0
    have few : rest.length ≤ sizeLine := by
      have z := Paired.length rs
      rw [sizeLine_eq]
      omega
    exact le_init T I1 ea few fun s' J => ⟨.non, H1, J, rfl, q⟩
/-- self.f = e, the first one -/
theorem ps_leF (ho : PE X o to) (he : PE X e te) (hs : swapsWith e (some (.Attribute o f p')) pos.line X.env = pure false := by rfl) :
    PS X (.Assign [.Attribute o f p'] e pos) (tLeF X.K f to te) := by
  refine ⟨fun pins s σ H D I h => plainObj_wpAny_Assign_Attribute (thn (he.run pins s σ H _ I h) fun v s1 hy => ?_) hs⟩
  obtain ⟨y, H1, I1, ry, q1⟩ := hy
  refine thn (ho.run pins s1 σ H1 _ I1 q1) fun u s2 hx => ?_
  obtain ⟨x, H2, I2, rx, a, C, rfl, T, nf, ea, q⟩ := hx
  obtain rfl : u = Value.ref a := rx
  exact le_field T I2 ea nf ry fun dx s' n ne J => ⟨σ, _, J, q dx n ne⟩
/-- raise C(e, ..): the error is made, its __init__ keeps sp -/
theorem pmk_lex {CX : CXT} {x : Str} {C fI : Addr} {k : Nat} {fd : FuncData} {ps : List Str} {sp : Sp} {ds : List Value} {dvs : List V}
    (T : LexC X.K C) (iC : PySem.W.findIn X.K (.ref C) "__init__" = some (some (.ref fI)))
    (tI : PySem.W.typeIn X.K (.ref fI) = some (.type "function")) (F1 : FnOk X.prog X.w X.K X.mg X.base CX k fI fd ps sp)
    (hr : Room (k + 1) X.A) (hb : Binds X.K fd ps ds) (hd : Vals dvs ds) (hx : Passes CX X (fun _ _ _ => False)) (hg : Gl X x)
    (hm : X.mg x = some (.ref C)) (ha : PA X (e :: es) ta) (nd : (x == ("__debug__" : Str)) = false := by decide)
    (st : starEach (e :: es) X.env = (false, eval e X.env) :: starEach es X.env := by rfl)
    (ns : (backTo pos (starEach es X.env)).any (fun q => q.1) = false := by rfl) : PMk X (.Call (.Name x p) (e :: es) [] pos) (tMkO C sp dvs ta) := by
  intro pins s σ H Q I h
  obtain ⟨nm, ql, N, bs, sl, sb, ab, cl, dt, j0, j1, j2, j3, j5, lk⟩ := T.shape
  refine wpAny_Call_Name_kw (ld_glob I hg hm ?_ nd)
  refine PySem.W.callWith_K (h₀ := X.base) I.ok.mod.kin T.keep (thn (ha.run pos pins s σ H _ I h) fun us s1 hu => ?_) st ns
  obtain ⟨vs, H1, I1, rel, short, way⟩ := hu
  refine ⟨I1.kIn, ?_⟩
  show wpAny _ _ (call (.ref C) us) _ _ _
  obtain ⟨hp, g, dr, tk, os⟩ := s1
  -- where the error will stand
  have lo : hp.objs.size ≤ hp.objs.size + 1 := Nat.le_succ _
  have vac : H1 (hp.objs.size + 1) = none := I1.hok.fresh lo
  have todo := way (hp.objs.size + 1) vac
  have grow : ∀ b o, hp.get? b = some o → ((hp.push (PySem.W.kdv_tup us)).push (PySem.HandSPX.excO C hp.objs.size)).get? b = some o :=
    fun b o q => Heap.get?_push_of_some _ (Heap.get?_push_of_some _ q)
  have here : ((hp.push (PySem.W.kdv_tup us)).push (PySem.HandSPX.excO C hp.objs.size)).get? (hp.objs.size + 1) = some (PySem.HandSPX.excO C hp.objs.size) := by
    heap_get
  have I2 := I1.laid (t' := tk) (o := exo (hp.objs.size + 1) C none) grow lo (exo_ok here)
  have rel2 : Vals (V.ref (hp.objs.size + 1) :: (vs ++ dvs)) (Value.ref (hp.objs.size + 1) :: (us ++ ds)) := .cons rfl (rel.append hd)
  have args : (Value.ref (hp.objs.size + 1) :: us ++ ds).length = ps.length := by
    have z := rel2.length
    rw [F1.len _ _ _ _ todo] at z
    exact z.symm
  have few : us.length ≤ sizeLine := by
    have z := Paired.length rel
    rw [sizeLine_eq]
    omega
  have body := F1.run (Around.under X.A (.builtin "type.__call__" ⟨.ref C :: us, []⟩)) X.stack _ _ ⟨Value.ref (hp.objs.size + 1) :: us, []⟩ (Value.ref (hp.objs.size + 1) :: (us ++ ds)) _ _
    (fun _ _ _ => False) (hr.make C us []) (I2.env0.make C us []) (hb _ (Value.ref (hp.objs.size + 1) :: us) I2.kIn args) rel2 todo
  refine wpAny_call (PySem.HandSPX.call_own F.excBase_LookupError (fun _ => rfl) (I1.kIn _ _ lk) (PySem.W.looks_findIn I1.kIn iC)
    (fun self => PySem.W.bind_fn I1.kIn self tI) few (codeAny_mono body fun r s' out => ?_))
  cases r with
  | error er => exact hx pins σ _ _ er s' I2 out
  | ok way2 =>
    cases way2 with
    | ret u =>
      obtain ⟨v, H2, os2, bare2, un2, ok2, rv, ev, d, fs, ea, ed, vd, q2⟩ := out
      subst ev
      obtain ⟨h2, g2, d2, t2, os'⟩ := s'
      exact ⟨rv, mk_end (raises_own T.isE T.isT) I1 lo grow un2 ok2 os2 bare2 ea ed vd q2⟩
    | _ => exact out.elim
end
end Jd
/-! len, in, ==, != by a class's own defs; calls by keywords alone; a class made where errors are caught -/
namespace PySem.W
open PySem PySem.Calls PyProof.Rows Builtin
section
variable {prog : Program} {w : World} {A : Around} {E : Value → Shared → Prop} {s : Shared} {K : Frag} {x C L f : Addr} {h₀ : Heap} {m : Str → Option Value} {ox : Obj} {od : Option Obj} {b tb : Value}
theorem ifBoundB_K {M : Model} {id : String} {name : Str} {args : List Value} {Q : Option Value → Shared → Prop} (X : K.In s.heap) (I : InstAt s.heap x ox C od) (hs : findIn K (.ref C) name = some (some (.builtin id)))
    (hb : bindSpecial (.builtin id) (.ref x) = pure (.builtin id, [.ref x]))
    (h : wpAny M A (call (.builtin id) (.ref x :: args)) (fun v => Q (some v)) E s) : wpAny M A (callSpecialIfBound? (.ref x) name args) Q E s := by
  simp only [callSpecialIfBound?, bindSpecialIfBound?]
  refine wpAny_holding (wpAny_bind (wpAny_bind (wpAny_bind (I.type.here ((looks_findIn X hs).here ?_)))))
  simp only [hb]
  refine wpAny_bind (wpAny_askSetting (wpAny_ite ?_))
  have fin : wpAny M A (call (.builtin id) ([.ref x] ++ args) >>= fun v => pure (some v)) Q E s := wpAny_bind (wpAny_mono h (fun v s' h' => wpAny_pure h') fun _ _ h' => h')
  split
  · exact wpAny_bind (wpAny_pure (wpAny_pure (by exact fin)))
  · exact wpAny_tryCatch (wpAny_bind (wpAny_pure (wpAny_pure (by exact fin))))
theorem ne_K {Q : Value → Shared → Prop} (hu : A.units + 1 < cLine) (X : K.In s.heap) (I : InstAt s.heap x ox C od) (hb : Looks (model prog w) s.heap (typeOf b) tb) (hn : notFirst K C tb = true)
    (hne : findIn K (.ref C) "__ne__" = some (some (.builtin "object.__ne__"))) (hm : mroIn K C (.type "object") = some true)
    (hs : findIn K (.ref C) "__eq__" = some (some (.ref f))) (hf : isFn K (.ref f) = true)
    (h : wpAny (model prog w) A.in1 (call (.ref f) [.ref x, b]) (fun v s' => ∃ c, v = .bool c ∧ Q (.bool (!c)) s') E s) : wpAny (model prog w) A (richCompare .NotEq (.ref x) b) Q E s := by
  have isO : Looks (model prog w) s.heap (isInstance (.ref x) (.type "object")) true := I.type.andThen (looks_mroIn X hm)
  have body : wpAny (model prog w) A (call (.builtin "object.__ne__") [.ref x, b]) (fun v s' => ∃ c, v = .bool c ∧ Q v s') E s := by
    refine wpAny_call (codeAny_call_builtin PySem.F.cmp_object.ne.plain PySem.F.cmpEntry_ne
      (@check_slot (model prog w) _ _ s "object.__ne__" "object" "__ne__" (.ref x) [b] [] _ PySem.F.cmpKind_ne PySem.F.cmpSplit_ne isO (PySem.F.cmpArgs_ne _ _) ?_))
    unfold Builtin.«object.__ne__»
    refine wpAny_bind (wpAny_of_eq (a := ((Value.ref x : Value), [b])) (by first | rfl | (simp only [slotArgs]; rfl)) ?_)
    refine wpAny_bind (wpAny_cRoomFor (A := A.in1) hu ?_)
    refine wpAny_bind (ifBound_K X I hs hf (wpAny_mono h (fun v s' hv => ?_) fun _ _ e => e))
    obtain ⟨c, rfl, q⟩ := hv
    refine wpAny_bind (wpAny_truthy_bool ?_)
    exact wpAny_pure ⟨_, rfl, q⟩
  have one : wpAny (model prog w) A (tryCompare (.ref x) (cmpInfo .NotEq).2.1 b) (fun r s' => ∃ v, r = some v ∧ Q v s') E s := by
    unfold tryCompare
    refine wpAny_bind (ifBoundB_K X I hne (PySem.F.cmp_object.ne.bind _) (wpAny_mono body (fun v s' hv => ?_) fun _ _ e => e))
    obtain ⟨c, rfl, q⟩ := hv
    exact wpAny_pure ⟨_, rfl, q⟩
  unfold richCompare
  simp only [oneThing_ref]
  refine wpAny_holding (wpAny_bind (wpAny_cRoomFor (Nat.lt_of_succ_lt hu) ?_))
  refine wpAny_bind (I.type.here (wpAny_bind (hb.here ?_)))
  split
  · rename_i q
    have e : subIn K tb (.ref C) = some false := by
      rcases Bool.or_eq_true_iff.mp hn with e | e
      · rw [beq_iff_eq.mp e] at q; simp at q
      · exact beq_iff_eq.mp e
    refine wpAny_bind ((looks_subIn X e).here ?_)
    simp only [Bool.false_eq_true, if_false]
    refine wpAny_bind (wpAny_mono one (fun r s' z => ?_) fun _ _ e => e)
    obtain ⟨v, rfl, hq⟩ := z
    exact wpAny_pure hq
  · refine wpAny_bind (wpAny_pure ?_)
    simp only [Bool.false_eq_true, if_false]
    refine wpAny_bind (wpAny_mono one (fun r s' z => ?_) fun _ _ e => e)
    obtain ⟨v, rfl, hq⟩ := z
    exact wpAny_pure hq
end
end PySem.W
namespace Jd
open PySem PySem.Spec PyProof.Rows L2
section
variable {X : Cx} {CX : CXT} {k : Nat} {C f : Addr} {fd : FuncData} {ps : List Str} {sp : Sp} {E : XK}
def rLenOwn (C : Addr) (sp : Sp) (E : XK) : List V → Hp → VK → Prop := fun xs H Q => ∃ a dx fs, xs = [.ref a] ∧ H a = some (.ins C dx fs) ∧ sp [.ref a] H (fun v H' => ∃ n : Int, v = .int n ∧ 0 ≤ n ∧ n < 2 ^ 63 ∧ Q (.int n) H') E
def rInOwn (C : Addr) (sp : Sp) (E : XK) : R2 := fun x y H Q => ∃ a dx fs, y = .ref a ∧ H a = some (.ins C dx fs) ∧ sp [y, x] H (fun v H' => ∃ c : Bool, v = .bl c ∧ Q (.bl c) H') E
def rEqOwn (K : PySem.W.Frag) (C : Addr) (sp : Sp) (E : XK) : R2 := fun x y H Q => ∃ a dx fs t, x = .ref a ∧ H a = some (.ins C dx fs) ∧ TyX K H y t ∧ PySem.W.notFirst K C t = true ∧ sp [x, y] H (fun v H' => ∃ c : Bool, v = .bl c ∧ Q (.bl c) H') E
def rNeOwn (K : PySem.W.Frag) (C : Addr) (sp : Sp) (E : XK) : R2 := fun x y H Q => ∃ a dx fs t, x = .ref a ∧ H a = some (.ins C dx fs) ∧ TyX K H y t ∧ PySem.W.notFirst K C t = true ∧ sp [x, y] H (fun v H' => ∃ c : Bool, v = .bl c ∧ Q (.bl (!c)) H') E
/-- the def run around A, which stands as deep as X.A or one deeper -/
theorem own_run {pins : List (Addr × Obj)} {s : Shared} {σ : L2.St} {H : Hp} {Q : VK} {vs : List V} {us : List Value} (A : Around) (hA : A.frames = X.A.frames) (F : FnOk X.prog X.w X.K X.mg X.base CX k f fd ps sp) (hr : Room k A) (hb : Binds X.K fd ps []) (hx : Passes CX X E)
    (I : Inv X pins σ H s) (r : Vals vs us) (h : sp vs H Q E) : wpAny (model X.prog X.w) A (call (.ref f) us) (EP X pins σ Q) X.xe s := by
  have e := I.env0
  have e0 : Env0 X.prog X.w X.K X.mg X.base A X.stack s H := ⟨by rw [hA]; exact e.frames, e.mod, e.bs, e.bsz, e.funs, e.frf, e.hok, e.bare⟩
  have hl := F.len _ _ _ _ h
  refine wpAny_call (codeAny_mono (F.run A X.stack s H ⟨us, []⟩ us vs _ E hr e0 (by
    have := hb s us I.kIn (by simpa [← r.length] using hl)
    simpa using this) r h) fun r s' hq => ?_)
  cases r with
  | error e => exact hx pins σ H s e s' I hq
  | ok fl =>
    cases fl with
    | ret w => exact I.after hq
    | next => exact False.elim hq
    | brk => exact False.elim hq
    | cont => exact False.elim hq
theorem call_lenOwn (F : FnOk X.prog X.w X.K X.mg X.base CX k f fd ps sp) (hr : Room (k + 1) X.A) (hs : PySem.W.findIn X.K (.ref C) "__len__" = some (some (.ref f))) (hf : PySem.W.isFn X.K (.ref f) = true) (hb : Binds X.K fd ps []) (hx : Passes CX X E) : CallR X (.builtin "len") (rLenOwn C sp E) := by
  intro pins s σ H xs us Q I r h
  obtain ⟨a, dx, fs, rfl, ha, hsp⟩ := h
  cases r with
  | cons rx rr =>
    cases rr
    cases rx
    obtain ⟨mA, J, _⟩ := ins_get I.hok ha
    obtain ⟨od, J, _⟩ := J.look
    obtain ⟨m, hF⟩ := I.fr
    refine PySem.W.len_K hF I.ok.mod.kin J hs hf (wpAny_mono (own_run X.A.in1 rfl F hr.in1 hb hx I (.cons (show RelV (V.ref a) (Value.ref a) from rfl) .nil) hsp) (fun v s' z => ?_) fun _ _ x => x)
    obtain ⟨y, H', I', rz, n, ez, n0, n1, q⟩ := z
    subst ez
    obtain ⟨t, rfl⟩ := (show ∃ t, v = Value.int n t from rz)
    exact ⟨⟨n0, n1⟩, .int n, H', I'.tok _, ⟨_, rfl⟩, q⟩
theorem op_inOwn (F : FnOk X.prog X.w X.K X.mg X.base CX k f fd ps sp) (hr : Room k X.A) (hs : PySem.W.findIn X.K (.ref C) "__contains__" = some (some (.ref f))) (hf : PySem.W.isFn X.K (.ref f) = true) (hb : Binds X.K fd ps []) (hx : Passes CX X E) : OpR X (compareOp .In) (rInOwn C sp E) := by
  intro pins s σ H x y v u Q I rx ry h
  obtain ⟨a, dx, fs, rfl, ha, hsp⟩ := h
  cases ry
  obtain ⟨mA, J, _⟩ := ins_get I.hok ha
  obtain ⟨od, J, _⟩ := J.look
  obtain ⟨m, hF⟩ := I.fr
  refine PySem.W.in_K hF I.ok.mod.kin J hs hf (wpAny_mono (own_run X.A rfl F hr hb hx I (.cons (show RelV (V.ref a) (Value.ref a) from rfl) (.cons rx .nil)) hsp) (fun v s' z => ?_) fun _ _ x => x)
  obtain ⟨y, H', I', rz, c, ez, q⟩ := z
  subst ez
  cases rz
  exact wpAny_truthy_bool ⟨.bl c, H', I', rfl, q⟩
theorem op_eqOwn (F : FnOk X.prog X.w X.K X.mg X.base CX k f fd ps sp) (hr : Room k X.A) (hs : PySem.W.findIn X.K (.ref C) "__eq__" = some (some (.ref f))) (hf : PySem.W.isFn X.K (.ref f) = true) (hb : Binds X.K fd ps []) (hx : Passes CX X E) : OpR X (compareOp .Eq) (rEqOwn X.K C sp E) := by
  intro pins s σ H x y v u Q I rx ry h
  obtain ⟨a, dx, fs, t, rfl, ha, ht, hn, hsp⟩ := h
  obtain ⟨P, kx, hP, _⟩ := kit_of I ry ht
  cases rx
  obtain ⟨mA, J, _⟩ := ins_get I.hok ha
  obtain ⟨od, J, _⟩ := J.look
  obtain ⟨m, hF⟩ := I.fr
  show wpAny (model X.prog X.w) X.A (richCompare .Eq (.ref a) u) (EP X pins σ Q) X.xe s
  refine PySem.W.cmp_K (op := .Eq) (tb := t) hr.units0 hF I.ok.mod.kin J (kx.ty _ _ I.kIn hP) hn hs hf (wpAny_mono (own_run X.A rfl F hr hb hx I (.cons (show RelV (V.ref a) (Value.ref a) from rfl) (.cons ry .nil)) hsp) (fun v s' z => ?_) fun _ _ x => x)
  obtain ⟨y, H', I', rz, c, ez, q⟩ := z
  subst ez
  cases rz
  exact ⟨.bl c, H', I', rfl, q⟩
theorem op_neOwn (F : FnOk X.prog X.w X.K X.mg X.base CX k f fd ps sp) (hr : Room (k + 1) X.A) (hu : X.A.units + 1 < cLine) (hs : PySem.W.findIn X.K (.ref C) "__eq__" = some (some (.ref f))) (hf : PySem.W.isFn X.K (.ref f) = true)
    (hne : PySem.W.findIn X.K (.ref C) "__ne__" = some (some (.builtin "object.__ne__"))) (hm : PySem.W.mroIn X.K C (.type "object") = some true) (hb : Binds X.K fd ps []) (hx : Passes CX X E) : OpR X (compareOp .NotEq) (rNeOwn X.K C sp E) := by
  intro pins s σ H x y v u Q I rx ry h
  obtain ⟨a, dx, fs, t, rfl, ha, ht, hn, hsp⟩ := h
  obtain ⟨P, kx, hP, _⟩ := kit_of I ry ht
  cases rx
  obtain ⟨mA, J, _⟩ := ins_get I.hok ha
  obtain ⟨od, J, _⟩ := J.look
  show wpAny (model X.prog X.w) X.A (richCompare .NotEq (.ref a) u) (EP X pins σ Q) X.xe s
  refine PySem.W.ne_K (tb := t) hu I.kIn J (kx.ty _ _ I.kIn hP) hn hne hm hs hf (wpAny_mono (own_run X.A.in1 rfl F hr.in1 hb hx I (.cons (show RelV (V.ref a) (Value.ref a) from rfl) (.cons ry .nil)) hsp) (fun v s' z => ?_) fun _ _ x => x)
  obtain ⟨y, H', I', rz, c, ez, q⟩ := z
  subst ez
  cases rz
  exact ⟨c, rfl, .bl (!c), H', I', rfl, q⟩
end
/-! two readings of one piece -/
section
variable {X : Cx} {e tg : Expr} {t1 t2 : TE} {w1 w2 : TI} {g1 g2 : TG}
theorem pe_or2 (h1 : PE X e t1) (h2 : PE X e t2) : PE X e (fun σ H Q => t1 σ H Q ∨ t2 σ H Q) :=
  ⟨fun pins s σ H Q I h => h.elim (h1.run pins s σ H Q I) (h2.run pins s σ H Q I)⟩
theorem pi_or2 (h1 : PI X tg e w1) (h2 : PI X tg e w2) : PI X tg e (fun σ H R => w1 σ H R ∨ w2 σ H R) :=
  ⟨fun pins s σ H R I h => h.elim (h1.run pins s σ H R I) (h2.run pins s σ H R I)⟩
theorem pg_or2 (h1 : PG X tg g1) (h2 : PG X tg g2) : PG X tg (fun v σ H Q => g1 v σ H Q ∨ g2 v σ H Q) :=
  ⟨fun pins s σ H v u Q I r h => h.elim (h1.run pins s σ H v u Q I r) (h2.run pins s σ H v u Q I r)⟩
end
end Jd
namespace Jd
open PySem PySem.Spec PyProof.Rows L2
/-! a class made, a method called, where what is raised is wished for at the slots; methods called by keywords alone -/
section
variable {X : Cx} {CX : CXT} {k : Nat} {f C : Addr} {fd : FuncData} {ps : List Str} {sp : Sp} {dvs : List V} {ds : List Value} {E : L2.St → XK} {x m : Str} {p pos apos : Pos} {e o : Expr} {es : List Expr} {t : TA} {ta : TE}
def tMakeS (C : Addr) (sp : Sp) (dvs : List V) (E : L2.St → XK) (t : TA) : TE := fun σ H Q => t σ H fun vs H1 => ∀ x dx, H1 x = none → H1 dx = none → dx ≠ x →
  sp (.ref x :: (vs ++ dvs)) (upd (upd H1 dx (.own x)) x (.ins C dx [])) (fun v H2 => v = .non ∧ Q (.ref x) H2) (E σ)
theorem run_makeS {pins : List (Addr × Obj)} {σ : L2.St} {H : Hp} {s : Shared} {Q : VK} {us : List Value} {vs : List V} (M : Mk X.K C f) (F : FnOk X.prog X.w X.K X.mg X.base CX k f fd ps sp) (hr : Room (k + 1) X.A) (hb : Binds X.K fd ps ds) (hd : Vals dvs ds)
    (hx : PassesAt CX X σ (E σ)) (I : Inv X pins σ H s) (r : Vals vs us)
    (h : ∀ x dx, H x = none → H dx = none → dx ≠ x → sp (.ref x :: (vs ++ dvs)) (upd (upd H dx (.own x)) x (.ins C dx [])) (fun v H2 => v = .non ∧ Q (.ref x) H2) (E σ)) :
    wpAny (model X.prog X.w) X.A (call (.ref C) us) (EP X pins σ Q) X.xe s := by
  have hq := h (s.heap.objs.size + 1) s.heap.objs.size (I.hok.fresh (Nat.le_succ _)) (I.hok.fresh (Nat.le_refl _)) (Nat.ne_of_lt (Nat.lt_succ_self _))
  have I2 := Inv.made (C := C) I
  have r2 : Vals (V.ref (s.heap.objs.size + 1) :: (vs ++ dvs)) (Value.ref (s.heap.objs.size + 1) :: (us ++ ds)) := .cons rfl (r.append hd)
  have hl : (Value.ref (s.heap.objs.size + 1) :: us ++ ds).length = ps.length := by
    have e := r2.length
    rw [F.len _ _ _ _ hq] at e
    exact e.symm
  refine wpAny_call (make_map (f := f) I.kIn M.makes M.init (beq_iff_eq.mp M.fn) (codeAny_mono (F.run _ X.stack _ _ ⟨Value.ref (s.heap.objs.size + 1) :: us, []⟩ (Value.ref (s.heap.objs.size + 1) :: (us ++ ds)) _ _ (E σ) (hr.make C us [])
    (I2.env0.make C us []) (hb _ (Value.ref (s.heap.objs.size + 1) :: us) I2.kIn hl) r2 hq) fun r s' hq' => ?_))
  cases r with
  | error e => exact hx pins _ _ e s' I2 hq'
  | ok fl =>
    cases fl with
    | ret u =>
      obtain ⟨v, H', I3, rv, ev, q3⟩ := I2.after hq'
      subst ev
      exact ⟨rv, ⟨V.ref (s.heap.objs.size + 1), H', I3, rfl, q3⟩⟩
    | next => exact False.elim hq'
    | brk => exact False.elim hq'
    | cont => exact False.elim hq'
theorem pe_makeS (M : Mk X.K C f) (F : FnOk X.prog X.w X.K X.mg X.base CX k f fd ps sp) (hr : Room (k + 1) X.A) (hg : Gl X x) (hm : X.mg x = some (.ref C)) (hb : Binds X.K fd ps ds) (hd : Vals dvs ds) (hx : ∀ σ, PassesAt CX X σ (E σ))
    (ha : PA X (e :: es) t) (hdb : (x == ("__debug__" : Str)) = false := by decide) (he : starEach (e :: es) X.env = (false, eval e X.env) :: starEach es X.env := by rfl) (hpl : (backTo pos (starEach es X.env)).any (·.1) = false := by rfl) :
    PE X (.Call (.Name x p) (e :: es) [] pos) (tMakeS C sp dvs E t) := by
  refine ⟨fun pins s σ H Q I h => ?_⟩
  refine wpAny_Call_Name_kw (ld_glob I hg hm ?_ hdb)
  refine PySem.W.callWith_K (h₀ := X.base) I.ok.mod.kin M.kp (thn (ha.run pos pins s σ H _ I h) fun us s1 ⟨vs, H1, I1, r, q⟩ => ⟨I1.kIn, ?_⟩) he hpl
  exact run_makeS M F hr hb hd (hx σ) I1 r q
/-- o.m(e, ..), what is raised wished for at the slots -/
def tMethSA (C : Addr) (m : Str) (sp : Sp) (E : L2.St → XK) (ta : TE) (t : TA) : TE := fun σ H Q => ta σ H fun x H1 => ∃ a dx fs, x = .ref a ∧ H1 a = some (.ins C dx fs) ∧ fs.lookup m = none ∧ t σ H1 fun vs H2 => sp (x :: vs) H2 Q (E σ)
theorem pe_methSA {pl : Sem Bool} (he : PE X o ta) (c : Cls X.K C) (hm : Meth X.K C m f) (F : FnOk X.prog X.w X.K X.mg X.base CX k f fd ps sp) (hr : Room k X.A) (hb : Binds X.K fd ps []) (hx : ∀ σ, PassesAt CX X σ (E σ)) (ha : PA X (e :: es) t)
    (ht : eval (.Call (.Attribute o m apos) (e :: es) [] pos) X.env = (do
      let ov ← eval o X.env
      standAt apos.atName
      let (f, first) ← holding [ov] (getMethod ov m pl)
      callWith pos f first (backTo pos (starEach (e :: es) X.env)) (backToKw pos (keywordEach [] X.env))) := by rfl)
    (hst : starEach (e :: es) X.env = (false, eval e X.env) :: starEach es X.env := by rfl) (hpl : (backTo pos (starEach es X.env)).any (·.1) = false := by rfl) :
    PE X (.Call (.Attribute o m apos) (e :: es) [] pos) (tMethSA C m sp E ta t) := by
  refine ⟨fun pins s σ H Q I h => ?_⟩
  refine PySem.W.methodCall_KW (pl := pl) (thn (he.run pins s σ H _ I h) fun u s1 ⟨x, H1, I1, rx, a, dx, fs, ex, ea, l, q⟩ => ?_) ht
  subst ex
  obtain rfl : u = Value.ref a := rx
  refine getmeth_ok I1 ea c hm l ?_
  refine PySem.W.callWith_K (first := [.ref a]) (h₀ := X.base) I1.ok.mod.kin hm.kp (thn (ha.run pos pins s1 σ H1 _ I1 q) fun us s2 ⟨vs, H2, I2, r, q2⟩ => ⟨I2.kIn, ?_⟩) hst hpl
  exact run_fnSD (us := .ref a :: us) (vs := .ref a :: vs) (dvs := []) (ds := []) F hr hb .nil (hx σ) I2 (.cons rfl r) (by rw [List.append_nil]; exact q2)
end
section
variable {X : Cx} {CX : CXT} {k : Nat} {f C : Addr} {fd : FuncData} {ps ks : List Str} {sp : Sp} {E : XK} {m : Str} {pos apos : Pos} {o : Expr} {ta : TE} {kws : List Keyword} {tk : TA} {g : List Value → List Value → List Value} {gV : List V → List V → List V}
/-- o.m(k = v, ..) -/
def tMethK0 (C : Addr) (m : Str) (sp : Sp) (gV : List V → List V → List V) (E : XK) (ta : TE) (tk : TA) : TE := fun σ H Q => ta σ H fun x H1 => ∃ a dx fs, x = .ref a ∧ H1 a = some (.ins C dx fs) ∧ fs.lookup m = none ∧ tk σ H1 fun zs H2 => sp (gV [x] zs) H2 Q E
theorem pe_methK0 {pl : Sem Bool} (he : PE X o ta) (c : Cls X.K C) (hm : Meth X.K C m f) (F : FnOk X.prog X.w X.K X.mg X.base CX k f fd ps sp) (hr : Room k X.A) (hb : KBinds X.K fd ps ks g gV) (hx : Passes CX X E) (hkw : PK X kws tk)
    (ht : eval (.Call (.Attribute o m apos) [] kws pos) X.env = (do
      let ov ← eval o X.env
      standAt apos.atName
      let (f, first) ← holding [ov] (getMethod ov m pl)
      callWith pos f first (backTo pos (starEach [] X.env)) (backToKw pos (keywordEach kws X.env))) := by rfl)
    (hall : (backToKw pos (keywordEach kws X.env)).all (fun q => q.1.isSome) = true := by rfl) (hks : (backToKw pos (keywordEach kws X.env)).filterMap (fun q => q.1) = ks := by rfl)
    (hpl : ((backTo pos (starEach [] X.env)).any (fun q => q.1) || (backToKw pos (keywordEach kws X.env)).any (fun q => q.1.isNone)) = false := by rfl) :
    PE X (.Call (.Attribute o m apos) [] kws pos) (tMethK0 C m sp gV E ta tk) := by
  refine ⟨fun pins s σ H Q I h => ?_⟩
  refine PySem.W.methodCall_KW (pl := pl) (thn (he.run pins s σ H _ I h) fun u s1 ⟨x, H1, I1, rx, a, dx, fs, ex, ea, l, q⟩ => ?_) ht
  subst ex
  obtain rfl : u = Value.ref a := rx
  refine getmeth_ok I1 ea c hm l ?_
  refine PySem.W.callWith_KW0 (first := [.ref a]) (h₀ := X.base) I1.ok.mod.kin hm.kp hall ?_ hpl
  refine thn (hkw.run pos pins s1 σ H1 _ I1 q) fun ws s2 hz => ?_
  obtain ⟨zs, H2, I2, rz, q2⟩ := hz
  refine ⟨I2.kIn, ?_⟩
  rw [hks]
  exact run_fnk (us := [.ref a]) (vs := [.ref a]) F hr hb hx I2 (.cons rfl .nil) rz q2
end
end Jd
namespace Jd
open PySem PySem.Spec PyProof.Rows L2
/-! ### a static method, called on its class -/
/-- C.m is a static method: its record's def stands at g -/
structure SMet (K : PySem.W.Frag) (C : Addr) (m : Str) (g : Addr) : Prop where
  rd : ClX.CRead K C (.type "type")
  at_ : ∃ p rest, PySem.W.findCls K (.ref C) (.type "type") m = some (.get (.builtin "staticmethod.__get__") (.ref p) .none (.ref C)) ∧ PySem.W.recIn K p "staticmethod" = some (.ref g :: rest)
  kp : PySem.W.keepIn K (.ref g) = true
def smB (K : PySem.W.Frag) (c m : Str) : Bool := He5.wrapB K (He.ga K c) "staticmethod" "staticmethod.__get__" m && (PySem.W.readsIn K (He.ga K c) (.type "type") && PySem.W.keepIn K (.ref (He5.wf K (He.ga K c) "staticmethod" m)))
theorem smB_ok {K : PySem.W.Frag} {c m : Str} (h : smB K c m = true) : SMet K (He.ga K c) m (He5.wf K (He.ga K c) "staticmethod" m) := by
  obtain ⟨h1, h⟩ := He.ba h
  obtain ⟨h2, h3⟩ := He.ba h
  obtain ⟨k1, rest, k2⟩ := He5.wrapB_ok h1
  refine ⟨⟨h2, ?_⟩, ⟨_, rest, k1, k2⟩, h3⟩
  have h := h2
  unfold PySem.W.readsIn at h
  obtain ⟨h, _⟩ := He.ba h
  obtain ⟨h, _⟩ := He.ba h
  obtain ⟨h, h3⟩ := He.ba h
  obtain ⟨_, h2⟩ := He.ba h
  unfold PySem.W.specialIn
  rw [beq_iff_eq.mp h2, Option.bind_some]
  exact beq_iff_eq.mp h3
section
variable {X : Cx} {CX : CXT} {k : Nat} {f C : Addr} {fd : FuncData} {ps ks : List Str} {sp : Sp} {dvs : List V} {ds : List Value} {E : XK} {m : Str} {pos apos : Pos} {o e : Expr} {es : List Expr} {t : TA} {ta : TE} {kws : List Keyword} {tk : TA} {g : List Value → List Value → List Value} {gV : List V → List V → List V}
theorem getmethsm_ok {pins : List (Addr × Obj)} {σ : L2.St} {H : Hp} {s : Shared} {A : Around} {E : Value → Shared → Prop} {pl : Sem Bool} {Q : Value × List Value → Shared → Prop} (I : Inv X pins σ H s) (r : SMet X.K C m f) (h : ∀ s', Inv X pins σ H s' → Q (.ref f, []) s') :
    wpAny (model X.prog X.w) A (getMethod (.ref C) m pl) Q E s := by
  obtain ⟨p, rest, k1, k2⟩ := r.at_
  refine PySem.W.method_cls I.kIn r.rd.ga (PySem.W.cls_bind I.kIn r.rd.rd k1 ?_)
  exact wpAny_call (PySem.W.sm_get (s := { s with toks := s.toks + 1 }) I.kIn k2 (PySem.W.handed_on rfl (h _ (I.tok _))))
/-- C.m(e, ..) -/
def tSMeth (C : Addr) (sp : Sp) (dvs : List V) (E : XK) (ta : TE) (t : TA) : TE := fun σ H Q => ta σ H fun x H1 => x = .ref C ∧ t σ H1 fun vs H2 => sp (vs ++ dvs) H2 Q E
theorem pe_smeth {pl : Sem Bool} (he : PE X o ta) (r : SMet X.K C m f) (F : FnOk X.prog X.w X.K X.mg X.base CX k f fd ps sp) (hr : Room k X.A) (hb : Binds X.K fd ps ds) (hd : Vals dvs ds) (hx : Passes CX X E) (ha : PA X (e :: es) t)
    (hst : starEach (e :: es) X.env = (false, eval e X.env) :: starEach es X.env := by rfl) (hpl : (backTo pos (starEach es X.env)).any (·.1) = false := by rfl)
    (ht : eval (.Call (.Attribute o m apos) (e :: es) [] pos) X.env = (do
      let ov ← eval o X.env
      standAt apos.atName
      let (f, first) ← holding [ov] (getMethod ov m pl)
      callWith pos f first (backTo pos (starEach (e :: es) X.env)) (backToKw pos (keywordEach [] X.env))) := by rfl) :
    PE X (.Call (.Attribute o m apos) (e :: es) [] pos) (tSMeth C sp dvs E ta t) := by
  refine ⟨fun pins s σ H Q I h => ?_⟩
  refine PySem.W.methodCall_KW (pl := pl) (thn (he.run pins s σ H _ I h) fun u s1 ⟨x, H1, I1, rx, ex, q⟩ => ?_) ht
  subst ex
  obtain rfl : u = Value.ref C := rx
  refine getmethsm_ok I1 r fun s2 I2 => ?_
  refine PySem.W.callWith_K (h₀ := X.base) I2.ok.mod.kin r.kp (thn (ha.run pos pins s2 σ H1 _ I2 q) fun us s3 ⟨vs, H2, I3, rv, q2⟩ => ⟨I3.kIn, ?_⟩) hst hpl
  exact run_fn F hr hb hd hx I3 rv q2
/-- C.m(k = v, ..) -/
def tSMethK0 (C : Addr) (sp : Sp) (gV : List V → List V → List V) (E : XK) (ta : TE) (tk : TA) : TE := fun σ H Q => ta σ H fun x H1 => x = .ref C ∧ tk σ H1 fun zs H2 => sp (gV [] zs) H2 Q E
theorem pe_smethK0 {pl : Sem Bool} (he : PE X o ta) (r : SMet X.K C m f) (F : FnOk X.prog X.w X.K X.mg X.base CX k f fd ps sp) (hr : Room k X.A) (hb : KBinds X.K fd ps ks g gV) (hx : Passes CX X E) (hkw : PK X kws tk)
    (ht : eval (.Call (.Attribute o m apos) [] kws pos) X.env = (do
      let ov ← eval o X.env
      standAt apos.atName
      let (f, first) ← holding [ov] (getMethod ov m pl)
      callWith pos f first (backTo pos (starEach [] X.env)) (backToKw pos (keywordEach kws X.env))) := by rfl)
    (hall : (backToKw pos (keywordEach kws X.env)).all (fun q => q.1.isSome) = true := by rfl) (hks : (backToKw pos (keywordEach kws X.env)).filterMap (fun q => q.1) = ks := by rfl)
    (hpl : ((backTo pos (starEach [] X.env)).any (fun q => q.1) || (backToKw pos (keywordEach kws X.env)).any (fun q => q.1.isNone)) = false := by rfl) :
    PE X (.Call (.Attribute o m apos) [] kws pos) (tSMethK0 C sp gV E ta tk) := by
  refine ⟨fun pins s σ H Q I h => ?_⟩
  refine PySem.W.methodCall_KW (pl := pl) (thn (he.run pins s σ H _ I h) fun u s1 ⟨x, H1, I1, rx, ex, q⟩ => ?_) ht
  subst ex
  obtain rfl : u = Value.ref C := rx
  refine getmethsm_ok I1 r fun s2 I2 => ?_
  refine PySem.W.callWith_KW0 (h₀ := X.base) I2.ok.mod.kin r.kp hall ?_ hpl
  refine thn (hkw.run pos pins s2 σ H1 _ I2 q) fun ws s3 hz => ?_
  obtain ⟨zs, H2, I3, rz, q2⟩ := hz
  refine ⟨I3.kIn, ?_⟩
  rw [hks]
  exact run_fnk (us := []) (vs := []) F hr hb hx I3 .nil rz q2
end
end Jd
namespace Jd
open PySem PySem.Spec PyProof.Rows L2
def top (i : Nat) : Stmt := PySem.Challenge.pw_keyspans_k04_numbers_of_stages.main.body.getD i (.Pass ⟨0, 0, 0, 0⟩)
abbrev s_is_name : Stmt := top 15
abbrev s_is_field : Stmt := top 16
abbrev s_field_of : Stmt := top 17
abbrev s_field_text : Stmt := top 18
abbrev s_words_of : Stmt := top 20
abbrev s_Keys___init__ : Stmt := inClass (top 21) 0
abbrev s_Keys_p_names : Stmt := inClass (top 21) 1
abbrev s_Keys_p_pairs : Stmt := inClass (top 21) 2
abbrev s_Keys_tells : Stmt := inClass (top 21) 4
abbrev s_Keys_told : Stmt := inClass (top 21) 5
abbrev s_Keys__check : Stmt := inClass (top 21) 6
abbrev s_Keys___contains__ : Stmt := inClass (top 21) 7
abbrev s_Keys___len__ : Stmt := inClass (top 21) 8
abbrev s_Keys___eq__ : Stmt := inClass (top 21) 9
abbrev s__all_told : Stmt := top 23
abbrev s_is_numeral : Stmt := top 11
abbrev s_number_of : Stmt := top 12
abbrev s_written : Stmt := top 13
abbrev s_Stage___init__ : Stmt := inClass (top 25) 0
abbrev s_Stage_p_schema : Stmt := inClass (top 25) 1
abbrev s_Stage_p_fields : Stmt := inClass (top 25) 2
abbrev s_Stage_p_text : Stmt := inClass (top 25) 3
abbrev s_Stage___getitem__ : Stmt := inClass (top 25) 6
abbrev s_Stage___contains__ : Stmt := inClass (top 25) 8
abbrev s_Stage___len__ : Stmt := inClass (top 25) 9
abbrev s_Stage___eq__ : Stmt := inClass (top 25) 10
abbrev s_Stage_s_of : Stmt := inClass (top 25) 16
abbrev s_all_names : Stmt := top 19
abbrev s__joined : Stmt := top 26
abbrev s__closed : Stmt := top 27
abbrev s__divides : Stmt := top 28
abbrev s_NoName___init__ : Stmt := inClass (top 3) 0
abbrev s_BadField___init__ : Stmt := inClass (top 5) 0
abbrev s_BadLine___init__ : Stmt := inClass (top 6) 0
abbrev s_Ringed___init__ : Stmt := inClass (top 7) 0
abbrev s__law_box : Stmt := top 33
abbrev s__law_take : Stmt := top 34
abbrev s__law_cells : Stmt := top 35
abbrev s__law_of : Stmt := top 36
abbrev s__law_lists : Stmt := top 37
abbrev s__law_same : Stmt := top 38
abbrev s__law_mixed : Stmt := top 39
abbrev s__law_gcd : Stmt := top 40
abbrev s__law_lcm : Stmt := top 41
abbrev s__law_book : Stmt := top 42
abbrev s__law_told : Stmt := top 43
abbrev s__law_field : Stmt := top 44
abbrev s__law_split : Stmt := top 45
abbrev s__law_mods : Stmt := top 46
abbrev s__law_shown : Stmt := top 47
abbrev s__law_heard : Stmt := top 48
abbrev s__law_by_hand_right : Stmt := top 49
abbrev s__law_looked_right : Stmt := top 50
abbrev s__law_right : Stmt := top 51
abbrev s_law : Stmt := top 52
end Jd
namespace Jd
open PySem PySem.Spec PyProof.Rows L2
/-! ### facts of the written part that the house's own list does not hold -/
/-- the getter of a property -/
def propG (K : PySem.W.Frag) (c m : Str) : Addr := match PySem.W.recIn K (He.ma K (He.ga K c) m) "property" with
  | some (.ref g :: _) => g
  | _ => 0
def propB (K : PySem.W.Frag) (c m : Str) : Bool :=
  He.eqO (PySem.W.findIn K (.ref (He.ga K c)) m) (some (some (.ref (He.ma K (He.ga K c) m)))) && (He.eqO (PySem.W.specialIn K (.ref (He.ma K (He.ga K c) m)) "__get__") (some (some (.builtin "property.__get__"))) &&
    (decide (PySem.W.takesIn K (.ref (He.ma K (He.ga K c) m)) = some true) && (match PySem.W.recIn K (He.ma K (He.ga K c) m) "property" with
      | some (.ref _ :: _) => true
      | _ => false)))
theorem propB_ok {K : PySem.W.Frag} {c m : Str} (h : propB K c m = true) : PropOf K (He.ga K c) m (He.ma K (He.ga K c) m) (propG K c m) := by
  obtain ⟨c1, h⟩ := He.ba h
  obtain ⟨c2, h⟩ := He.ba h
  obtain ⟨c3, c4⟩ := He.ba h
  refine ⟨He.eqO_ok c1, He.eqO_ok c2, of_decide_eq_true c3, ?_⟩
  unfold propG
  cases e : PySem.W.recIn K (He.ma K (He.ga K c) m) "property" with
  | none =>
    rw [e] at c4
    cases c4
  | some l =>
    rw [e] at c4
    cases l with
    | nil => cases c4
    | cons v r =>
      cases v with
      | ref g => exact ⟨r, rfl⟩
      | _ => cases c4
/-- a name of the module that holds a built-in function -/
def blB (K : PySem.W.Frag) (x : Str) (id : String) : Bool := He.eqO (PySem.W.nsIn K mainGlobals x) (some (some (.builtin id)))
theorem blB_ok {K : PySem.W.Frag} {h : Heap} {mg : Str → Option Value} (X : K.In h) (G : h.Ns mainGlobals mg) {x : Str} {id : String} (c : blB K x id = true) : mg x = some (.builtin id) := PySem.W.mg_of X G (He.eqO_ok c)
/-- an exception class over ValueError with an __init__ of its own -/
def oexB (K : PySem.W.Frag) (c : Str) : Bool :=
  (match K.lookup (He.ga K c) with
    | some ⟨.type n, _, .cls cd, sl⟩ => decide (n = "type") && ((match cd.mro, sl.toList with
      | .ref C' :: bm, [_, _, _, _, some (.builtin n), _] => decide (C' = He.ga K c) && (decide (n = "ValueError.__new__") && PySem.HandSPX.refsVE bm)
      | _, _ => false) && (cd.hasDict && !cd.hasDel))
    | _ => false) && (He.eqO (PySem.W.findIn K (.ref (He.ga K c)) "__setattr__") (some (some (.builtin "object.__setattr__"))) &&
  (decide (PySem.W.subIn K (.ref (He.ga K c)) (.type "BaseException") = some true) && (decide (PySem.W.typeIn K (.ref (He.ga K c)) = some (.type "type")) && (PySem.W.keepIn K (.ref (He.ga K c)) &&
  (He.eqO (PySem.W.findIn K (.ref (He.ga K c)) "__init__") (some (some (.ref (He.ma K (He.ga K c) "__init__")))) && decide (PySem.W.typeIn K (.ref (He.ma K (He.ga K c) "__init__")) = some (.type "function")))))))
theorem oexB_ok {K : PySem.W.Frag} {c : Str} (h : oexB K c = true) : OexC K (He.ga K c) ∧ PySem.W.findIn K (.ref (He.ga K c)) "__init__" = some (some (.ref (He.ma K (He.ga K c) "__init__"))) ∧
    PySem.W.typeIn K (.ref (He.ma K (He.ga K c) "__init__")) = some (.type "function") := by
  obtain ⟨c1, h⟩ := He.ba h
  obtain ⟨c2, h⟩ := He.ba h
  obtain ⟨c3, h⟩ := He.ba h
  obtain ⟨c4, h⟩ := He.ba h
  obtain ⟨c5, h⟩ := He.ba h
  obtain ⟨c6, c7⟩ := He.ba h
  refine ⟨⟨?_, He.eqO_ok c2, of_decide_eq_true c3, of_decide_eq_true c4, c5⟩, He.eqO_ok c6, of_decide_eq_true c7⟩
  split at c1
  · rename_i n dd cd sl ho
    obtain ⟨b1, c1⟩ := He.ba c1
    obtain ⟨b2, b3⟩ := He.ba c1
    obtain ⟨b4, b5⟩ := He.ba b3
    have en : n = "type" := of_decide_eq_true b1
    split at b2
    · rename_i C' bm k0 k1 k2 k3 n' k5 hm hs
      obtain ⟨b6, b2⟩ := He.ba b2
      obtain ⟨b7, b8⟩ := He.ba b2
      have e1 : C' = He.ga K c := of_decide_eq_true b6
      have e2 : n' = "ValueError.__new__" := of_decide_eq_true b7
      subst e2
      subst en
      obtain ⟨nm, bs, mro, ns, qn, hd, sn, sub, ab, col, del⟩ := cd
      dsimp only at hm b4 b5
      rw [e1] at hm
      have ed : del = false := by simpa using b5
      subst b4
      subst ed
      have hsl : sl = #[k0, k1, k2, k3, some (.builtin "ValueError.__new__"), k5] := by
        obtain ⟨l⟩ := sl
        simp only at hs
        rw [hs]
      subst hsl
      subst hm
      exact ⟨nm, qn, ns, bs, bm, sn, sub, ab, col, dd, k0, k1, k2, k3, k5, ho, b8⟩
    · cases b2
  · cases c1
/-- an exception class over LookupError with an __init__ of its own -/
def lexB (K : PySem.W.Frag) (c : Str) : Bool :=
  (match K.lookup (He.ga K c) with
    | some ⟨.type n, _, .cls cd, sl⟩ => decide (n = "type") && ((match cd.mro, sl.toList with
      | [.ref C', .type b1, .type b2, .type b3, .type b4], [_, _, _, _, some (.builtin n), _] => decide (C' = He.ga K c) && (decide (n = "LookupError.__new__") && (decide (b1 = "LookupError") && (decide (b2 = "Exception") && (decide (b3 = "BaseException") && decide (b4 = "object")))))
      | _, _ => false) && (cd.hasDict && !cd.hasDel))
    | _ => false) && (He.eqO (PySem.W.findIn K (.ref (He.ga K c)) "__setattr__") (some (some (.builtin "object.__setattr__"))) &&
  (decide (PySem.W.subIn K (.ref (He.ga K c)) (.type "BaseException") = some true) && (decide (PySem.W.typeIn K (.ref (He.ga K c)) = some (.type "type")) && (PySem.W.keepIn K (.ref (He.ga K c)) &&
  (He.eqO (PySem.W.findIn K (.ref (He.ga K c)) "__init__") (some (some (.ref (He.ma K (He.ga K c) "__init__")))) && decide (PySem.W.typeIn K (.ref (He.ma K (He.ga K c) "__init__")) = some (.type "function")))))))
theorem lexB_ok {K : PySem.W.Frag} {c : Str} (h : lexB K c = true) : LexC K (He.ga K c) ∧ PySem.W.findIn K (.ref (He.ga K c)) "__init__" = some (some (.ref (He.ma K (He.ga K c) "__init__"))) ∧
    PySem.W.typeIn K (.ref (He.ma K (He.ga K c) "__init__")) = some (.type "function") := by
  obtain ⟨c1, h⟩ := He.ba h
  obtain ⟨c2, h⟩ := He.ba h
  obtain ⟨c3, h⟩ := He.ba h
  obtain ⟨c4, h⟩ := He.ba h
  obtain ⟨c5, h⟩ := He.ba h
  obtain ⟨c6, c7⟩ := He.ba h
  refine ⟨⟨?_, He.eqO_ok c2, of_decide_eq_true c3, of_decide_eq_true c4, c5⟩, He.eqO_ok c6, of_decide_eq_true c7⟩
  split at c1
  · rename_i n dd cd sl ho
    obtain ⟨b1, c1⟩ := He.ba c1
    obtain ⟨b2, b3⟩ := He.ba c1
    obtain ⟨b4, b5⟩ := He.ba b3
    have en : n = "type" := of_decide_eq_true b1
    split at b2
    · rename_i C' m1 m2 m3 m4 k0 k1 k2 k3 n' k5 hm hs
      obtain ⟨b6, b2⟩ := He.ba b2
      obtain ⟨b7, b2⟩ := He.ba b2
      obtain ⟨b8, b2⟩ := He.ba b2
      obtain ⟨b9, b2⟩ := He.ba b2
      obtain ⟨b10, b11⟩ := He.ba b2
      have e1 : C' = He.ga K c := of_decide_eq_true b6
      have e2 : n' = "LookupError.__new__" := of_decide_eq_true b7
      have e3 : m1 = "LookupError" := of_decide_eq_true b8
      have e4 : m2 = "Exception" := of_decide_eq_true b9
      have e5 : m3 = "BaseException" := of_decide_eq_true b10
      have e6 : m4 = "object" := of_decide_eq_true b11
      subst e2
      subst en
      subst e3
      subst e4
      subst e5
      subst e6
      obtain ⟨nm, bs, mro, ns, qn, hd, sn, sub, ab, col, del⟩ := cd
      dsimp only at hm b4 b5
      rw [e1] at hm
      have ed : del = false := by simpa using b5
      subst b4
      subst ed
      have hsl : sl = #[k0, k1, k2, k3, some (.builtin "LookupError.__new__"), k5] := by
        obtain ⟨l⟩ := sl
        simp only at hs
        rw [hs]
      subst hsl
      subst hm
      exact ⟨nm, qn, ns, bs, sn, sub, ab, col, dd, k0, k1, k2, k3, k5, ho⟩
    · cases b2
  · cases c1
/-- a special method of an own class, a def -/
def eqsB (K : PySem.W.Frag) (c m : Str) : Bool := He.eqO (PySem.W.findIn K (.ref (He.ga K c)) m) (some (some (.ref (He.ma K (He.ga K c) m)))) && PySem.W.isFn K (.ref (He.ma K (He.ga K c) m))
theorem eqsB_ok {K : PySem.W.Frag} {c m : Str} (h : eqsB K c m = true) : PySem.W.findIn K (.ref (He.ga K c)) m = some (some (.ref (He.ma K (He.ga K c) m))) ∧ PySem.W.isFn K (.ref (He.ma K (He.ga K c) m)) = true := by
  obtain ⟨c1, c2⟩ := He.ba h
  exact ⟨He.eqO_ok c1, c2⟩
/-- the i-th default of a def, if it is an object -/
def dflA (f : PySem.W.Frag → Addr) (i : Nat) (K : PySem.W.Frag) : Addr := match K.lookup (f K) with
  | some ⟨_, _, .func fd, _⟩ => (match fd.defaults with
    | .ref T => (match K.lookup T with
      | some ⟨_, _, .seq its _, _⟩ => (match its.toList[i]? with
        | some (.ref a) => a
        | _ => 0)
      | _ => 0)
    | _ => 0)
  | _ => 0
/-- what isinstance asks of an instance's class -/
def tyB (K : PySem.W.Frag) (C : Addr) : Bool := He.eqO (PySem.W.findIn K (.ref C) "__class__") (some (some (.builtin "object.__class__"))) && (He.eqO (PySem.W.specialIn K (.builtin "object.__class__") "__get__") (some (some (.builtin "getset_descriptor.__get__"))) &&
  (decide (PySem.W.takesIn K (.builtin "object.__class__") = some true) && decide (PySem.W.mroIn K C (.type "object") = some true)))
theorem tyB_ok {K : PySem.W.Frag} {C : Addr} (h : tyB K C = true) : PySem.W.findIn K (.ref C) "__class__" = some (some (.builtin "object.__class__")) ∧ PySem.W.specialIn K (.builtin "object.__class__") "__get__" = some (some (.builtin "getset_descriptor.__get__")) ∧
    PySem.W.takesIn K (.builtin "object.__class__") = some true ∧ PySem.W.mroIn K C (.type "object") = some true := by
  obtain ⟨c1, h⟩ := He.ba h
  obtain ⟨c2, h⟩ := He.ba h
  obtain ⟨c3, c4⟩ := He.ba h
  exact ⟨He.eqO_ok c1, He.eqO_ok c2, of_decide_eq_true c3, of_decide_eq_true c4⟩
/-- an empty tuple of the written part -/
def tup0B (K : PySem.W.Frag) (a : Addr) : Bool := match K.lookup a with
  | some ⟨.type c, _, .seq its _, _⟩ => decide (c = "tuple") && its.isEmpty
  | _ => false
theorem tup0B_ok {K : PySem.W.Frag} {a : Addr} (h : tup0B K a = true) (H : Hp) : SqT K H a [] := by
  unfold tup0B at h
  cases q : K.lookup a with
  | none =>
    rw [q] at h
    cases h
  | some o =>
    obtain ⟨oc, od, dt, osl⟩ := o
    rw [q] at h
    cases oc with
    | type c =>
      cases dt with
      | seq its n =>
        obtain ⟨h1, h2⟩ := He.ba (show (decide (c = "tuple") && its.isEmpty) = true from h)
        have e : its = #[] := Array.isEmpty_iff.mp h2
        subst e
        exact .inr ⟨_, #[], n, q, congrArg Value.type (of_decide_eq_true h1), rfl, Nat.zero_le _, .nil⟩
      | _ => cases h
    | _ => cases dt <;> cases h
/-- what isinstance and a field's reading ask of an error's class -/
def xcB (K : PySem.W.Frag) (D : Addr) : Bool :=
  He.eqO (PySem.W.findIn K (.ref D) "__getattribute__") (some (some (.builtin "BaseException.__getattribute__"))) && (He.eqO (PySem.W.findIn K (.ref D) "__getattr__") (some none) && (decide (PySem.W.subIn K (.ref D) (.type "BaseException") = some true) && (PySem.W.hasDictIn K D &&
  (He.eqO (PySem.W.findIn K (.ref D) "__class__") (some (some (.builtin "object.__class__"))) && (He.eqO (PySem.W.specialIn K (.builtin "object.__class__") "__get__") (some (some (.builtin "getset_descriptor.__get__"))) &&
  (decide (PySem.W.takesIn K (.builtin "object.__class__") = some true) && decide (PySem.W.mroIn K D (.type "object") = some true)))))))
theorem xcB_ok {K : PySem.W.Frag} {D : Addr} (h : xcB K D = true) : ExcC K D := by
  obtain ⟨c1, h⟩ := He.ba h
  obtain ⟨c2, h⟩ := He.ba h
  obtain ⟨c3, h⟩ := He.ba h
  obtain ⟨c4, h⟩ := He.ba h
  obtain ⟨c5, h⟩ := He.ba h
  obtain ⟨c6, h⟩ := He.ba h
  obtain ⟨c7, c8⟩ := He.ba h
  exact ⟨He.eqO_ok c1, He.eqO_ok c2, of_decide_eq_true c3, c4, He.eqO_ok c5, He.eqO_ok c6, of_decide_eq_true c7, of_decide_eq_true c8⟩
/-! ### the Hook -/
abbrev AlJ : Type := Bool × List He5.FnW
def obsJ (fa : List He.Fa) (fn : List He5.DefA) (ex : PySem.W.Frag → Bool) (K : PySem.W.Frag) : AlJ := (((fa.all fun f => f.ok K) && fn.all fun d => d.ok K) && ex K, fn.map fun d => He5.fnA K (d.at_ K))
def valJ (fn : List He5.DefA) : AlJ := (true, fn.map He5.DefA.val)
def SaysJ (fa : List He.Fa) (fn : List He5.DefA) (ex : PySem.W.Frag → Bool) (K : PySem.W.Frag) : Prop := obsJ fa fn ex K = valJ fn
def obsJG (n : Nat) (fa : List He.Fa) (fn : List He5.DefA) (ex : PySem.W.Frag → Bool) (g : Addr → Option Obj) : AlJ := obsJ fa fn ex (He.frG g (He5.asA g n))
def hookJ (n : Nat) (fa : List He.Fa) (fn : List He5.DefA) (ex : PySem.W.Frag → Bool) : PySem.W.Hook where
  α := AlJ
  obs := fun s => obsJG n fa fn ex s.heap.get?
  val := fun _ => valJ fn
  says := fun _ h => ∃ K : PySem.W.Frag, K.In h ∧ SaysJ fa fn ex K
  of := fun _ _ e => ⟨_, He.frG_in, e⟩
  keeps := fun _ _ _ ⟨K, inK, c⟩ k => ⟨K, PySem.W.Frag.In.keeps inK k, c⟩
theorem obsJG_eq {n : Nat} {fa : List He.Fa} {fn : List He5.DefA} {ex : PySem.W.Frag → Bool} {g : Addr → Option Obj} {s : Shared} (h : ∀ a, g a = s.heap.get? a) : obsJG n fa fn ex g = (hookJ n fa fn ex).obs s := by
  obtain rfl : g = s.heap.get? := funext h
  rfl
section
variable {fa : List He.Fa} {fn : List He5.DefA} {ex : PySem.W.Frag → Bool} {K : PySem.W.Frag}
theorem SaysJ.b (c : SaysJ fa fn ex K) : ((fa.all fun f => f.ok K) = true ∧ (fn.all fun d => d.ok K) = true) ∧ ex K = true := by
  obtain ⟨c1, c2⟩ := He.ba (show (((fa.all fun f => f.ok K) && fn.all fun d => d.ok K) && ex K) = true from congrArg (fun z : AlJ => z.1) c)
  exact ⟨He.ba c1, c2⟩
theorem SaysJ.fact (c : SaysJ fa fn ex K) {f : He.Fa} (h : f ∈ fa) : f.ok K = true := List.all_eq_true.mp c.b.1.1 f h
theorem SaysJ.def_ (c : SaysJ fa fn ex K) {d : He5.DefA} (h : d ∈ fn) : ∃ fd, L2.FunD K d.name d.qual d.params d.body d.scope (d.dvs K) (d.kws K) (d.at_ K) fd := by
  have e : fn.map (fun d => He5.fnA K (d.at_ K)) = fn.map He5.DefA.val := congrArg (fun z : AlJ => z.2) c
  obtain ⟨i, hi, q⟩ := List.mem_iff_getElem.mp h
  have e2 : (fn.map fun d => He5.fnA K (d.at_ K))[i]? = (fn.map He5.DefA.val)[i]? := by rw [e]
  rw [List.getElem?_map, List.getElem?_map, List.getElem?_eq_getElem hi, q] at e2
  exact He5.DefA.funD (Option.some.inj e2) (List.all_eq_true.mp c.b.1.2 d h)
end
/-! ### the head -/
def d_is_name : He5.DefA := ⟨(fun K => He.ga K "is_name"), "is_name", "is_name", defArgs s_is_name, defBody s_is_name, defScope s_is_name, [], []⟩
def d_is_field : He5.DefA := ⟨(fun K => He.ga K "is_field"), "is_field", "is_field", defArgs s_is_field, defBody s_is_field, defScope s_is_field, [], []⟩
def d_field_of : He5.DefA := ⟨(fun K => He.ga K "field_of"), "field_of", "field_of", defArgs s_field_of, defBody s_field_of, defScope s_field_of, [], []⟩
def d_field_text : He5.DefA := ⟨(fun K => He.ga K "field_text"), "field_text", "field_text", defArgs s_field_text, defBody s_field_text, defScope s_field_text, [], []⟩
def d_words_of : He5.DefA := ⟨(fun K => He.ga K "words_of"), "words_of", "words_of", defArgs s_words_of, defBody s_words_of, defScope s_words_of, [], []⟩
def d_Keys___init__ : He5.DefA := ⟨(fun K => He.ma K (He.ga K "Keys") "__init__"), "__init__", "Keys.__init__", defArgs s_Keys___init__, defBody s_Keys___init__, defScope s_Keys___init__, [.adr (dflA (fun K => He.ma K (He.ga K "Keys") "__init__") 0)], []⟩
def d_Keys_p_names : He5.DefA := ⟨(fun K => propG K "Keys" "names"), "names", "Keys.names", defArgs s_Keys_p_names, defBody s_Keys_p_names, defScope s_Keys_p_names, [], []⟩
def d_Keys_p_pairs : He5.DefA := ⟨(fun K => propG K "Keys" "pairs"), "pairs", "Keys.pairs", defArgs s_Keys_p_pairs, defBody s_Keys_p_pairs, defScope s_Keys_p_pairs, [], []⟩
def d_Keys_tells : He5.DefA := ⟨(fun K => He.ma K (He.ga K "Keys") "tells"), "tells", "Keys.tells", defArgs s_Keys_tells, defBody s_Keys_tells, defScope s_Keys_tells, [], []⟩
def d_Keys_told : He5.DefA := ⟨(fun K => He.ma K (He.ga K "Keys") "told"), "told", "Keys.told", defArgs s_Keys_told, defBody s_Keys_told, defScope s_Keys_told, [], []⟩
def d_Keys__check : He5.DefA := ⟨(fun K => He.ma K (He.ga K "Keys") "_check"), "_check", "Keys._check", defArgs s_Keys__check, defBody s_Keys__check, defScope s_Keys__check, [], []⟩
def d_Keys___contains__ : He5.DefA := ⟨(fun K => He.ma K (He.ga K "Keys") "__contains__"), "__contains__", "Keys.__contains__", defArgs s_Keys___contains__, defBody s_Keys___contains__, defScope s_Keys___contains__, [], []⟩
def d_Keys___len__ : He5.DefA := ⟨(fun K => He.ma K (He.ga K "Keys") "__len__"), "__len__", "Keys.__len__", defArgs s_Keys___len__, defBody s_Keys___len__, defScope s_Keys___len__, [], []⟩
def d_Keys___eq__ : He5.DefA := ⟨(fun K => He.ma K (He.ga K "Keys") "__eq__"), "__eq__", "Keys.__eq__", defArgs s_Keys___eq__, defBody s_Keys___eq__, defScope s_Keys___eq__, [], []⟩
def d__all_told : He5.DefA := ⟨(fun K => He.ga K "_all_told"), "_all_told", "_all_told", defArgs s__all_told, defBody s__all_told, defScope s__all_told, [], []⟩
def d_is_numeral : He5.DefA := ⟨(fun K => He.ga K "is_numeral"), "is_numeral", "is_numeral", defArgs s_is_numeral, defBody s_is_numeral, defScope s_is_numeral, [], []⟩
def d_number_of : He5.DefA := ⟨(fun K => He.ga K "number_of"), "number_of", "number_of", defArgs s_number_of, defBody s_number_of, defScope s_number_of, [], []⟩
def d_written : He5.DefA := ⟨(fun K => He.ga K "written"), "written", "written", defArgs s_written, defBody s_written, defScope s_written, [], []⟩
def d_Stage___init__ : He5.DefA := ⟨(fun K => He.ma K (He.ga K "Stage") "__init__"), "__init__", "Stage.__init__", defArgs s_Stage___init__, defBody s_Stage___init__, defScope s_Stage___init__, [], []⟩
def d_Stage_p_schema : He5.DefA := ⟨(fun K => propG K "Stage" "schema"), "schema", "Stage.schema", defArgs s_Stage_p_schema, defBody s_Stage_p_schema, defScope s_Stage_p_schema, [], []⟩
def d_Stage_p_fields : He5.DefA := ⟨(fun K => propG K "Stage" "fields"), "fields", "Stage.fields", defArgs s_Stage_p_fields, defBody s_Stage_p_fields, defScope s_Stage_p_fields, [], []⟩
def d_Stage_p_text : He5.DefA := ⟨(fun K => propG K "Stage" "text"), "text", "Stage.text", defArgs s_Stage_p_text, defBody s_Stage_p_text, defScope s_Stage_p_text, [], []⟩
def d_Stage___getitem__ : He5.DefA := ⟨(fun K => He.ma K (He.ga K "Stage") "__getitem__"), "__getitem__", "Stage.__getitem__", defArgs s_Stage___getitem__, defBody s_Stage___getitem__, defScope s_Stage___getitem__, [], []⟩
def d_Stage___contains__ : He5.DefA := ⟨(fun K => He.ma K (He.ga K "Stage") "__contains__"), "__contains__", "Stage.__contains__", defArgs s_Stage___contains__, defBody s_Stage___contains__, defScope s_Stage___contains__, [], []⟩
def d_Stage___len__ : He5.DefA := ⟨(fun K => He.ma K (He.ga K "Stage") "__len__"), "__len__", "Stage.__len__", defArgs s_Stage___len__, defBody s_Stage___len__, defScope s_Stage___len__, [], []⟩
def d_Stage___eq__ : He5.DefA := ⟨(fun K => He.ma K (He.ga K "Stage") "__eq__"), "__eq__", "Stage.__eq__", defArgs s_Stage___eq__, defBody s_Stage___eq__, defScope s_Stage___eq__, [], []⟩
def d_Stage_s_of : He5.DefA := ⟨(fun K => He5.wf K (He.ga K "Stage") "staticmethod" "of"), "of", "Stage.of", defArgs s_Stage_s_of, defBody s_Stage_s_of, defScope s_Stage_s_of, [], []⟩
def d_all_names : He5.DefA := ⟨(fun K => He.ga K "all_names"), "all_names", "all_names", defArgs s_all_names, defBody s_all_names, defScope s_all_names, [], []⟩
def d__joined : He5.DefA := ⟨(fun K => He.ga K "_joined"), "_joined", "_joined", defArgs s__joined, defBody s__joined, defScope s__joined, [], []⟩
def d__closed : He5.DefA := ⟨(fun K => He.ga K "_closed"), "_closed", "_closed", defArgs s__closed, defBody s__closed, defScope s__closed, [], []⟩
def d__divides : He5.DefA := ⟨(fun K => He.ga K "_divides"), "_divides", "_divides", defArgs s__divides, defBody s__divides, defScope s__divides, [], []⟩
def d_NoName___init__ : He5.DefA := ⟨(fun K => He.ma K (He.ga K "NoName") "__init__"), "__init__", "NoName.__init__", defArgs s_NoName___init__, defBody s_NoName___init__, defScope s_NoName___init__, [], []⟩
def d_BadField___init__ : He5.DefA := ⟨(fun K => He.ma K (He.ga K "BadField") "__init__"), "__init__", "BadField.__init__", defArgs s_BadField___init__, defBody s_BadField___init__, defScope s_BadField___init__, [], []⟩
def d_BadLine___init__ : He5.DefA := ⟨(fun K => He.ma K (He.ga K "BadLine") "__init__"), "__init__", "BadLine.__init__", defArgs s_BadLine___init__, defBody s_BadLine___init__, defScope s_BadLine___init__, [], []⟩
def d_Ringed___init__ : He5.DefA := ⟨(fun K => He.ma K (He.ga K "Ringed") "__init__"), "__init__", "Ringed.__init__", defArgs s_Ringed___init__, defBody s_Ringed___init__, defScope s_Ringed___init__, [], []⟩
def d__law_box : He5.DefA := ⟨(fun K => He.ga K "_law_box"), "_law_box", "_law_box", defArgs s__law_box, defBody s__law_box, defScope s__law_box, [], []⟩
def d__law_take : He5.DefA := ⟨(fun K => He.ga K "_law_take"), "_law_take", "_law_take", defArgs s__law_take, defBody s__law_take, defScope s__law_take, [], []⟩
def d__law_cells : He5.DefA := ⟨(fun K => He.ga K "_law_cells"), "_law_cells", "_law_cells", defArgs s__law_cells, defBody s__law_cells, defScope s__law_cells, [], []⟩
def d__law_of : He5.DefA := ⟨(fun K => He.ga K "_law_of"), "_law_of", "_law_of", defArgs s__law_of, defBody s__law_of, defScope s__law_of, [], []⟩
def d__law_lists : He5.DefA := ⟨(fun K => He.ga K "_law_lists"), "_law_lists", "_law_lists", defArgs s__law_lists, defBody s__law_lists, defScope s__law_lists, [], []⟩
def d__law_same : He5.DefA := ⟨(fun K => He.ga K "_law_same"), "_law_same", "_law_same", defArgs s__law_same, defBody s__law_same, defScope s__law_same, [], []⟩
def d__law_mixed : He5.DefA := ⟨(fun K => He.ga K "_law_mixed"), "_law_mixed", "_law_mixed", defArgs s__law_mixed, defBody s__law_mixed, defScope s__law_mixed, [], []⟩
def d__law_gcd : He5.DefA := ⟨(fun K => He.ga K "_law_gcd"), "_law_gcd", "_law_gcd", defArgs s__law_gcd, defBody s__law_gcd, defScope s__law_gcd, [], []⟩
def d__law_lcm : He5.DefA := ⟨(fun K => He.ga K "_law_lcm"), "_law_lcm", "_law_lcm", defArgs s__law_lcm, defBody s__law_lcm, defScope s__law_lcm, [], []⟩
def d__law_book : He5.DefA := ⟨(fun K => He.ga K "_law_book"), "_law_book", "_law_book", defArgs s__law_book, defBody s__law_book, defScope s__law_book, [], []⟩
def d__law_told : He5.DefA := ⟨(fun K => He.ga K "_law_told"), "_law_told", "_law_told", defArgs s__law_told, defBody s__law_told, defScope s__law_told, [], []⟩
def d__law_field : He5.DefA := ⟨(fun K => He.ga K "_law_field"), "_law_field", "_law_field", defArgs s__law_field, defBody s__law_field, defScope s__law_field, [], []⟩
def d__law_split : He5.DefA := ⟨(fun K => He.ga K "_law_split"), "_law_split", "_law_split", defArgs s__law_split, defBody s__law_split, defScope s__law_split, [], []⟩
def d__law_mods : He5.DefA := ⟨(fun K => He.ga K "_law_mods"), "_law_mods", "_law_mods", defArgs s__law_mods, defBody s__law_mods, defScope s__law_mods, [], []⟩
def d__law_shown : He5.DefA := ⟨(fun K => He.ga K "_law_shown"), "_law_shown", "_law_shown", defArgs s__law_shown, defBody s__law_shown, defScope s__law_shown, [], []⟩
def d__law_heard : He5.DefA := ⟨(fun K => He.ga K "_law_heard"), "_law_heard", "_law_heard", defArgs s__law_heard, defBody s__law_heard, defScope s__law_heard, [], []⟩
def d__law_by_hand_right : He5.DefA := ⟨(fun K => He.ga K "_law_by_hand_right"), "_law_by_hand_right", "_law_by_hand_right", defArgs s__law_by_hand_right, defBody s__law_by_hand_right, defScope s__law_by_hand_right, [], []⟩
def d__law_looked_right : He5.DefA := ⟨(fun K => He.ga K "_law_looked_right"), "_law_looked_right", "_law_looked_right", defArgs s__law_looked_right, defBody s__law_looked_right, defScope s__law_looked_right, [], []⟩
def d__law_right : He5.DefA := ⟨(fun K => He.ga K "_law_right"), "_law_right", "_law_right", defArgs s__law_right, defBody s__law_right, defScope s__law_right, [], []⟩
def d_law : He5.DefA := ⟨(fun K => He.ga K "law"), "law", "law", defArgs s_law, defBody s_law, defScope s_law, [], []⟩
def fn : List He5.DefA := [d_is_name, d_is_field, d_field_of, d_field_text, d_words_of, d_Keys___init__, d_Keys_p_names, d_Keys_p_pairs, d_Keys_tells, d_Keys_told, d_Keys__check, d_Keys___contains__, d_Keys___len__, d_Keys___eq__, d__all_told, d_is_numeral, d_number_of, d_written, d_Stage___init__, d_Stage_p_schema, d_Stage_p_fields, d_Stage_p_text, d_Stage___getitem__, d_Stage___contains__, d_Stage___len__, d_Stage___eq__, d_Stage_s_of, d_all_names, d__joined, d__closed, d__divides, d_NoName___init__, d_BadField___init__, d_BadLine___init__, d_Ringed___init__, d__law_box, d__law_take, d__law_cells, d__law_of, d__law_lists, d__law_same, d__law_mixed, d__law_gcd, d__law_lcm, d__law_book, d__law_told, d__law_field, d__law_split, d__law_mods, d__law_shown, d__law_heard, d__law_by_hand_right, d__law_looked_right, d__law_right, d_law]
def fa1 : List He.Fa := [.glo "is_name", .glo "is_field", .glo "field_of", .glo "field_text", .glo "words_of", .glo "_all_told", .glo "is_numeral", .glo "number_of", .glo "written", .glo "all_names", .glo "_joined", .glo "_closed", .glo "_divides", .glo "_law_box", .glo "_law_take", .glo "_law_cells", .glo "_law_of", .glo "_law_lists", .glo "_law_same", .glo "_law_mixed", .glo "_law_gcd", .glo "_law_lcm", .glo "_law_book", .glo "_law_told", .glo "_law_field", .glo "_law_split", .glo "_law_mods", .glo "_law_shown", .glo "_law_heard", .glo "_law_by_hand_right"]
def fa2 : List He.Fa := [.glo "_law_looked_right", .glo "_law_right", .glo "law", .glo "NoName", .glo "NoPlace", .glo "BadField", .glo "BadLine", .glo "Ringed", .glo "MixedKeys", .glo "Keys", .glo "Stage", .free "len", .free "isinstance", .free "all", .free "sorted", .free "set", .free "tuple", .free "list", .free "range", .free "int", .free "str", .free "abs", .free "zip", .free "enumerate", .free "divmod", .free "LookupError", .free "ValueError", .free "bool", .free "dict", .free "sum"]
def fa3 : List He.Fa := [.free "any", .str "_DIGITS" "0123456789", .cls "Keys", .mkr "Keys", .noat "Keys" "_names", .noat "Keys" "_told", .cls "Stage", .mkr "Stage", .noat "Stage" "_numbers", .noat "Stage" "_schema", .meth "Keys" "tells", .meth "Keys" "told", .meth "Keys" "_check"]
def fa : List He.Fa := fa1 ++ (fa2 ++ fa3)
def exs0 : List (PySem.W.Frag → Bool) := [fun K => oexB K "BadField", fun K => oexB K "BadLine", fun K => oexB K "Ringed", fun K => oexB K "MixedKeys", fun K => lexB K "NoName", fun K => lexB K "NoPlace", fun K => blB K "gcd" "math.gcd", fun K => blB K "lcm" "math.lcm", fun K => He.eqO (PySem.W.nsIn K mainGlobals "NotImplemented") (some none), fun K => eqsB K "Keys" "__contains__", fun K => eqsB K "Keys" "__len__", fun K => eqsB K "Keys" "__eq__", fun K => eqsB K "Stage" "__getitem__", fun K => eqsB K "Stage" "__contains__", fun K => eqsB K "Stage" "__len__", fun K => eqsB K "Stage" "__eq__", fun K => He.eqO (PySem.W.findIn K (.ref (He.ga K "Keys")) "__ne__") (some (some (.builtin "object.__ne__"))), fun K => He.eqO (PySem.W.findIn K (.ref (He.ga K "Stage")) "__ne__") (some (some (.builtin "object.__ne__"))), fun K => propB K "Keys" "names", fun K => propB K "Keys" "pairs"]
def exs1 : List (PySem.W.Frag → Bool) := [fun K => propB K "Stage" "schema", fun K => propB K "Stage" "fields", fun K => propB K "Stage" "text", fun K => smB K "Stage" "of", fun K => xcB K (He.ga K "NoName"), fun K => decide (PySem.W.kitOne K (.ref (He.ga K "NoName")) (.type "LookupError") = some true), fun K => He.eqO (PySem.W.findIn K (.ref (He.ga K "NoName")) "name") (some none), fun K => xcB K (He.ga K "NoPlace"), fun K => decide (PySem.W.kitOne K (.ref (He.ga K "NoPlace")) (.type "LookupError") = some true), fun K => He.eqO (PySem.W.findIn K (.ref (He.ga K "NoPlace")) "place") (some none), fun K => xcB K (He.ga K "BadField"), fun K => decide (PySem.W.kitOne K (.ref (He.ga K "BadField")) (.type "ValueError") = some true), fun K => He.eqO (PySem.W.findIn K (.ref (He.ga K "BadField")) "field") (some none), fun K => xcB K (He.ga K "BadLine"), fun K => decide (PySem.W.kitOne K (.ref (He.ga K "BadLine")) (.type "ValueError") = some true), fun K => He.eqO (PySem.W.findIn K (.ref (He.ga K "BadLine")) "number") (some none), fun K => xcB K (He.ga K "Ringed"), fun K => decide (PySem.W.kitOne K (.ref (He.ga K "Ringed")) (.type "ValueError") = some true), fun K => He.eqO (PySem.W.findIn K (.ref (He.ga K "Ringed")) "ring") (some none), fun K => xcB K (He.ga K "MixedKeys")]
def exs2 : List (PySem.W.Frag → Bool) := [fun K => decide (PySem.W.kitOne K (.ref (He.ga K "MixedKeys")) (.type "ValueError") = some true), fun K => decide (PySem.W.kitOne K (.ref (He.ga K "Keys")) (.type "str") = some false), fun K => decide (PySem.W.kitOne K (.ref (He.ga K "Keys")) (.type "list") = some false), fun K => decide (PySem.W.kitOne K (.ref (He.ga K "Keys")) (.type "tuple") = some false), fun K => decide (PySem.W.kitOne K (.ref (He.ga K "Keys")) (.type "bool") = some false), fun K => decide (PySem.W.kitOne K (.ref (He.ga K "Keys")) (.type "int") = some false), fun K => decide (PySem.W.kitOne K (.ref (He.ga K "Keys")) (.ref (He.ga K "Keys")) = some true), fun K => decide (PySem.W.kitOne K (.ref (He.ga K "Keys")) (.ref (He.ga K "Stage")) = some false), fun K => decide (PySem.W.kitOne K (.ref (He.ga K "Stage")) (.type "str") = some false), fun K => decide (PySem.W.kitOne K (.ref (He.ga K "Stage")) (.type "list") = some false), fun K => decide (PySem.W.kitOne K (.ref (He.ga K "Stage")) (.type "tuple") = some false), fun K => decide (PySem.W.kitOne K (.ref (He.ga K "Stage")) (.type "bool") = some false), fun K => decide (PySem.W.kitOne K (.ref (He.ga K "Stage")) (.type "int") = some false), fun K => decide (PySem.W.kitOne K (.ref (He.ga K "Stage")) (.ref (He.ga K "Keys")) = some false), fun K => decide (PySem.W.kitOne K (.ref (He.ga K "Stage")) (.ref (He.ga K "Stage")) = some true), fun K => PySem.W.fnIn K (He.ma K (He.ga K "Stage") "__getitem__"), fun K => PySem.W.notFirst K (He.ga K "Keys") (.type "tuple"), fun K => decide (PySem.W.kitOne K (.type "tuple") (.ref (He.ga K "Keys")) = some false), fun K => PySem.W.notFirst K (He.ga K "Keys") (.type "list"), fun K => decide (PySem.W.kitOne K (.type "list") (.ref (He.ga K "Keys")) = some false)]
def exs3 : List (PySem.W.Frag → Bool) := [fun K => PySem.W.notFirst K (He.ga K "Stage") (.type "tuple"), fun K => decide (PySem.W.kitOne K (.type "tuple") (.ref (He.ga K "Stage")) = some false), fun K => PySem.W.notFirst K (He.ga K "Stage") (.type "list"), fun K => decide (PySem.W.kitOne K (.type "list") (.ref (He.ga K "Stage")) = some false), fun K => tyB K (He.ga K "Keys"), fun K => tyB K (He.ga K "Stage"), fun K => He.eqO (PySem.W.findIn K (.ref (He.ga K "Keys")) "__bool__") (some none), fun K => He.eqO (PySem.W.findIn K (.ref (He.ga K "Stage")) "__bool__") (some none), fun K => tup0B K (dflA (fun K => He.ma K (He.ga K "Keys") "__init__") 0 K), fun K => decide (PySem.W.exmOne K (.ref (He.ga K "NoName")) (.ref (He.ga K "NoName")) = some true), fun K => decide (PySem.W.exmOne K (.ref (He.ga K "NoName")) (.ref (He.ga K "NoPlace")) = some false), fun K => decide (PySem.W.exmOne K (.ref (He.ga K "NoName")) (.ref (He.ga K "BadField")) = some false), fun K => decide (PySem.W.exmOne K (.ref (He.ga K "NoName")) (.ref (He.ga K "BadLine")) = some false), fun K => decide (PySem.W.exmOne K (.ref (He.ga K "NoName")) (.ref (He.ga K "Ringed")) = some false), fun K => decide (PySem.W.exmOne K (.ref (He.ga K "NoName")) (.ref (He.ga K "MixedKeys")) = some false), fun K => decide (PySem.W.exmOne K (.ref (He.ga K "NoPlace")) (.ref (He.ga K "NoName")) = some false), fun K => decide (PySem.W.exmOne K (.ref (He.ga K "NoPlace")) (.ref (He.ga K "NoPlace")) = some true), fun K => decide (PySem.W.exmOne K (.ref (He.ga K "NoPlace")) (.ref (He.ga K "BadField")) = some false), fun K => decide (PySem.W.exmOne K (.ref (He.ga K "NoPlace")) (.ref (He.ga K "BadLine")) = some false), fun K => decide (PySem.W.exmOne K (.ref (He.ga K "NoPlace")) (.ref (He.ga K "Ringed")) = some false)]
def exs4 : List (PySem.W.Frag → Bool) := [fun K => decide (PySem.W.exmOne K (.ref (He.ga K "NoPlace")) (.ref (He.ga K "MixedKeys")) = some false), fun K => decide (PySem.W.exmOne K (.ref (He.ga K "BadField")) (.ref (He.ga K "NoName")) = some false), fun K => decide (PySem.W.exmOne K (.ref (He.ga K "BadField")) (.ref (He.ga K "NoPlace")) = some false), fun K => decide (PySem.W.exmOne K (.ref (He.ga K "BadField")) (.ref (He.ga K "BadField")) = some true), fun K => decide (PySem.W.exmOne K (.ref (He.ga K "BadField")) (.ref (He.ga K "BadLine")) = some false), fun K => decide (PySem.W.exmOne K (.ref (He.ga K "BadField")) (.ref (He.ga K "Ringed")) = some false), fun K => decide (PySem.W.exmOne K (.ref (He.ga K "BadField")) (.ref (He.ga K "MixedKeys")) = some false), fun K => decide (PySem.W.exmOne K (.ref (He.ga K "BadLine")) (.ref (He.ga K "NoName")) = some false), fun K => decide (PySem.W.exmOne K (.ref (He.ga K "BadLine")) (.ref (He.ga K "NoPlace")) = some false), fun K => decide (PySem.W.exmOne K (.ref (He.ga K "BadLine")) (.ref (He.ga K "BadField")) = some false), fun K => decide (PySem.W.exmOne K (.ref (He.ga K "BadLine")) (.ref (He.ga K "BadLine")) = some true), fun K => decide (PySem.W.exmOne K (.ref (He.ga K "BadLine")) (.ref (He.ga K "Ringed")) = some false), fun K => decide (PySem.W.exmOne K (.ref (He.ga K "BadLine")) (.ref (He.ga K "MixedKeys")) = some false), fun K => decide (PySem.W.exmOne K (.ref (He.ga K "Ringed")) (.ref (He.ga K "NoName")) = some false), fun K => decide (PySem.W.exmOne K (.ref (He.ga K "Ringed")) (.ref (He.ga K "NoPlace")) = some false), fun K => decide (PySem.W.exmOne K (.ref (He.ga K "Ringed")) (.ref (He.ga K "BadField")) = some false), fun K => decide (PySem.W.exmOne K (.ref (He.ga K "Ringed")) (.ref (He.ga K "BadLine")) = some false), fun K => decide (PySem.W.exmOne K (.ref (He.ga K "Ringed")) (.ref (He.ga K "Ringed")) = some true), fun K => decide (PySem.W.exmOne K (.ref (He.ga K "Ringed")) (.ref (He.ga K "MixedKeys")) = some false), fun K => decide (PySem.W.exmOne K (.ref (He.ga K "MixedKeys")) (.ref (He.ga K "NoName")) = some false)]
def exs5 : List (PySem.W.Frag → Bool) := [fun K => decide (PySem.W.exmOne K (.ref (He.ga K "MixedKeys")) (.ref (He.ga K "NoPlace")) = some false), fun K => decide (PySem.W.exmOne K (.ref (He.ga K "MixedKeys")) (.ref (He.ga K "BadField")) = some false), fun K => decide (PySem.W.exmOne K (.ref (He.ga K "MixedKeys")) (.ref (He.ga K "BadLine")) = some false), fun K => decide (PySem.W.exmOne K (.ref (He.ga K "MixedKeys")) (.ref (He.ga K "Ringed")) = some false), fun K => decide (PySem.W.exmOne K (.ref (He.ga K "MixedKeys")) (.ref (He.ga K "MixedKeys")) = some true)]
def exs : List (PySem.W.Frag → Bool) := exs0 ++ (exs1 ++ (exs2 ++ (exs3 ++ (exs4 ++ (exs5)))))
def ex1 (K : PySem.W.Frag) : Bool := exs.all fun f => f K

abbrev R : PySem.W.OpenRow := PySem.W.OpenLaw.row PySem.Challenge.rw_keyspans_k04_numbers_of_stages
abbrev qv : Program := PySem.W.view R.prog [0, 52]
abbrev hk : PySem.W.Hook := hookJ 6 fa fn ex1
def ob (s : PySem.W.SharedT) : AlJ := obsJG 6 fa fn ex1 (HandSHeadRun.getT s)
theorem ob_eq (s : PySem.W.SharedT) : ob s = hk.obs s.abs := obsJG_eq (HandSHeadRun.getT_eq s)
def lo0 : List Str := ["_wall", "NoName", "NoPlace", "BadField", "BadLine", "Ringed", "MixedKeys", "_DIGITS", "is_numeral", "number_of", "written", "is_name", "is_field", "field_of", "field_text", "all_names", "words_of", "Keys", "_stated", "_all_told", "Stage", "_joined", "_closed", "_divides", "stage_of_numbers", "check_same_keys", "_parted", "_law_box", "_law_take", "_law_cells"]
def lo1 : List Str := ["_law_of", "_law_lists", "_law_same", "_law_mixed", "_law_gcd", "_law_lcm", "_law_book", "_law_told", "_law_field", "_law_split", "_law_mods", "_law_shown", "_law_heard", "_law_by_hand_right", "_law_looked_right", "_law_right"]
def loose : List Str := lo0 ++ lo1
theorem run (w : World) : HandSHeadRun.RunEqI R qv hk ob 6000 loose w := by
  unfold HandSHeadRun.RunEqI
  kernel_rfl
end Jd
namespace Jd
open PySem PySem.Spec PyProof.Rows L2
/-- what the top has written -/
structure Bk (K : PySem.W.Frag) (mg : Str → Option Value) : Prop where
  c : SaysJ fa fn ex1 K
  h : ∃ h : Heap, K.In h ∧ h.Ns mainGlobals mg
section
variable {K : PySem.W.Frag} {mg : Str → Option Value}
theorem Bk.fact (B : Bk K mg) (i : Nat) {f : He.Fa} (h : fa[i]? = some f := by rfl) : f.ok K = true := B.c.fact (List.mem_of_getElem? h)
theorem Bk.ex (B : Bk K mg) (i : Nat) {f : PySem.W.Frag → Bool} (h : exs[i]? = some f := by rfl) : f K = true := List.all_eq_true.mp B.c.b.2 f (List.mem_of_getElem? h)
theorem Bk.fn_ (B : Bk K mg) (i : Nat) {d : He5.DefA} (h : fn[i]? = some d := by rfl) : ∃ fd, L2.FunD K d.name d.qual d.params d.body d.scope (d.dvs K) (d.kws K) (d.at_ K) fd := B.c.def_ (List.mem_of_getElem? h)

theorem Bk.g_is_name (B : Bk K mg) : mg "is_name" = some (.ref (He.ga K "is_name")) := let ⟨_, X, G⟩ := B.h; He.glo_ok X G (B.fact 0 (f := .glo "is_name"))
theorem Bk.g_is_field (B : Bk K mg) : mg "is_field" = some (.ref (He.ga K "is_field")) := let ⟨_, X, G⟩ := B.h; He.glo_ok X G (B.fact 1 (f := .glo "is_field"))
theorem Bk.g_field_of (B : Bk K mg) : mg "field_of" = some (.ref (He.ga K "field_of")) := let ⟨_, X, G⟩ := B.h; He.glo_ok X G (B.fact 2 (f := .glo "field_of"))
theorem Bk.g_field_text (B : Bk K mg) : mg "field_text" = some (.ref (He.ga K "field_text")) := let ⟨_, X, G⟩ := B.h; He.glo_ok X G (B.fact 3 (f := .glo "field_text"))
theorem Bk.g_words_of (B : Bk K mg) : mg "words_of" = some (.ref (He.ga K "words_of")) := let ⟨_, X, G⟩ := B.h; He.glo_ok X G (B.fact 4 (f := .glo "words_of"))
theorem Bk.g_all_told (B : Bk K mg) : mg "_all_told" = some (.ref (He.ga K "_all_told")) := let ⟨_, X, G⟩ := B.h; He.glo_ok X G (B.fact 5 (f := .glo "_all_told"))
theorem Bk.g_is_numeral (B : Bk K mg) : mg "is_numeral" = some (.ref (He.ga K "is_numeral")) := let ⟨_, X, G⟩ := B.h; He.glo_ok X G (B.fact 6 (f := .glo "is_numeral"))
theorem Bk.g_number_of (B : Bk K mg) : mg "number_of" = some (.ref (He.ga K "number_of")) := let ⟨_, X, G⟩ := B.h; He.glo_ok X G (B.fact 7 (f := .glo "number_of"))
theorem Bk.g_written (B : Bk K mg) : mg "written" = some (.ref (He.ga K "written")) := let ⟨_, X, G⟩ := B.h; He.glo_ok X G (B.fact 8 (f := .glo "written"))
theorem Bk.g_all_names (B : Bk K mg) : mg "all_names" = some (.ref (He.ga K "all_names")) := let ⟨_, X, G⟩ := B.h; He.glo_ok X G (B.fact 9 (f := .glo "all_names"))
theorem Bk.g_joined (B : Bk K mg) : mg "_joined" = some (.ref (He.ga K "_joined")) := let ⟨_, X, G⟩ := B.h; He.glo_ok X G (B.fact 10 (f := .glo "_joined"))
theorem Bk.g_closed (B : Bk K mg) : mg "_closed" = some (.ref (He.ga K "_closed")) := let ⟨_, X, G⟩ := B.h; He.glo_ok X G (B.fact 11 (f := .glo "_closed"))
theorem Bk.g_divides (B : Bk K mg) : mg "_divides" = some (.ref (He.ga K "_divides")) := let ⟨_, X, G⟩ := B.h; He.glo_ok X G (B.fact 12 (f := .glo "_divides"))
theorem Bk.g_law_box (B : Bk K mg) : mg "_law_box" = some (.ref (He.ga K "_law_box")) := let ⟨_, X, G⟩ := B.h; He.glo_ok X G (B.fact 13 (f := .glo "_law_box"))
theorem Bk.g_law_take (B : Bk K mg) : mg "_law_take" = some (.ref (He.ga K "_law_take")) := let ⟨_, X, G⟩ := B.h; He.glo_ok X G (B.fact 14 (f := .glo "_law_take"))
theorem Bk.g_law_cells (B : Bk K mg) : mg "_law_cells" = some (.ref (He.ga K "_law_cells")) := let ⟨_, X, G⟩ := B.h; He.glo_ok X G (B.fact 15 (f := .glo "_law_cells"))
theorem Bk.g_law_of (B : Bk K mg) : mg "_law_of" = some (.ref (He.ga K "_law_of")) := let ⟨_, X, G⟩ := B.h; He.glo_ok X G (B.fact 16 (f := .glo "_law_of"))
theorem Bk.g_law_lists (B : Bk K mg) : mg "_law_lists" = some (.ref (He.ga K "_law_lists")) := let ⟨_, X, G⟩ := B.h; He.glo_ok X G (B.fact 17 (f := .glo "_law_lists"))
theorem Bk.g_law_same (B : Bk K mg) : mg "_law_same" = some (.ref (He.ga K "_law_same")) := let ⟨_, X, G⟩ := B.h; He.glo_ok X G (B.fact 18 (f := .glo "_law_same"))
theorem Bk.g_law_mixed (B : Bk K mg) : mg "_law_mixed" = some (.ref (He.ga K "_law_mixed")) := let ⟨_, X, G⟩ := B.h; He.glo_ok X G (B.fact 19 (f := .glo "_law_mixed"))
theorem Bk.g_law_gcd (B : Bk K mg) : mg "_law_gcd" = some (.ref (He.ga K "_law_gcd")) := let ⟨_, X, G⟩ := B.h; He.glo_ok X G (B.fact 20 (f := .glo "_law_gcd"))
theorem Bk.g_law_lcm (B : Bk K mg) : mg "_law_lcm" = some (.ref (He.ga K "_law_lcm")) := let ⟨_, X, G⟩ := B.h; He.glo_ok X G (B.fact 21 (f := .glo "_law_lcm"))
theorem Bk.g_law_book (B : Bk K mg) : mg "_law_book" = some (.ref (He.ga K "_law_book")) := let ⟨_, X, G⟩ := B.h; He.glo_ok X G (B.fact 22 (f := .glo "_law_book"))
theorem Bk.g_law_told (B : Bk K mg) : mg "_law_told" = some (.ref (He.ga K "_law_told")) := let ⟨_, X, G⟩ := B.h; He.glo_ok X G (B.fact 23 (f := .glo "_law_told"))
theorem Bk.g_law_field (B : Bk K mg) : mg "_law_field" = some (.ref (He.ga K "_law_field")) := let ⟨_, X, G⟩ := B.h; He.glo_ok X G (B.fact 24 (f := .glo "_law_field"))
theorem Bk.g_law_split (B : Bk K mg) : mg "_law_split" = some (.ref (He.ga K "_law_split")) := let ⟨_, X, G⟩ := B.h; He.glo_ok X G (B.fact 25 (f := .glo "_law_split"))
theorem Bk.g_law_mods (B : Bk K mg) : mg "_law_mods" = some (.ref (He.ga K "_law_mods")) := let ⟨_, X, G⟩ := B.h; He.glo_ok X G (B.fact 26 (f := .glo "_law_mods"))
theorem Bk.g_law_shown (B : Bk K mg) : mg "_law_shown" = some (.ref (He.ga K "_law_shown")) := let ⟨_, X, G⟩ := B.h; He.glo_ok X G (B.fact 27 (f := .glo "_law_shown"))
theorem Bk.g_law_heard (B : Bk K mg) : mg "_law_heard" = some (.ref (He.ga K "_law_heard")) := let ⟨_, X, G⟩ := B.h; He.glo_ok X G (B.fact 28 (f := .glo "_law_heard"))
theorem Bk.g_law_by_hand_right (B : Bk K mg) : mg "_law_by_hand_right" = some (.ref (He.ga K "_law_by_hand_right")) := let ⟨_, X, G⟩ := B.h; He.glo_ok X G (B.fact 29 (f := .glo "_law_by_hand_right"))
theorem Bk.g_law_looked_right (B : Bk K mg) : mg "_law_looked_right" = some (.ref (He.ga K "_law_looked_right")) := let ⟨_, X, G⟩ := B.h; He.glo_ok X G (B.fact 30 (f := .glo "_law_looked_right"))
theorem Bk.g_law_right (B : Bk K mg) : mg "_law_right" = some (.ref (He.ga K "_law_right")) := let ⟨_, X, G⟩ := B.h; He.glo_ok X G (B.fact 31 (f := .glo "_law_right"))
theorem Bk.g_law (B : Bk K mg) : mg "law" = some (.ref (He.ga K "law")) := let ⟨_, X, G⟩ := B.h; He.glo_ok X G (B.fact 32 (f := .glo "law"))
theorem Bk.g_NoName (B : Bk K mg) : mg "NoName" = some (.ref (He.ga K "NoName")) := let ⟨_, X, G⟩ := B.h; He.glo_ok X G (B.fact 33 (f := .glo "NoName"))
theorem Bk.g_NoPlace (B : Bk K mg) : mg "NoPlace" = some (.ref (He.ga K "NoPlace")) := let ⟨_, X, G⟩ := B.h; He.glo_ok X G (B.fact 34 (f := .glo "NoPlace"))
theorem Bk.g_BadField (B : Bk K mg) : mg "BadField" = some (.ref (He.ga K "BadField")) := let ⟨_, X, G⟩ := B.h; He.glo_ok X G (B.fact 35 (f := .glo "BadField"))
theorem Bk.g_BadLine (B : Bk K mg) : mg "BadLine" = some (.ref (He.ga K "BadLine")) := let ⟨_, X, G⟩ := B.h; He.glo_ok X G (B.fact 36 (f := .glo "BadLine"))
theorem Bk.g_Ringed (B : Bk K mg) : mg "Ringed" = some (.ref (He.ga K "Ringed")) := let ⟨_, X, G⟩ := B.h; He.glo_ok X G (B.fact 37 (f := .glo "Ringed"))
theorem Bk.g_MixedKeys (B : Bk K mg) : mg "MixedKeys" = some (.ref (He.ga K "MixedKeys")) := let ⟨_, X, G⟩ := B.h; He.glo_ok X G (B.fact 38 (f := .glo "MixedKeys"))
theorem Bk.g_Keys (B : Bk K mg) : mg "Keys" = some (.ref (He.ga K "Keys")) := let ⟨_, X, G⟩ := B.h; He.glo_ok X G (B.fact 39 (f := .glo "Keys"))
theorem Bk.g_Stage (B : Bk K mg) : mg "Stage" = some (.ref (He.ga K "Stage")) := let ⟨_, X, G⟩ := B.h; He.glo_ok X G (B.fact 40 (f := .glo "Stage"))
theorem Bk.b_len (B : Bk K mg) : mg "len" = none := let ⟨_, X, G⟩ := B.h; He.free_ok X G (B.fact 41 (f := .free "len"))
theorem Bk.b_isinstance (B : Bk K mg) : mg "isinstance" = none := let ⟨_, X, G⟩ := B.h; He.free_ok X G (B.fact 42 (f := .free "isinstance"))
theorem Bk.b_all (B : Bk K mg) : mg "all" = none := let ⟨_, X, G⟩ := B.h; He.free_ok X G (B.fact 43 (f := .free "all"))
theorem Bk.b_sorted (B : Bk K mg) : mg "sorted" = none := let ⟨_, X, G⟩ := B.h; He.free_ok X G (B.fact 44 (f := .free "sorted"))
theorem Bk.b_set (B : Bk K mg) : mg "set" = none := let ⟨_, X, G⟩ := B.h; He.free_ok X G (B.fact 45 (f := .free "set"))
theorem Bk.b_tuple (B : Bk K mg) : mg "tuple" = none := let ⟨_, X, G⟩ := B.h; He.free_ok X G (B.fact 46 (f := .free "tuple"))
theorem Bk.b_list (B : Bk K mg) : mg "list" = none := let ⟨_, X, G⟩ := B.h; He.free_ok X G (B.fact 47 (f := .free "list"))
theorem Bk.b_range (B : Bk K mg) : mg "range" = none := let ⟨_, X, G⟩ := B.h; He.free_ok X G (B.fact 48 (f := .free "range"))
theorem Bk.b_int (B : Bk K mg) : mg "int" = none := let ⟨_, X, G⟩ := B.h; He.free_ok X G (B.fact 49 (f := .free "int"))
theorem Bk.b_str (B : Bk K mg) : mg "str" = none := let ⟨_, X, G⟩ := B.h; He.free_ok X G (B.fact 50 (f := .free "str"))
theorem Bk.b_abs (B : Bk K mg) : mg "abs" = none := let ⟨_, X, G⟩ := B.h; He.free_ok X G (B.fact 51 (f := .free "abs"))
theorem Bk.b_zip (B : Bk K mg) : mg "zip" = none := let ⟨_, X, G⟩ := B.h; He.free_ok X G (B.fact 52 (f := .free "zip"))
theorem Bk.b_enumerate (B : Bk K mg) : mg "enumerate" = none := let ⟨_, X, G⟩ := B.h; He.free_ok X G (B.fact 53 (f := .free "enumerate"))
theorem Bk.b_divmod (B : Bk K mg) : mg "divmod" = none := let ⟨_, X, G⟩ := B.h; He.free_ok X G (B.fact 54 (f := .free "divmod"))
theorem Bk.b_LookupError (B : Bk K mg) : mg "LookupError" = none := let ⟨_, X, G⟩ := B.h; He.free_ok X G (B.fact 55 (f := .free "LookupError"))
theorem Bk.b_ValueError (B : Bk K mg) : mg "ValueError" = none := let ⟨_, X, G⟩ := B.h; He.free_ok X G (B.fact 56 (f := .free "ValueError"))
theorem Bk.b_bool (B : Bk K mg) : mg "bool" = none := let ⟨_, X, G⟩ := B.h; He.free_ok X G (B.fact 57 (f := .free "bool"))
theorem Bk.b_dict (B : Bk K mg) : mg "dict" = none := let ⟨_, X, G⟩ := B.h; He.free_ok X G (B.fact 58 (f := .free "dict"))
theorem Bk.b_sum (B : Bk K mg) : mg "sum" = none := let ⟨_, X, G⟩ := B.h; He.free_ok X G (B.fact 59 (f := .free "sum"))
theorem Bk.b_any (B : Bk K mg) : mg "any" = none := let ⟨_, X, G⟩ := B.h; He.free_ok X G (B.fact 60 (f := .free "any"))
theorem Bk.c_DIGITS (B : Bk K mg) : ∃ t, mg "_DIGITS" = some (.str "0123456789" t) := let ⟨_, X, G⟩ := B.h; He.str_ok X G (B.fact 61 (f := .str "_DIGITS" "0123456789"))
theorem Bk.cl_Keys (B : Bk K mg) : Cls K (He.ga K "Keys") := He.cls_ok (B.fact 62 (f := .cls "Keys"))
theorem Bk.mk_Keys (B : Bk K mg) : Mk K (He.ga K "Keys") (He.ma K (He.ga K "Keys") "__init__") := He.mkr_ok (B.fact 63 (f := .mkr "Keys"))
theorem Bk.no_Keys__names (B : Bk K mg) : NoAttr K (He.ga K "Keys") "_names" := He.noat_ok (B.fact 64 (f := .noat "Keys" "_names"))
theorem Bk.no_Keys__told (B : Bk K mg) : NoAttr K (He.ga K "Keys") "_told" := He.noat_ok (B.fact 65 (f := .noat "Keys" "_told"))
theorem Bk.cl_Stage (B : Bk K mg) : Cls K (He.ga K "Stage") := He.cls_ok (B.fact 66 (f := .cls "Stage"))
theorem Bk.mk_Stage (B : Bk K mg) : Mk K (He.ga K "Stage") (He.ma K (He.ga K "Stage") "__init__") := He.mkr_ok (B.fact 67 (f := .mkr "Stage"))
theorem Bk.no_Stage__numbers (B : Bk K mg) : NoAttr K (He.ga K "Stage") "_numbers" := He.noat_ok (B.fact 68 (f := .noat "Stage" "_numbers"))
theorem Bk.no_Stage__schema (B : Bk K mg) : NoAttr K (He.ga K "Stage") "_schema" := He.noat_ok (B.fact 69 (f := .noat "Stage" "_schema"))
theorem Bk.me_Keys_tells (B : Bk K mg) : Meth K (He.ga K "Keys") "tells" (He.ma K (He.ga K "Keys") "tells") := He.meth_ok (B.fact 70 (f := .meth "Keys" "tells"))
theorem Bk.me_Keys_told (B : Bk K mg) : Meth K (He.ga K "Keys") "told" (He.ma K (He.ga K "Keys") "told") := He.meth_ok (B.fact 71 (f := .meth "Keys" "told"))
theorem Bk.me_Keys__check (B : Bk K mg) : Meth K (He.ga K "Keys") "_check" (He.ma K (He.ga K "Keys") "_check") := He.meth_ok (B.fact 72 (f := .meth "Keys" "_check"))
theorem Bk.ox_BadField (B : Bk K mg) : OexC K (He.ga K "BadField") ∧ PySem.W.findIn K (.ref (He.ga K "BadField")) "__init__" = some (some (.ref (He.ma K (He.ga K "BadField") "__init__"))) ∧ PySem.W.typeIn K (.ref (He.ma K (He.ga K "BadField") "__init__")) = some (.type "function") := oexB_ok (B.ex 0 (f := fun K => oexB K "BadField"))
theorem Bk.ox_BadLine (B : Bk K mg) : OexC K (He.ga K "BadLine") ∧ PySem.W.findIn K (.ref (He.ga K "BadLine")) "__init__" = some (some (.ref (He.ma K (He.ga K "BadLine") "__init__"))) ∧ PySem.W.typeIn K (.ref (He.ma K (He.ga K "BadLine") "__init__")) = some (.type "function") := oexB_ok (B.ex 1 (f := fun K => oexB K "BadLine"))
theorem Bk.ox_Ringed (B : Bk K mg) : OexC K (He.ga K "Ringed") ∧ PySem.W.findIn K (.ref (He.ga K "Ringed")) "__init__" = some (some (.ref (He.ma K (He.ga K "Ringed") "__init__"))) ∧ PySem.W.typeIn K (.ref (He.ma K (He.ga K "Ringed") "__init__")) = some (.type "function") := oexB_ok (B.ex 2 (f := fun K => oexB K "Ringed"))
theorem Bk.ox_MixedKeys (B : Bk K mg) : OexC K (He.ga K "MixedKeys") ∧ PySem.W.findIn K (.ref (He.ga K "MixedKeys")) "__init__" = some (some (.ref (He.ma K (He.ga K "MixedKeys") "__init__"))) ∧ PySem.W.typeIn K (.ref (He.ma K (He.ga K "MixedKeys") "__init__")) = some (.type "function") := oexB_ok (B.ex 3 (f := fun K => oexB K "MixedKeys"))
theorem Bk.lx_NoName (B : Bk K mg) : LexC K (He.ga K "NoName") ∧ PySem.W.findIn K (.ref (He.ga K "NoName")) "__init__" = some (some (.ref (He.ma K (He.ga K "NoName") "__init__"))) ∧ PySem.W.typeIn K (.ref (He.ma K (He.ga K "NoName") "__init__")) = some (.type "function") := lexB_ok (B.ex 4 (f := fun K => lexB K "NoName"))
theorem Bk.lx_NoPlace (B : Bk K mg) : LexC K (He.ga K "NoPlace") ∧ PySem.W.findIn K (.ref (He.ga K "NoPlace")) "__init__" = some (some (.ref (He.ma K (He.ga K "NoPlace") "__init__"))) ∧ PySem.W.typeIn K (.ref (He.ma K (He.ga K "NoPlace") "__init__")) = some (.type "function") := lexB_ok (B.ex 5 (f := fun K => lexB K "NoPlace"))
theorem Bk.bl_gcd (B : Bk K mg) : mg "gcd" = some (.builtin "math.gcd") := let ⟨_, X, G⟩ := B.h; blB_ok X G (B.ex 6 (f := fun K => blB K "gcd" "math.gcd"))
theorem Bk.bl_lcm (B : Bk K mg) : mg "lcm" = some (.builtin "math.lcm") := let ⟨_, X, G⟩ := B.h; blB_ok X G (B.ex 7 (f := fun K => blB K "lcm" "math.lcm"))
theorem Bk.sp_Keys_contains (B : Bk K mg) : PySem.W.findIn K (.ref (He.ga K "Keys")) "__contains__" = some (some (.ref (He.ma K (He.ga K "Keys") "__contains__"))) ∧ PySem.W.isFn K (.ref (He.ma K (He.ga K "Keys") "__contains__")) = true := eqsB_ok (B.ex 9 (f := fun K => eqsB K "Keys" "__contains__"))
theorem Bk.sp_Keys_len (B : Bk K mg) : PySem.W.findIn K (.ref (He.ga K "Keys")) "__len__" = some (some (.ref (He.ma K (He.ga K "Keys") "__len__"))) ∧ PySem.W.isFn K (.ref (He.ma K (He.ga K "Keys") "__len__")) = true := eqsB_ok (B.ex 10 (f := fun K => eqsB K "Keys" "__len__"))
theorem Bk.sp_Keys_eq (B : Bk K mg) : PySem.W.findIn K (.ref (He.ga K "Keys")) "__eq__" = some (some (.ref (He.ma K (He.ga K "Keys") "__eq__"))) ∧ PySem.W.isFn K (.ref (He.ma K (He.ga K "Keys") "__eq__")) = true := eqsB_ok (B.ex 11 (f := fun K => eqsB K "Keys" "__eq__"))
theorem Bk.sp_Stage_getitem (B : Bk K mg) : PySem.W.findIn K (.ref (He.ga K "Stage")) "__getitem__" = some (some (.ref (He.ma K (He.ga K "Stage") "__getitem__"))) ∧ PySem.W.isFn K (.ref (He.ma K (He.ga K "Stage") "__getitem__")) = true := eqsB_ok (B.ex 12 (f := fun K => eqsB K "Stage" "__getitem__"))
theorem Bk.sp_Stage_contains (B : Bk K mg) : PySem.W.findIn K (.ref (He.ga K "Stage")) "__contains__" = some (some (.ref (He.ma K (He.ga K "Stage") "__contains__"))) ∧ PySem.W.isFn K (.ref (He.ma K (He.ga K "Stage") "__contains__")) = true := eqsB_ok (B.ex 13 (f := fun K => eqsB K "Stage" "__contains__"))
theorem Bk.sp_Stage_len (B : Bk K mg) : PySem.W.findIn K (.ref (He.ga K "Stage")) "__len__" = some (some (.ref (He.ma K (He.ga K "Stage") "__len__"))) ∧ PySem.W.isFn K (.ref (He.ma K (He.ga K "Stage") "__len__")) = true := eqsB_ok (B.ex 14 (f := fun K => eqsB K "Stage" "__len__"))
theorem Bk.sp_Stage_eq (B : Bk K mg) : PySem.W.findIn K (.ref (He.ga K "Stage")) "__eq__" = some (some (.ref (He.ma K (He.ga K "Stage") "__eq__"))) ∧ PySem.W.isFn K (.ref (He.ma K (He.ga K "Stage") "__eq__")) = true := eqsB_ok (B.ex 15 (f := fun K => eqsB K "Stage" "__eq__"))
theorem Bk.ne_Keys (B : Bk K mg) : PySem.W.findIn K (.ref (He.ga K "Keys")) "__ne__" = some (some (.builtin "object.__ne__")) := He.eqO_ok (B.ex 16 (f := fun K => He.eqO (PySem.W.findIn K (.ref (He.ga K "Keys")) "__ne__") (some (some (.builtin "object.__ne__")))))
theorem Bk.ne_Stage (B : Bk K mg) : PySem.W.findIn K (.ref (He.ga K "Stage")) "__ne__" = some (some (.builtin "object.__ne__")) := He.eqO_ok (B.ex 17 (f := fun K => He.eqO (PySem.W.findIn K (.ref (He.ga K "Stage")) "__ne__") (some (some (.builtin "object.__ne__")))))
theorem Bk.pr_Keys_names (B : Bk K mg) : PropOf K (He.ga K "Keys") "names" (He.ma K (He.ga K "Keys") "names") (propG K "Keys" "names") := propB_ok (B.ex 18 (f := fun K => propB K "Keys" "names"))
theorem Bk.pr_Keys_pairs (B : Bk K mg) : PropOf K (He.ga K "Keys") "pairs" (He.ma K (He.ga K "Keys") "pairs") (propG K "Keys" "pairs") := propB_ok (B.ex 19 (f := fun K => propB K "Keys" "pairs"))
theorem Bk.pr_Stage_schema (B : Bk K mg) : PropOf K (He.ga K "Stage") "schema" (He.ma K (He.ga K "Stage") "schema") (propG K "Stage" "schema") := propB_ok (B.ex 20 (f := fun K => propB K "Stage" "schema"))
theorem Bk.pr_Stage_fields (B : Bk K mg) : PropOf K (He.ga K "Stage") "fields" (He.ma K (He.ga K "Stage") "fields") (propG K "Stage" "fields") := propB_ok (B.ex 21 (f := fun K => propB K "Stage" "fields"))
theorem Bk.pr_Stage_text (B : Bk K mg) : PropOf K (He.ga K "Stage") "text" (He.ma K (He.ga K "Stage") "text") (propG K "Stage" "text") := propB_ok (B.ex 22 (f := fun K => propB K "Stage" "text"))
theorem Bk.sm_Stage_of (B : Bk K mg) : SMet K (He.ga K "Stage") "of" (He5.wf K (He.ga K "Stage") "staticmethod" "of") := smB_ok (B.ex 23 (f := fun K => smB K "Stage" "of"))
theorem Bk.xc_NoName (B : Bk K mg) : ExcC K (He.ga K "NoName") := xcB_ok (B.ex 24 (f := fun K => xcB K (He.ga K "NoName")))
theorem Bk.kit_NoName_LookupError (B : Bk K mg) : PySem.W.kitOne K (.ref (He.ga K "NoName")) (.type "LookupError") = some true := of_decide_eq_true (B.ex 25 (f := fun K => decide (PySem.W.kitOne K (.ref (He.ga K "NoName")) (.type "LookupError") = some true)))
theorem Bk.nf_NoName_name (B : Bk K mg) : PySem.W.findIn K (.ref (He.ga K "NoName")) "name" = some none := He.eqO_ok (B.ex 26 (f := fun K => He.eqO (PySem.W.findIn K (.ref (He.ga K "NoName")) "name") (some none)))
theorem Bk.xc_NoPlace (B : Bk K mg) : ExcC K (He.ga K "NoPlace") := xcB_ok (B.ex 27 (f := fun K => xcB K (He.ga K "NoPlace")))
theorem Bk.kit_NoPlace_LookupError (B : Bk K mg) : PySem.W.kitOne K (.ref (He.ga K "NoPlace")) (.type "LookupError") = some true := of_decide_eq_true (B.ex 28 (f := fun K => decide (PySem.W.kitOne K (.ref (He.ga K "NoPlace")) (.type "LookupError") = some true)))
theorem Bk.nf_NoPlace_place (B : Bk K mg) : PySem.W.findIn K (.ref (He.ga K "NoPlace")) "place" = some none := He.eqO_ok (B.ex 29 (f := fun K => He.eqO (PySem.W.findIn K (.ref (He.ga K "NoPlace")) "place") (some none)))
theorem Bk.xc_BadField (B : Bk K mg) : ExcC K (He.ga K "BadField") := xcB_ok (B.ex 30 (f := fun K => xcB K (He.ga K "BadField")))
theorem Bk.kit_BadField_ValueError (B : Bk K mg) : PySem.W.kitOne K (.ref (He.ga K "BadField")) (.type "ValueError") = some true := of_decide_eq_true (B.ex 31 (f := fun K => decide (PySem.W.kitOne K (.ref (He.ga K "BadField")) (.type "ValueError") = some true)))
theorem Bk.nf_BadField_field (B : Bk K mg) : PySem.W.findIn K (.ref (He.ga K "BadField")) "field" = some none := He.eqO_ok (B.ex 32 (f := fun K => He.eqO (PySem.W.findIn K (.ref (He.ga K "BadField")) "field") (some none)))
theorem Bk.xc_BadLine (B : Bk K mg) : ExcC K (He.ga K "BadLine") := xcB_ok (B.ex 33 (f := fun K => xcB K (He.ga K "BadLine")))
theorem Bk.kit_BadLine_ValueError (B : Bk K mg) : PySem.W.kitOne K (.ref (He.ga K "BadLine")) (.type "ValueError") = some true := of_decide_eq_true (B.ex 34 (f := fun K => decide (PySem.W.kitOne K (.ref (He.ga K "BadLine")) (.type "ValueError") = some true)))
theorem Bk.nf_BadLine_number (B : Bk K mg) : PySem.W.findIn K (.ref (He.ga K "BadLine")) "number" = some none := He.eqO_ok (B.ex 35 (f := fun K => He.eqO (PySem.W.findIn K (.ref (He.ga K "BadLine")) "number") (some none)))
theorem Bk.xc_Ringed (B : Bk K mg) : ExcC K (He.ga K "Ringed") := xcB_ok (B.ex 36 (f := fun K => xcB K (He.ga K "Ringed")))
theorem Bk.kit_Ringed_ValueError (B : Bk K mg) : PySem.W.kitOne K (.ref (He.ga K "Ringed")) (.type "ValueError") = some true := of_decide_eq_true (B.ex 37 (f := fun K => decide (PySem.W.kitOne K (.ref (He.ga K "Ringed")) (.type "ValueError") = some true)))
theorem Bk.nf_Ringed_ring (B : Bk K mg) : PySem.W.findIn K (.ref (He.ga K "Ringed")) "ring" = some none := He.eqO_ok (B.ex 38 (f := fun K => He.eqO (PySem.W.findIn K (.ref (He.ga K "Ringed")) "ring") (some none)))
theorem Bk.xc_MixedKeys (B : Bk K mg) : ExcC K (He.ga K "MixedKeys") := xcB_ok (B.ex 39 (f := fun K => xcB K (He.ga K "MixedKeys")))
theorem Bk.kit_MixedKeys_ValueError (B : Bk K mg) : PySem.W.kitOne K (.ref (He.ga K "MixedKeys")) (.type "ValueError") = some true := of_decide_eq_true (B.ex 40 (f := fun K => decide (PySem.W.kitOne K (.ref (He.ga K "MixedKeys")) (.type "ValueError") = some true)))
theorem Bk.kit_Keys_str (B : Bk K mg) : PySem.W.kitOne K (.ref (He.ga K "Keys")) (.type "str") = some false := of_decide_eq_true (B.ex 41 (f := fun K => decide (PySem.W.kitOne K (.ref (He.ga K "Keys")) (.type "str") = some false)))
theorem Bk.kit_Keys_list (B : Bk K mg) : PySem.W.kitOne K (.ref (He.ga K "Keys")) (.type "list") = some false := of_decide_eq_true (B.ex 42 (f := fun K => decide (PySem.W.kitOne K (.ref (He.ga K "Keys")) (.type "list") = some false)))
theorem Bk.kit_Keys_tuple (B : Bk K mg) : PySem.W.kitOne K (.ref (He.ga K "Keys")) (.type "tuple") = some false := of_decide_eq_true (B.ex 43 (f := fun K => decide (PySem.W.kitOne K (.ref (He.ga K "Keys")) (.type "tuple") = some false)))
theorem Bk.kit_Keys_bool (B : Bk K mg) : PySem.W.kitOne K (.ref (He.ga K "Keys")) (.type "bool") = some false := of_decide_eq_true (B.ex 44 (f := fun K => decide (PySem.W.kitOne K (.ref (He.ga K "Keys")) (.type "bool") = some false)))
theorem Bk.kit_Keys_int (B : Bk K mg) : PySem.W.kitOne K (.ref (He.ga K "Keys")) (.type "int") = some false := of_decide_eq_true (B.ex 45 (f := fun K => decide (PySem.W.kitOne K (.ref (He.ga K "Keys")) (.type "int") = some false)))
theorem Bk.kit_Keys_Keys (B : Bk K mg) : PySem.W.kitOne K (.ref (He.ga K "Keys")) (.ref (He.ga K "Keys")) = some true := of_decide_eq_true (B.ex 46 (f := fun K => decide (PySem.W.kitOne K (.ref (He.ga K "Keys")) (.ref (He.ga K "Keys")) = some true)))
theorem Bk.kit_Keys_Stage (B : Bk K mg) : PySem.W.kitOne K (.ref (He.ga K "Keys")) (.ref (He.ga K "Stage")) = some false := of_decide_eq_true (B.ex 47 (f := fun K => decide (PySem.W.kitOne K (.ref (He.ga K "Keys")) (.ref (He.ga K "Stage")) = some false)))
theorem Bk.kit_Stage_str (B : Bk K mg) : PySem.W.kitOne K (.ref (He.ga K "Stage")) (.type "str") = some false := of_decide_eq_true (B.ex 48 (f := fun K => decide (PySem.W.kitOne K (.ref (He.ga K "Stage")) (.type "str") = some false)))
theorem Bk.kit_Stage_list (B : Bk K mg) : PySem.W.kitOne K (.ref (He.ga K "Stage")) (.type "list") = some false := of_decide_eq_true (B.ex 49 (f := fun K => decide (PySem.W.kitOne K (.ref (He.ga K "Stage")) (.type "list") = some false)))
theorem Bk.kit_Stage_tuple (B : Bk K mg) : PySem.W.kitOne K (.ref (He.ga K "Stage")) (.type "tuple") = some false := of_decide_eq_true (B.ex 50 (f := fun K => decide (PySem.W.kitOne K (.ref (He.ga K "Stage")) (.type "tuple") = some false)))
theorem Bk.kit_Stage_bool (B : Bk K mg) : PySem.W.kitOne K (.ref (He.ga K "Stage")) (.type "bool") = some false := of_decide_eq_true (B.ex 51 (f := fun K => decide (PySem.W.kitOne K (.ref (He.ga K "Stage")) (.type "bool") = some false)))
theorem Bk.kit_Stage_int (B : Bk K mg) : PySem.W.kitOne K (.ref (He.ga K "Stage")) (.type "int") = some false := of_decide_eq_true (B.ex 52 (f := fun K => decide (PySem.W.kitOne K (.ref (He.ga K "Stage")) (.type "int") = some false)))
theorem Bk.kit_Stage_Keys (B : Bk K mg) : PySem.W.kitOne K (.ref (He.ga K "Stage")) (.ref (He.ga K "Keys")) = some false := of_decide_eq_true (B.ex 53 (f := fun K => decide (PySem.W.kitOne K (.ref (He.ga K "Stage")) (.ref (He.ga K "Keys")) = some false)))
theorem Bk.kit_Stage_Stage (B : Bk K mg) : PySem.W.kitOne K (.ref (He.ga K "Stage")) (.ref (He.ga K "Stage")) = some true := of_decide_eq_true (B.ex 54 (f := fun K => decide (PySem.W.kitOne K (.ref (He.ga K "Stage")) (.ref (He.ga K "Stage")) = some true)))
theorem Bk.fin_Stage_getitem (B : Bk K mg) : PySem.W.fnIn K (He.ma K (He.ga K "Stage") "__getitem__") = true := (B.ex 55 (f := fun K => PySem.W.fnIn K (He.ma K (He.ga K "Stage") "__getitem__")))
theorem Bk.nfst_Keys_tuple (B : Bk K mg) : PySem.W.notFirst K (He.ga K "Keys") (.type "tuple") = true := (B.ex 56 (f := fun K => PySem.W.notFirst K (He.ga K "Keys") (.type "tuple")))
theorem Bk.kit_tuple_Keys (B : Bk K mg) : PySem.W.kitOne K (.type "tuple") (.ref (He.ga K "Keys")) = some false := of_decide_eq_true (B.ex 57 (f := fun K => decide (PySem.W.kitOne K (.type "tuple") (.ref (He.ga K "Keys")) = some false)))
theorem Bk.nfst_Keys_list (B : Bk K mg) : PySem.W.notFirst K (He.ga K "Keys") (.type "list") = true := (B.ex 58 (f := fun K => PySem.W.notFirst K (He.ga K "Keys") (.type "list")))
theorem Bk.kit_list_Keys (B : Bk K mg) : PySem.W.kitOne K (.type "list") (.ref (He.ga K "Keys")) = some false := of_decide_eq_true (B.ex 59 (f := fun K => decide (PySem.W.kitOne K (.type "list") (.ref (He.ga K "Keys")) = some false)))
theorem Bk.nfst_Stage_tuple (B : Bk K mg) : PySem.W.notFirst K (He.ga K "Stage") (.type "tuple") = true := (B.ex 60 (f := fun K => PySem.W.notFirst K (He.ga K "Stage") (.type "tuple")))
theorem Bk.kit_tuple_Stage (B : Bk K mg) : PySem.W.kitOne K (.type "tuple") (.ref (He.ga K "Stage")) = some false := of_decide_eq_true (B.ex 61 (f := fun K => decide (PySem.W.kitOne K (.type "tuple") (.ref (He.ga K "Stage")) = some false)))
theorem Bk.nfst_Stage_list (B : Bk K mg) : PySem.W.notFirst K (He.ga K "Stage") (.type "list") = true := (B.ex 62 (f := fun K => PySem.W.notFirst K (He.ga K "Stage") (.type "list")))
theorem Bk.kit_list_Stage (B : Bk K mg) : PySem.W.kitOne K (.type "list") (.ref (He.ga K "Stage")) = some false := of_decide_eq_true (B.ex 63 (f := fun K => decide (PySem.W.kitOne K (.type "list") (.ref (He.ga K "Stage")) = some false)))
theorem Bk.ty_Keys (B : Bk K mg) : PySem.W.findIn K (.ref (He.ga K "Keys")) "__class__" = some (some (.builtin "object.__class__")) ∧ PySem.W.specialIn K (.builtin "object.__class__") "__get__" = some (some (.builtin "getset_descriptor.__get__")) ∧ PySem.W.takesIn K (.builtin "object.__class__") = some true ∧ PySem.W.mroIn K (He.ga K "Keys") (.type "object") = some true := tyB_ok (B.ex 64 (f := fun K => tyB K (He.ga K "Keys")))
theorem Bk.ty_Stage (B : Bk K mg) : PySem.W.findIn K (.ref (He.ga K "Stage")) "__class__" = some (some (.builtin "object.__class__")) ∧ PySem.W.specialIn K (.builtin "object.__class__") "__get__" = some (some (.builtin "getset_descriptor.__get__")) ∧ PySem.W.takesIn K (.builtin "object.__class__") = some true ∧ PySem.W.mroIn K (He.ga K "Stage") (.type "object") = some true := tyB_ok (B.ex 65 (f := fun K => tyB K (He.ga K "Stage")))
theorem Bk.nf_Keys___bool__ (B : Bk K mg) : PySem.W.findIn K (.ref (He.ga K "Keys")) "__bool__" = some none := He.eqO_ok (B.ex 66 (f := fun K => He.eqO (PySem.W.findIn K (.ref (He.ga K "Keys")) "__bool__") (some none)))
theorem Bk.nf_Stage___bool__ (B : Bk K mg) : PySem.W.findIn K (.ref (He.ga K "Stage")) "__bool__" = some none := He.eqO_ok (B.ex 67 (f := fun K => He.eqO (PySem.W.findIn K (.ref (He.ga K "Stage")) "__bool__") (some none)))
theorem Bk.df_Keys_init (B : Bk K mg) (H : Hp) : SqT K H (dflA (fun K => He.ma K (He.ga K "Keys") "__init__") 0 K) [] := tup0B_ok (B.ex 68 (f := fun K => tup0B K (dflA (fun K => He.ma K (He.ga K "Keys") "__init__") 0 K))) H
theorem Bk.exm_NoName_NoName (B : Bk K mg) : PySem.W.exmOne K (.ref (He.ga K "NoName")) (.ref (He.ga K "NoName")) = some true := of_decide_eq_true (B.ex 69 (f := fun K => decide (PySem.W.exmOne K (.ref (He.ga K "NoName")) (.ref (He.ga K "NoName")) = some true)))
theorem Bk.exm_NoName_NoPlace (B : Bk K mg) : PySem.W.exmOne K (.ref (He.ga K "NoName")) (.ref (He.ga K "NoPlace")) = some false := of_decide_eq_true (B.ex 70 (f := fun K => decide (PySem.W.exmOne K (.ref (He.ga K "NoName")) (.ref (He.ga K "NoPlace")) = some false)))
theorem Bk.exm_NoName_BadField (B : Bk K mg) : PySem.W.exmOne K (.ref (He.ga K "NoName")) (.ref (He.ga K "BadField")) = some false := of_decide_eq_true (B.ex 71 (f := fun K => decide (PySem.W.exmOne K (.ref (He.ga K "NoName")) (.ref (He.ga K "BadField")) = some false)))
theorem Bk.exm_NoName_BadLine (B : Bk K mg) : PySem.W.exmOne K (.ref (He.ga K "NoName")) (.ref (He.ga K "BadLine")) = some false := of_decide_eq_true (B.ex 72 (f := fun K => decide (PySem.W.exmOne K (.ref (He.ga K "NoName")) (.ref (He.ga K "BadLine")) = some false)))
theorem Bk.exm_NoName_Ringed (B : Bk K mg) : PySem.W.exmOne K (.ref (He.ga K "NoName")) (.ref (He.ga K "Ringed")) = some false := of_decide_eq_true (B.ex 73 (f := fun K => decide (PySem.W.exmOne K (.ref (He.ga K "NoName")) (.ref (He.ga K "Ringed")) = some false)))
theorem Bk.exm_NoName_MixedKeys (B : Bk K mg) : PySem.W.exmOne K (.ref (He.ga K "NoName")) (.ref (He.ga K "MixedKeys")) = some false := of_decide_eq_true (B.ex 74 (f := fun K => decide (PySem.W.exmOne K (.ref (He.ga K "NoName")) (.ref (He.ga K "MixedKeys")) = some false)))
theorem Bk.exm_NoPlace_NoName (B : Bk K mg) : PySem.W.exmOne K (.ref (He.ga K "NoPlace")) (.ref (He.ga K "NoName")) = some false := of_decide_eq_true (B.ex 75 (f := fun K => decide (PySem.W.exmOne K (.ref (He.ga K "NoPlace")) (.ref (He.ga K "NoName")) = some false)))
theorem Bk.exm_NoPlace_NoPlace (B : Bk K mg) : PySem.W.exmOne K (.ref (He.ga K "NoPlace")) (.ref (He.ga K "NoPlace")) = some true := of_decide_eq_true (B.ex 76 (f := fun K => decide (PySem.W.exmOne K (.ref (He.ga K "NoPlace")) (.ref (He.ga K "NoPlace")) = some true)))
theorem Bk.exm_NoPlace_BadField (B : Bk K mg) : PySem.W.exmOne K (.ref (He.ga K "NoPlace")) (.ref (He.ga K "BadField")) = some false := of_decide_eq_true (B.ex 77 (f := fun K => decide (PySem.W.exmOne K (.ref (He.ga K "NoPlace")) (.ref (He.ga K "BadField")) = some false)))
theorem Bk.exm_NoPlace_BadLine (B : Bk K mg) : PySem.W.exmOne K (.ref (He.ga K "NoPlace")) (.ref (He.ga K "BadLine")) = some false := of_decide_eq_true (B.ex 78 (f := fun K => decide (PySem.W.exmOne K (.ref (He.ga K "NoPlace")) (.ref (He.ga K "BadLine")) = some false)))
theorem Bk.exm_NoPlace_Ringed (B : Bk K mg) : PySem.W.exmOne K (.ref (He.ga K "NoPlace")) (.ref (He.ga K "Ringed")) = some false := of_decide_eq_true (B.ex 79 (f := fun K => decide (PySem.W.exmOne K (.ref (He.ga K "NoPlace")) (.ref (He.ga K "Ringed")) = some false)))
theorem Bk.exm_NoPlace_MixedKeys (B : Bk K mg) : PySem.W.exmOne K (.ref (He.ga K "NoPlace")) (.ref (He.ga K "MixedKeys")) = some false := of_decide_eq_true (B.ex 80 (f := fun K => decide (PySem.W.exmOne K (.ref (He.ga K "NoPlace")) (.ref (He.ga K "MixedKeys")) = some false)))
theorem Bk.exm_BadField_NoName (B : Bk K mg) : PySem.W.exmOne K (.ref (He.ga K "BadField")) (.ref (He.ga K "NoName")) = some false := of_decide_eq_true (B.ex 81 (f := fun K => decide (PySem.W.exmOne K (.ref (He.ga K "BadField")) (.ref (He.ga K "NoName")) = some false)))
theorem Bk.exm_BadField_NoPlace (B : Bk K mg) : PySem.W.exmOne K (.ref (He.ga K "BadField")) (.ref (He.ga K "NoPlace")) = some false := of_decide_eq_true (B.ex 82 (f := fun K => decide (PySem.W.exmOne K (.ref (He.ga K "BadField")) (.ref (He.ga K "NoPlace")) = some false)))
theorem Bk.exm_BadField_BadField (B : Bk K mg) : PySem.W.exmOne K (.ref (He.ga K "BadField")) (.ref (He.ga K "BadField")) = some true := of_decide_eq_true (B.ex 83 (f := fun K => decide (PySem.W.exmOne K (.ref (He.ga K "BadField")) (.ref (He.ga K "BadField")) = some true)))
theorem Bk.exm_BadField_BadLine (B : Bk K mg) : PySem.W.exmOne K (.ref (He.ga K "BadField")) (.ref (He.ga K "BadLine")) = some false := of_decide_eq_true (B.ex 84 (f := fun K => decide (PySem.W.exmOne K (.ref (He.ga K "BadField")) (.ref (He.ga K "BadLine")) = some false)))
theorem Bk.exm_BadField_Ringed (B : Bk K mg) : PySem.W.exmOne K (.ref (He.ga K "BadField")) (.ref (He.ga K "Ringed")) = some false := of_decide_eq_true (B.ex 85 (f := fun K => decide (PySem.W.exmOne K (.ref (He.ga K "BadField")) (.ref (He.ga K "Ringed")) = some false)))
theorem Bk.exm_BadField_MixedKeys (B : Bk K mg) : PySem.W.exmOne K (.ref (He.ga K "BadField")) (.ref (He.ga K "MixedKeys")) = some false := of_decide_eq_true (B.ex 86 (f := fun K => decide (PySem.W.exmOne K (.ref (He.ga K "BadField")) (.ref (He.ga K "MixedKeys")) = some false)))
theorem Bk.exm_BadLine_NoName (B : Bk K mg) : PySem.W.exmOne K (.ref (He.ga K "BadLine")) (.ref (He.ga K "NoName")) = some false := of_decide_eq_true (B.ex 87 (f := fun K => decide (PySem.W.exmOne K (.ref (He.ga K "BadLine")) (.ref (He.ga K "NoName")) = some false)))
theorem Bk.exm_BadLine_NoPlace (B : Bk K mg) : PySem.W.exmOne K (.ref (He.ga K "BadLine")) (.ref (He.ga K "NoPlace")) = some false := of_decide_eq_true (B.ex 88 (f := fun K => decide (PySem.W.exmOne K (.ref (He.ga K "BadLine")) (.ref (He.ga K "NoPlace")) = some false)))
theorem Bk.exm_BadLine_BadField (B : Bk K mg) : PySem.W.exmOne K (.ref (He.ga K "BadLine")) (.ref (He.ga K "BadField")) = some false := of_decide_eq_true (B.ex 89 (f := fun K => decide (PySem.W.exmOne K (.ref (He.ga K "BadLine")) (.ref (He.ga K "BadField")) = some false)))
theorem Bk.exm_BadLine_BadLine (B : Bk K mg) : PySem.W.exmOne K (.ref (He.ga K "BadLine")) (.ref (He.ga K "BadLine")) = some true := of_decide_eq_true (B.ex 90 (f := fun K => decide (PySem.W.exmOne K (.ref (He.ga K "BadLine")) (.ref (He.ga K "BadLine")) = some true)))
theorem Bk.exm_BadLine_Ringed (B : Bk K mg) : PySem.W.exmOne K (.ref (He.ga K "BadLine")) (.ref (He.ga K "Ringed")) = some false := of_decide_eq_true (B.ex 91 (f := fun K => decide (PySem.W.exmOne K (.ref (He.ga K "BadLine")) (.ref (He.ga K "Ringed")) = some false)))
theorem Bk.exm_BadLine_MixedKeys (B : Bk K mg) : PySem.W.exmOne K (.ref (He.ga K "BadLine")) (.ref (He.ga K "MixedKeys")) = some false := of_decide_eq_true (B.ex 92 (f := fun K => decide (PySem.W.exmOne K (.ref (He.ga K "BadLine")) (.ref (He.ga K "MixedKeys")) = some false)))
theorem Bk.exm_Ringed_NoName (B : Bk K mg) : PySem.W.exmOne K (.ref (He.ga K "Ringed")) (.ref (He.ga K "NoName")) = some false := of_decide_eq_true (B.ex 93 (f := fun K => decide (PySem.W.exmOne K (.ref (He.ga K "Ringed")) (.ref (He.ga K "NoName")) = some false)))
theorem Bk.exm_Ringed_NoPlace (B : Bk K mg) : PySem.W.exmOne K (.ref (He.ga K "Ringed")) (.ref (He.ga K "NoPlace")) = some false := of_decide_eq_true (B.ex 94 (f := fun K => decide (PySem.W.exmOne K (.ref (He.ga K "Ringed")) (.ref (He.ga K "NoPlace")) = some false)))
theorem Bk.exm_Ringed_BadField (B : Bk K mg) : PySem.W.exmOne K (.ref (He.ga K "Ringed")) (.ref (He.ga K "BadField")) = some false := of_decide_eq_true (B.ex 95 (f := fun K => decide (PySem.W.exmOne K (.ref (He.ga K "Ringed")) (.ref (He.ga K "BadField")) = some false)))
theorem Bk.exm_Ringed_BadLine (B : Bk K mg) : PySem.W.exmOne K (.ref (He.ga K "Ringed")) (.ref (He.ga K "BadLine")) = some false := of_decide_eq_true (B.ex 96 (f := fun K => decide (PySem.W.exmOne K (.ref (He.ga K "Ringed")) (.ref (He.ga K "BadLine")) = some false)))
theorem Bk.exm_Ringed_Ringed (B : Bk K mg) : PySem.W.exmOne K (.ref (He.ga K "Ringed")) (.ref (He.ga K "Ringed")) = some true := of_decide_eq_true (B.ex 97 (f := fun K => decide (PySem.W.exmOne K (.ref (He.ga K "Ringed")) (.ref (He.ga K "Ringed")) = some true)))
theorem Bk.exm_Ringed_MixedKeys (B : Bk K mg) : PySem.W.exmOne K (.ref (He.ga K "Ringed")) (.ref (He.ga K "MixedKeys")) = some false := of_decide_eq_true (B.ex 98 (f := fun K => decide (PySem.W.exmOne K (.ref (He.ga K "Ringed")) (.ref (He.ga K "MixedKeys")) = some false)))
theorem Bk.exm_MixedKeys_NoName (B : Bk K mg) : PySem.W.exmOne K (.ref (He.ga K "MixedKeys")) (.ref (He.ga K "NoName")) = some false := of_decide_eq_true (B.ex 99 (f := fun K => decide (PySem.W.exmOne K (.ref (He.ga K "MixedKeys")) (.ref (He.ga K "NoName")) = some false)))
theorem Bk.exm_MixedKeys_NoPlace (B : Bk K mg) : PySem.W.exmOne K (.ref (He.ga K "MixedKeys")) (.ref (He.ga K "NoPlace")) = some false := of_decide_eq_true (B.ex 100 (f := fun K => decide (PySem.W.exmOne K (.ref (He.ga K "MixedKeys")) (.ref (He.ga K "NoPlace")) = some false)))
theorem Bk.exm_MixedKeys_BadField (B : Bk K mg) : PySem.W.exmOne K (.ref (He.ga K "MixedKeys")) (.ref (He.ga K "BadField")) = some false := of_decide_eq_true (B.ex 101 (f := fun K => decide (PySem.W.exmOne K (.ref (He.ga K "MixedKeys")) (.ref (He.ga K "BadField")) = some false)))
theorem Bk.exm_MixedKeys_BadLine (B : Bk K mg) : PySem.W.exmOne K (.ref (He.ga K "MixedKeys")) (.ref (He.ga K "BadLine")) = some false := of_decide_eq_true (B.ex 102 (f := fun K => decide (PySem.W.exmOne K (.ref (He.ga K "MixedKeys")) (.ref (He.ga K "BadLine")) = some false)))
theorem Bk.exm_MixedKeys_Ringed (B : Bk K mg) : PySem.W.exmOne K (.ref (He.ga K "MixedKeys")) (.ref (He.ga K "Ringed")) = some false := of_decide_eq_true (B.ex 103 (f := fun K => decide (PySem.W.exmOne K (.ref (He.ga K "MixedKeys")) (.ref (He.ga K "Ringed")) = some false)))
theorem Bk.exm_MixedKeys_MixedKeys (B : Bk K mg) : PySem.W.exmOne K (.ref (He.ga K "MixedKeys")) (.ref (He.ga K "MixedKeys")) = some true := of_decide_eq_true (B.ex 104 (f := fun K => decide (PySem.W.exmOne K (.ref (He.ga K "MixedKeys")) (.ref (He.ga K "MixedKeys")) = some true)))
theorem Bk.F_is_name (B : Bk K mg) : ∃ fd, Fun K "is_name" "is_name" s_is_name (He.ga K "is_name") fd := let ⟨fd, h⟩ := B.fn_ 0 (d := d_is_name); ⟨fd, He5.fun_of h⟩
theorem Bk.F_is_field (B : Bk K mg) : ∃ fd, Fun K "is_field" "is_field" s_is_field (He.ga K "is_field") fd := let ⟨fd, h⟩ := B.fn_ 1 (d := d_is_field); ⟨fd, He5.fun_of h⟩
theorem Bk.F_field_of (B : Bk K mg) : ∃ fd, Fun K "field_of" "field_of" s_field_of (He.ga K "field_of") fd := let ⟨fd, h⟩ := B.fn_ 2 (d := d_field_of); ⟨fd, He5.fun_of h⟩
theorem Bk.F_field_text (B : Bk K mg) : ∃ fd, Fun K "field_text" "field_text" s_field_text (He.ga K "field_text") fd := let ⟨fd, h⟩ := B.fn_ 3 (d := d_field_text); ⟨fd, He5.fun_of h⟩
theorem Bk.F_words_of (B : Bk K mg) : ∃ fd, Fun K "words_of" "words_of" s_words_of (He.ga K "words_of") fd := let ⟨fd, h⟩ := B.fn_ 4 (d := d_words_of); ⟨fd, He5.fun_of h⟩
theorem Bk.F_Keys___init (B : Bk K mg) : ∃ fd, FunD K "__init__" "Keys.__init__" (defArgs s_Keys___init__) (defBody s_Keys___init__) (defScope s_Keys___init__) (d_Keys___init__.dvs K) [] (He.ma K (He.ga K "Keys") "__init__") fd := B.fn_ 5 (d := d_Keys___init__)
theorem Bk.F_Keys_p_names (B : Bk K mg) : ∃ fd, Fun K "names" "Keys.names" s_Keys_p_names (propG K "Keys" "names") fd := let ⟨fd, h⟩ := B.fn_ 6 (d := d_Keys_p_names); ⟨fd, He5.fun_of h⟩
theorem Bk.F_Keys_p_pairs (B : Bk K mg) : ∃ fd, Fun K "pairs" "Keys.pairs" s_Keys_p_pairs (propG K "Keys" "pairs") fd := let ⟨fd, h⟩ := B.fn_ 7 (d := d_Keys_p_pairs); ⟨fd, He5.fun_of h⟩
theorem Bk.F_Keys_tells (B : Bk K mg) : ∃ fd, Fun K "tells" "Keys.tells" s_Keys_tells (He.ma K (He.ga K "Keys") "tells") fd := let ⟨fd, h⟩ := B.fn_ 8 (d := d_Keys_tells); ⟨fd, He5.fun_of h⟩
theorem Bk.F_Keys_told (B : Bk K mg) : ∃ fd, Fun K "told" "Keys.told" s_Keys_told (He.ma K (He.ga K "Keys") "told") fd := let ⟨fd, h⟩ := B.fn_ 9 (d := d_Keys_told); ⟨fd, He5.fun_of h⟩
theorem Bk.F_Keys__check (B : Bk K mg) : ∃ fd, Fun K "_check" "Keys._check" s_Keys__check (He.ma K (He.ga K "Keys") "_check") fd := let ⟨fd, h⟩ := B.fn_ 10 (d := d_Keys__check); ⟨fd, He5.fun_of h⟩
theorem Bk.F_Keys___contains (B : Bk K mg) : ∃ fd, Fun K "__contains__" "Keys.__contains__" s_Keys___contains__ (He.ma K (He.ga K "Keys") "__contains__") fd := let ⟨fd, h⟩ := B.fn_ 11 (d := d_Keys___contains__); ⟨fd, He5.fun_of h⟩
theorem Bk.F_Keys___len (B : Bk K mg) : ∃ fd, Fun K "__len__" "Keys.__len__" s_Keys___len__ (He.ma K (He.ga K "Keys") "__len__") fd := let ⟨fd, h⟩ := B.fn_ 12 (d := d_Keys___len__); ⟨fd, He5.fun_of h⟩
theorem Bk.F_Keys___eq (B : Bk K mg) : ∃ fd, Fun K "__eq__" "Keys.__eq__" s_Keys___eq__ (He.ma K (He.ga K "Keys") "__eq__") fd := let ⟨fd, h⟩ := B.fn_ 13 (d := d_Keys___eq__); ⟨fd, He5.fun_of h⟩
theorem Bk.F_all_told (B : Bk K mg) : ∃ fd, Fun K "_all_told" "_all_told" s__all_told (He.ga K "_all_told") fd := let ⟨fd, h⟩ := B.fn_ 14 (d := d__all_told); ⟨fd, He5.fun_of h⟩
theorem Bk.F_is_numeral (B : Bk K mg) : ∃ fd, Fun K "is_numeral" "is_numeral" s_is_numeral (He.ga K "is_numeral") fd := let ⟨fd, h⟩ := B.fn_ 15 (d := d_is_numeral); ⟨fd, He5.fun_of h⟩
theorem Bk.F_number_of (B : Bk K mg) : ∃ fd, Fun K "number_of" "number_of" s_number_of (He.ga K "number_of") fd := let ⟨fd, h⟩ := B.fn_ 16 (d := d_number_of); ⟨fd, He5.fun_of h⟩
theorem Bk.F_written (B : Bk K mg) : ∃ fd, Fun K "written" "written" s_written (He.ga K "written") fd := let ⟨fd, h⟩ := B.fn_ 17 (d := d_written); ⟨fd, He5.fun_of h⟩
theorem Bk.F_Stage___init (B : Bk K mg) : ∃ fd, Fun K "__init__" "Stage.__init__" s_Stage___init__ (He.ma K (He.ga K "Stage") "__init__") fd := let ⟨fd, h⟩ := B.fn_ 18 (d := d_Stage___init__); ⟨fd, He5.fun_of h⟩
theorem Bk.F_Stage_p_schema (B : Bk K mg) : ∃ fd, Fun K "schema" "Stage.schema" s_Stage_p_schema (propG K "Stage" "schema") fd := let ⟨fd, h⟩ := B.fn_ 19 (d := d_Stage_p_schema); ⟨fd, He5.fun_of h⟩
theorem Bk.F_Stage_p_fields (B : Bk K mg) : ∃ fd, Fun K "fields" "Stage.fields" s_Stage_p_fields (propG K "Stage" "fields") fd := let ⟨fd, h⟩ := B.fn_ 20 (d := d_Stage_p_fields); ⟨fd, He5.fun_of h⟩
theorem Bk.F_Stage_p_text (B : Bk K mg) : ∃ fd, Fun K "text" "Stage.text" s_Stage_p_text (propG K "Stage" "text") fd := let ⟨fd, h⟩ := B.fn_ 21 (d := d_Stage_p_text); ⟨fd, He5.fun_of h⟩
theorem Bk.F_Stage___getitem (B : Bk K mg) : ∃ fd, Fun K "__getitem__" "Stage.__getitem__" s_Stage___getitem__ (He.ma K (He.ga K "Stage") "__getitem__") fd := let ⟨fd, h⟩ := B.fn_ 22 (d := d_Stage___getitem__); ⟨fd, He5.fun_of h⟩
theorem Bk.F_Stage___contains (B : Bk K mg) : ∃ fd, Fun K "__contains__" "Stage.__contains__" s_Stage___contains__ (He.ma K (He.ga K "Stage") "__contains__") fd := let ⟨fd, h⟩ := B.fn_ 23 (d := d_Stage___contains__); ⟨fd, He5.fun_of h⟩
theorem Bk.F_Stage___len (B : Bk K mg) : ∃ fd, Fun K "__len__" "Stage.__len__" s_Stage___len__ (He.ma K (He.ga K "Stage") "__len__") fd := let ⟨fd, h⟩ := B.fn_ 24 (d := d_Stage___len__); ⟨fd, He5.fun_of h⟩
theorem Bk.F_Stage___eq (B : Bk K mg) : ∃ fd, Fun K "__eq__" "Stage.__eq__" s_Stage___eq__ (He.ma K (He.ga K "Stage") "__eq__") fd := let ⟨fd, h⟩ := B.fn_ 25 (d := d_Stage___eq__); ⟨fd, He5.fun_of h⟩
theorem Bk.F_Stage_s_of (B : Bk K mg) : ∃ fd, Fun K "of" "Stage.of" s_Stage_s_of (He5.wf K (He.ga K "Stage") "staticmethod" "of") fd := let ⟨fd, h⟩ := B.fn_ 26 (d := d_Stage_s_of); ⟨fd, He5.fun_of h⟩
theorem Bk.F_all_names (B : Bk K mg) : ∃ fd, Fun K "all_names" "all_names" s_all_names (He.ga K "all_names") fd := let ⟨fd, h⟩ := B.fn_ 27 (d := d_all_names); ⟨fd, He5.fun_of h⟩
theorem Bk.F_joined (B : Bk K mg) : ∃ fd, Fun K "_joined" "_joined" s__joined (He.ga K "_joined") fd := let ⟨fd, h⟩ := B.fn_ 28 (d := d__joined); ⟨fd, He5.fun_of h⟩
theorem Bk.F_closed (B : Bk K mg) : ∃ fd, Fun K "_closed" "_closed" s__closed (He.ga K "_closed") fd := let ⟨fd, h⟩ := B.fn_ 29 (d := d__closed); ⟨fd, He5.fun_of h⟩
theorem Bk.F_divides (B : Bk K mg) : ∃ fd, Fun K "_divides" "_divides" s__divides (He.ga K "_divides") fd := let ⟨fd, h⟩ := B.fn_ 30 (d := d__divides); ⟨fd, He5.fun_of h⟩
theorem Bk.F_NoName___init (B : Bk K mg) : ∃ fd, Fun K "__init__" "NoName.__init__" s_NoName___init__ (He.ma K (He.ga K "NoName") "__init__") fd := let ⟨fd, h⟩ := B.fn_ 31 (d := d_NoName___init__); ⟨fd, He5.fun_of h⟩
theorem Bk.F_BadField___init (B : Bk K mg) : ∃ fd, Fun K "__init__" "BadField.__init__" s_BadField___init__ (He.ma K (He.ga K "BadField") "__init__") fd := let ⟨fd, h⟩ := B.fn_ 32 (d := d_BadField___init__); ⟨fd, He5.fun_of h⟩
theorem Bk.F_BadLine___init (B : Bk K mg) : ∃ fd, Fun K "__init__" "BadLine.__init__" s_BadLine___init__ (He.ma K (He.ga K "BadLine") "__init__") fd := let ⟨fd, h⟩ := B.fn_ 33 (d := d_BadLine___init__); ⟨fd, He5.fun_of h⟩
theorem Bk.F_Ringed___init (B : Bk K mg) : ∃ fd, Fun K "__init__" "Ringed.__init__" s_Ringed___init__ (He.ma K (He.ga K "Ringed") "__init__") fd := let ⟨fd, h⟩ := B.fn_ 34 (d := d_Ringed___init__); ⟨fd, He5.fun_of h⟩
theorem Bk.F_law_box (B : Bk K mg) : ∃ fd, Fun K "_law_box" "_law_box" s__law_box (He.ga K "_law_box") fd := let ⟨fd, h⟩ := B.fn_ 35 (d := d__law_box); ⟨fd, He5.fun_of h⟩
theorem Bk.F_law_take (B : Bk K mg) : ∃ fd, Fun K "_law_take" "_law_take" s__law_take (He.ga K "_law_take") fd := let ⟨fd, h⟩ := B.fn_ 36 (d := d__law_take); ⟨fd, He5.fun_of h⟩
theorem Bk.F_law_cells (B : Bk K mg) : ∃ fd, Fun K "_law_cells" "_law_cells" s__law_cells (He.ga K "_law_cells") fd := let ⟨fd, h⟩ := B.fn_ 37 (d := d__law_cells); ⟨fd, He5.fun_of h⟩
theorem Bk.F_law_of (B : Bk K mg) : ∃ fd, Fun K "_law_of" "_law_of" s__law_of (He.ga K "_law_of") fd := let ⟨fd, h⟩ := B.fn_ 38 (d := d__law_of); ⟨fd, He5.fun_of h⟩
theorem Bk.F_law_lists (B : Bk K mg) : ∃ fd, Fun K "_law_lists" "_law_lists" s__law_lists (He.ga K "_law_lists") fd := let ⟨fd, h⟩ := B.fn_ 39 (d := d__law_lists); ⟨fd, He5.fun_of h⟩
theorem Bk.F_law_same (B : Bk K mg) : ∃ fd, Fun K "_law_same" "_law_same" s__law_same (He.ga K "_law_same") fd := let ⟨fd, h⟩ := B.fn_ 40 (d := d__law_same); ⟨fd, He5.fun_of h⟩
theorem Bk.F_law_mixed (B : Bk K mg) : ∃ fd, Fun K "_law_mixed" "_law_mixed" s__law_mixed (He.ga K "_law_mixed") fd := let ⟨fd, h⟩ := B.fn_ 41 (d := d__law_mixed); ⟨fd, He5.fun_of h⟩
theorem Bk.F_law_gcd (B : Bk K mg) : ∃ fd, Fun K "_law_gcd" "_law_gcd" s__law_gcd (He.ga K "_law_gcd") fd := let ⟨fd, h⟩ := B.fn_ 42 (d := d__law_gcd); ⟨fd, He5.fun_of h⟩
theorem Bk.F_law_lcm (B : Bk K mg) : ∃ fd, Fun K "_law_lcm" "_law_lcm" s__law_lcm (He.ga K "_law_lcm") fd := let ⟨fd, h⟩ := B.fn_ 43 (d := d__law_lcm); ⟨fd, He5.fun_of h⟩
theorem Bk.F_law_book (B : Bk K mg) : ∃ fd, Fun K "_law_book" "_law_book" s__law_book (He.ga K "_law_book") fd := let ⟨fd, h⟩ := B.fn_ 44 (d := d__law_book); ⟨fd, He5.fun_of h⟩
theorem Bk.F_law_told (B : Bk K mg) : ∃ fd, Fun K "_law_told" "_law_told" s__law_told (He.ga K "_law_told") fd := let ⟨fd, h⟩ := B.fn_ 45 (d := d__law_told); ⟨fd, He5.fun_of h⟩
theorem Bk.F_law_field (B : Bk K mg) : ∃ fd, Fun K "_law_field" "_law_field" s__law_field (He.ga K "_law_field") fd := let ⟨fd, h⟩ := B.fn_ 46 (d := d__law_field); ⟨fd, He5.fun_of h⟩
theorem Bk.F_law_split (B : Bk K mg) : ∃ fd, Fun K "_law_split" "_law_split" s__law_split (He.ga K "_law_split") fd := let ⟨fd, h⟩ := B.fn_ 47 (d := d__law_split); ⟨fd, He5.fun_of h⟩
theorem Bk.F_law_mods (B : Bk K mg) : ∃ fd, Fun K "_law_mods" "_law_mods" s__law_mods (He.ga K "_law_mods") fd := let ⟨fd, h⟩ := B.fn_ 48 (d := d__law_mods); ⟨fd, He5.fun_of h⟩
theorem Bk.F_law_shown (B : Bk K mg) : ∃ fd, Fun K "_law_shown" "_law_shown" s__law_shown (He.ga K "_law_shown") fd := let ⟨fd, h⟩ := B.fn_ 49 (d := d__law_shown); ⟨fd, He5.fun_of h⟩
theorem Bk.F_law_heard (B : Bk K mg) : ∃ fd, Fun K "_law_heard" "_law_heard" s__law_heard (He.ga K "_law_heard") fd := let ⟨fd, h⟩ := B.fn_ 50 (d := d__law_heard); ⟨fd, He5.fun_of h⟩
theorem Bk.F_law_by_hand_right (B : Bk K mg) : ∃ fd, Fun K "_law_by_hand_right" "_law_by_hand_right" s__law_by_hand_right (He.ga K "_law_by_hand_right") fd := let ⟨fd, h⟩ := B.fn_ 51 (d := d__law_by_hand_right); ⟨fd, He5.fun_of h⟩
theorem Bk.F_law_looked_right (B : Bk K mg) : ∃ fd, Fun K "_law_looked_right" "_law_looked_right" s__law_looked_right (He.ga K "_law_looked_right") fd := let ⟨fd, h⟩ := B.fn_ 52 (d := d__law_looked_right); ⟨fd, He5.fun_of h⟩
theorem Bk.F_law_right (B : Bk K mg) : ∃ fd, Fun K "_law_right" "_law_right" s__law_right (He.ga K "_law_right") fd := let ⟨fd, h⟩ := B.fn_ 53 (d := d__law_right); ⟨fd, He5.fun_of h⟩
theorem Bk.F_law (B : Bk K mg) : ∃ fd, Fun K "law" "law" s_law (He.ga K "law") fd := let ⟨fd, h⟩ := B.fn_ 54 (d := d_law); ⟨fd, He5.fun_of h⟩
end
end Jd
namespace Jd
open PySem PySem.Spec PyProof.Rows L2
/-! ### words -/
/-- a def that stands behind the top, its promise -/
structure Df (P : Program) (w : World) (K : PySem.W.Frag) (mg : Str → Option Value) (base : Heap) (CX : CXT) (k : Nat) (x : Str) (ps : List Str) (sp : Sp) : Prop where
  ex : ∃ fd, FnOk P w K mg base CX k (He.ga K x) fd ps sp ∧ Binds K fd ps []
  g : mg x = some (.ref (He.ga K x))
  kp : PySem.W.keepIn K (.ref (He.ga K x)) = true
/-- the codes of a text -/
abbrev cd (z : Str) : List Nat := z.cps.toList
theorem len_cd (z : Str) : z.length = (cd z).length := by
  show z.cps.size = z.cps.toList.length
  rw [Array.length_toList]
theorem cd_ext {a b : Str} (h : cd a = cd b) : a = b := by
  obtain ⟨x⟩ := a
  obtain ⟨y⟩ := b
  congr 1
  exact Array.toList_inj.mp h
theorem cd_at {z : Str} {i c : Nat} (h : z.cps[i]? = some c) : (cd z)[i]? = some c := by
  rw [Array.getElem?_toList]
  exact h
/-- both ways of a test -/
theorem two {c : Bool} {A B : Prop} (h1 : c = true → A) (h2 : c = false → B) : if c = true then A else B := by
  cases c with
  | true => exact iteT (h1 rfl)
  | false => exact iteF (h2 rfl)
theorem one_lt (a b : Nat) : decide ([a] < [b]) = decide (a < b) := by
  have e : ([a] < [b]) ↔ a < b := by
    constructor
    · intro h
      cases h with
      | rel h => exact h
      | cons h => cases h
    · exact fun h => .rel h
  exact decide_eq_decide.mpr e
/-! ### heaps -/
theorem Same_upd {H H' : Hp} {a : Addr} {o : HO} (s : Same H H') (n : H a = none) : Same H (upd H' a o) := fun b u q => by
  rw [upd_ne (ne_of_none q n)]
  exact s b u q
theorem Same_new {H : Hp} {a : Addr} {o : HO} (n : H a = none) : Same H (upd H a o) := Same_upd (Same.refl H) n
theorem Same_lay {H H' : Hp} {a : Addr} {o : HO} (s : Same H H') (n : H' a = none) : Same H (upd H' a o) := fun b u q => by
  rw [upd_ne (ne_of_none (s b u q) n)]
  exact s b u q
theorem Same_seqT {K : PySem.W.Frag} {H H' : Hp} {a : Addr} {xs : List V} (e : Same H H') (h : SqT K H a xs) : SqT K H' a xs := by
  rcases h with (h | ⟨o, h⟩) | h
  · exact .inl (.inl (e _ _ h))
  · exact .inl (.inr ⟨o, e _ _ h⟩)
  · exact .inr h
/-! ### a comprehension that only lays new objects -/
theorem fm_step {f : Nat → Option V} (i : Nat) : (List.range (i + 1)).filterMap f = (List.range i).filterMap f ++ (match f i with
    | some y => [y]
    | none => []) := by
  rw [List.range_succ, List.filterMap_append]
  congr 1
  cases e : f i with
  | none => simp [e]
  | some y => simp [e]
theorem fm_len {f : Nat → Option V} (i : Nat) : ((List.range i).filterMap f).length ≤ i := by
  have q := List.length_filterMap_le f (List.range i)
  rw [List.length_range] at q
  exact q
section
variable {J : It} {n : Nat} {G : Hp → Prop} {Y : Nat → Hp → V → Hp → Prop}
theorem lc_fm (w : Walk J n G Y) {g : TG} {tt : TT} {te : TE} {vs : List Nat} {σ : L2.St} {H1 : Hp} {D : Addr} {Qd : Hp → Prop} (f : Nat → Option V) (hD : H1 D = none) (hn : n ≤ sizeLine) (hG : ∀ H, Same H1 H → G H)
    (hs : ∀ i x H H' (Kt : VK) (Kf : Hp → Prop), i < n → Same H1 H → Y i H x H' → (∀ y H4, f i = some y → Same H H4 → Kt y H4) → (∀ H4, f i = none → Same H H4 → Kf H4) →
      g x (wipe σ vs) H' fun σ2 H2 => wipe σ2 vs = wipe σ vs ∧ tt σ2 H2 fun b H3 => if b = true then te σ2 H3 Kt else Kf H3)
    (hd : ∀ H, Same H1 H → H D = some (.lst ((List.range n).filterMap f)) → Qd H) :
    ∃ W : Nat → Nat → Hp → Prop, (∃ m, W 0 m (upd H1 D (.lst []))) ∧ ∀ i m H, W i m H →
      (J.stop i H ∧ Qd H) ∨ (J.go i H ∧ ∃ Nx : Hp → Prop, (∀ H', Nx H' → ∃ m', m' < m ∧ W (i + 1) m' H') ∧ ∀ x H', J.yld i H x H' → g x (wipe σ vs) H' fun σ2 H2 => wipe σ2 vs = wipe σ vs ∧ tt σ2 H2 fun b H3 =>
        if b = true then te σ2 H3 fun y H4 => ∃ acc, H4 D = some (.lst acc) ∧ acc.length < sizeLine ∧ Nx (upd H4 D (.lst (acc ++ [y]))) else Nx H3) := by
  refine lc_it w (fun i H => Same H1 H ∧ H D = some (.lst ((List.range i).filterMap f))) ⟨Same_new hD, upd_same⟩ (fun i H _ p => hG H p.1) (fun i x H H' hi p y => ?_) (fun H p => hd H p.1 p.2)
  refine hs i x H H' _ _ hi p.1 y (fun y H4 e s4 => ⟨_, s4 _ _ p.2, Nat.lt_of_le_of_lt (fm_len i) (Nat.lt_of_lt_of_le hi hn), Same_upd (p.1.trans s4) hD, ?_⟩) (fun H4 e s4 => ⟨p.1.trans s4, ?_⟩)
  · rw [upd_same, fm_step, e]
  · rw [fm_step, e, List.append_nil]
    exact s4 _ _ p.2
end
theorem fm_some {α : Type} {l : List α} {g : α → V} {f : Nat → Option V} (h : ∀ i x, l[i]? = some x → f i = some (g x)) : (List.range l.length).filterMap f = l.map g := by
  have key : ∀ k, k ≤ l.length → (List.range k).filterMap f = (l.take k).map g := by
    intro k
    induction k with
    | zero => intro _; rfl
    | succ k ih =>
      intro hk
      have hl : k < l.length := hk
      have e : l[k]? = some l[k] := List.getElem?_eq_getElem hl
      rw [fm_step, ih (Nat.le_of_lt hl), h k _ e, List.take_add_one, e, List.map_append]
      rfl
  have q := key l.length (Nat.le_refl _)
  rw [List.take_length] at q
  exact q
end Jd
namespace Jd
open PySem PySem.Spec PyProof.Rows L2
/-! ### is_name -/
def letterB (c : Nat) : Bool := !decide (c < 97) && !decide (122 < c)
def isName (l : List Nat) : Bool := decide (1 ≤ l.length) && (decide (l.length ≤ 8) && l.all letterB)
def spName : Sp := fun vs H Q _ => ∃ z : Str, vs = [.str z] ∧ z.length ≤ sizeLine ∧ ∀ H', Same H H' → Q (.bl (isName (cd z))) H'
section
variable {P : Program} {w : World} {K : PySem.W.Frag} {mg : Str → Option Value} {base : Heap}
theorem sc_is_name : FnScope ["thing", "letter"] ["thing"] (defScope s_is_name) := ⟨rfl, rfl, rfl, by decide +kernel, rfl, by decide +kernel, by decide +kernel⟩
theorem kit_str : PySem.W.kitOne K (.type "str") (.type "str") = some true := by
  unfold PySem.W.kitOne
  rw [if_pos (by decide)]
theorem ok_is_name (B : Bk K mg) : Df P w K mg base CX0 1 "is_name" ["thing"] spName := by
  obtain ⟨fd, F⟩ := B.F_is_name
  refine ⟨⟨fd, ?_, F.binds fun _ _ _ _ _ _ us hl => match us, hl with | [_], _ => rfl⟩, B.g_is_name, F.kp⟩
  refine F.ok sc_is_name (fun vs H Q E h => ?_) (fun cdv A outer s H vs Q E hr h => ?_)
  · obtain ⟨z, rfl, _⟩ := h
    rfl
  · obtain ⟨z, rfl, hz, k⟩ := h
    refine ⟨_, pss_cons (ps_if (pt_not (pt_val (pe_callB call_isi (by rfl) B.b_isinstance (by decide +kernel) (pa_cons (pv 0) (pa_cons (pe_bltn (by rfl) B.b_str (by decide +kernel) (show RelV (.ty "str") (.type "str") from rfl)) pa_nil))))) (pss_one (ps_ret pe_bl)) pss_nil)
      (pss_one (ps_ret (pe_and (pe_chain op_le op_le pe_int (pe_callB call_len (by rfl) B.b_len (by decide +kernel) (pa_cons (pv 0) pa_nil)) pe_int)
        (pe_one (pe_callB (cr_all rfl) (by rfl) B.b_all (by decide +kernel) (pa_cons (pe_lc (own := [("letter", 1)]) (g := gName 1) (tt := tYes) rfl sc_is_name.nd (pi_str (pv 0)) (blkOk_by (N := ["thing", "letter"]) (sc := defScope s_is_name) (by decide +kernel))
          (fun _ _ _ _ _ => pg_name (i := 1) sc_is_name.nd rfl (Or.inl rfl)) (fun _ _ _ _ _ => pts_nil) (fun _ _ _ _ _ => pe_chain op_le_str op_le_str pe_str (pv 1) pe_str)) pa_nil)))))), ?_⟩
    refine ⟨_, rfl, _, _, _, _, _, rfl, .ty "str", .base (.str z), kit_str, _, rfl, iteF ?_⟩
    refine ⟨_, rfl, _, _, rfl, ⟨hz, rfl⟩, _, _, rfl, rfl, _, rfl, two (fun h1 => ?_) (fun h1 => ⟨_, rfl, iteF ?_⟩)⟩
    · refine ⟨_, _, rfl, rfl, _, rfl, two (fun h2 => ?_) (fun h2 => ?_)⟩
      · refine ⟨_, rfl, _, rfl, fun D hD => lc_fm walk_str (fun i => ((cd z)[i]?).map fun c => V.bl (letterB c)) hD (by rw [← show z.length = z.cps.size from rfl]; exact hz) (fun _ _ => trivial) (fun i x H1 H' Kt Kf hi s1 y kt kf => ?_) (fun H1 s1 hL => ?_)⟩
        · obtain ⟨rfl, c, hc, rfl⟩ := y
          have e : ((cd z)[i]?).map (fun c => V.bl (letterB c)) = some (V.bl (letterB c)) := by rw [cd_at hc]; rfl
          refine ⟨rfl, iteT (B := Kf H') ?_⟩
          refine ⟨_, rfl, _, _, rfl, rfl, _, rfl, two (fun h3 => ⟨_, _, rfl, rfl, ?_⟩) (fun h3 => ?_)⟩
          · have q := kt _ _ e (Same.refl _)
            have h3' : (!decide (([c] : List Nat) < [97])) = true := h3
            rw [one_lt] at h3'
            unfold letterB at q
            rw [h3', Bool.true_and] at q
            show Kt (V.bl (!decide (([122] : List Nat) < [c]))) _
            rw [one_lt]
            exact q
          · have q := kt _ _ e (Same.refl _)
            have h3' : (!decide (([c] : List Nat) < [97])) = false := h3
            rw [one_lt] at h3'
            unfold letterB at q
            rw [h3', Bool.false_and] at q
            exact q
        · refine ⟨_, (cd z).map letterB, rfl, SqL.of (hL.trans ?_), ?_⟩
          · congr 2
            rw [show z.cps.size = (cd z).length from len_cd z]
            rw [fm_some (l := cd z) (g := fun c => V.bl (letterB c)) (fun i c hc => by rw [hc]; rfl), List.map_map]
            rfl
          · have q := k H1 s1
            have h1' : decide (1 ≤ (cd z).length) = true := by
              rw [← h1]
              exact decide_eq_decide.mpr (by rw [len_cd z]; omega)
            have h2' : decide ((cd z).length ≤ 8) = true := by
              rw [← h2]
              exact decide_eq_decide.mpr (by rw [len_cd z]; omega)
            unfold isName at q
            rw [h1', h2', Bool.true_and, Bool.true_and] at q
            rw [List.all_map]
            exact q
      · have q := k H (Same.refl _)
        have h2' : decide ((cd z).length ≤ 8) = false := by
          rw [← h2]
          exact decide_eq_decide.mpr (by rw [len_cd z]; omega)
        unfold isName at q
        rw [h2', Bool.false_and, Bool.and_false] at q
        exact q
    · have q := k H (Same.refl _)
      have h1' : decide (1 ≤ (cd z).length) = false := by
        rw [← h1]
        exact decide_eq_decide.mpr (by rw [len_cd z]; omega)
      unfold isName at q
      rw [h1', Bool.false_and] at q
      exact q
end
end Jd
namespace Jd
open PySem PySem.Spec PyProof.Rows L2
/-! ### _is_modulus, is_field -/
def digitB (c : Nat) : Bool := decide (c ∈ cd "0123456789")
def isMod (z : Str) : Bool := if (inV (.str z) [.str "", .str "1"] || Txt.startswith z "0") = true then false else (cd z).all digitB
def isFieldB (z : Str) : Bool :=
  if (!decide (V.str (Txt.partition z "/").1 = V.str "#") && !isName (cd (Txt.partition z "/").1)) = true then false
  else decide (V.str (Txt.partition z "/").2.1 = V.str "") || isMod (Txt.partition z "/").2.2
theorem part_len (x y : Str) : (Txt.partition x y).1.length ≤ x.length ∧ (Txt.partition x y).2.2.length ≤ x.length := by
  unfold Txt.partition
  split
  · exact ⟨strSub_length_le .., strSub_length_le ..⟩
  · exact ⟨Nat.le_refl _, Nat.zero_le _⟩
def isNum (z : Str) : Bool := if (decide (V.str z = V.str "") || (Txt.startswith z "0" && !decide (V.str z = V.str "0"))) = true then false else (cd z).all digitB
def spNml : Sp := fun vs H Q _ => ∃ z : Str, vs = [.str z] ∧ z.length ≤ sizeLine ∧ ∀ H', Same H H' → Q (.bl (isNum z)) H'
def spField (K : PySem.W.Frag) : Sp := fun vs H Q _ => ∃ x : V, vs = [x] ∧ ((∃ z : Str, x = .str z ∧ z.length ≤ sizeLine ∧ ∀ H', Same H H' → Q (.bl (isFieldB z)) H') ∨
  (∃ t, TyX K H x t ∧ PySem.W.kitOne K t (.type "str") = some false ∧ Q (.bl false) H))
section
variable {P : Program} {w : World} {K : PySem.W.Frag} {mg : Str → Option Value} {base : Heap}
theorem sc_is_num : FnScope ["text", "digit"] ["text"] (defScope s_is_numeral) := ⟨rfl, rfl, rfl, by decide +kernel, rfl, by decide +kernel, by decide +kernel⟩
theorem ok_is_numeral (B : Bk K mg) : Df P w K mg base CX0 1 "is_numeral" ["text"] spNml := by
  obtain ⟨fd, F⟩ := B.F_is_numeral
  obtain ⟨tD, gD⟩ := B.c_DIGITS
  refine ⟨⟨fd, ?_, F.binds fun _ _ _ _ _ _ us hl => match us, hl with | [_], _ => rfl⟩, B.g_is_numeral, F.kp⟩
  refine F.ok sc_is_num (fun vs H Q E h => ?_) (fun cdv A outer s H vs Q E hr h => ?_)
  · obtain ⟨z, rfl, _⟩ := h
    rfl
  · obtain ⟨z, rfl, hz, k⟩ := h
    refine ⟨_, pss_cons (ps_if (PW.pt (pw_or (pt_cmpR op_eq (pv 0) pe_str (nomark _)) (pw_or1 (PW.pt (pw_and (pt_val (pe_m1 PySem.F.slot_str_startswith PySem.F.type_str_startswith mt_startswith (pv 0) pe_str)) (pw_and1 (pt_cmpR op_ne (pv 0) pe_str (nomark _)))))))) (pss_one (ps_ret pe_bl)) pss_nil)
      (pss_one (ps_ret (pe_callB (cr_all rfl) (by rfl) B.b_all (by decide +kernel) (pa_cons (pe_lc (own := [("digit", 1)]) (g := gName 1) (tt := tYes) rfl sc_is_num.nd (pi_str (pv 0)) (blkOk_by (N := ["text", "digit"]) (sc := defScope s_is_numeral) (by decide +kernel))
          (fun _ _ _ _ _ => pg_name (i := 1) sc_is_num.nd rfl (Or.inl rfl)) (fun _ _ _ _ _ => pts_nil) (fun _ _ _ _ _ => pe_cmpR op_in_sign (pv 1) (pe_glob (v := .str "0123456789") rfl gD ⟨_, rfl⟩) rfl)) pa_nil)))), ?_⟩
    have q := k
    unfold isNum at q
    refine ⟨_, rfl, rfl, _, rfl, two (fun h1 => ?_) (fun h1 => ?_)⟩
    · rw [h1, Bool.true_or, if_pos rfl] at q
      exact iteT (q H (Same.refl _))
    · rw [h1, Bool.false_or] at q
      refine ⟨_, rfl, ⟨_, rfl⟩, _, _, rfl, rfl, _, rfl, two (fun h2 => ?_) (fun h2 => ?_)⟩
      · rw [h2, Bool.true_and] at q
        refine ⟨_, rfl, rfl, _, rfl, two (fun h3 => ?_) (fun h3 => ?_)⟩
        · rw [h3, if_pos rfl] at q
          exact q H (Same.refl _)
        · rw [h3, if_neg (by decide)] at q
          refine ⟨_, rfl, _, rfl, fun D hD => lc_fm walk_str (fun i => ((cd z)[i]?).map fun c => V.bl (digitB c)) hD hz (fun _ _ => trivial) (fun i x H1 H' Kt Kf hi s1 y kt kf => ?_) (fun H1 s1 hL => ?_)⟩
          · obtain ⟨rfl, c, hc, rfl⟩ := y
            have e : ((cd z)[i]?).map (fun c => V.bl (digitB c)) = some (V.bl (digitB c)) := by rw [cd_at hc]; rfl
            refine ⟨rfl, iteT (B := Kf H') ?_⟩
            exact ⟨_, rfl, _, _, rfl, rfl, kt _ _ e (Same.refl _)⟩
          · refine ⟨_, (cd z).map digitB, rfl, SqL.of (hL.trans ?_), ?_⟩
            · congr 2
              rw [show z.cps.size = (cd z).length from len_cd z]
              rw [fm_some (l := cd z) (g := fun c => V.bl (digitB c)) (fun i c hc => by rw [hc]; rfl), List.map_map]
              rfl
            · rw [List.all_map]
              exact q _ s1
      · rw [h2, Bool.false_and, if_neg (by decide)] at q
        refine iteF ?_
        refine ⟨_, rfl, _, rfl, fun D hD => lc_fm walk_str (fun i => ((cd z)[i]?).map fun c => V.bl (digitB c)) hD hz (fun _ _ => trivial) (fun i x H1 H' Kt Kf hi s1 y kt kf => ?_) (fun H1 s1 hL => ?_)⟩
        · obtain ⟨rfl, c, hc, rfl⟩ := y
          have e : ((cd z)[i]?).map (fun c => V.bl (digitB c)) = some (V.bl (digitB c)) := by rw [cd_at hc]; rfl
          refine ⟨rfl, iteT (B := Kf H') ?_⟩
          exact ⟨_, rfl, _, _, rfl, rfl, kt _ _ e (Same.refl _)⟩
        · refine ⟨_, (cd z).map digitB, rfl, SqL.of (hL.trans ?_), ?_⟩
          · congr 2
            rw [show z.cps.size = (cd z).length from len_cd z]
            rw [fm_some (l := cd z) (g := fun c => V.bl (digitB c)) (fun i c hc => by rw [hc]; rfl), List.map_map]
            rfl
          · rw [List.all_map]
            exact q _ s1
theorem isMod_num (z : Str) : (isNum z && !inV (.str z) [.str "0", .str "1"]) = isMod z := by
  unfold isNum isMod
  by_cases h0 : z = ""
  · subst h0
    decide +kernel
  by_cases h1 : z = "1"
  · subst h1
    decide +kernel
  by_cases h2 : z = "0"
  · subst h2
    decide +kernel
  have e0 : decide (V.str z = V.str "") = false := decide_eq_false fun e => h0 (by injection e)
  have e2 : decide (V.str z = V.str "0") = false := decide_eq_false fun e => h2 (by injection e)
  have i0 : inV (.str z) [.str "", .str "1"] = false := by
    show ((("" : Str) == z) || ((("1" : Str) == z) || false)) = false
    rw [beq_eq_false_iff_ne.mpr (Ne.symm h0), beq_eq_false_iff_ne.mpr (Ne.symm h1)]
    rfl
  have i1 : inV (.str z) [.str "0", .str "1"] = false := by
    show ((("0" : Str) == z) || ((("1" : Str) == z) || false)) = false
    rw [beq_eq_false_iff_ne.mpr (Ne.symm h2), beq_eq_false_iff_ne.mpr (Ne.symm h1)]
    rfl
  rw [e0, e2, i0, i1, Bool.not_false, Bool.and_true, Bool.and_true]
theorem sc_is_field : FnScope ["thing", "name", "slash", "digits"] ["thing"] (defScope s_is_field) := ⟨rfl, rfl, rfl, by decide +kernel, rfl, by decide +kernel, by decide +kernel⟩
theorem ok_is_field (B : Bk K mg) : Df P w K mg base CX0 2 "is_field" ["thing"] (spField K) := by
  obtain ⟨fd, F⟩ := B.F_is_field
  obtain ⟨fdN, GN, bN⟩ := (ok_is_name (P := P) (w := w) (base := base) B).ex
  obtain ⟨fdM, GM, bM⟩ := (ok_is_numeral (P := P) (w := w) (base := base) B).ex
  have kN := (ok_is_name (P := P) (w := w) (base := base) B).kp
  have kM := (ok_is_numeral (P := P) (w := w) (base := base) B).kp
  refine ⟨⟨fd, ?_, F.binds fun _ _ _ _ _ _ us hl => match us, hl with | [_], _ => rfl⟩, B.g_is_field, F.kp⟩
  refine F.ok sc_is_field (fun vs H Q E h => ?_) (fun cdv A outer s H vs Q E hr h => ?_)
  · obtain ⟨x, rfl, _⟩ := h
    rfl
  · obtain ⟨x, rfl, h⟩ := h
    refine ⟨_, pss_cons (ps_if (pt_not (pt_val (pe_callB call_isi (by rfl) B.b_isinstance (by decide +kernel) (pa_cons (pv 0) (pa_cons (pe_bltn (by rfl) B.b_str (by decide +kernel) (show RelV (.ty "str") (.type "str") from rfl)) pa_nil))))) (pss_one (ps_ret pe_bl)) pss_nil)
      (pss_cons (ps_asg (pe_partition (pv 0) pe_str) (pg_tup (by rfl) (pgs_cons (pg_name (i := 1) sc_is_field.nd rfl (.inl rfl)) (pgs_cons (pg_name (i := 2) sc_is_field.nd rfl (.inl rfl)) (pgs_cons (pg_name (i := 3) sc_is_field.nd rfl (.inl rfl)) pgs_nil)))))
      (pss_cons (ps_if (PW.pt (pw_and (pt_cmpR op_ne (pv 1) pe_str (nomark _)) (pw_and1 (pt_not (pt_val (pe_call GN hr rfl B.g_is_name kN bN .nil pass0 (pa_cons (pv 1) pa_nil))))))) (pss_one (ps_ret pe_bl)) pss_nil)
      (pss_one (ps_ret (pe_or (pe_cmpR op_eq (pv 2) pe_str (nomark _)) (pe_one (pe_and (pe_call GM hr rfl B.g_is_numeral kM bM .nil pass0 (pa_cons (pv 3) pa_nil)) (pe_one (pe_cmpR op_notIn_seq (pv 3) (pe_tup (pa_cons pe_str (pa_cons pe_str pa_nil))) (by rfl)))))))))), ?_⟩
    rcases h with ⟨z, rfl, hz, k⟩ | ⟨t, ht, hk, k⟩
    · refine ⟨_, rfl, _, _, _, _, _, rfl, .ty "str", .base (.str z), kit_str, _, rfl, iteF ?_⟩
      refine ⟨_, rfl, ⟨_, rfl⟩, _, _, rfl, rfl, by decide, hz, fun p hp => ?_⟩
      have s0 : Same H (upd H p (.tup [.str (Txt.partition z "/").1, .str (Txt.partition z "/").2.1, .str (Txt.partition z "/").2.2])) := Same_new hp
      have hl := part_len z "/"
      refine ⟨_, _, rfl, SqT.of upd_same, rfl, _, _, rfl, _, _, rfl, _, _, rfl, rfl, ?_⟩
      have rest : ∀ H', Same H H' → (!decide (V.str (Txt.partition z "/").1 = V.str "#") && !isName (cd (Txt.partition z "/").1)) = false →
          tRet (tOrV (tOp rEq (tVar 2) (tC (.str ""))) (tAndV (tCall spNml [] E0 (tCons (tVar 3) tNil)) (tOp (rIn K true) (tVar 3) (tTup (tCons (tC (.str "0")) (tCons (tC (.str "1")) tNil)))))) { nx := fun _ H' => Q .non H', rt := Q } [some (V.str z), some (V.str (Txt.partition z "/").1), some (V.str (Txt.partition z "/").2.1), some (V.str (Txt.partition z "/").2.2)] H' := by
        intro H' s1 hb
        refine ⟨_, rfl, rfl, _, rfl, two (fun h3 => ?_) (fun h3 => ?_)⟩
        · have q := k H' s1
          unfold isFieldB at q
          rw [if_neg (by rw [hb]; decide), h3, Bool.true_or] at q
          exact q
        · refine ⟨_, rfl, _, rfl, Nat.le_trans hl.2 hz, fun H2 s2 => ⟨_, rfl, two (fun h4 => ?_) (fun h4 => ?_)⟩⟩
          · refine ⟨_, rfl, (by show 2 ≤ sizeLine; decide), fun p hp => ⟨_, _, rfl, .inr (SqT.of upd_same), rfl, rfl, ?_⟩⟩
            have q := k _ ((s1.trans s2).trans (Same_new (o := .tup [.str "0", .str "1"]) hp))
            unfold isFieldB at q
            rw [if_neg (by rw [hb]; decide), h3, Bool.false_or, ← isMod_num, h4, Bool.true_and] at q
            exact q
          · have q := k H2 (s1.trans s2)
            unfold isFieldB at q
            rw [if_neg (by rw [hb]; decide), h3, Bool.false_or, ← isMod_num, h4, Bool.false_and] at q
            exact q
      refine ⟨_, rfl, rfl, _, rfl, two (fun h1 => ?_) (fun h1 => ?_)⟩
      · refine ⟨_, rfl, _, rfl, Nat.le_trans hl.1 hz, fun H1 s1 => ⟨_, rfl, two (fun h2 => ?_) (fun h2 => ?_)⟩⟩
        · have q := k H1 (s0.trans s1)
          unfold isFieldB at q
          rw [if_pos (by rw [h1, h2]; rfl)] at q
          exact q
        · exact rest H1 (s0.trans s1) (by rw [h2, Bool.and_false])
      · exact iteF (rest _ s0 (by rw [h1, Bool.false_and]))
    · refine ⟨_, rfl, _, _, _, _, _, rfl, .ty "str", ht, hk, _, rfl, iteT ?_⟩
      exact k
end
end Jd
namespace Jd
open PySem PySem.Spec PyProof.Rows L2
/-! ### _number_of -/
def dig (c : Nat) : Int := (c : Int) - 48
def numOf (l : List Nat) : Int := l.foldl (fun n c => n * 10 + dig c) 0
theorem int_sign {c : Nat} (h : digitB c = true) : PySem.intText? ⟨#[c]⟩ = some (dig c) := by
  have m : c ∈ [48, 49, 50, 51, 52, 53, 54, 55, 56, 57] := of_decide_eq_true h
  simp only [List.mem_cons, List.not_mem_nil, or_false] at m
  rcases m with rfl | rfl | rfl | rfl | rfl | rfl | rfl | rfl | rfl | rfl <;> decide +kernel
def spNum : Sp := fun vs H Q _ => ∃ z : Str, vs = [.str z] ∧ (cd z).all digitB = true ∧ ∀ H', Same H H' → Q (.int (numOf (cd z))) H'
def spBF (C : Addr) : Sp := fun vs H Q _ => ∃ (a : Addr) (v : V), vs = [.ref a, v] ∧ H a = some (exo a C none) ∧ ∀ dx, H dx = none → dx ≠ a → Q .non (upd (upd H dx (exd dx [("field", v)])) a (exo a C (some dx)))
def fieldName (z : Str) : Str := (Txt.partition z "/").1
def fieldNum (z : Str) : Int := numOf (cd (Txt.partition z "/").2.2)
def spFieldOf (C : Addr) : Sp := fun vs H Q E => ∃ z : Str, vs = [.str z] ∧ z.length ≤ sizeLine ∧
  (isFieldB z = false → ∀ H' d, Same H H' → H' d = some (.xd [("field", .str z)]) → E (.ref C) (some d) H') ∧
  (isFieldB z = true → ∀ H' p, Same H H' → H' p = some (.tup [.str (fieldName z), .int (fieldNum z)]) → Q (.ref p) H')
theorem digits_of_field {z : Str} (h : isFieldB z = true) : (cd (Txt.partition z "/").2.2).all digitB = true := by
  unfold isFieldB at h
  split at h
  · cases h
  · rcases Bool.or_eq_true_iff.mp h with h | h
    · have e : (Txt.partition z "/").2.1 = "" := by
        have q := of_decide_eq_true h
        injection q
      unfold Txt.partition at e ⊢
      split
      · rename_i i _ ho
        rw [ho] at e
        have e' : ("/" : Str) = "" := e
        exact absurd e' (by decide)
      · rfl
    · unfold isMod at h
      split at h
      · cases h
      · exact h
section
variable {P : Program} {w : World} {K : PySem.W.Frag} {mg : Str → Option Value} {base : Heap}
theorem sc_number : FnScope ["digits", "number", "digit"] ["digits"] (defScope s_number_of) := ⟨rfl, rfl, rfl, by decide +kernel, rfl, by decide +kernel, by decide +kernel⟩
theorem num_step {l : List Nat} {i c : Nat} (h : l[i]? = some c) : numOf (l.take (i + 1)) = numOf (l.take i) * 10 + dig c := by
  unfold numOf
  rw [List.take_add_one, h, List.foldl_append]
  rfl
theorem ok_number_of (B : Bk K mg) : Df P w K mg base CX0 1 "number_of" ["digits"] spNum := by
  obtain ⟨fd, F⟩ := B.F_number_of
  refine ⟨⟨fd, ?_, F.binds fun _ _ _ _ _ _ us hl => match us, hl with | [_], _ => rfl⟩, B.g_number_of, F.kp⟩
  refine F.ok sc_number (fun vs H Q E h => ?_) (fun cdv A outer s H vs Q E hr h => ?_)
  · obtain ⟨z, rfl, _⟩ := h
    rfl
  · obtain ⟨z, rfl, hz, k⟩ := h
    refine ⟨_, pss_cons (ps_set (i := 1) sc_number.nd rfl (Or.inl rfl) pe_int)
      (pss_cons (ps_for PassesOwn.never rfl (pi_str (pv 0)) (pg_name (i := 2) sc_number.nd rfl (Or.inl rfl))
        (pss_one (ps_set (i := 1) sc_number.nd rfl (Or.inl rfl) (pe_op op_add (pe_op op_mul (pv 1) pe_int) (pe_callTy call_int_str (by rfl) B.b_int (by decide +kernel) (pa_cons (pv 2) pa_nil))))))
      (pss_one (ps_ret (pv 1)))), ?_⟩
    refine ⟨_, rfl, _, rfl, for_it walk_str (fun i σ H' => ∃ v, σ = [some (.str z), some (.int (numOf ((cd z).take i))), v] ∧ Same H H') ⟨none, rfl, Same.refl _⟩ (fun _ _ _ _ _ => trivial) (fun i x σ H1 H' hi ⟨v, e, s1⟩ y => ?_) (fun σ H1 ⟨v, e, s1⟩ => ?_)⟩
    · obtain ⟨rfl, c, hc, rfl⟩ := y
      subst e
      have hd : digitB c = true := List.all_eq_true.mp hz c (List.mem_of_getElem? (cd_at hc))
      refine ⟨_, rfl, _, _, rfl, rfl, .inr ⟨by decide, by decide⟩, _, rfl, _, _, rfl, int_sign hd, (by show 1 ≤ 640; decide), _, _, rfl, rfl, ?_⟩
      refine ⟨some (.str ⟨#[c]⟩), ?_, s1⟩
      rw [num_step (cd_at hc)]
      rfl
    · subst e
      refine ⟨_, rfl, ?_⟩
      have q := k H1 s1
      rw [← List.take_length (l := cd z)] at q
      exact q
/-! ### BadField's __init__, field_of -/
theorem sc_bf : FnScope ["self", "field"] ["self", "field"] (defScope s_BadField___init__) := ⟨rfl, rfl, rfl, by decide +kernel, rfl, by decide +kernel, by decide +kernel⟩
theorem ok_bf (B : Bk K mg) : ∃ fd, FnOk P w K mg base CX0 1 (He.ma K (He.ga K "BadField") "__init__") fd ["self", "field"] (spBF (He.ga K "BadField")) ∧ Binds K fd ["self", "field"] [] := by
  obtain ⟨fd, F⟩ := B.F_BadField___init
  refine ⟨fd, ?_, F.binds fun _ _ _ _ _ _ us hl => match us, hl with | [_, _], _ => rfl⟩
  refine F.ok sc_bf (fun vs H Q E h => ?_) (fun cdv A outer s H vs Q E hr h => ?_)
  · obtain ⟨a, v, rfl, _⟩ := h
    rfl
  · obtain ⟨a, v, rfl, ha, k⟩ := h
    refine ⟨_, pss_cons (ps_expr (pe_veinit (by rfl) B.b_ValueError (by rfl) (pa_cons (pv 0) (pa_cons (pv 1) pa_nil)))) (pss_one (ps_ost (pv 0) (pv 1))), ?_⟩
    refine ⟨_, rfl, _, rfl, a, _, [v], rfl, (by show 1 ≤ 1000; decide), B.ox_BadField.1, ha, ?_⟩
    exact ⟨_, rfl, _, rfl, a, _, rfl, B.ox_BadField.1, B.nf_BadField_field, .inl ⟨ha, fun dx n ne => k dx n ne⟩⟩
theorem sc_fo : FnScope ["text", "name", "_", "digits"] ["text"] (defScope s_field_of) := ⟨rfl, rfl, rfl, by decide +kernel, rfl, by decide +kernel, by decide +kernel⟩
theorem del_same_of {H : Hp} {a : Addr} {b : Addr} {o : HO} (h : H b = some o) (n : b ≠ a) : del H a b = some o := by rw [del_ne n]; exact h
theorem ok_field_of (B : Bk K mg) : Df P w K mg base (L2.CX P w) 3 "field_of" ["text"] (spFieldOf (He.ga K "BadField")) := by
  obtain ⟨fd, F⟩ := B.F_field_of
  obtain ⟨fdF, GF, bF⟩ := (ok_is_field (P := P) (w := w) (base := base) B).ex
  have kF := (ok_is_field (P := P) (w := w) (base := base) B).kp
  obtain ⟨fdN, GN, bN⟩ := (ok_number_of (P := P) (w := w) (base := base) B).ex
  have kN := (ok_number_of (P := P) (w := w) (base := base) B).kp
  obtain ⟨fdE, GE, bE⟩ := ok_bf (P := P) (w := w) (base := base) B
  obtain ⟨oxc, oi, ot⟩ := B.ox_BadField
  refine ⟨⟨fd, ?_, F.binds fun _ _ _ _ _ _ us hl => match us, hl with | [_], _ => rfl⟩, B.g_field_of, F.kp⟩
  refine F.okX sc_fo (fun vs H Q E h => ?_) (fun cdv A outer s H vs Q E hr h => ?_)
  · obtain ⟨x, rfl, _⟩ := h
    rfl
  · obtain ⟨z, rfl, hz, kE, kQ⟩ := h
    have hr1 : Room 1 _ := hr.mono (by decide)
    refine ⟨_, pss_cons (ps_if (pt_not (pt_val (pe_call GF hr rfl B.g_is_field kF bF .nil pass0 (pa_cons (pv 0) pa_nil)))) (pss_one (ps_raise rfl (takes_of rfl rfl rfl rfl) (pmk_oex oxc oi ot GE hr bE .nil pass0 (by rfl) B.g_BadField (pa_cons (pv 0) pa_nil)))) pss_nil)
      (pss_cons (ps_asg (pe_partition (pv 0) pe_str) (pg_tup (by rfl) (pgs_cons (pg_name (i := 1) sc_fo.nd rfl (.inl rfl)) (pgs_cons (pg_name (i := 2) sc_fo.nd rfl (.inl rfl)) (pgs_cons (pg_name (i := 3) sc_fo.nd rfl (.inl rfl)) pgs_nil)))))
      (pss_one (ps_ret (pe_tup (pa_cons (pv 1) (pa_cons (pe_call GN hr1 rfl B.g_number_of kN bN .nil pass0 (pa_cons (pv 3) pa_nil)) pa_nil)))))), ?_⟩
    refine ⟨_, rfl, _, rfl, .inl ⟨z, rfl, hz, fun H1 s1 => ⟨_, rfl, two (fun h1 => ?_) (fun h1 => ?_)⟩⟩⟩
    · have hf : isFieldB z = false := by
        cases e : isFieldB z with
        | false => rfl
        | true => rw [e] at h1; cases h1
      refine ⟨_, rfl, (by show 1 ≤ 1000; decide), fun a na => ⟨a, _, rfl, upd_same, fun dx nd ne => ⟨rfl, dx, [("field", .str z)], upd_same, ?_, ?_, ?_⟩⟩⟩
      · rw [upd_ne ne, upd_same]
      · rw [upd_ne ne] at nd
        exact nd
      · have nd' : H1 dx = none := by
          rw [upd_ne ne] at nd
          exact nd
        refine kE hf _ dx (fun b o q => ?_) upd_same
        have q1 := s1 b o q
        have nb : b ≠ a := ne_of_none q1 na
        rw [upd_ne (ne_of_none q1 nd'), del_ne nb, upd_ne nb, upd_ne (ne_of_none q1 nd'), upd_ne nb]
        exact q1
    · have hf : isFieldB z = true := by
        cases e : isFieldB z with
        | true => rfl
        | false => rw [e] at h1; cases h1
      refine ⟨_, rfl, ⟨_, rfl⟩, _, _, rfl, rfl, by decide, hz, fun p hp => ?_⟩
      have s2 : Same H1 (upd H1 p (.tup [.str (Txt.partition z "/").1, .str (Txt.partition z "/").2.1, .str (Txt.partition z "/").2.2])) := Same_new hp
      refine ⟨_, _, rfl, SqT.of upd_same, rfl, _, _, rfl, _, _, rfl, _, _, rfl, rfl, ?_⟩
      refine ⟨_, rfl, _, rfl, _, rfl, digits_of_field hf, fun H3 s3 => ⟨(by show 2 ≤ sizeLine; decide), fun t ht => ?_⟩⟩
      exact kQ hf _ t (((s1.trans s2).trans s3).trans (Same_new ht)) upd_same
end
end Jd
namespace Jd
open PySem PySem.Spec PyProof.Rows L2
/-! ### _digits_of, field_text -/
theorem int_eq {a b : Int} : decide (V.int a = V.int b) = decide (a = b) := decide_eq_decide.mpr ⟨fun e => by injection e, fun e => by rw [e]⟩
def iV (n : Nat) : V := .int (n : Int)
def zf60 (n : Nat) : Str := Txt.zfill (toString (n : Int)) 60
def dig60 (n : Nat) : Str := Txt.lstripChars (zf60 n ++ Str.empty) "0"
/-- what a number must be for _digits_of -/
def numOk (n : Nat) : Prop := 0 < n ∧ n < 1000000000000000000 ∧ (zf60 n ++ Str.empty).length ≤ 1000 ∧ (zf60 n).length ≤ 1000 ∧ ((dig60 n).length ≤ 1000 ∧ (dig60 n).length ≠ 0)
def spDig : Sp := fun vs H Q _ => ∃ n : Nat, vs = [iV n] ∧ numOk n ∧ ∀ H', Same H H' → Q (.str (dig60 n)) H'
def ftext (name : Str) (n : Nat) : Str := Str.empty ++ name ++ "/" ++ dig60 n
def spFt : Sp := fun vs H Q _ => ∃ (name : Str) (n : Nat), vs = [.str name, iV n] ∧ numOk n ∧ name.length ≤ 1000 ∧ ∀ H', Same H H' → Q (.str (ftext name n)) H'
theorem app_len (a b : Str) : (a ++ b).length = a.length + b.length := by
  show (a.cps ++ b.cps).size = a.cps.size + b.cps.size
  exact Array.size_append
theorem log_ok {n : Nat} (h : n < 1000000000000000000) : (n : Int).natAbs.log2 < 1920 := by
  have e : (n : Int).natAbs = n := by omega
  rw [e]
  by_cases h0 : n = 0
  · subst h0
    decide
  · have q : n.log2 < 60 := (Nat.log2_lt h0).mpr (by omega)
    omega
section
variable {P : Program} {w : World} {K : PySem.W.Frag} {mg : Str → Option Value} {base : Heap}
theorem sc_dig : FnScope ["number", "digits", "rest", "piece"] ["number"] (defScope s_written) := ⟨rfl, rfl, rfl, by decide +kernel, rfl, by decide +kernel, by decide +kernel⟩
theorem ok_written (B : Bk K mg) : Df P w K mg base CX0 1 "written" ["number"] spDig := by
  obtain ⟨fd, F⟩ := B.F_written
  refine ⟨⟨fd, ?_, F.binds fun _ _ _ _ _ _ us hl => match us, hl with | [_], _ => rfl⟩, B.g_written, F.kp⟩
  refine F.ok sc_dig (fun vs H Q E h => ?_) (fun cdv A outer s H vs Q E hr h => ?_)
  · obtain ⟨n, rfl, _⟩ := h
    rfl
  · obtain ⟨n, rfl, ⟨hn, hb, hl, hl2, hl3, hl4⟩, k⟩ := h
    refine ⟨_, pss_cons (ps_set (i := 1) sc_dig.nd rfl (Or.inl rfl) pe_str)
      (pss_cons (ps_set (i := 2) sc_dig.nd rfl (Or.inl rfl) (pe_callB call_abs (by rfl) B.b_abs (by decide +kernel) (pa_cons (pv 0) pa_nil)))
      (pss_cons (ps_while PassesOwn.never (pt_cmpR op_gt (pv 2) pe_int (nomark _))
        (pss_cons (ps_asg (pe_callB call_divmodW (by rfl) B.b_divmod (by decide +kernel) (pa_cons (pv 2) (pa_cons (pe_op op_pow pe_int pe_int) pa_nil))) (pg_tup (by rfl) (pgs_cons (pg_name (i := 2) sc_dig.nd rfl (.inl rfl)) (pgs_cons (pg_name (i := 3) sc_dig.nd rfl (.inl rfl)) pgs_nil))))
        (pss_one (ps_set (i := 1) sc_dig.nd rfl (Or.inl rfl) (pe_op op_add_str (pe_m1 PySem.F.slot_str_zfill PySem.F.type_str_zfill mt_zfill (pe_callTy call_str_int (by rfl) B.b_str (by decide +kernel) (pa_cons (pv 3) pa_nil)) pe_int) (pv 1))))))
      (pss_cons (ps_set (i := 1) sc_dig.nd rfl (Or.inl rfl) (pe_orT (pe_m1 PySem.F.slot_str_lstrip PySem.F.type_str_lstrip mt_lstripChars (pv 1) pe_str) (pe_one pe_str)))
      (pss_one (ps_ret (pe_ifExp (pt_cmpR op_lt (pv 0) pe_int (nomark _)) (pe_op op_add_str pe_str (pv 1)) (pv 1))))))), ?_⟩
    have ea : (if (n : Int) < 0 then -(n : Int) else (n : Int)) = (n : Int) := if_neg (by omega)
    refine ⟨_, rfl, _, rfl, ?_⟩
    rw [ea]
    refine ⟨fun m σ H' => (m = 1 ∧ σ = [some (iV n), some (.str ""), some (iV n), none] ∧ Same H H') ∨ (m = 0 ∧ σ = [some (iV n), some (.str (zf60 n ++ Str.empty)), some (.int 0), some (iV n)] ∧ Same H H'), ⟨1, .inl ⟨rfl, rfl, Same.refl _⟩⟩, ?_⟩
    rintro m σ H1 (⟨rfl, rfl, s1⟩ | ⟨rfl, rfl, s1⟩)
    · refine ⟨_, rfl, _, _, rfl, rfl, _, rfl, ?_⟩
      have c1 : decide ((0 : Int) < (n : Int)) = true := decide_eq_true (by omega)
      show if decide ((0 : Int) < (n : Int)) = true then _ else _
      rw [c1]
      refine iteT ?_
      refine ⟨fun σ' H' => (0 = 0 ∧ σ' = [some (iV n), some (.str (zf60 n ++ Str.empty)), some (.int 0), some (iV n)] ∧ Same H H'), fun σ' H' q => ⟨0, by omega, .inr q⟩, ?_⟩
      have hbits : Builtin.Int.intBits (n : Int) ≤ 60 := intBits_le_iff.mpr (by omega)
      refine ⟨_, rfl, _, _, rfl, rfl, ⟨by decide, by decide, by decide⟩, _, _, rfl, divp_ok (by decide) (Nat.le_trans hbits (Nat.le_trans (by decide) (Nat.le_add_left _ _))), fun p hp => ?_⟩
      have e1 : (n : Int) / (10 : Int) ^ (60 : Int).toNat = 0 := Int.ediv_eq_zero_of_lt (by omega) (by
        have q : (1000000000000000000 : Int) ≤ 10 ^ (60 : Int).toNat := by decide
        omega)
      have e2 : (n : Int) % (10 : Int) ^ (60 : Int).toNat = (n : Int) := Int.emod_eq_of_lt (by omega) (by
        have q : (1000000000000000000 : Int) ≤ 10 ^ (60 : Int).toNat := by decide
        omega)
      refine ⟨_, _, rfl, SqT.of upd_same, rfl, _, _, rfl, _, _, rfl, rfl, ?_⟩
      refine ⟨_, rfl, _, rfl, by (show ((n : Int) % (10 : Int) ^ (60 : Int).toNat).natAbs.log2 < 1920); rw [e2]; exact log_ok hb, ⟨_, rfl⟩, _, _, rfl, rfl, rfl, _, rfl, _, _, rfl, rfl, ?_, rfl, ?_, Same_upd s1 (s1.free hp)⟩
      · show (Txt.zfill (toString ((n : Int) % (10 : Int) ^ (60 : Int).toNat)) 60).length + ("" : Str).length ≤ sizeLine
        rw [e2]
        exact Nat.le_trans (Nat.add_le_add hl2 (Nat.le_refl _)) (by decide)
      · show [some (iV n), some (V.str (Txt.zfill (toString ((n : Int) % (10 : Int) ^ (60 : Int).toNat)) 60 ++ "")), some (V.int ((n : Int) / (10 : Int) ^ (60 : Int).toNat)), some (V.int ((n : Int) % (10 : Int) ^ (60 : Int).toNat))] = _
        rw [e1, e2]
        rfl
    · refine ⟨_, rfl, _, _, rfl, rfl, _, rfl, iteF ?_⟩
      refine ⟨_, rfl, ⟨_, rfl⟩, _, _, rfl, rfl, Nat.le_trans hl (by decide), true, ⟨Nat.le_trans hl3 (by decide), (bne_iff_ne.mpr (by intro e; exact hl4 (by exact_mod_cast e))).symm⟩, ?_⟩
      refine ⟨_, rfl, _, _, rfl, rfl, _, rfl, ?_⟩
      have c2 : decide ((n : Int) < 0) = false := decide_eq_false (by omega)
      show if decide ((n : Int) < 0) = true then _ else _
      rw [c2]
      exact iteF ⟨_, rfl, k H1 s1⟩
theorem sc_ft : FnScope ["name", "m"] ["name", "m"] (defScope s_field_text) := ⟨rfl, rfl, rfl, by decide +kernel, rfl, by decide +kernel, by decide +kernel⟩
theorem ok_field_text (B : Bk K mg) : Df P w K mg base CX0 2 "field_text" ["name", "m"] spFt := by
  obtain ⟨fd, F⟩ := B.F_field_text
  obtain ⟨fdD, GD, bD⟩ := (ok_written (P := P) (w := w) (base := base) B).ex
  have kD := (ok_written (P := P) (w := w) (base := base) B).kp
  refine ⟨⟨fd, ?_, F.binds fun _ _ _ _ _ _ us hl => match us, hl with | [_, _], _ => rfl⟩, B.g_field_text, F.kp⟩
  refine F.ok sc_ft (fun vs H Q E h => ?_) (fun cdv A outer s H vs Q E hr h => ?_)
  · obtain ⟨name, n, rfl, _⟩ := h
    rfl
  · obtain ⟨name, n, rfl, hn, hl, k⟩ := h
    refine ⟨_, pss_cons (ps_if (pt_cmpR op_eq (pv 1) pe_int (nomark _)) (pss_one (ps_ret (pv 0))) pss_nil)
      (pss_one (ps_ret (pe_joined (.cons (pe_fmt (pv 0)) (.cons pe_str (.cons (pe_fmt (pe_call GD hr rfl B.g_written kD bD .nil pass0 (pa_cons (pv 1) pa_nil))) .nil)))))), ?_⟩
    refine ⟨_, rfl, rfl, _, rfl, ?_⟩
    have c1 : decide (V.int (n : Int) = V.int 0) = false := by
      rw [int_eq]
      exact decide_eq_false (by have := hn.1; omega)
    show if decide (V.int (n : Int) = V.int 0) = true then _ else _
    rw [c1]
    refine iteF ?_
    have z1 : (Str.empty ++ name).length ≤ 1000 := by rw [app_len]; show 0 + name.length ≤ 1000; omega
    have z2 : (Str.empty ++ name ++ "/").length ≤ 1001 := by rw [app_len]; exact Nat.add_le_add z1 (Nat.le_refl 1)
    refine ⟨_, rfl, .inl ⟨_, rfl, Nat.le_trans hl (by decide), _, rfl, Nat.le_trans z1 (by decide), _, rfl, Nat.le_trans z2 (by decide), ?_⟩⟩
    refine ⟨_, rfl, n, rfl, hn, fun H1 s1 => .inl ⟨_, rfl, Nat.le_trans hn.2.2.2.2.1 (by decide), _, rfl, ?_, k H1 s1⟩⟩
    rw [app_len]
    exact Nat.le_trans (Nat.add_le_add z2 hn.2.2.2.2.1) (by decide)
end
end Jd
namespace Jd
open PySem PySem.Spec PyProof.Rows L2
/-! ### lists and tuples alike -/
def Sq (K : PySem.W.Frag) (H : Hp) (a : Addr) (xs : List V) : Prop := SqL K H a xs ∨ SqT K H a xs
theorem sm_seqT {K : PySem.W.Frag} {H H' : Hp} {a : Addr} {xs : List V} (e : ∀ b o, H b = some o → H' b = some o) (h : SqT K H a xs) : SqT K H' a xs := by
  rcases h with (h | ⟨o, h⟩) | h
  · exact .inl (.inl (e _ _ h))
  · exact .inl (.inr ⟨o, e _ _ h⟩)
  · exact .inr h
theorem sm_seqL {K : PySem.W.Frag} {H H' : Hp} {a : Addr} {xs : List V} (e : ∀ b o, H b = some o → H' b = some o) (h : SqL K H a xs) : SqL K H' a xs := by
  rcases h with (h | ⟨o, h⟩) | h
  · exact .inl (.inl (e _ _ h))
  · exact .inl (.inr ⟨o, e _ _ h⟩)
  · exact .inr h
theorem Sq.same {K : PySem.W.Frag} {H H' : Hp} {a : Addr} {xs : List V} (e : ∀ b o, H b = some o → H' b = some o) (h : Sq K H a xs) : Sq K H' a xs := h.elim (fun h => .inl (sm_seqL e h)) fun h => .inr (sm_seqT e h)
/-- all but the instance at u is as it was -/
theorem Sq.keep {K : PySem.W.Frag} {u : Addr} {H H' : Hp} {a : Addr} {xs : List V} {C dx : Addr} {fs : List (Str × V)} (hu : H u = some (.ins C dx fs)) (k : ∀ b o, b ≠ u → H b = some o → H' b = some o) (h : Sq K H a xs) : Sq K H' a xs := by
  rcases h with ((h | ⟨o, h⟩) | h) | ((h | ⟨o, h⟩) | h)
  · exact .inl (.inl (.inl (k _ _ (ne_of h hu (by intro z; cases z)) h)))
  · exact .inl (.inl (.inr ⟨o, k _ _ (ne_of h hu (by intro z; cases z)) h⟩))
  · exact .inl (.inr h)
  · exact .inr (.inl (.inl (k _ _ (ne_of h hu (by intro z; cases z)) h)))
  · exact .inr (.inl (.inr ⟨o, k _ _ (ne_of h hu (by intro z; cases z)) h⟩))
  · exact .inr (.inr h)
/-- a list or a tuple, walked -/
def iSq (K : PySem.W.Frag) (te : TE) : TI := fun σ H R => te σ H fun x H1 => ∃ (a : Addr) (xs : List V), x = .ref a ∧ Sq K H1 a xs ∧
  ∀ (J : It) (G : Hp → Prop), Walk J xs.length G (YAt xs) → (∀ H', (∀ b o, H1 b = some o → H' b = some o) → G H') → R J H1
section
variable {X : Cx} {tg : Expr}
theorem pi_seq {l : Expr} {te : TE} (hl : PE X l te) : PI X tg l (iSq X.K te) := by
  refine ⟨fun pins s σ H R I h => ?_⟩
  refine thn (hl.run pins s σ H _ I h) fun v s1 ⟨x, H1, I1, r1, q1⟩ => ?_
  obtain ⟨a, xs, e, hq, q⟩ := q1
  subst e
  cases r1
  rcases hq with hq | hq
  · obtain ⟨its, rv, p, hz⟩ := I1.list hq
    refine wpAny_pyIter_list p.isList ?_
    refine ⟨s1.heap.objs.size, [s1.heap.objs.size], _, _, H1, rfl, I1.kept (t' := s1.toks) fun b o e => Heap.get?_push_of_some _ e, turn_list a _, ⟨_, Heap.get?_push_size _ rfl, rfl, rfl⟩, fun b hb => ?_,
      q (Itl X.K a) _ walk_list fun H' e => sm_seqL e hq⟩
    have e : b = s1.heap.objs.size := by simpa using hb
    subst e
    exact I1.fpOk (Nat.le_refl _) (I1.hok.fresh (Nat.le_refl _))
  · obtain ⟨its, rv, p, hz⟩ := I1.tuple hq
    refine wpAny_pyIter_tuple (show s1.heap.IsTuple a its.toArray from p) ?_
    refine ⟨s1.heap.objs.size, [s1.heap.objs.size], _, _, H1, rfl, I1.kept (t' := s1.toks) fun b o e => Heap.get?_push_of_some _ e, turn_tuple a _, ⟨_, Heap.get?_push_size _ rfl, rfl, rfl⟩, fun b hb => ?_,
      q (Itt X.K a) _ walk_tup fun H' e => sm_seqT e hq⟩
    have e : b = s1.heap.objs.size := by simpa using hb
    subst e
    exact I1.fpOk (Nat.le_refl _) (I1.hok.fresh (Nat.le_refl _))
/-- unpacked, a list or a tuple -/
def gSq (K : PySem.W.Frag) (n : Nat) (t : TGs) : TG := fun v σ H Q => ∃ (a : Addr) (xs : List V), v = .ref a ∧ Sq K H a xs ∧ xs.length = n ∧ t xs σ H Q
theorem pg_sq {es : List Expr} {kk : Nat} {pos : Pos} {n : Nat} {t : TGs} (h1 : PG X (.Tuple es kk pos) (gTup X.K n t)) (h2 : PG X (.Tuple es kk pos) (gLst X.K n t)) : PG X (.Tuple es kk pos) (gSq X.K n t) := by
  refine ⟨fun pins s σ H v u Q I r h => ?_⟩
  obtain ⟨a, xs, e, hq, hl, q⟩ := h
  rcases hq with hq | hq
  · exact h2.run pins s σ H v u Q I r ⟨a, xs, e, hq, hl, q⟩
  · exact h1.run pins s σ H v u Q I r ⟨a, xs, e, hq, hl, q⟩
end
end Jd
namespace Jd
/-! ### what follows from tellings -/
section
variable {α : Type} [DecidableEq α]
/-- reached by pairs, what lies between being among M -/
inductive Via (R : List (α × α)) (M : List α) : α → α → Prop
  | one {a b : α} : (a, b) ∈ R → Via R M a b
  | two {a m b : α} : Via R M a m → m ∈ M → Via R M m b → Via R M a b
theorem Via.mono {R : List (α × α)} {M M' : List α} (h : ∀ x, x ∈ M → x ∈ M') {a b : α} (v : Via R M a b) : Via R M' a b := by
  induction v with
  | one q => exact .one q
  | two _ m _ ih1 ih2 => exact .two ih1 (h _ m) ih2
theorem via_step {R : List (α × α)} {M : List α} {m a b : α} : Via R (M ++ [m]) a b ↔ Via R M a b ∨ (Via R M a m ∧ Via R M m b) := by
  constructor
  · intro v
    induction v with
    | one q => exact .inl (.one q)
    | @two a k b _ hk _ ih1 ih2 =>
      have hk' : k ∈ M ∨ k = m := by
        rcases List.mem_append.mp hk with h | h
        · exact .inl h
        · exact .inr (List.mem_singleton.mp h)
      rcases ih1 with l1 | ⟨l1, l2⟩
      · rcases ih2 with r1 | ⟨r1, r2⟩
        · rcases hk' with h | h
          · exact .inl (.two l1 h r1)
          · exact .inr ⟨h ▸ l1, h ▸ r1⟩
        · rcases hk' with h | h
          · exact .inr ⟨.two l1 h r1, r2⟩
          · exact .inr ⟨h ▸ l1, r2⟩
      · rcases ih2 with r1 | ⟨r1, r2⟩
        · rcases hk' with h | h
          · exact .inr ⟨l1, .two l2 h r1⟩
          · exact .inr ⟨l1, h ▸ r1⟩
        · exact .inr ⟨l1, r2⟩
  · have up : ∀ x, x ∈ M → x ∈ M ++ [m] := fun x h => List.mem_append.mpr (.inl h)
    rintro (v | ⟨v1, v2⟩)
    · exact v.mono up
    · exact .two (v1.mono up) (List.mem_append.mpr (.inr (List.mem_singleton.mpr rfl))) (v2.mono up)
/-- the table at the start: what is told at once -/
def tab0 (R : List (α × α)) (a : α) : List α := (R.filter fun p => decide (p.1 = a)).map (·.2)
theorem tab0_in {R : List (α × α)} {a b : α} : b ∈ tab0 R a ↔ (a, b) ∈ R := by
  unfold tab0
  constructor
  · intro h
    obtain ⟨⟨x, y⟩, hp, e⟩ := List.mem_map.mp h
    obtain ⟨h1, h2⟩ := List.mem_filter.mp hp
    have e1 : x = a := of_decide_eq_true h2
    have e2 : y = b := e
    exact e1 ▸ e2 ▸ h1
  · intro h
    exact List.mem_map.mpr ⟨(a, b), List.mem_filter.mpr ⟨h, decide_eq_true rfl⟩, rfl⟩
/-- one pass for one name in the middle -/
def passT (T : α → List α) (m a : α) : List α := if m ∈ T a then T a ++ (T m).filter (fun o => decide (o ∉ T a)) else T a
theorem filter_none {l : List α} : l.filter (fun o => decide (o ∉ l)) = [] := by
  rw [List.filter_eq_nil_iff]
  intro x hx h
  exact of_decide_eq_true h hx
theorem passT_self (T : α → List α) (m : α) : passT T m m = T m := by
  unfold passT
  rw [filter_none, List.append_nil]
  split <;> rfl
theorem passT_in {T : α → List α} {m a b : α} : b ∈ passT T m a ↔ b ∈ T a ∨ (m ∈ T a ∧ b ∈ T m) := by
  unfold passT
  split
  · rename_i h
    constructor
    · intro q
      rcases List.mem_append.mp q with q | q
      · exact .inl q
      · exact .inr ⟨h, (List.mem_filter.mp q).1⟩
    · rintro (q | ⟨_, q⟩)
      · exact List.mem_append.mpr (.inl q)
      · by_cases hb : b ∈ T a
        · exact List.mem_append.mpr (.inl hb)
        · exact List.mem_append.mpr (.inr (List.mem_filter.mpr ⟨q, decide_eq_true hb⟩))
  · rename_i h
    exact ⟨.inl, fun q => q.elim id fun q => absurd q.1 h⟩
theorem passT_len {T : α → List α} {m : α} {n : Nat} (h : ∀ a, (T a).length ≤ n) (a : α) : (passT T m a).length ≤ 2 * n := by
  unfold passT
  split
  · rw [List.length_append]
    have h1 := h a
    have h2 := h m
    have h3 := List.length_filter_le (fun o => decide (o ∉ T a)) (T m)
    omega
  · have h1 := h a
    omega
def closeT (R : List (α × α)) (ns : List α) : α → List α := ns.foldl (fun T m => passT T m) (tab0 R)
theorem close_via (R : List (α × α)) : ∀ (ns M : List α) (T : α → List α), (∀ a b, b ∈ T a ↔ Via R M a b) → ∀ a b, b ∈ (ns.foldl (fun T m => passT T m) T) a ↔ Via R (M ++ ns) a b
  | [], M, T, h, a, b => by rw [List.append_nil]; exact h a b
  | m :: ns, M, T, h, a, b => by
    have q := close_via R ns (M ++ [m]) (passT T m) (fun a b => by rw [passT_in, via_step, h, h, h]) a b
    rw [List.append_assoc] at q
    exact q
theorem via_nil {R : List (α × α)} {a b : α} : Via R [] a b ↔ (a, b) ∈ R := by
  constructor
  · intro v
    cases v with
    | one q => exact q
    | two _ h _ => cases h
  · exact .one
theorem close_in {R : List (α × α)} {ns : List α} {a b : α} : b ∈ closeT R ns a ↔ Via R ns a b := by
  have q := close_via R ns [] (tab0 R) (fun a b => by rw [tab0_in, via_nil]) a b
  rw [List.nil_append] at q
  exact q
theorem tab0_len (R : List (α × α)) (a : α) : (tab0 R a).length ≤ R.length := by
  unfold tab0
  rw [List.length_map]
  exact List.length_filter_le _ _
theorem close_len (R : List (α × α)) : ∀ (ns : List α) (T : α → List α) (n : Nat), (∀ a, (T a).length ≤ n) → ∀ a, ((ns.foldl (fun T m => passT T m) T) a).length ≤ 2 ^ ns.length * n
  | [], T, n, h, a => by simpa using h a
  | m :: ns, T, n, h, a => by
    have q := close_len R ns (passT T m) (2 * n) (passT_len h) a
    rw [List.length_cons, Nat.pow_succ, Nat.mul_assoc]
    exact q
/-- what a name tells, in the order of the names -/
def toldOf (R : List (α × α)) (ns : List α) (a : α) : List α := ns.filter fun b => decide (b ∈ closeT R ns a)
theorem told_in {R : List (α × α)} {ns : List α} {a b : α} : b ∈ toldOf R ns a ↔ b ∈ ns ∧ Via R ns a b := by
  unfold toldOf
  rw [List.mem_filter]
  constructor
  · rintro ⟨h1, h2⟩
    exact ⟨h1, close_in.mp (of_decide_eq_true h2)⟩
  · rintro ⟨h1, h2⟩
    exact ⟨h1, decide_eq_true (close_in.mpr h2)⟩
/-! steps one behind the other -/
inductive Steps (R : List (α × α)) : Nat → α → α → Prop
  | one {a b : α} : (a, b) ∈ R → Steps R 1 a b
  | more {a m b : α} {k : Nat} : (a, m) ∈ R → Steps R k m b → Steps R (k + 1) a b
theorem Steps.app {R : List (α × α)} {k l : Nat} {a m b : α} (h : Steps R k a m) (g : Steps R l m b) : Steps R (k + l) a b := by
  induction h with
  | one q => rw [Nat.add_comm]; exact .more q g
  | more q _ ih =>
    rw [Nat.add_right_comm]
    exact .more q (ih g)
theorem via_steps {R : List (α × α)} {M : List α} {a b : α} (v : Via R M a b) : ∃ k, Steps R k a b := by
  induction v with
  | one q => exact ⟨1, .one q⟩
  | two _ _ _ ih1 ih2 =>
    obtain ⟨k, h⟩ := ih1
    obtain ⟨l, g⟩ := ih2
    exact ⟨k + l, h.app g⟩
theorem steps_via {R : List (α × α)} {M : List α} (hM : ∀ p ∈ R, p.2 ∈ M) {k : Nat} {a b : α} (h : Steps R k a b) : Via R M a b := by
  induction h with
  | one q => exact .one q
  | more q _ ih => exact .two (.one q) (hM _ q) ih
theorem steps_rank {R : List (α × α)} {rk : α → Nat} (hr : ∀ p ∈ R, rk p.1 < rk p.2) {k : Nat} {a b : α} (h : Steps R k a b) : rk a + k ≤ rk b := by
  induction h with
  | one q => exact hr _ q
  | more q _ ih =>
    have := hr _ q
    dsimp only at this
    omega
theorem via_pos {R : List (α × α)} {k : Nat} {a b : α} (h : Steps R k a b) : 1 ≤ k := by
  cases h <;> omega
/-- without a ring nobody tells itself -/
theorem no_ring {R : List (α × α)} {M : List α} {rk : α → Nat} (hr : ∀ p ∈ R, rk p.1 < rk p.2) (a : α) : ¬ Via R M a a := fun v => by
  obtain ⟨k, h⟩ := via_steps v
  have h1 := steps_rank hr h
  have h2 := via_pos h
  omega
theorem via_any {R : List (α × α)} {M M' : List α} (hM : ∀ p ∈ R, p.2 ∈ M') {a b : α} (v : Via R M a b) : Via R M' a b := by
  obtain ⟨k, h⟩ := via_steps v
  exact steps_via hM h
/-! the law's own table -/
def updT (T : α → List α) (o : α) (l : List α) : α → List α := fun a => if a = o then l else T a
/-- one far name for one own -/
def farT (o : α) (T : α → List α) (far : α) : α → List α := updT T o (T o ++ (T far).filter fun b => decide (b ∉ T o))
def ownT (T : α → List α) (o : α) : α → List α := (T o).foldl (farT o) T
def roundT (ns : List α) (T : α → List α) : α → List α := ns.foldl ownT T
def lawT (R : List (α × α)) (ns : List α) (k : Nat) : α → List α := (List.range k).foldl (fun T _ => roundT ns T) (tab0 R)
def lawTold (R : List (α × α)) (ns : List α) (a : α) : List α := ns.filter fun b => decide (b ∈ lawT R ns ns.length a)
theorem farT_ne {o a : α} {T : α → List α} {far : α} (h : a ≠ o) : farT o T far a = T a := if_neg h
theorem farT_in {o : α} {T : α → List α} {far b : α} : b ∈ farT o T far o ↔ b ∈ T o ∨ b ∈ T far := by
  show b ∈ (if o = o then _ else _) ↔ _
  rw [if_pos rfl, List.mem_append]
  constructor
  · rintro (h | h)
    · exact .inl h
    · exact .inr (List.mem_filter.mp h).1
  · rintro (h | h)
    · exact .inl h
    · by_cases q : b ∈ T o
      · exact .inl q
      · exact .inr (List.mem_filter.mpr ⟨h, decide_eq_true q⟩)
theorem farT_up {o : α} {T : α → List α} {far a b : α} (h : b ∈ T a) : b ∈ farT o T far a := by
  by_cases e : a = o
  · subst e
    exact farT_in.mpr (.inl h)
  · rw [farT_ne e]
    exact h
theorem fars_up {o : α} : ∀ (l : List α) {T : α → List α} {a b : α}, b ∈ T a → b ∈ (l.foldl (farT o) T) a
  | [], _, _, _, h => h
  | f :: l, T, a, b, h => fars_up l (farT_up h)
theorem fars_ne {o a : α} (h : a ≠ o) : ∀ (l : List α) {T : α → List α}, (l.foldl (farT o) T) a = T a
  | [], _ => rfl
  | f :: l, T => by
    show (l.foldl (farT o) (farT o T f)) a = T a
    rw [fars_ne h l, farT_ne h]
theorem fars_all {o : α} : ∀ (l : List α) {T : α → List α} {far b : α}, far ∈ l → b ∈ T far → b ∈ (l.foldl (farT o) T) o
  | [], _, _, _, h, _ => by cases h
  | f :: l, T, far, b, h, hb => by
    show b ∈ (l.foldl (farT o) (farT o T f)) o
    rcases List.mem_cons.mp h with e | h
    · subst e
      exact fars_up l (farT_in.mpr (.inr hb))
    · exact fars_all l h (farT_up hb)
theorem ownT_up {o a b : α} {T : α → List α} (h : b ∈ T a) : b ∈ ownT T o a := fars_up _ h
theorem round_up : ∀ (ns : List α) {T : α → List α} {a b : α}, b ∈ T a → b ∈ roundT ns T a
  | [], _, _, _, h => h
  | o :: ns, T, a, b, h => round_up ns (ownT_up h)
theorem round_all : ∀ (ns : List α) {T : α → List α} {a m b : α}, a ∈ ns → m ∈ T a → b ∈ T m → b ∈ roundT ns T a
  | [], _, _, _, _, h, _, _ => by cases h
  | o :: ns, T, a, m, b, h, hm, hb => by
    show b ∈ roundT ns (ownT T o) a
    rcases List.mem_cons.mp h with e | h
    · subst e
      exact round_up ns (fars_all _ hm hb)
    · exact round_all ns h (ownT_up hm) (ownT_up hb)
/-- what the table holds follows -/
def Sound (R : List (α × α)) (M : List α) (T : α → List α) : Prop := ∀ a b, b ∈ T a → Via R M a b
theorem far_sound {R : List (α × α)} {M : List α} {T : α → List α} {o far : α} (s : Sound R M T) (hv : Via R M o far) (hf : far ∈ M) : Sound R M (farT o T far) := fun a b h => by
  by_cases e : a = o
  · subst e
    rcases farT_in.mp h with h | h
    · exact s _ _ h
    · exact .two hv hf (s _ _ h)
  · rw [farT_ne e] at h
    exact s _ _ h
theorem via_snd {R : List (α × α)} {M : List α} (hM : ∀ p ∈ R, p.2 ∈ M) {a b : α} (v : Via R M a b) : b ∈ M := by
  induction v with
  | one q => exact hM _ q
  | two _ _ _ _ ih => exact ih
theorem fars_sound {R : List (α × α)} {M : List α} (hM : ∀ p ∈ R, p.2 ∈ M) {o : α} : ∀ (l : List α) {T : α → List α}, Sound R M T → (∀ f ∈ l, Via R M o f) → Sound R M (l.foldl (farT o) T)
  | [], _, s, _ => s
  | f :: l, T, s, h => fars_sound hM l (far_sound s (h f List.mem_cons_self) (via_snd hM (h f List.mem_cons_self))) fun g hg => h g (List.mem_cons_of_mem _ hg)
theorem own_sound {R : List (α × α)} {M : List α} (hM : ∀ p ∈ R, p.2 ∈ M) {T : α → List α} {o : α} (s : Sound R M T) : Sound R M (ownT T o) := fars_sound hM _ s fun f h => s _ _ h
theorem round_sound {R : List (α × α)} {M : List α} (hM : ∀ p ∈ R, p.2 ∈ M) : ∀ (ns : List α) {T : α → List α}, Sound R M T → Sound R M (roundT ns T)
  | [], _, s => s
  | o :: ns, T, s => round_sound hM ns (own_sound hM s)
theorem law_sound {R : List (α × α)} {ns : List α} (hM : ∀ p ∈ R, p.2 ∈ ns) : ∀ k, Sound R ns (lawT R ns k)
  | 0 => fun a b h => .one (tab0_in.mp h)
  | k + 1 => by
    unfold lawT
    rw [List.range_succ, List.foldl_append]
    exact round_sound hM ns (law_sound hM k)
theorem law_all {R : List (α × α)} {ns : List α} (h1 : ∀ p ∈ R, p.1 ∈ ns) : ∀ (k l : Nat) (a b : α), l ≤ k + 1 → Steps R l a b → b ∈ lawT R ns k a
  | 0, l, a, b, hl, h => by
    cases h with
    | one q => exact tab0_in.mpr q
    | more q g =>
      have := via_pos g
      omega
  | k + 1, l, a, b, hl, h => by
    have e : lawT R ns (k + 1) = roundT ns (lawT R ns k) := by
      unfold lawT
      rw [List.range_succ, List.foldl_append]
      rfl
    rw [e]
    cases h with
    | one q => exact round_up ns (law_all h1 k 1 a b (by omega) (.one q))
    | @more a m b l' q g => exact round_all ns (h1 _ q) (law_all h1 k 1 a m (by omega) (.one q)) (law_all h1 k l' m b (by omega) g)
/-- the law's table and the program's tell the same -/
theorem law_told {R : List (α × α)} {ns : List α} {rk : α → Nat} (h1 : ∀ p ∈ R, p.1 ∈ ns) (h2 : ∀ p ∈ R, p.2 ∈ ns) (hr : ∀ p ∈ R, rk p.1 < rk p.2) (hb : ∀ p ∈ R, rk p.2 ≤ ns.length) (a : α) : lawTold R ns a = toldOf R ns a := by
  unfold lawTold toldOf
  refine List.filter_congr fun b _ => decide_eq_decide.mpr ?_
  rw [close_in]
  constructor
  · exact law_sound h2 ns.length a b
  · intro v
    obtain ⟨k, g⟩ := via_steps v
    refine law_all h1 ns.length k a b ?_ g
    have q := steps_rank hr g
    have : rk b ≤ ns.length := by
      have key : ∀ {k : Nat} {a b : α}, Steps R k a b → rk b ≤ ns.length := by
        intro k a b g
        induction g with
        | one q => exact hb _ q
        | more _ _ ih => exact ih
      exact key g
    omega
/-- lists with two of a kind at most in the law's table -/
def Fine (ns : List α) (T : α → List α) : Prop := ∀ a, (∀ b, (T a).count b ≤ 2) ∧ ∀ b ∈ T a, b ∈ ns
theorem fine_far {ns : List α} {T : α → List α} {o far : α} (f : Fine ns T) : Fine ns (farT o T far) := fun a => by
  by_cases e : a = o
  · subst e
    refine ⟨fun b => ?_, fun b h => ?_⟩
    · show (if a = a then _ else _ : List α).count b ≤ 2
      rw [if_pos rfl, List.count_append]
      by_cases hb : b ∈ T a
      · have z : List.count b (List.filter (fun c => decide (c ∉ T a)) (T far)) = 0 := List.count_eq_zero.mpr fun h => absurd hb (of_decide_eq_true (List.mem_filter.mp h).2)
        rw [z]
        exact (f a).1 b
      · rw [List.count_eq_zero.mpr hb, Nat.zero_add]
        exact Nat.le_trans (List.Sublist.count_le _ List.filter_sublist) ((f far).1 b)
    · rcases farT_in.mp h with h | h
      · exact (f _).2 b h
      · exact (f _).2 b h
  · rw [farT_ne e]
    exact f a
theorem len_cut (n : α) : ∀ l : List α, l.length = l.count n + (l.filter fun x => decide (x ≠ n)).length
  | [] => rfl
  | x :: l => by
    have q := len_cut n l
    by_cases e : x = n
    · subst e
      rw [List.filter_cons, if_neg (by simp), List.count_cons_self, List.length_cons]
      omega
    · rw [List.filter_cons, if_pos (decide_eq_true e), List.count_cons_of_ne e, List.length_cons, List.length_cons]
      omega
theorem two_len : ∀ (m l : List α), (∀ b, l.count b ≤ 2) → (∀ x ∈ l, x ∈ m) → l.length ≤ 2 * m.length
  | [], l, _, h => by
    cases l with
    | nil => exact Nat.le_refl _
    | cons x l => exact absurd (h x List.mem_cons_self) List.not_mem_nil
  | n :: m, l, c, h => by
    have q := two_len m (l.filter fun x => decide (x ≠ n)) (fun b => Nat.le_trans (List.Sublist.count_le _ List.filter_sublist) (c b)) fun x hx => by
      obtain ⟨h1, h2⟩ := List.mem_filter.mp hx
      exact (List.mem_cons.mp (h x h1)).resolve_left (of_decide_eq_true h2)
    have e := len_cut n l
    have k := c n
    rw [List.length_cons]
    omega
theorem fine_len {ns : List α} {T : α → List α} (f : Fine ns T) (a : α) : (T a).length ≤ 2 * ns.length := two_len _ _ (f a).1 (f a).2
theorem fine_tab0 {R : List (α × α)} {ns : List α} (nd : ∀ a b, (tab0 R a).count b ≤ 2) (h2 : ∀ p ∈ R, p.2 ∈ ns) : Fine ns (tab0 R) := fun a => ⟨nd a, fun b h => h2 _ (tab0_in.mp h)⟩
theorem tab0_nd {R : List (α × α)} (nd : R.Nodup) (a : α) : (tab0 R a).Nodup := by
  unfold tab0
  induction R with
  | nil => exact List.nodup_nil
  | cons p R ih =>
    obtain ⟨n1, n2⟩ := List.nodup_cons.mp nd
    have q := ih n2
    rw [List.filter_cons]
    split
    · rename_i hp
      rw [List.map_cons]
      refine List.nodup_cons.mpr ⟨fun hm => ?_, q⟩
      obtain ⟨p', h1, h3⟩ := List.mem_map.mp hm
      obtain ⟨h4, h5⟩ := List.mem_filter.mp h1
      have e1 : p.1 = a := of_decide_eq_true hp
      have e2 : p'.1 = a := of_decide_eq_true h5
      have e3 : p' = p := Prod.ext (e2.trans e1.symm) h3
      exact n1 (e3 ▸ h4)
    · exact q
theorem told_len (R : List (α × α)) (ns : List α) (a : α) : (toldOf R ns a).length ≤ ns.length := List.length_filter_le _ _
end
end Jd
namespace Jd
open PySem PySem.Spec PyProof.Rows L2
/-! ### tables: dicts by names -/
theorem fl_str {xs : List Str} : (xs.map V.str).all flatV = true := by
  rw [List.all_eq_true]
  intro x hx
  obtain ⟨z, _, rfl⟩ := List.mem_map.mp hx
  rfl
theorem inV_str (z : Str) (xs : List Str) : inV (.str z) (xs.map V.str) = decide (z ∈ xs) := by
  unfold inV
  induction xs with
  | nil => rfl
  | cons x xs ih =>
    rw [List.map_cons, List.any_cons, ih]
    show ((x == z) || _) = _
    by_cases h : x = z
    · subst h
      simp
    · have h' : ¬ z = x := fun q => h q.symm
      have hb : (x == z) = false := by
        cases e : (x == z) with
        | false => rfl
        | true => exact absurd (eq_of_beq e) h
      rw [hb, Bool.false_or]
      exact decide_eq_decide.mpr (by simp [h'])
theorem fm_bind {α : Type} {l : List α} (h : α → Option V) : (List.range l.length).filterMap (fun i => (l[i]?).bind h) = l.filterMap h := by
  have key : ∀ k, k ≤ l.length → (List.range k).filterMap (fun i => (l[i]?).bind h) = (l.take k).filterMap h := by
    intro k
    induction k with
    | zero => intro _; rfl
    | succ k ih =>
      intro hk
      have hl : k < l.length := hk
      have e : l[k]? = some l[k] := List.getElem?_eq_getElem hl
      rw [fm_step, ih (Nat.le_of_lt hl), e, List.take_add_one, e, List.filterMap_append]
      congr 1
      show (match h l[k] with
        | some y => [y]
        | none => []) = List.filterMap h [l[k]]
      cases q : h l[k] with
      | none => rw [List.filterMap_cons_none q]; rfl
      | some y => rw [List.filterMap_cons_some q]; rfl
  have q := key l.length (Nat.le_refl _)
  rw [List.take_length] at q
  exact q
theorem fm_filter {l : List Str} {p : Str → Bool} : l.filterMap (fun o => if p o = true then some (V.str o) else none) = (l.filter p).map V.str := by
  induction l with
  | nil => rfl
  | cons x l ih =>
    by_cases h : p x = true
    · rw [List.filterMap_cons_some (by rw [if_pos h]), List.filter_cons_of_pos h, List.map_cons, ih]
    · rw [List.filterMap_cons_none (by rw [if_neg h]), List.filter_cons_of_neg h, ih]
theorem fm_tab0 {R : List (Str × Str)} {n : Str} : R.filterMap (fun pr => if pr.1 = n then some (V.str pr.2) else none) = (tab0 R n).map V.str := by
  unfold tab0
  induction R with
  | nil => rfl
  | cons x l ih =>
    by_cases h : x.1 = n
    · rw [List.filterMap_cons_some (by rw [if_pos h]), List.filter_cons_of_pos (by rw [decide_eq_true h]), List.map_cons, List.map_cons, ih]
    · rw [List.filterMap_cons_none (by rw [if_neg h]), List.filter_cons_of_neg (by rw [decide_eq_false h]; decide), ih]
def kvT (ns : List Str) (A : Str → Addr) : List (Key × V) := ns.map fun n => (Sum.inr n, V.ref (A n))
theorem kvT_len (ns : List Str) (A : Str → Addr) : (kvT ns A).length = ns.length := List.length_map ..
theorem valV_kvT {n : Str} {A : Str → Addr} : ∀ {ns : List Str}, n ∈ ns → valV (kvT ns A) (Sum.inr n) = some (.ref (A n))
  | [], h => by cases h
  | m :: ns, h => by
    show valV ((Sum.inr m, V.ref (A m)) :: kvT ns A) (Sum.inr n) = _
    by_cases e : m = n
    · subst e
      exact valV_pos rfl
    · rw [valV_neg (fun q => e (Sum.inr.inj q))]
      exact valV_kvT ((List.mem_cons.mp h).resolve_left fun q => e q.symm)
theorem valV_kvN {n : Str} {A : Str → Addr} : ∀ {ns : List Str}, n ∉ ns → valV (kvT ns A) (Sum.inr n) = none
  | [], h => rfl
  | m :: ns, h => by
    show valV ((Sum.inr m, V.ref (A m)) :: kvT ns A) (Sum.inr n) = _
    have e : m ≠ n := fun q => h (q ▸ List.mem_cons_self)
    rw [valV_neg (fun q => e (Sum.inr.inj q))]
    exact valV_kvN fun q => h (List.mem_cons_of_mem _ q)
/-- A changed at n -/
def atA (A : Str → Addr) (n : Str) (p : Addr) : Str → Addr := fun m => if m = n then p else A m
theorem atA_at {A : Str → Addr} {n : Str} {p : Addr} : atA A n p n = p := if_pos rfl
theorem atA_ne {A : Str → Addr} {n m : Str} {p : Addr} (h : m ≠ n) : atA A n p m = A m := if_neg h
theorem putK_old {n : Str} {A : Str → Addr} {p : Addr} {ns : List Str} (h : n ∈ ns) : putK (kvT ns A) (Sum.inr n) (.ref p) = kvT ns (atA A n p) := by
  unfold putK
  have e : ((kvT ns A).any fun kv => decide (kv.1 = Sum.inr n)) = true := by
    rw [List.any_eq_true]
    exact ⟨(Sum.inr n, V.ref (A n)), List.mem_map.mpr ⟨n, h, rfl⟩, decide_eq_true rfl⟩
  rw [if_pos e]
  unfold kvT
  rw [List.map_map]
  refine List.map_congr_left fun m _ => ?_
  show (if (Sum.inr m : Key) = Sum.inr n then ((Sum.inr m : Key), V.ref p) else (Sum.inr m, V.ref (A m))) = (Sum.inr m, V.ref (atA A n p m))
  by_cases q : m = n
  · subst q
    rw [if_pos rfl, atA_at]
  · rw [if_neg (fun z => q (Sum.inr.inj z)), atA_ne q]
theorem putK_new {n : Str} {A : Str → Addr} {p : Addr} {ns : List Str} (h : n ∉ ns) : putK (kvT ns A) (Sum.inr n) (.ref p) = kvT (ns ++ [n]) (atA A n p) := by
  unfold putK
  have e : ((kvT ns A).any fun kv => decide (kv.1 = Sum.inr n)) = false := by
    rw [List.any_eq_false]
    intro kv hk q
    obtain ⟨m, hm, rfl⟩ := List.mem_map.mp hk
    exact h (Sum.inr.inj (of_decide_eq_true q) ▸ hm)
  rw [e, if_neg Bool.false_ne_true]
  unfold kvT
  rw [List.map_append]
  congr 1
  · refine List.map_congr_left fun m hm => ?_
    rw [atA_ne (fun (q : m = n) => h (q ▸ hm))]
  · show [((Sum.inr n : Key), V.ref p)] = [((Sum.inr n : Key), V.ref (atA A n p n))]
    rw [atA_at]
/-- a dict of lists -/
structure TabA (H : Hp) (d : Addr) (ns : List Str) (A : Str → Addr) (T : Str → List Str) : Prop where
  at_ : H d = some (.dK (kvT ns A))
  lst : ∀ n ∈ ns, H (A n) = some (.lst ((T n).map V.str))
theorem TabA.same {H H' : Hp} {d : Addr} {ns : List Str} {A : Str → Addr} {T : Str → List Str} (s : Same H H') (t : TabA H d ns A T) : TabA H' d ns A T := ⟨s _ _ t.at_, fun n h => s _ _ (t.lst n h)⟩
theorem TabA.congr {H : Hp} {d : Addr} {ns : List Str} {A : Str → Addr} {T T' : Str → List Str} (t : TabA H d ns A T) (e : ∀ n ∈ ns, T n = T' n) : TabA H d ns A T' := ⟨t.at_, fun n h => by rw [← e n h]; exact t.lst n h⟩
theorem TabA.get {H : Hp} {d : Addr} {ns : List Str} {A : Str → Addr} {T : Str → List Str} (t : TabA H d ns A T) {n : Str} (h : n ∈ ns) : DGet H d (.str n) (some (.ref (A n))) := by
  have q := DGet.k (k := Sum.inr n) t.at_
  rw [valV_kvT h] at q
  exact q
theorem TabA.put_old {H : Hp} {d D : Addr} {ns : List Str} {A : Str → Addr} {T : Str → List Str} (t : TabA H d ns A T) {n : Str} {l : List Str} (h : n ∈ ns) (hD : H D = some (.lst (l.map V.str))) :
    TabA (upd H d (.dK (putK (kvT ns A) (Sum.inr n) (.ref D)))) d ns (atA A n D) (fun m => if m = n then l else T m) := by
  refine ⟨by rw [upd_same, putK_old h], fun m hm => ?_⟩
  by_cases e : m = n
  · subst e
    rw [atA_at, if_pos rfl, upd_ne (ne_of hD t.at_ (by intro z; cases z))]
    exact hD
  · rw [atA_ne e, if_neg e, upd_ne (ne_of (t.lst m hm) t.at_ (by intro z; cases z))]
    exact t.lst m hm
theorem TabA.put_new {H : Hp} {d D : Addr} {ns : List Str} {A : Str → Addr} {T : Str → List Str} (t : TabA H d ns A T) {n : Str} (h : n ∉ ns) (hD : H D = some (.lst ((T n).map V.str))) :
    TabA (upd H d (.dK (putK (kvT ns A) (Sum.inr n) (.ref D)))) d (ns ++ [n]) (atA A n D) T := by
  refine ⟨by rw [upd_same, putK_new h], fun m hm => ?_⟩
  by_cases e : m = n
  · subst e
    rw [atA_at, upd_ne (ne_of hD t.at_ (by intro z; cases z))]
    exact hD
  · have hm' : m ∈ ns := (List.mem_append.mp hm).resolve_right fun q => e (List.mem_singleton.mp q)
    rw [atA_ne e, upd_ne (ne_of (t.lst m hm') t.at_ (by intro z; cases z))]
    exact t.lst m hm'
/-- the i-th name is none of those ahead -/
theorem nd_take {ns : List Str} (nd : ns.Nodup) {i : Nat} {n : Str} (h : ns[i]? = some n) : n ∉ ns.take i := fun q => by
  obtain ⟨j, hj, e⟩ := List.mem_iff_getElem.mp q
  obtain ⟨hi, e2⟩ := List.getElem?_eq_some_iff.mp h
  rw [List.length_take] at hj
  rw [List.getElem_take] at e
  have := (List.getElem_inj nd).mp (e.trans e2.symm)
  omega
theorem take_next {ns : List Str} {i : Nat} {n : Str} (h : ns[i]? = some n) : ns.take (i + 1) = ns.take i ++ [n] := by
  rw [List.take_add_one, h]
  rfl
theorem at_str {ns : List Str} {i : Nat} {x : V} (h : (ns.map V.str)[i]? = some x) : ∃ n, ns[i]? = some n ∧ x = .str n := by
  rw [List.getElem?_map] at h
  cases q : ns[i]? with
  | none => rw [q] at h; cases h
  | some n => rw [q] at h; exact ⟨n, rfl, (Option.some.inj h).symm⟩
theorem at_ref {ps : List Addr} {i : Nat} {x : V} (h : (ps.map V.ref)[i]? = some x) : ∃ p, ps[i]? = some p ∧ x = .ref p := by
  rw [List.getElem?_map] at h
  cases q : ps[i]? with
  | none => rw [q] at h; cases h
  | some n => rw [q] at h; exact ⟨n, rfl, (Option.some.inj h).symm⟩
/-- tellings as they are handed in -/
def Tells (K : PySem.W.Frag) (H : Hp) (te : Addr) (R : List (Str × Str)) : Prop := ∃ ps : List Addr, Sq K H te (ps.map V.ref) ∧ ps.length = R.length ∧
  ∀ (i : Nat) (p : Addr), ps[i]? = some p → ∃ pr, R[i]? = some pr ∧ Sq K H p [.str pr.1, .str pr.2]
theorem Tells.same {K : PySem.W.Frag} {H H' : Hp} {te : Addr} {R : List (Str × Str)} (s : Same H H') (t : Tells K H te R) : Tells K H' te R := by
  obtain ⟨ps, h1, h2, h3⟩ := t
  exact ⟨ps, h1.same s, h2, fun i p hp => let ⟨pr, e, q⟩ := h3 i p hp; ⟨pr, e, q.same s⟩⟩
theorem Tells.keep {K : PySem.W.Frag} {u : Addr} {H H' : Hp} {te : Addr} {R : List (Str × Str)} {C dx : Addr} {fs : List (Str × V)} (hu : H u = some (.ins C dx fs)) (k : ∀ b o, b ≠ u → H b = some o → H' b = some o) (t : Tells K H te R) : Tells K H' te R := by
  obtain ⟨ps, h1, h2, h3⟩ := t
  exact ⟨ps, h1.keep hu k, h2, fun i p hp => let ⟨pr, e, q⟩ := h3 i p hp; ⟨pr, e, q.keep hu k⟩⟩
theorem Tells.nil {K : PySem.W.Frag} {H : Hp} {te : Addr} (h : Sq K H te []) : Tells K H te [] := ⟨[], h, rfl, fun i p hp => by cases hp⟩
end Jd
namespace Jd
open PySem PySem.Spec PyProof.Rows L2
/-! ### _all_told -/
theorem Same_lay2 {H H' : Hp} {a : Addr} {o : HO} (s : Same H H') (n : H' a = none) : Same H (upd H' a o) := fun b u q => by
  rw [upd_ne (ne_of_none (s b u q) n)]
  exact s b u q
def retScope : List Stmt → Scope
  | [.Return (some (.DictComp _ _ _ sc _)) _] => sc
  | _ :: r => retScope r
  | [] => { kind := .function, names := [], isGenerator := false, isCoroutine := false }
def retVal : List Stmt → Expr
  | [.Return (some (.DictComp _ v _ _ _)) _] => v
  | _ :: r => retVal r
  | [] => .Name "" ⟨0, 0, 0, 0⟩
def argScope : Expr → Scope
  | .Call _ [.ListComp _ _ sc _] _ _ => sc
  | _ => { kind := .function, names := [], isGenerator := false, isCoroutine := false }
abbrev N7 : List Str := ["names", "tells", "told", "name", "teller", "other", "middle"]
/-- tuple(a sequence) -/
def rTupOf (K : PySem.W.Frag) : List V → Hp → VK → Prop := fun xs H Q => ∃ p ys, xs = [V.ref p] ∧ ((SqL K H p ys ∧ ∀ l, H l = none → Q (.ref l) (upd H l (.tup ys))) ∨ (SqT K H p ys ∧ Q (.ref p) H))
/-- the row of one name -/
def tRow (K : PySem.W.Frag) : TE := tCB (rTupOf K) (tCons (tLc (iTup K (tVar 0)) (gName 5) (tTest (tOp (rIn K false) (tVar 5) (tDGet (tVar 2) (tVar 3)))) (tVar 5) [5]) tNil)
def spAT (K : PySem.W.Frag) : Sp := fun vs H Q _ => ∃ (t te : Addr) (ns : List Str) (R : List (Str × Str)), vs = [.ref t, .ref te] ∧ SqT K H t (ns.map V.str) ∧ ns.Nodup ∧ ns.length ≤ 7 ∧ Tells K H te R ∧ R.length ≤ 64 ∧
  ∀ H' d A, Same H H' → H' d = some (.dK (kvT ns A)) → (∀ n ∈ ns, H' (A n) = some (.tup ((toldOf R ns n).map V.str))) → Q (.ref d) H'
def stT (R : List (Str × Str)) (M : List Str) : Str → List Str := M.foldl (fun T m => passT T m) (tab0 R)
theorem stT_len {R : List (Str × Str)} {M : List Str} (h1 : M.length ≤ 7) (h2 : R.length ≤ 64) (a : Str) : (stT R M a).length ≤ 8192 := by
  have q := close_len R M (tab0 R) R.length (tab0_len R) a
  have p : 2 ^ M.length ≤ 2 ^ 7 := Nat.pow_le_pow_right (by decide) h1
  have q2 : 2 ^ M.length * R.length ≤ 2 ^ 7 * 64 := Nat.mul_le_mul p h2
  exact Nat.le_trans q q2
theorem stT_next {R : List (Str × Str)} {M : List Str} {m : Str} : stT R (M ++ [m]) = passT (stT R M) m := by
  unfold stT
  rw [List.foldl_append]
  rfl
section
variable {P : Program} {w : World} {K : PySem.W.Frag} {mg : Str → Option Value} {base : Heap}
theorem sc_at : FnScope ["names", "tells", "told", "name", "teller", "other", "middle"] ["names", "tells"] (defScope s__all_told) := ⟨rfl, rfl, rfl, by decide +kernel, rfl, by decide +kernel, by decide +kernel⟩
theorem ok_all_told (B : Bk K mg) : Df P w K mg base CX0 1 "_all_told" ["names", "tells"] (spAT K) := by
  obtain ⟨fd, F⟩ := B.F_all_told
  refine ⟨⟨fd, ?_, F.binds fun _ _ _ _ _ _ us hl => match us, hl with | [_, _], _ => rfl⟩, B.g_all_told, F.kp⟩
  refine F.ok sc_at (fun vs H Q E h => ?_) (fun cdv A outer s H vs Q E hr h => ?_)
  · obtain ⟨_, _, _, _, rfl, _⟩ := h
    rfl
  · obtain ⟨t, te, ns, R, rfl, ht, nd, h7, hte, h64, k⟩ := h
    have hu := hu_of hr
    have inner := fun (s' : Shared) (H' : Hp) (C : Addr) (cl : List (Str × Addr)) (fp : List Addr) => (show PE ((cxOf CX0 P w K mg base N7 "_all_told" (defScope s__all_told) (He.ga K "_all_told") cdv A outer s H E).nox.blk s' H' (retScope (defBody s__all_told)) (compEnvC (retScope (defBody s__all_told)) cl C (cxOf CX0 P w K mg base N7 "_all_told" (defScope s__all_told) (He.ga K "_all_told") cdv A outer s H E).nox.env) fp) (retVal (defBody s__all_told)) (tRow K) from
      pe_callTy call_tuple_of (by rfl) B.b_tuple (by decide +kernel) (pa_cons (pe_lc (own := [("other", 5)]) (g := gName 5) (tt := tTest (tOp (rIn K false) (tVar 5) (tDGet (tVar 2) (tVar 3)))) rfl sc_at.nd (pi_tup (pv 0)) (blkOk_by (N := N7) (sc := relS (retScope (defBody s__all_told)) (defScope s__all_told)) (scope := argScope (retVal (defBody s__all_told))) (own := [("other", 5)]) (by decide +kernel)) (fun _ _ _ _ _ => pg_name (i := 5) sc_at.nd rfl (Or.inl rfl)) (fun _ _ _ _ _ => pts_one (pt_cmpR op_in_seq (pv 5) (pe_dget hu (pv 2) (pv 3) (fun _ _ => rfl)) (by rfl))) (fun _ _ _ _ _ => pv 5)) pa_nil))
    refine ⟨_, pss_cons (ps_set (i := 2) sc_at.nd rfl (Or.inr rfl) pe_dnewK)
      (pss_cons (ps_for PassesOwn.never rfl (pi_tup (pv 0)) (pg_name (i := 3) sc_at.nd rfl (Or.inr rfl))
        (pss_one (ps_dput hu (pv 2) (pv 3) (pe_lc (own := [("teller", 4), ("other", 5)]) (g := gSq K 2 (gCons (gName 4) (gCons (gName 5) gNil))) (tt := tTest (tOp rEq (tVar 4) (tVar 3))) rfl sc_at.nd (pi_seq (pv 1)) (blkOk_by (N := ["names", "tells", "told", "name", "teller", "other", "middle"]) (sc := defScope s__all_told) (by decide +kernel))
          (fun _ _ _ _ _ => pg_sq (pg_tup rfl (pgs_cons (pg_name (i := 4) sc_at.nd rfl (Or.inl rfl)) (pgs_cons (pg_name (i := 5) sc_at.nd rfl (Or.inl rfl)) pgs_nil))) (pg_lst rfl (pgs_cons (pg_name (i := 4) sc_at.nd rfl (Or.inl rfl)) (pgs_cons (pg_name (i := 5) sc_at.nd rfl (Or.inl rfl)) pgs_nil)))) (fun _ _ _ _ _ => pts_one (pt_cmpR op_eq (pv 4) (pv 3) (nomark _))) (fun _ _ _ _ _ => pv 5)) rfl)))
      (pss_cons (ps_for PassesOwn.never rfl (pi_tup (pv 0)) (pg_name (i := 6) sc_at.nd rfl (Or.inl rfl))
        (pss_one (ps_for PassesOwn.never rfl (pi_tup (pv 0)) (pg_name (i := 3) sc_at.nd rfl (Or.inr rfl))
          (pss_one (ps_if (pt_cmpR op_in_seq (pv 6) (pe_dget hu (pv 2) (pv 3) (fun _ _ => rfl)) (by rfl))
            (pss_one (ps_dput hu (pv 2) (pv 3) (pe_op op_cat (pe_dget hu (pv 2) (pv 3) (fun _ _ => rfl))
              (pe_lc (own := [("other", 5)]) (g := gName 5) (tt := tTest (tOp (rIn K true) (tVar 5) (tDGet (tVar 2) (tVar 3)))) rfl sc_at.nd (pi_list (pe_dget hu (pv 2) (pv 6) (fun _ _ => rfl))) (blkOk_by (N := ["names", "tells", "told", "name", "teller", "other", "middle"]) (sc := defScope s__all_told) (by decide +kernel))
                (fun _ _ _ _ _ => pg_name (i := 5) sc_at.nd rfl (Or.inl rfl)) (fun _ _ _ _ _ => pts_one (pt_cmpR op_notIn_seq (pv 5) (pe_dget hu (pv 2) (pv 3) (fun _ _ => rfl)) (by rfl))) (fun _ _ _ _ _ => pv 5))) rfl)) pss_nil)))))
      (pss_one (ps_ret (pe_dc (own := [("name", 3)]) (g := gName 3) (tt := tYes) rfl sc_at.nd (pi_tup (pv 0)) (blkOk_by (N := ["names", "tells", "told", "name", "teller", "other", "middle"]) (sc := defScope s__all_told) (by decide +kernel))
          (fun _ _ _ _ _ => pg_name (i := 3) sc_at.nd rfl (Or.inr rfl)) (fun _ _ _ _ _ => pts_nil) (fun _ _ _ _ _ => pv 3)
          inner))))), ?_⟩
    refine fun d hd => ?_
    have s0 : Same H (upd H d (.dK [])) := Same_new hd
    obtain ⟨ps, hps, pl, hpp⟩ := hte
    refine ⟨_, rfl, t, rfl, ⟨_, Same_seqT s0 ht⟩, ?_⟩
    refine for_it (walk_tup (xs := ns.map V.str)) (fun i σ H' => ∃ (v3 v4 v5 v6 : Option V) (A : Str → Addr), σ = [some (.ref t), some (.ref te), some (.ref d), v3, v4, v5, v6] ∧ Same H H' ∧ TabA H' d (ns.take i) A (tab0 R))
      ⟨Option.none, Option.none, Option.none, Option.none, fun _ => 0, rfl, s0, upd_same, fun n h => by cases h⟩ (fun i σ H' _ ⟨_, _, _, _, _, _, s1, _⟩ => Same_seqT s1 ht)
      (fun i x σ H1 H2 hi ⟨v3, v4, v5, v6, A, e, s1, ta⟩ y => ?_) (fun σ H1 ⟨v3, v4, v5, v6, A, e, s1, ta⟩ => ?_)
    · obtain ⟨rfl, hx⟩ := y
      subst e
      obtain ⟨n, hn, rfl⟩ := at_str hx
      refine ⟨_, rfl, te, _, rfl, hps.same s1, fun J G wk hG D hD => ?_⟩
      have hl : (ps.map V.ref).length ≤ sizeLine := by
        rw [List.length_map, pl]
        exact Nat.le_trans h64 (by decide)
      refine lc_fm wk (fun i => (R[i]?).bind fun pr => if pr.1 = n then some (V.str pr.2) else Option.none) hD hl (fun H' s' => hG H' s') (fun j v H3 H4 Kt Kf hj s3 y kt kf => ?_) (fun H3 s3 hD3 => ?_)
      · obtain ⟨rfl, hv⟩ := y
        obtain ⟨p, hp, rfl⟩ := at_ref hv
        obtain ⟨pr, hpr, hq⟩ := hpp j p hp
        refine ⟨p, _, rfl, hq.same (s1.trans s3), rfl, _, _, rfl, _, _, rfl, rfl, rfl, _, rfl, _, rfl, rfl, _, rfl, two (fun h1 => ?_) (fun h1 => ?_)⟩
        · have e1 : pr.1 = n := V.str.inj (of_decide_eq_true h1)
          exact ⟨_, rfl, kt _ _ (by rw [hpr]; show (if pr.1 = n then _ else _) = _; rw [if_pos e1]) (Same.refl _)⟩
        · have e1 : ¬ pr.1 = n := fun q => of_decide_eq_false h1 (by rw [q])
          exact kf _ (by rw [hpr]; show (if pr.1 = n then _ else _) = _; rw [if_neg e1]) (Same.refl _)
      · have eD : (List.range (ps.map V.ref).length).filterMap (fun i => (R[i]?).bind fun pr => if pr.1 = n then some (V.str pr.2) else Option.none) = (tab0 R n).map V.str := by
          rw [List.length_map, pl, fm_bind, fm_tab0]
        rw [eD] at hD3
        have ta3 := ta.same s3
        refine ⟨_, rfl, _, rfl, d, _, rfl, DPut.k (k := Sum.inr n) ta3.at_ (by rw [kvT_len, List.length_take]; exact Nat.lt_of_le_of_lt (Nat.le_trans (Nat.min_le_right _ _) h7) (by decide)), ?_⟩
        have q := ta3.put_new (nd_take nd hn) hD3
        rw [← take_next hn] at q
        exact ⟨_, _, _, _, _, rfl, fun b o q => by
          rw [upd_ne (ne_of_none q hd)]
          exact s3 _ _ (s1 _ _ q), q⟩
    · subst e
      have ta1 : TabA H1 d ns A (tab0 R) := by
        have q := ta
        rw [List.length_map, List.take_length] at q
        exact q
      clear ta
      refine ⟨_, rfl, t, rfl, ⟨_, Same_seqT s1 ht⟩, ?_⟩
      refine for_it (walk_tup (xs := ns.map V.str)) (fun i σ H' => ∃ (v3 v4 v5 v6 : Option V) (A : Str → Addr), σ = [some (.ref t), some (.ref te), some (.ref d), v3, v4, v5, v6] ∧ Same H H' ∧ TabA H' d ns A (stT R (ns.take i)))
        ⟨_, _, _, _, A, rfl, s1, ta1⟩ (fun i σ H' _ ⟨_, _, _, _, _, _, s1, _⟩ => Same_seqT s1 ht)
        (fun i x σ H3 H2 hi ⟨w3, w4, w5, w6, A2, e, s2, ta2⟩ y => ?_) (fun σ H3 ⟨w3, w4, w5, w6, A2, e, s2, ta2⟩ => ?_)
      · obtain ⟨rfl, hx⟩ := y
        subst e
        obtain ⟨m, hm, rfl⟩ := at_str hx
        have hmi : m ∈ ns := List.mem_of_getElem? hm
        have hT : ∀ a, (stT R (ns.take i) a).length ≤ 8192 := stT_len (by rw [List.length_take]; exact Nat.le_trans (Nat.min_le_right _ _) h7) h64
        generalize hTe : stT R (ns.take i) = T at ta2 hT
        refine ⟨_, rfl, t, rfl, ⟨_, Same_seqT s2 ht⟩, ?_⟩
        refine for_it (walk_tup (xs := ns.map V.str)) (fun j σ H' => ∃ (v3 v4 v5 : Option V) (A : Str → Addr), σ = [some (.ref t), some (.ref te), some (.ref d), v3, v4, v5, some (.str m)] ∧ Same H H' ∧ TabA H' d ns A (fun a => if a ∈ ns.take j then passT T m a else T a))
          ⟨_, _, _, A2, rfl, s2, ta2.congr fun n _ => by rw [List.take_zero, if_neg List.not_mem_nil]⟩ (fun i σ H' _ ⟨_, _, _, _, _, s1, _⟩ => Same_seqT s1 ht)
          (fun j x σ H4 H5 hj ⟨u3, u4, u5, A3, e, s4, ta4⟩ y => ?_) (fun σ H4 ⟨u3, u4, u5, A3, e, s4, ta4⟩ => ?_)
        · obtain ⟨rfl, hx⟩ := y
          subst e
          obtain ⟨n, hn, rfl⟩ := at_str hx
          have hni : n ∈ ns := List.mem_of_getElem? hn
          have nn := nd_take nd hn
          have hAn := ta4.lst n hni
          have hAm := ta4.lst m hmi
          rw [if_neg nn] at hAn
          rw [passT_self, ite_self] at hAm
          refine ⟨_, rfl, _, rfl, _, rfl, d, _, rfl, ta4.get hni, _, _, rfl, .inl (SqL.of hAn), rfl, fl_str, _, rfl, two (fun h1 => ?_) (fun h1 => ?_)⟩
          · have h1' : inV (.str m) ((T n).map V.str) = true := h1
            rw [inV_str] at h1'
            have hin : m ∈ T n := of_decide_eq_true h1'
            refine ⟨_, rfl, _, rfl, d, _, rfl, ta4.get hni, _, rfl, _, rfl, d, _, rfl, ta4.get hmi, _, rfl, ⟨_, SqL.of hAm⟩, fun D hD => ?_⟩
            have hl : ((T m).map V.str).length ≤ sizeLine := by
              rw [List.length_map]
              exact Nat.le_trans (hT m) (by decide)
            refine lc_fm (walk_list (xs := (T m).map V.str)) (fun q => ((T m)[q]?).bind fun o => if decide (o ∉ T n) = true then some (V.str o) else Option.none) hD hl (fun H' s' => sm_seqL s' (SqL.of hAm)) (fun q v H6 H7 Kt Kf hq s6 y kt kf => ?_) (fun H6 s6 hD6 => ?_)
            · obtain ⟨rfl, hv⟩ := y
              obtain ⟨o, ho, rfl⟩ := at_str hv
              refine ⟨rfl, _, rfl, _, rfl, _, rfl, d, _, rfl, (ta4.same s6).get hni, _, _, rfl, .inl (SqL.of (s6 _ _ hAn)), rfl, fl_str, _, rfl, two (fun h2 => ?_) (fun h2 => ?_)⟩
              · have h2' : (!inV (.str o) ((T n).map V.str)) = true := h2
                rw [inV_str] at h2'
                have e1 : decide (o ∉ T n) = true := by
                  rw [decide_not]
                  exact h2'
                exact ⟨_, rfl, kt _ _ (by rw [ho]; show (if decide (o ∉ T n) = true then _ else _) = _; rw [if_pos e1]) (Same.refl _)⟩
              · have h2' : (!inV (.str o) ((T n).map V.str)) = false := h2
                rw [inV_str] at h2'
                have e1 : decide (o ∉ T n) = false := by
                  rw [decide_not]
                  exact h2'
                exact kf _ (by rw [ho]; show (if decide (o ∉ T n) = true then _ else _) = _; rw [e1, if_neg Bool.false_ne_true]) (Same.refl _)
            · have eD : (List.range ((T m).map V.str).length).filterMap (fun q => ((T m)[q]?).bind fun o => if decide (o ∉ T n) = true then some (V.str o) else Option.none) = ((T m).filter fun o => decide (o ∉ T n)).map V.str := by
                rw [List.length_map, fm_bind, fm_filter]
              rw [eD] at hD6
              have lF : ((T m).filter fun o => decide (o ∉ T n)).length ≤ 8192 := Nat.le_trans (List.length_filter_le _ _) (hT m)
              refine ⟨_, _, _, _, rfl, rfl, s6 _ _ hAn, hD6, ?_, fun p hp => ?_⟩
              · rw [List.length_map, List.length_map]
                have := hT n
                have : (16384 : Nat) ≤ sizeLine := by decide
                omega
              · have ta6 := (ta4.same s6).same (Same_new (o := HO.lst ((T n).map V.str ++ ((T m).filter fun o => decide (o ∉ T n)).map V.str)) hp)
                have hP : (upd H6 p (.lst ((T n).map V.str ++ ((T m).filter fun o => decide (o ∉ T n)).map V.str))) p = some (.lst ((T n ++ (T m).filter fun o => decide (o ∉ T n)).map V.str)) := by
                  rw [upd_same, List.map_append]
                have sp : Same H (upd H6 p (.lst ((T n).map V.str ++ ((T m).filter fun o => decide (o ∉ T n)).map V.str))) := Same_lay2 (s4.trans s6) hp
                refine ⟨_, rfl, _, rfl, d, _, rfl, DPut.k (k := Sum.inr n) ta6.at_ (by rw [kvT_len]; exact Nat.lt_of_le_of_lt h7 (by decide)), ?_⟩
                have q := ta6.put_old hni hP
                refine ⟨_, _, _, _, rfl, fun b o q => by
                  rw [upd_ne (ne_of_none q hd)]
                  exact sp _ _ q, q.congr fun a ha => ?_⟩
                rw [take_next hn]
                by_cases ea : a = n
                · subst ea
                  rw [if_pos rfl, if_pos (List.mem_append.mpr (.inr (List.mem_singleton.mpr rfl)))]
                  unfold passT
                  rw [if_pos hin]
                · rw [if_neg ea]
                  by_cases eb : a ∈ ns.take j
                  · rw [if_pos eb, if_pos (List.mem_append.mpr (.inl eb))]
                  · rw [if_neg eb, if_neg fun z => (List.mem_append.mp z).elim eb fun z => ea (List.mem_singleton.mp z)]
          · have h1' : inV (.str m) ((T n).map V.str) = false := h1
            rw [inV_str] at h1'
            have hin : m ∉ T n := of_decide_eq_false h1'
            refine ⟨_, _, _, A3, rfl, s4, ta4.congr fun a ha => ?_⟩
            rw [take_next hn]
            by_cases ea : a = n
            · subst ea
              rw [if_neg nn, if_pos (List.mem_append.mpr (.inr (List.mem_singleton.mpr rfl)))]
              unfold passT
              rw [if_neg hin]
            · by_cases eb : a ∈ ns.take j
              · rw [if_pos eb, if_pos (List.mem_append.mpr (.inl eb))]
              · rw [if_neg eb, if_neg fun z => (List.mem_append.mp z).elim eb fun z => ea (List.mem_singleton.mp z)]
        · subst e
          refine ⟨_, _, _, _, A3, rfl, s4, ta4.congr fun a ha => ?_⟩
          rw [take_next hm, stT_next, hTe, List.length_map, List.take_length]
          rw [if_pos ha]
      · subst e
        have ta3 : TabA H3 d ns A2 (closeT R ns) := by
          have q := ta2
          rw [List.length_map, List.take_length] at q
          exact q
        have hT : ∀ a, (closeT R ns a).length ≤ 8192 := stT_len h7 h64
        refine ⟨_, rfl, t, rfl, ⟨_, Same_seqT s2 ht⟩, fun D hD => ?_⟩
        refine dc_tup (xs := ns.map V.str) (fun i H' => Same H3 H' ∧ ∃ A4 : Str → Addr, H' D = some (.dK (kvT (ns.take i) A4)) ∧ ∀ n ∈ ns.take i, H' (A4 n) = some (.tup ((toldOf R ns n).map V.str)))
          ⟨Same_new hD, fun _ => 0, upd_same, fun n h => by cases h⟩ (fun i H' _ ⟨s', _⟩ => Same_seqT (s2.trans s') ht) (fun i x H4 hx ⟨s4, A4, hD4, hr4⟩ => ?_) (fun H4 ⟨s4, A4, hD4, hr4⟩ => ?_)
        · obtain ⟨n, hn, rfl⟩ := at_str hx
          have hni : n ∈ ns := List.mem_of_getElem? hn
          refine ⟨rfl, ?_⟩
          refine iteT (B := ∃ z : Nat, z = 0) ?_
          have hAn := s4 _ _ (ta3.lst n hni)
          refine ⟨_, rfl, _, rfl, t, rfl, ⟨_, Same_seqT (s2.trans s4) ht⟩, fun D2 hD2 => ?_⟩
          refine lc_fm (walk_tup (xs := ns.map V.str)) (fun q => (ns[q]?).bind fun o => if decide (o ∈ closeT R ns n) = true then some (V.str o) else Option.none) hD2 (by rw [List.length_map]; exact Nat.le_trans h7 (by decide)) (fun H' s' => Same_seqT ((s2.trans s4).trans s') ht) (fun q v H5 H6 Kt Kf hq s5 y kt kf => ?_) (fun H5 s5 hD5 => ?_)
          · obtain ⟨rfl, hv⟩ := y
            obtain ⟨o, ho, rfl⟩ := at_str hv
            refine ⟨rfl, _, rfl, _, rfl, _, rfl, d, _, rfl, ((ta3.same s4).same s5).get hni, _, _, rfl, .inl (SqL.of (s5 _ _ hAn)), rfl, fl_str, _, rfl, two (fun h2 => ?_) (fun h2 => ?_)⟩
            · have h2' : inV (.str o) ((closeT R ns n).map V.str) = true := h2
              rw [inV_str] at h2'
              exact ⟨_, rfl, kt _ _ (by rw [ho]; show (if decide (o ∈ closeT R ns n) = true then _ else _) = _; rw [if_pos h2']) (Same.refl _)⟩
            · have h2' : inV (.str o) ((closeT R ns n).map V.str) = false := h2
              rw [inV_str] at h2'
              exact kf _ (by rw [ho]; show (if decide (o ∈ closeT R ns n) = true then _ else _) = _; rw [h2', if_neg Bool.false_ne_true]) (Same.refl _)
          · have eD : (List.range (ns.map V.str).length).filterMap (fun q => (ns[q]?).bind fun o => if decide (o ∈ closeT R ns n) = true then some (V.str o) else Option.none) = (toldOf R ns n).map V.str := by
              rw [List.length_map, fm_bind, fm_filter]
              rfl
            rw [eD] at hD5
            refine ⟨D2, _, rfl, .inl ⟨SqL.of hD5, fun L hL => ?_⟩⟩
            have hDL := s5 _ _ hD4
            have nDL : D ≠ L := ne_of_none hDL hL
            refine ⟨_, Sum.inr n, rfl, by rw [upd_ne nDL]; exact hDL, by rw [kvT_len, List.length_take]; exact Nat.lt_of_le_of_lt (Nat.le_trans (Nat.min_le_right _ _) h7) (by decide), ?_, atA A4 n L, ?_, ?_⟩
            · exact fun b o q => by
                have q4 := s4 _ _ q
                rw [upd_ne (ne_of_none q hD)]
                exact Same_new hL _ _ (s5 _ _ q4)
            · rw [upd_same, putK_new (nd_take nd hn), ← take_next hn]
            · intro m hm
              rw [take_next hn] at hm
              by_cases e : m = n
              · subst e
                rw [atA_at, upd_ne nDL.symm, upd_same]
              · have hm' := (List.mem_append.mp hm).resolve_right fun q => e (List.mem_singleton.mp q)
                have q4 := s5 _ _ (hr4 m hm')
                rw [atA_ne e, upd_ne (ne_of q4 hDL (by intro z; cases z)), upd_ne (ne_of_none q4 hL)]
                exact q4
        · rw [List.length_map, List.take_length] at hD4 hr4
          exact k _ _ _ (s2.trans s4) hD4 hr4
end
end Jd
namespace Jd
open PySem PySem.Spec PyProof.Rows L2
/-! ### sorted texts are told by their order -/
theorem rising_le : ∀ (l : List Str) (p : Str), risingS p l = true → ∀ y ∈ l, cd p ≤ cd y
  | [], _, _, _, h => nomatch h
  | x :: r, p, h, y, hy => by
    have h' : (!ltCps x.cps.toList p.cps.toList && risingS x r) = true := h
    rw [Bool.and_eq_true] at h'
    obtain ⟨h1, h2⟩ := h'
    have px : cd p ≤ cd x := by
      rw [ltCps_eq] at h1
      have h3 : ¬ cd x < cd p := fun q => by
        rw [decide_eq_true (show x.cps.toList < p.cps.toList from q)] at h1
        cases h1
      exact List.not_lt.mp h3
    rcases List.mem_cons.mp hy with rfl | hy
    · exact px
    · exact List.le_trans px (rising_le r x h2 y hy)
theorem sorted_pw : ∀ (l : List Str), sortedS l = true → l.Pairwise fun a b => cd a ≤ cd b
  | [], _ => List.Pairwise.nil
  | [x], _ => List.pairwise_singleton _ _
  | x :: y :: r, h => by
    have h' : risingS x (y :: r) = true := h
    have h2 : (!ltCps y.cps.toList x.cps.toList && risingS y r) = true := h
    rw [Bool.and_eq_true] at h2
    exact List.pairwise_cons.mpr ⟨rising_le _ _ h', sorted_pw (y :: r) h2.2⟩
theorem sorted_one {xs ys : List Str} (pm : xs.Perm ys) (hx : sortedS xs = true) (hy : sortedS ys = true) : xs = ys :=
  pm.eq_of_pairwise (fun a b _ _ h1 h2 => cd_ext (List.le_antisymm h1 h2)) (sorted_pw xs hx) (sorted_pw ys hy)
theorem txAll_perm : ∀ (xs acc : List Str), (xs ++ acc).Nodup → (xs.foldl txAdd acc).Perm (xs ++ acc)
  | [], acc, _ => List.Perm.refl _
  | x :: r, acc, h => by
    have h' : (x :: (r ++ acc)).Nodup := h
    obtain ⟨h1, h2⟩ := List.nodup_cons.mp h'
    have hx : x ∉ acc := fun q => h1 (List.mem_append_right _ q)
    have e : txAdd acc x = x :: acc := by unfold txAdd; rw [if_neg hx]
    show (r.foldl txAdd (txAdd acc x)).Perm (x :: (r ++ acc))
    rw [e]
    have pm : (r ++ x :: acc).Perm (x :: (r ++ acc)) := List.perm_middle
    exact (txAll_perm r (x :: acc) (pm.nodup_iff.mpr h')).trans pm
theorem nodup_perm_map {α β : Type} {f : α → β} {ys : List β} {xs : List α} (h : ys.Perm (xs.map f)) : ∃ zs : List α, ys = zs.map f ∧ zs.Perm xs := by
  have key : ∀ (as bs : List β), as.Perm bs → ∀ xs : List α, bs = xs.map f → ∃ zs : List α, as = zs.map f ∧ zs.Perm xs := by
    intro as bs pm
    induction pm with
    | nil => intro xs e; exact ⟨[], rfl, by rw [List.map_eq_nil_iff.mp e.symm]⟩
    | cons x _ ih =>
      intro xs e
      obtain ⟨a, r, rfl, rfl, er⟩ := List.map_eq_cons_iff.mp e.symm
      obtain ⟨zs, e1, p1⟩ := ih r er.symm
      exact ⟨a :: zs, by rw [e1]; rfl, p1.cons a⟩
    | swap x y l =>
      intro xs e
      obtain ⟨a, r, rfl, rfl, er⟩ := List.map_eq_cons_iff.mp e.symm
      obtain ⟨b, r2, rfl, rfl, er2⟩ := List.map_eq_cons_iff.mp er
      subst er2
      exact ⟨b :: a :: r2, rfl, List.Perm.swap a b r2⟩
    | trans _ _ ih1 ih2 =>
      intro xs e
      obtain ⟨zs, e1, p1⟩ := ih2 xs e
      obtain ⟨ws, e2, p2⟩ := ih1 zs e1
      exact ⟨ws, e2, p2.trans p1⟩
  exact key ys _ h xs rfl
end Jd
namespace Jd
open PySem PySem.Spec PyProof.Rows L2
/-! ### NoName, Keys -/
theorem passF {P : Program} {w : World} {X : Cx} : Passes (L2.CX P w) X (fun _ _ _ => False) := fun _ _ _ _ _ _ _ ⟨_, _, _, _, _, _, _, _, _, _, _, _, h⟩ => h.elim
def spNN (C : Addr) : Sp := fun vs H Q _ => ∃ (a : Addr) (v : V), vs = [.ref a, v] ∧ H a = some (exo a C none) ∧ ∀ dx, H dx = none → dx ≠ a → Q .non (upd (upd H dx (exd dx [("name", v)])) a (exo a C (some dx)))
/-- the first name of the tellings that is none -/
def firstOut (ns : List Str) : List (Str × Str) → Option Str
  | [] => none
  | p :: R => if p.1 ∈ ns then (if p.2 ∈ ns then firstOut ns R else some p.2) else some p.1
theorem out_none {ns : List Str} : ∀ {R : List (Str × Str)}, (∀ p ∈ R, p.1 ∈ ns ∧ p.2 ∈ ns) → firstOut ns R = none
  | [], _ => rfl
  | p :: R, h => by
    have q := h p List.mem_cons_self
    unfold firstOut
    rw [if_pos q.1, if_pos q.2]
    exact out_none fun p hp => h p (List.mem_cons_of_mem _ hp)
theorem out_in {ns : List Str} : ∀ {R : List (Str × Str)}, firstOut ns R = none → ∀ p ∈ R, p.1 ∈ ns ∧ p.2 ∈ ns
  | [], _, _, hp => by cases hp
  | p :: R, h, p', hp => by
    unfold firstOut at h
    split at h
    · split at h
      · rename_i h1 h2
        rcases List.mem_cons.mp hp with rfl | hp
        · exact ⟨h1, h2⟩
        · exact out_in h p' hp
      · cases h
    · cases h
theorem out_at {ns : List Str} : ∀ {R : List (Str × Str)} {i : Nat} {pr : Str × Str}, R[i]? = some pr → (∀ p ∈ R.take i, p.1 ∈ ns ∧ p.2 ∈ ns) → firstOut ns R = (if pr.1 ∈ ns then (if pr.2 ∈ ns then firstOut ns (R.drop (i + 1)) else some pr.2) else some pr.1)
  | [], i, pr, h, _ => by cases h
  | p :: R, 0, pr, h, _ => by
    cases h
    rfl
  | p :: R, i + 1, pr, h, hi => by
    have q := hi p List.mem_cons_self
    show firstOut ns (p :: R) = _
    conv => lhs; unfold firstOut
    rw [if_pos q.1, if_pos q.2]
    exact out_at (R := R) (i := i) h fun p hp => hi p (List.mem_cons_of_mem _ hp)
def KeysO (K : PySem.W.Frag) (H : Hp) (x : Addr) (ns : List Str) (t : Str → List Str) : Prop := ∃ (dx tn d : Addr) (A : Str → Addr), H x = some (.ins (He.ga K "Keys") dx [("_names", .ref tn), ("_told", .ref d)]) ∧ H tn = some (.tup (ns.map V.str)) ∧
  H d = some (.dK (kvT ns A)) ∧ (∀ n ∈ ns, H (A n) = some (.tup ((t n).map V.str))) ∧ ns.Nodup ∧ ns.length ≤ 7 ∧ (∀ n ∈ ns, PyData.strOk n = true) ∧ ∀ n ∈ ns, (t n).length ≤ 7 ∧ ∀ z ∈ t n, z ∈ ns
theorem KeysO.same {K : PySem.W.Frag} {H H' : Hp} {x : Addr} {ns : List Str} {t : Str → List Str} (h : KeysO K H x ns t) (s : Same H H') : KeysO K H' x ns t := by
  obtain ⟨dx, tn, d, A, h1, h2, h3, h4, h5⟩ := h
  exact ⟨dx, tn, d, A, s _ _ h1, s _ _ h2, s _ _ h3, fun n hn => s _ _ (h4 n hn), h5⟩
theorem KeysO.keep {K : PySem.W.Frag} {H H' : Hp} {x u : Addr} {ns : List Str} {t : Str → List Str} {xs : List V} (h : KeysO K H x ns t) (hu : H u = some (.lst xs)) (s : ∀ b o, b ≠ u → H b = some o → H' b = some o) : KeysO K H' x ns t := by
  obtain ⟨dx, tn, d, A, h1, h2, h3, h4, h5⟩ := h
  exact ⟨dx, tn, d, A, s _ _ (ne_of h1 hu (by intro z; cases z)) h1, s _ _ (ne_of h2 hu (by intro z; cases z)) h2, s _ _ (ne_of h3 hu (by intro z; cases z)) h3, fun n hn => s _ _ (ne_of (h4 n hn) hu (by intro z; cases z)) (h4 n hn), h5⟩
/-- all but the object at u is as it was -/
abbrev KeepX (u : Addr) (H H' : Hp) : Prop := ∀ b o, b ≠ u → H b = some o → H' b = some o
def ringOf (R : List (Str × Str)) (ns : List Str) : List Str := ns.filter fun n => decide (n ∈ toldOf R ns n)
def spKI (K : PySem.W.Frag) : Sp := fun vs H Q E => ∃ (x nm te dx : Addr) (names : List Str) (R : List (Str × Str)), vs = [.ref x, .ref nm, .ref te] ∧ H x = some (.ins (He.ga K "Keys") dx []) ∧ Sq K H nm (names.map V.str) ∧ names.length < 64 ∧ (txAll names).length ≤ 7 ∧ (∀ z ∈ names, PyData.strOk z = true) ∧ Tells K H te R ∧ R.length ≤ 64 ∧
  ∀ ns : List Str, ns.Perm (txAll names) → sortedS ns = true → ns.Nodup →
    (firstOut ns R = none → (ringOf R ns = [] → ∀ H', KeysO K H' x ns (toldOf R ns) → KeepX x H H' → Q .non H') ∧
      (ringOf R ns ≠ [] → ∀ H' d r, KeepX x H H' → H' d = some (.xd [("ring", .ref r)]) → H' r = some (.tup ((ringOf R ns).map V.str)) → E (.ref (He.ga K "Ringed")) (some d) H')) ∧
    (∀ z, firstOut ns R = some z → ∀ H' d, KeepX x H H' → H' d = some (.xd [("name", .str z)]) → E (.ref (He.ga K "NoName")) (some d) H')
def spVE (C : Addr) (f : Str) : Sp := fun vs H Q _ => ∃ (a : Addr) (v : V), vs = [.ref a, v] ∧ H a = some (exo a C none) ∧ ∀ dx, H dx = none → dx ≠ a → Q .non (upd (upd H dx (exd dx [(f, v)])) a (exo a C (some dx)))
section
variable {P : Program} {w : World} {K : PySem.W.Frag} {mg : Str → Option Value} {base : Heap}
theorem sc_nn : FnScope ["self", "name"] ["self", "name"] (defScope s_NoName___init__) := ⟨rfl, rfl, rfl, by decide +kernel, rfl, by decide +kernel, by decide +kernel⟩
theorem ok_nn (B : Bk K mg) : ∃ fd, FnOk P w K mg base CX0 1 (He.ma K (He.ga K "NoName") "__init__") fd ["self", "name"] (spNN (He.ga K "NoName")) ∧ Binds K fd ["self", "name"] [] := by
  obtain ⟨fd, F⟩ := B.F_NoName___init
  refine ⟨fd, ?_, F.binds fun _ _ _ _ _ _ us hl => match us, hl with | [_, _], _ => rfl⟩
  refine F.ok sc_nn (fun vs H Q E h => ?_) (fun cdv A outer s H vs Q E hr h => ?_)
  · obtain ⟨a, v, rfl, _⟩ := h
    rfl
  · obtain ⟨a, v, rfl, ha, k⟩ := h
    refine ⟨_, pss_cons (ps_expr (pe_leinit (by rfl) B.b_LookupError (by rfl) (pa_cons (pv 0) (pa_cons (pv 1) pa_nil)))) (pss_one (ps_leF (pv 0) (pv 1))), ?_⟩
    refine ⟨_, rfl, _, rfl, a, _, [v], rfl, (by show 1 ≤ 1000; decide), B.lx_NoName.1, ha, ?_⟩
    exact ⟨_, rfl, _, rfl, a, _, rfl, B.lx_NoName.1, B.nf_NoName_name, ha, fun dx n ne => k dx n ne⟩
theorem sc_rg : FnScope ["self", "ring"] ["self", "ring"] (defScope s_Ringed___init__) := ⟨rfl, rfl, rfl, by decide +kernel, rfl, by decide +kernel, by decide +kernel⟩
theorem ok_rg (B : Bk K mg) : ∃ fd, FnOk P w K mg base CX0 1 (He.ma K (He.ga K "Ringed") "__init__") fd ["self", "ring"] (spVE (He.ga K "Ringed") "ring") ∧ Binds K fd ["self", "ring"] [] := by
  obtain ⟨fd, F⟩ := B.F_Ringed___init
  refine ⟨fd, ?_, F.binds fun _ _ _ _ _ _ us hl => match us, hl with | [_, _], _ => rfl⟩
  refine F.ok sc_rg (fun vs H Q E h => ?_) (fun cdv A outer s H vs Q E hr h => ?_)
  · obtain ⟨a, v, rfl, _⟩ := h
    rfl
  · obtain ⟨a, v, rfl, ha, k⟩ := h
    refine ⟨_, pss_cons (ps_expr (pe_veinit (by rfl) B.b_ValueError (by rfl) (pa_cons (pv 0) (pa_cons (pv 1) pa_nil)))) (pss_one (ps_ost (pv 0) (pv 1))), ?_⟩
    refine ⟨_, rfl, _, rfl, a, _, [v], rfl, (by show 1 ≤ 1000; decide), B.ox_Ringed.1, ha, ?_⟩
    exact ⟨_, rfl, _, rfl, a, _, rfl, B.ox_Ringed.1, B.nf_Ringed_ring, .inl ⟨ha, fun dx n ne => k dx n ne⟩⟩
theorem sc_bl : FnScope ["self", "number"] ["self", "number"] (defScope s_BadLine___init__) := ⟨rfl, rfl, rfl, by decide +kernel, rfl, by decide +kernel, by decide +kernel⟩
theorem ok_bl (B : Bk K mg) : ∃ fd, FnOk P w K mg base CX0 1 (He.ma K (He.ga K "BadLine") "__init__") fd ["self", "number"] (spVE (He.ga K "BadLine") "number") ∧ Binds K fd ["self", "number"] [] := by
  obtain ⟨fd, F⟩ := B.F_BadLine___init
  refine ⟨fd, ?_, F.binds fun _ _ _ _ _ _ us hl => match us, hl with | [_, _], _ => rfl⟩
  refine F.ok sc_bl (fun vs H Q E h => ?_) (fun cdv A outer s H vs Q E hr h => ?_)
  · obtain ⟨a, v, rfl, _⟩ := h
    rfl
  · obtain ⟨a, v, rfl, ha, k⟩ := h
    refine ⟨_, pss_cons (ps_expr (pe_veinit (by rfl) B.b_ValueError (by rfl) (pa_cons (pv 0) (pa_cons (pv 1) pa_nil)))) (pss_one (ps_ost (pv 0) (pv 1))), ?_⟩
    refine ⟨_, rfl, _, rfl, a, _, [v], rfl, (by show 1 ≤ 1000; decide), B.ox_BadLine.1, ha, ?_⟩
    exact ⟨_, rfl, _, rfl, a, _, rfl, B.ox_BadLine.1, B.nf_BadLine_number, .inl ⟨ha, fun dx n ne => k dx n ne⟩⟩
abbrev NK : List Str := ["self", "names", "tells", "pair", "name", "ring"]
theorem sc_ki : FnScope ["self", "names", "tells", "pair", "name", "ring"] ["self", "names", "tells"] (defScope s_Keys___init__) := ⟨rfl, rfl, rfl, by decide +kernel, rfl, by decide +kernel, by decide +kernel⟩
theorem ok_Keys_init (B : Bk K mg) : ∃ fd, FnOk P w K mg base (L2.CX P w) 3 (He.ma K (He.ga K "Keys") "__init__") fd ["self", "names", "tells"] (spKI K) ∧ (∃ ds, Vals [.ref (dflA (fun K => He.ma K (He.ga K "Keys") "__init__") 0 K)] ds ∧ Binds K fd ["self", "names", "tells"] ds) ∧ FunD K "__init__" "Keys.__init__" (defArgs s_Keys___init__) (defBody s_Keys___init__) (defScope s_Keys___init__) (d_Keys___init__.dvs K) [] (He.ma K (He.ga K "Keys") "__init__") fd := by
  obtain ⟨fd, F⟩ := B.F_Keys___init
  obtain ⟨fdA, GA, bA⟩ := (ok_all_told (P := P) (w := w) (base := base) B).ex
  have kA := (ok_all_told (P := P) (w := w) (base := base) B).kp
  obtain ⟨fdE, GE, bE⟩ := ok_nn (P := P) (w := w) (base := base) B
  obtain ⟨lxc, li, lt⟩ := B.lx_NoName
  obtain ⟨fdR, GR, bR⟩ := ok_rg (P := P) (w := w) (base := base) B
  obtain ⟨oxc, oi, ot⟩ := B.ox_Ringed
  refine ⟨fd, ?_, ?_, F⟩
  · refine F.ok (CX := L2.CX P w) sc_ki (fun vs H Q E h => ?_) (fun cdv A outer s H vs Q E hr h => ?_)
    · obtain ⟨_, _, _, _, _, _, rfl, _⟩ := h
      rfl
    · obtain ⟨x, nm, te, dx, names, R, rfl, hx, hnm, n64, n7, gN, hte, h64, kk⟩ := h
      have hu := hu_of hr
      have hr1 : Room 1 _ := hr.mono (by decide)
      refine ⟨_, (pss_cons (ps_fld (pv 0) (pe_callTy call_tuple_of (by rfl) B.b_tuple (by decide +kernel) (pa_cons (pe_callB (cr_sortTx rfl) (by rfl) B.b_sorted (by decide +kernel) (pa_cons (pe_callTy (cr_setTx rfl) (by rfl) B.b_set (by decide +kernel) (pa_cons (pv 1) pa_nil)) pa_nil)) pa_nil)) rfl)
        (pss_cons (ps_for (passes_of rfl) rfl (pi_seq (pv 2)) (pg_name (i := 3) sc_ki.nd rfl (Or.inl rfl))
          (pss_one (ps_for (passes_of rfl) rfl (pi_seq (pv 3)) (pg_name (i := 4) sc_ki.nd rfl (Or.inl rfl))
            (pss_one (ps_if (pt_cmpR op_notIn_seq (pv 4) (pe_fld (pv 0) rfl) (by rfl)) (pss_one (ps_raise rfl (takes_of rfl rfl rfl rfl) (pmk_lex lxc li lt GE hr bE .nil pass0 (by rfl) B.g_NoName (pa_cons (pv 4) pa_nil)))) pss_nil)))))
        (pss_cons (ps_fld (pv 0) (pe_call GA hr1 rfl B.g_all_told kA bA .nil pass0 (pa_cons (pe_fld (pv 0) rfl) (pa_cons (pv 2) pa_nil))) rfl)
        (pss_cons (ps_set (i := 5) sc_ki.nd rfl (Or.inl rfl) (pe_callTy call_tuple_of (by rfl) B.b_tuple (by decide +kernel) (pa_cons (pe_lc (own := [("name", 4)]) (g := gName 4) (tt := tTest (tOp (rIn K false) (tVar 4) (tDGet (tFld K (tVar 0) "_told") (tVar 4)))) rfl sc_ki.nd (pi_tup (pe_fld (pv 0) rfl)) (blkOk_by (N := ["self", "names", "tells", "pair", "name", "ring"]) (sc := defScope s_Keys___init__) (by decide +kernel))
            (fun _ _ _ _ _ => pg_name (i := 4) sc_ki.nd rfl (Or.inl rfl)) (fun _ _ _ _ _ => pts_one (pt_cmpR op_in_seq (pv 4) (pe_dget hu (pe_fld (pv 0) rfl) (pv 4) (fun _ _ => rfl)) (by rfl))) (fun _ _ _ _ _ => pv 4)) pa_nil)))
        (pss_one (ps_if (pt_cmpR op_gt (pe_callB call_len_seq (by rfl) B.b_len (by decide +kernel) (pa_cons (pv 5) pa_nil)) pe_int (nomark _)) (pss_one (ps_raise rfl (takes_of rfl rfl rfl rfl) (pmk_oex oxc oi ot GR hr bR .nil pass0 (by rfl) B.g_Ringed (pa_cons (pv 5) pa_nil)))) pss_nil)))))), ?_⟩
      refine ⟨_, rfl, nm, names, rfl, hnm, n64, fun a na => ?_⟩
      refine ⟨a, _, rfl, upd_same, Nat.lt_of_le_of_lt n7 (by decide), fun ns p2 pm so nd0 np => ?_⟩
      refine ⟨p2, _, rfl, .inl ⟨SqL.of upd_same, fun t nt => ?_⟩⟩
      have nd : ns.Nodup := pm.nodup_iff.mpr nd0
      have l7 : ns.length ≤ 7 := by rw [pm.length_eq]; exact n7
      obtain ⟨kQ, kE⟩ := kk ns pm so nd
      dsimp only [cxOf, Cx.nox]
      have s1 : Same H (upd (upd (upd H a (TxO P w a (txAll names))) p2 (.lst (List.map V.str ns))) t (.tup (List.map V.str ns))) := Same_lay (Same_lay (Same_new na) np) nt
      have ht : (upd (upd (upd H a (TxO P w a (txAll names))) p2 (.lst (List.map V.str ns))) t (.tup (List.map V.str ns))) t = some (.tup (ns.map V.str)) := upd_same
      generalize (upd (upd (upd H a (TxO P w a (txAll names))) p2 (.lst (List.map V.str ns))) t (.tup (List.map V.str ns))) = H1 at s1 ht
      refine ⟨_, rfl, x, _, dx, [], rfl, s1 _ _ hx, B.cl_Keys, B.no_Keys__names, by decide, ?_⟩
      have htx : t ≠ x := ne_of ht (s1 _ _ hx) (by intro z; cases z)
      have kp2 : KeepX x H (upd H1 x (.ins (He.ga K "Keys") dx [("_names", .ref t)])) := fun b o n q => by
        rw [upd_ne n]
        exact s1 _ _ q
      have ht2 : (upd H1 x (.ins (He.ga K "Keys") dx [("_names", .ref t)])) t = some (.tup (ns.map V.str)) := by rw [upd_ne htx]; exact ht
      have hx2 : (upd H1 x (.ins (He.ga K "Keys") dx [("_names", .ref t)])) x = some (.ins (He.ga K "Keys") dx [("_names", .ref t)]) := upd_same
      have ep : putF ("_names" : Str) (V.ref t) [] = [(("_names" : Str), V.ref t)] := rfl
      rw [ep]
      generalize (upd H1 x (.ins (He.ga K "Keys") dx [("_names", .ref t)])) = H2 at kp2 ht2 hx2
      have hte2 := hte.keep hx kp2
      obtain ⟨ps, hps, pl, hpp⟩ := id hte2
      refine ⟨_, rfl, te, _, rfl, hps, fun J G wk hG => ?_⟩
      refine for_it wk (fun i σ H' => ∃ v3 v4 : Option V, σ = [some (.ref x), some (.ref nm), some (.ref te), v3, v4, Option.none] ∧ H' = H2 ∧ ∀ p ∈ R.take i, p.1 ∈ ns ∧ p.2 ∈ ns)
        ⟨_, _, rfl, rfl, fun p hp => by cases hp⟩ (fun i σ H' _ ⟨_, _, _, e, _⟩ => by rw [e]; exact hG _ fun _ _ z => z) (fun i v σ H3 H4 hi ⟨v3, v4, e, e1, hin⟩ y => ?_) (fun σ H3 ⟨v3, v4, e, e1, hin⟩ => ?_)
      · obtain ⟨rfl, hv⟩ := y
        subst e e1
        obtain ⟨p, hp, rfl⟩ := at_ref hv
        obtain ⟨pr, hpr, hq⟩ := hpp i p hp
        have oa := out_at hpr hin
        refine ⟨_, rfl, p, _, rfl, hq, fun J2 G2 wk2 hG2 => ?_⟩
        refine for_it wk2 (fun j σ H' => ∃ v4 : Option V, σ = [some (.ref x), some (.ref nm), some (.ref te), some (.ref p), v4, Option.none] ∧ H' = H4 ∧ (1 ≤ j → pr.1 ∈ ns) ∧ (2 ≤ j → pr.2 ∈ ns))
          ⟨_, rfl, rfl, fun h => absurd h (by decide), fun h => absurd h (by decide)⟩ (fun i σ H' _ ⟨_, _, e, _⟩ => by rw [e]; exact hG2 _ fun _ _ z => z) (fun j v σ H5 H6 hj ⟨v4, e, e1, g1, g2⟩ y => ?_) (fun σ H5 ⟨v4, e, e1, g1, g2⟩ => ?_)
        · obtain ⟨rfl, hv⟩ := y
          subst e e1
          obtain ⟨z, ez, hno, hyes⟩ : ∃ z : Str, v = .str z ∧ (z ∉ ns → firstOut ns R = some z) ∧ (z ∈ ns → (1 ≤ j + 1 → pr.1 ∈ ns) ∧ (2 ≤ j + 1 → pr.2 ∈ ns)) := by
            have hj2 : j < 2 := hj
            have hc : j = 0 ∨ j = 1 := by omega
            rcases hc with rfl | rfl
            · refine ⟨pr.1, (Option.some.inj hv).symm, fun h => ?_, fun h => ⟨fun _ => h, fun q => absurd q (by decide)⟩⟩
              rw [oa, if_neg h]
            · have q1 := g1 (by decide)
              refine ⟨pr.2, (Option.some.inj hv).symm, fun h => ?_, fun h => ⟨fun _ => q1, fun _ => h⟩⟩
              rw [oa, if_pos q1, if_neg h]
          subst ez
          refine ⟨_, rfl, _, rfl, x, _, dx, _, _, rfl, hx2, B.cl_Keys, B.no_Keys__names, rfl, t, _, rfl, .inr (SqT.of ht2), rfl, fl_str, _, rfl, two (fun h1 => ?_) (fun h1 => ?_)⟩
          · have h1' : (!inV (.str z) (ns.map V.str)) = true := h1
            rw [inV_str] at h1'
            have hz : z ∉ ns := fun q => by rw [decide_eq_true q] at h1'; cases h1'
            refine ⟨_, rfl, (by show 1 ≤ 1000; decide), fun a na => ⟨a, _, rfl, upd_same, fun ex nd ne => ⟨rfl, ex, [("name", .str z)], upd_same, ?_, ?_, ?_⟩⟩⟩
            · rw [upd_ne ne, upd_same]
            · rw [upd_ne ne] at nd
              exact nd
            · have nd' : H6 ex = none := by
                rw [upd_ne ne] at nd
                exact nd
              refine kE z (hno hz) _ ex (fun b o nb q => ?_) upd_same
              have q1 := kp2 b o nb q
              have nb : b ≠ a := ne_of_none q1 na
              rw [upd_ne (ne_of_none q1 nd'), del_ne nb, upd_ne nb, upd_ne (ne_of_none q1 nd'), upd_ne nb]
              exact q1
          · have h1' : (!inV (.str z) (ns.map V.str)) = false := h1
            rw [inV_str] at h1'
            have hz : z ∈ ns := by
              by_cases q : z ∈ ns
              · exact q
              · rw [decide_eq_false q] at h1'; cases h1'
            exact ⟨_, rfl, rfl, hyes hz⟩
        · subst e
          refine ⟨_, _, rfl, e1, fun p' hp' => ?_⟩
          rw [List.take_add_one, hpr] at hp'
          rcases List.mem_append.mp hp' with hp' | hp'
          · exact hin p' hp'
          · have e : p' = pr := by simpa using hp'
            subst e
            exact ⟨g1 (by show 1 ≤ 2; decide), g2 (by show 2 ≤ 2; decide)⟩
      · subst e
        cases e1
        have hall : ∀ p ∈ R, p.1 ∈ ns ∧ p.2 ∈ ns := by
          have q := hin
          rw [List.length_map, pl, List.take_length] at q
          exact q
        obtain ⟨kQ, kR⟩ := kQ (out_none hall)
        refine ⟨_, rfl, x, _, dx, _, _, rfl, hx2, B.cl_Keys, B.no_Keys__names, rfl, _, rfl, t, te, ns, R, rfl, SqT.of ht2, nd, l7, hte2, h64, fun H3 d A s3 hd hA => ?_⟩
        refine ⟨_, rfl, x, _, dx, _, rfl, s3 _ _ hx2, B.cl_Keys, B.no_Keys__told, (by show 1 < 1000; decide), ?_⟩
        have hx3 := s3 _ _ hx2
        have ht3 := s3 _ _ ht2
        have ep : putF ("_told" : Str) (V.ref d) [(("_names" : Str), V.ref t)] = [(("_names" : Str), V.ref t), (("_told" : Str), V.ref d)] := rfl
        rw [ep]
        have kp4 : KeepX x H (upd H3 x (.ins (He.ga K "Keys") dx [("_names", .ref t), ("_told", .ref d)])) := fun b o n q => by
          rw [upd_ne n]
          exact s3 _ _ (kp2 _ _ n q)
        have ht4 : (upd H3 x (.ins (He.ga K "Keys") dx [("_names", .ref t), ("_told", .ref d)])) t = some (.tup (ns.map V.str)) := by rw [upd_ne htx]; exact ht3
        have hd4 : (upd H3 x (.ins (He.ga K "Keys") dx [("_names", .ref t), ("_told", .ref d)])) d = some (.dK (kvT ns A)) := by rw [upd_ne (ne_of hd hx3 (by intro z; cases z))]; exact hd
        have hA4 : ∀ n ∈ ns, (upd H3 x (.ins (He.ga K "Keys") dx [("_names", .ref t), ("_told", .ref d)])) (A n) = some (.tup ((toldOf R ns n).map V.str)) := fun n hn => by rw [upd_ne (ne_of (hA n hn) hx3 (by intro z; cases z))]; exact hA n hn
        have hx4 : (upd H3 x (.ins (He.ga K "Keys") dx [("_names", .ref t), ("_told", .ref d)])) x = some (.ins (He.ga K "Keys") dx [("_names", .ref t), ("_told", .ref d)]) := upd_same
        generalize (upd H3 x (.ins (He.ga K "Keys") dx [("_names", .ref t), ("_told", .ref d)])) = H4 at kp4 ht4 hd4 hA4 hx4
        refine ⟨_, rfl, x, _, dx, _, _, rfl, hx4, B.cl_Keys, B.no_Keys__names, rfl, t, rfl, ⟨_, SqT.of ht4⟩, fun D hD => ?_⟩
        refine lc_fm (walk_tup (xs := ns.map V.str)) (fun i => (ns[i]?).bind fun n => if decide (n ∈ toldOf R ns n) = true then some (V.str n) else Option.none) hD (by rw [List.length_map]; exact Nat.le_trans l7 (by decide)) (fun H' s' => sm_seqT s' (SqT.of ht4)) (fun i v H5 H6 Kt Kf hi s5 y kt kf => ?_) (fun H5 s5 hD5 => ?_)
        · obtain ⟨rfl, hv⟩ := y
          obtain ⟨n, hn, rfl⟩ := at_str hv
          have hni : n ∈ ns := List.mem_of_getElem? hn
          have gd : DGet H6 d (.str n) (some (.ref (A n))) := by
            have q := DGet.k (k := Sum.inr n) (s5 _ _ hd4)
            rw [valV_kvT hni] at q
            exact q
          refine ⟨rfl, _, rfl, _, rfl, x, _, dx, _, _, rfl, s5 _ _ hx4, B.cl_Keys, B.no_Keys__told, rfl, _, rfl, d, _, rfl, gd, _, _, rfl, .inr (SqT.of (s5 _ _ (hA4 n hni))), rfl, fl_str, _, rfl, two (fun h1 => ?_) (fun h1 => ?_)⟩
          · have h1' : inV (.str n) ((toldOf R ns n).map V.str) = true := h1
            rw [inV_str] at h1'
            exact ⟨_, rfl, kt _ _ (by rw [hn]; show (if decide (n ∈ toldOf R ns n) = true then _ else _) = _; rw [if_pos h1']) (Same.refl _)⟩
          · have h1' : inV (.str n) ((toldOf R ns n).map V.str) = false := h1
            rw [inV_str] at h1'
            exact kf _ (by rw [hn]; show (if decide (n ∈ toldOf R ns n) = true then _ else _) = _; rw [if_neg (by rw [h1']; exact Bool.false_ne_true)]) (Same.refl _)
        · rw [List.length_map, fm_bind, fm_filter] at hD5
          replace hD5 : H5 D = some (.lst ((ringOf R ns).map V.str)) := hD5
          refine ⟨D, _, rfl, .inl ⟨SqL.of hD5, fun r nr => ?_⟩⟩
          have s6 : Same H4 (upd H5 r (.tup ((ringOf R ns).map V.str))) := Same_lay s5 nr
          have hr6 : (upd H5 r (.tup ((ringOf R ns).map V.str))) r = some (.tup ((ringOf R ns).map V.str)) := upd_same
          dsimp only [cxOf, Cx.nox]
          generalize (upd H5 r (.tup ((ringOf R ns).map V.str))) = H6 at s6 hr6
          refine ⟨_, rfl, r, _, rfl, .inr (SqT.of hr6), _, _, rfl, rfl, _, rfl, two (fun h1 => ?_) (fun h1 => ?_)⟩
          · have ne : ringOf R ns ≠ [] := fun z => by rw [z] at h1; cases h1
            refine ⟨_, rfl, (by show 1 ≤ 1000; decide), fun a na => ⟨a, _, rfl, upd_same, fun ex nd ne2 => ⟨rfl, ex, [("ring", .ref r)], upd_same, ?_, ?_, ?_⟩⟩⟩
            · rw [upd_ne ne2, upd_same]
            · rw [upd_ne ne2] at nd
              exact nd
            · have nd' : H6 ex = none := by
                rw [upd_ne ne2] at nd
                exact nd
              have lft : ∀ b o, H6 b = some o → (upd (del (upd (upd (upd H6 a (exo a (He.ga K "Ringed") none)) ex (exd ex [("ring", V.ref r)])) a (exo a (He.ga K "Ringed") (some ex))) a) ex (HO.xd [("ring", V.ref r)])) b = some o := fun b o q1 => by
                have nb : b ≠ a := ne_of_none q1 na
                rw [upd_ne (ne_of_none q1 nd'), del_ne nb, upd_ne nb, upd_ne (ne_of_none q1 nd'), upd_ne nb]
                exact q1
              exact kR ne _ ex r (fun b o nb q => lft _ _ (s6 _ _ (kp4 b o nb q))) upd_same (lft _ _ hr6)
          · have e0 : ringOf R ns = [] := by
              cases q : ringOf R ns with
              | nil => rfl
              | cons y l =>
                rw [q] at h1
                have h1' : decide ((0 : Int) < (((y :: l).map V.str).length : Nat)) = false := h1
                rw [List.length_map, List.length_cons] at h1'
                exact absurd (of_decide_eq_false h1') (by omega)
            exact kQ e0 _ ⟨dx, t, d, A, s6 _ _ hx4, s6 _ _ ht4, s6 _ _ hd4, fun n hn => s6 _ _ (hA4 n hn), nd, l7, fun n hn => gN n (((txAll_in names [] n).mp (pm.mem_iff.mp hn)).resolve_right List.not_mem_nil), fun n _ => ⟨Nat.le_trans (told_len R ns n) l7, fun z hz => (told_in.mp hz).1⟩⟩ (fun b o n q => s6 _ _ (kp4 _ _ n q))
  · have hd : d_Keys___init__.dvs K = [.ref (dflA (fun K => He.ma K (He.ga K "Keys") "__init__") 0 K)] := rfl
    rw [← hd]
    have q := F.binds1 (ps := ["self", "names", "tells"]) 2 0 (by rw [hd]; exact List.cons_ne_nil _ _) (by rw [hd]; rfl) (fun T kV doc pm an cdv ct us its hu hi => by
      rw [hd] at hi
      match us, its, hu, hi with
      | [_, _], [_], _, _ => exact ⟨_, rfl, rfl⟩)
    exact q
end
end Jd
namespace Jd
open PySem PySem.Spec PyProof.Rows L2
/-! ### dicts of tuples of texts compared -/
theorem eqv_strs : ∀ l m : List Str, PyData.eqvAll (l.map PyData.str) (m.map PyData.str) = decide (l = m)
  | [], [] => by simp [PyData.eqvAll]
  | [], y :: ys => by simp [PyData.eqvAll]
  | x :: xs, [] => by simp [PyData.eqvAll]
  | x :: xs, y :: ys => by
    rw [List.map_cons, List.map_cons, PyData.eqvAll, eqv_strs xs ys, PyData.eqv]
    by_cases h : x = y
    · subst h
      simp
    · have hb : (x == y) = false := by
        cases e : (x == y) with
        | false => rfl
        | true => exact absurd (eq_of_beq e) h
      rw [hb, Bool.false_and, decide_eq_false fun q => h (List.cons.inj q).1]
theorem lay_strs : ∀ l : List Str, (∀ z ∈ l, PyData.strOk z = true) → PyData.canLayAll0 (l.map PyData.str) = true
  | [], _ => by simp [PyData.canLayAll0]
  | x :: xs, h => by
    rw [List.map_cons]
    simp [PyData.canLayAll0, PyData.canLay0, lay_strs xs fun z hz => h z (List.mem_cons_of_mem _ hz), h x List.mem_cons_self]
theorem dep_strs : ∀ l : List Str, PyData.depthAll (l.map PyData.str) = 0
  | [] => by simp [PyData.depthAll]
  | x :: xs => by
    rw [List.map_cons]
    simp [PyData.depthAll, PyData.depth, dep_strs xs]
theorem dp_strs {K : PySem.W.Frag} {H : Hp} : ∀ l : List Str, DpAll K H (l.map V.str) (l.map PyData.str)
  | [] => .nil
  | x :: xs => .cons (.str x) (dp_strs xs)
def hitB (ms : List Str) (t u : Str → List Str) : List Str → Bool
  | [] => true
  | n :: r => if n ∈ ms then (decide (t n = u n) && hitB ms t u r) else false
theorem hitB_eq (ms : List Str) (t u : Str → List Str) : ∀ ns : List Str, hitB ms t u ns = decide (∀ n ∈ ns, n ∈ ms ∧ t n = u n)
  | [] => by
    unfold hitB
    exact (decide_eq_true fun n h => by cases h).symm
  | n :: r => by
    unfold hitB
    rw [hitB_eq ms t u r]
    by_cases h : n ∈ ms
    · rw [if_pos h, ← Bool.decide_and]
      refine decide_eq_decide.mpr ⟨fun q m hm => ?_, fun q => ⟨(q n List.mem_cons_self).2, fun m hm => q m (List.mem_cons_of_mem _ hm)⟩⟩
      rcases List.mem_cons.mp hm with rfl | hm
      · exact ⟨h, q.1⟩
      · exact q.2 m hm
    · rw [if_neg h]
      exact (decide_eq_false fun q => h (q n List.mem_cons_self).1).symm
def rEqT (K : PySem.W.Frag) : R2 := fun x y H Q => ∃ (a b : Addr) (ns ms : List Str) (A B : Str → Addr) (t u : Str → List Str), x = .ref a ∧ y = .ref b ∧ H a = some (.dK (kvT ns A)) ∧ H b = some (.dK (kvT ms B)) ∧
  (∀ n ∈ ns, H (A n) = some (.tup ((t n).map V.str))) ∧ (∀ n ∈ ms, H (B n) = some (.tup ((u n).map V.str))) ∧ (∀ n ∈ ns, ∀ z ∈ t n, PyData.strOk z = true) ∧ (∀ n ∈ ms, ∀ z ∈ u n, PyData.strOk z = true) ∧ Q (.bl (decide (ns.length = ms.length ∧ ∀ n ∈ ns, n ∈ ms ∧ t n = u n))) H
section
variable {X : Cx} {pins : List (Addr × Obj)} {σ : L2.St} {H : Hp} {s : Shared}
theorem hits_T (I : Inv X pins σ H s) {A0 : Around} (hu : A0.units + 1 < cLine) {ms : List Str} {A B : Str → Addr} {t u : Str → List Str} {vb : List (Key × Value)} (rb : KV (kvT ms B) vb) (hB : ∀ n ∈ ms, H (B n) = some (.tup ((u n).map V.str))) (gu : ∀ n ∈ ms, ∀ z ∈ u n, PyData.strOk z = true) :
    ∀ (ns : List Str) (va : List (Key × Value)), KV (kvT ns A) va → (∀ n ∈ ns, H (A n) = some (.tup ((t n).map V.str))) → (∀ n ∈ ns, ∀ z ∈ t n, PyData.strOk z = true) → PySem.W.KeqHitsP X.prog X.w A0 s vb va (hitB ms t u ns)
  | [], va, ra, _, _ => by
    cases ra
    exact .nil
  | n :: r, va, ra, hA, gt => by
    cases ra with
    | @cons p q ps qs h tl =>
      obtain ⟨key, v⟩ := q
      obtain ⟨h1, h2⟩ := h
      have h1' : (Sum.inr n : Key) = key := h1
      subst h1'
      cases (show v = Value.ref (A n) from h2)
      unfold hitB
      by_cases hm : n ∈ ms
      · rw [if_pos hm]
        have rr : RelO (some (V.ref (B n))) (valueAt vb (Sum.inr n)) := by
          have q := rb.val (Sum.inr n)
          rw [valV_kvT hm] at q
          exact q
        obtain ⟨y, hy, ry⟩ := rr.some_of
        cases (show y = Value.ref (B n) from ry)
        have d1 : Dp X.K H (.ref (A n)) (.tuple ((t n).map PyData.str)) := .tup (SqT.of (hA n List.mem_cons_self)) (dp_strs _)
        have d2 : Dp X.K H (.ref (B n)) (.tuple ((u n).map PyData.str)) := .tup (SqT.of (hB n hm)) (dp_strs _)
        obtain ⟨as, r1⟩ := Dp.reads I _ _ (.ref (A n)) d1 rfl
        obtain ⟨bs, r2⟩ := Dp.reads I _ _ (.ref (B n)) d2 rfl
        have e := SeqAt.eqAt_reads (.tuple ((t n).map PyData.str)) (.tuple ((u n).map PyData.str)) A0 s _ _ as bs r1 r2 (by simpa [PyData.canLay0] using lay_strs (t n) (gt n List.mem_cons_self)) (by simpa [PyData.canLay0] using lay_strs (u n) (gu n hm))
          (by
            have z1 : (PyData.tuple ((t n).map PyData.str)).depth = 1 := by simp [PyData.depth, dep_strs]
            rw [z1]
            have := Nat.min_le_left 1 (PyData.tuple ((u n).map PyData.str)).depth
            omega)
        have e2 : PyData.eqv (.tuple ((t n).map PyData.str)) (.tuple ((u n).map PyData.str)) = decide (t n = u n) := by
          rw [PyData.eqv]
          exact eqv_strs _ _
        rw [e2] at e
        exact .hit hy e.eqP (hits_T I hu rb hB gu r qs tl (fun m h => hA m (List.mem_cons_of_mem _ h)) fun m h => gt m (List.mem_cons_of_mem _ h))
      · rw [if_neg hm]
        have rr : RelO none (valueAt vb (Sum.inr n)) := by
          have q := rb.val (Sum.inr n)
          rw [valV_kvN hm] at q
          exact q
        exact .miss rr.none_of
theorem op_eqT (hu : X.A.units + 64 < cLine) : OpR X (compareOp .Eq) (rEqT X.K) := by
  intro pins s σ H x y v u Q I rx ry h
  obtain ⟨a, b, ns, ms, A, B, t, u', rfl, rfl, ha, hb, hA, hB, gt, gu, q⟩ := h
  cases (show v = Value.ref a from rx)
  cases (show u = Value.ref b from ry)
  obtain ⟨_, ya, va, ra, da⟩ := (show ObjOk X.prog X.w H s.heap a (.dK (kvT ns A)) from I.hok a _ ha)
  obtain ⟨_, yb, vb, rb, db⟩ := (show ObjOk X.prog X.w H s.heap b (.dK (kvT ms B)) from I.hok b _ hb)
  show wpAny (model X.prog X.w) X.A (richCompare .Eq (.ref a) (.ref b)) (EP X pins σ Q) X.xe s
  refine PySem.W.rcP_dicts (knd := mixKind X.prog X.w) (r := hitB ms t u' ns) ya yb da db (by omega) (fun _ => hits_T I (A0 := X.A.in1) (by show X.A.units + 1 + 1 < cLine; omega) rb hB gu ns va ra hA gt) _ _ ?_
  have e1 : va.length = ns.length := by rw [← ra.length, kvT_len]
  have e2 : vb.length = ms.length := by rw [← rb.length, kvT_len]
  have e : (va.length == vb.length && hitB ms t u' ns) = decide (ns.length = ms.length ∧ ∀ n ∈ ns, n ∈ ms ∧ t n = u' n) := by
    rw [e1, e2, hitB_eq, Bool.decide_and]
    rfl
  rw [e]
  exact ⟨.bl _, H, I, rfl, q⟩
end
end Jd
namespace Jd
open PySem PySem.Spec PyProof.Rows L2
/-! ### Keys asked -/
section
variable {J : It} {n : Nat} {G : Hp → Prop} {Y : Nat → Hp → V → Hp → Prop}
/-- a comprehension's outer walk: what a turn does is told whole -/
theorem walk_by (w : Walk J n G Y) (T : (Hp → Prop) → V → Hp → Prop) (Pv : Nat → Hp → Prop) {Z : Hp} {Qd : Hp → Prop} (h0 : Pv 0 Z) (hG : ∀ i H, Pv i H → G H)
    (hs : ∀ i x H H', i < n → Pv i H → Y i H x H' → T (Pv (i + 1)) x H') (hd : ∀ H, Pv n H → Qd H) :
    ∃ W : Nat → Nat → Hp → Prop, (∃ m, W 0 m Z) ∧ ∀ i m H, W i m H → (J.stop i H ∧ Qd H) ∨ (J.go i H ∧ ∃ Nx : Hp → Prop, (∀ H', Nx H' → ∃ m', m' < m ∧ W (i + 1) m' H') ∧ ∀ x H', J.yld i H x H' → T Nx x H') := by
  refine ⟨fun i m H => i + m = n ∧ Pv i H, ⟨n, by omega, h0⟩, fun i m H hw => ?_⟩
  obtain ⟨e, p⟩ := hw
  rcases Nat.eq_zero_or_pos m with z | z
  · have ei : i = n := by omega
    rw [ei] at p
    exact .inl ⟨by rw [ei]; exact w.stops H (hG _ _ p), hd H p⟩
  · have li : i < n := by omega
    exact .inr ⟨w.goes i H li (hG _ _ p), Pv (i + 1), fun H' q => ⟨m - 1, by omega, by omega, q⟩, fun x H' y => hs i x H H' li p (w.yields i H x H' li (hG _ _ p) y)⟩
end
/-- tuples of two texts, one behind another -/
def PrAt (H : Hp) (qs : List Addr) (prs : List (Str × Str)) : Prop := qs.length = prs.length ∧ ∀ (i : Nat) (q : Addr), qs[i]? = some q → ∃ pr, prs[i]? = some pr ∧ H q = some (.tup [.str pr.1, .str pr.2])
theorem PrAt.same {H H' : Hp} {qs : List Addr} {prs : List (Str × Str)} (h : PrAt H qs prs) (s : Same H H') : PrAt H' qs prs := ⟨h.1, fun i q hq => let ⟨pr, e, z⟩ := h.2 i q hq; ⟨pr, e, s _ _ z⟩⟩
theorem PrAt.nil {H : Hp} : PrAt H [] [] := ⟨rfl, fun i q h => by cases h⟩
theorem PrAt.snoc {H : Hp} {qs : List Addr} {prs : List (Str × Str)} {q : Addr} {pr : Str × Str} (h : PrAt H qs prs) (hq : H q = some (.tup [.str pr.1, .str pr.2])) : PrAt H (qs ++ [q]) (prs ++ [pr]) := by
  refine ⟨by rw [List.length_append, List.length_append, h.1]; rfl, fun i p hp => ?_⟩
  by_cases hi : i < qs.length
  · rw [List.getElem?_append_left hi] at hp
    obtain ⟨pr', e, z⟩ := h.2 i p hp
    exact ⟨pr', by rw [List.getElem?_append_left (by rw [← h.1]; exact hi)]; exact e, z⟩
  · rw [List.getElem?_append_right (by omega)] at hp
    have i0 : i - qs.length = 0 := by
      rcases Nat.eq_zero_or_pos (i - qs.length) with z | z
      · exact z
      · rw [List.getElem?_eq_none (by show 1 ≤ _; omega)] at hp
        cases hp
    rw [i0] at hp
    cases hp
    refine ⟨pr, ?_, hq⟩
    rw [List.getElem?_append_right (by rw [← h.1]; omega), ← h.1, i0]
    rfl
def pairsOf (ns : List Str) (t : Str → List Str) : List (Str × Str) := ns.flatMap fun n => (t n).map fun o => (n, o)
theorem pairs_len {t : Str → List Str} : ∀ {ns : List Str}, (∀ n ∈ ns, (t n).length ≤ 7) → (pairsOf ns t).length ≤ 7 * ns.length
  | [], _ => Nat.le_refl _
  | n :: r, h => by
    have q := pairs_len (ns := r) fun m hm => h m (List.mem_cons_of_mem _ hm)
    have q2 := h n List.mem_cons_self
    unfold pairsOf at q ⊢
    rw [List.flatMap_cons, List.length_append, List.length_map, List.length_cons]
    omega
theorem pairs_snoc {ns : List Str} {t : Str → List Str} {n : Str} : pairsOf (ns ++ [n]) t = pairsOf ns t ++ (t n).map fun o => (n, o) := by
  unfold pairsOf
  rw [List.flatMap_append]
  simp
def spCheck (K : PySem.W.Frag) : Sp := fun vs H Q E => ∃ (x : Addr) (z : Str) (ns : List Str) (t : Str → List Str), vs = [.ref x, .str z] ∧ KeysO K H x ns t ∧ ((z = "#" ∨ z ∈ ns) → Q .non H) ∧
  (¬ (z = "#" ∨ z ∈ ns) → ∀ H' d, Same H H' → H' d = some (.xd [("name", .str z)]) → E (.ref (He.ga K "NoName")) (some d) H')
def toldAt (ns : List Str) (t : Str → List Str) (z : Str) : List Str := if z = "#" then ns else t z
def spTold (K : PySem.W.Frag) : Sp := fun vs H Q E => ∃ (x : Addr) (z : Str) (ns : List Str) (t : Str → List Str), vs = [.ref x, .str z] ∧ KeysO K H x ns t ∧ ((z = "#" ∨ z ∈ ns) → ∀ p, H p = some (.tup ((toldAt ns t z).map V.str)) → Q (.ref p) H) ∧
  (¬ (z = "#" ∨ z ∈ ns) → ∀ H' d, Same H H' → H' d = some (.xd [("name", .str z)]) → E (.ref (He.ga K "NoName")) (some d) H')
def spTells (K : PySem.W.Frag) : Sp := fun vs H Q E => ∃ (x : Addr) (z y : Str) (ns : List Str) (t : Str → List Str), vs = [.ref x, .str z, .str y] ∧ KeysO K H x ns t ∧ ((z = "#" ∨ z ∈ ns) → (y = "#" ∨ y ∈ ns) → Q (.bl (decide (y ∈ toldAt ns t z))) H) ∧
  (∀ b : Str, (if (z = "#" ∨ z ∈ ns) then (¬ (y = "#" ∨ y ∈ ns) ∧ b = y) else b = z) → ∀ H' d, Same H H' → H' d = some (.xd [("name", .str b)]) → E (.ref (He.ga K "NoName")) (some d) H')
def spNames (K : PySem.W.Frag) : Sp := fun vs H Q _ => ∃ (x : Addr) (ns : List Str) (t : Str → List Str), vs = [.ref x] ∧ KeysO K H x ns t ∧ ∀ p, H p = some (.tup (ns.map V.str)) → Q (.ref p) H
def spPairs (K : PySem.W.Frag) : Sp := fun vs H Q _ => ∃ (x : Addr) (ns : List Str) (t : Str → List Str), vs = [.ref x] ∧ KeysO K H x ns t ∧ ∀ H' p qs, Same H H' → H' p = some (.tup (qs.map V.ref)) → PrAt H' qs (pairsOf ns t) → Q (.ref p) H'
def spHas (K : PySem.W.Frag) : Sp := fun vs H Q _ => ∃ (x : Addr) (z : Str) (ns : List Str) (t : Str → List Str), vs = [.ref x, .str z] ∧ KeysO K H x ns t ∧ Q (.bl (decide (z ∈ ns))) H
def spLenK (K : PySem.W.Frag) : Sp := fun vs H Q _ => ∃ (x : Addr) (ns : List Str) (t : Str → List Str), vs = [.ref x] ∧ KeysO K H x ns t ∧ Q (.int ns.length) H
def spEqK (K : PySem.W.Frag) : Sp := fun vs H Q _ => ∃ (x y : Addr) (ns : List Str) (t : Str → List Str), vs = [.ref x, .ref y] ∧ KeysO K H x ns t ∧
  ((∃ (ms : List Str) (u : Str → List Str), KeysO K H y ms u ∧ Q (.bl (decide (ns.length = ms.length ∧ ∀ n ∈ ns, n ∈ ms ∧ t n = u n))) H) ∨ ((∃ xs, H y = some (.tup xs)) ∧ Q (.bl false) H))
/-- a name that is none, told by its error -/
theorem rd_nn {C : Addr} {i : Nat} {σ : L2.St} {H1 : Hp} {z : Str} {E : XK} (hσ : σ[i]? = some (some (.str z))) (h : ∀ H' d, Same H1 H' → H' d = some (.xd [("name", .str z)]) → E (.ref C) (some d) H') : tMkO C (spNN C) [] (tCons (tVar i) tNil) σ H1 E := by
  refine ⟨_, hσ, (by show 1 ≤ 1000; decide), fun a na => ⟨a, _, rfl, upd_same, fun ex nd ne => ⟨rfl, ex, [("name", .str z)], upd_same, ?_, ?_, ?_⟩⟩⟩
  · rw [upd_ne ne, upd_same]
  · rw [upd_ne ne] at nd
    exact nd
  · have nd' : H1 ex = none := by
      rw [upd_ne ne] at nd
      exact nd
    refine h _ ex (fun b o q => ?_) upd_same
    have nb : b ≠ a := ne_of_none q na
    rw [upd_ne (ne_of_none q nd'), del_ne nb, upd_ne nb, upd_ne (ne_of_none q nd'), upd_ne nb]
    exact q
theorem str_eq (a b : Str) : decide (V.str a = V.str b) = decide (a = b) := decide_eq_decide.mpr ⟨V.str.inj, fun e => e ▸ rfl⟩
section
variable {P : Program} {w : World} {K : PySem.W.Frag} {mg : Str → Option Value} {base : Heap}
theorem sc_ck : FnScope ["self", "name"] ["self", "name"] (defScope s_Keys__check) := ⟨rfl, rfl, rfl, by decide +kernel, rfl, by decide +kernel, by decide +kernel⟩
theorem ok_check (B : Bk K mg) : ∃ fd, FnOk P w K mg base (L2.CX P w) 3 (He.ma K (He.ga K "Keys") "_check") fd ["self", "name"] (spCheck K) ∧ Binds K fd ["self", "name"] [] := by
  obtain ⟨fd, F⟩ := B.F_Keys__check
  obtain ⟨fdE, GE, bE⟩ := ok_nn (P := P) (w := w) (base := base) B
  obtain ⟨lxc, li, lt⟩ := B.lx_NoName
  refine ⟨fd, ?_, F.binds fun _ _ _ _ _ _ us hl => match us, hl with | [_, _], _ => rfl⟩
  refine F.okX sc_ck (fun vs H Q E h => ?_) (fun cdv A outer s H vs Q E hr h => ?_)
  · obtain ⟨_, _, _, _, rfl, _⟩ := h
    rfl
  · obtain ⟨x, z, ns, t, rfl, ⟨dx, tn, d, A, hx, ht, hd, hq⟩, k, kE⟩ := h
    refine ⟨_, pss_one (ps_if (PW.pt (pw_and (pt_cmpR op_ne (pv 1) pe_str (nomark _)) (pw_and1 (pt_cmpR op_notIn_seq (pv 1) (pe_fld (pv 0) rfl) (by rfl)))))
      (pss_one (ps_raise rfl (takes_of rfl rfl rfl rfl) (pmk_lex lxc li lt GE hr bE .nil pass0 (by rfl) B.g_NoName (pa_cons (pv 1) pa_nil)))) pss_nil), ?_⟩
    refine ⟨_, rfl, rfl, _, rfl, two (fun h1 => ?_) (fun h1 => ?_)⟩
    · refine ⟨_, rfl, _, rfl, x, _, dx, _, _, rfl, hx, B.cl_Keys, B.no_Keys__names, rfl, tn, _, rfl, .inr (SqT.of ht), rfl, fl_str, _, rfl, two (fun h2 => ?_) (fun h2 => ?_)⟩
      · have h1' : (!decide (V.str z = V.str "#")) = true := h1
        have h2' : (!inV (.str z) (ns.map V.str)) = true := h2
        rw [str_eq] at h1'
        rw [inV_str] at h2'
        have n1 : ¬ z = "#" := fun q => by rw [decide_eq_true q] at h1'; cases h1'
        have n2 : z ∉ ns := fun q => by rw [decide_eq_true q] at h2'; cases h2'
        exact rd_nn rfl (kE fun q => q.elim n1 n2)
      · have h2' : (!inV (.str z) (ns.map V.str)) = false := h2
        rw [inV_str] at h2'
        have n2 : z ∈ ns := by
          by_cases q : z ∈ ns
          · exact q
          · rw [decide_eq_false q] at h2'; cases h2'
        exact k (.inr n2)
    · have h1' : (!decide (V.str z = V.str "#")) = false := h1
      rw [str_eq] at h1'
      have n1 : z = "#" := by
        by_cases q : z = "#"
        · exact q
        · rw [decide_eq_false q] at h1'; cases h1'
      exact iteF (k (.inl n1))
theorem sc_td : FnScope ["self", "name"] ["self", "name"] (defScope s_Keys_told) := ⟨rfl, rfl, rfl, by decide +kernel, rfl, by decide +kernel, by decide +kernel⟩
theorem ok_told (B : Bk K mg) : ∃ fd, FnOk P w K mg base (L2.CX P w) 4 (He.ma K (He.ga K "Keys") "told") fd ["self", "name"] (spTold K) ∧ Fun K "told" "Keys.told" s_Keys_told (He.ma K (He.ga K "Keys") "told") fd := by
  obtain ⟨fd, F⟩ := B.F_Keys_told
  obtain ⟨fdC, GC, bC⟩ := ok_check (P := P) (w := w) (base := base) B
  refine ⟨fd, ?_, F⟩
  refine F.okX sc_td (fun vs H Q E h => ?_) (fun cdv A outer s H vs Q E hr h => ?_)
  · obtain ⟨_, _, _, _, rfl, _⟩ := h
    rfl
  · obtain ⟨x, z, ns, t, rfl, ko, k, kE⟩ := h
    have hu := hu_of hr
    refine ⟨_, pss_cons (ps_expr (pe_meth (pv 0) B.cl_Keys B.me_Keys__check GC hr bC .nil (passes_call (takes_of rfl rfl rfl rfl) (fun _ _ _ _ h => h)) (pa_cons (pv 1) pa_nil)))
      (pss_cons (ps_if (pt_cmpR op_eq (pv 1) pe_str (nomark _)) (pss_one (ps_ret (pe_fld (pv 0) rfl))) pss_nil)
      (pss_one (ps_ret (pe_dget hu (pe_fld (pv 0) rfl) (pv 1) (fun _ _ => rfl))))), ?_⟩
    obtain ⟨dx, tn, d, A, hx, ht, hd, hq, _⟩ := id ko
    refine ⟨_, rfl, x, dx, _, rfl, hx, rfl, _, rfl, x, z, ns, t, rfl, ko, fun hz => ?_, kE⟩
    have k := k hz
    refine ⟨_, rfl, rfl, _, rfl, two (fun h1 => ?_) (fun h1 => ?_)⟩
    · have h1' : decide (V.str z = V.str "#") = true := h1
      rw [str_eq] at h1'
      have e : z = "#" := of_decide_eq_true h1'
      unfold toldAt at k
      rw [if_pos e] at k
      exact ⟨_, rfl, x, _, dx, _, _, rfl, hx, B.cl_Keys, B.no_Keys__names, rfl, k tn ht⟩
    · have h1' : decide (V.str z = V.str "#") = false := h1
      rw [str_eq] at h1'
      have e : ¬ z = "#" := of_decide_eq_false h1'
      unfold toldAt at k
      rw [if_neg e] at k
      have hz2 : z ∈ ns := hz.resolve_left e
      have gd : DGet H d (.str z) (some (.ref (A z))) := by
        have q := DGet.k (k := Sum.inr z) hd
        rw [valV_kvT hz2] at q
        exact q
      exact ⟨_, rfl, x, _, dx, _, _, rfl, hx, B.cl_Keys, B.no_Keys__told, rfl, _, rfl, d, _, rfl, gd, k _ (hq z hz2)⟩
theorem sc_tl : FnScope ["self", "one", "other"] ["self", "one", "other"] (defScope s_Keys_tells) := ⟨rfl, rfl, rfl, by decide +kernel, rfl, by decide +kernel, by decide +kernel⟩
theorem ok_tells (B : Bk K mg) : ∃ fd, FnOk P w K mg base (L2.CX P w) 5 (He.ma K (He.ga K "Keys") "tells") fd ["self", "one", "other"] (spTells K) ∧ Fun K "tells" "Keys.tells" s_Keys_tells (He.ma K (He.ga K "Keys") "tells") fd := by
  obtain ⟨fd, F⟩ := B.F_Keys_tells
  obtain ⟨fdC, GC, bC⟩ := ok_check (P := P) (w := w) (base := base) B
  obtain ⟨fdT, GT, FT⟩ := ok_told (P := P) (w := w) (base := base) B
  have bT : Binds K fdT ["self", "name"] [] := FT.binds fun _ _ _ _ _ _ us hl => match us, hl with | [_, _], _ => rfl
  refine ⟨fd, ?_, F⟩
  refine F.okX sc_tl (fun vs H Q E h => ?_) (fun cdv A outer s H vs Q E hr h => ?_)
  · obtain ⟨_, _, _, _, _, rfl, _⟩ := h
    rfl
  · obtain ⟨x, z, y, ns, t, rfl, ko, k, kE⟩ := h
    have hr3 : Room 3 _ := hr.mono (by decide)
    refine ⟨_, pss_cons (ps_expr (pe_meth (pv 0) B.cl_Keys B.me_Keys__check GC hr3 bC .nil (passes_call (takes_of rfl rfl rfl rfl) (fun _ _ _ _ h => h)) (pa_cons (pv 1) pa_nil)))
      (pss_cons (ps_expr (pe_meth (pv 0) B.cl_Keys B.me_Keys__check GC hr3 bC .nil (passes_call (takes_of rfl rfl rfl rfl) (fun _ _ _ _ h => h)) (pa_cons (pv 2) pa_nil)))
      (pss_one (ps_ret (pe_cmpR op_in_seq (pv 2) (pe_meth (pv 0) B.cl_Keys B.me_Keys_told GT hr bT .nil (passes_call (takes_of rfl rfl rfl rfl) (fun _ _ _ _ h => h)) (pa_cons (pv 1) pa_nil)) (by rfl))))), ?_⟩
    obtain ⟨dx, tn, d, A, hx, _⟩ := id ko
    refine ⟨_, rfl, x, dx, _, rfl, hx, rfl, _, rfl, x, z, ns, t, rfl, ko, fun hz => ?_, fun hz => kE z (by rw [if_neg hz])⟩
    refine ⟨_, rfl, x, dx, _, rfl, hx, rfl, _, rfl, x, y, ns, t, rfl, ko, fun hy => ?_, fun hy => kE y (by rw [if_pos hz]; exact ⟨hy, rfl⟩)⟩
    refine ⟨_, rfl, _, rfl, x, dx, _, rfl, hx, rfl, _, rfl, x, z, ns, t, rfl, ko, fun _ p hp => ?_, fun h => absurd hz h⟩
    refine ⟨p, _, rfl, .inr (SqT.of hp), rfl, fl_str, ?_⟩
    show Q (.bl (inV (.str y) ((toldAt ns t z).map V.str))) H
    rw [inV_str]
    exact k hz hy
theorem sc_nm : FnScope ["self"] ["self"] (defScope s_Keys_p_names) := ⟨rfl, rfl, rfl, by decide +kernel, rfl, by decide +kernel, by decide +kernel⟩
theorem ok_names (B : Bk K mg) : ∃ fd, FnOk P w K mg base CX0 1 (propG K "Keys" "names") fd ["self"] (spNames K) ∧ Binds K fd ["self"] [] := by
  obtain ⟨fd, F⟩ := B.F_Keys_p_names
  refine ⟨fd, ?_, F.binds fun _ _ _ _ _ _ us hl => match us, hl with | [_], _ => rfl⟩
  refine F.ok sc_nm (fun vs H Q E h => ?_) (fun cdv A outer s H vs Q E hr h => ?_)
  · obtain ⟨_, _, _, rfl, _⟩ := h
    rfl
  · obtain ⟨x, ns, t, rfl, ⟨dx, tn, d, A, hx, ht, hd, hq⟩, k⟩ := h
    refine ⟨_, pss_one (ps_ret (pe_fld (pv 0) rfl)), ?_⟩
    exact ⟨_, rfl, x, _, dx, _, _, rfl, hx, B.cl_Keys, B.no_Keys__names, rfl, k tn ht⟩
theorem sc_hs : FnScope ["self", "name"] ["self", "name"] (defScope s_Keys___contains__) := ⟨rfl, rfl, rfl, by decide +kernel, rfl, by decide +kernel, by decide +kernel⟩
theorem ok_has (B : Bk K mg) : ∃ fd, FnOk P w K mg base CX0 1 (He.ma K (He.ga K "Keys") "__contains__") fd ["self", "name"] (spHas K) ∧ Binds K fd ["self", "name"] [] := by
  obtain ⟨fd, F⟩ := B.F_Keys___contains
  refine ⟨fd, ?_, F.binds fun _ _ _ _ _ _ us hl => match us, hl with | [_, _], _ => rfl⟩
  refine F.ok sc_hs (fun vs H Q E h => ?_) (fun cdv A outer s H vs Q E hr h => ?_)
  · obtain ⟨_, _, _, _, rfl, _⟩ := h
    rfl
  · obtain ⟨x, z, ns, t, rfl, ⟨dx, tn, d, A, hx, ht, hd, hq⟩, k⟩ := h
    refine ⟨_, pss_one (ps_ret (pe_cmpR op_in_seq (pv 1) (pe_fld (pv 0) rfl) (by rfl))), ?_⟩
    refine ⟨_, rfl, _, rfl, x, _, dx, _, _, rfl, hx, B.cl_Keys, B.no_Keys__names, rfl, tn, _, rfl, .inr (SqT.of ht), rfl, fl_str, ?_⟩
    show Q (.bl (inV (.str z) (ns.map V.str))) H
    rw [inV_str]
    exact k
theorem sc_ln : FnScope ["self"] ["self"] (defScope s_Keys___len__) := ⟨rfl, rfl, rfl, by decide +kernel, rfl, by decide +kernel, by decide +kernel⟩
theorem ok_lenK (B : Bk K mg) : ∃ fd, FnOk P w K mg base CX0 1 (He.ma K (He.ga K "Keys") "__len__") fd ["self"] (spLenK K) ∧ Binds K fd ["self"] [] := by
  obtain ⟨fd, F⟩ := B.F_Keys___len
  refine ⟨fd, ?_, F.binds fun _ _ _ _ _ _ us hl => match us, hl with | [_], _ => rfl⟩
  refine F.ok sc_ln (fun vs H Q E h => ?_) (fun cdv A outer s H vs Q E hr h => ?_)
  · obtain ⟨_, _, _, rfl, _⟩ := h
    rfl
  · obtain ⟨x, ns, t, rfl, ⟨dx, tn, d, A, hx, ht, hd, hq⟩, k⟩ := h
    refine ⟨_, pss_one (ps_ret (pe_callB call_len_seq (by rfl) B.b_len (by decide +kernel) (pa_cons (pe_fld (pv 0) rfl) pa_nil))), ?_⟩
    refine ⟨_, rfl, x, _, dx, _, _, rfl, hx, B.cl_Keys, B.no_Keys__names, rfl, tn, _, rfl, .inr (SqT.of ht), ?_⟩
    show Q (.int ((ns.map V.str).length : Nat)) H
    rw [List.length_map]
    exact k
theorem sc_eq : FnScope ["self", "other"] ["self", "other"] (defScope s_Keys___eq__) := ⟨rfl, rfl, rfl, by decide +kernel, rfl, by decide +kernel, by decide +kernel⟩
theorem ok_eqK (B : Bk K mg) : ∃ fd, FnOk P w K mg base CX0 1 (He.ma K (He.ga K "Keys") "__eq__") fd ["self", "other"] (spEqK K) ∧ Binds K fd ["self", "other"] [] := by
  obtain ⟨fd, F⟩ := B.F_Keys___eq
  refine ⟨fd, ?_, F.binds fun _ _ _ _ _ _ us hl => match us, hl with | [_, _], _ => rfl⟩
  refine F.ok sc_eq (fun vs H Q E h => ?_) (fun cdv A outer s H vs Q E hr h => ?_)
  · obtain ⟨_, _, _, _, rfl, _⟩ := h
    rfl
  · obtain ⟨x, y, ns, t, rfl, ⟨dx, tn, d, A, hx, ht, hd, hq, g1, g2, g3, g4⟩, h⟩ := h
    refine ⟨_, pss_one (ps_ret (pe_and (pe_callB call_isi (by rfl) B.b_isinstance (by decide +kernel) (pa_cons (pv 1) (pa_cons (pe_glob (v := .ref (He.ga K "Keys")) rfl B.g_Keys rfl) pa_nil)))
      (pe_one (pe_cmpR (op_eqT hr.units) (pe_fld (pv 0) rfl) (pe_fld (pv 1) rfl) (nomark _))))), ?_⟩
    rcases h with ⟨ms, u, ⟨ey, tm, e, B', hy, hm, he, hq', f1, f2, f3, f4⟩, k⟩ | ⟨⟨xs, hy⟩, k⟩
    · obtain ⟨ha, hn, htk, hmo⟩ := B.ty_Keys
      refine ⟨_, rfl, _, _, _, _, _, rfl, .own _, .base (.ins hy B.cl_Keys ha hn htk hmo), B.kit_Keys_Keys, _, rfl, iteT ?_⟩
      refine ⟨_, rfl, x, _, dx, _, _, rfl, hx, B.cl_Keys, B.no_Keys__told, rfl, _, rfl, y, _, ey, _, _, rfl, hy, B.cl_Keys, B.no_Keys__told, rfl, ?_⟩
      exact ⟨d, e, ns, ms, A, B', t, u, rfl, rfl, hd, he, hq, hq', fun n hn z hz => g3 z ((g4 n hn).2 z hz), fun n hn z hz => f3 z ((f4 n hn).2 z hz), k⟩
    · exact ⟨_, rfl, _, _, _, _, _, rfl, .own _, .base (.tup hy), B.kit_tuple_Keys, _, rfl, iteF k⟩
theorem sc_pr : FnScope ["self", "one", "other"] ["self"] (defScope s_Keys_p_pairs) := ⟨rfl, rfl, rfl, by decide +kernel, rfl, by decide +kernel, by decide +kernel⟩
theorem ok_pairs (B : Bk K mg) : ∃ fd, FnOk P w K mg base CX0 1 (propG K "Keys" "pairs") fd ["self"] (spPairs K) ∧ Binds K fd ["self"] [] := by
  obtain ⟨fd, F⟩ := B.F_Keys_p_pairs
  refine ⟨fd, ?_, F.binds fun _ _ _ _ _ _ us hl => match us, hl with | [_], _ => rfl⟩
  refine F.ok sc_pr (fun vs H Q E h => ?_) (fun cdv A outer s H vs Q E hr h => ?_)
  · obtain ⟨_, _, _, rfl, _⟩ := h
    rfl
  · obtain ⟨x, ns, t, rfl, ⟨dx, tn, d, A, hx, ht, hd, hq, g1, g2, g3, g4⟩, k⟩ := h
    have hu := hu_of hr
    refine ⟨_, pss_one (ps_ret (pe_callTy call_tuple_of (by rfl) B.b_tuple (by decide +kernel) (pa_cons (pe_lc2 (own := [("one", 1), ("other", 2)]) (vs1 := [2]) (g := gName 1) (g1 := gName 2) (tt := tYes) (tt1 := tYes)
          (wi1 := iTup K (tDGet (tFld K (tVar 0) "_told") (tVar 1))) rfl sc_pr.nd (pi_tup (pe_fld (pv 0) rfl)) (blkOk_by (N := ["self", "one", "other"]) (sc := defScope s_Keys_p_pairs) (by decide +kernel)) (by decide)
          (fun _ _ _ _ _ => pg_name (i := 1) sc_pr.nd rfl (Or.inl rfl)) (fun _ _ _ _ _ => pts_nil)
          (fun _ _ _ _ _ => pi_tup (pe_dget hu (pe_fld (pv 0) rfl) (pv 1) (fun _ _ => rfl))) (fun _ _ _ _ _ => pg_name (i := 2) sc_pr.nd rfl (Or.inl rfl)) (fun _ _ _ _ _ => pts_nil) (fun _ _ _ _ _ => pe_tup (pa_cons (pv 1) (pa_cons (pv 2) pa_nil)))) pa_nil))), ?_⟩
    refine ⟨_, rfl, x, _, dx, _, _, rfl, hx, B.cl_Keys, B.no_Keys__names, rfl, tn, rfl, ⟨_, SqT.of ht⟩, fun D hD => ?_⟩
    refine walk_by (walk_tup (xs := ns.map V.str)) _ (fun i H' => Same H H' ∧ i ≤ ns.length ∧ ∃ qs : List Addr, H' D = some (.lst (qs.map V.ref)) ∧ PrAt H' qs (pairsOf (ns.take i) t))
      ⟨Same_new hD, Nat.zero_le _, [], upd_same, PrAt.nil⟩ (fun i H' p => sm_seqT p.1 (SqT.of ht)) (fun i v H1 H2 hi ⟨s1, li, qs, hD1, hp1⟩ y => ?_) (fun H1 ⟨s1, _, qs, hD1, hp1⟩ => ?_)
    · obtain ⟨rfl, hv⟩ := y
      obtain ⟨n, hn, rfl⟩ := at_str hv
      have hni : n ∈ ns := List.mem_of_getElem? hn
      have gd : ∀ H', Same H H' → DGet H' d (.str n) (some (.ref (A n))) := fun H' s' => by
        have q := DGet.k (k := Sum.inr n) (s' _ _ hd)
        rw [valV_kvT hni] at q
        exact q
      have hi' : i < ns.length := by rw [List.length_map] at hi; exact hi
      refine ⟨rfl, iteT (B := Same H H2 ∧ i + 1 ≤ ns.length ∧ ∃ qs : List Addr, H2 D = some (.lst (qs.map V.ref)) ∧ PrAt H2 qs (pairsOf (ns.take (i + 1)) t)) ?_⟩
      refine ⟨_, rfl, x, _, dx, _, _, rfl, s1 _ _ hx, B.cl_Keys, B.no_Keys__told, rfl, _, rfl, d, _, rfl, gd _ s1, _, rfl, ⟨_, SqT.of (s1 _ _ (hq n hni))⟩, ?_⟩
      refine walk_by (walk_tup (xs := (t n).map V.str)) _ (fun j H' => Same H H' ∧ j ≤ (t n).length ∧ ∃ qs : List Addr, H' D = some (.lst (qs.map V.ref)) ∧ PrAt H' qs (pairsOf (ns.take i) t ++ ((t n).take j).map fun o => (n, o)))
        ⟨s1, Nat.zero_le _, qs, hD1, by rw [List.take_zero, List.map_nil, List.append_nil]; exact hp1⟩ (fun j H' p => sm_seqT p.1 (SqT.of (hq n hni))) (fun j v H3 H4 hj ⟨s3, lj, qs3, hD3, hp3⟩ y => ?_) (fun H3 ⟨s3, _, qs3, hD3, hp3⟩ => ?_)
      · obtain ⟨rfl, hv⟩ := y
        obtain ⟨o, ho, rfl⟩ := at_str hv
        have hj' : j < (t n).length := by rw [List.length_map] at hj; exact hj
        refine ⟨rfl, iteT (B := ∃ z : Nat, z = 0) ?_⟩
        refine ⟨_, rfl, _, rfl, (by show 2 ≤ sizeLine; decide), fun q nq => ?_⟩
        have s4 := Same_new (o := HO.tup [.str n, .str o]) nq
        have hD4 := s4 _ _ hD3
        have lq : qs3.length < sizeLine := by
          have z := hp3.1
          rw [List.length_append, List.length_map, List.length_take] at z
          have z2 := pairs_len (ns := ns.take i) (t := t) fun m hm => (g4 m (List.mem_of_mem_take hm)).1
          rw [List.length_take] at z2
          have z3 := (g4 n hni).1
          have : (1000 : Nat) < sizeLine := by decide
          have z4 : min i ns.length ≤ 7 := Nat.le_trans (Nat.min_le_right _ _) g2
          have z5 : min j (t n).length ≤ 7 := Nat.le_trans (Nat.min_le_right _ _) z3
          omega
        refine ⟨_, hD4, by rw [List.length_map]; exact lq, fun b o' q' => ?_, hj', qs3 ++ [q], ?_, ?_⟩
        · rw [upd_ne (ne_of_none q' hD)]
          exact s4 _ _ (s3 _ _ q')
        · rw [upd_same, List.map_append]
          rfl
        · rw [List.take_add_one, ho, List.map_append, ← List.append_assoc]
          have nqD : q ≠ D := fun z => by rw [z, hD3] at nq; cases nq
          refine PrAt.snoc (pr := (n, o)) ⟨hp3.1, fun i' p hp => ?_⟩ (by rw [upd_ne nqD, upd_same])
          obtain ⟨pr, e1, e2⟩ := hp3.2 i' p hp
          refine ⟨pr, e1, ?_⟩
          have e3 := s4 _ _ e2
          rw [upd_ne (ne_of e3 hD4 (by intro z; cases z))]
          exact e3
      · refine ⟨s3, hi', qs3, hD3, ?_⟩
        rw [List.length_map, List.take_length, ← pairs_snoc, ← take_next hn] at hp3
        exact hp3
    · refine ⟨D, _, rfl, .inl ⟨SqL.of hD1, fun r nr => ?_⟩⟩
      rw [List.length_map, List.take_length] at hp1
      exact k _ r qs (Same_lay s1 nr) upd_same (hp1.same (Same_new nr))
end
end Jd
namespace Jd
open PySem PySem.Spec PyProof.Rows L2
/-! ### the urn -/
/-- all but the object at u is as it was -/
def Keep (u : Addr) (H H' : Hp) : Prop := ∀ b o, b ≠ u → H b = some o → H' b = some o
theorem Keep.trans {u : Addr} {H H1 H2 : Hp} (a : Keep u H H1) (b : Keep u H1 H2) : Keep u H H2 := fun c o n h => b c o n (a c o n h)
theorem Keep.refl (u : Addr) (H : Hp) : Keep u H H := fun _ _ _ h => h
theorem Same.keep {u : Addr} {H H' : Hp} (s : Same H H') : Keep u H H' := fun b o _ h => s b o h
theorem Keep_upd {u : Addr} {H : Hp} {o : HO} : Keep u H (upd H u o) := fun b q n h => by rw [upd_ne n]; exact h
theorem Keep.at {u : Addr} {H H' : Hp} (k : Keep u H H') {b : Addr} {o : HO} (h : H b = some o) (n : b ≠ u) : H' b = some o := k b o n h
def Urn (H : Hp) (u : Addr) (n : Nat) : Prop := ∃ a b c : Int, H u = some (.lst [.int a, .int b, .int c]) ∧ 0 ≤ c ∧ c ≤ (n : Int)
theorem Urn.same {H H' : Hp} {u : Addr} {n : Nat} (h : Urn H u n) (s : Same H H') : Urn H' u n := by
  obtain ⟨a, b, c, h, h1⟩ := h
  exact ⟨a, b, c, s _ _ h, h1⟩
theorem Urn.some {H : Hp} {u : Addr} {n : Nat} (h : Urn H u n) : ∃ o, H u = some o := by
  obtain ⟨a, b, c, h, h1⟩ := h
  exact ⟨_, h⟩
theorem Urn.le {H : Hp} {u : Addr} {n m : Nat} (h : Urn H u n) (l : n ≤ m) : Urn H u m := by
  obtain ⟨a, b, c, h, h1, h2⟩ := h
  exact ⟨a, b, c, h, h1, by omega⟩
def spTake : Sp := fun vs H Q _ => ∃ (u : Addr) (lo : Int) (n : Nat), vs = [.ref u, .int lo] ∧ Urn H u n ∧ n < 100000 ∧ 0 < lo ∧ lo < 1073741824 ∧
  ∀ r H', 0 ≤ r → r < lo → Urn H' u (n + 1) → Keep u H H' → Q (.int r) H'
section
variable {P : Program} {w : World} {K : PySem.W.Frag} {mg : Str → Option Value} {base : Heap}
theorem sc_take : FnScope ["_law_urn", "_law_low_so", "_law_drawn", "_law_once", "_law_far", "_law_both_so"] ["_law_urn", "_law_low_so"] (defScope s__law_take) := ⟨rfl, rfl, rfl, by decide +kernel, rfl, by decide +kernel, by decide +kernel⟩
theorem ok_law_take (B : Bk K mg) : Df P w K mg base CX0 1 "_law_take" ["_law_urn", "_law_low_so"] spTake := by
  obtain ⟨fd, F⟩ := B.F_law_take
  refine ⟨⟨fd, ?_, F.binds fun _ _ _ _ _ _ us hl => match us, hl with | [_, _], _ => rfl⟩, B.g_law_take, F.kp⟩
  refine F.ok sc_take (fun vs H Q E h => ?_) (fun cdv A outer s H vs Q E hr h => ?_)
  · obtain ⟨u, lo, n, rfl, _⟩ := h
    rfl
  · obtain ⟨u, lo, n, rfl, ⟨a, b, c, hu, c0, c1⟩, hn, l0, l1, k⟩ := h
    refine ⟨_, pss_cons (ps_if (pt_cmpR op_gt (pe_ix ix_list (pv 0) pe_int (fun _ _ => rfl)) pe_int (nomark _))
        (pss_cons (ps_set (i := 2) sc_take.nd rfl (Or.inl rfl) (pe_op op_mod (pe_callTy call_int1 (by rfl) B.b_int (by decide +kernel) (pa_cons (pe_ix ix_list (pv 0) pe_int (fun _ _ => rfl)) pa_nil)) (pv 1)))
        (pss_cons (ps_asg (pe_op op_fdiv (pe_ix ix_list (pv 0) pe_int (fun _ _ => rfl)) (pv 1)) (pg_sub (pv 0) pe_int set_list))
        (pss_one (ps_ret (pv 2))))) pss_nil)
      (pss_cons (ps_asg (pe_op op_add (pe_ix ix_list (pv 0) pe_int (fun _ _ => rfl)) pe_int) (pg_sub (pv 0) pe_int set_list))
      (pss_cons (ps_set (i := 3) sc_take.nd rfl (Or.inl rfl) (pe_op op_mod (pe_callTy call_int1 (by rfl) B.b_int (by decide +kernel) (pa_cons (pe_op op_mul (pe_op op_add (pe_ix ix_list (pv 0) pe_int (fun _ _ => rfl)) (pe_op op_mul pe_int (pe_ix ix_list (pv 0) pe_int (fun _ _ => rfl)))) (pe_op op_add pe_int (pe_ix ix_list (pv 0) pe_int (fun _ _ => rfl)))) pa_nil)) pe_int))
      (pss_cons (ps_set (i := 4) sc_take.nd rfl (Or.inl rfl) (pe_op op_add (pe_op op_mod (pe_callTy call_int1 (by rfl) B.b_int (by decide +kernel) (pa_cons (pv 3) pa_nil)) pe_int) pe_int))
      (pss_cons (ps_set (i := 5) sc_take.nd rfl (Or.inl rfl) (pe_op op_mod (pe_callTy call_int1 (by rfl) B.b_int (by decide +kernel) (pa_cons (pe_op op_mul (pe_op op_add (pe_op op_add (pv 3) (pe_ix ix_list (pv 0) pe_int (fun _ _ => rfl))) (pe_op op_fdiv (pe_ix ix_list (pv 0) pe_int (fun _ _ => rfl)) pe_int)) (pv 4)) pa_nil)) pe_int))
      (pss_one (ps_ret (pe_op op_mod (pe_callTy call_int1 (by rfl) B.b_int (by decide +kernel) (pa_cons (pe_op op_fdiv (pe_op op_mod (pe_callTy call_int1 (by rfl) B.b_int (by decide +kernel) (pa_cons (pe_op op_add (pe_op op_mul (pv 5) pe_int) (pv 3)) pa_nil)) pe_int) pe_int) pa_nil)) (pv 1)))))))), ?_⟩
    have L : SqL K H u [.int a, .int b, .int c] := SqL.of hu
    refine ⟨_, rfl, _, _, _, _, rfl, rfl, L, rfl, _, _, rfl, rfl, _, rfl, two (fun h1 => ?_) (fun h1 => ?_)⟩
    · refine ⟨_, rfl, _, _, _, _, rfl, rfl, L, rfl, .inl ⟨_, rfl, _, rfl, _, _, rfl, rfl, l0, ?_⟩⟩
      refine ⟨_, rfl, _, _, _, _, rfl, rfl, L, rfl, _, rfl, _, _, rfl, rfl, ⟨l0, l1⟩, _, rfl, u, _, _, 0, rfl, rfl, hu, rfl, ?_⟩
      refine ⟨_, rfl, k _ _ (Int.emod_nonneg _ (by omega)) (Int.emod_lt_of_pos _ l0) ⟨a / lo, b, c, upd_same, c0, by omega⟩ Keep_upd⟩
    · refine ⟨_, rfl, _, _, _, _, rfl, rfl, L, rfl, _, _, rfl, rfl, _, rfl, u, _, _, 2, rfl, rfl, hu, rfl, ?_⟩
      have L2 : SqL K (upd H u (.lst [.int a, .int b, .int (c + 1)])) u [.int a, .int b, .int (c + 1)] := SqL.of upd_same
      refine ⟨_, rfl, _, _, _, _, rfl, rfl, L2, rfl, _, rfl, _, _, _, _, rfl, rfl, L2, rfl, _, _, rfl, rfl, .inl ⟨by decide, by decide⟩, _, _, rfl, rfl, _, rfl, _, _, _, _, rfl, rfl, L2, rfl, _, _, rfl, rfl, _, _, rfl, rfl, .inr ⟨?_, ?_⟩, .inl ⟨_, rfl, _, _, rfl, rfl, (show (0 : Int) < 2147483647 by decide), ?_⟩⟩
      · show -(2 ^ 64) < (39373 : Int) + (c + 1)
        omega
      · show (39373 : Int) + (c + 1) < 2 ^ 64
        omega
      · refine ⟨_, rfl, .inl ⟨_, rfl, _, _, rfl, rfl, (show (0 : Int) < 40009 by decide), _, _, rfl, rfl, ?_⟩⟩
        refine ⟨_, rfl, _, rfl, _, _, _, _, rfl, rfl, L2, rfl, _, _, rfl, rfl, _, rfl, _, _, _, _, rfl, rfl, L2, rfl, _, _, rfl, rfl, ⟨by decide, by decide⟩, _, _, rfl, rfl, _, rfl, _, _, rfl, rfl, .inr ⟨?_, ?_⟩, .inl ⟨_, rfl, _, _, rfl, rfl, (show (0 : Int) < 2147483629 by decide), ?_⟩⟩
        · have q := Int.emod_nonneg (((b : Int) + 48271 * (c + 1)) * (39373 + (c + 1)) % 2147483647) (show (40009 : Int) ≠ 0 by decide)
          show -(2 ^ 64) < ((b : Int) + 48271 * (c + 1)) * (39373 + (c + 1)) % 2147483647 % 40009 + 7
          omega
        · have q := Int.emod_lt_of_pos (((b : Int) + 48271 * (c + 1)) * (39373 + (c + 1)) % 2147483647) (show (0 : Int) < 40009 by decide)
          show ((b : Int) + 48271 * (c + 1)) * (39373 + (c + 1)) % 2147483647 % 40009 + 7 < 2 ^ 64
          omega
        · refine ⟨_, rfl, _, _, rfl, rfl, .inr ⟨by decide, by decide⟩, _, rfl, _, _, rfl, rfl, .inl ⟨_, rfl, _, _, rfl, rfl, (show (0 : Int) < 2147483587 by decide), _, _, rfl, rfl, ⟨by decide, by decide⟩, .inl ⟨_, rfl, _, rfl, _, _, rfl, rfl, l0, ?_⟩⟩⟩
          exact k _ _ (Int.emod_nonneg _ (by omega)) (Int.emod_lt_of_pos _ l0) ⟨a, b, c + 1, upd_same, by omega, by omega⟩ Keep_upd
end
end Jd
namespace Jd
open PySem PySem.Spec PyProof.Rows L2
/-! ### box, cells -/
theorem cut_to (xs : List V) (k : Nat) : cutV xs none (some (k : Int)) = xs.take k := by
  unfold cutV
  rw [HT.sIx_none, HT.sIx_nat, List.drop_zero, Nat.sub_zero]
  by_cases h : k ≤ xs.length
  · rw [Nat.min_eq_left h]
  · rw [Nat.min_eq_right (by omega), List.take_of_length_le (Nat.le_refl _), List.take_of_length_le (by omega)]
theorem cut_of (xs : List V) (a b : Nat) : cutV xs (some (a : Int)) (some (b : Int)) = (xs.drop (min a xs.length)).take (min b xs.length - min a xs.length) := by
  unfold cutV
  rw [HT.sIx_nat, HT.sIx_nat]
theorem b01 (b : Bool) : -(2 ^ 64) < (if b then (1 : Int) else 0) ∧ (if b then (1 : Int) else 0) < 2 ^ 64 := by
  cases b <;> decide
/-- an expression's ways are joined -/
theorem pe_cut {X : Cx} {e : Expr} {t : TE} (h : PE X e t) : PE X e (fun σ H Q => ∃ Q0 : VK, t σ H Q0 ∧ ∀ x H1, Q0 x H1 → Q x H1) :=
  ⟨fun pins s σ H Q I ⟨Q0, h0, h1⟩ => wpAny_mono (h.run pins s σ H Q0 I h0) (fun u s1 ⟨v, H1, I1, r, q⟩ => ⟨v, H1, I1, r, h1 v H1 q⟩) (fun _ _ x => x)⟩
/-- a statement's ways are joined -/
theorem ps_cut {X : Cx} {st : Stmt} {t : TS} (h : PS X st t) : PS X st (fun D σ H => ∃ N : L2.St → Hp → Prop, t { D with nx := N } σ H ∧ ∀ σ' H', N σ' H' → D.nx σ' H') := by
  refine ⟨fun pins s σ H D I ⟨N, h0, h1⟩ => wpAny_mono (h.run pins s σ H { D with nx := N } I h0) (fun f s1 q => ?_) (fun _ _ x => x)⟩
  cases f with
  | next =>
    obtain ⟨σ', H', I', q⟩ := q
    exact ⟨σ', H', I', h1 σ' H' q⟩
  | brk => exact q
  | cont => exact q
  | ret u => exact q
def spBox (K : PySem.W.Frag) : Sp := fun vs H Q _ => ∃ (a : Addr) (ns : List Int) (k : Nat), vs = [.ref a, .int (k : Int)] ∧ SqL K H a (ns.map V.int) ∧ k < ns.length ∧ k < 1000 ∧ ∀ H' p, Same H H' → H p = none → Urn H' p 0 → Q (.ref p) H'
def spCells (K : PySem.W.Frag) : Sp := fun vs H Q _ => ∃ (a : Addr) (ns : List Int), vs = [.ref a, .int 3] ∧ SqL K H a (ns.map V.int) ∧ ns.length ≤ 63 ∧
  ∀ (H' : Hp) (p : Addr) (ms : List Int), Same H H' → H p = none → H' p = some (.lst (ms.map V.int)) → 1 ≤ ms.length → ms.length ≤ 3 → Q (.ref p) H'
section
variable {P : Program} {w : World} {K : PySem.W.Frag} {mg : Str → Option Value} {base : Heap}
theorem sc_box : FnScope ["_law_script", "_law_k", "_law_cell"] ["_law_script", "_law_k"] (defScope s__law_box) := ⟨rfl, rfl, rfl, by decide +kernel, rfl, by decide +kernel, by decide +kernel⟩
theorem ok_law_box (B : Bk K mg) : Df P w K mg base CX0 1 "_law_box" ["_law_script", "_law_k"] (spBox K) := by
  obtain ⟨fd, F⟩ := B.F_law_box
  refine ⟨⟨fd, ?_, F.binds fun _ _ _ _ _ _ us hl => match us, hl with | [_, _], _ => rfl⟩, B.g_law_box, F.kp⟩
  refine F.ok sc_box (fun vs H Q E h => ?_) (fun cdv A outer s H vs Q E hr h => ?_)
  · obtain ⟨u, lo, n, rfl, _⟩ := h
    rfl
  · obtain ⟨a, ns, k, rfl, hs, hk, hk2, kq⟩ := h
    refine ⟨_, pss_cons (ps_set (i := 2) sc_box.nd rfl (Or.inl rfl) (pe_ifExp (pt_cmpR op_lt (pv 1) (pe_callB call_len (by rfl) B.b_len (by decide +kernel) (pa_cons (pv 0) pa_nil)) (nomark _)) (pe_ix ix_list (pv 0) (pv 1) (fun _ _ => rfl)) pe_int))
      (pss_one (ps_ret (pe_lst (pa_cons (pe_op op_mul (pe_callB call_abs (by rfl) B.b_abs (by decide +kernel) (pa_cons (pv 2) pa_nil)) (pe_callTy call_int1 (by rfl) B.b_int (by decide +kernel) (pa_cons (pe_cmpR op_ge (pe_callB call_abs (by rfl) B.b_abs (by decide +kernel) (pa_cons (pv 2) pa_nil)) (pe_op op_pow pe_int pe_int) (nomark _)) pa_nil)))
        (pa_cons (pe_op op_add (pe_op op_add (pe_op op_mod (pe_callTy call_int1 (by rfl) B.b_int (by decide +kernel) (pa_cons (pv 2) pa_nil)) pe_int) (pe_op op_mul pe_int (pv 1))) pe_int) (pa_cons pe_int pa_nil)))))), ?_⟩
    obtain ⟨x, hx⟩ : ∃ x, ns[k]? = some x := ⟨ns[k], List.getElem?_eq_getElem hk⟩
    have hx2 : atI (ns.map V.int) (k : Int) = some (V.int x) := at_of rfl (by rw [List.getElem?_map, hx]; rfl)
    refine ⟨_, rfl, _, rfl, _, _, rfl, .inl ⟨_, hs, rfl⟩, _, _, rfl, rfl, _, rfl, ?_⟩
    have c1 : decide ((k : Int) < ((ns.map V.int).length : Int)) = true := decide_eq_true (by rw [List.length_map]; omega)
    show if decide ((k : Int) < ((ns.map V.int).length : Int)) = true then _ else _
    rw [c1]
    refine iteT ?_
    refine ⟨_, rfl, _, rfl, _, _, _, _, rfl, rfl, hs, hx2, ?_⟩
    refine ⟨_, rfl, _, rfl, _, rfl, _, rfl, _, _, rfl, rfl, ⟨by decide, by decide, by decide⟩, _, _, rfl, rfl, .inr ⟨_, rfl, _, _, rfl, rfl, .inr (b01 _), ?_⟩⟩
    · refine ⟨_, rfl, .inl ⟨_, rfl, _, _, rfl, rfl, (show (0 : Int) < 2305843009213693951 by decide), _, rfl, _, _, rfl, rfl, .inl ⟨by decide, by decide⟩, _, _, rfl, rfl, _, _, rfl, rfl, ?_⟩⟩
      refine ⟨(by show 3 ≤ sizeLine; decide), fun p hp => ?_⟩
      exact kq _ p (Same_new hp) hp ⟨_, _, _, upd_same, by omega, by omega⟩
theorem sc_cells : FnScope ["_law_script", "_law_top", "_law_cells_here", "_law_k", "_law_cell", "_law_at_so"] ["_law_script", "_law_top"] (defScope s__law_cells) := ⟨rfl, rfl, rfl, by decide +kernel, rfl, by decide +kernel, by decide +kernel⟩
theorem ok_law_cells (B : Bk K mg) : Df P w K mg base CX0 1 "_law_cells" ["_law_script", "_law_top"] (spCells K) := by
  obtain ⟨fd, F⟩ := B.F_law_cells
  refine ⟨⟨fd, ?_, F.binds fun _ _ _ _ _ _ us hl => match us, hl with | [_, _], _ => rfl⟩, B.g_law_cells, F.kp⟩
  refine F.ok sc_cells (fun vs H Q E h => ?_) (fun cdv A outer s H vs Q E hr h => ?_)
  · obtain ⟨u, lo, rfl, _⟩ := h
    rfl
  · obtain ⟨a, ns, rfl, hs, hk, kq⟩ := h
    refine ⟨_, pss_cons (ps_set (i := 2) sc_cells.nd rfl (Or.inl rfl) (pe_cut (pe_orT (pe_callTy call_list_of (by rfl) B.b_list (by decide +kernel) (pa_cons (pe_slice sl_list (pv 0) po_none (po_some (pv 1))) pa_nil)) (pe_one (pe_lst (pa_cons pe_int pa_nil))))))
      (pss_cons (ps_for PassesOwn.never rfl (pi_enum (by rfl) B.b_enumerate (pa_cons (pe_slice sl_list (pv 0) (po_some (pv 1)) (po_some pe_int)) pa_nil)) (pg_tup rfl (pgs_cons (pg_name (i := 3) sc_cells.nd rfl (.inl rfl)) (pgs_cons (pg_name (i := 4) sc_cells.nd rfl (.inl rfl)) pgs_nil)))
        (pss_cons (ps_set (i := 5) sc_cells.nd rfl (Or.inl rfl) (pe_op op_mod (pe_callTy call_int1 (by rfl) B.b_int (by decide +kernel) (pa_cons (pv 3) pa_nil)) (pv 1)))
        (pss_one (ps_asg (pe_op op_add (pe_ix ix_list (pv 2) (pv 5) (fun _ _ => rfl)) (pe_op op_mul (pv 4) (pe_op op_add (pv 3) pe_int))) (pg_sub (pv 2) (pv 5) set_list)))))
      (pss_one (ps_ret (pv 2)))), ?_⟩
    refine ⟨fun x H1 => ∃ (p : Addr) (ms : List Int), x = .ref p ∧ Same H H1 ∧ H p = none ∧ H1 p = some (.lst (ms.map V.int)) ∧ 1 ≤ ms.length ∧ ms.length ≤ 3 ∧ (3 < ns.length → ms.length = 3), ?_, ?_⟩
    · refine ⟨_, rfl, _, rfl, _, rfl, a, _, rfl, hs, fun q hq => ⟨_, _, rfl, .inl (SqL.of upd_same), fun l hl => ?_⟩⟩
      have sl : Same H (upd (upd H q (.lst (cutV (ns.map V.int) none (some (3 : Int))))) l (.lst (cutV (ns.map V.int) none (some (3 : Int))))) := Same_lay (Same_new hq) hl
      have nl : H l = none := (Same_new hq).free hl
      have ec : cutV (ns.map V.int) none (some (3 : Int)) = (ns.take 3).map V.int := by
        rw [show (3 : Int) = ((3 : Nat) : Int) from rfl, cut_to, List.map_take]
      refine ⟨_, .inl ⟨_, SqL.of upd_same, rfl⟩, two (fun h1 => ?_) (fun h1 => ?_)⟩
      · refine ⟨l, ns.take 3, rfl, sl, nl, by rw [upd_same, ec], ?_, by rw [List.length_take]; omega, fun h => by rw [List.length_take]; omega⟩
        have h1' : (!(cutV (ns.map V.int) none (some (3 : Int))).isEmpty) = true := h1
        rw [ec] at h1'
        cases hns : ns.take 3 with
        | nil => rw [hns] at h1'; cases h1'
        | cons x r => exact Nat.succ_le_succ (Nat.zero_le _)
      · have h1' : (!(cutV (ns.map V.int) none (some (3 : Int))).isEmpty) = false := h1
        rw [ec] at h1'
        have e0 : ns = [] := by
          cases ns with
          | nil => rfl
          | cons x r => cases h1'
        refine ⟨(by show 1 ≤ sizeLine; decide), fun p hp => ⟨p, [0], rfl, Same_lay sl hp, sl.free hp, upd_same, Nat.le_refl _, by decide, fun h => ?_⟩⟩
        rw [e0] at h
        exact absurd h (by decide)
    · rintro x H1 ⟨p, ms, rfl, s1, np, h1, l1, l3, l3'⟩
      have hs1 := s1.seq hs
      have ec : cutV (ns.map V.int) (some (3 : Int)) (some (63 : Int)) = ((ns.drop (min 3 ns.length)).take (min 63 ns.length - min 3 ns.length)).map V.int := by
        rw [show (3 : Int) = ((3 : Nat) : Int) from rfl, show (63 : Int) = ((63 : Nat) : Int) from rfl, cut_of, List.length_map, List.map_take, List.map_drop]
      have kl : ((ns.drop (min 3 ns.length)).take (min 63 ns.length - min 3 ns.length)).length ≤ ns.length - 3 := by
        rw [List.length_take, List.length_drop]
        omega
      generalize (ns.drop (min 3 ns.length)).take (min 63 ns.length - min 3 ns.length) = ks at ec kl
      refine ⟨_, rfl, _, rfl, _, rfl, _, rfl, a, _, rfl, hs1, fun q hq => ⟨q, ks.map V.int, rfl, SqL.of (by rw [upd_same, ec]), ?_⟩⟩
      have npq : p ≠ q := ne_of_none h1 hq
      refine for_it (n := (ks.map V.int).length) walk_enum (fun i σ H' => ∃ (ms' : List Int) (v3 v4 v5 : Option V), σ = [some (.ref a), some (.int 3), some (.ref p), v3, v4, v5] ∧ Same H H' ∧ H' p = some (.lst (ms'.map V.int)) ∧ ms'.length = ms.length ∧ H' q = some (.lst (ks.map V.int)))
        ⟨ms, none, none, none, rfl, Same_lay s1 hq, by rw [upd_ne npq]; exact h1, rfl, by rw [upd_same, ec]⟩ (fun i σ H' _ ⟨_, _, _, _, _, _, _, _, e⟩ => SqL.of e) (fun i x σ H2 H3 hi ⟨ms', v3, v4, v5, e, s2, h2, hl2, hq2⟩ y => ?_) (fun σ H2 ⟨ms', v3, v4, v5, e, s2, h2, hl2, hq2⟩ => ?_)
      · obtain ⟨T, x1, x2, rfl, nT, rfl, e1, e2⟩ := y
        have e1' := Option.some.inj e1
        subst e1'
        have e2 : (ks.map V.int)[i]? = some x2 := e2
        rw [List.getElem?_map] at e2
        cases hz : ks[i]? with
        | none =>
          rw [hz] at e2
          cases e2
        | some z =>
          rw [hz] at e2
          have e2' := Option.some.inj e2
          subst e2' e
          have hik : i < ks.length := (List.getElem?_eq_some_iff.mp hz).1
          have hm3 : ms'.length = 3 := by rw [hl2]; exact l3' (by omega)
          have nTp : p ≠ T := ne_of_none h2 nT
          have nTq : q ≠ T := ne_of_none hq2 nT
          refine ⟨_, _, rfl, SqT.of upd_same, rfl, _, _, rfl, _, _, rfl, rfl, ?_⟩
          have j0 : 0 ≤ (i : Int) % 3 := Int.emod_nonneg _ (by decide)
          have j1 : (i : Int) % 3 < 3 := Int.emod_lt_of_pos _ (by decide)
          have j2 : ((i : Int) % 3) = (((i : Int) % 3).toNat : Int) := by omega
          obtain ⟨m, hm⟩ : ∃ m, ms'[((i : Int) % 3).toNat]? = some m := ⟨ms'[((i : Int) % 3).toNat]'(by omega), List.getElem?_eq_getElem _⟩
          have h3 : (upd H2 T (.tup [V.int (i : Nat), V.int z])) p = some (.lst (ms'.map V.int)) := by rw [upd_ne nTp]; exact h2
          refine ⟨_, rfl, .inl ⟨_, rfl, _, rfl, _, _, rfl, rfl, (show (0 : Int) < 3 by decide), ?_⟩⟩
          refine ⟨_, rfl, _, rfl, _, _, _, _, rfl, rfl, SqL.of h3, at_of j2 (by rw [List.getElem?_map, hm]; rfl), _, rfl, _, rfl, _, _, rfl, rfl, _, _, rfl, rfl, .inr ⟨?_, ?_⟩, _, _, rfl, rfl, ?_⟩
          · show -(2 ^ 64) < ((i : Int) + 2)
            omega
          · show ((i : Int) + 2) < 2 ^ 64
            omega
          · refine ⟨_, rfl, _, rfl, p, _, _, ((i : Int) % 3).toNat, rfl, rfl, h3, ?_, ?_⟩
            · show ixN (ms'.map V.int).length ((i : Int) % 3) = _
              unfold ixN
              rw [if_pos j0, if_pos (by rw [List.length_map, hm3]; exact j1)]
            · refine ⟨ms'.set ((i : Int) % 3).toNat (m + z * ((i : Int) + 2)), _, _, _, rfl, Same_upd (Same_lay s2 nT) np, ?_, ?_, ?_⟩
              · rw [upd_same, List.map_set]
              · rw [List.length_set, hl2]
              · rw [upd_ne npq.symm, upd_ne nTq]
                exact hq2
      · subst e
        exact ⟨_, rfl, kq H2 p ms' s2 np h2 (by omega) (by omega)⟩
end
end Jd
namespace Jd
open PySem PySem.Spec PyProof.Rows L2
/-! ### of, mixed -/
theorem Keep_lay {u : Addr} {H H' : Hp} {a : Addr} {o : HO} (k : Keep u H H') (n : H a = none) : Keep u H (upd H' a o) := fun b q nb h => by
  rw [upd_ne (ne_of_none h n)]
  exact k b q nb h
theorem Keep.none {u : Addr} {H H' : Hp} (k : Keep u H H') {b : Addr} (h : H' b = Option.none) (n : b ≠ u) : H b = Option.none := by
  cases q : H b with
  | none => rfl
  | some o =>
    rw [k b o n q] at h
    cases h
theorem Keep.seq {K : PySem.W.Frag} {u : Addr} {H H' : Hp} (k : Keep u H H') {a : Addr} {xs : List V} (h : SqL K H a xs) (n : a ≠ u) : SqL K H' a xs := by
  rcases h with (h | ⟨o, h⟩) | h
  · exact .inl (.inl (k _ _ n h))
  · exact .inl (.inr ⟨o, k _ _ n h⟩)
  · exact .inr h
def spOf (K : PySem.W.Frag) : Sp := fun vs H Q _ => ∃ (u l : Addr) (xs : List V) (n : Nat), vs = [.ref u, .ref l] ∧ Urn H u n ∧ n < 100000 ∧ SqL K H l xs ∧ l ≠ u ∧ 0 < xs.length ∧ xs.length < 1000 ∧
  ∀ (r : Nat) x H', xs[r]? = some x → Urn H' u (n + 1) → Keep u H H' → Q x H'
def spMixed (K : PySem.W.Frag) : Sp := fun vs H Q _ => ∃ (u l : Addr) (xs : List V) (n : Nat), vs = [.ref u, .ref l] ∧ Urn H u n ∧ n + xs.length < 100000 ∧ (SqL K H l xs ∨ SqT K H l xs) ∧ xs.length < 1000 ∧
  ∀ (ys : List V) p H', ys.Perm xs → Urn H' u (n + xs.length) → Keep u H H' → H p = none → H' p = some (.tup ys) → Q (.ref p) H'
section
variable {P : Program} {w : World} {K : PySem.W.Frag} {mg : Str → Option Value} {base : Heap}
theorem sc_mixed : FnScope ["_law_urn", "_law_pool", "_law_left", "_law_found", "_law_turn"] ["_law_urn", "_law_pool"] (defScope s__law_mixed) := ⟨rfl, rfl, rfl, by decide +kernel, rfl, by decide +kernel, by decide +kernel⟩
theorem perm_move {α : Type} {fs ls : List α} {k : Nat} {y : α} (h : ls[k]? = some y) : ((fs ++ [y]) ++ ls.eraseIdx k).Perm (fs ++ ls) := by
  rw [List.append_assoc]
  exact List.Perm.append_left fs (erase_perm ls k y h)
theorem ok_law_mixed (B : Bk K mg) : Df P w K mg base CX0 2 "_law_mixed" ["_law_urn", "_law_pool"] (spMixed K) := by
  obtain ⟨fd, F⟩ := B.F_law_mixed
  obtain ⟨fdT, GT, bT⟩ := (ok_law_take (P := P) (w := w) (base := base) B).ex
  have kT := (ok_law_take (P := P) (w := w) (base := base) B).kp
  refine ⟨⟨fd, ?_, F.binds fun _ _ _ _ _ _ us hl => match us, hl with | [_, _], _ => rfl⟩, B.g_law_mixed, F.kp⟩
  refine F.ok sc_mixed (fun vs H Q E h => ?_) (fun cdv A outer s H vs Q E hr h => ?_)
  · obtain ⟨u, lo, xs, n, rfl, _⟩ := h
    rfl
  · obtain ⟨u, l, xs, n, rfl, hu, hn, hs, h1, k⟩ := h
    refine ⟨_, pss_cons (ps_par (i := 2) (j := 3) (by rfl) sc_mixed.nd rfl rfl (by decide) rfl rfl (pa_cons (pe_callTy call_list_of (by rfl) B.b_list (by decide +kernel) (pa_cons (pv 1) pa_nil)) (pa_cons (pe_lst pa_nil) pa_nil)) (by rfl))
      (pss_cons (ps_for PassesOwn.never rfl (pi_range1 rfl B.b_range (pa_cons (pe_callB call_len (by rfl) B.b_len (by decide +kernel) (pa_cons (pv 1) pa_nil)) pa_nil)) (pg_name (i := 4) sc_mixed.nd rfl (Or.inl rfl))
        (pss_one (ps_expr (pe_bm PySem.F.plainAttrs_list PySem.F.slot_list_append PySem.F.type_list_append mt_append (pv 3) (pa_cons
          (pe_bm PySem.F.plainAttrs_list PySem.F.slot_list_pop PySem.F.type_list_pop mt_popAt (pv 2) (pa_cons (pe_call GT hr rfl B.g_law_take kT bT .nil pass0 (pa_cons (pv 0) (pa_cons (pe_callB call_len (by rfl) B.b_len (by decide +kernel) (pa_cons (pv 2) pa_nil)) pa_nil))) pa_nil)) pa_nil)))))
      (pss_one (ps_ret (pe_callTy call_tuple_of (by rfl) B.b_tuple (by decide +kernel) (pa_cons (pv 3) pa_nil))))), ?_⟩
    refine ⟨_, rfl, l, xs, rfl, hs, fun L nL => ⟨Nat.zero_le _, fun Fo nF => ⟨_, _, rfl, ?_⟩⟩⟩
    have uo := hu.some
    have nLu : L ≠ u := fun e => by obtain ⟨o, h⟩ := uo; rw [← e, nL] at h; cases h
    have nF0 : H Fo = Option.none := (Same_new nL).free nF
    have nFu : Fo ≠ u := fun e => by obtain ⟨o, h⟩ := uo; rw [← e, nF0] at h; cases h
    have nFL : Fo ≠ L := fun e => by rw [e, upd_same] at nF; cases nF
    have s2 : Same H (upd (upd H L (.lst xs)) Fo (.lst [])) := Same_lay (Same_new nL) nF
    have hlen : LenV K (.ref l) (upd (upd H L (.lst xs)) Fo (.lst [])) xs.length := by
      rcases hs with hs | hs
      · exact .inl ⟨_, s2.seq hs, rfl⟩
      · exact .inr ⟨_, Same_seqT s2 hs, rfl⟩
    refine ⟨_, rfl, _, xs.length, rfl, hlen, (xs.length : Int), rfl, by omega, by omega, ?_⟩
    rw [show ((xs.length : Int)).toNat = xs.length by omega]
    refine for_it walk_range (fun i σ H' => ∃ (ls fs : List V) (v : Option V), σ = [some (.ref u), some (.ref l), some (.ref L), some (.ref Fo), v] ∧ H' L = some (.lst ls) ∧ H' Fo = some (.lst fs) ∧ (fs ++ ls).Perm xs ∧ fs.length = i ∧ Urn H' u (n + i) ∧ Keep u H H')
      ⟨xs, [], Option.none, rfl, by rw [upd_ne nFL.symm, upd_same], upd_same, List.Perm.refl _, rfl, hu.same s2, Same.keep s2⟩ (fun _ _ _ _ _ => trivial) (fun i x σ H1 H2 hi ⟨ls, fs, v, e, hL, hF, pm, fl, hu1, kp⟩ y => ?_) (fun σ H1 ⟨ls, fs, v, e, hL, hF, pm, fl, hu1, kp⟩ => ?_)
    · obtain ⟨rfl, rfl⟩ := y
      subst e
      have ll : ls.length = xs.length - i := by
        have q := pm.length_eq
        rw [List.length_append] at q
        omega
      refine ⟨_, rfl, .inl ⟨rfl, _, SqL.of hF⟩, _, rfl, .inl ⟨rfl, _, SqL.of hL⟩, _, rfl, _, rfl, _, ls.length, rfl, .inl ⟨_, SqL.of hL, rfl⟩, u, (ls.length : Int), n + i, rfl, hu1, by omega, by omega, by omega, fun r H3 r0 r1 hu3 kp3 => ?_⟩
      have hrl : r.toNat < ls.length := by omega
      have hy : ls[r.toNat]? = some ls[r.toNat] := List.getElem?_eq_getElem hrl
      have hL3 : H3 L = some (.lst ls) := kp3 _ _ nLu hL
      have hF3 : H3 Fo = some (.lst fs) := kp3 _ _ nFu hF
      refine ⟨L, ls, r, r.toNat, ls[r.toNat], rfl, rfl, hL3, by omega, by omega, ?_, hy, ?_⟩
      · have q : ixN ls.length r = some r.toNat := by
          unfold ixN
          rw [if_pos r0, if_pos r1]
        exact (ixN_seq q).1
      · refine ⟨Fo, fs, ls[r.toNat], rfl, rfl, by rw [upd_ne nFL]; exact hF3, by have : (1000 : Nat) < sizeLine := (by decide); omega, ?_⟩
        refine ⟨ls.eraseIdx r.toNat, fs ++ [ls[r.toNat]], _, rfl, by rw [upd_ne nFL.symm, upd_same], upd_same, (perm_move hy).trans pm, by rw [List.length_append, fl]; rfl, ?_, Keep_lay (Keep_lay (kp.trans kp3) nL) nF0⟩
        obtain ⟨a, b, c, h3, h4⟩ := hu3
        exact ⟨a, b, c, by rw [upd_ne nFu.symm, upd_ne nLu.symm]; exact h3, h4⟩
    · subst e
      have ll : ls = [] := by
        have q := pm.length_eq
        rw [List.length_append] at q
        exact List.eq_nil_of_length_eq_zero (by omega)
      subst ll
      rw [List.append_nil] at pm
      refine ⟨_, rfl, Fo, fs, rfl, .inl ⟨SqL.of hF, fun p hp => ?_⟩⟩
      have np : H p = Option.none := by
        by_cases e : p = u
        · rw [e] at hp
          obtain ⟨a, b, c, h3, _⟩ := hu1
          rw [h3] at hp
          cases hp
        · exact kp.none hp e
      refine k fs p _ pm ?_ (Keep_lay kp np) np upd_same
      obtain ⟨a, b, c, h3, h4⟩ := hu1
      exact ⟨a, b, c, by rw [upd_ne (ne_of_none h3 hp)]; exact h3, h4⟩
end
end Jd
namespace Jd
open PySem PySem.Spec PyProof.Rows L2 RZ
/-! ### same -/
/-- flat and the same -/
def FlatV : V → Prop
  | .non => True
  | .bl _ => True
  | .str _ => True
  | .int _ => True
  | _ => False
/-- the same, so many levels deep -/
def Sm (H : Hp) : Nat → V → V → Prop
  | 0, x, y => x = y ∧ FlatV y
  | n + 1, x, y => (x = y ∧ FlatV y) ∨ ∃ (a b : Addr) (xs ys : List V), x = .ref a ∧ y = .ref b ∧ xs.length = ys.length ∧ xs.length < 1000 ∧ (∀ (i : Nat) (u v : V), xs[i]? = some u → ys[i]? = some v → Sm H n u v) ∧
      ((H a = some (.lst xs) ∧ H b = some (.lst ys)) ∨ (H a = some (.tup xs) ∧ H b = some (.tup ys)))
theorem Sm_same {H H' : Hp} (s : Same H H') : ∀ (n : Nat) {x y : V}, Sm H n x y → Sm H' n x y
  | 0, _, _, h => h
  | n + 1, x, y, h => by
    rcases (show (x = y ∧ FlatV y) ∨ _ from h) with h | ⟨a, b, xs, ys, e1, e2, hl, h3, he, h | h⟩
    · exact .inl h
    · exact .inr ⟨a, b, xs, ys, e1, e2, hl, h3, fun i u v q1 q2 => Sm_same s n (he i u v q1 q2), .inl ⟨s _ _ h.1, s _ _ h.2⟩⟩
    · exact .inr ⟨a, b, xs, ys, e1, e2, hl, h3, fun i u v q1 q2 => Sm_same s n (he i u v q1 q2), .inr ⟨s _ _ h.1, s _ _ h.2⟩⟩
theorem Sm_flat {H : Hp} {n : Nat} {x : V} (h : FlatV x) : Sm H n x x := by
  cases n with
  | zero => exact ⟨rfl, h⟩
  | succ n => exact Or.inl ⟨rfl, h⟩
theorem walk_zipT {K : PySem.W.Frag} {a b : Addr} {xs ys : List V} {n : Nat} (hn : n = min xs.length ys.length) : Walk (ItzT K a b) n (fun H => SqT K H a xs ∧ SqT K H b ys) (YPair (fun i => xs[i]?) (fun i => ys[i]?)) := by
  subst hn
  refine ⟨fun i _ hi q => ?_, fun _ q => ⟨xs, ys, q.1, q.2, by omega⟩, fun i H v H' _ q y => ?_⟩
  · have h1 : i < xs.length := by omega
    have h2 : i < ys.length := by omega
    exact ⟨xs, ys, xs[i], ys[i], q.1, q.2, by simp [h1], by simp [h2]⟩
  · obtain ⟨T, x, z, h1, h2, h3, h4, h5⟩ := y
    exact ⟨T, x, z, h1, h2, h3, h4 xs q.1, h5 ys q.2⟩
def spSame (n : Nat) : Sp := fun vs H Q _ => ∃ x y : V, vs = [x, y] ∧ Sm H n x y ∧ ∀ H', Same H H' → Q (.bl true) H'
def spPrev : Nat → Sp
  | 0 => fun _ _ _ _ => False
  | n + 1 => spSame n
/-- the types of flat values -/
def tyN : V → String
  | .non => "NoneType"
  | .bl _ => "bool"
  | .str _ => "str"
  | _ => "int"
theorem ty_flat {K : PySem.W.Frag} {H : Hp} {x : V} (h : FlatV x) : TyX K H x (.type (tyN x)) := by
  cases x with
  | non => exact .base .non
  | bl b => exact .base (.bl b)
  | str z => exact .base (.str z)
  | int i => exact .base (.int i)
  | _ => exact h.elim
theorem kit2 {K : PySem.W.Frag} {a b c : String} {r s : Bool} (h1 : kitB a b = some r) (h2 : kitB a c = some s) : PySem.W.kitAny K (.type a) [.type b, .type c] = some (r || s) := by
  refine kitAny_cons (kit_ty h1) (fun e => ?_) (fun e => by rw [e]; rfl)
  rw [e, Bool.false_or]
  refine kitAny_cons (kit_ty h2) (fun e2 => by rw [e2]; rfl) (fun e2 => e2)
theorem cls2 (a b : String) : Paired ClsV [.ty a, .ty b] [.type a, .type b] := .cons (.ty a) (.cons (.ty b) .nil)
theorem ifd {p : Prop} [Decidable p] {A B : Prop} (hp : p) (h : A) : if decide p = true then A else B := by
  rw [decide_eq_true hp]
  exact iteT h
theorem ifdn {p : Prop} [Decidable p] {A B : Prop} (hp : ¬ p) (h : B) : if decide p = true then A else B := by
  rw [decide_eq_false hp]
  exact iteF h
theorem rep_true (n : Nat) : (List.range n).filterMap (fun _ => some (V.bl true)) = (List.replicate n true).map V.bl := by
  induction n with
  | zero => rfl
  | succ n ih =>
    rw [fm_step, ih, List.replicate_succ', List.map_append]
    rfl
theorem rep_all (n : Nat) : (List.replicate n true).all id = true := by
  rw [List.all_eq_true]
  intro x hx
  rw [(List.mem_replicate.mp hx).2]
  rfl
section
variable {P : Program} {w : World} {K : PySem.W.Frag} {mg : Str → Option Value} {base : Heap}
theorem sc_same : FnScope ["_law_got", "_law_goal", "_law_mine_so", "_law_own"] ["_law_got", "_law_goal"] (defScope s__law_same) := ⟨rfl, rfl, rfl, by decide +kernel, rfl, by decide +kernel, by decide +kernel⟩
theorem ok_same_step (B : Bk K mg) {fd : FuncData} (F : Fun K "_law_same" "_law_same" s__law_same (He.ga K "_law_same") fd) (n k : Nat) (G : FnOk P w K mg base CX0 k (He.ga K "_law_same") fd ["_law_got", "_law_goal"] (spPrev n)) (bG : Binds K fd ["_law_got", "_law_goal"] []) :
    FnOk P w K mg base CX0 (k + 1) (He.ga K "_law_same") fd ["_law_got", "_law_goal"] (spSame n) := by
  refine F.ok sc_same (fun vs H Q E h => ?_) (fun cdv A outer s H vs Q E hr h => ?_)
  · obtain ⟨x, y, rfl, _⟩ := h
    rfl
  · obtain ⟨x, y, rfl, hs, kq⟩ := h
    have isi := fun {X : Cx} => @call_isi X
    refine ⟨_, pss_cons (ps_if (pt_val (pe_callB call_isiT (by rfl) B.b_isinstance (by decide +kernel) (pa_cons (pv 1) (pa_cons (pe_tup (pa_cons (pe_bltn (by rfl) B.b_list (by decide +kernel) (show RelV (.ty "list") (.type "list") from rfl)) (pa_cons (pe_bltn (by rfl) B.b_tuple (by decide +kernel) (show RelV (.ty "tuple") (.type "tuple") from rfl)) pa_nil))) pa_nil))))
        (pss_cons (ps_if (PW.pt (pw_or (pt_cmpR op_ne (pe_callB call_isi (by rfl) B.b_isinstance (by decide +kernel) (pa_cons (pv 0) (pa_cons (pe_bltn (by rfl) B.b_list (by decide +kernel) (show RelV (.ty "list") (.type "list") from rfl)) pa_nil))) (pe_callB call_isi (by rfl) B.b_isinstance (by decide +kernel) (pa_cons (pv 1) (pa_cons (pe_bltn (by rfl) B.b_list (by decide +kernel) (show RelV (.ty "list") (.type "list") from rfl)) pa_nil))) (nomark _))
            (pw_or1 (pt_cmpR op_ne (pe_callB call_isi (by rfl) B.b_isinstance (by decide +kernel) (pa_cons (pv 0) (pa_cons (pe_bltn (by rfl) B.b_tuple (by decide +kernel) (show RelV (.ty "tuple") (.type "tuple") from rfl)) pa_nil))) (pe_callB call_isi (by rfl) B.b_isinstance (by decide +kernel) (pa_cons (pv 1) (pa_cons (pe_bltn (by rfl) B.b_tuple (by decide +kernel) (show RelV (.ty "tuple") (.type "tuple") from rfl)) pa_nil))) (nomark _))))) (pss_one (ps_ret pe_bl)) pss_nil)
        (pss_one (ps_ret (pe_and (pe_cmpR op_eq (pe_callB call_len (by rfl) B.b_len (by decide +kernel) (pa_cons (pv 0) pa_nil)) (pe_callB call_len (by rfl) B.b_len (by decide +kernel) (pa_cons (pv 1) pa_nil)) (nomark _))
          (pe_one (pe_callB (cr_all rfl) (by rfl) B.b_all (by decide +kernel) (pa_cons (pe_lc (own := [("_law_mine_so", 2), ("_law_own", 3)]) (g := gTup K 2 (gCons (gName 2) (gCons (gName 3) gNil))) (tt := tYes) rfl sc_same.nd (pi_zipA (by rfl) B.b_zip (pa_cons (pv 0) (pa_cons (pv 1) pa_nil))) (blkOk_by (N := ["_law_got", "_law_goal", "_law_mine_so", "_law_own"]) (sc := defScope s__law_same) (by decide +kernel))
            (fun _ _ _ _ _ => pg_tup rfl (pgs_cons (pg_name (i := 2) sc_same.nd rfl (Or.inl rfl)) (pgs_cons (pg_name (i := 3) sc_same.nd rfl (Or.inl rfl)) pgs_nil))) (fun _ _ _ _ _ => pts_nil)
            (fun _ _ _ _ _ => pe_call G hr rfl B.g_law_same F.kp bG .nil pass0 (pa_cons (pv 2) (pa_cons (pv 3) pa_nil)))) pa_nil))))))) pss_nil)
      (pss_cons (ps_if (PW.pt (pw_or (pt_cmp (pc_isN (pv 1))) (pw_or1 (pt_val (pe_callB call_isiT (by rfl) B.b_isinstance (by decide +kernel) (pa_cons (pv 1) (pa_cons (pe_tup (pa_cons (pe_bltn (by rfl) B.b_bool (by decide +kernel) (show RelV (.ty "bool") (.type "bool") from rfl)) (pa_cons (pe_bltn (by rfl) B.b_str (by decide +kernel) (show RelV (.ty "str") (.type "str") from rfl)) pa_nil))) pa_nil)))))))
        (pss_one (ps_ret (pe_and (pe_cmpR op_eq (pv 0) (pv 1) (nomark _)) (pe_and (pe_cmpR op_eq (pe_callB call_isi (by rfl) B.b_isinstance (by decide +kernel) (pa_cons (pv 0) (pa_cons (pe_bltn (by rfl) B.b_bool (by decide +kernel) (show RelV (.ty "bool") (.type "bool") from rfl)) pa_nil))) (pe_callB call_isi (by rfl) B.b_isinstance (by decide +kernel) (pa_cons (pv 1) (pa_cons (pe_bltn (by rfl) B.b_bool (by decide +kernel) (show RelV (.ty "bool") (.type "bool") from rfl)) pa_nil))) (nomark _))
          (pe_one (pe_cmpR op_eq (pe_cmp (pc_isN (pv 0)) rfl) (pe_cmp (pc_isN (pv 1)) rfl) (nomark _))))))) pss_nil)
      (pss_one (ps_ret (pe_and (pe_callB call_isi (by rfl) B.b_isinstance (by decide +kernel) (pa_cons (pv 0) (pa_cons (pe_bltn (by rfl) B.b_int (by decide +kernel) (show RelV (.ty "int") (.type "int") from rfl)) pa_nil))) (pe_and (pe_not (pe_callB call_isi (by rfl) B.b_isinstance (by decide +kernel) (pa_cons (pv 0) (pa_cons (pe_bltn (by rfl) B.b_bool (by decide +kernel) (show RelV (.ty "bool") (.type "bool") from rfl)) pa_nil)))) (pe_one (pe_cmpR op_eq (pv 0) (pv 1) (nomark _)))))))), ?_⟩
    have hc : (x = y ∧ FlatV y) ∨ ∃ (m : Nat) (a b : Addr) (xs ys : List V), n = m + 1 ∧ x = .ref a ∧ y = .ref b ∧ xs.length = ys.length ∧ xs.length < 1000 ∧ (∀ (i : Nat) (u v : V), xs[i]? = some u → ys[i]? = some v → Sm H m u v) ∧
        ((H a = some (.lst xs) ∧ H b = some (.lst ys)) ∨ (H a = some (.tup xs) ∧ H b = some (.tup ys))) := by
      cases n with
      | zero => exact .inl hs
      | succ m =>
        rcases (show (x = y ∧ FlatV y) ∨ _ from hs) with h | ⟨a, b, xs, ys, h1, h2, h3⟩
        · exact .inl h
        · exact .inr ⟨m, a, b, xs, ys, rfl, h1, h2, h3⟩
    rcases hc with ⟨rfl, hf⟩ | ⟨n, a, b, xs, ys, rfl, rfl, rfl, hl, h3, he, hab⟩
    · cases x with
      | non =>
        refine ⟨_, rfl, (by show 2 ≤ sizeLine; decide), fun p hp => ⟨_, p, _, _, _, _, rfl, upd_same, cls2 "list" "tuple", ty_flat hf, kit2 (a := "NoneType") (r := false) (s := false) (by decide +kernel) (by decide +kernel), _, rfl, iteF ?_⟩⟩
        refine ⟨_, rfl, _, rfl, ifd rfl ?_⟩
        refine ⟨_, rfl, _, rfl, rfl, _, rfl, ifd rfl ?_⟩
        refine ⟨_, rfl, _, _, _, _, _, rfl, .ty "bool", ty_flat hf, kit_ty (a := "NoneType") (r := false) (by decide +kernel), _, rfl, _, _, _, _, _, rfl, .ty "bool", ty_flat hf, kit_ty (a := "NoneType") (r := false) (by decide +kernel), rfl, _, rfl, ifd rfl ?_⟩
        refine ⟨_, rfl, _, rfl, rfl, ?_⟩
        have e : decide (V.bl (decide (V.non = V.non)) = V.bl (decide (V.non = V.non))) = true := decide_eq_true rfl
        show Q (V.bl (decide (V.bl (decide (V.non = V.non)) = V.bl (decide (V.non = V.non))))) _
        rw [e]
        exact kq _ (Same_new hp)
      | bl bb =>
        refine ⟨_, rfl, (by show 2 ≤ sizeLine; decide), fun p hp => ⟨_, p, _, _, _, _, rfl, upd_same, cls2 "list" "tuple", ty_flat hf, kit2 (a := "bool") (r := false) (s := false) (by decide +kernel) (by decide +kernel), _, rfl, iteF ?_⟩⟩
        refine ⟨_, rfl, _, rfl, ifdn (fun z => nomatch z) ?_⟩
        refine ⟨_, rfl, (by show 2 ≤ sizeLine; decide), fun p2 hp2 => ⟨_, p2, _, _, _, _, rfl, upd_same, cls2 "bool" "str", ty_flat hf, kit2 (a := "bool") (r := true) (s := false) (by decide +kernel) (by decide +kernel), _, rfl, iteT ?_⟩⟩
        refine ⟨_, rfl, _, rfl, rfl, _, rfl, ifd rfl ?_⟩
        refine ⟨_, rfl, _, _, _, _, _, rfl, .ty "bool", ty_flat hf, kit_ty (a := "bool") (r := true) (by decide +kernel), _, rfl, _, _, _, _, _, rfl, .ty "bool", ty_flat hf, kit_ty (a := "bool") (r := true) (by decide +kernel), rfl, _, rfl, ifd rfl ?_⟩
        refine ⟨_, rfl, _, rfl, rfl, ?_⟩
        have e : decide (V.bl (decide (V.bl bb = V.non)) = V.bl (decide (V.bl bb = V.non))) = true := decide_eq_true rfl
        show Q (V.bl (decide (V.bl (decide (V.bl bb = V.non)) = V.bl (decide (V.bl bb = V.non))))) _
        rw [e]
        exact kq _ (Same_lay (Same_new hp) hp2)
      | str z =>
        refine ⟨_, rfl, (by show 2 ≤ sizeLine; decide), fun p hp => ⟨_, p, _, _, _, _, rfl, upd_same, cls2 "list" "tuple", ty_flat hf, kit2 (a := "str") (r := false) (s := false) (by decide +kernel) (by decide +kernel), _, rfl, iteF ?_⟩⟩
        refine ⟨_, rfl, _, rfl, ifdn (fun z => nomatch z) ?_⟩
        refine ⟨_, rfl, (by show 2 ≤ sizeLine; decide), fun p2 hp2 => ⟨_, p2, _, _, _, _, rfl, upd_same, cls2 "bool" "str", ty_flat hf, kit2 (a := "str") (r := false) (s := true) (by decide +kernel) (by decide +kernel), _, rfl, iteT ?_⟩⟩
        refine ⟨_, rfl, _, rfl, rfl, _, rfl, ifd rfl ?_⟩
        refine ⟨_, rfl, _, _, _, _, _, rfl, .ty "bool", ty_flat hf, kit_ty (a := "str") (r := false) (by decide +kernel), _, rfl, _, _, _, _, _, rfl, .ty "bool", ty_flat hf, kit_ty (a := "str") (r := false) (by decide +kernel), rfl, _, rfl, ifd rfl ?_⟩
        refine ⟨_, rfl, _, rfl, rfl, ?_⟩
        have e : decide (V.bl (decide (V.str z = V.non)) = V.bl (decide (V.str z = V.non))) = true := decide_eq_true rfl
        show Q (V.bl (decide (V.bl (decide (V.str z = V.non)) = V.bl (decide (V.str z = V.non))))) _
        rw [e]
        exact kq _ (Same_lay (Same_new hp) hp2)
      | int i =>
        refine ⟨_, rfl, (by show 2 ≤ sizeLine; decide), fun p hp => ⟨_, p, _, _, _, _, rfl, upd_same, cls2 "list" "tuple", ty_flat hf, kit2 (a := "int") (r := false) (s := false) (by decide +kernel) (by decide +kernel), _, rfl, iteF ?_⟩⟩
        refine ⟨_, rfl, _, rfl, ifdn (fun z => nomatch z) ?_⟩
        refine ⟨_, rfl, (by show 2 ≤ sizeLine; decide), fun p2 hp2 => ⟨_, p2, _, _, _, _, rfl, upd_same, cls2 "bool" "str", ty_flat hf, kit2 (a := "int") (r := false) (s := false) (by decide +kernel) (by decide +kernel), _, rfl, iteF ?_⟩⟩
        refine ⟨_, rfl, _, _, _, _, _, rfl, .ty "int", ty_flat hf, kit_ty (a := "int") (r := true) (by decide +kernel), _, rfl, iteT ?_⟩
        refine ⟨_, rfl, _, _, _, _, _, rfl, .ty "bool", ty_flat hf, kit_ty (a := "int") (r := false) (by decide +kernel), _, rfl, _, rfl, iteT ?_⟩
        refine ⟨_, rfl, _, rfl, rfl, ?_⟩
        have e : decide (V.int i = V.int i) = true := decide_eq_true rfl
        show Q (V.bl (decide (V.int i = V.int i))) _
        rw [e]
        exact kq _ (Same_lay (Same_new hp) hp2)
      | _ => exact hf.elim
    · rcases hab with ⟨ha, hb⟩ | ⟨ha, hb⟩
      · have hk := he
        refine ⟨_, rfl, (by show 2 ≤ sizeLine; decide), fun p hp => ⟨_, p, _, _, _, _, rfl, upd_same, cls2 "list" "tuple", .base (.lst (Same_new hp _ _ hb)), kit2 (a := "list") (r := true) (s := false) (by decide +kernel) (by decide +kernel), _, rfl, iteT ?_⟩⟩
        have s1 : Same H (upd H p (.tup [.ty "list", .ty "tuple"])) := Same_new hp
        have ha1 := s1 _ _ ha
        have hb1 := s1 _ _ hb
        refine ⟨_, rfl, _, _, _, _, _, rfl, .ty "list", .base (.lst ha1), kit_ty (a := "list") (r := true) (by decide +kernel), _, rfl, _, _, _, _, _, rfl, .ty "list", .base (.lst hb1), kit_ty (a := "list") (r := true) (by decide +kernel), rfl, _, rfl, iteNS rfl ?_⟩
        refine ⟨_, rfl, _, _, _, _, _, rfl, .ty "tuple", .base (.lst ha1), kit_ty (a := "list") (r := false) (by decide +kernel), _, rfl, _, _, _, _, _, rfl, .ty "tuple", .base (.lst hb1), kit_ty (a := "list") (r := false) (by decide +kernel), rfl, _, rfl, iteNS rfl ?_⟩
        refine ⟨_, rfl, _, _, rfl, .inl ⟨_, SqL.of ha1, rfl⟩, _, rfl, _, _, rfl, .inl ⟨_, SqL.of hb1, rfl⟩, rfl, _, rfl, ifd (by rw [hl]) ?_⟩
        refine ⟨_, rfl, _, rfl, a, b, xs, ys, rfl, .inl ⟨SqL.of ha1, SqL.of hb1, fun D hD => ?_⟩⟩
        refine lc_fm (walk_zip (show xs.length = min xs.length ys.length by omega)) (fun _ => some (.bl true)) hD (by have : (1000 : Nat) < sizeLine := (by decide); omega) (fun H' s' => ⟨SqL.of (s' _ _ ha1), SqL.of (s' _ _ hb1)⟩) (fun i v H2 H3 Kt Kf hi s2 yy kt kf => ?_) (fun H2 s2 hD2 => ?_)
        · obtain ⟨T, u', v', rfl, nT, rfl, e1, e2⟩ := yy
          refine ⟨_, _, rfl, SqT.of upd_same, rfl, _, _, rfl, _, _, rfl, rfl, rfl, iteT (B := Kf (upd H2 T (.tup [u', v']))) ?_⟩
          exact ⟨_, rfl, _, rfl, u', v', rfl, Sm_same ((s1.trans s2).trans (Same_new nT)) n (he i u' v' e1 e2), fun H4 s4 => kt _ _ rfl ((Same_new nT).trans s4)⟩
        · refine ⟨D, List.replicate xs.length true, rfl, SqL.of (hD2.trans ?_), ?_⟩
          · rw [rep_true]
          · rw [rep_all]
            exact kq _ (s1.trans s2)
      · have hk := he
        refine ⟨_, rfl, (by show 2 ≤ sizeLine; decide), fun p hp => ⟨_, p, _, _, _, _, rfl, upd_same, cls2 "list" "tuple", .base (.tup (Same_new hp _ _ hb)), kit2 (a := "tuple") (r := false) (s := true) (by decide +kernel) (by decide +kernel), _, rfl, iteT ?_⟩⟩
        have s1 : Same H (upd H p (.tup [.ty "list", .ty "tuple"])) := Same_new hp
        have ha1 := s1 _ _ ha
        have hb1 := s1 _ _ hb
        refine ⟨_, rfl, _, _, _, _, _, rfl, .ty "list", .base (.tup ha1), kit_ty (a := "tuple") (r := false) (by decide +kernel), _, rfl, _, _, _, _, _, rfl, .ty "list", .base (.tup hb1), kit_ty (a := "tuple") (r := false) (by decide +kernel), rfl, _, rfl, iteNS rfl ?_⟩
        refine ⟨_, rfl, _, _, _, _, _, rfl, .ty "tuple", .base (.tup ha1), kit_ty (a := "tuple") (r := true) (by decide +kernel), _, rfl, _, _, _, _, _, rfl, .ty "tuple", .base (.tup hb1), kit_ty (a := "tuple") (r := true) (by decide +kernel), rfl, _, rfl, iteNS rfl ?_⟩
        refine ⟨_, rfl, _, _, rfl, .inr ⟨_, SqT.of ha1, rfl⟩, _, rfl, _, _, rfl, .inr ⟨_, SqT.of hb1, rfl⟩, rfl, _, rfl, ifd (by rw [hl]) ?_⟩
        refine ⟨_, rfl, _, rfl, a, b, xs, ys, rfl, .inr ⟨SqT.of ha1, SqT.of hb1, fun D hD => ?_⟩⟩
        refine lc_fm (walk_zipT (show xs.length = min xs.length ys.length by omega)) (fun _ => some (.bl true)) hD (by have : (1000 : Nat) < sizeLine := (by decide); omega) (fun H' s' => ⟨SqT.of (s' _ _ ha1), SqT.of (s' _ _ hb1)⟩) (fun i v H2 H3 Kt Kf hi s2 yy kt kf => ?_) (fun H2 s2 hD2 => ?_)
        · obtain ⟨T, u', v', rfl, nT, rfl, e1, e2⟩ := yy
          refine ⟨_, _, rfl, SqT.of upd_same, rfl, _, _, rfl, _, _, rfl, rfl, rfl, iteT (B := Kf (upd H2 T (.tup [u', v']))) ?_⟩
          exact ⟨_, rfl, _, rfl, u', v', rfl, Sm_same ((s1.trans s2).trans (Same_new nT)) n (he i u' v' e1 e2), fun H4 s4 => kt _ _ rfl ((Same_new nT).trans s4)⟩
        · refine ⟨D, List.replicate xs.length true, rfl, SqL.of (hD2.trans ?_), ?_⟩
          · rw [rep_true]
          · rw [rep_all]
            exact kq _ (s1.trans s2)

theorem ok_false {fd : FuncData} (F : Fun K "_law_same" "_law_same" s__law_same (He.ga K "_law_same") fd) : FnOk P w K mg base CX0 1 (He.ga K "_law_same") fd ["_law_got", "_law_goal"] (spPrev 0) :=
  F.ok sc_same (fun vs H Q E h => False.elim h) (fun cdv A outer s H vs Q E hr h => False.elim h)
theorem ok_same_all (B : Bk K mg) {fd : FuncData} (F : Fun K "_law_same" "_law_same" s__law_same (He.ga K "_law_same") fd) (b : Binds K fd ["_law_got", "_law_goal"] []) : ∀ n, FnOk P w K mg base CX0 (n + 2) (He.ga K "_law_same") fd ["_law_got", "_law_goal"] (spSame n)
  | 0 => ok_same_step B F 0 1 (ok_false F) b
  | n + 1 => ok_same_step B F (n + 1) (n + 2) (ok_same_all B F b n) b
theorem ok_law_same (B : Bk K mg) (n : Nat) : Df P w K mg base CX0 (n + 2) "_law_same" ["_law_got", "_law_goal"] (spSame n) := by
  obtain ⟨fd, F⟩ := B.F_law_same
  have b := F.binds (ps := ["_law_got", "_law_goal"]) fun _ _ _ _ _ _ us hl => match us, hl with | [_, _], _ => rfl
  exact ⟨⟨fd, ok_same_all B F b n, b⟩, B.g_law_same, F.kp⟩
end
end Jd
namespace Jd
open PySem PySem.Spec PyProof.Rows L2
/-! ### lists, few -/
theorem Keep.seqT {K : PySem.W.Frag} {u : Addr} {H H' : Hp} (k : Keep u H H') {a : Addr} {xs ys : List V} (h : SqT K H a xs) (hu : H u = some (.lst ys)) : SqT K H' a xs := by
  rcases h with (h | ⟨o, h⟩) | h
  · exact .inl (.inl (k _ _ (ne_of h hu (by intro z; cases z)) h))
  · exact .inl (.inr ⟨o, k _ _ (ne_of h hu (by intro z; cases z)) h⟩)
  · exact .inr h
theorem at_last {α : Type} {l : List α} {x y : α} {j : Nat} (h : (l ++ [x])[j]? = some y) : l[j]? = some y ∨ (j = l.length ∧ y = x) := by
  by_cases hj : j < l.length
  · rw [List.getElem?_append_left hj] at h
    exact .inl h
  · rw [List.getElem?_append_right (by omega)] at h
    have j0 : j - l.length = 0 := by
      rcases Nat.eq_zero_or_pos (j - l.length) with z | z
      · exact z
      · rw [List.getElem?_eq_none (by show 1 ≤ _; omega)] at h
        cases h
    rw [j0] at h
    cases h
    exact .inr ⟨by omega, rfl⟩
end Jd
namespace Jd
open PySem PySem.Spec PyProof.Rows L2
/-! ### book -/
def pool7 : List Str := ["a", "city", "item", "lot", "shop", "user", "zzzzzzzz"]
theorem pool_nd : pool7.Nodup := by decide +kernel
theorem idx_at : ∀ {ns : List Str} {i : Nat} {z : Str}, ns.Nodup → ns[i]? = some z → ns.idxOf z = i
  | [], _, _, _, h => by cases h
  | x :: r, 0, z, _, h => by
    cases h
    exact List.idxOf_cons_self
  | x :: r, i + 1, z, nd, h => by
    obtain ⟨n1, n2⟩ := List.nodup_cons.mp nd
    have hz : z ∈ r := List.mem_of_getElem? (show r[i]? = some z from h)
    have ne : x ≠ z := fun e => n1 (e ▸ hz)
    have hb : (x == z) = false := by
      cases e : (x == z) with
      | false => rfl
      | true => exact absurd (eq_of_beq e) ne
    rw [List.idxOf_cons, hb, idx_at n2 (show r[i]? = some z from h)]
    rfl
structure Book (ns : List Str) (R : List (Str × Str)) : Prop where
  nd : ns.Nodup
  so : sortedS ns = true
  l1 : 1 ≤ ns.length
  l5 : ns.length ≤ 5
  pool : ∀ z ∈ ns, z ∈ pool7
  rnd : R.Nodup
  r1 : ∀ p ∈ R, p.1 ∈ ns
  r2 : ∀ p ∈ R, p.2 ∈ ns
  rk : ∃ rk : Str → Nat, (∀ p ∈ R, rk p.1 < rk p.2) ∧ ∀ p ∈ R, rk p.2 ≤ ns.length
  rl : R.length ≤ 20
def loP (st : Int) (p : Str × Str) : Str := if st = 1 then p.1 else p.2
def hiP (st : Int) (p : Str × Str) : Str := if st = 1 then p.2 else p.1
def mkP (st : Int) (a b : Str) : Str × Str := if st = 1 then (a, b) else (b, a)
theorem lo_mk (st : Int) (a b : Str) : loP st (mkP st a b) = a := by
  unfold loP mkP
  by_cases h : st = 1
  · rw [if_pos h, if_pos h]
  · rw [if_neg h, if_neg h]
theorem hi_mk (st : Int) (a b : Str) : hiP st (mkP st a b) = b := by
  unfold hiP mkP
  by_cases h : st = 1
  · rw [if_pos h, if_pos h]
  · rw [if_neg h, if_neg h]
structure PkI (ns : List Str) (st : Int) (R : List (Str × Str)) (i j : Nat) : Prop where
  nd : R.Nodup
  mem : ∀ p ∈ R, loP st p ∈ ns ∧ hiP st p ∈ ns ∧ ns.idxOf (loP st p) < ns.idxOf (hiP st p) ∧ (ns.idxOf (loP st p) < i ∨ (ns.idxOf (loP st p) = i ∧ ns.idxOf (hiP st p) < j))
  len : R.length ≤ 4 * i + (j - (i + 1))
theorem PkI.zero {ns : List Str} {st : Int} : PkI ns st [] 0 1 := ⟨List.nodup_nil, (fun p h => by cases h), Nat.zero_le _⟩
theorem PkI.add {ns : List Str} {st : Int} {R : List (Str × Str)} {i j : Nat} {a b : Str} (h : PkI ns st R i j) (nd : ns.Nodup) (ha : ns[i]? = some a) (hb : ns[j]? = some b) (hij : i < j) : PkI ns st (R ++ [mkP st a b]) i (j + 1) := by
  have ea := idx_at nd ha
  have eb := idx_at nd hb
  refine ⟨List.nodup_append.mpr ⟨h.nd, List.nodup_cons.mpr ⟨List.not_mem_nil, List.nodup_nil⟩, fun p hp q hq e => ?_⟩, fun p hp => ?_, ?_⟩
  · rw [List.mem_singleton.mp hq] at e
    subst e
    obtain ⟨_, _, _, z⟩ := h.mem _ hp
    rw [lo_mk, hi_mk, ea, eb] at z
    omega
  · rcases List.mem_append.mp hp with hp | hp
    · obtain ⟨h1, h2, h3, h4⟩ := h.mem p hp
      exact ⟨h1, h2, h3, by omega⟩
    · rw [List.mem_singleton.mp hp, lo_mk, hi_mk, ea, eb]
      exact ⟨List.mem_of_getElem? ha, List.mem_of_getElem? hb, hij, .inr ⟨rfl, Nat.lt_succ_self _⟩⟩
  · rw [List.length_append]
    have := h.len
    show R.length + 1 ≤ _
    omega
theorem PkI.skip {ns : List Str} {st : Int} {R : List (Str × Str)} {i j : Nat} (h : PkI ns st R i j) : PkI ns st R i (j + 1) := ⟨h.nd, fun p hp => by
  obtain ⟨h1, h2, h3, h4⟩ := h.mem p hp
  exact ⟨h1, h2, h3, by omega⟩, by have := h.len; omega⟩
theorem PkI.next {ns : List Str} {st : Int} {R : List (Str × Str)} {i : Nat} (h : PkI ns st R i ns.length) (l5 : ns.length ≤ 5) : PkI ns st R (i + 1) (i + 2) := ⟨h.nd, fun p hp => by
  obtain ⟨h1, h2, h3, h4⟩ := h.mem p hp
  exact ⟨h1, h2, h3, by omega⟩, by have := h.len; omega⟩
theorem PkI.book {ns : List Str} {st : Int} {R : List (Str × Str)} {i j : Nat} (h : PkI ns st R ns.length j) (hj : j ≤ ns.length + 1) (nd : ns.Nodup) (so : sortedS ns = true) (l1 : 1 ≤ ns.length) (l5 : ns.length ≤ 5) (pool : ∀ z ∈ ns, z ∈ pool7) : Book ns R := by
  have lt : ∀ z ∈ ns, ns.idxOf z < ns.length := fun z hz => List.idxOf_lt_length_of_mem hz
  refine ⟨nd, so, l1, l5, pool, h.nd, fun p hp => ?_, fun p hp => ?_, ?_, by have := h.len; omega⟩
  · obtain ⟨h1, h2, _⟩ := h.mem p hp
    unfold loP at h1
    unfold hiP at h2
    split at h1
    · exact h1
    · rename_i q
      rw [if_neg q] at h2
      exact h2
  · obtain ⟨h1, h2, _⟩ := h.mem p hp
    unfold loP at h1
    unfold hiP at h2
    split at h2
    · exact h2
    · rename_i q
      rw [if_neg q] at h1
      exact h1
  · by_cases e : st = 1
    · refine ⟨fun z => ns.idxOf z, fun p hp => ?_, fun p hp => ?_⟩
      · obtain ⟨_, _, h3, _⟩ := h.mem p hp
        unfold loP hiP at h3
        rw [if_pos e, if_pos e] at h3
        exact h3
      · obtain ⟨_, h2, _, _⟩ := h.mem p hp
        unfold hiP at h2
        rw [if_pos e] at h2
        exact Nat.le_of_lt (lt _ h2)
    · refine ⟨fun z => ns.length - ns.idxOf z, fun p hp => ?_, fun p hp => Nat.sub_le _ _⟩
      obtain ⟨h1, h2, h3, _⟩ := h.mem p hp
      unfold loP hiP at h3
      unfold hiP at h2
      rw [if_neg e] at h2
      rw [if_neg e, if_neg e] at h3
      have := lt _ h2
      show ns.length - ns.idxOf p.1 < ns.length - ns.idxOf p.2
      omega
theorem cut_from (xs : List V) (k : Nat) : cutV xs (some (k : Int)) none = xs.drop (min k xs.length) := by
  unfold cutV
  rw [HT.sIx_nat, HT.sIx_none]
  rw [List.take_of_length_le (by rw [List.length_drop]; exact Nat.le_refl _)]
theorem free_of {u b : Addr} {H H' : Hp} {o : HO} (k : Keep u H H') (hu : H' u = some o) (h : H' b = none) : H b = none := by
  by_cases e : b = u
  · rw [e, hu] at h
    cases h
  · exact k.none h e
def spBook : Sp := fun vs H Q _ => ∃ (u : Addr) (m : Int) (n : Nat), vs = [.ref u, .int m] ∧ Urn H u n ∧ n < 90000 ∧ 0 < m ∧ m ≤ 5 ∧
  ∀ (ns : List Str) (R : List (Str × Str)) (t f g : Addr) (qs : List Addr) (H' : Hp), Book ns R → Urn H' u (n + 40) → Keep u H H' → H t = none → H f = none → H g = none → (∀ q ∈ qs, H q = none) → H' t = some (.tup [.ref f, .ref g]) → H' f = some (.tup (ns.map V.str)) → H' g = some (.tup (qs.map V.ref)) → PrAt H' qs R → Q (.ref t) H'
section
variable {P : Program} {w : World} {K : PySem.W.Frag} {mg : Str → Option Value} {base : Heap}
abbrev NBk : List Str := ["_law_urn", "_law_most_so", "_law_pool", "_law_flats", "_law_pairs_so", "_law_style", "_law_k", "_law_own", "_law_far"]
theorem sc_bk : FnScope NBk ["_law_urn", "_law_most_so"] (defScope s__law_book) := ⟨rfl, rfl, rfl, by decide +kernel, rfl, by decide +kernel, by decide +kernel⟩
theorem ok_book (B : Bk K mg) : Df P w K mg base CX0 3 "_law_book" ["_law_urn", "_law_most_so"] spBook := by
  obtain ⟨fd, F⟩ := B.F_law_book
  obtain ⟨fdT, GT, bT⟩ := (ok_law_take (P := P) (w := w) (base := base) B).ex
  have kT := (ok_law_take (P := P) (w := w) (base := base) B).kp
  obtain ⟨fdM, GM, bM⟩ := (ok_law_mixed (P := P) (w := w) (base := base) B).ex
  have kM := (ok_law_mixed (P := P) (w := w) (base := base) B).kp
  refine ⟨⟨fd, ?_, F.binds fun _ _ _ _ _ _ us hl => match us, hl with | [_, _], _ => rfl⟩, B.g_law_book, F.kp⟩
  refine F.ok sc_bk (fun vs H Q E h => ?_) (fun cdv A outer s H vs Q E hr h => ?_)
  · obtain ⟨_, _, _, rfl, _⟩ := h
    rfl
  · obtain ⟨u, m, n, rfl, hu, hn, m0, m5, k⟩ := h
    have hr1 : Room 1 _ := hr.mono (by decide)
    refine ⟨_, pss_cons (ps_set (i := 2) sc_bk.nd rfl (Or.inl rfl) (pe_callTy call_list_of (by rfl) B.b_list (by decide +kernel) (pa_cons (pe_call GM hr rfl B.g_law_mixed kM bM .nil pass0 (pa_cons (pv 0) (pa_cons (pe_lst (pa_cons pe_str (pa_cons pe_str (pa_cons pe_str (pa_cons pe_str (pa_cons pe_str (pa_cons pe_str (pa_cons pe_str pa_nil)))))))) pa_nil))) pa_nil)))
      (pss_cons (ps_par3 (i := 3) (j := 4) (l := 5) (by rfl) sc_bk.nd rfl rfl rfl (by decide) (by decide) (by decide) rfl rfl rfl
        (pa_cons (pe_callB cr_sortedS (by rfl) B.b_sorted (by decide +kernel) (pa_cons (pe_lc (own := [("_law_own", 7)]) (g := gName 7) (tt := tYes) rfl sc_bk.nd (pi_list (pe_slice sl_list (pv 2) po_none (po_some (pe_op op_add pe_int (pe_call GT hr1 rfl B.g_law_take kT bT .nil pass0 (pa_cons (pv 0) (pa_cons (pv 1) pa_nil)))))))
            (blkOk_by (N := NBk) (sc := defScope s__law_book) (by decide +kernel)) (fun _ _ _ _ _ => pg_name (i := 7) sc_bk.nd rfl (Or.inl rfl)) (fun _ _ _ _ _ => pts_nil) (fun _ _ _ _ _ => pe_callTy SkE.call_str_str (by rfl) B.b_str (by decide +kernel) (pa_cons (pv 7) pa_nil))) pa_nil))
          (pa_cons (pe_lst pa_nil) (pa_cons (pe_call GT hr1 rfl B.g_law_take kT bT .nil pass0 (pa_cons (pv 0) (pa_cons pe_int pa_nil))) pa_nil))) (by rfl))
      (pss_cons (ps_for PassesOwn.never rfl (pi_enum (by rfl) B.b_enumerate (pa_cons (pv 3) pa_nil)) (pg_tup rfl (pgs_cons (pg_name (i := 6) sc_bk.nd rfl (.inl rfl)) (pgs_cons (pg_name (i := 7) sc_bk.nd rfl (.inl rfl)) pgs_nil)))
        (pss_one (ps_for PassesOwn.never rfl (pi_list (pe_slice sl_list (pv 3) (po_some (pe_op op_add (pv 6) pe_int)) po_none)) (pg_name (i := 8) sc_bk.nd rfl (.inl rfl))
          (pss_one (ps_if (PW.pt (pw_and (pt_cmpR op_gt (pv 5) pe_int (nomark _)) (pw_and1 (pt_cmpR op_eq (pe_call GT hr1 rfl B.g_law_take kT bT .nil pass0 (pa_cons (pv 0) (pa_cons pe_int pa_nil))) pe_int (nomark _)))))
            (pss_one (ps_expr (pe_bm PySem.F.plainAttrs_list PySem.F.slot_list_append PySem.F.type_list_append mt_append (pv 4) (pa_cons (pe_cut (pe_ifExp (pt_cmpR op_eq (pv 5) pe_int (nomark _)) (pe_tup (pa_cons (pv 7) (pa_cons (pv 8) pa_nil))) (pe_tup (pa_cons (pv 8) (pa_cons (pv 7) pa_nil))))) pa_nil)))) pss_nil)))))
      (pss_one (ps_ret (pe_tup (pa_cons (pe_callTy call_tuple_of (by rfl) B.b_tuple (by decide +kernel) (pa_cons (pv 3) pa_nil)) (pa_cons (pe_callTy call_tuple_of (by rfl) B.b_tuple (by decide +kernel) (pa_cons (pv 4) pa_nil)) pa_nil))))))), ?_⟩
    obtain ⟨ua, ub, uc, hu0, _⟩ := id hu
    refine ⟨_, rfl, (by show 7 ≤ sizeLine; decide), fun p hp => ⟨u, p, pool7.map V.str, n, rfl, hu.same (Same_new hp), (by show n + 7 < 100000; omega), .inl (SqL.of upd_same), (by decide), fun ys t H1 pm hu1 kp1 nt ht => ?_⟩⟩
    obtain ⟨zs, rfl, pz⟩ := nodup_perm_map pm
    have ndz : zs.Nodup := pz.nodup_iff.mpr pool_nd
    have kp0 : Keep u H H1 := (Same.keep (Same_new hp)).trans kp1
    refine ⟨t, _, rfl, .inr (SqT.of ht), fun L nL => ?_⟩
    have nLH : H L = none := by
      obtain ⟨a, b, c, h3, _⟩ := hu1
      exact free_of kp0 h3 nL
    have nLu : L ≠ u := fun e => by rw [e, hu0] at nLH; cases nLH
    have kp2 : Keep u H (upd H1 L (.lst (zs.map V.str))) := Keep_lay kp0 nLH
    have hu2 : Urn (upd H1 L (.lst (zs.map V.str))) u (n + 7) := hu1.same (Same_new nL)
    refine ⟨_, rfl, _, rfl, _, rfl, u, m, n + 7, rfl, hu2, by omega, m0, by omega, fun r H3 r0 r1 hu3 kp3 => ?_⟩
    have hL3 : H3 L = some (.lst (zs.map V.str)) := kp3 _ _ nLu upd_same
    refine ⟨_, _, rfl, rfl, _, rfl, L, _, rfl, SqL.of hL3, fun q hq => ⟨q, rfl, ⟨_, SqL.of upd_same⟩, fun D hD => ?_⟩⟩
    have ec : cutV (zs.map V.str) Option.none (some ((fun i j => i + j) (1 : Int) r)) = (zs.take (1 + r.toNat)).map V.str := by
      have e : ((fun i j => i + j) (1 : Int) r) = ((1 + r.toNat : Nat) : Int) := by
        show 1 + r = _
        omega
      rw [e, cut_to, List.map_take]
    have zl : 1 ≤ (zs.take (1 + r.toNat)).length ∧ (zs.take (1 + r.toNat)).length ≤ 5 := by
      rw [List.length_take, pz.length_eq]
      have : pool7.length = 7 := rfl
      omega
    have ndx : (zs.take (1 + r.toNat)).Nodup := ndz.sublist (List.take_sublist _ _)
    have xin : ∀ z ∈ zs.take (1 + r.toNat), z ∈ pool7 := fun z h => pz.mem_iff.mp (List.mem_of_mem_take h)
    rw [ec] at hD ⊢
    generalize zs.take (1 + r.toNat) = xs at zl ndx xin hD
    obtain ⟨a3, b3, c3, hu3', _⟩ := id hu3
    have kq : Keep u H H3 := kp2.trans kp3
    have nqH : H q = none := free_of kq hu3' hq
    have kq1 : Keep u H (upd H3 q (.lst (xs.map V.str))) := Keep_lay kq nqH
    have huq : Urn (upd H3 q (.lst (xs.map V.str))) u (n + 8) := hu3.same (Same_new hq)
    refine lc_fm (walk_list (xs := xs.map V.str)) (fun i => (xs[i]?).map V.str) hD (by rw [List.length_map]; exact Nat.le_trans zl.2 (by decide)) (fun H' s' => sm_seqL s' (SqL.of upd_same)) (fun i x H4 H5 Kt Kf hi s4 y kt kf => ?_) (fun H4 s4 hD4 => ?_)
    · obtain ⟨rfl, hx⟩ := y
      obtain ⟨z, hz, rfl⟩ := at_str hx
      exact ⟨rfl, iteT (B := Kf H5) ⟨_, rfl, z, rfl, kt _ _ (by rw [hz]; rfl) (Same.refl _)⟩⟩
    · have e : (List.range (xs.map V.str).length).filterMap (fun i => (xs[i]?).map V.str) = xs.map V.str := by
        rw [List.length_map]
        exact fm_some (fun i x hx => by rw [hx]; rfl)
      rw [e] at hD4
      refine ⟨D, xs, rfl, SqL.of hD4, Nat.lt_of_le_of_lt zl.2 (by decide), fun ns fl pn so nf => ?_⟩
      have kf4 : Keep u H H4 := kq1.trans (Same.keep s4)
      have huf : Urn H4 u (n + 8) := huq.same s4
      obtain ⟨a4, b4, c4, hu4', _⟩ := id huf
      have nfH : H fl = none := free_of kf4 hu4' nf
      have nfu : fl ≠ u := fun e => by rw [e, hu0] at nfH; cases nfH
      have nd : ns.Nodup := pn.nodup_iff.mpr ndx
      have l1 : 1 ≤ ns.length := by rw [pn.length_eq]; exact zl.1
      have l5 : ns.length ≤ 5 := by rw [pn.length_eq]; exact zl.2
      have pool : ∀ z ∈ ns, z ∈ pool7 := fun z hz => xin z (pn.mem_iff.mp hz)
      refine ⟨Nat.zero_le _, fun W nW => ?_⟩
      have kW : Keep u H (upd H4 fl (.lst (ns.map V.str))) := Keep_lay kf4 nfH
      have huW : Urn (upd H4 fl (.lst (ns.map V.str))) u (n + 8) := huf.same (Same_new nf)
      obtain ⟨a5, b5, c5, hu5', _⟩ := id huW
      have nWH : H W = none := free_of kW hu5' nW
      have nWu : W ≠ u := fun e => by rw [e, hu0] at nWH; cases nWH
      have nWf : W ≠ fl := fun e => by rw [e, upd_same] at nW; cases nW
      refine ⟨_, rfl, u, 3, n + 8, rfl, huW.same (Same_new nW), by omega, by decide, by decide, fun st H6 st0 st3 hu6 kp6 => ⟨_, _, _, rfl, ?_⟩⟩
      have kW6 : Keep u H H6 := (Keep_lay kW nWH).trans kp6
      have hf6 : H6 fl = some (.lst (ns.map V.str)) := kp6 _ _ nfu (by rw [upd_ne nWf.symm, upd_same])
      have hW6 : H6 W = some (.lst []) := kp6 _ _ nWu upd_same
      refine ⟨_, rfl, fl, _, rfl, SqL.of hf6, ?_⟩
      refine for_it (n := (ns.map V.str).length) walk_enum (fun i σ H' => ∃ (v6 v7 v8 : Option V) (qs : List Addr) (R : List (Str × Str)), σ = [some (.ref u), some (.int m), some (.ref L), some (.ref fl), some (.ref W), some (.int st), v6, v7, v8] ∧ Keep u H H' ∧ Urn H' u (n + 9 + 5 * i) ∧
          H' fl = some (.lst (ns.map V.str)) ∧ H' W = some (.lst (qs.map V.ref)) ∧ PrAt H' qs R ∧ (∀ q ∈ qs, H q = none) ∧ PkI ns st R i (i + 1))
        ⟨_, _, _, [], [], rfl, kW6, hu6, hf6, hW6, PrAt.nil, (fun q h => by cases h), PkI.zero⟩ (fun i σ H' _ ⟨_, _, _, _, _, _, _, _, e, _⟩ => SqL.of e) (fun i x σ H7 H8 hi ⟨v6, v7, v8, qs, R, e, k7, hu7, hf7, hW7, hp7, hq7, pk⟩ y => ?_) (fun σ H7 ⟨v6, v7, v8, qs, R, e, k7, hu7, hf7, hW7, hp7, hq7, pk⟩ => ?_)
      · obtain ⟨T, x1, x2, rfl, nT, rfl, e1, e2⟩ := y
        cases e1
        subst e
        obtain ⟨a, ha, rfl⟩ := at_str (show (ns.map V.str)[i]? = some x2 from e2)
        have hi' : i < ns.length := (List.getElem?_eq_some_iff.mp ha).1
        obtain ⟨a7, b7, c7, hu7', _⟩ := id hu7
        have nTH : H T = none := free_of k7 hu7' nT
        have sT := Same_new (o := HO.tup [V.int (i : Nat), V.str a]) nT
        refine ⟨_, _, rfl, SqT.of upd_same, rfl, _, _, rfl, _, _, rfl, rfl, ?_⟩
        have kT8 : Keep u H (upd H7 T (.tup [V.int (i : Nat), V.str a])) := Keep_lay k7 nTH
        have hu8 := hu7.same sT
        have hf8 := sT _ _ hf7
        have hW8 := sT _ _ hW7
        have hp8 := hp7.same sT
        generalize (upd H7 T (.tup [V.int (i : Nat), V.str a])) = H8 at kT8 hu8 hf8 hW8 hp8
        clear sT nT hu7 hf7 hW7 hp7 k7 hu7'
        refine ⟨_, rfl, _, rfl, _, _, rfl, rfl, _, rfl, fl, _, rfl, SqL.of hf8, fun sl nsl => ?_⟩
        have es : cutV (ns.map V.str) (some ((fun i j => i + j) (i : Int) (1 : Int))) Option.none = (ns.drop (i + 1)).map V.str := by
          have e : ((fun i j => i + j) (i : Int) (1 : Int)) = ((i + 1 : Nat) : Int) := by
            show (i : Int) + 1 = _
            omega
          rw [e, cut_from, List.map_drop, List.length_map, Nat.min_eq_left (by omega)]
        rw [es]
        obtain ⟨a8, b8, c8, hu8', _⟩ := id hu8
        have nsH : H sl = none := free_of kT8 hu8' nsl
        have nsu : sl ≠ u := fun e => by rw [e, hu0] at nsH; cases nsH
        have sS := Same_new (o := HO.lst ((ns.drop (i + 1)).map V.str)) nsl
        refine ⟨sl, rfl, ⟨_, SqL.of upd_same⟩, ?_⟩
        have nsf : sl ≠ fl := fun e => by rw [e, hf8] at nsl; cases nsl
        have nsW : sl ≠ W := fun e => by rw [e, hW8] at nsl; cases nsl
        refine for_it (n := ((ns.drop (i + 1)).map V.str).length) (walk_list (xs := (ns.drop (i + 1)).map V.str)) (fun j σ H' => ∃ (v8 : Option V) (qs : List Addr) (R : List (Str × Str)), σ = [some (.ref u), some (.int m), some (.ref L), some (.ref fl), some (.ref W), some (.int st), some (.int i), some (.str a), v8] ∧ Keep u H H' ∧ Urn H' u (n + 9 + 5 * i + j) ∧
            H' fl = some (.lst (ns.map V.str)) ∧ H' W = some (.lst (qs.map V.ref)) ∧ H' sl = some (.lst ((ns.drop (i + 1)).map V.str)) ∧ PrAt H' qs R ∧ (∀ q ∈ qs, H q = none) ∧ PkI ns st R i (i + 1 + j))
          ⟨_, qs, R, rfl, Keep_lay kT8 nsH, hu8.same sS, sS _ _ hf8, sS _ _ hW8, upd_same, hp8.same sS, hq7, pk⟩ (fun j σ H' _ ⟨_, _, _, _, _, _, _, _, e, _⟩ => SqL.of e) (fun j x σ H9 HA hj ⟨w8, qs, R, e, k9, hu9, hf9, hW9, hs9, hp9, hq9, pk9⟩ y => ?_) (fun σ H9 ⟨w8, qs, R, e, k9, hu9, hf9, hW9, hs9, hp9, hq9, pk9⟩ => ?_)
        · obtain ⟨rfl, hx⟩ := y
          subst e
          obtain ⟨b, hb, rfl⟩ := at_str hx
          rw [List.getElem?_drop] at hb
          have hj' : i + 1 + j < ns.length := (List.getElem?_eq_some_iff.mp hb).1
          refine ⟨_, rfl, _, _, rfl, rfl, _, rfl, two (fun h1 => ?_) (fun h1 => ?_)⟩
          · refine ⟨_, rfl, u, 4, n + 9 + 5 * i + j, rfl, hu9, by omega, by decide, by decide, fun r2 HB r20 r24 huB kB => ⟨rfl, _, rfl, ?_⟩⟩
            have kB1 : Keep u H HB := k9.trans kB
            have hfB := kB _ _ nfu hf9
            have hWB := kB _ _ nWu hW9
            have hsB := kB _ _ nsu hs9
            obtain ⟨a9, b9, c9, hu9', _⟩ := id hu9
            have hpB : PrAt HB qs R := ⟨hp9.1, fun i' q hq => let ⟨pr, e1, e2⟩ := hp9.2 i' q hq; ⟨pr, e1, kB _ _ (ne_of e2 hu9' (by intro z; cases z)) e2⟩⟩
            refine two (fun h2 => ?_) (fun h2 => ⟨_, qs, R, rfl, kB1, huB, hfB, hWB, hsB, hpB, hq9, pk9.skip⟩)
            obtain ⟨aB, bB, cB, huB', _⟩ := id huB
            refine ⟨_, rfl, .inl ⟨rfl, _, SqL.of hWB⟩, ?_⟩
            refine ⟨fun x H' => ∃ q, x = .ref q ∧ HB q = none ∧ H' = upd HB q (.tup [.str (mkP st a b).1, .str (mkP st a b).2]), ?_, ?_⟩
            · refine ⟨_, rfl, rfl, _, rfl, two (fun h3 => ?_) (fun h3 => ?_)⟩
              · have e3 : st = 1 := V.int.inj (of_decide_eq_true h3)
                refine ⟨_, rfl, _, rfl, (by show 2 ≤ sizeLine; decide), fun q nq => ⟨q, rfl, nq, ?_⟩⟩
                unfold mkP
                rw [if_pos e3]
              · have e3 : ¬ st = 1 := fun z => of_decide_eq_false h3 (by rw [z])
                refine ⟨_, rfl, _, rfl, (by show 2 ≤ sizeLine; decide), fun q nq => ⟨q, rfl, nq, ?_⟩⟩
                unfold mkP
                rw [if_neg e3]
            · rintro x H' ⟨q, rfl, nq, rfl⟩
              have sq := Same_new (o := HO.tup [V.str (mkP st a b).1, V.str (mkP st a b).2]) nq
              have nqH' : H q = none := free_of kB1 huB' nq
              have nqW : q ≠ W := fun z => by rw [z, hWB] at nq; cases nq
              have lq : qs.length < sizeLine := by
                have z := hp9.1
                have z2 := pk9.len
                have : (1000 : Nat) < sizeLine := by decide
                omega
              refine ⟨W, _, _, rfl, rfl, sq _ _ hWB, by rw [List.length_map]; exact lq, ?_⟩
              refine ⟨_, qs ++ [q], R ++ [mkP st a b], rfl, Keep_lay (Keep_lay kB1 nqH') nWH, ?_, ?_, ?_, ?_, ?_, ?_, ?_⟩
              · exact ⟨aB, bB, cB, by rw [upd_ne nWu.symm]; exact sq _ _ huB', by
                  obtain ⟨x1, x2, x3, y1, y2⟩ := huB
                  rw [huB'] at y1
                  cases y1
                  exact y2⟩
              · rw [upd_ne nWf.symm]
                exact sq _ _ hfB
              · rw [upd_same, List.map_append]
                rfl
              · rw [upd_ne nsW]
                exact sq _ _ hsB
              · refine PrAt.snoc ⟨hpB.1, fun i' q' hq' => ?_⟩ (by rw [upd_ne nqW, upd_same])
                obtain ⟨pr, e1, e2⟩ := hpB.2 i' q' hq'
                exact ⟨pr, e1, by rw [upd_ne (ne_of e2 hWB (by intro z; cases z))]; exact sq _ _ e2⟩
              · intro q' hq'
                rcases List.mem_append.mp hq' with hq' | hq'
                · exact hq9 q' hq'
                · rw [List.mem_singleton.mp hq']
                  exact nqH'
              · exact pk9.add nd ha hb (by omega)
          · refine iteF ⟨_, qs, R, rfl, k9, hu9.le (by omega), hf9, hW9, hs9, hp9, hq9, pk9.skip⟩
        · subst e
          have lj : ((ns.drop (i + 1)).map V.str).length ≤ 4 := by
            rw [List.length_map, List.length_drop]
            omega
          refine ⟨_, _, _, qs, R, rfl, k9, hu9.le (by omega), hf9, hW9, hp9, hq9, ?_⟩
          have el : i + 1 + ((ns.drop (i + 1)).map V.str).length = ns.length := by
            rw [List.length_map, List.length_drop]
            omega
          rw [el] at pk9
          exact pk9.next l5
      · subst e
        rw [List.length_map] at hu7 pk
        obtain ⟨a7, b7, c7, hu7', _⟩ := id hu7
        refine ⟨_, rfl, fl, _, rfl, .inl ⟨SqL.of hf7, fun f nf' => ?_⟩⟩
        have sf := Same_new (o := HO.tup (ns.map V.str)) nf'
        have nfH' : H f = none := free_of k7 hu7' nf'
        refine ⟨_, rfl, W, _, rfl, .inl ⟨SqL.of (sf _ _ hW7), fun g ng => ?_⟩⟩
        have sg := Same_new (o := HO.tup (qs.map V.ref)) ng
        have k8 := Keep_lay (o := HO.tup (ns.map V.str)) k7 nfH'
        have ngH : H g = none := free_of k8 (sf _ _ hu7') ng
        refine ⟨(by show 2 ≤ sizeLine; decide), fun t' nt' => ?_⟩
        have k9 := Keep_lay (o := HO.tup (qs.map V.ref)) k8 ngH
        have ntH : H t' = none := free_of k9 (sg _ _ (sf _ _ hu7')) nt'
        have st' := Same_new (o := HO.tup [V.ref f, V.ref g]) nt'
        exact k ns R t' f g qs _ (pk.book (i := 0) (Nat.le_refl _) nd so l1 l5 pool) (((hu7.same sf).same sg).same st' |>.le (by omega)) (Keep_lay k9 ntH) ntH nfH' ngH hq7 upd_same (st' _ _ (sg _ _ upd_same)) (st' _ _ upd_same) (((hp7.same sf).same sg).same st')
end
end Jd
namespace Jd
open PySem PySem.Spec PyProof.Rows L2
/-! ### the numbers of FIELDs -/
def MB : Nat := 441000000
def dvs : List Nat := (List.range 7).flatMap fun a => (List.range 3).flatMap fun b => (List.range 7).flatMap fun c => (List.range 3).map fun d => 2 ^ a * 3 ^ b * (5 ^ c * 7 ^ d)
theorem pow_of {p : Nat} (k : Nat) (b : Nat) (hb : p ^ k < b) (h : ∀ x ∈ List.range b, p ^ k % x = 0 → x ∈ (List.range (k + 1)).map fun i => p ^ i) (hp : 0 < p ^ k) {x : Nat} (hx : x ∣ p ^ k) : ∃ i, i ≤ k ∧ x = p ^ i := by
  have le := Nat.le_of_dvd hp hx
  obtain ⟨i, hi, e⟩ := List.mem_map.mp (h x (List.mem_range.mpr (by omega)) (Nat.mod_eq_zero_of_dvd hx))
  exact ⟨i, by have := List.mem_range.mp hi; omega, e.symm⟩
theorem dv_mem {n : Nat} (h : n ∣ MB) : n ∈ dvs := by
  have e : MB = (2 ^ 6 * 3 ^ 2) * (5 ^ 6 * 7 ^ 2) := by decide +kernel
  rw [e] at h
  obtain ⟨x, y, hx, hy, rfl⟩ := Nat.dvd_mul.mp h
  obtain ⟨x1, x2, h1, h2, rfl⟩ := Nat.dvd_mul.mp hx
  obtain ⟨y1, y2, h3, h4, rfl⟩ := Nat.dvd_mul.mp hy
  obtain ⟨a, ha, rfl⟩ := pow_of 6 100 (by decide) (by decide +kernel) (by decide) h1
  obtain ⟨b, hb, rfl⟩ := pow_of 2 100 (by decide) (by decide +kernel) (by decide) h2
  obtain ⟨c, hc, rfl⟩ := pow_of 6 15626 (by decide) (by decide +kernel) (by decide) h3
  obtain ⟨d, hd, rfl⟩ := pow_of 2 100 (by decide) (by decide +kernel) (by decide) h4
  unfold dvs
  refine List.mem_flatMap.mpr ⟨a, List.mem_range.mpr (by omega), List.mem_flatMap.mpr ⟨b, List.mem_range.mpr (by omega), List.mem_flatMap.mpr ⟨c, List.mem_range.mpr (by omega), List.mem_map.mpr ⟨d, List.mem_range.mpr (by omega), rfl⟩⟩⟩⟩
end Jd
namespace Jd
open PySem PySem.Spec PyProof.Rows L2
/-! ### where a slash parts a text -/
theorem cd_cat (a b : Str) : cd (a ++ b) = cd a ++ cd b := by
  show (a.cps ++ b.cps).toList = _
  exact Array.toList_append
theorem at_slash {x : Str} {i : Nat} : StrLaws.At x "/" x.length i ↔ (cd x)[i]? = some 47 := by
  have hc : ("/" : Str).cps.toList = [47] := by decide +kernel
  have hl : ("/" : Str).length = 1 := by decide +kernel
  unfold StrLaws.At
  rw [StrLaws.subAt_eq, hc, hl, len_cd x]
  constructor
  · rintro ⟨h1, h2⟩
    have e := eq_of_beq h2
    have q : (((cd x).drop i).take 1)[0]? = some 47 := by rw [e]; rfl
    rw [List.getElem?_take_of_lt (by decide), List.getElem?_drop] at q
    exact q
  · intro h
    obtain ⟨hi, e⟩ := List.getElem?_eq_some_iff.mp h
    refine ⟨hi, ?_⟩
    rw [List.drop_eq_getElem_cons hi, List.take_succ_cons, List.take_zero, e]
    rfl
theorem part_at {x a d : Str} (hx : cd x = cd a ++ 47 :: cd d) (ha : 47 ∉ cd a) : Txt.partition x "/" = (a, ("/" : Str), d) := by
  have h1 : StrLaws.At x "/" x.length (cd a).length := at_slash.mpr (by rw [hx]; simp)
  have hl : ("/" : Str).length = 1 := by decide +kernel
  unfold Txt.partition
  rcases StrLaws.occ_head x "/" 1 (Nat.le_refl 1) with ⟨h0, hn⟩ | ⟨i, r, h0, hi, hn⟩
  · exact absurd h1 (hn _)
  · have ei : i = (cd a).length := by
      rcases Nat.lt_trichotomy i (cd a).length with h | h | h
      · have q := at_slash.mp hi
        rw [hx, List.getElem?_append_left h] at q
        exact absurd (List.mem_of_getElem? q) ha
      · exact h
      · exact absurd h1 (hn _ h)
    rw [h0]
    have e1 : Builtin.Str.strSub x 0 i = a := cd_ext (by
      show (Builtin.Str.strSub x 0 i).cps.toList = _
      rw [StrLaws.strSub_toList, ei]
      show ((cd x).drop 0).take ((cd a).length - 0) = _
      rw [hx]
      simp)
    have e2 : Builtin.Str.strSub x (i + ("/" : Str).length) x.length = d := cd_ext (by
      show (Builtin.Str.strSub x (i + ("/" : Str).length) x.length).cps.toList = _
      rw [StrLaws.strSub_toList, ei, hl, len_cd x]
      show ((cd x).drop ((cd a).length + 1)).take ((cd x).length - ((cd a).length + 1)) = _
      have hx2 : cd x = (cd a ++ [47]) ++ cd d := by rw [hx, List.append_assoc]; rfl
      rw [hx2, List.drop_left' (by rw [List.length_append]; rfl), List.take_of_length_le (by rw [List.length_append, List.length_append]; show _ ≤ (cd a).length + 1 + (cd d).length - ((cd a).length + 1); omega)])
    show (Builtin.Str.strSub x 0 i, _, Builtin.Str.strSub x (i + ("/" : Str).length) x.length) = _
    rw [e1, e2]
/-- the codes of a modulus -/
def isModC (l : List Nat) : Bool := if ((decide (l = []) || decide (l = [49])) || decide (l[0]? = some 48)) = true then false else l.all digitB
theorem startc (z : Str) (c : Nat) (y : Str) (hy : cd y = [c]) : Txt.startswith z y = decide ((cd z)[0]? = some c) := by
  have hl : y.length = 1 := by rw [len_cd, hy]; rfl
  unfold Txt.startswith
  rw [StrLaws.subAt_eq, hl, len_cd z]
  show (decide (0 + 1 ≤ (cd z).length) && (((cd z).drop 0).take 1 == cd y)) = _
  rw [hy]
  cases cd z with
  | nil => rfl
  | cons a l =>
    show (decide (0 + 1 ≤ l.length + 1) && ([a] == [c])) = decide (some a = some c)
    rw [decide_eq_true (by omega), Bool.true_and]
    by_cases h : a = c
    · subst h
      simp
    · have : ¬ some a = some c := fun z => h (Option.some.inj z)
      rw [decide_eq_false this]
      simp [h]
theorem isMod_codes (z : Str) : isMod z = isModC (cd z) := by
  unfold isMod
  rw [show ([.str "", .str "1"] : List V) = ([("" : Str), ("1" : Str)]).map V.str from rfl, inV_str, startc z 48 "0" (by decide +kernel)]
  have e1 : z = "" ↔ cd z = [] := ⟨fun h => by rw [h]; decide +kernel, fun h => cd_ext (by rw [h]; decide +kernel)⟩
  have e2 : z = "1" ↔ cd z = [49] := ⟨fun h => by rw [h]; decide +kernel, fun h => cd_ext (by rw [h]; decide +kernel)⟩
  have em : decide (z ∈ [("" : Str), ("1" : Str)]) = (decide (cd z = []) || decide (cd z = [49])) := by
    rw [← Bool.decide_or]
    exact decide_eq_decide.mpr (by rw [List.mem_cons, List.mem_singleton, e1, e2])
  rw [em]
  rfl
theorem field_at {x a d : Str} (hx : cd x = cd a ++ 47 :: cd d) (ha : 47 ∉ cd a) :
    isFieldB x = (if (!decide (V.str a = V.str "#") && !isName (cd a)) = true then false else isModC (cd d)) ∧ fieldName x = a ∧ fieldNum x = numOf (cd d) := by
  have e := part_at hx ha
  unfold isFieldB fieldName fieldNum
  rw [e, isMod_codes]
  have h : decide (V.str ("/" : Str) = V.str "") = false := by decide +kernel
  show (if (!decide (V.str a = V.str "#") && !isName (cd a)) = true then false else decide (V.str ("/" : Str) = V.str "") || isModC (cd d)) = _ ∧ a = a ∧ numOf (cd d) = numOf (cd d)
  rw [h, Bool.false_or]
  exact ⟨rfl, rfl, rfl⟩
/-! ### texts of FIELDs -/
def dec (n : Nat) : Str := Str.ofString (toString ((n : Nat) : Int))
theorem cd_dec (n : Nat) : cd (dec n) = TL.numL n := TL.tl_num n
/-- one number's text -/
def powOk (n : Nat) : Bool := decide (n < 2) || ((decide (0 < n) && decide (n < 1000000000000000000) && decide ((zf60 n ++ Str.empty).length ≤ 1000) && decide ((zf60 n).length ≤ 1000) && decide ((dig60 n).length ≤ 1000 ∧ (dig60 n).length ≠ 0)) && decide (cd (dig60 n) = TL.numL n) && isModC (TL.numL n) && decide (numOf (TL.numL n) = (n : Int)) && decide ((TL.numL n).length ≤ 10))
theorem all_pow : dvs.all powOk = true := by decide +kernel
structure NumF (n : Nat) : Prop where
  ok : numOk n
  dig : cd (dig60 n) = TL.numL n
  md : isModC (TL.numL n) = true
  val : numOf (TL.numL n) = (n : Int)
  len : (TL.numL n).length ≤ 10
theorem num_facts {n : Nat} (h : n ∣ MB) (h2 : 2 ≤ n) : NumF n := by
  have q := List.all_eq_true.mp all_pow n (dv_mem h)
  unfold powOk at q
  rw [decide_eq_false (by omega : ¬ n < 2), Bool.false_or] at q
  simp only [Bool.and_eq_true, decide_eq_true_iff] at q
  obtain ⟨⟨⟨⟨⟨⟨⟨⟨a1, a2⟩, a3⟩, a4⟩, a5⟩, b⟩, c⟩, d⟩, e⟩ := q
  exact ⟨⟨a1, a2, a3, a4, a5⟩, b, c, d, e⟩
/-- a name that FIELDs may have: of Keys, or the number sign -/
structure OwnF (o : Str) : Prop where
  no : 47 ∉ cd o
  ok : (!decide (V.str o = V.str "#") && !isName (cd o)) = false
  len : o.length ≤ 8
theorem own_name {o : Str} (h : isName (cd o) = true) : OwnF o := by
  have h0 := h
  unfold isName at h
  rw [Bool.and_eq_true, Bool.and_eq_true] at h
  obtain ⟨h1, h2, h3⟩ := h
  rw [List.all_eq_true] at h3
  refine ⟨fun m => ?_, by rw [h0, Bool.not_true, Bool.and_false], by rw [len_cd]; exact of_decide_eq_true h2⟩
  have q := h3 _ m
  revert q
  decide
theorem own_hash : OwnF "#" := ⟨by decide +kernel, by decide +kernel, by decide +kernel⟩
/-- the FIELD of a name and a number -/
def fldT (o : Str) (n : Nat) : Str := if n = 0 then o else ftext o n
theorem cd_ftext (o : Str) (n : Nat) (h : cd (dig60 n) = TL.numL n) : cd (ftext o n) = cd o ++ 47 :: cd (dec n) := by
  unfold ftext
  rw [cd_cat, cd_cat, cd_cat, show cd Str.empty = [] from rfl, show cd ("/" : Str) = [47] by decide +kernel, List.nil_append, List.append_assoc, h, cd_dec]
  rfl
theorem part_no {x : Str} (ha : 47 ∉ cd x) : Txt.partition x "/" = (x, Str.empty, Str.empty) := TL.partition_none (s := 47) (S := []) (by decide +kernel) ha
theorem fld_facts {o : Str} {n : Nat} (ho : OwnF o) (h : n = 0 ∨ (n ∣ MB ∧ 2 ≤ n)) : isFieldB (fldT o n) = true ∧ fieldName (fldT o n) = o ∧ fieldNum (fldT o n) = (n : Int) ∧ (fldT o n).length ≤ 30 := by
  unfold fldT
  rcases h with rfl | ⟨h, h2⟩
  · rw [if_pos rfl]
    have e := part_no ho.no
    refine ⟨?_, ?_, ?_, Nat.le_trans ho.len (by decide)⟩
    · unfold isFieldB
      rw [e]
      show (if (!decide (V.str o = V.str "#") && !isName (cd o)) = true then false else decide (V.str Str.empty = V.str "") || isMod Str.empty) = true
      rw [ho.ok, show decide (V.str Str.empty = V.str "") = true from decide_eq_true rfl]
      rfl
    · unfold fieldName
      rw [e]
    · unfold fieldNum
      rw [e]
      rfl
  · have N := num_facts h h2
    rw [if_neg (by omega)]
    obtain ⟨e1, e2, e3⟩ := field_at (cd_ftext o n N.dig) ho.no
    refine ⟨?_, e2, ?_, ?_⟩
    · rw [e1, cd_dec, N.md, ho.ok]
      rfl
    · rw [e3, cd_dec, N.val]
    · have := ho.len
      have q := N.len
      rw [len_cd, cd_ftext o n N.dig, List.length_append, List.length_cons, cd_dec, ← len_cd]
      omega
end Jd
namespace Jd
open PySem PySem.Spec PyProof.Rows L2
/-! ### rows of values, compared -/
inductive Item where
  | fl (v : V)
  | tf (xs : List Str)
  | tt (prs : List (Str × Str))
  | lt (xss : List (List Str))
def ItemAt (H : Hp) (v : V) : Item → Prop
  | .fl x => v = x ∧ FlatV x
  | .tf xs => ∃ a, v = .ref a ∧ H a = some (.tup (xs.map V.str)) ∧ xs.length < 1000
  | .tt prs => ∃ a qs, v = .ref a ∧ H a = some (.tup (qs.map V.ref)) ∧ PrAt H qs prs ∧ prs.length < 1000
  | .lt xss => ∃ (a : Addr) (qs : List Addr), v = .ref a ∧ H a = some (.lst (qs.map V.ref)) ∧ qs.length = xss.length ∧ xss.length < 1000 ∧ ∀ (i : Nat) (q : Addr), qs[i]? = some q → ∃ xs, xss[i]? = some xs ∧ H q = some (.tup (xs.map V.str)) ∧ xs.length < 1000
theorem ItemAt.same {H H' : Hp} {v : V} : ∀ {i : Item}, ItemAt H v i → Same H H' → ItemAt H' v i
  | .fl x, h, _ => h
  | .tf xs, ⟨a, e, h, l⟩, s => ⟨a, e, s _ _ h, l⟩
  | .tt prs, ⟨a, qs, e, h, p, l⟩, s => ⟨a, qs, e, s _ _ h, p.same s, l⟩
  | .lt xss, ⟨a, qs, e, h, l1, l2, p⟩, s => ⟨a, qs, e, s _ _ h, l1, l2, fun i q hq => let ⟨xs, e1, e2, e3⟩ := p i q hq; ⟨xs, e1, s _ _ e2, e3⟩⟩
abbrev ItemsAt (H : Hp) : List V → List Item → Prop := Paired (ItemAt H)
theorem items_same {H H' : Hp} (s : Same H H') : ∀ {vs : List V} {is : List Item}, ItemsAt H vs is → ItemsAt H' vs is
  | _, _, .nil => .nil
  | _, _, .cons q r => .cons (q.same s) (items_same s r)
theorem pr_app {α β : Type} {F : α → β → Prop} : ∀ {xs xs' : List α} {ys ys' : List β}, Paired F xs ys → Paired F xs' ys' → Paired F (xs ++ xs') (ys ++ ys')
  | _, _, _, _, .nil, h => h
  | _, _, _, _, .cons q r, h => .cons q (pr_app r h)
theorem pr_at {α β : Type} {F : α → β → Prop} : ∀ {xs : List α} {ys : List β} {i : Nat} {x : α}, Paired F xs ys → xs[i]? = some x → ∃ y, ys[i]? = some y ∧ F x y
  | _, _, 0, _, .cons q r, h => by
    cases h
    exact ⟨_, rfl, q⟩
  | _, _, i + 1, x, .cons q r, h => pr_at (i := i) r h
def ListAt (H : Hp) (a : Addr) (is : List Item) : Prop := ∃ vs, H a = some (.lst vs) ∧ ItemsAt H vs is
theorem ListAt.same {H H' : Hp} {a : Addr} {is : List Item} (h : ListAt H a is) (s : Same H H') : ListAt H' a is := by
  obtain ⟨vs, h1, h2⟩ := h
  exact ⟨vs, s _ _ h1, items_same s h2⟩
theorem sm_str {H : Hp} {n : Nat} {xs : List Str} {i : Nat} {u v : V} (h1 : (xs.map V.str)[i]? = some u) (h2 : (xs.map V.str)[i]? = some v) : Sm H n u v := by
  rw [h1] at h2
  cases h2
  obtain ⟨z, _, rfl⟩ := at_str h1
  exact Sm_flat trivial
theorem sm_tf {H : Hp} {n : Nat} {a b : Addr} {xs : List Str} (h1 : H a = some (.tup (xs.map V.str))) (h2 : H b = some (.tup (xs.map V.str))) (l : xs.length < 1000) : Sm H (n + 1) (.ref a) (.ref b) :=
  Or.inr ⟨a, b, _, _, rfl, rfl, rfl, by rw [List.length_map]; exact l, fun i u v e1 e2 => sm_str e1 e2, .inr ⟨h1, h2⟩⟩
theorem sm_item {H : Hp} {v w : V} : ∀ {i : Item}, ItemAt H v i → ItemAt H w i → Sm H 2 v w
  | .fl x, ⟨e1, f⟩, ⟨e2, _⟩ => by
    subst e1 e2
    exact Sm_flat f
  | .tf xs, ⟨a, e, h, l⟩, ⟨b, e', h', _⟩ => by
    subst e e'
    exact sm_tf h h' l
  | .tt prs, ⟨a, qs, e, h, p, l⟩, ⟨b, rs, e', h', p', _⟩ => by
    subst e e'
    refine Or.inr ⟨a, b, _, _, rfl, rfl, by rw [List.length_map, List.length_map, p.1, p'.1], by rw [List.length_map, p.1]; exact l, fun i u v e1 e2 => ?_, .inr ⟨h, h'⟩⟩
    obtain ⟨q, hq, rfl⟩ := at_ref e1
    obtain ⟨r, hr, rfl⟩ := at_ref e2
    obtain ⟨pr, k1, k2⟩ := p.2 i q hq
    obtain ⟨pr', k1', k2'⟩ := p'.2 i r hr
    rw [k1] at k1'
    cases k1'
    exact sm_tf (n := 0) (xs := [pr.1, pr.2]) k2 k2' (by show 2 < 1000; decide)
  | .lt xss, ⟨a, qs, e, h, l1, l2, p⟩, ⟨b, rs, e', h', l1', _, p'⟩ => by
    subst e e'
    refine Or.inr ⟨a, b, _, _, rfl, rfl, by rw [List.length_map, List.length_map, l1, l1'], by rw [List.length_map, l1]; exact l2, fun i u v e1 e2 => ?_, .inl ⟨h, h'⟩⟩
    obtain ⟨q, hq, rfl⟩ := at_ref e1
    obtain ⟨r, hr, rfl⟩ := at_ref e2
    obtain ⟨xs, k1, k2, k3⟩ := p i q hq
    obtain ⟨xs', k1', k2', k3'⟩ := p' i r hr
    rw [k1] at k1'
    cases k1'
    exact sm_tf (n := 0) k2 k2' k3
theorem sm_lists {H : Hp} {a b : Addr} {is : List Item} (h1 : ListAt H a is) (h2 : ListAt H b is) (l : is.length < 1000) : Sm H 3 (.ref a) (.ref b) := by
  obtain ⟨vs, e1, p1⟩ := h1
  obtain ⟨ws, e2, p2⟩ := h2
  refine Or.inr ⟨a, b, vs, ws, rfl, rfl, by rw [p1.length, p2.length], by rw [p1.length]; exact l, fun i u v k1 k2 => ?_, .inl ⟨e1, e2⟩⟩
  obtain ⟨x, q1, q2⟩ := pr_at p1 k1
  obtain ⟨y, q1', q2'⟩ := pr_at p2 k2
  rw [q1] at q1'
  cases q1'
  exact sm_item q2 q2'
end Jd
namespace Jd
open PySem PySem.Spec PyProof.Rows L2
/-! ### tables of numbers -/
/-- a dict from texts -/
def kvG (ns : List Str) (f : Str → V) : List (Key × V) := ns.map fun n => (Sum.inr n, f n)
theorem kvG_len (ns : List Str) (f : Str → V) : (kvG ns f).length = ns.length := List.length_map ..
theorem valV_kvG {n : Str} {f : Str → V} : ∀ {ns : List Str}, n ∈ ns → valV (kvG ns f) (Sum.inr n) = some (f n)
  | [], h => by cases h
  | m :: ns, h => by
    show valV ((Sum.inr m, f m) :: kvG ns f) (Sum.inr n) = _
    by_cases e : m = n
    · subst e
      exact valV_pos rfl
    · rw [valV_neg (fun q => e (Sum.inr.inj q))]
      exact valV_kvG ((List.mem_cons.mp h).resolve_left fun q => e q.symm)
theorem valV_kvGN {n : Str} {f : Str → V} : ∀ {ns : List Str}, n ∉ ns → valV (kvG ns f) (Sum.inr n) = none
  | [], h => rfl
  | m :: ns, h => by
    show valV ((Sum.inr m, f m) :: kvG ns f) (Sum.inr n) = _
    have e : m ≠ n := fun q => h (q ▸ List.mem_cons_self)
    rw [valV_neg (fun q => e (Sum.inr.inj q))]
    exact valV_kvGN fun q => h (List.mem_cons_of_mem _ q)
def atF {α : Type} (f : Str → α) (n : Str) (v : α) : Str → α := fun m => if m = n then v else f m
theorem putG_old {n : Str} {f : Str → V} {v : V} {ns : List Str} (h : n ∈ ns) : putK (kvG ns f) (Sum.inr n) v = kvG ns (atF f n v) := by
  unfold putK
  have e : ((kvG ns f).any fun kv => decide (kv.1 = Sum.inr n)) = true := by
    rw [List.any_eq_true]
    exact ⟨(Sum.inr n, f n), List.mem_map.mpr ⟨n, h, rfl⟩, decide_eq_true rfl⟩
  rw [if_pos e]
  unfold kvG
  rw [List.map_map]
  refine List.map_congr_left fun m _ => ?_
  show (if (Sum.inr m : Key) = Sum.inr n then ((Sum.inr m : Key), v) else (Sum.inr m, f m)) = (Sum.inr m, atF f n v m)
  unfold atF
  by_cases q : m = n
  · rw [if_pos (congrArg Sum.inr q), if_pos q]
  · rw [if_neg (fun z => q (Sum.inr.inj z)), if_neg q]
theorem putG_new {n : Str} {f : Str → V} {ns : List Str} (h : n ∉ ns) : putK (kvG ns f) (Sum.inr n) (f n) = kvG (ns ++ [n]) f := by
  unfold putK
  have e : ((kvG ns f).any fun kv => decide (kv.1 = Sum.inr n)) = false := by
    rw [List.any_eq_false]
    intro kv hk q
    obtain ⟨m, hm, rfl⟩ := List.mem_map.mp hk
    exact h (Sum.inr.inj (of_decide_eq_true q) ▸ hm)
  rw [e, if_neg Bool.false_ne_true]
  unfold kvG
  rw [List.map_append]
  rfl
/-- a dict of numbers -/
abbrev numV (m : Str → Nat) : Str → V := fun n => iV (m n)
/-- math.lcm of two -/
def rLcm : List V → Hp → VK → Prop := fun vs H Q => ∃ a b : Nat, vs = [iV a, iV b] ∧ a < 2 ^ 60 ∧ b < 2 ^ 60 ∧ Nat.lcm a b < 2 ^ 60 ∧ Q (iV (Nat.lcm a b)) H
theorem cr_lcm {X : Cx} : CallR X (.builtin "math.lcm") rLcm := by
  intro pins s σ H xs us Q I r h
  obtain ⟨a, b, rfl, ha, hb, hc, q⟩ := h
  obtain ⟨t, u, rfl⟩ := Vals.int2 r
  refine PySem.W.mg_lcm_v (c := ((Nat.lcm a b : Nat) : Int)) (by show (a : Int).natAbs < 2 ^ 64; omega) (by show (b : Int).natAbs < 2 ^ 64; omega) ?_ ?_ ⟨iV (Nat.lcm a b), H, I.tok _, ⟨_, rfl⟩, q⟩
  · rw [Int.natAbs_natCast, Int.natAbs_natCast, Nat.lcm_one_left]
  · rw [Int.natAbs_natCast]
    by_cases h0 : Nat.lcm a b = 0
    · rw [h0]
      decide
    · exact Nat.lt_of_lt_of_le ((Nat.log2_lt h0).mpr hc) (by decide)
theorem dvd_lt {n : Nat} (h : n = 0 ∨ n ∣ MB) : n < 2 ^ 60 := by
  rcases h with rfl | h
  · decide
  · exact Nat.lt_of_le_of_lt (Nat.le_of_dvd (by decide) h) (by decide)
theorem dvd_lcm {a b : Nat} (ha : a = 0 ∨ a ∣ MB) (hb : b = 0 ∨ b ∣ MB) : Nat.lcm a b = 0 ∨ Nat.lcm a b ∣ MB := by
  rcases ha with rfl | ha
  · exact .inl (Nat.lcm_zero_left _)
  · rcases hb with rfl | hb
    · exact .inl (Nat.lcm_zero_right _)
    · exact .inr (Nat.lcm_dvd ha hb)
def fnum (z : Str) : Nat := (fieldNum z).toNat
/-- a FIELD of these names, its number not too great -/
structure FldOk (ks : List Str) (z : Str) : Prop where
  ok : isFieldB z = true
  len : z.length ≤ 1000
  nam : fieldName z ∈ ks
  num : fieldNum z = ((fnum z : Nat) : Int)
  dv : fnum z = 0 ∨ fnum z ∣ MB
def joinS (zs : List Str) (n : Str) : Nat := zs.foldl (fun a z => if fieldName z = n then Nat.lcm a (fnum z) else a) 1
theorem join_dv {ks zs : List Str} (h : ∀ z ∈ zs, FldOk ks z) (n : Str) : joinS zs n = 0 ∨ joinS zs n ∣ MB := by
  unfold joinS
  have key : ∀ (l : List Str) (a : Nat), (∀ z ∈ l, FldOk ks z) → (a = 0 ∨ a ∣ MB) → (l.foldl (fun a z => if fieldName z = n then Nat.lcm a (fnum z) else a) a = 0 ∨ l.foldl (fun a z => if fieldName z = n then Nat.lcm a (fnum z) else a) a ∣ MB) := by
    intro l
    induction l with
    | nil => intro a _ ha; exact ha
    | cons z l ih =>
      intro a hl ha
      refine ih _ (fun y hy => hl y (List.mem_cons_of_mem _ hy)) ?_
      show (if fieldName z = n then Nat.lcm a (fnum z) else a) = 0 ∨ (if fieldName z = n then Nat.lcm a (fnum z) else a) ∣ MB
      by_cases e : fieldName z = n
      · rw [if_pos e]
        exact dvd_lcm ha (hl z List.mem_cons_self).dv
      · rw [if_neg e]
        exact ha
  exact key zs 1 h (.inr (Nat.one_dvd _))
def spFT : Sp := fun vs H Q _ => ∃ (name : Str) (n : Nat), vs = [.str name, iV n] ∧ (n = 0 ∨ numOk n) ∧ name.length ≤ 1000 ∧ ∀ H', Same H H' → Q (.str (fldT name n)) H'
def spAll (K : PySem.W.Frag) : Sp := fun vs H Q _ => ∃ (x : Addr) (ns : List Str) (t : Str → List Str), vs = [.ref x] ∧ KeysO K H x ns t ∧ ∀ H' p, Same H H' → H' p = some (.tup ((("#" : Str) :: ns).map V.str)) → Q (.ref p) H'
def spJoin (K : PySem.W.Frag) : Sp := fun vs H Q _ => ∃ (kk f : Addr) (ns zs : List Str) (t : Str → List Str), vs = [.ref kk, .ref f] ∧ KeysO K H kk ns t ∧ ("#" : Str) ∉ ns ∧ Sq K H f (zs.map V.str) ∧ zs.length ≤ 100 ∧ (∀ z ∈ zs, FldOk (("#" : Str) :: ns) z) ∧
  ∀ H' d, Same H H' → H' d = some (.dK (kvG (("#" : Str) :: ns) (numV (joinS zs)))) → Q (.ref d) H'
section
variable {P : Program} {w : World} {K : PySem.W.Frag} {mg : Str → Option Value} {base : Heap}
theorem ok_fT (B : Bk K mg) : Df P w K mg base CX0 2 "field_text" ["name", "m"] spFT := by
  obtain ⟨fd, F⟩ := B.F_field_text
  obtain ⟨fdD, GD, bD⟩ := (ok_written (P := P) (w := w) (base := base) B).ex
  have kD := (ok_written (P := P) (w := w) (base := base) B).kp
  refine ⟨⟨fd, ?_, F.binds fun _ _ _ _ _ _ us hl => match us, hl with | [_, _], _ => rfl⟩, B.g_field_text, F.kp⟩
  refine F.ok sc_ft (fun vs H Q E h => ?_) (fun cdv A outer s H vs Q E hr h => ?_)
  · obtain ⟨name, n, rfl, _⟩ := h
    rfl
  · obtain ⟨name, n, rfl, hn, hl, k⟩ := h
    refine ⟨_, pss_cons (ps_if (pt_cmpR op_eq (pv 1) pe_int (nomark _)) (pss_one (ps_ret (pv 0))) pss_nil)
      (pss_one (ps_ret (pe_joined (.cons (pe_fmt (pv 0)) (.cons pe_str (.cons (pe_fmt (pe_call GD hr rfl B.g_written kD bD .nil pass0 (pa_cons (pv 1) pa_nil))) .nil)))))), ?_⟩
    refine ⟨_, rfl, rfl, _, rfl, ?_⟩
    show if decide (V.int (n : Int) = V.int 0) = true then _ else _
    unfold fldT at k
    rcases hn with rfl | hn
    · rw [decide_eq_true (show V.int ((0 : Nat) : Int) = V.int 0 from rfl)]
      exact iteT ⟨_, rfl, k H (Same.refl _)⟩
    · have n0 : n ≠ 0 := by
        have := hn.1
        omega
      rw [if_neg n0] at k
      have c1 : decide (V.int (n : Int) = V.int 0) = false := by
        rw [int_eq]
        exact decide_eq_false (by omega)
      rw [c1]
      refine iteF ?_
      have z1 : (Str.empty ++ name).length ≤ 1000 := by rw [app_len]; show 0 + name.length ≤ 1000; omega
      have z2 : (Str.empty ++ name ++ "/").length ≤ 1001 := by rw [app_len]; exact Nat.add_le_add z1 (Nat.le_refl 1)
      refine ⟨_, rfl, .inl ⟨_, rfl, Nat.le_trans hl (by decide), _, rfl, Nat.le_trans z1 (by decide), _, rfl, Nat.le_trans z2 (by decide), ?_⟩⟩
      refine ⟨_, rfl, n, rfl, hn, fun H1 s1 => .inl ⟨_, rfl, Nat.le_trans hn.2.2.2.2.1 (by decide), _, rfl, ?_, k H1 s1⟩⟩
      rw [app_len]
      exact Nat.le_trans (Nat.add_le_add z2 hn.2.2.2.2.1) (by decide)
theorem sc_an : FnScope ["keys"] ["keys"] (defScope s_all_names) := ⟨rfl, rfl, rfl, by decide +kernel, rfl, by decide +kernel, by decide +kernel⟩
theorem ok_all_names (B : Bk K mg) : Df P w K mg base CX0 3 "all_names" ["keys"] (spAll K) := by
  obtain ⟨fd, F⟩ := B.F_all_names
  obtain ⟨fdN, GN, bN⟩ := ok_names (P := P) (w := w) (base := base) B
  refine ⟨⟨fd, ?_, F.binds fun _ _ _ _ _ _ us hl => match us, hl with | [_], _ => rfl⟩, B.g_all_names, F.kp⟩
  refine F.ok sc_an (fun vs H Q E h => ?_) (fun cdv A outer s H vs Q E hr h => ?_)
  · obtain ⟨_, _, _, rfl, _⟩ := h
    rfl
  · obtain ⟨x, ns, t, rfl, ko, k⟩ := h
    refine ⟨_, pss_one (ps_ret (pe_op op_catT (pe_tup (pa_cons pe_str pa_nil)) (pe_prop (pv 0) B.cl_Keys B.pr_Keys_names GN hr bN .nil pass0 rfl))), ?_⟩
    refine ⟨(by show 1 ≤ sizeLine; decide), fun a na => ?_⟩
    have s1 : Same H (upd H a (.tup [.str "#"])) := Same_new na
    have ko1 := ko.same s1
    obtain ⟨dx, t0, d, q, hx, _, _, _, _, l7, _⟩ := id ko1
    refine ⟨_, rfl, x, dx, _, rfl, hx, x, ns, t, rfl, ko1, fun p hp => ?_⟩
    refine ⟨a, p, _, _, rfl, rfl, SqT.of upd_same, SqT.of hp, List.cons_ne_nil _ _, ?_, fun e => ?_, fun _ r nr => k _ r (Same_lay s1 nr) upd_same⟩
    · rw [List.length_map]
      have : (1000 : Nat) ≤ sizeLine := by decide
      show 1 + ns.length ≤ _
      omega
    · have e0 : ns = [] := List.map_eq_nil_iff.mp e
      subst e0
      exact k _ a s1 upd_same
end
end Jd
/-! isinstance of an error that is tracked -/
namespace Jd
open PySem PySem.Spec PySem.Calls PyProof.Rows PySem.W
section
variable {prog : Program} {w : World} {A : Around} {E : Value → Shared → Prop} {s : Shared} {K : Frag} {x D : Addr} {ox od : Obj}
theorem err_class {Q : Option Value → Shared → Prop} (C : L2.ExcC K D) (X : K.In s.heap) (I : InstAt s.heap x ox D (some od)) (h : Q (some (.ref D)) { s with toks := s.toks + 1 }) : wpAny (model prog w) A (getAttr? (.ref x) "__class__") Q E s := by
  have q0 : findObj K D (some od) "__class__" = some (.bind (.builtin "getset_descriptor.__get__") (.builtin "object.__class__")) :=
    findObj_data (by obtain ⟨cd, hc, _⟩ := any_some C.hd; rw [hc]; rfl) C.ha C.hn C.ht
  obtain ⟨hp, g, d, t, os⟩ := s
  have l0 := I.type (M := model prog w)
  have l1 := looks_findIn (M := model prog w) X C.hg
  have l2 := looks_findIn (M := model prog w) X C.hk
  have l3 := looks_find (M := model prog w) X I q0
  have l4 : Looks (model prog w) hp (isInstance (.ref x) (.type "BaseException")) true := l0.andThen (looks_subIn X C.hs)
  have n0 : (false && onTheHeap (Value.builtin "BaseException.__getattribute__")) = false := rfl
  have n2 : (Value.builtin "BaseException.__getattribute__" == Value.builtin "object.__getattribute__") = false := by decide +kernel
  have n1 : (onTheHeap (Value.ref D) && Value.builtin "BaseException.__getattribute__" == Value.builtin "object.__getattribute__") = false := by rw [n2]; rfl
  unfold getAttr? getAttrBy? getAttrBy
  refine wpAny_bind (wpAny_mkText (wpAny_bind (wpAny_attempt (wpAny_holding (wpAny_bind (l0.at (wpAny_bind (l1.at ?_))))))))
  show wpAny _ _ (if (onTheHeap (Value.ref D) && Value.builtin "BaseException.__getattribute__" == Value.builtin "object.__getattribute__") = true then _ else _) _ _ _
  rw [n1, if_neg Bool.false_ne_true]
  unfold getAttrByItsOwn hookBefore
  refine wpAny_bind ?_
  rw [if_pos (show onTheHeap (Value.ref D) = true from rfl)]
  refine l2.at ?_
  refine wpAny_bind (wpAny_attempt (wpAny_holding ?_))
  unfold callGetattribute
  rw [n0, if_neg Bool.false_ne_true]
  unfold boundAndCalled
  rw [PySem.F.excAttr_ValueError.ga.bind (.ref x)]
  refine wpAny_bind (wpAny_pure ?_)
  show wpAny _ _ (call (.builtin "BaseException.__getattribute__") [.ref x, .str "__class__" t]) _ _ _
  refine wpAny_call (codeAny_call_builtin PySem.F.excAttr_ValueError.ga.plain PySem.F.entry_bexc_ga ?_)
  refine @check_slot (model prog w) _ _ ⟨hp, g, d, t + 1, os⟩ "BaseException.__getattribute__" "BaseException" "__getattribute__" (.ref x) [.str "__class__" t] [] _ (by decide +kernel) (by decide +kernel) l4 (PySem.F.args_bexc_ga (.ref x) (.str "__class__" t)) ?_
  unfold Builtin.«object.__getattribute__»
  refine wpAny_bind (wpAny_of_eq (a := ((Value.ref x : Value), [Value.str "__class__" t])) (by first | rfl | (simp only [slotArgs]; rfl)) ?_)
  refine wpAny_bind (wpAny_pure (wpAny_bind (l0.at (wpAny_bind (l3.at ?_)))))
  show wpAny _ _ (holding [Value.builtin "object.__class__"] (call (.builtin "getset_descriptor.__get__") [.builtin "object.__class__", .ref x, .ref D]) >>= ret) _ _ _
  refine wpAny_bind (wpAny_holding (wpAny_call (class_get (s := ⟨hp, g, d, t + 1, os⟩) (ox := ox) (od := some od) X I C.hm ?_)))
  refine wpAny_pure ?_
  show wpAny _ _ (handedOut (.ref D)) _ _ _
  rw [handedOut_of (v := .ref D) rfl]
  first
    | exact wpAny_pure (wpAny_pure h)
    | exact wpAny_pure h
    | exact wpAny_pure (wpAny_bind (wpAny_pure (wpAny_pure h)))
theorem err_kit (C : L2.ExcC K D) : KitX K (.ref x) (.ref D) (fun h => InstAt h x ox D (some od)) where
  ty := fun _ _ _ I => I.type
  it := fun _ _ X _ => by
    obtain ⟨c0, h0, _⟩ := any_some C.hd
    unfold clsIn at h0
    split at h0
    · rename_i c' d' cd' sl' ho
      intro A' Q' E' s' k q
      unfold isType loadHead
      exact wpAny_bind (wpAny_loadPart (k _ _ (X _ _ ho)) (wpAny_pure q))
    · cases h0
  ne := fun h tp dd its n sl X htp => by
    obtain ⟨c0, h0, _⟩ := any_some C.hd
    refine Bool.eq_false_iff.mpr fun q => ?_
    have e : D = tp := Value.ref.inj (beq_iff_eq.mp q)
    subst e
    unfold clsIn at h0
    split at h0
    · rename_i c' d' cd' sl' ho
      have z := (X _ _ ho).symm.trans htp
      cases z
    · cases h0
  ca := fun X I k => err_class C X I k
end
end Jd
namespace Jd
open PySem PySem.Spec PyProof.Rows L2
def rIsEr (K : PySem.W.Frag) : List V → Hp → VK → Prop := fun xs H Q => ∃ (a D dd : Addr) (fs : List (Str × V)) (c : V) (cv : Value) (b : Bool), xs = [.ref a, c] ∧ H a = some (ErO (.ref D) (some dd) a) ∧ H dd = some (.xd fs) ∧ ExcC K D ∧
  (∀ u, RelV c u → u = cv) ∧ PySem.W.kitOne K (.ref D) cv = some b ∧ Q (.bl b) H
theorem call_isEr {X : Cx} : CallR X (.builtin "isinstance") (rIsEr X.K) := by
  intro pins s σ H xs us Q I r h
  obtain ⟨a, D, dd, fs, c, cv, b, rfl, ha, hd, C, hcv, e, q⟩ := h
  cases r with
  | cons rx rr =>
    cases rr with
    | cons rt rr =>
      cases rr
      cases rx
      have ec := hcv _ rt
      subst ec
      obtain ⟨oe, vs, r0, r1, r2⟩ := (I.hok a _ ha).1
      have hx : ObjOk X.prog X.w H s.heap dd (.xd fs) := I.hok dd _ hd
      obtain ⟨mA, hns, hr⟩ := hx
      obtain ⟨od, ho, hl⟩ := lookIn_ns hns
      have J : PySem.W.InstAt s.heap a oe D (some od) := ⟨r0, r1.1, by unfold PySem.W.notCls; rw [r2] <;> rfl, by rw [r1.2]; exact ho⟩
      exact PySem.W.kia_one (err_kit C) I.kIn J e (fun z => nomatch z) fun tk => ⟨.bl b, H, I.kept (t' := tk) fun _ _ z => z, rfl, q⟩
end Jd
namespace Jd
open PySem PySem.Spec PyProof.Rows L2
/-! ### heard; how Keys are called -/
theorem exm4 {K : PySem.W.Frag} {cls c1 c2 c3 c4 : Value} {b1 b2 b3 b4 : Bool} (h1 : PySem.W.exmOne K cls c1 = some b1) (h2 : PySem.W.exmOne K cls c2 = some b2) (h3 : PySem.W.exmOne K cls c3 = some b3) (h4 : PySem.W.exmOne K cls c4 = some b4) : PySem.W.exmAny K cls [c1, c2, c3, c4] = some (b1 || (b2 || (b3 || (b4 || false)))) := by
  simp only [PySem.W.exmAny, h1, h2, h3, h4]
theorem kit_self {K : PySem.W.Frag} {t : Value} : PySem.W.kitOne K t t = some true := by
  unfold PySem.W.kitOne
  rw [if_pos (by simp)]
abbrev PK3 : List Str := ["self", "names", "tells"]
/-- Keys(a, b) -/
theorem kb_two {K : PySem.W.Frag} {fd : FuncData} (F : FunD K "__init__" "Keys.__init__" (defArgs s_Keys___init__) (defBody s_Keys___init__) (defScope s_Keys___init__) (d_Keys___init__.dvs K) [] (He.ma K (He.ga K "Keys") "__init__") fd) : Binds K fd PK3 [] := by
  have hd : d_Keys___init__.dvs K = [.ref (dflA (fun K => He.ma K (He.ga K "Keys") "__init__") 0 K)] := rfl
  obtain ⟨ds, v, b⟩ := F.binds1 (ps := PK3) 3 1 (by rw [hd]; exact List.cons_ne_nil _ _) (by rw [hd]; rfl) (fun T kV doc pm an cdv ct us its hu hi => by
    rw [hd] at hi
    match us, its, hu, hi with
    | [_, _, _], [_], _, _ => exact ⟨_, rfl, rfl⟩)
  have e : ds = [] := by
    rw [hd] at v
    cases v
    rfl
  rw [e] at b
  exact b
/-- Keys(names=a, tells=b) -/
theorem kb_kw {K : PySem.W.Frag} {fd : FuncData} (F : FunD K "__init__" "Keys.__init__" (defArgs s_Keys___init__) (defBody s_Keys___init__) (defScope s_Keys___init__) (d_Keys___init__.dvs K) [] (He.ma K (He.ga K "Keys") "__init__") fd) : ∃ its : List Value, KBn K fd PK3 1 ["names", "tells"] (fun us ws => us ++ ws) (fun vs zs => vs ++ zs) := by
  have hd : d_Keys___init__.dvs K = [.ref (dflA (fun K => He.ma K (He.ga K "Keys") "__init__") 0 K)] := rfl
  obtain ⟨its, b⟩ := F.kbindsD (ps := PK3) 1 ["names", "tells"] (fun us _ ws => us ++ ws) (by rw [hd]; exact List.cons_ne_nil _ _) (fun r1 _ r3 => r1.append r3) (fun T kV doc pm an cdv ct us its ws l1 l2 l3 => by
    rw [hd] at l2
    match us, its, ws, l1, l2, l3 with
    | [_], [_], [_, _], _, _, _ => exact ⟨_, rfl, rfl⟩)
  exact ⟨its, b⟩
end Jd
namespace Jd
open PySem PySem.Spec PyProof.Rows L2
/-! ### the numbers joined -/
/-- pairs of names and numbers -/
def FdAt (H : Hp) (ps : List Addr) (zs : List Str) : Prop := ps.length = zs.length ∧ ∀ (i : Nat) (p : Addr), ps[i]? = some p → ∃ z, zs[i]? = some z ∧ H p = some (.tup [.str (fieldName z), iV (fnum z)])
theorem FdAt.same {H H' : Hp} {ps : List Addr} {zs : List Str} (h : FdAt H ps zs) (s : Same H H') : FdAt H' ps zs := ⟨h.1, fun i p hp => let ⟨z, a, b⟩ := h.2 i p hp; ⟨z, a, s _ _ b⟩⟩
theorem FdAt.snoc {H : Hp} {ps : List Addr} {zs : List Str} {p : Addr} {z : Str} (h : FdAt H ps zs) (e : H p = some (.tup [.str (fieldName z), iV (fnum z)])) : FdAt H (ps ++ [p]) (zs ++ [z]) := by
  refine ⟨by rw [List.length_append, List.length_append, h.1]; rfl, fun i a ha => ?_⟩
  rcases at_last ha with q | ⟨rfl, rfl⟩
  · have hi := (List.getElem?_eq_some_iff.mp q).1
    obtain ⟨y, a1, a2⟩ := h.2 i a q
    exact ⟨y, by rw [List.getElem?_append_left (by rw [← h.1]; exact hi)]; exact a1, a2⟩
  · exact ⟨z, by rw [h.1, List.getElem?_append_right (Nat.le_refl _), Nat.sub_self]; rfl, e⟩
theorem join_next {zs : List Str} {i : Nat} {z : Str} (h : zs[i]? = some z) (n : Str) : joinS (zs.take (i + 1)) n = if fieldName z = n then Nat.lcm (joinS (zs.take i) n) (fnum z) else joinS (zs.take i) n := by
  unfold joinS
  rw [List.take_add_one, h, List.foldl_append]
  rfl
theorem gd_kvG {H : Hp} {d : Addr} {ns : List Str} {f : Str → V} {n : Str} (hd : H d = some (.dK (kvG ns f))) (hn : n ∈ ns) : DGet H d (.str n) (some (f n)) := by
  have q := DGet.k (k := Sum.inr n) hd
  rw [valV_kvG hn] at q
  exact q
section
variable {P : Program} {w : World} {K : PySem.W.Frag} {mg : Str → Option Value} {base : Heap}
abbrev NJ : List Str := ["keys", "fields", "pairs", "field", "numbers", "name", "m"]
theorem sc_jn : FnScope NJ ["keys", "fields"] (defScope s__joined) := ⟨rfl, rfl, rfl, by decide +kernel, rfl, by decide +kernel, by decide +kernel⟩
theorem ok_joined (B : Bk K mg) : Df P w K mg base CX0 4 "_joined" ["keys", "fields"] (spJoin K) := by
  obtain ⟨fd, F⟩ := B.F_joined
  obtain ⟨fdO, GO, bO⟩ := (ok_field_of (P := P) (w := w) (base := base) B).ex
  have kO := (ok_field_of (P := P) (w := w) (base := base) B).kp
  obtain ⟨fdN, GN, bN⟩ := (ok_all_names (P := P) (w := w) (base := base) B).ex
  have kN := (ok_all_names (P := P) (w := w) (base := base) B).kp
  refine ⟨⟨fd, ?_, F.binds fun _ _ _ _ _ _ us hl => match us, hl with | [_, _], _ => rfl⟩, B.g_joined, F.kp⟩
  refine F.ok sc_jn (fun vs H Q E h => ?_) (fun cdv A outer s H vs Q E hr h => ?_)
  · obtain ⟨_, _, _, _, _, rfl, _⟩ := h
    rfl
  · obtain ⟨x, f, ns, zs, t, rfl, ko, n0, hf, l100, hz, k⟩ := h
    have hu := hu_of hr
    have hr3 : Room 3 _ := hr.mono (by decide)
    refine ⟨_, pss_cons (ps_setLc (i := 2) (own := [("field", 3)]) (g := gName 3) (tt := tYes) rfl sc_jn.nd rfl rfl (sw_true rfl rfl rfl (by decide +kernel)) (pi_seq (pv 1)) (blkOk_by (N := NJ) (sc := defScope s__joined) (by decide +kernel))
          (fun _ _ _ _ _ => pg_name (i := 3) sc_jn.nd rfl (Or.inl rfl)) (fun _ _ _ _ _ => pts_nil) (fun _ _ _ _ _ => pe_call (E := fun _ _ _ => False) GO hr rfl B.g_field_of kO bO .nil passF (pa_cons (pv 3) pa_nil)))
      (pss_cons (ps_set (i := 4) sc_jn.nd rfl (Or.inl rfl) pe_dnewK)
      (pss_cons (ps_for PassesOwn.never rfl (pi_tup (pe_call GN hr rfl B.g_all_names kN bN .nil pass0 (pa_cons (pv 0) pa_nil))) (pg_name (i := 5) sc_jn.nd rfl (Or.inl rfl)) (pss_one (ps_dput hu (pv 4) (pv 5) pe_int rfl)))
      (pss_cons (ps_for PassesOwn.never rfl (pi_list (pv 2)) (pg_tup (by rfl) (pgs_cons (pg_name (i := 5) sc_jn.nd rfl (Or.inl rfl)) (pgs_cons (pg_name (i := 6) sc_jn.nd rfl (Or.inl rfl)) pgs_nil)))
        (pss_cons (ps_if (pt_cmp (pc_dnotin hu (pv 5) (pv 4))) (pss_one ps_never) pss_nil)
          (pss_one (ps_dput hu (pv 4) (pv 5) (pe_callBfun cr_lcm (by rfl) B.bl_lcm (pa_cons (pe_dget hu (pv 4) (pv 5) (fun _ _ => rfl)) (pa_cons (pv 6) pa_nil))) rfl))))
      (pss_one (ps_ret (pv 4)))))), ?_⟩
    obtain ⟨_, _, _, _, _, _, _, _, nd, l7, _⟩ := id ko
    have big : (1000 : Nat) ≤ sizeLine := by decide
    have ndk : (("#" : Str) :: ns).Nodup := List.nodup_cons.mpr ⟨n0, nd⟩
    refine ⟨_, rfl, f, _, rfl, hf, fun J G wk hG => fun D hD => ?_⟩
    refine lc_it wk (fun i H' => Same H H' ∧ ∃ ps : List Addr, H' D = some (.lst (ps.map V.ref)) ∧ FdAt H' ps (zs.take i)) ⟨Same_new hD, [], upd_same, rfl, fun i p h => by cases h⟩ (fun i H' _ p => hG H' p.1) (fun i v H1 H2 hi ⟨s1, ps, hD1, pp⟩ y => ?_) (fun H1 ⟨s1, ps, hD1, pp⟩ => ?_)
    · obtain ⟨rfl, hv⟩ := y
      obtain ⟨z, hzi, rfl⟩ := at_str hv
      have fo := hz z (List.mem_of_getElem? hzi)
      have li : i < zs.length := (List.getElem?_eq_some_iff.mp hzi).1
      refine ⟨rfl, iteT (B := ∃ z : Nat, z = 0) ?_⟩
      refine ⟨_, rfl, z, rfl, Nat.le_trans fo.len big, fun hb => (by rw [fo.ok] at hb; cases hb), fun _ H5 p s5 hp => ?_⟩
      rw [fo.num] at hp
      have hD5 := s5 _ _ hD1
      have npD : p ≠ D := ne_of hp hD5 (by intro z; cases z)
      refine ⟨_, hD5, ?_, ?_, ps ++ [p], by rw [upd_same, List.map_append]; rfl, ?_⟩
      · rw [List.length_map, pp.1, List.length_take]
        omega
      · exact Same_upd (s1.trans s5) hD
      · rw [List.take_add_one, hzi]
        refine FdAt.snoc (z := z) ⟨pp.1, fun j q hq => ?_⟩ (by rw [upd_ne npD]; exact hp)
        obtain ⟨y, e1, e2⟩ := pp.2 j q hq
        exact ⟨y, e1, by rw [upd_ne (ne_of (s5 _ _ e2) hD5 (by intro z; cases z))]; exact s5 _ _ e2⟩
    · rw [List.length_map, List.take_length] at pp
      refine fun d hd => ?_
      have s2 : Same H (upd H1 d (.dK [])) := Same_lay s1 hd
      refine ⟨_, rfl, x, ns, t, rfl, ko.same s2, fun H3 a s3 ha => ?_⟩
      have hd3 := s3 _ _ (upd_same (H := H1) (a := d) (o := HO.dK []))
      have hD3 := s3 _ _ (Same_new hd _ _ hD1)
      have pp3 := (pp.same (Same_new (o := HO.dK []) hd)).same s3
      have nDd : D ≠ d := ne_of hD3 hd3 (by intro z; cases z)
      have nad : a ≠ d := ne_of ha hd3 (by intro z; cases z)
      have sH : ∀ H', Keep d H3 H' → Same H H' := fun H' kp b o q => by
        have nb : b ≠ d := ne_of_none q (s1.free hd)
        exact kp _ _ nb (s3 _ _ (s2 _ _ q))
      refine ⟨a, rfl, ⟨_, SqT.of ha⟩, ?_⟩
      refine for_it (walk_tup (xs := (("#" : Str) :: ns).map V.str)) (fun i σ H' => ∃ v5 : Option V, σ = [some (.ref x), some (.ref f), some (.ref D), Option.none, some (.ref d), v5, Option.none] ∧ Keep d H3 H' ∧ H' d = some (.dK (kvG ((("#" : Str) :: ns).take i) (numV fun _ => 1))))
        ⟨Option.none, rfl, Keep.refl _ _, hd3⟩ (fun i σ H' _ ⟨_, _, kp, _⟩ => SqT.of (kp _ _ nad ha)) (fun i v σ H4 H5 hi ⟨v5, e, kp, hd4⟩ y => ?_) (fun σ H4 ⟨v5, e, kp, hd4⟩ => ?_)
      · obtain ⟨rfl, hx⟩ := y
        subst e
        obtain ⟨n, hn, rfl⟩ := at_str hx
        have nin := nd_take ndk hn
        refine ⟨_, rfl, _, rfl, d, _, rfl, DPut.k (k := Sum.inr n) hd4 ?_, ?_⟩
        · rw [kvG_len, List.length_take, List.length_cons]
          omega
        · refine ⟨_, rfl, fun b o nb q => by rw [upd_ne nb]; exact kp _ _ nb q, ?_⟩
          rw [upd_same, take_next hn]
          exact congrArg (fun z => some (HO.dK z)) (putG_new (f := numV fun _ => 1) nin)
      · subst e
        rw [List.length_map, List.take_length] at hd4
        refine ⟨_, rfl, D, rfl, ⟨_, SqL.of (kp _ _ nDd hD3)⟩, ?_⟩
        refine for_it (walk_list (xs := ps.map V.ref)) (fun i σ H' => ∃ v5 v6 : Option V, σ = [some (.ref x), some (.ref f), some (.ref D), Option.none, some (.ref d), v5, v6] ∧ Keep d H3 H' ∧ H' d = some (.dK (kvG (("#" : Str) :: ns) (numV (joinS (zs.take i))))))
          ⟨_, _, rfl, kp, hd4⟩ (fun i σ H' _ ⟨_, _, _, kp, _⟩ => SqL.of (kp _ _ nDd hD3)) (fun i v σ H5 H6 hi ⟨w5, w6, e, kp5, hd5⟩ y => ?_) (fun σ H5 ⟨w5, w6, e, kp5, hd5⟩ => ?_)
        · obtain ⟨rfl, hx⟩ := y
          subst e
          obtain ⟨p, hp, rfl⟩ := at_ref hx
          obtain ⟨z, hzi, hpz⟩ := pp3.2 i p hp
          have fo := hz z (List.mem_of_getElem? hzi)
          have npd : p ≠ d := ne_of hpz hd3 (by intro z; cases z)
          have gd := gd_kvG hd5 fo.nam
          have dv := join_dv (ks := ("#" : Str) :: ns) (zs := zs.take i) (fun z hz' => hz z (List.mem_of_mem_take hz')) (fieldName z)
          refine ⟨_, _, rfl, SqT.of (kp5 _ _ npd hpz), rfl, _, _, rfl, _, _, rfl, rfl, ?_⟩
          refine ⟨_, rfl, _, rfl, d, _, rfl, gd, _, rfl, iteF ?_⟩
          refine ⟨_, rfl, _, rfl, d, _, rfl, gd, _, rfl, joinS (zs.take i) (fieldName z), fnum z, rfl, dvd_lt dv, dvd_lt fo.dv, dvd_lt (dvd_lcm dv fo.dv), _, rfl, _, rfl, d, _, rfl, DPut.k (k := Sum.inr (fieldName z)) hd5 ?_, ?_⟩
          · rw [kvG_len, List.length_cons]
            omega
          · refine ⟨_, _, rfl, fun b o nb q => by rw [upd_ne nb]; exact kp5 _ _ nb q, ?_⟩
            rw [upd_same, putG_old fo.nam]
            congr 2
            unfold kvG
            refine List.map_congr_left fun n _ => ?_
            unfold atF numV
            rw [join_next hzi]
            by_cases q : n = fieldName z
            · subst q
              rw [if_pos rfl, if_pos rfl]
            · rw [if_neg q, if_neg fun e => q e.symm]
        · subst e
          rw [List.length_map, pp3.1, List.take_length] at hd5
          exact ⟨_, rfl, k _ d (sH _ kp5) hd5⟩
end
end Jd
namespace Jd
open PySem PySem.Spec PyProof.Rows L2
/-! ### closed; the Stage -/
theorem Same_unlock {H H' : Hp} {d : Addr} {u : HO} {od : Obj} (h : H d = some u) (s : Same (upd H d (.frz od u)) H') : Same H (upd H' d u) := fun b o q => by
  by_cases e : b = d
  · subst e
    rw [upd_same, ← h]
    exact q
  · rw [upd_ne e]
    exact s _ _ (by rw [upd_ne e]; exact q)
/-- all that is told by names that are looked at whole -/
def wholeOf (ks ns : List Str) (t : Str → List Str) (m : Str → Nat) : List Str := ks.flatMap fun w => if m w = 0 then toldAt ns t w else []
def closeM (ns : List Str) (t : Str → List Str) (m : Str → Nat) (n : Str) : Nat := if n ∈ wholeOf (("#" : Str) :: ns) ns t m then 0 else m n
theorem whole_len (ns : List Str) (t : Str → List Str) (m : Str → Nat) {l : List Str} (h : ∀ w ∈ l, (toldAt ns t w).length ≤ 7) : (wholeOf l ns t m).length ≤ 7 * l.length := by
  induction l with
  | nil => exact Nat.zero_le _
  | cons w l ih =>
    have q := ih fun z hz => h z (List.mem_cons_of_mem _ hz)
    have e : wholeOf (w :: l) ns t m = (if m w = 0 then toldAt ns t w else []) ++ wholeOf l ns t m := List.flatMap_cons
    rw [e, List.length_append, List.length_cons, Nat.mul_add]
    have q2 := h w List.mem_cons_self
    split
    · omega
    · simp only [List.length_nil]
      omega
theorem whole_next {ks ns : List Str} {t : Str → List Str} {m : Str → Nat} {i : Nat} {w : Str} (h : ks[i]? = some w) : wholeOf (ks.take (i + 1)) ns t m = wholeOf (ks.take i) ns t m ++ (if m w = 0 then toldAt ns t w else []) := by
  unfold wholeOf
  rw [List.take_add_one, h, List.flatMap_append]
  simp
theorem kv_ne {ns : List Str} {A : Str → Addr} {f : Str → V} (n0 : ("#" : Str) ∉ ns) : HO.dK (kvT ns A) ≠ HO.dK (kvG (("#" : Str) :: ns) f) := fun z => by
  injection z with z
  cases ns with
  | nil => cases z
  | cons a l =>
    unfold kvT kvG at z
    rw [List.map_cons, List.map_cons] at z
    injection z with z1 z2
    have e := congrArg Prod.fst z1
    have e2 : a = "#" := Sum.inr.inj e
    exact n0 (e2 ▸ List.mem_cons_self)
/-- Keys stay where a dict of numbers changes -/
theorem KeysO.keepD {K : PySem.W.Frag} {H H' : Hp} {x d : Addr} {ns : List Str} {t : Str → List Str} {f : Str → V} (h : KeysO K H x ns t) (n0 : ("#" : Str) ∉ ns) (hd : H d = some (.dK (kvG (("#" : Str) :: ns) f))) (s : ∀ b o, b ≠ d → H b = some o → H' b = some o) : KeysO K H' x ns t := by
  obtain ⟨dx, tn, d0, A, h1, h2, h3, h4, h5⟩ := h
  exact ⟨dx, tn, d0, A, s _ _ (ne_of h1 hd (by intro z; cases z)) h1, s _ _ (ne_of h2 hd (by intro z; cases z)) h2, s _ _ (ne_of h3 hd (kv_ne n0)) h3, fun n hn => s _ _ (ne_of (h4 n hn) hd (by intro z; cases z)) (h4 n hn), h5⟩
def spClose (K : PySem.W.Frag) : Sp := fun vs H Q _ => ∃ (x d : Addr) (ns : List Str) (t : Str → List Str) (m : Str → Nat), vs = [.ref x, .ref d] ∧ KeysO K H x ns t ∧ ("#" : Str) ∉ ns ∧ H d = some (.dK (kvG (("#" : Str) :: ns) (numV m))) ∧
  ∀ H' r, Same H H' → H' r = some (.dK (kvG (("#" : Str) :: ns) (numV (closeM ns t m)))) → Q (.ref r) H'
section
variable {P : Program} {w : World} {K : PySem.W.Frag} {mg : Str → Option Value} {base : Heap}
abbrev NC : List Str := ["keys", "numbers", "told", "name", "m", "other"]
theorem sc_cl : FnScope NC ["keys", "numbers"] (defScope s__closed) := ⟨rfl, rfl, rfl, by decide +kernel, rfl, by decide +kernel, by decide +kernel⟩
theorem ok_closed (B : Bk K mg) : Df P w K mg base CX0 5 "_closed" ["keys", "numbers"] (spClose K) := by
  obtain ⟨fd, F⟩ := B.F_closed
  obtain ⟨fdT, GT, FT⟩ := ok_told (P := P) (w := w) (base := base) B
  have bT : Binds K fdT ["self", "name"] [] := FT.binds fun _ _ _ _ _ _ us hl => match us, hl with | [_, _], _ => rfl
  refine ⟨⟨fd, ?_, F.binds fun _ _ _ _ _ _ us hl => match us, hl with | [_, _], _ => rfl⟩, B.g_closed, F.kp⟩
  refine F.ok sc_cl (fun vs H Q E h => ?_) (fun cdv A outer s H vs Q E hr h => ?_)
  · obtain ⟨_, _, _, _, _, rfl, _⟩ := h
    rfl
  · obtain ⟨x, d, ns, t, m, rfl, ko, n0, hd, k⟩ := h
    have hu := hu_of hr
    refine ⟨_, pss_cons (ps_set (i := 2) sc_cl.nd rfl (Or.inr rfl) (pe_lock (pe_lc2 (own := [("name", 3), ("m", 4), ("other", 5)]) (vs1 := [5]) (g := gTup K 2 (gCons (gName 3) (gCons (gName 4) gNil))) (g1 := gName 5) (tt := tTest (tOp rEq (tVar 4) (tC (.int 0)))) (tt1 := tYes)
          (wi1 := iTup K (tMeth (He.ga K "Keys") "told" (spTold K) [] (fun _ _ _ => False) (tVar 0) (tCons (tVar 3) tNil))) rfl sc_cl.nd (pi_items (pv 1)) (blkOk_by (N := NC) (sc := defScope s__closed) (by decide +kernel)) (by decide)
          (fun _ _ _ _ _ => pg_tup rfl (pgs_cons (pg_name (i := 3) sc_cl.nd rfl (Or.inl rfl)) (pgs_cons (pg_name (i := 4) sc_cl.nd rfl (Or.inl rfl)) pgs_nil))) (fun _ _ _ _ _ => pts_one (pt_cmpR op_eq (pv 4) pe_int (nomark _)))
          (fun _ _ _ _ _ => pi_tup (pe_meth (E := fun _ _ _ => False) (pv 0) B.cl_Keys B.me_Keys_told GT hr bT .nil passF (pa_cons (pv 3) pa_nil))) (fun _ _ _ _ _ => pg_name (i := 5) sc_cl.nd rfl (Or.inl rfl)) (fun _ _ _ _ _ => pts_nil) (fun _ _ _ _ _ => pv 5))))
      (pss_one (ps_ret (pe_lock (pe_dc (own := [("name", 3), ("m", 4)]) (g := gTup K 2 (gCons (gName 3) (gCons (gName 4) gNil))) (tt := tYes) rfl sc_cl.nd (pi_items (pv 1)) (blkOk_by (N := NC) (sc := defScope s__closed) (by decide +kernel))
          (fun _ _ _ _ _ => pg_tup rfl (pgs_cons (pg_name (i := 3) sc_cl.nd rfl (Or.inl rfl)) (pgs_cons (pg_name (i := 4) sc_cl.nd rfl (Or.inl rfl)) pgs_nil))) (fun _ _ _ _ _ => pts_nil) (fun _ _ _ _ _ => pv 3)
          (tv := tIf (tTest (tOp (rIn K false) (tVar 3) (tVar 2))) (tC (.int 0)) (tVar 4))
          (fun _ _ _ _ _ => pe_ifExp (pt_cmpR op_in_seq (pv 3) (pv 2) (by rfl)) pe_int (pv 4)))))), ?_⟩
    obtain ⟨_, _, _, _, _, _, _, _, nd, l7, _, t7⟩ := id ko
    have big : (1000 : Nat) ≤ sizeLine := by decide
    have ndk : (("#" : Str) :: ns).Nodup := List.nodup_cons.mpr ⟨n0, nd⟩
    have tl7 : ∀ w ∈ (("#" : Str) :: ns), (toldAt ns t w).length ≤ 7 := fun w hw => by
      unfold toldAt
      by_cases e : w = "#"
      · rw [if_pos e]
        exact l7
      · rw [if_neg e]
        exact (t7 w ((List.mem_cons.mp hw).resolve_left e)).1
    have lw : (wholeOf (("#" : Str) :: ns) ns t m).length ≤ 56 := by
      have q := whole_len ns t m tl7
      rw [List.length_cons] at q
      omega
    have itm : ∀ {i : Nat} {u v : V}, ((kvG (("#" : Str) :: ns) (numV m))[i]?.map fun kv => kV kv.1) = some u → (kvG (("#" : Str) :: ns) (numV m))[i]?.map Prod.snd = some v → ∃ n, (("#" : Str) :: ns)[i]? = some n ∧ u = .str n ∧ v = iV (m n) := by
      intro i u v e1 e2
      unfold kvG at e1 e2
      rw [List.getElem?_map] at e1 e2
      cases q : (("#" : Str) :: ns)[i]? with
      | none => rw [q] at e1; cases e1
      | some n =>
        rw [q] at e1 e2
        cases e1
        cases e2
        exact ⟨n, rfl, rfl, rfl⟩
    refine ⟨d, _, hd, trivial, fun od => ?_⟩
    have kox : KeysO K (upd H d (.frz od (.dK (kvG (("#" : Str) :: ns) (numV m))))) x ns t := ko.keepD n0 hd fun b o nb q => by rw [upd_ne nb]; exact q
    refine ⟨_, rfl, d, od, _, rfl, upd_same, fun D hD => ?_⟩
    refine walk_by (walk_items (d := d) (o := od) (kvs := kvG (("#" : Str) :: ns) (numV m))) _ (fun i H' => Same (upd H d (.frz od (.dK (kvG (("#" : Str) :: ns) (numV m))))) H' ∧ i ≤ (("#" : Str) :: ns).length ∧ H' D = some (.lst ((wholeOf ((("#" : Str) :: ns).take i) ns t m).map V.str)))
      ⟨Same_new hD, Nat.zero_le _, upd_same⟩ (fun i H' p => p.1 _ _ upd_same) (fun i v H1 H2 hi ⟨s1, li, hD1⟩ y => ?_) (fun H1 ⟨s1, _, hD1⟩ => ?_)
    · obtain ⟨T, u, v', rfl, nT, rfl, e1, e2⟩ := y
      have s2 := s1.trans (Same_new (a := T) (o := HO.tup [u, v']) nT)
      have hD2 := Same_new (a := T) (o := HO.tup [u, v']) nT _ _ hD1
      have hi' : i < (("#" : Str) :: ns).length := by rw [kvG_len] at hi; exact hi
      obtain ⟨n, hn, rfl, rfl⟩ := itm e1 e2
      have hni : n ∈ (("#" : Str) :: ns) := List.mem_of_getElem? hn
      refine ⟨_, _, rfl, SqT.of upd_same, rfl, _, _, rfl, _, _, rfl, rfl, rfl, _, rfl, rfl, _, rfl, two (fun h1 => ?_) (fun h1 => ?_)⟩
      · have m0 : m n = 0 := by
          have e := V.int.inj (of_decide_eq_true h1)
          omega
        have ko2 := kox.same s2
        obtain ⟨dx2, _, _, _, hx2, _⟩ := id ko2
        have hin : n = "#" ∨ n ∈ ns := List.mem_cons.mp hni
        refine ⟨_, rfl, x, dx2, _, rfl, hx2, rfl, _, rfl, x, n, ns, t, rfl, ko2, fun _ p hp => ⟨p, rfl, ⟨_, SqT.of hp⟩, ?_⟩, fun h => absurd hin h⟩
        refine walk_by (walk_tup (xs := (toldAt ns t n).map V.str)) _ (fun j H' => Same (upd H d (.frz od (.dK (kvG (("#" : Str) :: ns) (numV m))))) H' ∧ Same (upd H1 T (.tup [V.str n, iV (m n)])) (upd H' D (.lst ((wholeOf ((("#" : Str) :: ns).take i) ns t m).map V.str))) ∧ j ≤ (toldAt ns t n).length ∧ H' p = some (.tup ((toldAt ns t n).map V.str)) ∧ H' D = some (.lst ((wholeOf ((("#" : Str) :: ns).take i) ns t m ++ (toldAt ns t n).take j).map V.str)))
          ⟨s2, ?_, Nat.zero_le _, hp, by rw [List.take_zero, List.append_nil]; exact hD2⟩ (fun j H' p' => SqT.of p'.2.2.2.1) (fun j v H3 H4 hj ⟨s3, s3', lj, hp3, hD3⟩ y => ?_) (fun H3 ⟨s3, _, _, _, hD3⟩ => ?_)
        · exact fun b o q => by
            by_cases e : b = D
            · subst e
              rw [upd_same, ← hD2]
              exact q
            · rw [upd_ne e]
              exact q
        · obtain ⟨rfl, hv⟩ := y
          obtain ⟨o, ho, rfl⟩ := at_str hv
          have hj' : j < (toldAt ns t n).length := by rw [List.length_map] at hj; exact hj
          refine ⟨rfl, iteT (B := ∃ z : Nat, z = 0) ?_⟩
          have npD : p ≠ D := ne_of hp3 hD3 (by intro z; cases z)
          refine ⟨_, rfl, _, hD3, ?_, fun b o' q' => ?_, ?_, hj', by rw [upd_ne npD]; exact hp3, ?_⟩
          · have q1 := whole_len ns t m (l := (("#" : Str) :: ns).take i) fun w hw => tl7 w (List.mem_of_mem_take hw)
            have q2 := tl7 n hni
            rw [List.length_take, List.length_cons] at q1
            rw [List.length_map, List.length_append, List.length_take]
            omega
          · rw [upd_ne (ne_of_none q' hD)]
            exact s3 _ _ q'
          · exact fun b o' q' => by
              by_cases e : b = D
              · subst e
                rw [upd_same]
                have := s3' _ _ q'
                rw [upd_same] at this
                exact this
              · rw [upd_ne e, upd_ne e]
                have := s3' _ _ q'
                rw [upd_ne e] at this
                exact this
          · rw [upd_same, List.take_add_one, ho, ← List.append_assoc]
            exact congrArg (fun z => some (HO.lst z)) (by simp)
        · refine ⟨s3, hi', ?_⟩
          rw [whole_next hn, if_pos m0]
          rw [List.length_map, List.take_length] at hD3
          exact hD3
      · have m0 : m n ≠ 0 := fun e => of_decide_eq_false h1 (by rw [e]; rfl)
        refine ⟨s2, hi', ?_⟩
        rw [whole_next hn, if_neg m0, List.append_nil]
        exact hD2
    · rw [kvG_len, List.take_length] at hD1
      refine ⟨s1 _ _ upd_same, ?_⟩
      have sm := Same_unlock hd s1
      have nDd : D ≠ d := ne_of hD1 (s1 _ _ upd_same) (by intro z; cases z)
      have hDm : (upd H1 d (.dK (kvG (("#" : Str) :: ns) (numV m)))) D = some (.lst ((wholeOf (("#" : Str) :: ns) ns t m).map V.str)) := by rw [upd_ne nDd]; exact hD1
      have hdm : (upd H1 d (.dK (kvG (("#" : Str) :: ns) (numV m)))) d = some (.dK (kvG (("#" : Str) :: ns) (numV m))) := upd_same
      generalize (upd H1 d (.dK (kvG (("#" : Str) :: ns) (numV m)))) = Hm at sm hDm hdm
      refine ⟨d, _, hdm, trivial, fun od2 => ?_⟩
      refine ⟨_, rfl, d, od2, _, rfl, upd_same, fun D2 hD2 => ?_⟩
      refine walk_by (walk_items (d := d) (o := od2) (kvs := kvG (("#" : Str) :: ns) (numV m))) _ (fun i H' => Same (upd Hm d (.frz od2 (.dK (kvG (("#" : Str) :: ns) (numV m))))) H' ∧ i ≤ (("#" : Str) :: ns).length ∧ H' D2 = some (.dK (kvG ((("#" : Str) :: ns).take i) (numV (closeM ns t m)))))
        ⟨Same_new hD2, Nat.zero_le _, upd_same⟩ (fun i H' p => p.1 _ _ upd_same) (fun i v H3 H4 hi ⟨s3, li, hE⟩ y => ?_) (fun H3 ⟨s3, _, hE⟩ => ?_)
      · obtain ⟨T, u, v', rfl, nT, rfl, e1, e2⟩ := y
        have s4 := s3.trans (Same_new (a := T) (o := HO.tup [u, v']) nT)
        have hE4 := Same_new (a := T) (o := HO.tup [u, v']) nT _ _ hE
        have hD4 : (upd H3 T (.tup [u, v'])) D = some (.lst ((wholeOf (("#" : Str) :: ns) ns t m).map V.str)) := s4 _ _ (by rw [upd_ne nDd]; exact hDm)
        have hi' : i < (("#" : Str) :: ns).length := by rw [kvG_len] at hi; exact hi
        obtain ⟨n, hn, rfl, rfl⟩ := itm e1 e2
        have nin := nd_take ndk hn
        have fin : ∀ z : V, z = numV (closeM ns t m) n → ∃ kvs ky, V.str n = kV ky ∧ (upd H3 T (.tup [V.str n, iV (m n)])) D2 = some (.dK kvs) ∧ kvs.length < sizeLine ∧ (Same (upd Hm d (.frz od2 (.dK (kvG (("#" : Str) :: ns) (numV m))))) (upd (upd H3 T (.tup [V.str n, iV (m n)])) D2 (.dK (putK kvs ky z))) ∧ i + 1 ≤ (("#" : Str) :: ns).length ∧ (upd (upd H3 T (.tup [V.str n, iV (m n)])) D2 (.dK (putK kvs ky z))) D2 = some (.dK (kvG ((("#" : Str) :: ns).take (i + 1)) (numV (closeM ns t m))))) := by
          intro z ez
          subst ez
          refine ⟨_, Sum.inr n, rfl, hE4, ?_, fun b o q => ?_, hi', ?_⟩
          · rw [kvG_len, List.length_take, List.length_cons]
            omega
          · rw [upd_ne (ne_of_none q hD2)]
            exact s4 _ _ q
          · rw [upd_same, take_next hn, putG_new nin]
        refine ⟨_, _, rfl, SqT.of upd_same, rfl, _, _, rfl, _, _, rfl, rfl, rfl, iteT (B := ∃ z : Nat, z = 0) ?_⟩
        refine ⟨_, rfl, _, rfl, _, rfl, D, _, rfl, .inl (SqL.of hD4), rfl, fl_str, _, rfl, two (fun h1 => ?_) (fun h1 => ?_)⟩
        · have h1' : inV (.str n) ((wholeOf (("#" : Str) :: ns) ns t m).map V.str) = true := h1
          rw [inV_str] at h1'
          refine fin _ ?_
          show V.int 0 = iV (closeM ns t m n)
          unfold closeM
          rw [if_pos (of_decide_eq_true h1')]
          rfl
        · have h1' : inV (.str n) ((wholeOf (("#" : Str) :: ns) ns t m).map V.str) = false := h1
          rw [inV_str] at h1'
          refine ⟨_, rfl, fin _ ?_⟩
          show iV (m n) = iV (closeM ns t m n)
          unfold closeM
          rw [if_neg (of_decide_eq_false h1')]
      · rw [kvG_len, List.take_length] at hE
        have nD2d : D2 ≠ d := fun z => by rw [z, upd_same] at hD2; cases hD2
        exact ⟨s3 _ _ upd_same, k _ _ (sm.trans (Same_unlock hdm s3)) (by rw [upd_ne nD2d]; exact hE)⟩
end
end Jd
namespace Jd
open PySem PySem.Spec PyProof.Rows L2
/-! ### dicts of numbers compared -/
def hitN (ms : List Str) (m u : Str → Nat) : List Str → Bool
  | [] => true
  | n :: r => if n ∈ ms then (decide (m n = u n) && hitN ms m u r) else false
theorem hitN_eq (ms : List Str) (t u : Str → Nat) : ∀ ns : List Str, hitN ms t u ns = decide (∀ n ∈ ns, n ∈ ms ∧ t n = u n)
  | [] => by
    unfold hitN
    exact (decide_eq_true fun n h => by cases h).symm
  | n :: r => by
    unfold hitN
    rw [hitN_eq ms t u r]
    by_cases h : n ∈ ms
    · rw [if_pos h, ← Bool.decide_and]
      refine decide_eq_decide.mpr ⟨fun q m hm => ?_, fun q => ⟨(q n List.mem_cons_self).2, fun m hm => q m (List.mem_cons_of_mem _ hm)⟩⟩
      rcases List.mem_cons.mp hm with rfl | hm
      · exact ⟨h, q.1⟩
      · exact q.2 m hm
    · rw [if_neg h]
      exact (decide_eq_false fun q => h (q n List.mem_cons_self).1).symm
def rEqN : R2 := fun x y H Q => ∃ (a b : Addr) (ns ms : List Str) (m u : Str → Nat), x = .ref a ∧ y = .ref b ∧ H a = some (.dK (kvG ns (numV m))) ∧ H b = some (.dK (kvG ms (numV u))) ∧
  Q (.bl (decide (ns.length = ms.length ∧ ∀ n ∈ ns, n ∈ ms ∧ m n = u n))) H
section
variable {X : Cx} {pins : List (Addr × Obj)} {σ : L2.St} {H : Hp} {s : Shared}
theorem hits_N (I : Inv X pins σ H s) {A0 : Around} (hu : A0.units + 1 < cLine) {ms : List Str} {m u : Str → Nat} {vb : List (Key × Value)} (rb : KV (kvG ms (numV u)) vb) :
    ∀ (ns : List Str) (va : List (Key × Value)), KV (kvG ns (numV m)) va → PySem.W.KeqHitsP X.prog X.w A0 s vb va (hitN ms m u ns)
  | [], va, ra => by
    cases ra
    exact .nil
  | n :: r, va, ra => by
    cases ra with
    | @cons p q ps qs h tl =>
      obtain ⟨key, v⟩ := q
      obtain ⟨h1, h2⟩ := h
      have h1' : (Sum.inr n : Key) = key := h1
      subst h1'
      unfold hitN
      by_cases hm : n ∈ ms
      · rw [if_pos hm]
        have rr : RelO (some (iV (u n))) (valueAt vb (Sum.inr n)) := by
          have q := rb.val (Sum.inr n)
          rw [valV_kvG hm] at q
          exact q
        obtain ⟨y, hy, ry⟩ := rr.some_of
        obtain ⟨as, r1⟩ := Dp.reads I _ _ v (show Dp X.K H (iV (m n)) (.int (m n)) from .int _) h2
        obtain ⟨bs, r2⟩ := Dp.reads I _ _ y (show Dp X.K H (iV (u n)) (.int (u n)) from .int _) ry
        have e := SeqAt.eqAt_reads (.int (m n)) (.int (u n)) A0 s _ _ as bs r1 r2 (by simp [PyData.canLay0]) (by simp [PyData.canLay0])
          (by
            have z1 : (PyData.int (m n)).depth = 0 := by simp [PyData.depth]
            rw [z1]
            have := Nat.min_le_left 0 (PyData.int (u n)).depth
            omega)
        have e2 : PyData.eqv (.int (m n)) (.int (u n)) = decide (m n = u n) := by
          rw [PyData.eqv]
          by_cases h : m n = u n
          · rw [h, decide_eq_true rfl, beq_self_eq_true]
          · rw [decide_eq_false h]
            exact beq_eq_false_iff_ne.mpr fun q => h (by omega)
        rw [e2] at e
        exact .hit hy e.eqP (hits_N I hu rb r qs tl)
      · rw [if_neg hm]
        have rr : RelO none (valueAt vb (Sum.inr n)) := by
          have q := rb.val (Sum.inr n)
          rw [valV_kvGN hm] at q
          exact q
        exact .miss rr.none_of
theorem op_eqN (hu : X.A.units + 64 < cLine) : OpR X (compareOp .Eq) rEqN := by
  intro pins s σ H x y v u Q I rx ry h
  obtain ⟨a, b, ns, ms, m, u', rfl, rfl, ha, hb, q⟩ := h
  cases (show v = Value.ref a from rx)
  cases (show u = Value.ref b from ry)
  obtain ⟨_, ya, va, ra, da⟩ := (show ObjOk X.prog X.w H s.heap a (.dK (kvG ns (numV m))) from I.hok a _ ha)
  obtain ⟨_, yb, vb, rb, db⟩ := (show ObjOk X.prog X.w H s.heap b (.dK (kvG ms (numV u'))) from I.hok b _ hb)
  show wpAny (model X.prog X.w) X.A (richCompare .Eq (.ref a) (.ref b)) (EP X pins σ Q) X.xe s
  refine PySem.W.rcP_dicts (knd := mixKind X.prog X.w) (r := hitN ms m u' ns) ya yb da db (by omega) (fun _ => hits_N I (A0 := X.A.in1) (by show X.A.units + 1 + 1 < cLine; omega) rb ns va ra) _ _ ?_
  have e1 : va.length = ns.length := by rw [← ra.length, kvG_len]
  have e2 : vb.length = ms.length := by rw [← rb.length, kvG_len]
  have e : (va.length == vb.length && hitN ms m u' ns) = decide (ns.length = ms.length ∧ ∀ n ∈ ns, n ∈ ms ∧ m n = u' n) := by
    rw [e1, e2, hitN_eq, Bool.decide_and]
    rfl
  rw [e]
  exact ⟨.bl _, H, I, rfl, q⟩
end
end Jd
/-! x[y], binary operators, <, <= by own defs; what is never run -/
namespace Jd
open PySem PySem.Spec PyProof.Rows L2
section
variable {X : Cx} {CX : CXT} {k : Nat} {C f : Addr} {fd : FuncData} {ps : List Str} {sp : Sp} {E : XK}
theorem cmpBack_of {X : Cx} {pins : List (Addr × Obj)} {σ : L2.St} {Q : VK} {v : Value} {s : Shared} (h : EP X pins σ Q v s) : PySem.W.CmpBack (EP X pins σ Q) v s := by
  obtain ⟨y, H', I', rz, q⟩ := id h
  cases v <;> first | exact h | skip
  cases y with
  | non => cases rz
  | bl _ => cases rz
  | ref _ => cases rz
  | ty _ => cases rz
  | int _ => obtain ⟨t, rz⟩ := rz; cases rz
  | str _ => obtain ⟨t, rz⟩ := rz; cases rz
  | byt _ => obtain ⟨t, rz⟩ := rz; cases rz
  | flt _ => obtain ⟨t, rz⟩ := rz; cases rz
def PlainIxO (b : Expr) : Prop := ∀ o i, subscripted b true o i = runValue (.builtin "lifetime.subscript" ⟨[o, i], []⟩)
def rIxOwn (C : Addr) (sp : Sp) (E : XK) : R2 := fun x y H Q => ∃ a dx fs, x = .ref a ∧ H a = some (.ins C dx fs) ∧ sp [x, y] H Q E
def rBinOwn (K : PySem.W.Frag) (C : Addr) (sp : Sp) (E : XK) : R2 := fun x y H Q => ∃ a dx fs, x = .ref a ∧ H a = some (.ins C dx fs) ∧ TyX K H y (.ref C) ∧ sp [x, y] H Q E
theorem pe_ixOwn {a b : Expr} {ta tb : TE} {pos : Pos} (F : FnOk X.prog X.w X.K X.mg X.base CX k f fd ps sp) (hr : Room (k + 1) X.A) (hs : PySem.W.findIn X.K (.ref C) "__getitem__" = some (some (.ref f)) ∧ PySem.W.isFn X.K (.ref f) = true) (hf : PySem.W.fnIn X.K f = true)
    (hb : Binds X.K fd ps []) (hx : Passes CX X E) (ha : PE X a ta) (he : PE X b tb) (hp : PlainIxO b) : PE X (.Subscript a b pos) (tOp (rIxOwn C sp E) ta tb) := by
  refine ⟨fun pins s σ H Q I h => ?_⟩
  refine Subscript_ (binT ha he I h fun v u s2 x y H2 I2 rx ry q => ?_)
  obtain ⟨p, dx, fs, rfl, hi, hsp⟩ := q
  cases rx
  obtain ⟨mA, J, _⟩ := ins_get I2.hok hi
  obtain ⟨od, J, _⟩ := J.look
  obtain ⟨m, hF⟩ := I2.fr
  exact PySem.W.sub_K hF I2.ok.mod.kin J hs.1 hf hs.2 (own_run X.A.in1 rfl F hr.in1 hb hx I2 (.cons (show RelV (V.ref p) (Value.ref p) from rfl) (.cons ry .nil)) hsp) (hp _ _)
theorem op_binOwn {op : Operator} (F : FnOk X.prog X.w X.K X.mg X.base CX k f fd ps sp) (hr : Room k X.A) (hc : PySem.W.selfFirst X.K C = true) (hs : PySem.W.findIn X.K (.ref C) (PySem.dunder op.info.2) = some (some (.ref f)) ∧ PySem.W.isFn X.K (.ref f) = true)
    (hb : Binds X.K fd ps []) (hx : Passes CX X E) : OpR X (binaryOp op) (rBinOwn X.K C sp E) := by
  intro pins s σ H x y v u Q I rx ry h
  obtain ⟨a, dx, fs, rfl, ha, ht, hsp⟩ := h
  obtain ⟨P, kx, hP, _⟩ := kit_of I ry ht
  cases rx
  obtain ⟨mA, J, _⟩ := ins_get I.hok ha
  obtain ⟨od, J, _⟩ := J.look
  obtain ⟨m, hF⟩ := I.fr
  exact PySem.W.binop_K hF I.ok.mod.kin J (kx.ty _ _ I.kIn hP) hc hs.1 hs.2 (wpAny_mono (own_run X.A rfl F hr hb hx I (.cons (show RelV (V.ref a) (Value.ref a) from rfl) (.cons ry .nil)) hsp) (fun v s' z => cmpBack_of z) fun _ _ x => x)
theorem op_cmpOwn {op : CmpOp} (ho : compareOp op = fun u v => richCompare op u v) (F : FnOk X.prog X.w X.K X.mg X.base CX k f fd ps sp) (hr : Room k X.A) (hs : PySem.W.findIn X.K (.ref C) (cmpInfo op).2.1 = some (some (.ref f)) ∧ PySem.W.isFn X.K (.ref f) = true)
    (hb : Binds X.K fd ps []) (hx : Passes CX X E) : OpR X (compareOp op) (rBinOwn X.K C sp E) := by
  intro pins s σ H x y v u Q I rx ry h
  obtain ⟨a, dx, fs, rfl, ha, ht, hsp⟩ := h
  obtain ⟨P, kx, hP, _⟩ := kit_of I ry ht
  cases rx
  obtain ⟨mA, J, _⟩ := ins_get I.hok ha
  obtain ⟨od, J, _⟩ := J.look
  obtain ⟨m, hF⟩ := I.fr
  rw [ho]
  exact PySem.W.cmp_K (op := op) (tb := .ref C) hr.units0 hF I.ok.mod.kin J (kx.ty _ _ I.kIn hP) (by unfold PySem.W.notFirst; rw [beq_self_eq_true, Bool.true_or]) hs.1 hs.2 (wpAny_mono (own_run X.A rfl F hr hb hx I (.cons (show RelV (V.ref a) (Value.ref a) from rfl) (.cons ry .nil)) hsp) (fun v s' z => cmpBack_of z) fun _ _ x => x)
/-- what is never run -/
theorem pe_no {e : Expr} : PE X e (fun _ _ _ => False) := ⟨fun _ _ _ _ _ _ h => h.elim⟩
end
end Jd
namespace Jd
open PySem PySem.Spec PyProof.Rows L2
/-! ### the Stage -/
abbrev hs (ns : List Str) : List Str := ("#" : Str) :: ns
/-- the numbers of a Stage -/
structure StM (ns : List Str) (t : Str → List Str) (m : Str → Nat) : Prop where
  n0 : ("#" : Str) ∉ ns
  nm : ∀ n ∈ ns, isName (cd n) = true
  dv : ∀ n ∈ hs ns, m n = 0 ∨ m n ∣ MB
  cl : ∀ w ∈ hs ns, m w = 0 → ∀ o ∈ toldAt ns t w, m o = 0
/-- an object of Stage; its dict may stand locked -/
def StageR (K : PySem.W.Frag) (H : Hp) (x kk d : Addr) (ns : List Str) (m : Str → Nat) : Prop := (∃ dx, H x = some (.ins (He.ga K "Stage") dx [("_schema", .ref kk), ("_numbers", .ref d)])) ∧ Rd H d (.dK (kvG (hs ns) (numV m)))
structure StageO (K : PySem.W.Frag) (H : Hp) (x kk d : Addr) (ns : List Str) (t : Str → List Str) (m : Str → Nat) : Prop where
  x : ∃ dx, H x = some (.ins (He.ga K "Stage") dx [("_schema", .ref kk), ("_numbers", .ref d)])
  k : KeysO K H kk ns t
  d : H d = some (.dK (kvG (hs ns) (numV m)))
theorem StageO.r {K : PySem.W.Frag} {H : Hp} {x kk d : Addr} {ns : List Str} {t : Str → List Str} {m : Str → Nat} (h : StageO K H x kk d ns t m) : StageR K H x kk d ns m := ⟨h.x, .inl h.d⟩
theorem StageO.same {K : PySem.W.Frag} {H H' : Hp} {x kk d : Addr} {ns : List Str} {t : Str → List Str} {m : Str → Nat} (h : StageO K H x kk d ns t m) (s : Same H H') : StageO K H' x kk d ns t m := ⟨let ⟨dx, e⟩ := h.x; ⟨dx, s _ _ e⟩, h.k.same s, s _ _ h.d⟩
theorem StageR.same {K : PySem.W.Frag} {H H' : Hp} {x kk d : Addr} {ns : List Str} {m : Str → Nat} (h : StageR K H x kk d ns m) (s : Same H H') : StageR K H' x kk d ns m := ⟨let ⟨dx, e⟩ := h.1; ⟨dx, s _ _ e⟩, h.2.elim (fun e => .inl (s _ _ e)) fun ⟨o, e⟩ => .inr ⟨o, s _ _ e⟩⟩
/-- where any dict is locked -/
theorem StageR.lock {K : PySem.W.Frag} {H : Hp} {x kk d e : Addr} {ns : List Str} {m : Str → Nat} {kvs : List (Key × V)} {od : Obj} (h : StageR K H x kk d ns m) (he : H e = some (.dK kvs)) : StageR K (upd H e (.frz od (.dK kvs))) x kk d ns m := by
  obtain ⟨⟨dx, h1⟩, h2⟩ := h
  refine ⟨⟨dx, by rw [upd_ne (ne_of h1 he (by intro z; cases z))]; exact h1⟩, ?_⟩
  by_cases q : d = e
  · subst q
    rcases h2 with h2 | ⟨o, h2⟩
    · rw [he] at h2
      cases h2
      exact .inr ⟨od, upd_same⟩
    · rw [he] at h2
      cases h2
  · rcases h2 with h2 | ⟨o, h2⟩
    · exact .inl (by rw [upd_ne q]; exact h2)
    · exact .inr ⟨o, by rw [upd_ne q]; exact h2⟩
theorem kvG_congr {ns : List Str} {f g : Str → V} (h : ∀ n ∈ ns, f n = g n) : kvG ns f = kvG ns g := by
  unfold kvG
  exact List.map_congr_left fun n hn => by rw [h n hn]
theorem gd_R {H : Hp} {d : Addr} {ns : List Str} {f : Str → V} {n : Str} (hd : Rd H d (.dK (kvG ns f))) (hn : n ∈ ns) : DGet H d (.str n) (some (f n)) := .inl ⟨_, Sum.inr n, hd, rfl, (valV_kvG hn).symm⟩
theorem gd_RN {H : Hp} {d : Addr} {ns : List Str} {f : Str → V} {n : Str} (hd : Rd H d (.dK (kvG ns f))) (hn : n ∉ ns) : DGet H d (.str n) none := .inl ⟨_, Sum.inr n, hd, rfl, (valV_kvGN hn).symm⟩
theorem KeysO.keepS {K : PySem.W.Frag} {H H' : Hp} {x u : Addr} {ns : List Str} {t : Str → List Str} {C dx : Addr} {fs : List (Str × V)} (h : KeysO K H x ns t) (hu : H u = some (.ins C dx fs)) (hf : ∀ a b, [(("_names" : Str), a), (("_told" : Str), b)] ≠ fs) (s : KeepX u H H') : KeysO K H' x ns t := by
  obtain ⟨dx0, tn, d, A, h1, h2, h3, h4, h5⟩ := h
  refine ⟨dx0, tn, d, A, s _ _ (ne_of h1 hu ?_) h1, s _ _ (ne_of h2 hu (by intro z; cases z)) h2, s _ _ (ne_of h3 hu (by intro z; cases z)) h3, fun n hn => s _ _ (ne_of (h4 n hn) hu (by intro z; cases z)) (h4 n hn), h5⟩
  intro z
  injection z with _ _ z
  exact hf _ _ z
theorem nf_self {K : PySem.W.Frag} {C : Addr} : PySem.W.notFirst K C (.ref C) = true := by
  unfold PySem.W.notFirst
  rw [beq_self_eq_true, Bool.true_or]
def spSI (K : PySem.W.Frag) : Sp := fun vs H Q _ => ∃ (x dx kk f : Addr) (ns zs : List Str) (t : Str → List Str), vs = [.ref x, .ref kk, .ref f] ∧ H x = some (.ins (He.ga K "Stage") dx []) ∧ KeysO K H kk ns t ∧ ("#" : Str) ∉ ns ∧ Sq K H f (zs.map V.str) ∧ zs.length ≤ 100 ∧ (∀ z ∈ zs, FldOk (hs ns) z) ∧
  ∀ H' d, KeepX x H H' → StageO K H' x kk d ns t (closeM ns t (joinS zs)) → Q .non H'
def spGet (K : PySem.W.Frag) : Sp := fun vs H Q E => ∃ (x kk d : Addr) (z : Str) (ns : List Str) (m : Str → Nat), vs = [.ref x, .str z] ∧ StageR K H x kk d ns m ∧ (z ∈ hs ns → Q (iV (m z)) H) ∧
  (z ∉ hs ns → ∀ H' d, Same H H' → H' d = some (.xd [("name", .str z)]) → E (.ref (He.ga K "NoName")) (some d) H')
def spSch (K : PySem.W.Frag) : Sp := fun vs H Q _ => ∃ (x kk d : Addr) (ns : List Str) (m : Str → Nat), vs = [.ref x] ∧ StageR K H x kk d ns m ∧ Q (.ref kk) H
def dvB (a b : Nat) : Bool := decide (a ∣ b)
def spDv : Sp := fun vs H Q _ => ∃ a b : Nat, vs = [iV a, iV b] ∧ a < 2 ^ 60 ∧ b < 2 ^ 60 ∧ Q (.bl (decide (a ∣ b))) H
def spEqS (K : PySem.W.Frag) : Sp := fun vs H Q _ => ∃ (x y kx ky dx dy : Addr) (ns ms : List Str) (t u : Str → List Str) (m m' : Str → Nat), vs = [.ref x, .ref y] ∧ StageO K H x kx dx ns t m ∧
  ((StageO K H y ky dy ms u m' ∧ Q (.bl (decide (ns.length = ms.length ∧ ∀ n ∈ ns, n ∈ ms ∧ t n = u n) && decide ((hs ns).length = (hs ms).length ∧ ∀ n ∈ hs ns, n ∈ hs ms ∧ m n = m' n))) H) ∨ ((∃ xs, H y = some (.tup xs)) ∧ Q (.bl false) H))
section
variable {P : Program} {w : World} {K : PySem.W.Frag} {mg : Str → Option Value} {base : Heap}
theorem sc_si : FnScope ["self", "keys", "fields"] ["self", "keys", "fields"] (defScope s_Stage___init__) := ⟨rfl, rfl, rfl, by decide +kernel, rfl, by decide +kernel, by decide +kernel⟩
theorem ok_Stage_init (B : Bk K mg) : ∃ fd, FnOk P w K mg base CX0 6 (He.ma K (He.ga K "Stage") "__init__") fd ["self", "keys", "fields"] (spSI K) ∧ Binds K fd ["self", "keys", "fields"] [] := by
  obtain ⟨fd, F⟩ := B.F_Stage___init
  obtain ⟨fdJ, GJ, bJ⟩ := (ok_joined (P := P) (w := w) (base := base) B).ex
  have kJ := (ok_joined (P := P) (w := w) (base := base) B).kp
  obtain ⟨fdC, GC, bC⟩ := (ok_closed (P := P) (w := w) (base := base) B).ex
  have kC := (ok_closed (P := P) (w := w) (base := base) B).kp
  refine ⟨fd, ?_, F.binds fun _ _ _ _ _ _ us hl => match us, hl with | [_, _, _], _ => rfl⟩
  refine F.ok sc_si (fun vs H Q E h => ?_) (fun cdv A outer s H vs Q E hr h => ?_)
  · obtain ⟨_, _, _, _, _, _, _, rfl, _⟩ := h
    rfl
  · obtain ⟨x, dx, kk, f, ns, zs, t, rfl, hx, ko, n0, hf, l100, hz, k⟩ := h
    have hr4 : Room 4 _ := hr.mono (by decide)
    refine ⟨_, pss_cons (ps_fld (pv 0) (pv 1) rfl)
      (pss_one (ps_fld (pv 0) (pe_call GC hr rfl B.g_closed kC bC .nil pass0 (pa_cons (pv 1) (pa_cons (pe_call GJ hr4 rfl B.g_joined kJ bJ .nil pass0 (pa_cons (pv 1) (pa_cons (pv 2) pa_nil))) pa_nil))) rfl)), ?_⟩
    refine ⟨_, rfl, _, rfl, x, _, dx, [], rfl, hx, B.cl_Stage, B.no_Stage__schema, by decide, ?_⟩
    have ep : putF ("_schema" : Str) (V.ref kk) [] = [(("_schema" : Str), V.ref kk)] := rfl
    rw [ep]
    have kp : KeepX x H (upd H x (.ins (He.ga K "Stage") dx [("_schema", .ref kk)])) := fun b o n q => by
      rw [upd_ne n]
      exact q
    have ko1 := ko.keepS hx (by intro a b z; cases z) kp
    have hf1 := hf.keep hx kp
    have hx1 : (upd H x (.ins (He.ga K "Stage") dx [("_schema", .ref kk)])) x = some (.ins (He.ga K "Stage") dx [("_schema", .ref kk)]) := upd_same
    generalize (upd H x (.ins (He.ga K "Stage") dx [("_schema", .ref kk)])) = H1 at kp ko1 hf1 hx1
    refine ⟨_, rfl, _, rfl, _, rfl, kk, f, ns, zs, t, rfl, ko1, n0, hf1, l100, hz, fun H2 d2 s2 hd2 => ?_⟩
    refine ⟨kk, d2, ns, t, joinS zs, rfl, ko1.same s2, n0, hd2, fun H3 r s3 hr3 => ?_⟩
    have s13 := s2.trans s3
    have hx3 := s13 _ _ hx1
    refine ⟨_, rfl, x, _, dx, _, rfl, hx3, B.cl_Stage, B.no_Stage__numbers, (by show 1 < 1000; decide), ?_⟩
    have ep : putF ("_numbers" : Str) (V.ref r) [(("_schema" : Str), V.ref kk)] = [(("_schema" : Str), V.ref kk), (("_numbers" : Str), V.ref r)] := rfl
    rw [ep]
    refine k _ r (fun b o n q => ?_) ⟨⟨dx, upd_same⟩, ?_, ?_⟩
    · rw [upd_ne n]
      exact s13 _ _ (kp _ _ n q)
    · exact (ko1.same s13).keepS hx3 (by intro a b z; cases z) fun b o n q => by rw [upd_ne n]; exact q
    · rw [upd_ne (ne_of hr3 hx3 (by intro z; cases z))]
      exact hr3
theorem sc_sg : FnScope ["self", "name"] ["self", "name"] (defScope s_Stage___getitem__) := ⟨rfl, rfl, rfl, by decide +kernel, rfl, by decide +kernel, by decide +kernel⟩
theorem ok_get (B : Bk K mg) : ∃ fd, FnOk P w K mg base (L2.CX P w) 3 (He.ma K (He.ga K "Stage") "__getitem__") fd ["self", "name"] (spGet K) ∧ Binds K fd ["self", "name"] [] := by
  obtain ⟨fd, F⟩ := B.F_Stage___getitem
  obtain ⟨fdE, GE, bE⟩ := ok_nn (P := P) (w := w) (base := base) B
  obtain ⟨lxc, li, lt⟩ := B.lx_NoName
  refine ⟨fd, ?_, F.binds fun _ _ _ _ _ _ us hl => match us, hl with | [_, _], _ => rfl⟩
  refine F.okX sc_sg (fun vs H Q E h => ?_) (fun cdv A outer s H vs Q E hr h => ?_)
  · obtain ⟨_, _, _, _, _, _, rfl, _⟩ := h
    rfl
  · obtain ⟨x, kk, d, z, ns, m, rfl, ⟨⟨dx, hx⟩, hd⟩, k, kE⟩ := h
    have hu := hu_of hr
    refine ⟨_, pss_cons (ps_if (pt_cmp (pc_dnotin hu (pv 1) (pe_fld (pv 0) rfl)))
      (pss_one (ps_raise rfl (takes_of rfl rfl rfl rfl) (pmk_lex lxc li lt GE hr bE .nil pass0 (by rfl) B.g_NoName (pa_cons (pv 1) pa_nil)))) pss_nil)
      (pss_one (ps_ret (pe_dget hu (pe_fld (pv 0) rfl) (pv 1) (fun _ _ => rfl)))), ?_⟩
    by_cases hz : z ∈ hs ns
    · refine ⟨_, rfl, _, rfl, x, _, dx, _, _, rfl, hx, B.cl_Stage, B.no_Stage__numbers, rfl, d, _, rfl, gd_R hd hz, _, rfl, iteF ?_⟩
      exact ⟨_, rfl, x, _, dx, _, _, rfl, hx, B.cl_Stage, B.no_Stage__numbers, rfl, _, rfl, d, _, rfl, gd_R hd hz, k hz⟩
    · refine ⟨_, rfl, _, rfl, x, _, dx, _, _, rfl, hx, B.cl_Stage, B.no_Stage__numbers, rfl, d, _, rfl, gd_RN hd hz, _, rfl, iteT ?_⟩
      exact rd_nn rfl (kE hz)
theorem sc_sh : FnScope ["self"] ["self"] (defScope s_Stage_p_schema) := ⟨rfl, rfl, rfl, by decide +kernel, rfl, by decide +kernel, by decide +kernel⟩
theorem ok_schema (B : Bk K mg) : ∃ fd, FnOk P w K mg base CX0 1 (propG K "Stage" "schema") fd ["self"] (spSch K) ∧ Binds K fd ["self"] [] := by
  obtain ⟨fd, F⟩ := B.F_Stage_p_schema
  refine ⟨fd, ?_, F.binds fun _ _ _ _ _ _ us hl => match us, hl with | [_], _ => rfl⟩
  refine F.ok sc_sh (fun vs H Q E h => ?_) (fun cdv A outer s H vs Q E hr h => ?_)
  · obtain ⟨_, _, _, _, _, rfl, _⟩ := h
    rfl
  · obtain ⟨x, kk, d, ns, m, rfl, ⟨⟨dx, hx⟩, hd⟩, k⟩ := h
    refine ⟨_, pss_one (ps_ret (pe_fld (pv 0) rfl)), ?_⟩
    exact ⟨_, rfl, x, _, dx, _, _, rfl, hx, B.cl_Stage, B.no_Stage__schema, rfl, k⟩
theorem sc_dv : FnScope ["m", "number"] ["m", "number"] (defScope s__divides) := ⟨rfl, rfl, rfl, by decide +kernel, rfl, by decide +kernel, by decide +kernel⟩
theorem ok_divides (B : Bk K mg) : Df P w K mg base CX0 1 "_divides" ["m", "number"] spDv := by
  obtain ⟨fd, F⟩ := B.F_divides
  refine ⟨⟨fd, ?_, F.binds fun _ _ _ _ _ _ us hl => match us, hl with | [_, _], _ => rfl⟩, B.g_divides, F.kp⟩
  refine F.ok sc_dv (fun vs H Q E h => ?_) (fun cdv A outer s H vs Q E hr h => ?_)
  · obtain ⟨_, _, rfl, _⟩ := h
    rfl
  · obtain ⟨a, b, rfl, ha, hb, k⟩ := h
    refine ⟨_, pss_one (ps_ret (pe_or (pe_cmpR op_eq (pv 1) pe_int (nomark _)) (pe_one (pe_and (pe_cmpR op_ne (pv 0) pe_int (nomark _)) (pe_one (pe_cmpR op_eq (pe_op op_mod (pv 1) (pv 0)) pe_int (nomark _))))))), ?_⟩
    refine ⟨_, rfl, rfl, _, rfl, two (fun h1 => ?_) (fun h1 => ?_)⟩
    · have e : b = 0 := by
        have q := V.int.inj (of_decide_eq_true h1)
        omega
      subst e
      rw [decide_eq_true (Nat.dvd_zero a)] at k
      exact k
    · have e : b ≠ 0 := fun q => of_decide_eq_false h1 (by rw [q]; rfl)
      refine ⟨_, rfl, rfl, _, rfl, two (fun h2 => ?_) (fun h2 => ?_)⟩
      · have e2 : a ≠ 0 := fun q => by
          subst q
          have z : (!decide (V.int ((0 : Nat) : Int) = V.int 0)) = true := h2
          rw [decide_eq_true (show V.int ((0 : Nat) : Int) = V.int 0 from rfl)] at z
          cases z
        refine ⟨_, rfl, _, rfl, (b : Int), (a : Int), rfl, rfl, by omega, rfl, ?_⟩
        have q : decide (V.int ((b : Int) % (a : Int)) = V.int 0) = decide (a ∣ b) := decide_eq_decide.mpr ⟨fun z => by
          have z2 := V.int.inj z
          exact Nat.dvd_of_mod_eq_zero (by omega), fun z => by
          have z2 := Nat.mod_eq_zero_of_dvd z
          congr 1
          omega⟩
        show Q (.bl (decide (V.int ((b : Int) % (a : Int)) = V.int 0))) H
        rw [q]
        exact k
      · have e2 : a = 0 := by
          have z : (!decide (V.int (a : Int) = V.int 0)) = false := h2
          by_cases q : a = 0
          · exact q
          · rw [decide_eq_false fun y => q (by have := V.int.inj y; omega)] at z
            cases z
        subst e2
        rw [decide_eq_false fun z => e (Nat.eq_zero_of_zero_dvd z)] at k
        exact k
theorem sc_qs : FnScope ["self", "other"] ["self", "other"] (defScope s_Stage___eq__) := ⟨rfl, rfl, rfl, by decide +kernel, rfl, by decide +kernel, by decide +kernel⟩
theorem ok_eqS (B : Bk K mg) : ∃ fd, FnOk P w K mg base CX0 2 (He.ma K (He.ga K "Stage") "__eq__") fd ["self", "other"] (spEqS K) ∧ Binds K fd ["self", "other"] [] := by
  obtain ⟨fd, F⟩ := B.F_Stage___eq
  obtain ⟨fdK, GK, bK⟩ := ok_eqK (P := P) (w := w) (base := base) B
  refine ⟨fd, ?_, F.binds fun _ _ _ _ _ _ us hl => match us, hl with | [_, _], _ => rfl⟩
  refine F.ok sc_qs (fun vs H Q E h => ?_) (fun cdv A outer s H vs Q E hr h => ?_)
  · obtain ⟨_, _, _, _, _, _, _, _, _, _, _, _, rfl, _⟩ := h
    rfl
  · obtain ⟨x, y, kx, ky, dx, dy, ns, ms, t, u, m, m', rfl, so, h⟩ := h
    refine ⟨_, pss_one (ps_ret (pe_and (pe_callB call_isi (by rfl) B.b_isinstance (by decide +kernel) (pa_cons (pv 1) (pa_cons (pe_glob (v := .ref (He.ga K "Stage")) rfl B.g_Stage rfl) pa_nil)))
      (pe_and (pe_cmpR (op_eqOwn GK hr B.sp_Keys_eq.1 B.sp_Keys_eq.2 bK pass0) (pe_fld (pv 0) rfl) (pe_fld (pv 1) rfl) (nomark _))
      (pe_one (pe_cmpR (op_eqN hr.units) (pe_fld (pv 0) rfl) (pe_fld (pv 1) rfl) (nomark _)))))), ?_⟩
    obtain ⟨⟨ax, hx⟩, ko, hd⟩ := so
    rcases h with ⟨⟨⟨ay, hy⟩, ko', hd'⟩, k⟩ | ⟨⟨xs, hy⟩, k⟩
    · obtain ⟨ha, hn, htk, hmo⟩ := B.ty_Stage
      obtain ⟨hka, hkn, hkt, hkm⟩ := B.ty_Keys
      refine ⟨_, rfl, _, _, _, _, _, rfl, .own _, .base (.ins hy B.cl_Stage ha hn htk hmo), B.kit_Stage_Stage, _, rfl, iteT ?_⟩
      obtain ⟨d1, _, _, _, hk1, _⟩ := id ko
      obtain ⟨d2, _, _, _, hk2, _⟩ := id ko'
      refine ⟨_, rfl, x, _, ax, _, _, rfl, hx, B.cl_Stage, B.no_Stage__schema, rfl, _, rfl, y, _, ay, _, _, rfl, hy, B.cl_Stage, B.no_Stage__schema, rfl, ?_⟩
      refine ⟨kx, d1, _, _, rfl, hk1, .base (.ins hk2 B.cl_Keys hka hkn hkt hkm), nf_self, kx, ky, ns, t, rfl, ko, .inl ⟨ms, u, ko', _, rfl, _, rfl, two (fun h1 => ?_) (fun h1 => ?_)⟩⟩
      · rw [h1, Bool.true_and] at k
        exact ⟨_, rfl, x, _, ax, _, _, rfl, hx, B.cl_Stage, B.no_Stage__numbers, rfl, _, rfl, y, _, ay, _, _, rfl, hy, B.cl_Stage, B.no_Stage__numbers, rfl, dx, dy, _, _, m, m', rfl, rfl, hd, hd', k⟩
      · rw [h1, Bool.false_and] at k
        exact k
    · exact ⟨_, rfl, _, _, _, _, _, rfl, .own _, .base (.tup hy), B.kit_tuple_Stage, _, rfl, iteF k⟩
end
end Jd
namespace Jd
open PySem PySem.Spec PyProof.Rows L2
/-! ### a list comprehension whose element may raise -/
theorem note_frame {e : Value} {v v' : Env} (h : v.frame = v'.frame) : noteFrame e v = noteFrame e v' := by
  unfold noteFrame PySem.frameOf
  rw [h]
theorem frames_at {h h' base : Heap} : ∀ {l : List Env}, h.FunFrames base l → (∀ b ∈ frs l, h'.get? b = h.get? b) → h'.FunFrames base l
  | [], _, _ => trivial
  | v :: l, ⟨k, ⟨L, o, f, n, g, d⟩, r⟩, e => ⟨k, ⟨L, o, f, n, (e L (List.mem_filterMap.mpr ⟨v, List.mem_cons_self, f⟩)).trans g, d⟩, frames_at r fun b hb => by
      obtain ⟨z, hz, q⟩ := List.mem_filterMap.mp hb
      exact e b (List.mem_filterMap.mpr ⟨z, List.mem_cons_of_mem _ hz, q⟩)⟩
theorem hid_none {h : Heap} {l : List Addr} {b : Addr} (e : h.get? b = none) : (PySem.W.hideAll h l).get? b = none := by
  cases q : (PySem.W.hideAll h l).get? b with
  | none => rfl
  | some o =>
    have z := PySem.W.of_hideAll l q
    rw [e] at z
    cases z
/-- an exception that a call in the block let out goes on in the def -/
theorem out_of_block {X : Cx} {pins : List (Addr × Obj)} {σ : L2.St} {H : Hp} {s s' : Shared} {W : WX} {E0 : XK} {ce : Env} {m : Str → Option Value} {u : Value} (J : Inv X pins σ H s) (hst : X.stack = X.env :: X.outer) (hfr : X.env.frame = some X.env.locals)
    (tk : Takes X W) (hW : ∀ cls d H', E0 cls d H' → W cls d σ H') (hcf : ce.frame = X.env.frame) (hC : FpOk X pins H ce.locals) (hns : s.heap.Ns ce.locals m) (c : L2.CX X.prog X.w X.stack H s E0 u s') :
    notedBy (model X.prog X.w) X.A ce (CompFails (model X.prog X.w) X.A X.xe ce) u s' := by
  obtain ⟨a, B, H2, cls, d, rfl, fl, hok, ub, na, os, ag, hE⟩ := c
  obtain ⟨c0, c1, c2, c3, c4, c5⟩ := hC
  have cst : ce.locals ∉ frs X.stack := fun z => by
    rcases List.mem_cons.mp (J.stkSub _ z) with z | z
    · exact c1 z
    · exact c2 z
  obtain ⟨oC, es, ep, hoC, hr⟩ := hns
  have bC : B.get? ce.locals = some oC := ub.keep _ _ hoC c0 cst
  have fC : H2 ce.locals = none := ub.free _ _ hoC c0
  have aC : a ≠ ce.locals := fun z => by
    have q := fl.2.1
    rw [z, bC] at q
    cases q
  unfold notedBy
  rw [note_frame hcf]
  have fl' := fl
  rw [hst] at fl'
  refine HandSPX.looks_onZ Zc.steady (J.ok.frames.trans (by rw [hst])) hfr fl' fun h3 held up3 => ?_
  refine ⟨m, ⟨oC, es, ep, held.1 _ _ bC, hr⟩, fun h4 m' _ sb => ?_⟩
  have k1 := held.1
  have k2 := held.2.1
  have k3 := held.2.2.1
  obtain ⟨oe, vs, T, oT, ts, he, hz, hd, h1, hnT, hTe, hT, hdT, hfl⟩ := held.2.2.2
  have TC : T ≠ ce.locals := fun z => by
    rw [z, bC] at hnT
    cases hnT
  have he4 : h4.get? a = some oe := (sb.2 a aC).trans he
  have hB : ∀ b o, (PySem.W.hideAll B [ce.locals]).get? b = some o → b ≠ ce.locals ∧ B.get? b = some o := fun b o e => ⟨fun z => absurd e (by rw [z, PySem.W.hideAll_none [ce.locals] List.mem_cons_self]; exact fun y => nomatch y), PySem.W.of_hideAll _ e⟩
  have gB : ∀ b o, b ≠ ce.locals → B.get? b = some o → (PySem.W.hideAll B [ce.locals]).get? b = some o := fun b o n e => PySem.W.hideAll_get _ e fun z => n (List.mem_singleton.mp z)
  have held4 : HandSPX.HeldZ (PySem.W.hideAll B [ce.locals]) (X.env :: X.outer) a (Zc cls d) X.env.locals h4 := by
    refine ⟨fun b o e => ?_, hid_none k2, ?_, oe, vs, T, oT, ts, he4, hz, hd, h1, hid_none hnT, hTe, (sb.2 T TC).trans hT, hdT, hfl⟩
    · obtain ⟨n, q⟩ := hB b o e
      exact (sb.2 b n).trans (k1 b o q)
    · refine funFrames_none (frames_at k3 fun b hb => sb.2 b fun z => cst (by rw [hst, ← z]; exact hb)) fun b hb => ?_
      exact hid_none (k3.mem hb).1
  have fin : wpAny (model X.prog X.w) X.A (setFlight (.ref a) ce.frame) (fun _ s5 => wpAny (model X.prog X.w) X.A (throw (.ref a) : Sem Value) (fun _ _ => False) X.xe s5) X.xe { s' with heap := h4 } := by
    rw [hcf, hfr]
    refine HandSPX.setFlight_onZ held4 fun h5 held5 up5 => wpAny_throw (tk _ _ ?_)
    obtain ⟨G, g1, g2⟩ := restrict h5 fun b => ((PySem.W.hideAll B [ce.locals]).get? b).isSome || decide (b ∈ frs X.stack)
    have inG : ∀ b o, (PySem.W.hideAll B [ce.locals]).get? b = some o → G.get? b = some o := fun b o e => by
      rw [g1 b (by simp [e])]
      exact held5.1 b o e
    have inF : ∀ b, b ∈ frs X.stack → G.get? b = h5.get? b := fun b hb => g1 b (by simp [hb])
    have slot : ∀ b o, s.heap.get? b = some o → b ∈ frs X.stack → ∃ sl, G.get? b = some { o with slots := sl } := fun b o e hb => by
      obtain ⟨_, o', e', nf⟩ := J.stack.mem hb
      rw [e] at e'
      cases e'
      obtain ⟨s1, q1⟩ := ub.slot b o e hb
      obtain ⟨s2, q2⟩ := up3 b _ q1 nf
      have q3 := (sb.2 b fun z => cst (z ▸ hb)).trans q2
      obtain ⟨s4, q4⟩ := up5 b _ q3 nf
      exact ⟨s4, by rw [inF b hb]; exact q4⟩
    have out : ∀ b o, G.get? b = some o → h5.get? b = some o ∧ ((∃ o', (PySem.W.hideAll B [ce.locals]).get? b = some o') ∨ b ∈ frs X.stack) := fun b o e => by
      cases q : (((PySem.W.hideAll B [ce.locals]).get? b).isSome || decide (b ∈ frs X.stack)) with
      | false =>
        rw [g2 b q] at e
        cases e
      | true =>
        rw [g1 b q] at e
        rw [Bool.or_eq_true, decide_eq_true_iff] at q
        exact ⟨e, q.imp_left Option.isSome_iff_exists.mp⟩
    refine ⟨a, PySem.W.hideAll B [ce.locals], { s with heap := G, gens := s'.gens, drawn := s'.drawn, toks := s'.toks }, pins, σ, H2, cls, d, rfl, ?_, fun b o e hb => ?_, Heap.UpToSlots.of_keeps fun b o e => (out b o e).1, .inr (.inr (by rw [hst]; exact held5)), na, os, ag, hW _ _ _ hE⟩
    · refine J.call (ch := [ce.locals]) ⟨fun b o e n hb hc => ?_, fun b o e n hb _ => slot b o e hb, fun b o e n _ => ub.free b o e n, fun b o e hc => ?_, ub.tups, ub.frzs, ub.tbls⟩ (fun b v e => ?_) ag fun b hb => ?_
      · exact inG b o (gB b o (fun z => hc (List.mem_singleton.mpr z)) (ub.keep b o e n hb))
      · by_cases hb : b ∈ frs X.stack
        · obtain ⟨sl, q⟩ := slot b o e hb
          exact ⟨_, q⟩
        · obtain ⟨o', q⟩ := ub.there b o e hb
          exact ⟨o', inG b o' (gB b o' (fun z => hc (List.mem_singleton.mpr z)) q)⟩
      · refine (hok b v e).stay (fun c x hc q => inG c x (gB c x (fun z => ?_) q)) (fun _ q => q) fun _ _ q => q
        rcases hc with y | y
        · rw [← y, z, fC] at e
          cases e
        · rw [z, fC] at y
          cases y
      · rw [List.mem_singleton.mp hb]
        exact ⟨c3, c1, c4, c5⟩
    · obtain ⟨q, r⟩ := out b o e
      rcases r with ⟨o', r⟩ | r
      · have z := held5.1 b o' r
        rw [q] at z
        cases z
        exact r
      · exact absurd r hb
  unfold PySem.passOn
  refine wpAny_bind (wpAny_field he4 hd h1 ?_)
  rw [if_neg (show ¬ ((Value.ref T == Value.none) = true) from by simp)]
  first
    | exact wpAny_bind (wpAny_pure (wpAny_bind fin))
    | exact wpAny_bind fin
end Jd
namespace Jd
open PySem PySem.Spec PyProof.Rows L2
section
variable {X : Cx}
/-- a list comprehension's block, what its element's call lets out taken by the def's wish -/
theorem lcx_core {pins : List (Addr × Obj)} {s : Shared} {σ : L2.St} {H : Hp} {Q : VK} {elt tg iter : Expr} {ifs : List Expr} {scope : Scope} {own : List (Str × Nat)} {pos pos' : Pos} {wi : TI} {g : TG} {tt : TT} {te : TE} {use : Option (Value → Sem Unit)} {Qf : Value → Shared → Prop} {W : WX} {E0 : XK}
    (hc : X.calm = true) (hN : X.N.Nodup) (hst : X.stack = X.env :: X.outer) (hfr : X.env.frame = some X.env.locals) (tk : Takes X W) (hW : ∀ cls d H', E0 cls d H' → W cls d σ H') (I : Inv X pins σ H s) (hi : PI X tg iter wi) (ok : BlkOk X.N X.env.scope scope own)
    (hg : ∀ (s0 : Shared) (H0 : Hp) (C : Addr) (cl : List (Str × Addr)) (fp : List Addr), PG (X.blk s0 H0 scope (compEnvC scope cl C X.env) fp) tg g)
    (ht : ∀ (s0 : Shared) (H0 : Hp) (C : Addr) (cl : List (Str × Addr)) (fp : List Addr), PTs (X.blk s0 H0 scope (compEnvC scope cl C X.env) fp) ifs tt)
    (he : ∀ (s0 : Shared) (H0 : Hp) (C : Addr) (cl : List (Str × Addr)) (fp : List Addr) (EB : Value → Shared → Prop), Passes (L2.CX X.prog X.w) ((X.blk s0 H0 scope (compEnvC scope cl C X.env) fp).wish EB) E0 → PE ((X.blk s0 H0 scope (compEnvC scope cl C X.env) fp).wish EB) elt te)
    (hs : ∀ x, foldedSetIterable iter X.env x = pure x) (h : tLc wi g tt te (own.map (·.2)) σ H Q)
    (hend : ∀ (D : Addr) (ce : Env) (s' : Shared) (m : Str → Option Value) (H' : Hp), Inv X pins σ H' s' → Q (.ref D) H' → s'.heap.Ns ce.locals m → FpOk X pins H' ce.locals → compEnds (model X.prog X.w) X.A X.xe use Qf (.ref D) ce (.ok .next) s') :
    wpAny (model X.prog X.w) X.A (comprehension (.ListComp elt [⟨tg, iter, ifs, 0⟩] scope pos) scope X.env pos' (newList []) false (eval iter X.env) use) Qf X.xe s := by
  have free : ∀ y ∈ scope.names, y.2 = .free → ∃ c, X.env.cells.lookup y.1 = some c := fun y hy e => (ok.free y hy e).elim (fun k => I.ok.has _ (.inl k)) fun k => I.ok.has _ (.inr k)
  refine comprehension_at (use := use) rfl hs (closure_ok free) ok.kind (fun y hy e => (ok.uniq y hy).trans (congrArg some e)) (thn (hi.run pins s σ H _ I h) fun xv sa ha => thn ha fun itv sb hb => ?_)
  obtain ⟨it, fp, tn, J, Ha, rfl, Ia, T, sta, fa, q⟩ := hb
  refine wpAny_newObj_type (newEnv_comp ?_) (Nat.zero_le _)
  generalize eD : sb.heap.objs.size = D
  have nD : Ha D = none := Ia.hok.fresh (Nat.le_of_eq eD)
  obtain ⟨Wl, ⟨m0, w0⟩, turn⟩ := q D nD
  generalize es : ({ sb with heap := sb.heap.push { cls := .type "list", data := .seq ([] : List Value).toArray } } : Shared) = sc
  have hsc : sc.heap = sb.heap.push { cls := .type "list", data := .seq ([] : List Value).toArray } := es ▸ rfl
  have Ic : Inv X pins σ (upd Ha D (.lst [])) sc := by
    subst es
    exact Ia.laid (t' := sb.toks) (fun b o e => Heap.get?_push_of_some _ e) (Nat.le_of_eq eD) ⟨Nat.zero_le _, [], 0, .nil, eD ▸ Heap.get?_push_size _ rfl⟩
  have lt : ∀ b ∈ fp, b < sb.heap.objs.size := fun b hb => (T.obj _ _ sta b hb).elim fun o e => Heap.lt_size e.1
  have fc : ∀ b ∈ fp, FpOk X pins (upd Ha D (.lst [])) b ∧ b < sc.heap.objs.size := fun b hb =>
    ⟨⟨(upd_ne (eD ▸ Nat.ne_of_lt (lt b hb))).trans (fa b hb).1, (fa b hb).2⟩, by
      rw [hsc, Heap.size_push]
      exact Nat.lt_succ_of_lt (lt b hb)⟩
  have stc : tn 0 sc.heap := T.keep _ _ _ sta fun b _ o e => by
    rw [hsc]
    exact Heap.get?_push_of_some _ e
  have Id := block_start Ic ok hN fc
  have pg := hg sc (upd Ha D (.lst [])) sc.heap.objs.size (cellsFrom (sc.heap.objs.size + 1) scope.names (cloFrom X.env.cells scope.names [])) fp
  have pt := ht sc (upd Ha D (.lst [])) sc.heap.objs.size (cellsFrom (sc.heap.objs.size + 1) scope.names (cloFrom X.env.cells scope.names [])) fp
  have pe := he sc (upd Ha D (.lst [])) sc.heap.objs.size (cellsFrom (sc.heap.objs.size + 1) scope.names (cloFrom X.env.cells scope.names [])) fp
  change codeAny _ _ (.compStart (.ListComp elt [⟨tg, iter, ifs, 0⟩] scope pos) 0 (.ref it) (.ref D) (compEnvC scope (cellsFrom (sc.heap.objs.size + 1) scope.names (cloFrom X.env.cells scope.names [])) sc.heap.objs.size X.env))
    (compEnds (model X.prog X.w) X.A X.xe use Qf (.ref D) (compEnvC scope (cellsFrom (sc.heap.objs.size + 1) scope.names (cloFrom X.env.cells scope.names [])) sc.heap.objs.size X.env)) { sc with heap := pushCells (sc.heap.push { cls := .type "dict", data := .dict #[] }) scope.names }
  generalize ec : compEnvC scope (cellsFrom (sc.heap.objs.size + 1) scope.names (cloFrom X.env.cells scope.names [])) sc.heap.objs.size X.env = ce at Id pg pt pe ⊢
  have cL : ce.locals = sc.heap.objs.size := ec ▸ rfl
  have cF : ce.frame = X.env.frame := ec ▸ rfl
  have nfp : ∀ b ∈ fp, (upd Ha D (.lst [])) b = none := fun b hb => (fc b hb).1.1
  generalize eH : upd Ha D (.lst []) = Hc at Ic Id pg pt pe w0 nfp fc
  generalize ed : ({ sc with heap := pushCells (sc.heap.push { cls := .type "dict", data := .dict #[] }) scope.names } : Shared) = sd at Id ⊢
  have std : tn 0 sd.heap := T.keep _ _ _ stc fun b _ o e => by
    rw [← ed]
    exact pushCells_keeps _ _ _ _ (Heap.get?_push_of_some _ e)
  have stat : ∀ {σ' : L2.St} {H' : Hp} {s' : Shared}, Inv (X.blk sc Hc scope ce fp) [] σ' H' s' → (∀ b ∈ fp, H' b = none) → ∀ b ∈ fp, FpOk (X.blk sc Hc scope ce fp) [] H' b := fun {σ' H' s'} I' hn b hb =>
    ⟨hn b hb, (I'.ok.exf b hb).1, I'.ok.exfs b hb, .inl hb, fun x c e => (I'.ok.exf b hb).2 x c e, fun p hp => absurd (show p ∈ ([] : List (Addr × Obj)) ++ [] from hp) (fun z => nomatch z)⟩
  -- what holds in the block holds in the def
  have home : ∀ {pl : List (Addr × Obj)} {σ' : L2.St} {H' : Hp} {s' : Shared}, Inv (X.blk sc Hc scope ce fp) pl σ' H' s' → Inv X pins σ H' s' ∧ FpOk X pins H' ce.locals ∧ ∃ m, s'.heap.Ns ce.locals m := fun {pl σ' H' s'} I' => by
    have nC : H' ce.locals = none := I'.free
    obtain ⟨m, hm, _⟩ := I'.loc
    refine ⟨Ic.call' (ch := fp) I'.os I'.base I'.hok I'.bare fun b hb => ?_, ?_, m, hm⟩
    · obtain ⟨_, z1, _, z3, z4, z5⟩ := (fc b hb).1
      exact ⟨z3, z1, z4, z5⟩
    · rw [cL] at nC ⊢
      exact Ic.fpOk (Nat.le_refl _) nC
  have pe' := pe (notedBy (model X.prog X.w) X.A ce (CompFails (model X.prog X.w) X.A X.xe ce)) fun pl σ' H' s' u s'' I' c => by
    obtain ⟨J', fC, m, hm⟩ := home I'.unwish
    exact out_of_block J' hst hfr tk hW cF fC hm c
  have loop : codeAny (model X.prog X.w) X.A (.compLoop (.ListComp elt [⟨tg, iter, ifs, 0⟩] scope pos) 0 (.ref it) (.ref D) ce) (compEnds (model X.prog X.w) X.A X.xe use Qf (.ref D) ce) sd := by
    refine compLoop_any (fun n s' => ∃ i H', Inv (X.blk sc Hc scope ce fp) [] (wipe σ (own.map (·.2))) H' s' ∧ tn i s'.heap ∧ (∀ b ∈ fp, H' b = none) ∧ Wl i n H') (fun n s5 hyp => ?_) m0 ⟨0, Hc, Id, std, nfp, w0⟩
    obtain ⟨i, H5, I5, st5, n5, w5⟩ := hyp
    rcases turn i n H5 w5 with ⟨stop, qq⟩ | ⟨go, Nx, hNx, step⟩
    · refine thnF (T.done (X.blk sc Hc scope ce fp) rfl rfl rfl hc i [] s5 _ H5 (fun _ _ => False) I5 (stat I5 n5) st5 stop) fun r s6 ⟨hr, I6⟩ => ?_
      subst hr
      obtain ⟨I7, fC, m, hm⟩ := home I6
      exact hend D ce s6 m H5 I7 qq hm fC
    · refine thnF (T.item (X.blk sc Hc scope ce fp) rfl rfl rfl hc i [] s5 _ H5 (fun _ _ => False) I5 (stat I5 n5) st5 go) fun r s6 ⟨u, hr, h6⟩ => ?_
      subst hr
      refine thnF h6 fun _ s7 ⟨x, H7, I7, r7, y7, st7, n7⟩ => ?_
      refine thnF (pg.run _ s7 _ H7 x u _ (I7.pinned (stat I7 n7) (T.obj _ _ st7)) r7 (step x H7 y7)) fun _ s8 ⟨σ8, H8, I8, hw8, q8⟩ => ?_
      refine thnF (pt.run _ s8 σ8 H8 _ I8 q8) fun b s9 ⟨H9, I9, q9⟩ => ?_
      have fin : ∀ {s' : Shared} {H' : Hp}, Inv (X.blk sc Hc scope ce fp) ([] ++ pinsAt fp s7.heap) σ8 H' s' → Nx H' → ∃ m, m < n ∧ ∃ i H', Inv (X.blk sc Hc scope ce fp) [] (wipe σ (own.map (·.2))) H' s' ∧ tn i s'.heap ∧ (∀ b ∈ fp, H' b = none) ∧ Wl i m H' := fun {s' H'} I' nx => by
        obtain ⟨m', hm, w'⟩ := hNx H' nx
        have pin' : ∀ b ∈ fp, ∀ o, s7.heap.get? b = some o → s'.heap.get? b = some o ∧ H' b = none := fun b hb o e =>
          (I'.pin (b, o) (List.mem_append_right _ (List.mem_append_right _ (mem_pinsAt hb e)))).imp id And.left
        refine ⟨m', hm, i + 1, H', (I'.unpinned (pins := [])).weak (by rw [← hw8, wipe_length]) (fun j v e => (wipe_some (hw8 ▸ e)).1), T.keep _ _ _ st7 fun b hb o e => (pin' b hb o e).1, fun b hb => ?_, w'⟩
        obtain ⟨o, e, _⟩ := T.obj _ _ st7 b hb
        exact (pin' b hb o e).2
      cases b with
      | false =>
        rw [if_neg (by decide)] at q9 ⊢
        exact fin I9 q9
      | true =>
        rw [if_pos rfl] at q9 ⊢
        refine thn (pe'.run _ s9 σ8 H9 _ (I9.wish _) q9) fun z s10 ⟨yv, H10, I10, r10, acc, hD10, hz10, nx⟩ => ?_
        exact app_ok (X := X.blk sc Hc scope ce fp) I10.unwish hD10 hz10 r10 fun s11 I11 => fin I11 nx
  exact codeAny_compStart_list loop (T.self X.A 0 _ _ _ std loop)
/-- as a value -/
theorem pe_lcX {elt tg iter : Expr} {ifs : List Expr} {scope : Scope} {own : List (Str × Nat)} {pos : Pos} {wi : TI} {g : TG} {tt : TT} {te : TE} {E0 : XK}
    (hc : X.calm = true) (hN : X.N.Nodup) (hst : X.stack = X.env :: X.outer) (hfr : X.env.frame = some X.env.locals) (tk : Takes X fun cls d _ H' => E0 cls d H') (hi : PI X tg iter wi) (ok : BlkOk X.N X.env.scope scope own)
    (hg : ∀ (s0 : Shared) (H0 : Hp) (C : Addr) (cl : List (Str × Addr)) (fp : List Addr), PG (X.blk s0 H0 scope (compEnvC scope cl C X.env) fp) tg g)
    (ht : ∀ (s0 : Shared) (H0 : Hp) (C : Addr) (cl : List (Str × Addr)) (fp : List Addr), PTs (X.blk s0 H0 scope (compEnvC scope cl C X.env) fp) ifs tt)
    (he : ∀ (s0 : Shared) (H0 : Hp) (C : Addr) (cl : List (Str × Addr)) (fp : List Addr) (EB : Value → Shared → Prop), Passes (L2.CX X.prog X.w) ((X.blk s0 H0 scope (compEnvC scope cl C X.env) fp).wish EB) E0 → PE ((X.blk s0 H0 scope (compEnvC scope cl C X.env) fp).wish EB) elt te)
    (hs : ∀ x, foldedSetIterable iter X.env x = pure x := by intro _; rfl) : PE X (.ListComp elt [⟨tg, iter, ifs, 0⟩] scope pos) (tLc wi g tt te (own.map (·.2))) := by
  refine ⟨fun pins s σ H Q I h => ?_⟩
  rw [eval_ListComp]
  refine lcx_core hc hN hst hfr tk (fun _ _ _ z => z) I hi ok hg ht he hs h fun D ce s' m H' I' q hn f => ⟨m, hn, fun h'' sb => ?_⟩
  obtain ⟨f0, f1, f2, f3, f4, f5⟩ := f
  exact ⟨.ref D, H', I'.turned (t' := s'.toks) (fun b o hb e => (sb.2 b hb).trans e) f0 f1 f3 f4 f5, rfl, q⟩
/-- name = [..] on one line, the name a local -/
theorem ps_setLcX {i : Nat} {y : Str} {py : Pos} {elt tg iter : Expr} {ifs : List Expr} {scope : Scope} {own : List (Str × Nat)} {pos spos : Pos} {wi : TI} {g : TG} {tt : TT} {te : TE} {E0 : XK}
    (hc : X.calm = true) (hN : X.N.Nodup) (hst : X.stack = X.env :: X.outer) (hfr : X.env.frame = some X.env.locals) (tk : Takes X fun cls d _ H' => E0 cls d H') (hy : X.N[i]? = some y) (hyl : X.env.scope.names.lookup y = some .local)
    (hsw : swapsWith (.ListComp elt [⟨tg, iter, ifs, 0⟩] scope pos) (some (.Name y py)) spos.line X.env = pure true) (hi : PI X tg iter wi) (ok : BlkOk X.N X.env.scope scope own)
    (hg : ∀ (s0 : Shared) (H0 : Hp) (C : Addr) (cl : List (Str × Addr)) (fp : List Addr), PG (X.blk s0 H0 scope (compEnvC scope cl C X.env) fp) tg g)
    (ht : ∀ (s0 : Shared) (H0 : Hp) (C : Addr) (cl : List (Str × Addr)) (fp : List Addr), PTs (X.blk s0 H0 scope (compEnvC scope cl C X.env) fp) ifs tt)
    (he : ∀ (s0 : Shared) (H0 : Hp) (C : Addr) (cl : List (Str × Addr)) (fp : List Addr) (EB : Value → Shared → Prop), Passes (L2.CX X.prog X.w) ((X.blk s0 H0 scope (compEnvC scope cl C X.env) fp).wish EB) E0 → PE ((X.blk s0 H0 scope (compEnvC scope cl C X.env) fp).wish EB) elt te)
    (hs : ∀ x, foldedSetIterable iter X.env x = pure x := by intro _; rfl) : PS X (.Assign [.Name y py] (.ListComp elt [⟨tg, iter, ifs, 0⟩] scope pos) spos) (tAsg (tLc wi g tt te (own.map (·.2))) (gName i)) := by
  refine ⟨fun pins s σ H D I h => ?_⟩
  rw [exec_Assign_Name_used _ _ _ _ hsw]
  refine wpAny_bind (wpAny_standAt (wpAny_bind ?_))
  change wpAny _ X.A (do let _ ← comprehension (.ListComp elt [⟨tg, iter, ifs, 0⟩] scope pos) scope X.env (firstIterPos [⟨tg, iter, ifs, 0⟩] pos) (newList []) false (eval iter X.env) (some (assign (.Name y py) X.env))) _ _ s
  have h0 : tLc wi g tt te (own.map (·.2)) σ H (fun x H1 => gName i x σ H1 D.nx) := h
  refine wpAny_bind (thn (lcx_core (Qf := fun _ s' => SP X pins D .next s') hc hN hst hfr tk (fun _ _ _ z => z) I hi ok hg ht he hs h0 fun L ce s' m H' I' q hn f => ?_) fun _ s' hq => wpAny_pure (wpAny_pure hq))
  change wpAny _ _ (assign (.Name y py) X.env (.ref L)) _ _ _
  obtain ⟨f0, f1, f2, f3, f4, f5⟩ := f
  refine wpAny_assign_Name (store_ok2 (v := V.ref L) I' hN hy (.inl hyl) rfl (fun s2 I2 ⟨a, sb, ha⟩ => ⟨m, hn.sameBut sb (ha.elim (fun z => z ▸ f1) fun z e => f4 y a z e.symm), fun h3 sb3 => ?_⟩) (.inr hyl))
  exact ⟨_, H', I2.turned (t' := s2.toks) (fun b o hb e => (sb3.2 b hb).trans e) f0 f1 f3 f4 f5, q⟩
end
end Jd
namespace Jd
open PySem PySem.Spec PyProof.Rows L2
/-! ### _joined with its errors -/
structure FldAny (z : Str) : Prop where
  len : z.length ≤ 1000
  num : isFieldB z = true → fieldNum z = ((fnum z : Nat) : Int)
  dv : isFieldB z = true → fnum z = 0 ∨ fnum z ∣ MB
theorem all_next {zs : List Str} {i : Nat} {z : Str} {p : Str → Prop} (h : zs[i]? = some z) (ha : ∀ y ∈ zs.take i, p y) (hz : p z) : ∀ y ∈ zs.take (i + 1), p y := by
  rw [List.take_add_one, h]
  intro y hy
  rcases List.mem_append.mp hy with hy | hy
  · exact ha y hy
  · rw [List.mem_singleton.mp hy]
    exact hz
theorem join_dvA {zs : List Str} (h : ∀ z ∈ zs, FldAny z) (hg : ∀ z ∈ zs, isFieldB z = true) (n : Str) : joinS zs n = 0 ∨ joinS zs n ∣ MB :=
  join_dv (ks := zs.map fieldName) (fun z hz => ⟨hg z hz, (h z hz).len, List.mem_map.mpr ⟨z, hz, rfl⟩, (h z hz).num (hg z hz), (h z hz).dv (hg z hz)⟩) n
/-- what comes of FIELDs: the first that is none, the first of no name, else numbers -/
structure FldEnds (K : PySem.W.Frag) (R : Hp → Prop) (E : XK) (ns zs : List Str) (kQ : Prop) : Prop where
  bad : ∀ (i : Nat) (z : Str), zs[i]? = some z → isFieldB z = false → (∀ y ∈ zs.take i, isFieldB y = true) → ∀ H' d, R H' → H' d = some (.xd [("field", .str z)]) → E (.ref (He.ga K "BadField")) (some d) H'
  non : ∀ (i : Nat) (z : Str), zs[i]? = some z → fieldName z ∉ hs ns → (∀ y ∈ zs.take i, fieldName y ∈ hs ns) → (∀ y ∈ zs, isFieldB y = true) → ∀ H' d, R H' → H' d = some (.xd [("name", .str (fieldName z))]) → E (.ref (He.ga K "NoName")) (some d) H'
  good : (∀ z ∈ zs, isFieldB z = true ∧ fieldName z ∈ hs ns) → kQ
def spJoinX (K : PySem.W.Frag) : Sp := fun vs H Q E => ∃ (kk f : Addr) (ns zs : List Str) (t : Str → List Str), vs = [.ref kk, .ref f] ∧ KeysO K H kk ns t ∧ ("#" : Str) ∉ ns ∧ Sq K H f (zs.map V.str) ∧ zs.length ≤ 100 ∧ (∀ z ∈ zs, FldAny z) ∧
  FldEnds K (Same H) E ns zs (∀ H' d, Same H H' → H' d = some (.dK (kvG (("#" : Str) :: ns) (numV (joinS zs)))) → Q (.ref d) H')
section
variable {P : Program} {w : World} {K : PySem.W.Frag} {mg : Str → Option Value} {base : Heap}
theorem ok_joinX (B : Bk K mg) : Df P w K mg base (L2.CX P w) 4 "_joined" ["keys", "fields"] (spJoinX K) := by
  obtain ⟨fd, F⟩ := B.F_joined
  obtain ⟨fdO, GO, bO⟩ := (ok_field_of (P := P) (w := w) (base := base) B).ex
  have kO := (ok_field_of (P := P) (w := w) (base := base) B).kp
  obtain ⟨fdN, GN, bN⟩ := (ok_all_names (P := P) (w := w) (base := base) B).ex
  have kN := (ok_all_names (P := P) (w := w) (base := base) B).kp
  obtain ⟨fdE, GE, bE⟩ := ok_nn (P := P) (w := w) (base := base) B
  obtain ⟨lxc, li, lt⟩ := B.lx_NoName
  refine ⟨⟨fd, ?_, F.binds fun _ _ _ _ _ _ us hl => match us, hl with | [_, _], _ => rfl⟩, B.g_joined, F.kp⟩
  refine F.okX sc_jn (fun vs H Q E h => ?_) (fun cdv A outer s H vs Q E hr h => ?_)
  · obtain ⟨_, _, _, _, _, rfl, _⟩ := h
    rfl
  · obtain ⟨x, f, ns, zs, t, rfl, ko, n0, hf, l100, hz, ⟨kB, kE, k⟩⟩ := h
    have hu := hu_of hr
    have hr3 : Room 3 _ := hr.mono (by decide)
    have hr1 : Room 2 _ := hr.mono (by decide)
    refine ⟨_, pss_cons (ps_setLcX (E0 := E) (i := 2) (own := [("field", 3)]) (g := gName 3) (tt := tYes) rfl sc_jn.nd rfl rfl (takes_of rfl rfl rfl rfl) rfl rfl (sw_true rfl rfl rfl (by decide +kernel)) (pi_seq (pv 1)) (blkOk_by (N := NJ) (sc := defScope s__joined) (by decide +kernel))
          (fun _ _ _ _ _ => pg_name (i := 3) sc_jn.nd rfl (Or.inl rfl)) (fun _ _ _ _ _ => pts_nil) (fun _ _ _ _ _ EB hx => pe_call (E := E) GO hr rfl B.g_field_of kO bO .nil hx (pa_cons (pv 3) pa_nil)))
      (pss_cons (ps_set (i := 4) sc_jn.nd rfl (Or.inl rfl) pe_dnewK)
      (pss_cons (ps_for (passes_of rfl) rfl (pi_tup (pe_call GN hr rfl B.g_all_names kN bN .nil pass0 (pa_cons (pv 0) pa_nil))) (pg_name (i := 5) sc_jn.nd rfl (Or.inl rfl)) (pss_one (ps_dput hu (pv 4) (pv 5) pe_int rfl)))
      (pss_cons (ps_for (passes_of rfl) rfl (pi_list (pv 2)) (pg_tup (by rfl) (pgs_cons (pg_name (i := 5) sc_jn.nd rfl (Or.inl rfl)) (pgs_cons (pg_name (i := 6) sc_jn.nd rfl (Or.inl rfl)) pgs_nil)))
        (pss_cons (ps_if (pt_cmp (pc_dnotin hu (pv 5) (pv 4))) (pss_one (ps_raise rfl (takes_of rfl rfl rfl rfl) (pmk_lex lxc li lt GE hr1 bE .nil pass0 (by rfl) B.g_NoName (pa_cons (pv 5) pa_nil)))) pss_nil)
          (pss_one (ps_dput hu (pv 4) (pv 5) (pe_callBfun cr_lcm (by rfl) B.bl_lcm (pa_cons (pe_dget hu (pv 4) (pv 5) (fun _ _ => rfl)) (pa_cons (pv 6) pa_nil))) rfl))))
      (pss_one (ps_ret (pv 4)))))), ?_⟩
    obtain ⟨_, _, _, _, _, _, _, _, nd, l7, _⟩ := id ko
    have big : (1000 : Nat) ≤ sizeLine := by decide
    have ndk : (("#" : Str) :: ns).Nodup := List.nodup_cons.mpr ⟨n0, nd⟩
    refine ⟨_, rfl, f, _, rfl, hf, fun J G wk hG => fun D hD => ?_⟩
    refine lc_it wk (fun i H' => Same H H' ∧ (∀ y ∈ zs.take i, isFieldB y = true) ∧ ∃ ps : List Addr, H' D = some (.lst (ps.map V.ref)) ∧ FdAt H' ps (zs.take i)) ⟨Same_new hD, (fun y hy => nomatch hy), [], upd_same, rfl, fun i p h => by cases h⟩ (fun i H' _ p => hG H' p.1) (fun i v H1 H2 hi ⟨s1, hg, ps, hD1, pp⟩ y => ?_) (fun H1 ⟨s1, hg, ps, hD1, pp⟩ => ?_)
    · obtain ⟨rfl, hv⟩ := y
      obtain ⟨z, hzi, rfl⟩ := at_str hv
      have fo := hz z (List.mem_of_getElem? hzi)
      have li : i < zs.length := (List.getElem?_eq_some_iff.mp hzi).1
      refine ⟨rfl, iteT (B := ∃ z : Nat, z = 0) ?_⟩
      refine ⟨_, rfl, z, rfl, Nat.le_trans fo.len big, fun hb H5 d s5 hd => kB i z hzi hb hg H5 d (s1.trans s5) hd, fun hb H5 p s5 hp => ?_⟩
      rw [fo.num hb] at hp
      have hD5 := s5 _ _ hD1
      have npD : p ≠ D := ne_of hp hD5 (by intro z; cases z)
      refine ⟨_, hD5, ?_, ?_, all_next hzi hg hb, ps ++ [p], by rw [upd_same, List.map_append]; rfl, ?_⟩
      · rw [List.length_map, pp.1, List.length_take]
        omega
      · exact Same_upd (s1.trans s5) hD
      · rw [List.take_add_one, hzi]
        refine FdAt.snoc (z := z) ⟨pp.1, fun j q hq => ?_⟩ (by rw [upd_ne npD]; exact hp)
        obtain ⟨y, e1, e2⟩ := pp.2 j q hq
        exact ⟨y, e1, by rw [upd_ne (ne_of (s5 _ _ e2) hD5 (by intro z; cases z))]; exact s5 _ _ e2⟩
    · rw [List.length_map, List.take_length] at pp hg
      refine fun d hd => ?_
      have s2 : Same H (upd H1 d (.dK [])) := Same_lay s1 hd
      refine ⟨_, rfl, x, ns, t, rfl, ko.same s2, fun H3 a s3 ha => ?_⟩
      have hd3 := s3 _ _ (upd_same (H := H1) (a := d) (o := HO.dK []))
      have hD3 := s3 _ _ (Same_new hd _ _ hD1)
      have pp3 := (pp.same (Same_new (o := HO.dK []) hd)).same s3
      have nDd : D ≠ d := ne_of hD3 hd3 (by intro z; cases z)
      have nad : a ≠ d := ne_of ha hd3 (by intro z; cases z)
      have sH : ∀ H', Keep d H3 H' → Same H H' := fun H' kp b o q => by
        have nb : b ≠ d := ne_of_none q (s1.free hd)
        exact kp _ _ nb (s3 _ _ (s2 _ _ q))
      refine ⟨a, rfl, ⟨_, SqT.of ha⟩, ?_⟩
      refine for_it (walk_tup (xs := (("#" : Str) :: ns).map V.str)) (fun i σ H' => ∃ v5 : Option V, σ = [some (.ref x), some (.ref f), some (.ref D), Option.none, some (.ref d), v5, Option.none] ∧ Keep d H3 H' ∧ H' d = some (.dK (kvG ((("#" : Str) :: ns).take i) (numV fun _ => 1))))
        ⟨Option.none, rfl, Keep.refl _ _, hd3⟩ (fun i σ H' _ ⟨_, _, kp, _⟩ => SqT.of (kp _ _ nad ha)) (fun i v σ H4 H5 hi ⟨v5, e, kp, hd4⟩ y => ?_) (fun σ H4 ⟨v5, e, kp, hd4⟩ => ?_)
      · obtain ⟨rfl, hx⟩ := y
        subst e
        obtain ⟨n, hn, rfl⟩ := at_str hx
        have nin := nd_take ndk hn
        refine ⟨_, rfl, _, rfl, d, _, rfl, DPut.k (k := Sum.inr n) hd4 ?_, ?_⟩
        · rw [kvG_len, List.length_take, List.length_cons]
          omega
        · refine ⟨_, rfl, fun b o nb q => by rw [upd_ne nb]; exact kp _ _ nb q, ?_⟩
          rw [upd_same, take_next hn]
          exact congrArg (fun z => some (HO.dK z)) (putG_new (f := numV fun _ => 1) nin)
      · subst e
        rw [List.length_map, List.take_length] at hd4
        refine ⟨_, rfl, D, rfl, ⟨_, SqL.of (kp _ _ nDd hD3)⟩, ?_⟩
        refine for_it (walk_list (xs := ps.map V.ref)) (fun i σ H' => (∀ y ∈ zs.take i, fieldName y ∈ hs ns) ∧ ∃ v5 v6 : Option V, σ = [some (.ref x), some (.ref f), some (.ref D), Option.none, some (.ref d), v5, v6] ∧ Keep d H3 H' ∧ H' d = some (.dK (kvG (("#" : Str) :: ns) (numV (joinS (zs.take i))))))
          ⟨(fun y hy => nomatch hy), _, _, rfl, kp, hd4⟩ (fun i σ H' _ ⟨_, _, _, _, kp, _⟩ => SqL.of (kp _ _ nDd hD3)) (fun i v σ H5 H6 hi ⟨hnm, w5, w6, e, kp5, hd5⟩ y => ?_) (fun σ H5 ⟨hnm, w5, w6, e, kp5, hd5⟩ => ?_)
        · obtain ⟨rfl, hx⟩ := y
          subst e
          obtain ⟨p, hp, rfl⟩ := at_ref hx
          obtain ⟨z, hzi, hpz⟩ := pp3.2 i p hp
          have fo := hz z (List.mem_of_getElem? hzi)
          have npd : p ≠ d := ne_of hpz hd3 (by intro z; cases z)
          have dv := join_dvA (zs := zs.take i) (fun z hz' => hz z (List.mem_of_mem_take hz')) (fun z hz' => hg z (List.mem_of_mem_take hz')) (fieldName z)
          refine ⟨_, _, rfl, SqT.of (kp5 _ _ npd hpz), rfl, _, _, rfl, _, _, rfl, rfl, ?_⟩
          by_cases hnn : fieldName z ∈ hs ns
          case neg =>
            refine ⟨_, rfl, _, rfl, d, _, rfl, gd_RN (.inl hd5) hnn, _, rfl, iteT ?_⟩
            exact rd_nn rfl fun H' d' s' h' => kE i z hzi hnn hnm hg H' d' ((sH _ kp5).trans s') h'
          have gd := gd_kvG hd5 hnn
          have fdv := fo.dv (hg z (List.mem_of_getElem? hzi))
          refine ⟨_, rfl, _, rfl, d, _, rfl, gd, _, rfl, iteF ?_⟩
          refine ⟨_, rfl, _, rfl, d, _, rfl, gd, _, rfl, joinS (zs.take i) (fieldName z), fnum z, rfl, dvd_lt dv, dvd_lt fdv, dvd_lt (dvd_lcm dv fdv), _, rfl, _, rfl, d, _, rfl, DPut.k (k := Sum.inr (fieldName z)) hd5 ?_, ?_⟩
          · rw [kvG_len, List.length_cons]
            omega
          · refine ⟨all_next hzi hnm hnn, _, _, rfl, fun b o nb q => by rw [upd_ne nb]; exact kp5 _ _ nb q, ?_⟩
            rw [upd_same, putG_old hnn]
            congr 2
            unfold kvG
            refine List.map_congr_left fun n _ => ?_
            unfold atF numV
            rw [join_next hzi]
            by_cases q : n = fieldName z
            · subst q
              rw [if_pos rfl, if_pos rfl]
            · rw [if_neg q, if_neg fun e => q e.symm]
        · subst e
          rw [List.length_map, pp3.1, List.take_length] at hd5 hnm
          exact ⟨_, rfl, k (fun z hz' => ⟨hg z hz', hnm z hz'⟩) _ d (sH _ kp5) hd5⟩
end
end Jd
namespace Jd
open PySem PySem.Spec PyProof.Rows L2
/-! ### a Stage made, with its errors -/
theorem KeepX.after {x : Addr} {H H1 H2 : Hp} (k : KeepX x H H1) (s : Same H1 H2) : KeepX x H H2 := fun b o n q => s _ _ (k _ _ n q)
def spSIX (K : PySem.W.Frag) : Sp := fun vs H Q E => ∃ (x dx kk f : Addr) (ns zs : List Str) (t : Str → List Str), vs = [.ref x, .ref kk, .ref f] ∧ H x = some (.ins (He.ga K "Stage") dx []) ∧ KeysO K H kk ns t ∧ ("#" : Str) ∉ ns ∧ Sq K H f (zs.map V.str) ∧ zs.length ≤ 100 ∧ (∀ z ∈ zs, FldAny z) ∧
  FldEnds K (KeepX x H) E ns zs (∀ H' d, KeepX x H H' → StageO K H' x kk d ns t (closeM ns t (joinS zs)) → Q .non H')
section
variable {P : Program} {w : World} {K : PySem.W.Frag} {mg : Str → Option Value} {base : Heap}
theorem ok_Stage_initF (B : Bk K mg) : ∃ fd, FnOk P w K mg base (L2.CX P w) 6 (He.ma K (He.ga K "Stage") "__init__") fd ["self", "keys", "fields"] (spSIX K) ∧ Fun K "__init__" "Stage.__init__" s_Stage___init__ (He.ma K (He.ga K "Stage") "__init__") fd := by
  obtain ⟨fd, F⟩ := B.F_Stage___init
  obtain ⟨fdJ, GJ, bJ⟩ := (ok_joinX (P := P) (w := w) (base := base) B).ex
  have kJ := (ok_joinX (P := P) (w := w) (base := base) B).kp
  obtain ⟨fdC, GC, bC⟩ := (ok_closed (P := P) (w := w) (base := base) B).ex
  have kC := (ok_closed (P := P) (w := w) (base := base) B).kp
  refine ⟨fd, ?_, F⟩
  refine F.okX sc_si (fun vs H Q E h => ?_) (fun cdv A outer s H vs Q E hr h => ?_)
  · obtain ⟨_, _, _, _, _, _, _, rfl, _⟩ := h
    rfl
  · obtain ⟨x, dx, kk, f, ns, zs, t, rfl, hx, ko, n0, hf, l100, hz, ends⟩ := h
    have hr4 : Room 4 _ := hr.mono (by decide)
    refine ⟨_, pss_cons (ps_fld (pv 0) (pv 1) rfl)
      (pss_one (ps_fld (pv 0) (pe_call GC hr rfl B.g_closed kC bC .nil pass0 (pa_cons (pv 1) (pa_cons (pe_call GJ hr4 rfl B.g_joined kJ bJ .nil (passes_call (takes_of rfl rfl rfl rfl) (fun _ _ _ _ h => h)) (pa_cons (pv 1) (pa_cons (pv 2) pa_nil))) pa_nil))) rfl)), ?_⟩
    refine ⟨_, rfl, _, rfl, x, _, dx, [], rfl, hx, B.cl_Stage, B.no_Stage__schema, by decide, ?_⟩
    have ep : putF ("_schema" : Str) (V.ref kk) [] = [(("_schema" : Str), V.ref kk)] := rfl
    rw [ep]
    have kp : KeepX x H (upd H x (.ins (He.ga K "Stage") dx [("_schema", .ref kk)])) := fun b o n q => by
      rw [upd_ne n]
      exact q
    have ko1 := ko.keepS hx (by intro a b z; cases z) kp
    have hf1 := hf.keep hx kp
    have hx1 : (upd H x (.ins (He.ga K "Stage") dx [("_schema", .ref kk)])) x = some (.ins (He.ga K "Stage") dx [("_schema", .ref kk)]) := upd_same
    generalize (upd H x (.ins (He.ga K "Stage") dx [("_schema", .ref kk)])) = H1 at kp ko1 hf1 hx1
    refine ⟨_, rfl, _, rfl, _, rfl, kk, f, ns, zs, t, rfl, ko1, n0, hf1, l100, hz, ⟨fun i z h1 h2 h3 H' d s' hd => ends.bad i z h1 h2 h3 H' d (kp.after s') hd, fun i z h1 h2 h3 h4 H' d s' hd => ends.non i z h1 h2 h3 h4 H' d (kp.after s') hd, fun hall H2 d2 s2 hd2 => ?_⟩⟩
    refine ⟨kk, d2, ns, t, joinS zs, rfl, ko1.same s2, n0, hd2, fun H3 r s3 hr3 => ?_⟩
    have s13 := s2.trans s3
    have hx3 := s13 _ _ hx1
    refine ⟨_, rfl, x, _, dx, _, rfl, hx3, B.cl_Stage, B.no_Stage__numbers, (by show 1 < 1000; decide), ?_⟩
    have ep : putF ("_numbers" : Str) (V.ref r) [(("_schema" : Str), V.ref kk)] = [(("_schema" : Str), V.ref kk), (("_numbers" : Str), V.ref r)] := rfl
    rw [ep]
    refine ends.good hall _ r (fun b o n q => ?_) ⟨⟨dx, upd_same⟩, ?_, ?_⟩
    · rw [upd_ne n]
      exact s13 _ _ (kp _ _ n q)
    · exact (ko1.same s13).keepS hx3 (by intro a b z; cases z) fun b o n q => by rw [upd_ne n]; exact q
    · rw [upd_ne (ne_of hr3 hx3 (by intro z; cases z))]
      exact hr3
theorem ok_Stage_initX (B : Bk K mg) : ∃ fd, FnOk P w K mg base (L2.CX P w) 6 (He.ma K (He.ga K "Stage") "__init__") fd ["self", "keys", "fields"] (spSIX K) ∧ Binds K fd ["self", "keys", "fields"] [] := by
  obtain ⟨fd, G, F⟩ := ok_Stage_initF (P := P) (w := w) (base := base) B
  exact ⟨fd, G, F.binds fun _ _ _ _ _ _ us hl => match us, hl with | [_, _, _], _ => rfl⟩
end
end Jd
namespace Jd
open PySem PySem.Spec PyProof.Rows L2
/-! ### walks over a Stage's numbers -/
theorem kv_item {ks : List Str} {m : Str → Nat} {i : Nat} {u v : V} (e1 : ((kvG ks (numV m))[i]?.map fun kv => kV kv.1) = some u) (e2 : (kvG ks (numV m))[i]?.map Prod.snd = some v) : ∃ n, ks[i]? = some n ∧ u = .str n ∧ v = iV (m n) := by
  unfold kvG at e1 e2
  rw [List.getElem?_map] at e1 e2
  cases q : ks[i]? with
  | none =>
    rw [q] at e1
    cases e1
  | some n =>
    rw [q] at e1 e2
    cases e1
    cases e2
    exact ⟨n, rfl, rfl, rfl⟩
theorem fm_names {ks : List Str} {f : Str → Option V} : (List.range ks.length).filterMap (fun i => (ks[i]?).bind f) = ks.filterMap f := by
  induction ks with
  | nil => rfl
  | cons k ks ih =>
    rw [List.length_cons, List.range_succ_eq_map, List.filterMap_cons, List.filterMap_map, List.filterMap_cons]
    have e : ((fun i => ((k :: ks)[i]?).bind f) ∘ Nat.succ) = fun i => (ks[i]?).bind f := rfl
    rw [e, ih]
    rfl
/-- a comprehension over the items of a locked dict of numbers -/
theorem lc_items {H : Hp} {d D : Addr} {od : Obj} {ks : List Str} {m : Str → Nat} {g : TG} {tt : TT} {te : TE} {vs : List Nat} {σ : L2.St} {Qd : Hp → Prop} (hd : H d = some (.dK (kvG ks (numV m)))) (hD : (upd H d (.frz od (.dK (kvG ks (numV m))))) D = none) (hl : ks.length ≤ 1000) (f : Str → Option V)
    (hs : ∀ n T H' (Kt : VK) (Kf : Hp → Prop), n ∈ ks → Same (upd H d (.frz od (.dK (kvG ks (numV m))))) H' → H' T = some (.tup [.str n, iV (m n)]) → (∀ y H4, f n = some y → Same H' H4 → Kt y H4) → (∀ H4, f n = none → Same H' H4 → Kf H4) →
      g (.ref T) (wipe σ vs) H' fun σ2 H2 => wipe σ2 vs = wipe σ vs ∧ tt σ2 H2 fun b H3 => if b = true then te σ2 H3 Kt else Kf H3)
    (hq : ∀ H', H' d = some (.frz od (.dK (kvG ks (numV m)))) → Same H (upd H' d (.dK (kvG ks (numV m)))) → H D = none → D ≠ d → (upd H' d (.dK (kvG ks (numV m)))) D = some (.lst (ks.filterMap f)) → Qd H') :
    ∃ W : Nat → Nat → Hp → Prop, (∃ m', W 0 m' (upd (upd H d (.frz od (.dK (kvG ks (numV m))))) D (.lst []))) ∧ ∀ i m' H', W i m' H' →
      ((Iti d od (kvG ks (numV m))).stop i H' ∧ Qd H') ∨ ((Iti d od (kvG ks (numV m))).go i H' ∧ ∃ Nx : Hp → Prop, (∀ H2, Nx H2 → ∃ m2, m2 < m' ∧ W (i + 1) m2 H2) ∧ ∀ x H2, (Iti d od (kvG ks (numV m))).yld i H' x H2 → g x (wipe σ vs) H2 fun σ2 H3 => wipe σ2 vs = wipe σ vs ∧ tt σ2 H3 fun b H4 =>
        if b = true then te σ2 H4 fun y H5 => ∃ acc, H5 D = some (.lst acc) ∧ acc.length < sizeLine ∧ Nx (upd H5 D (.lst (acc ++ [y]))) else Nx H4) := by
  have nDd : D ≠ d := fun z => by
    rw [z, upd_same] at hD
    cases hD
  refine lc_fm (w := walk_items (d := d) (o := od) (kvs := kvG ks (numV m))) (fun i => (ks[i]?).bind f) hD (by rw [kvG_len]; exact Nat.le_trans hl (by decide)) (fun H' s' => s' _ _ upd_same) (fun i x H1 H2 Kt Kf hi s1 y kt kf => ?_) (fun H1 s1 hD1 => ?_)
  · obtain ⟨T, u, v', rfl, nT, rfl, e1, e2⟩ := y
    obtain ⟨n, hn, rfl, rfl⟩ := kv_item e1 e2
    rw [hn] at kt kf
    refine hs n T _ Kt Kf (List.mem_of_getElem? hn) (s1.trans (Same_new nT)) upd_same (fun y H4 e s4 => kt y H4 e ((Same_new nT).trans s4)) (fun H4 e s4 => kf H4 e ((Same_new nT).trans s4))
  · rw [kvG_len, fm_names] at hD1
    exact hq _ (s1 _ _ upd_same) (Same_unlock hd s1) (by rw [upd_ne nDd] at hD; exact hD) nDd (by rw [upd_ne nDd]; exact hD1)
theorem fm_filter' {ks : List Str} (p : Str → Prop) [DecidablePred p] (f : Str → V) : ks.filterMap (fun n => if p n then some (f n) else none) = (ks.filter fun n => decide (p n)).map f := by
  induction ks with
  | nil => rfl
  | cons k ks ih =>
    rw [List.filterMap_cons, List.filter_cons]
    by_cases h : p k
    · rw [if_pos h, if_pos (decide_eq_true h), List.map_cons, ← ih]
    · rw [if_neg h, if_neg (by rw [decide_eq_false h]; decide), ← ih]
/-- the texts of the plain writing -/
def shownT (ns : List Str) (t : Str → List Str) (m : Str → Nat) : List Str := ((hs ns).filter fun n => decide (m n ≠ 1 ∧ n ∉ wholeOf (hs ns) ns t m)).map fun n => fldT n (m n)
theorem flat_len7 {f : Str → List Str} {l : List Str} (h : ∀ w ∈ l, (f w).length ≤ 7) : (l.flatMap f).length ≤ 7 * l.length := by
  induction l with
  | nil => exact Nat.le_refl 0
  | cons w l ih =>
    rw [List.flatMap_cons, List.length_append, List.length_cons]
    have := h w List.mem_cons_self
    have := ih fun x hx => h x (List.mem_cons_of_mem _ hx)
    omega
theorem whole_flat {ns : List Str} {t : Str → List Str} {m : Str → Nat} : ∀ {ks : List Str}, (ks.filter fun n => decide (m n = 0)).flatMap (toldAt ns t) = wholeOf ks ns t m
  | [] => rfl
  | k :: ks => by
    rw [List.filter_cons]
    show _ = (if m k = 0 then toldAt ns t k else []) ++ wholeOf ks ns t m
    by_cases h : m k = 0
    · rw [if_pos (decide_eq_true h), if_pos h, List.flatMap_cons, whole_flat]
    · rw [if_neg (by rw [decide_eq_false h]; decide), if_neg h, whole_flat]
      rfl
def spFlds (K : PySem.W.Frag) : Sp := fun vs H Q _ => ∃ (x kk d : Addr) (ns : List Str) (t : Str → List Str) (m : Str → Nat), vs = [.ref x] ∧ StageO K H x kk d ns t m ∧ StM ns t m ∧
  ∀ H' p ys, Same H H' → ys.Perm (txAll (shownT ns t m)) → sortedS ys = true → H' p = some (.tup (ys.map V.str)) → Q (.ref p) H'
section
variable {P : Program} {w : World} {K : PySem.W.Frag} {mg : Str → Option Value} {base : Heap}
abbrev NFd : List Str := ["self", "whole", "name", "m", "told", "other", "shown"]
theorem sc_flds : FnScope NFd ["self"] (defScope s_Stage_p_fields) := ⟨rfl, rfl, rfl, by decide +kernel, rfl, by decide +kernel, by decide +kernel⟩
theorem ok_fields (B : Bk K mg) : ∃ fd, FnOk P w K mg base CX0 5 (propG K "Stage" "fields") fd ["self"] (spFlds K) ∧ Binds K fd ["self"] [] := by
  obtain ⟨fd, F⟩ := B.F_Stage_p_fields
  obtain ⟨fdT, GT, FT⟩ := ok_told (P := P) (w := w) (base := base) B
  have bT : Binds K fdT ["self", "name"] [] := FT.binds fun _ _ _ _ _ _ us hl => match us, hl with | [_, _], _ => rfl
  obtain ⟨fdX, GX, bX⟩ := (ok_fT (P := P) (w := w) (base := base) B).ex
  have kX := (ok_fT (P := P) (w := w) (base := base) B).kp
  refine ⟨fd, ?_, F.binds fun _ _ _ _ _ _ us hl => match us, hl with | [_], _ => rfl⟩
  refine F.ok sc_flds (fun vs H Q E h => ?_) (fun cdv A outer s H vs Q E hr h => ?_)
  · obtain ⟨_, _, _, _, _, _, rfl, _⟩ := h
    rfl
  · obtain ⟨x, kk, d, ns, t, m, rfl, so, sm, k⟩ := h
    have hu := hu_of hr
    have hr2 : Room 2 _ := hr.mono (by decide)
    refine ⟨_, pss_cons (ps_lock (ps_setLc (i := 1) (own := [("name", 2), ("m", 3)]) (g := gTup K 2 (gCons (gName 2) (gCons (gName 3) gNil))) (tt := tTest (tOp rEq (tVar 3) (tC (.int 0)))) rfl sc_flds.nd rfl rfl (sw_true rfl rfl rfl (by decide +kernel)) (pi_items (pe_fld (pv 0) rfl)) (blkOk_by (N := NFd) (sc := defScope s_Stage_p_fields) (by decide +kernel))
          (fun _ _ _ _ _ => pg_tup rfl (pgs_cons (pg_name (i := 2) sc_flds.nd rfl (Or.inl rfl)) (pgs_cons (pg_name (i := 3) sc_flds.nd rfl (Or.inl rfl)) pgs_nil))) (fun _ _ _ _ _ => pts_one (pt_cmpR op_eq (pv 3) pe_int (nomark _))) (fun _ _ _ _ _ => pv 2)))
      (pss_cons (ps_set (i := 4) sc_flds.nd rfl (Or.inr rfl) (pe_lc2 (own := [("name", 2), ("other", 5)]) (vs1 := [5]) (g := gName 2) (g1 := gName 5) (tt := tYes) (tt1 := tYes)
          (wi1 := iTup K (tMeth (He.ga K "Keys") "told" (spTold K) [] (fun _ _ _ => False) (tFld K (tVar 0) "_schema") (tCons (tVar 2) tNil))) rfl sc_flds.nd (pi_list (pv 1)) (blkOk_by (N := NFd) (sc := defScope s_Stage_p_fields) (by decide +kernel)) (by decide)
          (fun _ _ _ _ _ => pg_name (i := 2) sc_flds.nd rfl (Or.inl rfl)) (fun _ _ _ _ _ => pts_nil)
          (fun _ _ _ _ _ => pi_tup (pe_meth (E := fun _ _ _ => False) (pe_fld (pv 0) rfl) B.cl_Keys B.me_Keys_told GT hr bT .nil passF (pa_cons (pv 2) pa_nil))) (fun _ _ _ _ _ => pg_name (i := 5) sc_flds.nd rfl (Or.inl rfl)) (fun _ _ _ _ _ => pts_nil) (fun _ _ _ _ _ => pv 5)))
      (pss_cons (ps_lock (ps_setLc (i := 6) (own := [("name", 2), ("m", 3)]) (g := gTup K 2 (gCons (gName 2) (gCons (gName 3) gNil))) (tt := tAnd (tTest (tOp rNe (tVar 3) (tC (.int 1)))) (tTest (tOp (rIn K true) (tVar 2) (tVar 4)))) rfl sc_flds.nd rfl rfl (sw_true rfl rfl rfl (by decide +kernel)) (pi_items (pe_fld (pv 0) rfl)) (blkOk_by (N := NFd) (sc := defScope s_Stage_p_fields) (by decide +kernel))
          (fun _ _ _ _ _ => pg_tup rfl (pgs_cons (pg_name (i := 2) sc_flds.nd rfl (Or.inl rfl)) (pgs_cons (pg_name (i := 3) sc_flds.nd rfl (Or.inl rfl)) pgs_nil))) (fun _ _ _ _ _ => pts_one (PW.pt (pw_and (pt_cmpR op_ne (pv 3) pe_int (nomark _)) (pw_and1 (pt_cmpR op_notIn_seq (pv 2) (pv 4) (by rfl)))))) (fun _ _ _ _ _ => pv 2)))
      (pss_one (ps_ret (pe_callTy call_tuple_of (by rfl) B.b_tuple (by decide +kernel) (pa_cons (pe_callB (cr_sortTx rfl) (by rfl) B.b_sorted (by decide +kernel) (pa_cons (pe_callTy (cr_setTx rfl) (by rfl) B.b_set (by decide +kernel) (pa_cons
        (pe_lc (own := [("name", 2)]) (g := gName 2) (tt := tYes) (te := tCall spFT [] E0 (tCons (tVar 2) (tCons (tDGet (tFld K (tVar 0) "_numbers") (tVar 2)) tNil))) rfl sc_flds.nd (pi_list (pv 6)) (blkOk_by (N := NFd) (sc := defScope s_Stage_p_fields) (by decide +kernel))
          (fun _ _ _ _ _ => pg_name (i := 2) sc_flds.nd rfl (Or.inl rfl)) (fun _ _ _ _ _ => pts_nil) (fun _ _ _ _ _ => pe_call GX hr2 rfl B.g_field_text kX bX .nil pass0 (pa_cons (pv 2) (pa_cons (pe_dget hu (pe_fld (pv 0) rfl) (pv 2) (fun _ _ => rfl)) pa_nil)))) pa_nil)) pa_nil)) pa_nil)))))), ?_⟩
    obtain ⟨dx, hx⟩ := so.x
    have ko := so.k
    obtain ⟨_, _, _, _, _, _, _, _, nd, l7, _, t7⟩ := id ko
    have big : (1000 : Nat) ≤ sizeLine := by decide
    have ndk : (hs ns).Nodup := List.nodup_cons.mpr ⟨sm.n0, nd⟩
    have hl : (hs ns).length ≤ 1000 := by rw [List.length_cons]; omega
    have tl7 : ∀ w ∈ hs ns, (toldAt ns t w).length ≤ 7 := fun w hw => by
      unfold toldAt
      by_cases e : w = "#"
      · rw [if_pos e]
        exact l7
      · rw [if_neg e]
        exact (t7 w ((List.mem_cons.mp hw).resolve_left e)).1
    have lF : ((hs ns).filter fun n => decide (m n = 0)).length ≤ 8 := by
      have := List.length_filter_le (fun n => decide (m n = 0)) (hs ns)
      rw [List.length_cons] at this
      omega
    -- whole
    refine ⟨d, _, so.d, trivial, fun od => ?_⟩
    have hxo : (upd H d (.frz od (.dK (kvG (hs ns) (numV m))))) x = some (.ins (He.ga K "Stage") dx [("_schema", .ref kk), ("_numbers", .ref d)]) := by
      rw [upd_ne (ne_of hx so.d (by intro z; cases z))]
      exact hx
    refine ⟨_, rfl, x, _, dx, _, _, rfl, hxo, B.cl_Stage, B.no_Stage__numbers, rfl, d, od, _, rfl, upd_same, fun D hD => ?_⟩
    refine lc_items so.d hD hl (fun n => if m n = 0 then some (V.str n) else none) (fun n T H1 Kt Kf hn s1 hT kt kf => ?_) (fun H1 hz s1 nD nDd hD1 => ?_)
    · refine ⟨_, _, rfl, SqT.of hT, rfl, _, _, rfl, _, _, rfl, rfl, rfl, _, rfl, rfl, _, rfl, two (fun h1 => ?_) (fun h1 => ?_)⟩
      · have m0 : m n = 0 := by
          have e := V.int.inj (of_decide_eq_true h1)
          omega
        exact ⟨_, rfl, kt _ _ (if_pos m0) (Same.refl _)⟩
      · have m0 : ¬ m n = 0 := fun e => of_decide_eq_false h1 (by rw [e]; rfl)
        exact kf _ (if_neg m0) (Same.refl _)
    have eW : (hs ns).filterMap (fun n => if m n = 0 then some (V.str n) else none) = ((hs ns).filter fun n => decide (m n = 0)).map V.str := fm_filter' _ _
    rw [eW] at hD1
    refine ⟨hz, ?_⟩
    have so1 : StageO K (upd H1 d (.dK (kvG (hs ns) (numV m)))) x kk d ns t m := so.same s1
    generalize (upd H1 d (.dK (kvG (hs ns) (numV m)))) = G1 at s1 hD1 so1 ⊢
    -- told
    have nD2 : H D = none := nD
    obtain ⟨dx1, hx1⟩ := so1.x
    refine ⟨_, rfl, D, rfl, ⟨_, SqL.of hD1⟩, fun D2 hD2 => ?_⟩
    refine walk_by (walk_list (xs := ((hs ns).filter fun n => decide (m n = 0)).map V.str)) _ (fun i H' => Same G1 H' ∧ H' D2 = some (.lst (((((hs ns).filter fun n => decide (m n = 0)).take i).flatMap (toldAt ns t)).map V.str)))
      ⟨Same_new hD2, upd_same⟩ (fun i H' p => SqL.of (p.1 _ _ hD1)) (fun i v H2 H3 hi ⟨s2, hE⟩ y => ?_) (fun H2 ⟨s2, hE⟩ => ?_)
    · obtain ⟨rfl, hv⟩ := y
      obtain ⟨n, hn, rfl⟩ := at_str hv
      have hni : n ∈ hs ns := (List.mem_filter.mp (List.mem_of_getElem? hn)).1
      have ko2 := so1.k.same s2
      obtain ⟨dk2, _, _, _, hk2, _⟩ := id ko2
      refine ⟨rfl, iteT (B := ∃ z : Nat, z = 0) ?_⟩
      refine ⟨_, rfl, x, _, dx1, _, _, rfl, s2 _ _ hx1, B.cl_Stage, B.no_Stage__schema, rfl, kk, dk2, _, rfl, hk2, rfl, _, rfl, kk, n, ns, t, rfl, ko2, fun _ p hp => ⟨p, rfl, ⟨_, SqT.of hp⟩, ?_⟩, fun h => absurd (List.mem_cons.mp hni) h⟩
      have lp : ((((hs ns).filter fun n => decide (m n = 0)).take i).flatMap (toldAt ns t)).length ≤ 56 := by
        have q := flat_len7 (f := toldAt ns t) (l := ((hs ns).filter fun n => decide (m n = 0)).take i) fun w hw => tl7 w (List.mem_filter.mp (List.mem_of_mem_take hw)).1
        rw [List.length_take] at q
        omega
      refine walk_by (walk_tup (xs := (toldAt ns t n).map V.str)) _ (fun j H' => Same G1 H' ∧ H' p = some (.tup ((toldAt ns t n).map V.str)) ∧ H' D2 = some (.lst (((((hs ns).filter fun n => decide (m n = 0)).take i).flatMap (toldAt ns t) ++ (toldAt ns t n).take j).map V.str)))
        ⟨s2, hp, by rw [List.take_zero, List.append_nil]; exact hE⟩ (fun j H' p' => SqT.of p'.2.1) (fun j v H3 H4 hj ⟨s3, hp3, hD3⟩ y => ?_) (fun H3 ⟨s3, _, hD3⟩ => ?_)
      · obtain ⟨rfl, hv⟩ := y
        obtain ⟨o, ho, rfl⟩ := at_str hv
        have npD : p ≠ D2 := ne_of hp3 hD3 (by intro z; cases z)
        refine ⟨rfl, iteT (B := ∃ z : Nat, z = 0) ?_⟩
        refine ⟨_, rfl, _, hD3, ?_, Same_upd s3 hD2, by rw [upd_ne npD]; exact hp3, ?_⟩
        · have q2 := tl7 n hni
          rw [List.length_map, List.length_append, List.length_take]
          omega
        · rw [upd_same, List.take_add_one, ho, ← List.append_assoc]
          exact congrArg (fun z => some (HO.lst z)) (by simp)
      · refine ⟨s3, ?_⟩
        rw [List.length_map, List.take_length] at hD3
        rw [List.take_add_one, hn, List.flatMap_append]
        rw [hD3]
        simp
    · rw [List.length_map, List.take_length, whole_flat] at hE
      have sH2 := s1.trans s2
      have so2 := so1.same s2
      obtain ⟨dx2, hx2⟩ := so2.x
      -- shown
      refine ⟨d, _, so2.d, trivial, fun od2 => ?_⟩
      have hxo2 : (upd H2 d (.frz od2 (.dK (kvG (hs ns) (numV m))))) x = some (.ins (He.ga K "Stage") dx2 [("_schema", .ref kk), ("_numbers", .ref d)]) := by
        rw [upd_ne (ne_of hx2 so2.d (by intro z; cases z))]
        exact hx2
      have nD2d : D2 ≠ d := ne_of hE so2.d (by intro z; cases z)
      refine ⟨_, rfl, x, _, dx2, _, _, rfl, hxo2, B.cl_Stage, B.no_Stage__numbers, rfl, d, od2, _, rfl, upd_same, fun D3 hD3 => ?_⟩
      refine lc_items so2.d hD3 hl (fun n => if m n ≠ 1 ∧ n ∉ wholeOf (hs ns) ns t m then some (V.str n) else none) (fun n T H3 Kt Kf hn s3 hT kt kf => ?_) (fun H3 hz3 s3 nD3 nD3d hD33 => ?_)
      · have hD24 : H3 D2 = some (.lst ((wholeOf (hs ns) ns t m).map V.str)) := s3 _ _ (by rw [upd_ne nD2d]; exact hE)
        refine ⟨_, _, rfl, SqT.of hT, rfl, _, _, rfl, _, _, rfl, rfl, rfl, _, rfl, rfl, _, rfl, two (fun h1 => ?_) (fun h1 => ?_)⟩
        · have m1 : m n ≠ 1 := fun e => by
            have h1' : (!decide (V.int ((m n : Nat) : Int) = V.int 1)) = true := h1
            rw [e] at h1'
            cases h1'
          refine ⟨_, rfl, _, rfl, D2, _, rfl, .inl (SqL.of hD24), rfl, fl_str, _, rfl, ?_⟩
          show if (!inV (V.str n) ((wholeOf (hs ns) ns t m).map V.str)) = true then _ else _
          rw [inV_str]
          by_cases q : n ∈ wholeOf (hs ns) ns t m
          · rw [decide_eq_true q]
            exact iteF (kf _ (if_neg fun z => z.2 q) (Same.refl _))
          · rw [decide_eq_false q]
            exact iteT ⟨_, rfl, kt _ _ (if_pos ⟨m1, q⟩) (Same.refl _)⟩
        · have m1 : m n = 1 := by
            have h1' : (!decide (V.int ((m n : Nat) : Int) = V.int 1)) = false := h1
            by_cases q : m n = 1
            · exact q
            · rw [decide_eq_false fun y => q (by have := V.int.inj y; omega)] at h1'
              cases h1'
          exact iteF (kf _ (if_neg fun z => z.1 m1) (Same.refl _))
      have eS : (hs ns).filterMap (fun n => if m n ≠ 1 ∧ n ∉ wholeOf (hs ns) ns t m then some (V.str n) else none) = ((hs ns).filter fun n => decide (m n ≠ 1 ∧ n ∉ wholeOf (hs ns) ns t m)).map V.str := fm_filter' _ _
      rw [eS] at hD33
      refine ⟨hz3, ?_⟩
      have so3 := so2.same s3
      have sH3 := sH2.trans s3
      generalize (upd H3 d (.dK (kvG (hs ns) (numV m)))) = G3 at s3 hD33 so3 sH3 ⊢
      obtain ⟨dx3, hx3⟩ := so3.x
      have lS : ((hs ns).filter fun n => decide (m n ≠ 1 ∧ n ∉ wholeOf (hs ns) ns t m)).length ≤ 8 := by
        have := List.length_filter_le (fun n => decide (m n ≠ 1 ∧ n ∉ wholeOf (hs ns) ns t m)) (hs ns)
        rw [List.length_cons] at this
        omega
      refine ⟨_, rfl, D3, rfl, ⟨_, SqL.of hD33⟩, fun D4 hD4 => ?_⟩
      refine lc_fm (w := walk_list (xs := ((hs ns).filter fun n => decide (m n ≠ 1 ∧ n ∉ wholeOf (hs ns) ns t m)).map V.str)) (fun i => (((hs ns).filter fun n => decide (m n ≠ 1 ∧ n ∉ wholeOf (hs ns) ns t m))[i]?).map fun n => V.str (fldT n (m n))) hD4 (by rw [List.length_map]; omega) (fun H' s' => SqL.of (s' _ _ hD33)) (fun i v H4 H5 Kt Kf hi s4 y kt kf => ?_) (fun H4 s4 hD44 => ?_)
      · obtain ⟨rfl, hv⟩ := y
        obtain ⟨n, hn, rfl⟩ := at_str hv
        obtain ⟨hni, hp⟩ := List.mem_filter.mp (List.mem_of_getElem? hn)
        have hp := of_decide_eq_true hp
        have ho : OwnF n := (List.mem_cons.mp hni).elim (fun e => e ▸ own_hash) fun h => own_name (sm.nm n h)
        have ok : m n = 0 ∨ numOk (m n) := (sm.dv n hni).imp id fun h => (num_facts h (by
          have : m n ≠ 0 := fun z => by
            rw [z] at h
            exact absurd (Nat.eq_zero_of_zero_dvd h) (by decide)
          have := hp.1
          omega)).ok
        refine ⟨rfl, iteT (B := ∃ z : Nat, z = 0) ?_⟩
        refine ⟨_, rfl, _, rfl, x, _, dx3, _, _, rfl, s4 _ _ hx3, B.cl_Stage, B.no_Stage__numbers, rfl, _, rfl, d, _, rfl, gd_R (.inl (s4 _ _ so3.d)) hni, n, m n, rfl, ok, Nat.le_trans ho.len (by decide), fun H6 s6 => kt _ _ ?_ s6⟩
        rw [hn]
        rfl
      · have e : (List.range (((hs ns).filter fun n => decide (m n ≠ 1 ∧ n ∉ wholeOf (hs ns) ns t m)).map V.str).length).filterMap (fun i => (((hs ns).filter fun n => decide (m n ≠ 1 ∧ n ∉ wholeOf (hs ns) ns t m))[i]?).map fun n => V.str (fldT n (m n))) = (shownT ns t m).map V.str := by
          rw [List.length_map]
          rw [fm_some (l := (hs ns).filter fun n => decide (m n ≠ 1 ∧ n ∉ wholeOf (hs ns) ns t m)) (g := fun n => V.str (fldT n (m n))) (fun i n hn => by rw [hn]; rfl)]
          unfold shownT
          rw [List.map_map]
          rfl
        rw [e] at hD44
        have l64 : (shownT ns t m).length < 64 := by
          unfold shownT
          rw [List.length_map]
          omega
        refine ⟨D4, _, rfl, .inl (SqL.of hD44), l64, fun a na => ?_⟩
        have h64' : (txAll (shownT ns t m)).length < 64 := by
          have q := txAll_len (shownT ns t m) []
          unfold txAll
          rw [List.length_nil] at q
          omega
        refine ⟨a, _, rfl, upd_same, h64', fun ys p2 pm so' nd' np => ?_⟩
        refine ⟨p2, _, rfl, .inl ⟨SqL.of upd_same, fun tt ht => ?_⟩⟩
        exact k _ tt ys ((sH3.trans s4).trans (((Same_new na).trans (Same_new np)).trans (Same_new ht))) pm so' upd_same
end
end Jd
namespace Jd
open PySem PySem.Spec PyProof.Rows L2
/-! ### the truth of an object by its own __len__ -/
section
variable {prog : Program} {w : World}
theorem meets_boolK (v : Value) : MeetsIn prog w (Builtin.«bool.__new__» ⟨[.type "bool", v], []⟩) (fun A R s => wpAny (model prog w) A.in1 (truthy v) (fun b s' => R (.ok (.ret (.bool b))) s') (fun e s' => R (.error e) s') s) :=
  .of_wp fun A R s hs => by
    have f1 := F.conv_sub_bool
    unfold Builtin.«bool.__new__»
    repeat (any_goals (first | assumption | (with_reducible exact wpAny_bind (wpAny_mono hs (fun b s' h => wpAny_pure ⟨_, rfl, h⟩) fun _ _ x => x)) | wp_step))
variable {A : Around} {E : Value → Shared → Prop} {s : Shared} {K : PySem.W.Frag} {x C L f : Addr} {h₀ : Heap} {m : Str → Option Value} {ox : Obj} {od : Option Obj}
open PySem.W in
theorem truthy_lenK {Q : Bool → Shared → Prop} (F : Fr h₀ L s.heap m) (X₀ : K.In h₀) (I : InstAt s.heap x ox C od) (hb : findIn K (.ref C) "__bool__" = some none) (hs : findIn K (.ref C) "__len__" = some (some (.ref f))) (hf : isFn K (.ref f) = true)
    (h : wpAny (model prog w) A.in1 (call (.ref f) [.ref x]) (PySem.W.LenBack fun v s' => ∃ n t, v = .int n t ∧ Q (n != 0) s') E s) : wpAny (model prog w) A (truthy (.ref x)) Q E s := by
  have X := X₀.keeps F.keep
  have key : wpAny (model prog w) A (runValue (.builtin "len" ⟨[.ref x], []⟩)) (fun r s' => ∃ n t, r = .int n t ∧ Q (n != 0) s') E s := by
    refine wpAny_runValue (codeAny_builtin entry_len ?_)
    rw [Around.under_plainId plain_len _]
    unfold Builtin.«len»
    refine wpAny_bind (m := oneArg "len" _) (wpAny_pure (wpAny_bind (m := callSpecial? (.ref x) (Str.ofString "__len__")) (special_fn X I hs (beq_iff_eq.mp hf) (wpAny_mono h (fun r s' hr => ?_) fun _ _ y => y))))
    cases r with
    | int n u =>
      obtain ⟨⟨h0, h1⟩, hq⟩ := hr
      refine wpAny_bind (wpAny_holding (wpAny_pure (wpAny_bind (wpAny_letGo ?_))))
      change wpAny _ _ (if n < 0 then _ else _) _ _ _
      rw [if_neg (Int.not_lt.mpr h0)]
      change wpAny _ _ (if n ≥ 2 ^ 63 then _ else _) _ _ _
      rw [if_neg (Int.not_le.mpr h1)]
      exact wpAny_bind (wpAny_mkInt (wpAny_pure hq))
    | _ => exact hr.elim
  unfold truthy
  refine wpAny_bind (m := callSpecial? (.ref x) (Str.ofString "__bool__")) (wpAny_bind (wpAny_bind (I.type.here ((looks_findIn X hb).here (wpAny_pure (wpAny_bind (wpAny_bind (I.type.here ((looks_findIn X hs).here ?_)))))))))
  first
    | exact wpAny_bind (wpAny_mono key (fun r s' h' => by obtain ⟨n, t, rfl, hq⟩ := h'; exact wpAny_pure hq) fun _ _ e => e)
    | exact wpAny_bind (wpAny_pure (wpAny_bind (wpAny_mono key (fun r s' h' => by obtain ⟨n, t, rfl, hq⟩ := h'; exact wpAny_pure hq) fun _ _ e => e)))
end
section
variable {X : Cx} {CX : CXT} {k : Nat} {f C : Addr} {fd : FuncData} {ps : List Str} {sp : Sp} {E : XK}
def rBoolOwn (C : Addr) (sp : Sp) (E : XK) : List V → Hp → VK → Prop := fun xs H Q => ∃ a dx fs, xs = [.ref a] ∧ H a = some (.ins C dx fs) ∧ sp [.ref a] H (fun v H' => ∃ n : Int, v = .int n ∧ 0 ≤ n ∧ n < 2 ^ 63 ∧ Q (.bl (n != 0)) H') E
theorem call_boolOwn (G : FnOk X.prog X.w X.K X.mg X.base CX k f fd ps sp) (hr : Room (k + 3) X.A) (hb0 : PySem.W.findIn X.K (.ref C) "__bool__" = some none) (hs : PySem.W.findIn X.K (.ref C) "__len__" = some (some (.ref f))) (hf : PySem.W.isFn X.K (.ref f) = true) (hb : Binds X.K fd ps []) (hx : Passes CX X E) : CallR X (.type "bool") (rBoolOwn C sp E) := by
  intro pins s σ H xs us Q I r h
  obtain ⟨a, dx, fs, rfl, ha, hsp⟩ := h
  obtain rfl := Vals.ref1 r
  obtain ⟨mA, J, _⟩ := ins_get I.hok ha
  obtain ⟨od, J, _⟩ := J.look
  obtain ⟨m, hF⟩ := I.fr
  refine callType_newIn F.called_bool F.newNe_bool (F.typeCall_bool_1 _) (F.newCall_bool_1 _) (fun obj => F.args_object_init_2 obj _) F.entry_bool_new (meets_boolK _) ?_
  refine truthy_lenK hF I.ok.mod.kin J hb0 hs hf (wpAny_mono (own_run X.A.in1.in1.in1 rfl G hr.in1.in1.in1 hb hx I (.cons (show RelV (V.ref a) (Value.ref a) from rfl) .nil) hsp) (fun v s' z => ?_) fun _ _ x => x)
  obtain ⟨y, H', I', rz, n, ez, n0, n1, q⟩ := z
  subst ez
  obtain ⟨t, rfl⟩ := (show ∃ t, v = Value.int n t from rz)
  exact ⟨⟨n0, n1⟩, n, _, rfl, rfl, .bl (n != 0), H', I'.tok _, rfl, q⟩
end
end Jd
namespace Jd
open PySem PySem.Spec PyProof.Rows L2
/-! ### Stage: text, len, in -/
def joinOr (ys : List Str) : Str := if ((Txt.join " " ys).length : Int) != 0 then Txt.join " " ys else "-"
def usedN (ns : List Str) (m : Str → Nat) : Nat := ((hs ns).filter fun n => decide (m n ≠ 1)).length
def spTxt (K : PySem.W.Frag) : Sp := fun vs H Q _ => ∃ (x kk d : Addr) (ns : List Str) (t : Str → List Str) (m : Str → Nat), vs = [.ref x] ∧ StageO K H x kk d ns t m ∧ StM ns t m ∧
  ∀ H' ys, Same H H' → ys.Perm (txAll (shownT ns t m)) → sortedS ys = true → Q (.str (joinOr ys)) H'
def spLenS (K : PySem.W.Frag) : Sp := fun vs H Q _ => ∃ (x kk d : Addr) (ns : List Str) (t : Str → List Str) (m : Str → Nat), vs = [.ref x] ∧ StageO K H x kk d ns t m ∧ ns.length ≤ 7 ∧ ∀ H', Same H H' → Q (.int (usedN ns m : Nat)) H'
def spInS (K : PySem.W.Frag) : Sp := fun vs H Q _ => ∃ (x kk d : Addr) (z : Str) (ns : List Str) (t : Str → List Str) (m : Str → Nat), vs = [.ref x, .str z] ∧ StageO K H x kk d ns t m ∧ StM ns t m ∧ FldAny z ∧
  ∀ H', Same H H' → Q (.bl (isFieldB z && (decide (fieldName z ∈ hs ns) && decide (fnum z ∣ m (fieldName z))))) H'
theorem sum_le {l : List Str} {k : Nat} (h : ∀ z ∈ l, z.length ≤ k) : (l.map (·.length)).sum ≤ k * l.length := by
  induction l with
  | nil => exact Nat.zero_le _
  | cons a l ih =>
    have q1 := ih fun z hz => h z (List.mem_cons_of_mem _ hz)
    have q2 := h a List.mem_cons_self
    rw [List.map_cons, List.sum_cons, List.length_cons, Nat.mul_add]
    omega
theorem join_small {ys : List Str} {k n : Nat} (h : ∀ z ∈ ys, z.length ≤ k) (hn : ys.length ≤ n) : (Txt.join " " ys).length ≤ k * n + n := by
  have q := StrLaws.join_length_le " " ys
  have l4 : (" " : Str).length = 1 := by decide
  have q2 := sum_le h
  have q3 : k * ys.length ≤ k * n := Nat.mul_le_mul_left k hn
  rw [l4] at q
  have e : Txt.join " " ys = Str.join " " ys := StrLaws.glued_eq_join " " ys
  rw [e]
  omega
theorem shown_len {ns : List Str} {t : Str → List Str} {m : Str → Nat} (sm : StM ns t m) : ∀ z ∈ shownT ns t m, z.length ≤ 30 := fun z hz => by
  obtain ⟨n, hn, rfl⟩ := List.mem_map.mp hz
  obtain ⟨hni, hp⟩ := List.mem_filter.mp hn
  have hp := of_decide_eq_true hp
  have ho : OwnF n := (List.mem_cons.mp hni).elim (fun e => e ▸ own_hash) fun h => own_name (sm.nm n h)
  refine (fld_facts ho ((sm.dv n hni).imp id fun h => ⟨h, ?_⟩)).2.2.2
  have : m n ≠ 0 := fun z => by
    rw [z] at h
    exact absurd (Nat.eq_zero_of_zero_dvd h) (by decide)
  have := hp.1
  omega
section
variable {P : Program} {w : World} {K : PySem.W.Frag} {mg : Str → Option Value} {base : Heap}
theorem sc_stx : FnScope ["self"] ["self"] (defScope s_Stage_p_text) := ⟨rfl, rfl, rfl, by decide +kernel, rfl, by decide +kernel, by decide +kernel⟩
theorem ok_stext (B : Bk K mg) : ∃ fd, FnOk P w K mg base CX0 7 (propG K "Stage" "text") fd ["self"] (spTxt K) ∧ Binds K fd ["self"] [] := by
  obtain ⟨fd, F⟩ := B.F_Stage_p_text
  obtain ⟨fdF, GF, bF⟩ := ok_fields (P := P) (w := w) (base := base) B
  refine ⟨fd, ?_, F.binds fun _ _ _ _ _ _ us hl => match us, hl with | [_], _ => rfl⟩
  refine F.ok sc_stx (fun vs H Q E h => ?_) (fun cdv A outer s H vs Q E hr h => ?_)
  · obtain ⟨_, _, _, _, _, _, rfl, _⟩ := h
    rfl
  · obtain ⟨x, kk, d, ns, t, m, rfl, so, sm, k⟩ := h
    refine ⟨_, pss_one (ps_ret (pe_orT (pe_join pe_str (pe_prop (pv 0) B.cl_Stage B.pr_Stage_fields GF hr bF .nil pass0 rfl)) (pe_one pe_str))), ?_⟩
    obtain ⟨dx, hx⟩ := so.x
    obtain ⟨_, _, _, _, _, _, _, _, nd, l7, _, t7⟩ := id so.k
    refine ⟨⟨_, rfl⟩, _, rfl, x, dx, _, rfl, hx, x, kk, d, ns, t, m, rfl, so, sm, fun H1 p ys s1 pm ss hp => ?_⟩
    have l1 : ys.length ≤ 8 := by
      have q := txAll_len (shownT ns t m) []
      have q2 : (shownT ns t m).length ≤ (hs ns).length := by
        unfold shownT
        rw [List.length_map]
        exact List.length_filter_le _ _
      rw [List.length_cons] at q2
      rw [pm.length_eq]
      unfold txAll
      rw [List.length_nil] at q
      omega
    have l2 : ∀ z ∈ ys, z.length ≤ 30 := fun z hz => by
      have q := (txAll_in _ _ _).mp (pm.mem_iff.mp hz)
      rcases q with q | q
      · exact shown_len sm z q
      · cases q
    have l3 := sum_le l2
    have l4 : (" " : Str).length = 1 := by decide
    refine ⟨" ", p, ys, rfl, rfl, .inr (SqT.of hp), (by rw [l4]; omega), _, ⟨?_, rfl⟩, ?_⟩
    · exact Nat.le_trans (join_small l2 l1) (by decide)
    · have q := k H1 ys s1 pm ss
      unfold joinOr at q
      refine two (fun h1 => ?_) (fun h1 => ?_)
      · rw [if_pos h1] at q
        exact q
      · rw [if_neg (by rw [h1]; decide)] at q
        exact q
theorem sc_sln : FnScope ["self", "m"] ["self"] (defScope s_Stage___len__) := ⟨rfl, rfl, rfl, by decide +kernel, rfl, by decide +kernel, by decide +kernel⟩
theorem ok_slen (B : Bk K mg) : ∃ fd, FnOk P w K mg base CX0 1 (He.ma K (He.ga K "Stage") "__len__") fd ["self"] (spLenS K) ∧ Binds K fd ["self"] [] := by
  obtain ⟨fd, F⟩ := B.F_Stage___len
  refine ⟨fd, ?_, F.binds fun _ _ _ _ _ _ us hl => match us, hl with | [_], _ => rfl⟩
  refine F.ok sc_sln (fun vs H Q E h => ?_) (fun cdv A outer s H vs Q E hr h => ?_)
  · obtain ⟨_, _, _, _, _, _, rfl, _⟩ := h
    rfl
  · obtain ⟨x, kk, d, ns, t, m, rfl, so, l7, k⟩ := h
    refine ⟨_, pss_one (ps_ret (pe_callB call_len_seq (by rfl) B.b_len (by decide +kernel) (pa_cons (pe_lock (pe_lc (own := [("m", 1)]) (g := gName 1) (tt := tTest (tOp rNe (tVar 1) (tC (.int 1)))) rfl sc_sln.nd (pi_values (pe_fld (pv 0) rfl)) (blkOk_by (N := ["self", "m"]) (sc := defScope s_Stage___len__) (by decide +kernel))
      (fun _ _ _ _ _ => pg_name (i := 1) sc_sln.nd rfl (Or.inl rfl)) (fun _ _ _ _ _ => pts_one (pt_cmpR op_ne (pv 1) pe_int (nomark _))) (fun _ _ _ _ _ => pv 1))) pa_nil))), ?_⟩
    obtain ⟨dx, hx⟩ := so.x
    refine ⟨d, _, so.d, trivial, fun od => ?_⟩
    have hxo : (upd H d (.frz od (.dK (kvG (hs ns) (numV m))))) x = some (.ins (He.ga K "Stage") dx [("_schema", .ref kk), ("_numbers", .ref d)]) := by
      rw [upd_ne (ne_of hx so.d (by intro z; cases z))]
      exact hx
    refine ⟨_, rfl, x, _, dx, _, _, rfl, hxo, B.cl_Stage, B.no_Stage__numbers, rfl, d, od, _, rfl, upd_same, fun D hD => ?_⟩
    have nDd : D ≠ d := fun z => by
      rw [z, upd_same] at hD
      cases hD
    refine lc_fm (w := walk_values (d := d) (o := od) (kvs := kvG (hs ns) (numV m))) (fun i => ((hs ns)[i]?).bind fun n => if m n ≠ 1 then some (iV (m n)) else none) hD (by rw [kvG_len, List.length_cons]; exact Nat.le_trans (by omega : ns.length + 1 ≤ 8) (by decide)) (fun H' s' => s' _ _ upd_same) (fun i v H1 H2 Kt Kf hi s1 y kt kf => ?_) (fun H1 s1 hD1 => ?_)
    · obtain ⟨rfl, ky, hk⟩ := y
      unfold kvG at hk
      rw [List.getElem?_map] at hk
      cases q : (hs ns)[i]? with
      | none =>
        rw [q] at hk
        cases hk
      | some n =>
        rw [q] at hk kt kf
        cases hk
        refine ⟨rfl, _, rfl, rfl, _, rfl, two (fun h1 => ?_) (fun h1 => ?_)⟩
        · have m1 : m n ≠ 1 := fun e => by
            have h1' : (!decide (V.int ((m n : Nat) : Int) = V.int 1)) = true := h1
            rw [e] at h1'
            cases h1'
          exact ⟨_, rfl, kt _ _ (if_pos m1) (Same.refl _)⟩
        · have m1 : m n = 1 := by
            have h1' : (!decide (V.int ((m n : Nat) : Int) = V.int 1)) = false := h1
            by_cases q : m n = 1
            · exact q
            · rw [decide_eq_false fun y => q (by have := V.int.inj y; omega)] at h1'
              cases h1'
          exact kf _ (if_neg fun z => z m1) (Same.refl _)
    · rw [kvG_len, fm_names, fm_filter' (fun n => m n ≠ 1) (fun n => iV (m n))] at hD1
      refine ⟨s1 _ _ upd_same, D, _, rfl, .inl (SqL.of (by rw [upd_ne nDd]; exact hD1)), ?_⟩
      rw [List.length_map]
      exact k _ (Same_unlock so.d s1)
theorem sc_sct : FnScope ["self", "field", "name", "m"] ["self", "field"] (defScope s_Stage___contains__) := ⟨rfl, rfl, rfl, by decide +kernel, rfl, by decide +kernel, by decide +kernel⟩
theorem ok_sin (B : Bk K mg) : ∃ fd, FnOk P w K mg base CX0 4 (He.ma K (He.ga K "Stage") "__contains__") fd ["self", "field"] (spInS K) ∧ Binds K fd ["self", "field"] [] := by
  obtain ⟨fd, F⟩ := B.F_Stage___contains
  obtain ⟨fdI, GI, bI⟩ := (ok_is_field (P := P) (w := w) (base := base) B).ex
  have kI := (ok_is_field (P := P) (w := w) (base := base) B).kp
  obtain ⟨fdO, GO, bO⟩ := (ok_field_of (P := P) (w := w) (base := base) B).ex
  have kO := (ok_field_of (P := P) (w := w) (base := base) B).kp
  obtain ⟨fdD, GD, bD⟩ := (ok_divides (P := P) (w := w) (base := base) B).ex
  have kD := (ok_divides (P := P) (w := w) (base := base) B).kp
  refine ⟨fd, ?_, F.binds fun _ _ _ _ _ _ us hl => match us, hl with | [_, _], _ => rfl⟩
  refine F.ok sc_sct (fun vs H Q E h => ?_) (fun cdv A outer s H vs Q E hr h => ?_)
  · obtain ⟨_, _, _, _, _, _, _, rfl, _⟩ := h
    rfl
  · obtain ⟨x, kk, d, z, ns, t, m, rfl, so, sm, fz, k⟩ := h
    have hu := hu_of hr
    have hr2 : Room 2 _ := hr.mono (by decide)
    have hr1 : Room 1 _ := hr.mono (by decide)
    refine ⟨_, pss_cons (ps_if (pt_not (pt_val (pe_call GI hr2 rfl B.g_is_field kI bI .nil pass0 (pa_cons (pv 1) pa_nil)))) (pss_one (ps_ret pe_bl)) pss_nil)
      (pss_cons (ps_asg (pe_call (E := fun _ _ _ => False) GO hr rfl B.g_field_of kO bO .nil passF (pa_cons (pv 1) pa_nil)) (pg_tup (by rfl) (pgs_cons (pg_name (i := 2) sc_sct.nd rfl (.inl rfl)) (pgs_cons (pg_name (i := 3) sc_sct.nd rfl (.inl rfl)) pgs_nil))))
      (pss_one (ps_ret (pe_and (pe_cmp (pc_din hu (pv 2) (pe_fld (pv 0) rfl)) rfl) (pe_one (pe_call GD hr1 rfl B.g_divides kD bD .nil pass0 (pa_cons (pv 3) (pa_cons (pe_dget hu (pe_fld (pv 0) rfl) (pv 2) (fun _ _ => rfl)) pa_nil)))))))), ?_⟩
    have hz := fz.len
    have big : (1000 : Nat) ≤ sizeLine := by decide
    refine ⟨_, rfl, _, rfl, .inl ⟨z, rfl, Nat.le_trans hz big, fun H1 s1 => ⟨_, rfl, two (fun h1 => ?_) (fun h1 => ?_)⟩⟩⟩
    · have hb : isFieldB z = false := by simpa using h1
      have q := k H1 s1
      rw [hb, Bool.false_and] at q
      exact q
    · have hb : isFieldB z = true := by simpa using h1
      refine ⟨_, rfl, z, rfl, Nat.le_trans hz big, fun q => absurd (hb.symm.trans q) (by decide), fun _ H2 p s2 hp => ?_⟩
      rw [fz.num hb] at hp
      refine ⟨_, _, rfl, SqT.of hp, rfl, _, _, rfl, _, _, rfl, rfl, ?_⟩
      have sH := s1.trans s2
      have so2 := so.same sH
      obtain ⟨dx, hx⟩ := so2.x
      have q := k H2 sH
      rw [hb, Bool.true_and] at q
      by_cases hn : fieldName z ∈ hs ns
      · rw [decide_eq_true hn, Bool.true_and] at q
        refine ⟨_, rfl, _, rfl, x, _, dx, _, _, rfl, hx, B.cl_Stage, B.no_Stage__numbers, rfl, d, _, rfl, gd_R (.inl so2.d) hn, _, rfl, iteT ?_⟩
        exact ⟨_, rfl, _, rfl, x, _, dx, _, _, rfl, hx, B.cl_Stage, B.no_Stage__numbers, rfl, _, rfl, d, _, rfl, gd_R (.inl so2.d) hn, fnum z, m (fieldName z), rfl, dvd_lt (fz.dv hb), dvd_lt (sm.dv _ hn), q⟩
      · rw [decide_eq_false hn, Bool.false_and] at q
        exact ⟨_, rfl, _, rfl, x, _, dx, _, _, rfl, hx, B.cl_Stage, B.no_Stage__numbers, rfl, d, _, rfl, gd_RN (.inl so2.d) hn, _, rfl, iteF q⟩
end
end Jd
namespace Jd
open PySem PySem.Spec PyProof.Rows L2
/-! ### words_of -/
def wordsOf (z : Str) : List Str := (Txt.split z " ").filter fun w => decide (w ≠ "")
def spWords : Sp := fun vs H Q _ => ∃ z : Str, vs = [.str z] ∧ z.length + 2 ≤ sizeLine ∧ ∀ H' p, Same H H' → H p = none → H' p = some (.lst ((wordsOf z).map V.str)) → Q (.ref p) H'
section
variable {P : Program} {w : World} {K : PySem.W.Frag} {mg : Str → Option Value} {base : Heap}
theorem sc_words : FnScope ["line", "word"] ["line"] (defScope s_words_of) := ⟨rfl, rfl, rfl, by decide +kernel, rfl, by decide +kernel, by decide +kernel⟩
theorem ok_words_of (B : Bk K mg) : Df P w K mg base CX0 1 "words_of" ["line"] spWords := by
  obtain ⟨fd, F⟩ := B.F_words_of
  refine ⟨⟨fd, ?_, F.binds fun _ _ _ _ _ _ us hl => match us, hl with | [_], _ => rfl⟩, B.g_words_of, F.kp⟩
  refine F.ok sc_words (fun vs H Q E h => ?_) (fun cdv A outer s H vs Q E hr h => ?_)
  · obtain ⟨z, rfl, _⟩ := h
    rfl
  · obtain ⟨z, rfl, hz, k⟩ := h
    refine ⟨_, pss_one (ps_ret (pe_lc (own := [("word", 1)]) (g := gName 1) (tt := tTest (tOp rNe (tVar 1) (tC (.str "")))) rfl sc_words.nd (pi_list (pe_split (pv 0) pe_str)) (blkOk_by (N := ["line", "word"]) (sc := defScope s_words_of) (by decide +kernel))
      (fun _ _ _ _ _ => pg_name (i := 1) sc_words.nd rfl (Or.inl rfl)) (fun _ _ _ _ _ => pts_one (pt_cmpR op_ne (pv 1) pe_str (nomark _))) (fun _ _ _ _ _ => pv 1))), ?_⟩
    refine ⟨_, rfl, ⟨z, rfl⟩, z, " ", rfl, rfl, rfl, hz, fun p hp => ?_⟩
    have sp := Same_new (o := HO.lst ((Txt.split z " ").map V.str)) hp
    have hpp : (upd H p (.lst ((Txt.split z " ").map V.str))) p = some (.lst ((Txt.split z " ").map V.str)) := upd_same
    refine ⟨p, rfl, ⟨_, SqL.of hpp⟩, fun D hD => ?_⟩
    have hD0 : H D = none := sp.free hD
    have hsl : (Txt.split z " ").length ≤ sizeLine := Nat.le_trans (PyProof.Rows.split_le z " ") (by omega)
    refine lc_fm (walk_list (xs := (Txt.split z " ").map V.str)) (fun i => ((Txt.split z " ")[i]?).bind fun o => if decide (o ≠ "") = true then some (V.str o) else Option.none) hD (by rw [List.length_map]; exact hsl) (fun H' s' => sm_seqL s' (SqL.of hpp)) (fun i v H5 H6 Kt Kf hi s5 y kt kf => ?_) (fun H5 s5 hD5 => ?_)
    · obtain ⟨rfl, hv⟩ := y
      obtain ⟨o, ho, rfl⟩ := at_str hv
      refine ⟨rfl, _, rfl, rfl, _, rfl, two (fun h1 => ?_) (fun h1 => ?_)⟩
      · have h1' : (!decide (V.str o = V.str "")) = true := h1
        have e1 : decide (o ≠ "") = true := decide_eq_true fun z => by rw [z, decide_eq_true rfl] at h1'; cases h1'
        exact ⟨_, rfl, kt _ _ (by rw [ho]; show (if decide (o ≠ "") = true then _ else _) = _; rw [if_pos e1]) (Same.refl _)⟩
      · have h1' : (!decide (V.str o = V.str "")) = false := h1
        have e1 : decide (o ≠ "") = false := decide_eq_false fun z => by
          rw [decide_eq_false (fun q => z (V.str.inj q))] at h1'
          cases h1'
        exact kf _ (by rw [ho]; show (if decide (o ≠ "") = true then _ else _) = _; rw [if_neg (by rw [e1]; exact Bool.false_ne_true)]) (Same.refl _)
    · rw [List.length_map, fm_bind, fm_filter] at hD5
      exact k _ D (sp.trans s5) hD0 hD5
end
end Jd
namespace Jd
open PySem PySem.Spec PyProof.Rows L2
/-! ### Stage.of -/
def wordsS (z : Str) : List Str := if wordsOf z = [("-" : Str)] then [] else wordsOf z
def spSOf (K : PySem.W.Frag) : Sp := fun vs H Q E => ∃ (kk : Addr) (z : Str) (ns : List Str) (t : Str → List Str), vs = [.ref kk, .str z] ∧ KeysO K H kk ns t ∧ ("#" : Str) ∉ ns ∧ z.length ≤ 10000 ∧ (wordsOf z).length ≤ 100 ∧ (∀ y ∈ wordsOf z, PyData.strOk y = true) ∧ (∀ y ∈ wordsS z, FldAny y) ∧
  FldEnds K (Same H) E ns (wordsS z) (∀ H' x d, Same H H' → StageO K H' x kk d ns t (closeM ns t (joinS (wordsS z))) → Q (.ref x) H')
theorem shp_strsL {xs : List Str} (h : ∀ x ∈ xs, PyData.strOk x = true) : SeqAt.shaped (.list (xs.map PyData.str)) = true := by
  unfold SeqAt.shaped
  rw [Bool.and_eq_true]
  refine ⟨by simpa [PyData.canLay0] using lay_strs xs h, decide_eq_true ?_⟩
  simp only [PyData.depth]
  have := dep_strs xs
  omega
theorem eqv_dash (xs : List Str) : PyData.eqv (.list (xs.map PyData.str)) (.list [.str "-"]) = decide (xs = [("-" : Str)]) := by
  match xs with
  | [] => simp [PyData.eqv, PyData.eqvAll]
  | [p] =>
    rw [Bool.eq_iff_iff]
    simp [PyData.eqv, PyData.eqvAll]
  | p :: q :: r => simp [PyData.eqv, PyData.eqvAll]
theorem Same_ins {H : Hp} {x dx : Addr} {o1 o2 : HO} (n1 : H x = none) (n2 : H dx = none) : Same H (upd (upd H dx o1) x o2) := fun b o q => by
  rw [upd_ne (ne_of_none q n1), upd_ne (ne_of_none q n2)]
  exact q
theorem made_sameS {H H' : Hp} {x dx : Addr} {o1 o2 : HO} (n1 : H x = none) (n2 : H dx = none) (k : KeepX x (upd (upd H dx o1) x o2) H') : Same H H' := fun b o q => k _ _ (ne_of_none q n1) (Same_ins n1 n2 _ _ q)
/-- a Stage is made of FIELDs that stand in a list or a tuple -/
theorem rd_mkS {K : PySem.W.Frag} {kk f x dx : Addr} {ns zs : List Str} {t : Str → List Str} {H : Hp} {Q : VK} {E : XK} {R : Hp → Prop} (ko : KeysO K H kk ns t) (n0 : ("#" : Str) ∉ ns) (hf : Sq K H f (zs.map V.str)) (hl : zs.length ≤ 100) (hz : ∀ z ∈ zs, FldAny z)
    (hR : ∀ H', Same H H' → R H') (ends : FldEnds K R E ns zs (∀ H' x d, Same H H' → StageO K H' x kk d ns t (closeM ns t (joinS zs)) → Q (.ref x) H')) (nx : H x = none) (nd : H dx = none) :
    spSIX K ([.ref x, .ref kk, .ref f] ++ []) (upd (upd H dx (.own x)) x (.ins (He.ga K "Stage") dx [])) (fun v H2 => v = .non ∧ Q (.ref x) H2) E := by
  have s3 := Same_ins (o1 := .own x) (o2 := .ins (He.ga K "Stage") dx []) nx nd
  refine ⟨x, dx, kk, f, ns, zs, t, rfl, upd_same, ko.same s3, n0, hf.same s3, hl, hz, ⟨fun i z h1 h2 h3 H' d' kp hd => ends.bad i z h1 h2 h3 H' d' (hR _ (made_sameS nx nd kp)) hd, fun i z h1 h2 h3 h4 H' d' kp hd => ends.non i z h1 h2 h3 h4 H' d' (hR _ (made_sameS nx nd kp)) hd, fun hall H' d kp so => ⟨rfl, ends.good hall H' x d (made_sameS nx nd kp) so⟩⟩⟩
section
variable {P : Program} {w : World} {K : PySem.W.Frag} {mg : Str → Option Value} {base : Heap}
theorem sc_sof : FnScope ["keys", "text", "words"] ["keys", "text"] (defScope s_Stage_s_of) := ⟨rfl, rfl, rfl, by decide +kernel, rfl, by decide +kernel, by decide +kernel⟩
theorem ok_Stage_of (B : Bk K mg) : ∃ fd, FnOk P w K mg base (L2.CX P w) 8 (He5.wf K (He.ga K "Stage") "staticmethod" "of") fd ["keys", "text"] (spSOf K) ∧ Fun K "of" "Stage.of" s_Stage_s_of (He5.wf K (He.ga K "Stage") "staticmethod" "of") fd := by
  obtain ⟨fd, F⟩ := B.F_Stage_s_of
  obtain ⟨fdW, GW, bW⟩ := (ok_words_of (P := P) (w := w) (base := base) B).ex
  have kW := (ok_words_of (P := P) (w := w) (base := base) B).kp
  obtain ⟨fdS, GS, bS⟩ := ok_Stage_initX (P := P) (w := w) (base := base) B
  refine ⟨fd, ?_, F⟩
  refine F.okX sc_sof (fun vs H Q E h => ?_) (fun cdv A outer s H vs Q E hr h => ?_)
  · obtain ⟨_, _, _, _, rfl, _⟩ := h
    rfl
  · obtain ⟨kk, z, ns, t, rfl, ko, n0, hz, l100, hok, hf, ends⟩ := h
    have hr1 : Room 1 _ := hr.mono (by decide)
    refine ⟨_, pss_cons (ps_set (i := 2) sc_sof.nd rfl (Or.inl rfl) (pe_call GW hr1 rfl B.g_words_of kW bW .nil pass0 (pa_cons (pv 1) pa_nil)))
      (pss_cons (ps_if (pt_cmpR (op_eqD hr.units) (pv 2) (pe_lst (pa_cons pe_str pa_nil)) (nomark _)) (pss_one (ps_set (i := 2) sc_sof.nd rfl (Or.inl rfl) (pe_lst pa_nil))) pss_nil)
      (pss_one (ps_ret (pe_make B.mk_Stage GS hr rfl B.g_Stage bS .nil (passes_call (takes_of rfl rfl rfl rfl) (fun _ _ _ _ h => h)) (pa_cons (pv 0) (pa_cons (pv 2) pa_nil)))))), ?_⟩
    have big : 100000 ≤ sizeLine := by decide
    refine ⟨_, rfl, z, rfl, (by omega), fun H1 p s1 np hp => ?_⟩
    refine ⟨_, rfl, (by show 1 ≤ sizeLine; decide), fun q hq => ?_⟩
    have sq := Same_new (o := HO.lst [.str "-"]) hq
    have make : ∀ (H2 : Hp) (r : Addr), Same H H2 → H2 r = some (.lst ((wordsS z).map V.str)) → tRet (tMake (He.ga K "Stage") (spSIX K) [] E (tCons (tVar 0) (tCons (tVar 2) tNil))) { nx := fun _ H' => Q .non H', rt := Q } [some (.ref kk), some (.str z), some (.ref r)] H2 := by
      intro H2 r s2 h2
      refine ⟨_, rfl, _, rfl, fun x dx nx ndx ne => rd_mkS (ko.same s2) n0 (.inl (SqL.of h2)) ?_ hf (fun H' s' => s2.trans s') ⟨ends.bad, ends.non, fun hall H' x d s' so => ends.good hall H' x d (s2.trans s') so⟩ nx ndx⟩
      unfold wordsS
      split
      · exact Nat.zero_le _
      · exact l100
    have hp2 := sq _ _ hp
    refine ⟨.list ((wordsOf z).map PyData.str), .list [.str "-"], .lst (SqL.of hp2) (dp_strs _), .lst (SqL.of upd_same) (.cons (.str _) .nil), shp_strsL hok, by decide +kernel, _, rfl, ?_⟩
    rw [eqv_dash]
    by_cases e : wordsOf z = [("-" : Str)]
    · rw [decide_eq_true e]
      refine iteT ?_
      refine ⟨Nat.zero_le _, fun r hr' => make _ r ((s1.trans sq).trans (Same_new hr')) ?_⟩
      rw [upd_same]
      unfold wordsS
      rw [if_pos e]
      rfl
    · rw [decide_eq_false e]
      refine iteF (make _ p (s1.trans sq) ?_)
      unfold wordsS
      rw [if_neg e]
      exact hp2
end
end Jd
/-! an except clause with a tuple of any number of classes -/
namespace Jd
open PySem PySem.Spec PySem.Calls PyProof.Rows PySem.W
section
variable {M : Model} {A : Around} {E : Value → Shared → Prop} {s : Shared}
theorem each_next {β : Type} {b0 : β} {f : Value → β → Sem (ForInStep β)} : ∀ {cs : List Value} {Q : β → Shared → Prop}, (∀ c ∈ cs, ∀ R : ForInStep β → Shared → Prop, R (.yield b0) s → wpAny M A (f c b0) R E s) → Q b0 s → wpAny M A (forIn cs b0 f) Q E s
  | [], Q, _, q => by
    rw [List.forIn_nil]
    exact wpAny_pure q
  | c :: cs, Q, hf, q => by
    rw [List.forIn_cons]
    exact wpAny_bind (hf c List.mem_cons_self _ (each_next (fun c hc => hf c (List.mem_cons_of_mem _ hc)) q))
theorem each_some {β : Type} {b0 b1 : β} {f : Value → β → Sem (ForInStep β)} {p : Value → Option Bool} : ∀ {cs : List Value} {b : Bool} {Q : β → Shared → Prop}, (∀ c ∈ cs, ∀ v, p c = some v → ∀ R : ForInStep β → Shared → Prop, R (if v = true then .done b1 else .yield b0) s → wpAny M A (f c b0) R E s) →
    (∀ c ∈ cs, ∃ v, p c = some v) → b = cs.any (fun c => p c == some true) → Q (if b = true then b1 else b0) s → wpAny M A (forIn cs b0 f) Q E s
  | [], b, Q, _, _, e, q => by
    subst e
    rw [List.forIn_nil]
    exact wpAny_pure q
  | c :: cs, b, Q, hf, hs, e, q => by
    rw [List.forIn_cons]
    obtain ⟨v, hv⟩ := hs c List.mem_cons_self
    refine wpAny_bind (hf c List.mem_cons_self v hv _ ?_)
    rw [List.any_cons, hv] at e
    cases v with
    | true =>
      subst e
      exact wpAny_pure q
    | false =>
      subst e
      exact each_some (fun c hc => hf c (List.mem_cons_of_mem _ hc)) (fun c hc => hs c (List.mem_cons_of_mem _ hc)) rfl q
end
theorem exm_each {K : Frag} {cls : Value} : ∀ {cs : List Value} {b : Bool}, exmAny K cls cs = some b → (∀ c ∈ cs, ∃ v, exmOne K cls c = some v) ∧ b = cs.any fun c => exmOne K cls c == some true
  | [], b, h => by
    cases h
    exact ⟨fun c h => absurd h List.not_mem_nil, rfl⟩
  | c :: cs, b, h => by
    obtain ⟨v, d, h1, h2, rfl⟩ := exmAny_cons h
    obtain ⟨i1, i2⟩ := exm_each h2
    refine ⟨fun x hx => ?_, ?_⟩
    · rcases List.mem_cons.mp hx with rfl | hx
      · exact ⟨v, h1⟩
      · exact i1 x hx
    · rw [List.any_cons, h1, ← i2]
      cases v <;> rfl
theorem exm_list {M : Model} {K : Frag} {cs : List Value} {cls : Value} {tp e : Addr} {b : Bool} {h : Heap} (X : K.In h) (ty : Looks M h (typeOf (.ref e)) cls) (hp : h.get? tp = some { cls := .type "tuple", data := .seq cs.toArray }) (hx : exmAny K cls cs = some b) : Looks M h (excMatches (.ref e) (.ref tp)) b := by
  intro A Q E s k q
  obtain ⟨all, eb⟩ := exm_each hx
  have isT : Looks M h (isInstance (.ref tp) (.type "tuple")) true := (Looks.andThen (Looks.andThen (Looks.ld hp) Looks.now) (Looks.of_pure isSubtype_tuple_tuple))
  unfold excMatches
  refine wpAny_bind ((isT.keeps k).here ?_)
  dsimp only
  rw [if_pos rfl]
  refine wpAny_bind (wpAny_seqItems (k _ _ hp) rfl ?_)
  dsimp only [Option.getD_some, Option.getD]
  refine wpAny_bind (wpAny_pure ?_)
  refine wpAny_bind (each_next (b0 := PUnit.unit) (fun c hc R r => ?_) ?_)
  · obtain ⟨v, hv⟩ := all c hc
    refine wpAny_bind (((exm_cls (M := M) X hv).1.keeps k).here ?_)
    simp only [Bool.not_true, Bool.false_eq_true, if_false]
    exact wpAny_pure r
  · refine wpAny_bind ((ty.keeps k).here ?_)
    refine wpAny_bind (each_some (b0 := ((none : Option Bool), ())) (b1 := (some true, ())) (p := fun c => exmOne K cls c) (b := b) (fun c hc v hv R r => ?_) all eb ?_)
    · refine wpAny_bind (((exm_cls (M := M) X hv).2.keeps k).here ?_)
      cases v with
      | true =>
        rw [if_pos rfl]
        exact wpAny_pure r
      | false =>
        rw [if_neg Bool.false_ne_true]
        exact wpAny_pure r
    · cases b with
      | true => exact wpAny_pure q
      | false => exact wpAny_pure q
end Jd
namespace Jd
open PySem PySem.Spec PyProof.Rows L2
theorem htest5 {X : Cx} {x1 x2 x3 x4 x5 : Str} {c1 c2 c3 c4 c5 : Value} {p1 p2 p3 p4 p5 tp : Pos} {kk : Nat} (n1 : Names X x1 c1) (n2 : Names X x2 c2) (n3 : Names X x3 c3) (n4 : Names X x4 c4) (n5 : Names X x5 c5) :
    HTest X (.Tuple [.Name x1 p1, .Name x2 p2, .Name x3 p3, .Name x4 p4, .Name x5 p5] kk tp) [c1, c2, c3, c4, c5] := by
  intro a oe pn pins σ H s b Q E I he hx q
  refine wpAny_Tuple (wpAny_items_cons (names_ev (pn := pn) (pins := pins) (σ := σ) (H := H) n1 I (wpAny_items_cons (names_ev (pn := pn) (pins := pins) (σ := σ) (H := H) n2 I (wpAny_items_cons (names_ev (pn := pn) (pins := pins) (σ := σ) (H := H) n3 I (wpAny_items_cons (names_ev (pn := pn) (pins := pins) (σ := σ) (H := H) n4 I (wpAny_items_cons (names_ev (pn := pn) (pins := pins) (σ := σ) (H := H) n5 I (wpAny_items_nil ⟨(by show 5 ≤ sizeLine; decide), ?_⟩)))))))))))
  have kp : ∀ q o, s.heap.get? q = some o → (s.heap.push { cls := .type "tuple", data := .seq [c1, c2, c3, c4, c5].toArray }).get? q = some o := fun _ _ z => Heap.get?_push_of_some _ z
  have ty : PySem.W.Looks (model X.prog X.w) s.heap (typeOf (.ref a)) oe.cls := fun A Q E s k q => wpAny_typeOf_ref (k _ _ he) q
  exact (exm_list (I.kIn.keeps kp) (ty.keeps kp) (Heap.get?_push_size s.heap rfl) hx).here (q _ kp)
section
variable {X : Cx} {CX : CXT} {k : Nat} {f C : Addr} {fd : FuncData} {ps : List Str} {sp : Sp} {E : L2.St → XK} {m : Str} {pos apos : Pos} {o e : Expr} {es : List Expr} {t : TA} {ta : TE}
/-- C.m(e, ..), what is raised wished for at the slots -/
def tSMethS (C : Addr) (sp : Sp) (E : L2.St → XK) (ta : TE) (t : TA) : TE := fun σ H Q => ta σ H fun x H1 => x = .ref C ∧ t σ H1 fun vs H2 => sp vs H2 Q (E σ)
theorem pe_smethS {pl : Sem Bool} (he : PE X o ta) (r : SMet X.K C m f) (F : FnOk X.prog X.w X.K X.mg X.base CX k f fd ps sp) (hr : Room k X.A) (hb : Binds X.K fd ps []) (hx : ∀ σ, PassesAt CX X σ (E σ)) (ha : PA X (e :: es) t)
    (hst : starEach (e :: es) X.env = (false, eval e X.env) :: starEach es X.env := by rfl) (hpl : (backTo pos (starEach es X.env)).any (·.1) = false := by rfl)
    (ht : eval (.Call (.Attribute o m apos) (e :: es) [] pos) X.env = (do
      let ov ← eval o X.env
      standAt apos.atName
      let (f, first) ← holding [ov] (getMethod ov m pl)
      callWith pos f first (backTo pos (starEach (e :: es) X.env)) (backToKw pos (keywordEach [] X.env))) := by rfl) :
    PE X (.Call (.Attribute o m apos) (e :: es) [] pos) (tSMethS C sp E ta t) := by
  refine ⟨fun pins s σ H Q I h => ?_⟩
  refine PySem.W.methodCall_KW (pl := pl) (thn (he.run pins s σ H _ I h) fun u s1 ⟨x, H1, I1, rx, ex, q⟩ => ?_) ht
  subst ex
  obtain rfl : u = Value.ref C := rx
  refine getmethsm_ok I1 r fun s2 I2 => ?_
  refine PySem.W.callWith_K (h₀ := X.base) I2.ok.mod.kin r.kp (thn (ha.run pos pins s2 σ H1 _ I2 q) fun us s3 ⟨vs, H2, I3, rv, q2⟩ => ⟨I3.kIn, ?_⟩) hst hpl
  exact run_fnSD (us := us) (vs := vs) (dvs := []) (ds := []) F hr hb .nil (hx σ) I3 rv (by rw [List.append_nil]; exact q2)
end
end Jd
/-! isinstance of an error that is tracked and has no fields; an except clause of four classes -/
namespace Jd
open PySem PySem.Spec PyProof.Rows L2
def rIsEz (K : PySem.W.Frag) : List V → Hp → VK → Prop := fun xs H Q => ∃ (a D : Addr) (c : V) (cv : Value) (b : Bool), xs = [.ref a, c] ∧ H a = some (ErO (.ref D) none a) ∧ ExcC K D ∧
  (∀ u, RelV c u → u = cv) ∧ PySem.W.kitOne K (.ref D) cv = some b ∧ Q (.bl b) H
theorem call_isEz {X : Cx} : CallR X (.builtin "isinstance") (rIsEz X.K) := by
  intro pins s σ H xs us Q I r h
  obtain ⟨a, D, c, cv, b, rfl, ha, C, hcv, e, q⟩ := h
  cases r with
  | cons rx rr =>
    cases rr with
    | cons rt rr =>
      cases rr
      cases rx
      have ec := hcv _ rt
      subst ec
      obtain ⟨oe, vs, r0, r1, r2⟩ := (I.hok a _ ha).1
      have J : PySem.W.InstAt s.heap a oe D none := ⟨r0, r1.1, by unfold PySem.W.notCls; rw [r2] <;> rfl, by rw [r1.2]; trivial⟩
      have hc : (PySem.W.clsIn X.K D).isSome = true := by
        obtain ⟨c0, h0, _⟩ := PySem.W.any_some C.hd
        rw [h0]
        rfl
      exact PySem.W.kia_one (PySem.W.kitx_exc hc C.hg C.hk C.hs C.ha C.hn C.ht C.hm) I.kIn J e (fun z => nomatch z) fun tk => ⟨.bl b, H, I.kept (t' := tk) fun _ _ z => z, rfl, q⟩
end Jd
/-! operators by own defs, what is raised wished for at the slots -/
namespace Jd
open PySem PySem.Spec PyProof.Rows L2
section
variable {X : Cx} {CX : CXT} {k : Nat} {C f : Addr} {fd : FuncData} {ps : List Str} {sp : Sp} {E : L2.St → XK} {a b : Expr} {ta tb : TE} {pos : Pos}
theorem own_runS {pins : List (Addr × Obj)} {s : Shared} {σ : L2.St} {H : Hp} {Q : VK} {vs : List V} {us : List Value} (A : Around) (hA : A.frames = X.A.frames) (F : FnOk X.prog X.w X.K X.mg X.base CX k f fd ps sp) (hr : Room k A) (hb : Binds X.K fd ps []) (hx : PassesAt CX X σ (E σ))
    (I : Inv X pins σ H s) (r : Vals vs us) (h : sp vs H Q (E σ)) : wpAny (model X.prog X.w) A (call (.ref f) us) (EP X pins σ Q) X.xe s := by
  have e := I.env0
  have e0 : Env0 X.prog X.w X.K X.mg X.base A X.stack s H := ⟨by rw [hA]; exact e.frames, e.mod, e.bs, e.bsz, e.funs, e.frf, e.hok, e.bare⟩
  have hl := F.len _ _ _ _ h
  refine wpAny_call (codeAny_mono (F.run A X.stack s H ⟨us, []⟩ us vs _ (E σ) hr e0 (by
    have := hb s us I.kIn (by simpa [← r.length] using hl)
    simpa using this) r h) fun r s' hq => ?_)
  cases r with
  | error e => exact hx pins H s e s' I hq
  | ok fl =>
    cases fl with
    | ret w => exact I.after hq
    | next => exact False.elim hq
    | brk => exact False.elim hq
    | cont => exact False.elim hq
def tBinS (K : PySem.W.Frag) (C : Addr) (sp : Sp) (E : L2.St → XK) (ta tb : TE) : TE := fun σ H Q => ta σ H fun x H1 => tb σ H1 fun y H2 => rBinOwn K C sp (E σ) x y H2 Q
theorem pe_binS {op : Operator} (F : FnOk X.prog X.w X.K X.mg X.base CX k f fd ps sp) (hr : Room k X.A) (hc : PySem.W.selfFirst X.K C = true) (hs : PySem.W.findIn X.K (.ref C) (PySem.dunder op.info.2) = some (some (.ref f)) ∧ PySem.W.isFn X.K (.ref f) = true)
    (hb : Binds X.K fd ps []) (hx : ∀ σ, PassesAt CX X σ (E σ)) (ha : PE X a ta) (he : PE X b tb) : PE X (.BinOp a op b pos) (tBinS X.K C sp E ta tb) := by
  refine ⟨fun pins s σ H Q I h => ?_⟩
  refine wpAny_BinOp (binT ha he I h fun v u s2 x y H2 I2 rx ry q => ?_)
  obtain ⟨a, dx, fs, rfl, ha, ht, hsp⟩ := q
  obtain ⟨P, kx, hP, _⟩ := kit_of I2 ry ht
  cases rx
  obtain ⟨mA, J, _⟩ := ins_get I2.hok ha
  obtain ⟨od, J, _⟩ := J.look
  obtain ⟨m, hF⟩ := I2.fr
  exact PySem.W.binop_K hF I2.ok.mod.kin J (kx.ty _ _ I2.kIn hP) hc hs.1 hs.2 (wpAny_mono (own_runS X.A rfl F hr hb (hx σ) I2 (.cons (show RelV (V.ref a) (Value.ref a) from rfl) (.cons ry .nil)) hsp) (fun v s' z => cmpBack_of z) fun _ _ x => x)
theorem pe_cmpS {op : CmpOp} (ho : compareOp op = fun u v => richCompare op u v) (F : FnOk X.prog X.w X.K X.mg X.base CX k f fd ps sp) (hr : Room k X.A) (hs : PySem.W.findIn X.K (.ref C) (cmpInfo op).2.1 = some (some (.ref f)) ∧ PySem.W.isFn X.K (.ref f) = true)
    (hb : Binds X.K fd ps []) (hx : ∀ σ, PassesAt CX X σ (E σ)) (ha : PE X a ta) (he : PE X b tb) (hm : behindInMarks op b = false) : PE X (.Compare a [op] [b] pos) (tBinS X.K C sp E ta tb) := by
  refine ⟨fun pins s σ H Q I h => ?_⟩
  refine wpAny_Compare1 (binT ha he I h fun v u s2 x y H2 I2 rx ry q => ?_) hm
  obtain ⟨a, dx, fs, rfl, ha, ht, hsp⟩ := q
  obtain ⟨P, kx, hP, _⟩ := kit_of I2 ry ht
  cases rx
  obtain ⟨mA, J, _⟩ := ins_get I2.hok ha
  obtain ⟨od, J, _⟩ := J.look
  obtain ⟨m, hF⟩ := I2.fr
  rw [ho]
  exact PySem.W.cmp_K (op := op) (tb := .ref C) hr.units0 hF I2.ok.mod.kin J (kx.ty _ _ I2.kIn hP) (by unfold PySem.W.notFirst; rw [beq_self_eq_true, Bool.true_or]) hs.1 hs.2 (wpAny_mono (own_runS X.A rfl F hr hb (hx σ) I2 (.cons (show RelV (V.ref a) (Value.ref a) from rfl) (.cons ry .nil)) hsp) (fun v s' z => cmpBack_of z) fun _ _ x => x)
end
end Jd
/-! x[y] by an own def, what is raised wished for at the slots -/
namespace Jd
open PySem PySem.Spec PyProof.Rows L2
section
variable {X : Cx} {CX : CXT} {k : Nat} {C f : Addr} {fd : FuncData} {ps : List Str} {sp : Sp} {E : L2.St → XK} {a b : Expr} {ta tb : TE} {pos : Pos}
def tIxS (C : Addr) (sp : Sp) (E : L2.St → XK) (ta tb : TE) : TE := fun σ H Q => ta σ H fun x H1 => tb σ H1 fun y H2 => rIxOwn C sp (E σ) x y H2 Q
theorem pe_ixS (F : FnOk X.prog X.w X.K X.mg X.base CX k f fd ps sp) (hr : Room (k + 1) X.A) (hs : PySem.W.findIn X.K (.ref C) "__getitem__" = some (some (.ref f)) ∧ PySem.W.isFn X.K (.ref f) = true) (hf : PySem.W.fnIn X.K f = true)
    (hb : Binds X.K fd ps []) (hx : ∀ σ, PassesAt CX X σ (E σ)) (ha : PE X a ta) (he : PE X b tb) (hp : PlainIxO b) : PE X (.Subscript a b pos) (tIxS C sp E ta tb) := by
  refine ⟨fun pins s σ H Q I h => ?_⟩
  refine Subscript_ (binT ha he I h fun v u s2 x y H2 I2 rx ry q => ?_)
  obtain ⟨p, dx, fs, rfl, hi, hsp⟩ := q
  cases rx
  obtain ⟨mA, J, _⟩ := ins_get I2.hok hi
  obtain ⟨od, J, _⟩ := J.look
  obtain ⟨m, hF⟩ := I2.fr
  exact PySem.W.sub_K hF I2.ok.mod.kin J hs.1 hf hs.2 (own_runS X.A.in1 rfl F hr.in1 hb (hx σ) I2 (.cons (show RelV (V.ref p) (Value.ref p) from rfl) (.cons ry .nil)) hsp) (hp _ _)
end
end Jd
namespace Jd
open PySem PySem.Spec PyProof.Rows L2
/-! ### heard -/
inductive Ans where
  | txt (z : Str)
  | num (n : Int)
  | name (z : Str)
  | bad (z : Str)
def AnsAt (H : Hp) (v : V) : Ans → Prop
  | .txt z => v = .str z
  | .num n => v = .int n
  | .name z => ∃ a, v = .ref a ∧ H a = some (.tup [.str "name", .str z])
  | .bad z => ∃ a, v = .ref a ∧ H a = some (.tup [.str "bad", .str z])
/-- what Stage of these FIELDs tells -/
structure AnsOf (ns : List Str) (t : Str → List Str) (zs : List Str) (a : Ans) : Prop where
  bad : ∀ (i : Nat) (z : Str), zs[i]? = some z → isFieldB z = false → (∀ y ∈ zs.take i, isFieldB y = true) → a = .bad z
  non : ∀ (i : Nat) (z : Str), zs[i]? = some z → fieldName z ∉ hs ns → (∀ y ∈ zs.take i, fieldName y ∈ hs ns) → (∀ y ∈ zs, isFieldB y = true) → a = .name (fieldName z)
  good : (∀ z ∈ zs, isFieldB z = true ∧ fieldName z ∈ hs ns) → StM ns t (closeM ns t (joinS zs)) ∧ ∀ ys : List Str, ys.Perm (txAll (shownT ns t (closeM ns t (joinS zs)))) → sortedS ys = true → a = .txt (joinOr ys)
def spHd (K : PySem.W.Frag) : Sp := fun vs H Q _ => ∃ (way : Int) (kk : Addr) (v3 : V) (ns : List Str) (t : Str → List Str) (a : Ans), vs = [.int way, .ref kk, v3] ∧ KeysO K H kk ns t ∧ ("#" : Str) ∉ ns ∧
  ((way = 0 ∧ ∃ (f : Addr) (zs : List Str), v3 = .ref f ∧ Sq K H f (zs.map V.str) ∧ zs.length ≤ 100 ∧ (∀ z ∈ zs, FldAny z) ∧ AnsOf ns t zs a) ∨
   (way = 1 ∧ ∃ z : Str, v3 = .str z ∧ z.length ≤ 10000 ∧ (wordsOf z).length ≤ 100 ∧ (∀ y ∈ wordsOf z, PyData.strOk y = true) ∧ (∀ y ∈ wordsS z, FldAny y) ∧ AnsOf ns t (wordsS z) a) ∨
   (way = 2 ∧ ∃ z : Str, v3 = .str z ∧ a = if z ∈ hs ns then .num 1 else .name z)) ∧ ∀ v H', Same H H' → AnsAt H' v a → Q v H'
theorem kit_exm {K : PySem.W.Frag} {cls c : Value} {b : Bool} (h : PySem.W.exmOne K cls c = some b) (ne : (cls == c) = false) : PySem.W.kitOne K cls c = some b := by
  unfold PySem.W.exmOne at h
  split at h
  · unfold PySem.W.kitOne
    rw [if_neg (by rw [ne]; exact Bool.false_ne_true)]
    exact h
  · cases h
theorem bare_num {ns : List Str} {t : Str → List Str} (n : Str) : closeM ns t (joinS []) n = 1 := by
  have e : wholeOf (("#" : Str) :: ns) ns t (joinS []) = [] := by
    unfold wholeOf
    rw [List.flatMap_eq_nil_iff]
    intro w _
    exact if_neg (by show ¬ (1 = 0); decide)
  unfold closeM
  rw [e, if_neg List.not_mem_nil]
  rfl
theorem rd_mkT {K : PySem.W.Frag} {kk f x dx : Addr} {ns zs : List Str} {t : Str → List Str} {H : Hp} {Q : VK} {E : XK} {R : Hp → Prop} (ko : KeysO K H kk ns t) (n0 : ("#" : Str) ∉ ns) (hf : Sq K H f (zs.map V.str)) (hl : zs.length ≤ 100) (hz : ∀ z ∈ zs, FldAny z)
    (hR : ∀ H', Same H H' → R H') (nx : H x = none) (nd : H dx = none) (ends : FldEnds K R E ns zs (∀ H' d, Same H H' → StageO K H' x kk d ns t (closeM ns t (joinS zs)) → Q .non H')) :
    spSIX K ([.ref x, .ref kk, .ref f] ++ []) (upd (upd H dx (.own x)) x (.ins (He.ga K "Stage") dx [])) Q E := by
  have s3 := Same_ins (o1 := .own x) (o2 := .ins (He.ga K "Stage") dx []) nx nd
  exact ⟨x, dx, kk, f, ns, zs, t, rfl, upd_same, ko.same s3, n0, hf.same s3, hl, hz, ⟨fun i z h1 h2 h3 H' d' kp hd => ends.bad i z h1 h2 h3 H' d' (hR _ (made_sameS nx nd kp)) hd, fun i z h1 h2 h3 h4 H' d' kp hd => ends.non i z h1 h2 h3 h4 H' d' (hR _ (made_sameS nx nd kp)) hd, fun hall H' d kp so => ends.good hall H' d (made_sameS nx nd kp) so⟩⟩
section
variable {P : Program} {w : World} {K : PySem.W.Frag} {mg : Str → Option Value} {base : Heap}
theorem bf_nn (B : Bk K mg) : PySem.W.kitOne K (.ref (He.ga K "BadField")) (.ref (He.ga K "NoName")) = some false := by
  refine kit_exm B.exm_BadField_NoName ?_
  refine Bool.eq_false_iff.mpr fun q => ?_
  have e : He.ga K "BadField" = He.ga K "NoName" := Value.ref.inj (beq_iff_eq.mp q)
  have h1 := B.exm_BadField_NoName
  have h2 := B.exm_NoName_NoName
  rw [e, h2] at h1
  cases h1
abbrev NHd : List Str := ["_law_way", "_law_keyring", "_law_bag", "_law_caught", "_law_found", "error"]
theorem sc_hd : FnScope NHd ["_law_way", "_law_keyring", "_law_bag"] (defScope s__law_heard) := ⟨rfl, rfl, rfl, by decide +kernel, rfl, by decide +kernel, by decide +kernel⟩
theorem ok_heard (B : Bk K mg) : Df P w K mg base CX0 10 "_law_heard" ["_law_way", "_law_keyring", "_law_bag"] (spHd K) := by
  obtain ⟨fd, F⟩ := B.F_law_heard
  obtain ⟨fdI, GI, bI⟩ := ok_Stage_initX (P := P) (w := w) (base := base) B
  obtain ⟨fdX, GX, bX⟩ := ok_stext (P := P) (w := w) (base := base) B
  obtain ⟨fdG, GG, bG⟩ := ok_get (P := P) (w := w) (base := base) B
  obtain ⟨fdO, GO, FO⟩ := ok_Stage_of (P := P) (w := w) (base := base) B
  have bO : Binds K fdO ["keys", "text"] [] := FO.binds fun _ _ _ _ _ _ us hl => match us, hl with | [_, _], _ => rfl
  refine ⟨⟨fd, ?_, F.binds fun _ _ _ _ _ _ us hl => match us, hl with | [_, _, _], _ => rfl⟩, B.g_law_heard, F.kp⟩
  refine F.ok sc_hd (fun vs H Q E h => ?_) (fun cdv A outer s H vs Q E hr h => ?_)
  · obtain ⟨_, _, _, _, _, _, rfl, _⟩ := h
    rfl
  · obtain ⟨way, kk, v3, ns, t, an, rfl, ko, n0, hcase, k⟩ := h
    have hr7 : Room 7 _ := hr.mono (by decide)
    have hr8 : Room 8 _ := hr.mono (by decide)
    have hr4 : Room 4 _ := hr.mono (by decide)
    refine ⟨_, pss_cons (ps_asg (pe_tup (pa_cons pe_non (pa_cons pe_non pa_nil))) (pg_tup (by rfl) (pgs_cons (pg_name (i := 3) sc_hd.nd rfl (.inl rfl)) (pgs_cons (pg_name (i := 4) sc_hd.nd rfl (.inl rfl)) pgs_nil))))
      (pss_cons (ps_cut (ps_try_err (i := 5)
          (tb := fun W => tIfS (tTest (tOp rEq (tVar 0) (tC (.int 0))))
            (tAsg (tProp (He.ga K "Stage") (spTxt K) [] E0 (tMakeS (He.ga K "Stage") (spSIX K) [] (WE W) (tCons (tVar 1) (tCons (tVar 2) tNil)))) (gName 4))
            (tAsg (tIf (tTest (tOp rEq (tVar 0) (tC (.int 1)))) (tProp (He.ga K "Stage") (spTxt K) [] E0 (tSMethS (He.ga K "Stage") (spSOf K) (WE W) (tC (.ref (He.ga K "Stage"))) (tCons (tVar 1) (tCons (tVar 2) tNil))))
              (tIxS (He.ga K "Stage") (spGet K) (WE W) (tMakeS (He.ga K "Stage") (spSIX K) [] (WE W) (tCons (tVar 1) (tCons (tTup tNil) tNil))) (tVar 2))) (gName 4)))
          (ts := fun _ _ _ => tAsg (tVar 5) (gName 3)) (Wout := fun _ _ _ _ => False)
          rfl rfl rfl sc_hd.nd rfl rfl (htest4 ⟨rfl, by decide, .inl B.g_BadField⟩ ⟨rfl, by decide, .inl B.g_BadLine⟩ ⟨rfl, by decide, .inl B.g_NoName⟩ ⟨rfl, by decide, .inl B.g_NoPlace⟩) takes0
          (fun W pn xe tk _ => pss_one (ps_if (pt_cmpR op_eq (pv 0) pe_int (nomark _))
            (pss_one (ps_set (i := 4) sc_hd.nd rfl (Or.inl rfl) (pe_prop (pe_makeS B.mk_Stage GI hr7 (by rfl) B.g_Stage bI .nil (fun σ => passAt tk σ) (pa_cons (pv 1) (pa_cons (pv 2) pa_nil))) B.cl_Stage B.pr_Stage_text GX hr8 bX .nil pass0 rfl)))
            (pss_one (ps_set (i := 4) sc_hd.nd rfl (Or.inl rfl) (pe_ifExp (pt_cmpR op_eq (pv 0) pe_int (nomark _))
              (pe_prop (pe_smethS (pe_glob (v := .ref (He.ga K "Stage")) rfl B.g_Stage rfl) B.sm_Stage_of GO hr8 bO (fun σ => passAt tk σ) (pa_cons (pv 1) (pa_cons (pv 2) pa_nil))) B.cl_Stage B.pr_Stage_text GX hr8 bX .nil pass0 rfl)
              (pe_ixS GG hr4 B.sp_Stage_getitem B.fin_Stage_getitem bG (fun σ => passAt tk σ) (pe_makeS B.mk_Stage GI hr7 (by rfl) B.g_Stage bI .nil (fun σ => passAt tk σ) (pa_cons (pv 1) (pa_cons (pe_tup pa_nil) pa_nil))) (pv 2) (fun _ _ => rfl)))))))
          (fun a oe cls d pn hz hf => pss_one (ps_set (i := 3) sc_hd.nd rfl (Or.inl rfl) (pv 5)))))
      (pss_cons (ps_if (pt_cmp (pc_isN (pv 3))) (pss_one (ps_ret (pv 4))) pss_nil)
      (pss_cons (ps_if (PW.pt (pw_and (pt_val (pe_callB call_isEr (by rfl) B.b_isinstance (by decide +kernel) (pa_cons (pv 3) (pa_cons (pe_glob (v := .ref (He.ga K "NoName")) rfl B.g_NoName rfl) pa_nil))))
          (pw_and1 (pt_val (pe_callB call_isEr (by rfl) B.b_isinstance (by decide +kernel) (pa_cons (pv 3) (pa_cons (pe_bltn (by rfl) B.b_LookupError (by decide +kernel) (show RelV (.ty "LookupError") (.type "LookupError") from rfl)) pa_nil)))))))
        (pss_one (ps_ret (pe_tup (pa_cons pe_str (pa_cons (pe_erF (pv 3)) pa_nil))))) pss_nil)
      (pss_one (ps_ret (pe_ifExp (PW.pt (pw_and (pt_val (pe_callB call_isEr (by rfl) B.b_isinstance (by decide +kernel) (pa_cons (pv 3) (pa_cons (pe_glob (v := .ref (He.ga K "BadField")) rfl B.g_BadField rfl) pa_nil))))
          (pw_and1 (pt_val (pe_callB call_isEr (by rfl) B.b_isinstance (by decide +kernel) (pa_cons (pv 3) (pa_cons (pe_bltn (by rfl) B.b_ValueError (by decide +kernel) (show RelV (.ty "ValueError") (.type "ValueError") from rfl)) pa_nil)))))))
        (pe_tup (pa_cons pe_str (pa_cons (pe_erF (pv 3)) pa_nil))) pe_str)))))), ?_⟩
    refine ⟨(by show 2 ≤ sizeLine; decide), fun t0 h0 => ⟨_, _, rfl, SqT.of upd_same, rfl, _, _, rfl, _, _, rfl, rfl, ?_⟩⟩
    have s0 : Same H (upd H t0 (.tup [.non, .non])) := Same_new h0
    dsimp only [cxOf, Cx.nox]
    generalize (upd H t0 (.tup [.non, .non])) = H0 at s0
    clear h0 t0
    refine ⟨fun σ' H' => Same H H' ∧ ((∃ v, AnsAt H' v an ∧ σ' = [some (.int way), some (.ref kk), some v3, some .non, some v, none]) ∨ (∃ a d, σ' = [some (.int way), some (.ref kk), some v3, some (.ref a), some .non, none] ∧
      ((∃ z : Str, an = .bad z ∧ H' a = some (ErO (.ref (He.ga K "BadField")) (some d) a) ∧ H' d = some (.xd [("field", .str z)])) ∨ (∃ z : Str, an = .name z ∧ H' a = some (ErO (.ref (He.ga K "NoName")) (some d) a) ∧ H' d = some (.xd [("name", .str z)]))))), ?_, ?_⟩
    · rcases hcase with ⟨rfl, f, zs, rfl, hf, l100, hz, ao⟩ | ⟨rfl, z, rfl, hz, l100, hok, hw, ao⟩ | ⟨rfl, z, rfl, ea⟩
      · refine ⟨_, rfl, rfl, _, rfl, iteT ?_⟩
        refine ⟨_, rfl, _, rfl, fun x dx nx ndx nex => ?_⟩
        refine rd_mkT (ko.same s0) n0 (hf.same s0) l100 hz (fun H' s' => s') nx ndx ⟨fun i z h1 h2 h3 H' d s1 hd => ?_, fun i z h1 h2 h3 h4 H' d s1 hd => ?_, fun hall H' d' s1 so => ?_⟩
        · have e := ao.bad i z h1 h2 h3
          subst e
          refine ⟨_, exm4 B.exm_BadField_BadField B.exm_BadField_BadLine B.exm_BadField_NoName B.exm_BadField_NoPlace, fun _ a na => ?_, fun q => nomatch q⟩
          refine ⟨_, rfl, fun na' => ?_⟩
          have nda : d ≠ a := ne_of_none hd na'
          have s2 := s0.trans s1
          exact ⟨Same_upd s2 (s2.free na'), .inr ⟨a, d, rfl, .inl ⟨z, rfl, upd_same, by rw [upd_ne nda]; exact hd⟩⟩⟩
        · have e := ao.non i z h1 h2 h3 h4
          subst e
          refine ⟨_, exm4 B.exm_NoName_BadField B.exm_NoName_BadLine B.exm_NoName_NoName B.exm_NoName_NoPlace, fun _ a na => ?_, fun q => nomatch q⟩
          refine ⟨_, rfl, fun na' => ?_⟩
          have nda : d ≠ a := ne_of_none hd na'
          have s2 := s0.trans s1
          exact ⟨Same_upd s2 (s2.free na'), .inr ⟨a, d, rfl, .inr ⟨_, rfl, upd_same, by rw [upd_ne nda]; exact hd⟩⟩⟩
        · obtain ⟨sm, one⟩ := ao.good hall
          obtain ⟨dy, hx⟩ := so.x
          refine ⟨rfl, x, dy, _, rfl, hx, x, kk, d', ns, t, _, rfl, so, sm, fun H2 ys s2 pm ss => ?_⟩
          exact ⟨(s0.trans s1).trans s2, .inl ⟨_, by rw [one ys pm ss]; exact rfl, rfl⟩⟩
      · refine ⟨_, rfl, rfl, _, rfl, iteF ?_⟩
        refine ⟨_, rfl, rfl, _, rfl, iteT ?_⟩
        refine ⟨rfl, _, rfl, _, rfl, kk, z, ns, t, rfl, ko.same s0, n0, hz, l100, hok, hw, ⟨fun i z h1 h2 h3 H' d s1 hd => ?_, fun i z h1 h2 h3 h4 H' d s1 hd => ?_, fun hall H' x' d' s1 so => ?_⟩⟩
        · have e := ao.bad i z h1 h2 h3
          subst e
          refine ⟨_, exm4 B.exm_BadField_BadField B.exm_BadField_BadLine B.exm_BadField_NoName B.exm_BadField_NoPlace, fun _ a na => ?_, fun q => nomatch q⟩
          refine ⟨_, rfl, fun na' => ?_⟩
          have nda : d ≠ a := ne_of_none hd na'
          have s2 := s0.trans s1
          exact ⟨Same_upd s2 (s2.free na'), .inr ⟨a, d, rfl, .inl ⟨z, rfl, upd_same, by rw [upd_ne nda]; exact hd⟩⟩⟩
        · have e := ao.non i z h1 h2 h3 h4
          subst e
          refine ⟨_, exm4 B.exm_NoName_BadField B.exm_NoName_BadLine B.exm_NoName_NoName B.exm_NoName_NoPlace, fun _ a na => ?_, fun q => nomatch q⟩
          refine ⟨_, rfl, fun na' => ?_⟩
          have nda : d ≠ a := ne_of_none hd na'
          have s2 := s0.trans s1
          exact ⟨Same_upd s2 (s2.free na'), .inr ⟨a, d, rfl, .inr ⟨_, rfl, upd_same, by rw [upd_ne nda]; exact hd⟩⟩⟩
        · obtain ⟨sm, one⟩ := ao.good hall
          obtain ⟨dy, hx⟩ := so.x
          refine ⟨x', dy, _, rfl, hx, x', kk, d', ns, t, _, rfl, so, sm, fun H2 ys s2 pm ss => ?_⟩
          exact ⟨(s0.trans s1).trans s2, .inl ⟨_, by rw [one ys pm ss]; exact rfl, rfl⟩⟩
      · refine ⟨_, rfl, rfl, _, rfl, iteF ?_⟩
        refine ⟨_, rfl, rfl, _, rfl, iteF ?_⟩
        refine ⟨_, rfl, Nat.zero_le _, fun e he => fun x dx nx ndx nex => ?_⟩
        have se := s0.trans (Same_new (o := HO.tup []) he)
        refine rd_mkT (zs := []) (ko.same se) n0 (.inr (SqT.of upd_same)) (Nat.zero_le _) (fun z hz => nomatch hz) (fun H' s' => s') nx ndx ⟨(fun i z h1 => nomatch h1), (fun i z h1 => nomatch h1), fun _ H' d' s1 so => ?_⟩
        obtain ⟨dy, hx⟩ := so.x
        have s2 := se.trans s1
        refine ⟨rfl, _, rfl, x, dy, _, rfl, hx, x, kk, d', z, ns, _, rfl, so.r, fun hin => ?_, fun hin H2 d s3 hd => ?_⟩
        · rw [if_pos hin] at ea
          subst ea
          rw [bare_num]
          exact ⟨s2, .inl ⟨_, rfl, rfl⟩⟩
        · rw [if_neg hin] at ea
          subst ea
          refine ⟨_, exm4 B.exm_NoName_BadField B.exm_NoName_BadLine B.exm_NoName_NoName B.exm_NoName_NoPlace, fun _ a na => ?_, fun q => nomatch q⟩
          refine ⟨_, rfl, fun na' => ?_⟩
          have nda : d ≠ a := ne_of_none hd na'
          have s4 := s2.trans s3
          exact ⟨Same_upd s4 (s4.free na'), .inr ⟨a, d, rfl, .inr ⟨_, rfl, upd_same, by rw [upd_ne nda]; exact hd⟩⟩⟩
    rintro σ1 H1 ⟨s1, ⟨v, hv, rfl⟩ | ⟨a, d, rfl, ⟨z, rfl, ha, hd⟩ | ⟨z, rfl, ha, hd⟩⟩⟩
    · refine ⟨_, rfl, _, rfl, ifd rfl ?_⟩
      exact ⟨_, rfl, k _ _ s1 hv⟩
    · have c := B.xc_BadField
      refine ⟨_, rfl, _, rfl, ifdn (fun z => nomatch z) ?_⟩
      refine ⟨_, rfl, a, _, d, _, _, _, false, rfl, ha, hd, c, (fun u r => r), bf_nn B, _, rfl, iteF ?_⟩
      refine iteF ?_
      refine ⟨_, rfl, a, _, d, _, _, _, true, rfl, ha, hd, c, (fun u r => r), kit_self, _, rfl, iteT ?_⟩
      refine ⟨_, rfl, a, _, d, _, _, _, true, rfl, ha, hd, c, (fun u r => r), B.kit_BadField_ValueError, _, rfl, iteT ?_⟩
      refine ⟨_, rfl, a, _, d, _, .str z, rfl, ha, ⟨c.hg, c.hk, c.hs, c.hd⟩, B.nf_BadField_field, hd, rfl, (by show 2 ≤ sizeLine; decide), fun t ht => ?_⟩
      exact k _ _ (Same_lay s1 ht) ⟨t, rfl, upd_same⟩
    · have c := B.xc_NoName
      refine ⟨_, rfl, _, rfl, ifdn (fun z => nomatch z) ?_⟩
      refine ⟨_, rfl, a, _, d, _, _, _, true, rfl, ha, hd, c, (fun u r => r), kit_self, _, rfl, iteT ?_⟩
      refine ⟨_, rfl, a, _, d, _, _, _, true, rfl, ha, hd, c, (fun u r => r), B.kit_NoName_LookupError, _, rfl, iteT ?_⟩
      refine ⟨_, rfl, a, _, d, _, .str z, rfl, ha, ⟨c.hg, c.hk, c.hs, c.hd⟩, B.nf_NoName_name, hd, rfl, (by show 2 ≤ sizeLine; decide), fun t ht => ?_⟩
      exact k _ _ (Same_lay s1 ht) ⟨t, rfl, upd_same⟩
end
end Jd
namespace Jd
open PySem PySem.Spec PyProof.Rows L2
/-! ### the law's numbers -/
def spGcd : Sp := fun vs H Q _ => ∃ a b : Nat, vs = [iV a, iV b] ∧ Q (iV (Nat.gcd a b)) H
def spLcm : Sp := fun vs H Q _ => ∃ a b : Nat, vs = [iV a, iV b] ∧ a ≤ MB ∧ b ≤ MB ∧ Q (iV (Nat.lcm a b)) H
theorem dv_le {n : Nat} (h : n = 0 ∨ n ∣ MB) : n ≤ MB := h.elim (fun e => e ▸ Nat.zero_le _) fun h => Nat.le_of_dvd (by decide) h
section
variable {P : Program} {w : World} {K : PySem.W.Frag} {mg : Str → Option Value} {base : Heap}
abbrev NG : List Str := ["_law_one_so", "_law_far_so"]
theorem sc_gc : FnScope NG NG (defScope s__law_gcd) := ⟨rfl, rfl, rfl, by decide +kernel, rfl, by decide +kernel, by decide +kernel⟩
theorem ok_gcdL (B : Bk K mg) : Df P w K mg base CX0 1 "_law_gcd" NG spGcd := by
  obtain ⟨fd, F⟩ := B.F_law_gcd
  refine ⟨⟨fd, ?_, F.binds fun _ _ _ _ _ _ us hl => match us, hl with | [_, _], _ => rfl⟩, B.g_law_gcd, F.kp⟩
  refine F.ok sc_gc (fun vs H Q E h => ?_) (fun cdv A outer s H vs Q E hr h => ?_)
  · obtain ⟨_, _, rfl, _⟩ := h
    rfl
  · obtain ⟨a, b, rfl, k⟩ := h
    refine ⟨_, pss_cons (ps_while PassesOwn.never (pt_cmpR op_ne (pv 1) pe_int (nomark _))
        (pss_one (ps_par (i := 0) (j := 1) (by rfl) sc_gc.nd rfl rfl (by decide) rfl rfl (pa_cons (pv 1) (pa_cons (pe_op op_mod (pe_callTy call_int1 (by rfl) B.b_int (by decide +kernel) (pa_cons (pv 0) pa_nil)) (pv 1)) pa_nil)) (by rfl))))
      (pss_one (ps_ret (pv 0))), ?_⟩
    refine ⟨fun m σ H' => ∃ x y : Nat, m = y ∧ σ = [some (iV x), some (iV y)] ∧ H' = H ∧ Nat.gcd x y = Nat.gcd a b, ⟨b, a, b, rfl, rfl, rfl, rfl⟩, ?_⟩
    rintro m σ H1 ⟨x, y, rfl, rfl, rfl, e⟩
    refine ⟨_, rfl, rfl, _, rfl, two (fun h1 => ?_) (fun h1 => ?_)⟩
    · have y0 : m ≠ 0 := fun q => by
        have z : (!decide (V.int ((m : Nat) : Int) = V.int 0)) = true := h1
        subst q
        rw [decide_eq_true (show V.int ((0 : Nat) : Int) = V.int 0 from rfl)] at z
        cases z
      have mp : 0 < m := Nat.pos_of_ne_zero y0
      refine ⟨fun σ' H' => ∃ x' y' : Nat, y' < m ∧ σ' = [some (iV x'), some (iV y')] ∧ H' = H1 ∧ Nat.gcd x' y' = Nat.gcd a b, fun σ' H' ⟨x', y', l, q⟩ => ⟨y', l, x', y', rfl, q⟩, ?_⟩
      refine ⟨_, rfl, _, rfl, .inl ⟨_, rfl, _, rfl, _, _, rfl, rfl, (by show (0 : Int) < (m : Int); omega), _, _, rfl, m, x % m, Nat.mod_lt _ mp, rfl, rfl, ?_⟩⟩
      rw [← e, Nat.gcd_comm x m, Nat.gcd_rec m x, Nat.gcd_comm]
    · have y0 : m = 0 := by
        have z : (!decide (V.int ((m : Nat) : Int) = V.int 0)) = false := h1
        by_cases q : m = 0
        · exact q
        · rw [decide_eq_false fun e => q (by have := V.int.inj e; omega)] at z
          cases z
      subst y0
      rw [Nat.gcd_zero_right] at e
      subst e
      exact ⟨_, rfl, k⟩
theorem sc_lm : FnScope NG NG (defScope s__law_lcm) := ⟨rfl, rfl, rfl, by decide +kernel, rfl, by decide +kernel, by decide +kernel⟩
theorem ok_lcmL (B : Bk K mg) : Df P w K mg base CX0 2 "_law_lcm" NG spLcm := by
  obtain ⟨fd, F⟩ := B.F_law_lcm
  obtain ⟨fdG, GG, bG⟩ := (ok_gcdL (P := P) (w := w) (base := base) B).ex
  have kG := (ok_gcdL (P := P) (w := w) (base := base) B).kp
  refine ⟨⟨fd, ?_, F.binds fun _ _ _ _ _ _ us hl => match us, hl with | [_, _], _ => rfl⟩, B.g_law_lcm, F.kp⟩
  refine F.ok sc_lm (fun vs H Q E h => ?_) (fun cdv A outer s H vs Q E hr h => ?_)
  · obtain ⟨_, _, rfl, _⟩ := h
    rfl
  · obtain ⟨a, b, rfl, ha, hb, k⟩ := h
    refine ⟨_, pss_one (ps_ret (pe_ifExp (PW.pt (pw_or (pt_cmpR op_eq (pv 0) pe_int (nomark _)) (pw_or1 (pt_cmpR op_eq (pv 1) pe_int (nomark _))))) pe_int
      (pe_op op_fdiv (pe_op op_mul (pv 0) (pv 1)) (pe_call GG hr rfl B.g_law_gcd kG bG .nil pass0 (pa_cons (pv 0) (pa_cons (pv 1) pa_nil)))))), ?_⟩
    have mb : MB = 441000000 := rfl
    refine ⟨_, rfl, rfl, _, rfl, two (fun h1 => ?_) (fun h1 => ?_)⟩
    · have e : a = 0 := by
        have q := V.int.inj (of_decide_eq_true h1)
        omega
      subst e
      rw [Nat.lcm_zero_left] at k
      exact iteT k
    · have e : a ≠ 0 := fun q => of_decide_eq_false h1 (by rw [q]; rfl)
      refine ⟨_, rfl, rfl, _, rfl, two (fun h2 => ?_) (fun h2 => ?_)⟩
      · have e2 : b = 0 := by
          have q := V.int.inj (of_decide_eq_true h2)
          omega
        subst e2
        rw [Nat.lcm_zero_right] at k
        exact k
      · have e2 : b ≠ 0 := fun q => of_decide_eq_false h2 (by rw [q]; rfl)
        have g0 : 0 < Nat.gcd a b := Nat.gcd_pos_of_pos_left _ (Nat.pos_of_ne_zero e)
        have gl : Nat.gcd a b ≤ a := Nat.le_of_dvd (Nat.pos_of_ne_zero e) (Nat.gcd_dvd_left a b)
        refine ⟨_, rfl, _, rfl, _, _, rfl, rfl, .inl ⟨by omega, by omega⟩, _, rfl, _, rfl, a, b, rfl, _, _, rfl, rfl, ⟨by omega, by omega⟩, ?_⟩
        have q : ((a : Int) * (b : Int)) / ((Nat.gcd a b : Nat) : Int) = ((Nat.lcm a b : Nat) : Int) := by
          unfold Nat.lcm
          rw [← Int.natCast_mul, ← Int.natCast_ediv]
        show Q (.int (((a : Int) * (b : Int)) / ((Nat.gcd a b : Nat) : Int))) H
        rw [q]
        exact k
end
end Jd
namespace Jd
open PySem PySem.Spec PyProof.Rows L2
/-! ### what right asks of Keys -/
theorem via_perm {R R' : List (Str × Str)} (h : ∀ p, p ∈ R' ↔ p ∈ R) {M : List Str} {a b : Str} (v : Via R' M a b) : Via R M a b := by
  induction v with
  | one q => exact .one ((h _).mp q)
  | two _ m _ ih1 ih2 => exact .two ih1 m ih2
theorem told_perm {R R' : List (Str × Str)} (h : R'.Perm R) (ns : List Str) : toldOf R' ns = toldOf R ns := by
  funext n
  unfold toldOf
  refine List.filter_congr fun b _ => decide_eq_decide.mpr ?_
  rw [close_in, close_in]
  exact ⟨via_perm fun p => h.mem_iff, via_perm fun p => h.mem_iff.symm⟩
theorem txAdd_nd {xs : List Str} {x : Str} (h : xs.Nodup) : (txAdd xs x).Nodup := by
  unfold txAdd
  split
  · exact h
  · rename_i q
    exact List.nodup_cons.mpr ⟨q, h⟩
theorem txAll_nd0 : ∀ (xs acc : List Str), acc.Nodup → (xs.foldl txAdd acc).Nodup
  | [], _, h => h
  | x :: r, acc, h => txAll_nd0 r _ (txAdd_nd h)
theorem perm_of_nd {l m : List Str} (hl : l.Nodup) (hm : m.Nodup) (h : ∀ z, z ∈ l ↔ z ∈ m) : l.Perm m := by
  rw [List.perm_iff_count]
  intro a
  rw [hl.count, hm.count]
  by_cases q : a ∈ l
  · rw [if_pos q, if_pos ((h a).mp q)]
  · rw [if_neg q, if_neg fun z => q ((h a).mpr z)]
theorem names_one {names ns : List Str} (nd : ns.Nodup) (so : sortedS ns = true) (h : ∀ z, z ∈ names ↔ z ∈ ns) : ∀ ns' : List Str, ns'.Perm (txAll names) → sortedS ns' = true → ns' = ns := fun ns' pm so' => by
  refine sorted_one (pm.trans (perm_of_nd (txAll_nd0 names [] List.nodup_nil) nd fun z => ?_)) so' so
  rw [← h z]
  have q := txAll_in names [] z
  exact ⟨fun e => (q.mp e).resolve_right List.not_mem_nil, fun e => q.mpr (.inl e)⟩
theorem names_len {names ns : List Str} (nd : ns.Nodup) (h : ∀ z, z ∈ names ↔ z ∈ ns) : (txAll names).length = ns.length := by
  refine (perm_of_nd (txAll_nd0 names [] List.nodup_nil) nd fun z => ?_).length_eq
  rw [← h z]
  have q := txAll_in names [] z
  exact ⟨fun e => (q.mp e).resolve_right List.not_mem_nil, fun e => q.mpr (.inl e)⟩
theorem pr_to {H : Hp} : ∀ {qs : List Addr} {prs : List (Str × Str)}, PrAt H qs prs → Paired (fun q (pr : Str × Str) => H q = some (.tup [.str pr.1, .str pr.2])) qs prs
  | [], [], _ => .nil
  | [], _ :: _, h => by
    have := h.1
    cases this
  | _ :: _, [], h => by
    have := h.1
    cases this
  | q :: qs, pr :: prs, h => by
    refine .cons ?_ (pr_to ⟨by have := h.1; simpa using this, fun i p hp => h.2 (i + 1) p hp⟩)
    obtain ⟨pr', e, z⟩ := h.2 0 q rfl
    cases e
    exact z
theorem paired_perm {α β : Type} {F : α → β → Prop} {zs qs : List α} (pm : zs.Perm qs) : ∀ {R : List β}, Paired F qs R → ∃ R' : List β, R'.Perm R ∧ Paired F zs R' := by
  induction pm with
  | nil => intro R h; cases h; exact ⟨[], .nil, .nil⟩
  | cons x _ ih =>
    intro R h
    cases h with
    | cons a b =>
      obtain ⟨R', p, q⟩ := ih b
      exact ⟨_ :: R', p.cons _, .cons a q⟩
  | swap x y l =>
    intro R h
    cases h with
    | cons a b =>
      cases b with
      | cons c d => exact ⟨_, List.Perm.swap _ _ _, .cons c (.cons a d)⟩
  | trans _ _ ih1 ih2 =>
    intro R h
    obtain ⟨R1, p1, q1⟩ := ih2 h
    obtain ⟨R2, p2, q2⟩ := ih1 q1
    exact ⟨R2, p2.trans p1, q2⟩
theorem KeysO.congr {K : PySem.W.Frag} {H : Hp} {x : Addr} {ns : List Str} {t t' : Str → List Str} (h : KeysO K H x ns t) (e : t = t') : KeysO K H x ns t' := e ▸ h
theorem pool_ok : ∀ z ∈ pool7, PyData.strOk z = true := by decide +kernel
theorem noq : ("q" : Str) ∉ pool7 := by decide +kernel
theorem noh : ("#" : Str) ∉ pool7 := by decide +kernel
theorem nob : ("b" : Str) ∉ pool7 := by decide +kernel
theorem told_nil (ns : List Str) (n : Str) : toldOf [] ns n = [] := by
  unfold toldOf
  rw [List.filter_eq_nil_iff]
  intro b _ h
  have v := close_in.mp (of_decide_eq_true h)
  have key : ∀ {a b : Str}, Via ([] : List (Str × Str)) ns a b → False := by
    intro a b v
    induction v with
    | one q => cases q
    | two _ _ _ ih1 _ => exact ih1
  exact key v
theorem noring_of {R : List (Str × Str)} {ns M : List Str} (h : ∃ rk : Str → Nat, (∀ p ∈ R, rk p.1 < rk p.2) ∧ ∀ p ∈ R, rk p.2 ≤ M.length) : ∀ n ∈ ns, n ∉ toldOf R ns n := fun n _ q => by
  obtain ⟨rk, h1, _⟩ := h
  exact no_ring h1 n (told_in.mp q).2
theorem atI_zero {x : V} {xs : List V} : atI (x :: xs) 0 = some x := by
  have e : ixN (x :: xs).length 0 = some 0 := by
    unfold ixN
    rw [if_pos (Int.le_refl 0), if_pos (by rw [List.length_cons]; omega)]
    rfl
  unfold atI
  rw [e]
  rfl
theorem pairs_mem {ns : List Str} {t : Str → List Str} {p : Str × Str} (h : p ∈ pairsOf ns t) : p.1 ∈ ns ∧ p.2 ∈ t p.1 := by
  unfold pairsOf at h
  obtain ⟨n, hn, h⟩ := List.mem_flatMap.mp h
  obtain ⟨o, ho, rfl⟩ := List.mem_map.mp h
  exact ⟨hn, ho⟩
end Jd
namespace Jd
open PySem PySem.Spec PyProof.Rows L2
/-! ### a drawn FIELD -/
def parts15 : List Nat := [0, 0, 0, 2, 3, 4, 5, 6, 8, 9, 12, 18, 30, 49, 1000000]
theorem parts_ok : ∀ p ∈ parts15, p = 0 ∨ (p ∣ MB ∧ 2 ≤ p) := by decide +kernel
/-- a FIELD of the law's -/
def FldL (ns : List Str) (z : Str) : Prop := ∃ o p, o ∈ hs ns ∧ p ∈ parts15 ∧ cd z = if p = 0 then cd o else cd o ++ 47 :: TL.numL p
def spFl : Sp := fun vs H Q _ => ∃ (u f : Addr) (n : Nat) (ns : List Str), vs = [.ref u, .ref f] ∧ Urn H u n ∧ n < 90000 ∧ H f = some (.tup (ns.map V.str)) ∧ 1 ≤ ns.length ∧ ns.length ≤ 5 ∧ (∀ z ∈ ns, isName (cd z) = true) ∧
  ∀ H' z, Urn H' u (n + 3) → Keep u H H' → FldL ns z → Q (.str z) H'
theorem fld_ok {ks : List Str} {z o : Str} {p : Nat} (hz : cd z = if p = 0 then cd o else cd o ++ 47 :: TL.numL p) (ho : OwnF o) (hk : o ∈ ks) (hp : p = 0 ∨ (p ∣ MB ∧ 2 ≤ p)) : FldOk ks z := by
  rcases hp with rfl | ⟨hp, h2⟩
  · have e : z = fldT o 0 := cd_ext (by rw [hz, if_pos rfl]; unfold fldT; rw [if_pos rfl])
    obtain ⟨f1, f2, f3, f4⟩ := fld_facts ho (n := 0) (.inl rfl)
    rw [← e] at f1 f2 f3 f4
    have f5 : fnum z = 0 := by
      unfold fnum
      rw [f3]
      rfl
    exact ⟨f1, Nat.le_trans f4 (by decide), by rw [f2]; exact hk, by rw [f5]; exact f3, .inl f5⟩
  · have N := num_facts hp h2
    have e : z = fldT o p := cd_ext (by
      unfold fldT
      rw [hz, if_neg (by omega), if_neg (by omega), cd_ftext o p N.dig, cd_dec])
    subst e
    obtain ⟨f1, f2, f3, f4⟩ := fld_facts ho (n := p) (.inr ⟨hp, h2⟩)
    have f5 : fnum (fldT o p) = p := by
      unfold fnum
      rw [f3]
      rfl
    exact ⟨f1, Nat.le_trans f4 (by decide), by rw [f2]; exact hk, by rw [f5]; exact f3, .inr (by rw [f5]; exact hp)⟩
theorem FldL.ok {ns : List Str} {z : Str} (h : FldL ns z) (hn : ∀ o ∈ ns, isName (cd o) = true) : FldOk (hs ns) z := by
  obtain ⟨o, p, ho, hp, hz⟩ := h
  exact fld_ok hz ((List.mem_cons.mp ho).elim (fun e => e ▸ own_hash) fun q => own_name (hn o q)) ho (parts_ok p hp)
section
variable {P : Program} {w : World} {K : PySem.W.Frag} {mg : Str → Option Value} {base : Heap}
theorem sc_lof : FnScope ["_law_urn", "_law_some_so"] ["_law_urn", "_law_some_so"] (defScope s__law_of) := ⟨rfl, rfl, rfl, by decide +kernel, rfl, by decide +kernel, by decide +kernel⟩
theorem ok_ofL (B : Bk K mg) : Df P w K mg base CX0 2 "_law_of" ["_law_urn", "_law_some_so"] (spOf K) := by
  obtain ⟨fd, F⟩ := B.F_law_of
  obtain ⟨fdT, GT, bT⟩ := (ok_law_take (P := P) (w := w) (base := base) B).ex
  have kT := (ok_law_take (P := P) (w := w) (base := base) B).kp
  refine ⟨⟨fd, ?_, F.binds fun _ _ _ _ _ _ us hl => match us, hl with | [_, _], _ => rfl⟩, B.g_law_of, F.kp⟩
  refine F.ok sc_lof (fun vs H Q E h => ?_) (fun cdv A outer s H vs Q E hr h => ?_)
  · obtain ⟨u, lo, xs, n, rfl, _⟩ := h
    rfl
  · obtain ⟨u, l, xs, n, rfl, hu, hn, hs, ne, h0, h1, k⟩ := h
    refine ⟨_, pss_one (ps_ret (pe_ix ix_list (pv 1) (pe_call GT hr rfl B.g_law_take kT bT .nil pass0 (pa_cons (pv 0) (pa_cons (pe_callB call_len (by rfl) B.b_len (by decide +kernel) (pa_cons (pv 1) pa_nil)) pa_nil))) (fun _ _ => rfl))), ?_⟩
    refine ⟨_, rfl, _, rfl, _, rfl, _, _, rfl, .inl ⟨_, hs, rfl⟩, u, _, n, rfl, hu, hn, by omega, by omega, fun r H' r0 r1 hu' kp => ?_⟩
    have hr' : r = (r.toNat : Int) := by omega
    have hl : r.toNat < xs.length := by omega
    exact ⟨l, xs, _, xs[r.toNat], rfl, rfl, kp.seq hs ne, at_of hr' (List.getElem?_eq_getElem hl), k r.toNat _ H' (List.getElem?_eq_getElem hl) hu' kp⟩
abbrev NF : List Str := ["_law_urn", "_law_flats", "_law_own", "_law_part"]
theorem sc_fl : FnScope NF ["_law_urn", "_law_flats"] (defScope s__law_field) := ⟨rfl, rfl, rfl, by decide +kernel, rfl, by decide +kernel, by decide +kernel⟩
theorem ok_fieldL (B : Bk K mg) : Df P w K mg base CX0 3 "_law_field" ["_law_urn", "_law_flats"] spFl := by
  obtain ⟨fd, F⟩ := B.F_law_field
  obtain ⟨fdT, GT, bT⟩ := (ok_law_take (P := P) (w := w) (base := base) B).ex
  have kT := (ok_law_take (P := P) (w := w) (base := base) B).kp
  obtain ⟨fdO, GO, bO⟩ := (ok_ofL (P := P) (w := w) (base := base) B).ex
  have kO := (ok_ofL (P := P) (w := w) (base := base) B).kp
  refine ⟨⟨fd, ?_, F.binds fun _ _ _ _ _ _ us hl => match us, hl with | [_, _], _ => rfl⟩, B.g_law_field, F.kp⟩
  refine F.ok sc_fl (fun vs H Q E h => ?_) (fun cdv A outer s H vs Q E hr h => ?_)
  · obtain ⟨_, _, _, _, rfl, _⟩ := h
    rfl
  · obtain ⟨u, f, n, ns, rfl, hu, hn, hf, l1, l5, nm, k⟩ := h
    have hr1 : Room 1 _ := hr.mono (by decide)
    refine ⟨_, pss_cons (ps_cut (ps_set (i := 2) sc_fl.nd rfl (Or.inl rfl) (pe_call GO hr rfl B.g_law_of kO bO .nil pass0 (pa_cons (pv 0) (pa_cons (pe_op op_cat (pe_op op_rep (pe_callTy call_list_of (by rfl) B.b_list (by decide +kernel) (pa_cons (pv 1) pa_nil)) pe_int) (pe_lst (pa_cons pe_str pa_nil))) pa_nil)))))
      (pss_cons (ps_cut (ps_if (PW.pt (pw_and (pt_cmpR op_eq (pv 2) pe_str (nomark _)) (pw_and1 (pt_cmpR op_gt (pe_call GT hr1 rfl B.g_law_take kT bT .nil pass0 (pa_cons (pv 0) (pa_cons pe_int pa_nil))) pe_int (nomark _)))))
        (pss_one (ps_set (i := 2) sc_fl.nd rfl (Or.inl rfl) (pe_ix ix_tup (pv 1) pe_int (fun _ _ => rfl)))) pss_nil))
      (pss_cons (ps_cut (ps_set (i := 3) sc_fl.nd rfl (Or.inl rfl) (pe_call GO hr rfl B.g_law_of kO bO .nil pass0 (pa_cons (pv 0) (pa_cons (pe_lst (pa_cons pe_int (pa_cons pe_int (pa_cons pe_int (pa_cons pe_int (pa_cons pe_int (pa_cons pe_int (pa_cons pe_int (pa_cons pe_int (pa_cons pe_int (pa_cons pe_int (pa_cons pe_int (pa_cons pe_int (pa_cons pe_int (pa_cons pe_int (pa_cons pe_int pa_nil)))))))))))))))) pa_nil)))))
      (pss_one (ps_ret (pe_ifExp (pt_cmpR op_eq (pv 3) pe_int (nomark _)) (pv 2) (pe_op op_add_str (pe_op op_add_str (pv 2) pe_str) (pe_callTy call_str_int (by rfl) B.b_str (by decide +kernel) (pa_cons (pv 3) pa_nil)))))))), ?_⟩
    obtain ⟨ua, ub, uc, hu0, _⟩ := id hu
    have nfu : f ≠ u := ne_of hf hu0 (by intro z; cases z)
    have own : ∀ o ∈ hs ns, OwnF o := fun o ho => (List.mem_cons.mp ho).elim (fun e => e ▸ own_hash) fun ho => own_name (nm o ho)
    refine ⟨fun σ' H' => ∃ o, σ' = [some (.ref u), some (.ref f), some (.str o), none] ∧ o ∈ hs ns ∧ Urn H' u (n + 1) ∧ Keep u H H', ?_, ?_⟩
    · refine ⟨_, rfl, _, rfl, f, _, rfl, .inr (SqT.of hf), fun L nL => ?_⟩
      refine ⟨L, 4, _, rfl, rfl, upd_same, by decide, by decide, ?_, fun p hp => ?_⟩
      · rw [List.length_map]
        have : (1000 : Nat) < sizeLine := by decide
        show ns.length * 4 ≤ sizeLine
        omega
      · refine ⟨(by show 1 ≤ sizeLine; decide), fun q hq => ?_⟩
        have s1 : Same H (upd H L (.lst (ns.map V.str))) := Same_new nL
        have s2 := Same_lay (o := HO.lst (List.replicate (4 : Int).toNat (ns.map V.str)).flatten) s1 hp
        have s3 := Same_lay (o := HO.lst [V.str "#"]) s2 hq
        have npq : p ≠ q := fun e => by rw [← e, upd_same] at hq; cases hq
        have len : (List.replicate (4 : Int).toNat (ns.map V.str)).flatten.length ≤ 20 := by
          show (List.replicate 4 (ns.map V.str)).flatten.length ≤ 20
          simp only [List.replicate, List.flatten_cons, List.flatten_nil, List.length_append, List.length_map, List.length_nil]
          omega
        refine ⟨p, q, _, _, rfl, rfl, by rw [upd_ne npq, upd_same], upd_same, ?_, fun r hr => ?_⟩
        · have : (1000 : Nat) < sizeLine := by decide
          show _ + 1 ≤ _
          omega
        · have s4 := Same_lay (o := HO.lst ((List.replicate (4 : Int).toNat (ns.map V.str)).flatten ++ [V.str "#"])) s3 hr
          have hu4 := hu.same s4
          obtain ⟨_, _, _, hu40, _⟩ := id hu4
          have nru : r ≠ u := fun e => by
            have z := s3 _ _ hu0
            rw [← e, hr] at z
            cases z
          refine ⟨u, r, _, n, rfl, hu4, by omega, SqL.of upd_same, nru, ?_, ?_, fun i x H' hx hu' kp => ?_⟩
          · rw [List.length_append]
            show 0 < _ + 1
            omega
          · rw [List.length_append]
            show _ + 1 < 1000
            omega
          · obtain ⟨o, ho, rfl⟩ : ∃ o, o ∈ hs ns ∧ x = .str o := by
              rcases List.mem_append.mp (List.mem_of_getElem? hx) with hx | hx
              · obtain ⟨l, hl, hx⟩ := List.mem_flatten.mp hx
                rw [(List.mem_replicate.mp hl).2] at hx
                obtain ⟨o, ho, rfl⟩ := List.mem_map.mp hx
                exact ⟨o, List.mem_cons_of_mem _ ho, rfl⟩
              · exact ⟨"#", List.mem_cons_self, List.mem_singleton.mp hx⟩
            exact ⟨o, rfl, ho, hu', (Same.keep s4).trans kp⟩
    rintro σ1 H1 ⟨o, rfl, ho, hu1, k1⟩
    have hf1 := k1 _ _ nfu hf
    refine ⟨fun σ' H' => ∃ o, σ' = [some (.ref u), some (.ref f), some (.str o), none] ∧ o ∈ hs ns ∧ Urn H' u (n + 2) ∧ Keep u H H', ?_, ?_⟩
    · refine ⟨_, rfl, rfl, _, rfl, two (fun h1 => ?_) (fun h1 => ?_)⟩
      · refine ⟨_, rfl, u, 3, n + 1, rfl, hu1, by omega, by decide, by decide, fun r H2 r0 r1 hu2 k2 => ?_⟩
        refine ⟨_, _, rfl, rfl, _, rfl, two (fun h2 => ?_) (fun h2 => ?_)⟩
        · obtain ⟨z, zs, ez⟩ : ∃ z zs, ns = z :: zs := by
            cases ns with
            | nil => cases l1
            | cons z zs => exact ⟨z, zs, rfl⟩
          refine ⟨_, rfl, f, _, 0, .str z, rfl, rfl, SqT.of (k2 _ _ nfu hf1), by rw [ez]; exact atI_zero, z, rfl, by rw [ez]; exact List.mem_cons_of_mem _ List.mem_cons_self, hu2, k1.trans k2⟩
        · exact ⟨o, rfl, ho, hu2, k1.trans k2⟩
      · exact iteF ⟨o, rfl, ho, hu1.le (by omega), k1⟩
    rintro σ2 H2 ⟨o, rfl, ho, hu2, k2⟩
    refine ⟨fun σ' H' => ∃ p : Nat, σ' = [some (.ref u), some (.ref f), some (.str o), some (iV p)] ∧ p ∈ parts15 ∧ Urn H' u (n + 3) ∧ Keep u H H', ?_, ?_⟩
    · refine ⟨_, rfl, (by show 15 ≤ sizeLine; decide), fun q hq => ?_⟩
      have s1 : Same H2 (upd H2 q (.lst (parts15.map iV))) := Same_new hq
      have hu3 := hu2.same s1
      obtain ⟨_, _, _, hu30, _⟩ := id hu2
      have nqu : q ≠ u := fun e => by rw [← e, hq] at hu30; cases hu30
      refine ⟨u, q, parts15.map iV, n + 2, rfl, hu3, by omega, SqL.of upd_same, nqu, by decide, by decide, fun i x H' hx hu' kp => ?_⟩
      obtain ⟨p, hp, rfl⟩ := List.mem_map.mp (List.mem_of_getElem? hx)
      exact ⟨p, rfl, hp, hu', k2.trans ((Same.keep s1).trans kp)⟩
    rintro σ3 H3 ⟨p, rfl, hp, hu3, k3⟩
    have hpk := parts_ok p hp
    have pb : p ≤ 1000000 := by
      have q : ∀ p ∈ parts15, p ≤ 1000000 := by decide
      exact q p hp
    refine ⟨_, rfl, rfl, _, rfl, two (fun h1 => ?_) (fun h1 => ?_)⟩
    · have e : p = 0 := by
        have q := V.int.inj (of_decide_eq_true h1)
        omega
      exact ⟨_, rfl, k _ _ hu3 k3 ⟨o, 0, ho, by decide, by rw [if_pos rfl]⟩⟩
    · have e : p ≠ 0 := fun q => of_decide_eq_false h1 (by rw [q]; rfl)
      have lo := (own o ho).len
      have big : (1000 : Nat) < sizeLine := by decide
      have N := num_facts (hpk.resolve_left e).1 (hpk.resolve_left e).2
      have l1 : ("/" : Str).length = 1 := by decide +kernel
      have l2 : (dec p).length ≤ 10 := by rw [len_cd, cd_dec]; exact N.len
      refine ⟨_, rfl, _, _, rfl, rfl, ?_, _, rfl, _, rfl, ?_, _, _, rfl, rfl, ?_, k _ _ hu3 k3 ⟨o, p, ho, hp, ?_⟩⟩
      · show o.length + ("/" : Str).length ≤ sizeLine
        omega
      · refine Nat.lt_of_lt_of_le ((Nat.log2_lt (k := 60) ?_).mpr ?_) (by decide)
        · show p ≠ 0
          exact e
        · show p < 2 ^ 60
          omega
      · show (o ++ "/").length + (dec p).length ≤ sizeLine
        rw [app_len]
        omega
      · show cd (o ++ "/" ++ dec p) = _
        rw [if_neg e, cd_cat, cd_cat, cd_dec, show cd ("/" : Str) = [47] by decide +kernel, List.append_assoc]
        rfl
end
end Jd
namespace Jd
open PySem PySem.Spec PyProof.Rows L2
/-! ### _law_split -/
def spSplit : Sp := fun vs H Q _ => ∃ (z : Str) (ns : List Str), vs = [.str z] ∧ FldL ns z ∧ (∀ o ∈ ns, isName (cd o) = true) ∧ ∀ H' p, Same H H' → H p = none → H' p = some (.tup [.str (fieldName z), iV (fnum z)]) → Q (.ref p) H'
section
variable {P : Program} {w : World} {K : PySem.W.Frag} {mg : Str → Option Value} {base : Heap}
abbrev NSp : List Str := ["_law_flat", "_law_own", "_law_gap", "_law_digits"]
theorem sc_sp : FnScope NSp ["_law_flat"] (defScope s__law_split) := ⟨rfl, rfl, rfl, by decide +kernel, rfl, by decide +kernel, by decide +kernel⟩
theorem ok_split (B : Bk K mg) : Df P w K mg base CX0 1 "_law_split" ["_law_flat"] spSplit := by
  obtain ⟨fd, F⟩ := B.F_law_split
  refine ⟨⟨fd, ?_, F.binds fun _ _ _ _ _ _ us hl => match us, hl with | [_], _ => rfl⟩, B.g_law_split, F.kp⟩
  refine F.ok sc_sp (fun vs H Q E h => ?_) (fun cdv A outer s H vs Q E hr h => ?_)
  · obtain ⟨_, _, rfl, _⟩ := h
    rfl
  · obtain ⟨z, ns, rfl, hz, hn, k⟩ := h
    refine ⟨_, pss_cons (ps_asg (pe_partition (pv 0) pe_str) (pg_tup (by rfl) (pgs_cons (pg_name (i := 1) sc_sp.nd rfl (.inl rfl)) (pgs_cons (pg_name (i := 2) sc_sp.nd rfl (.inl rfl)) (pgs_cons (pg_name (i := 3) sc_sp.nd rfl (.inl rfl)) pgs_nil)))))
      (pss_one (ps_ret (pe_tup (pa_cons (pv 1) (pa_cons (pe_ifExp (pt_cmpR op_ne (pv 2) pe_str (nomark _)) (pe_callTy call_int_str (by rfl) B.b_int (by decide +kernel) (pa_cons (pv 3) pa_nil)) pe_int) pa_nil))))), ?_⟩
    have fo := hz.ok hn
    obtain ⟨o, p, ho, hp, hc⟩ := hz
    have hoF : OwnF o := (List.mem_cons.mp ho).elim (fun e => e ▸ own_hash) fun q => own_name (hn o q)
    have big : (1000 : Nat) ≤ sizeLine := by decide
    refine ⟨_, rfl, ⟨_, rfl⟩, _, _, rfl, rfl, by decide, Nat.le_trans fo.len big, fun q hq => ?_⟩
    have s1 : Same H (upd H q (.tup [.str (Txt.partition z "/").1, .str (Txt.partition z "/").2.1, .str (Txt.partition z "/").2.2])) := Same_new hq
    refine ⟨_, _, rfl, SqT.of upd_same, rfl, _, _, rfl, _, _, rfl, _, _, rfl, rfl, ?_⟩
    have fin : ∀ i : Int, i = ((fnum z : Nat) : Int) → (2 : Nat) ≤ sizeLine ∧ ∀ r, (upd H q (.tup [.str (Txt.partition z "/").1, .str (Txt.partition z "/").2.1, .str (Txt.partition z "/").2.2])) r = none → Q (.ref r) (upd (upd H q (.tup [.str (Txt.partition z "/").1, .str (Txt.partition z "/").2.1, .str (Txt.partition z "/").2.2])) r (.tup [.str (Txt.partition z "/").1, .int i])) := fun i hi => by
      refine ⟨by decide, fun r hr' => k _ r (s1.trans (Same_new hr')) (s1.free hr') ?_⟩
      rw [upd_same, hi]
      rfl
    refine ⟨_, rfl, _, rfl, rfl, _, rfl, ?_⟩
    by_cases e : p = 0
    · rw [if_pos e] at hc
      have ez : z = o := cd_ext hc
      have ep := part_no (x := z) (by rw [ez]; exact hoF.no)
      have c1 : decide (V.str (Txt.partition z "/").2.1 = V.str "") = true := by
        rw [ep]
        exact decide_eq_true rfl
      show if (!decide (V.str (Txt.partition z "/").2.1 = V.str "")) = true then _ else _
      rw [c1]
      refine iteF (fin 0 ?_)
      have q1 : fieldNum z = 0 := by
        unfold fieldNum
        rw [ep]
        rfl
      have q2 := fo.num
      rw [q1] at q2
      exact q2
    · rw [if_neg e, ← cd_dec] at hc
      have ep := part_at hc hoF.no
      have c1 : decide (V.str (Txt.partition z "/").2.1 = V.str "") = false := by
        rw [ep]
        show decide (V.str ("/" : Str) = V.str "") = false
        decide +kernel
      show if (!decide (V.str (Txt.partition z "/").2.1 = V.str "")) = true then _ else _
      rw [c1]
      refine iteT ?_
      have N := num_facts ((parts_ok p hp).resolve_left e).1 ((parts_ok p hp).resolve_left e).2
      have l2 : (dec p).length ≤ 10 := by rw [len_cd, cd_dec]; exact N.len
      refine ⟨_, rfl, (Txt.partition z "/").2.2, (p : Int), rfl, ?_, ?_, fin _ ?_⟩
      · rw [ep]
        exact TL.int_num (Nat.le_trans N.len (by decide))
      · rw [ep]
        exact Nat.le_trans l2 (by decide)
      · rw [← fo.num]
        unfold fieldNum
        rw [ep, cd_dec, N.val]
end
end Jd
namespace Jd
open PySem PySem.Spec PyProof.Rows L2
/-! ### told, the law's own -/
def asgArg : Stmt → Expr
  | .Assign _ (.Call _ [e] _ _) _ => e
  | _ => .Name "" ⟨0, 0, 0, 0⟩
def lcScope : Expr → Scope
  | .ListComp _ _ sc _ => sc
  | _ => { kind := .function, names := [], isGenerator := false, isCoroutine := false }
def lcElt : Expr → Expr
  | .ListComp e _ _ _ => e
  | _ => .Name "" ⟨0, 0, 0, 0⟩
def tupSnd : Expr → Expr
  | .Tuple [_, e] _ _ => e
  | _ => .Name "" ⟨0, 0, 0, 0⟩
abbrev NT : List Str := ["_law_book_here", "_law_flats", "_law_pairs_so", "_law_table", "_law_own", "_law_pair", "_law_turn", "_law_far", "_law_bit"]
abbrev tdSt (i : Nat) : Stmt := (defBody s__law_told).getD i (.Pass ⟨0, 0, 0, 0⟩)
abbrev tdSc1 : Scope := lcScope (asgArg (tdSt 1))
abbrev tdIn1 : Expr := tupSnd (lcElt (asgArg (tdSt 1)))
abbrev tdSc2 : Scope := lcScope (asgArg (tdSt 3))
abbrev tdIn2 : Expr := tupSnd (lcElt (asgArg (tdSt 3)))
def tRow1 (K : PySem.W.Frag) : TE := tLc (iTup K (tVar 2)) (gName 5) (tTest (tOp rEq (tOp (rIxT K) (tVar 5) (tC (.int 0))) (tVar 4))) (tOp (rIxT K) (tVar 5) (tC (.int 1))) [5]
def tRow2 (K : PySem.W.Frag) : TE := tLc (iTup K (tVar 1)) (gName 7) (tTest (tOp (rIn K false) (tVar 7) (tDGet (tVar 3) (tVar 4)))) (tVar 7) [7]
theorem merge_kvT {A : Str → Addr} : ∀ {ns acc : List Str}, (acc ++ ns).Nodup → mergeK (kvT acc A) (kvT ns A) = kvT (acc ++ ns) A
  | [], acc, _ => by
    rw [List.append_nil]
    rfl
  | n :: r, acc, nd => by
    have hn : n ∉ acc := fun h => by
      obtain ⟨_, _, h3⟩ := List.nodup_append.mp nd
      exact h3 n h n List.mem_cons_self rfl
    show mergeK (putK (kvT acc A) (Sum.inr n) (.ref (A n))) (kvT r A) = _
    rw [putK_new hn]
    have e : kvT (acc ++ [n]) (atA A n (A n)) = kvT (acc ++ [n]) A := by
      unfold kvT
      refine List.map_congr_left fun m _ => ?_
      by_cases q : m = n
      · subst q
        rw [atA_at]
      · rw [atA_ne q]
    rw [e, merge_kvT (by rw [List.append_assoc]; exact nd), List.append_assoc]
    rfl
theorem kvT_snoc {A : Str → Addr} {ns : List Str} {n : Str} {p : Addr} (h : n ∉ ns) : kvT (ns ++ [n]) (atA A n p) = kvT ns A ++ [(Sum.inr n, V.ref p)] := by
  unfold kvT
  rw [List.map_append]
  congr 1
  · refine List.map_congr_left fun m hm => ?_
    rw [atA_ne (fun (q : m = n) => h (q ▸ hm))]
  · show [((Sum.inr n : Key), V.ref (atA A n p n))] = [((Sum.inr n : Key), V.ref p)]
    rw [atA_at]
theorem pr_imp {α β : Type} {F G : α → β → Prop} (h : ∀ a b, F a b → G a b) : ∀ {xs : List α} {ys : List β}, Paired F xs ys → Paired G xs ys
  | _, _, .nil => .nil
  | _, _, .cons q r => .cons (h _ _ q) (pr_imp h r)
/-- what told asks of names and pairs -/
structure Tbl (ns : List Str) (R : List (Str × Str)) : Prop where
  nd : ns.Nodup
  l5 : ns.length ≤ 5
  noh : ("#" : Str) ∉ ns
  dup : ∀ a b, (tab0 R a).count b ≤ 2
  r1 : ∀ p ∈ R, p.1 ∈ ns
  r2 : ∀ p ∈ R, p.2 ∈ ns
  rk : ∃ rk : Str → Nat, (∀ p ∈ R, rk p.1 < rk p.2) ∧ ∀ p ∈ R, rk p.2 ≤ ns.length
  rl : R.length ≤ 31
def spToldL : Sp := fun vs H Q _ => ∃ (b f g : Addr) (ns : List Str) (qs : List Addr) (R : List (Str × Str)), vs = [.ref b] ∧ H b = some (.tup [.ref f, .ref g]) ∧ H f = some (.tup (ns.map V.str)) ∧ H g = some (.tup (qs.map V.ref)) ∧ PrAt H qs R ∧ Tbl ns R ∧
  ∀ H' d A, Same H H' → TabA H' d (ns ++ [("#" : Str)]) A (toldAt ns (toldOf R ns)) → Q (.ref d) H'
theorem fine_lists {ns : List Str} (l : List Str) {o : Str} {T : Str → List Str} (f : Fine ns T) : Fine ns (l.foldl (farT o) T) := by
  induction l generalizing T with
  | nil => exact f
  | cons x l ih => exact ih (fine_far f)
theorem fine_own {ns : List Str} {o : Str} {T : Str → List Str} (f : Fine ns T) : Fine ns (ownT T o) := fine_lists _ f
theorem fine_owns {ns : List Str} (l : List Str) {T : Str → List Str} (f : Fine ns T) : Fine ns (l.foldl ownT T) := by
  induction l generalizing T with
  | nil => exact f
  | cons x l ih => exact ih (fine_own f)
theorem fine_law {R : List (Str × Str)} {ns : List Str} (f : Fine ns (tab0 R)) : ∀ k, Fine ns (lawT R ns k)
  | 0 => f
  | k + 1 => by
    unfold lawT
    rw [List.range_succ, List.foldl_append]
    exact fine_owns ns (fine_law f k)
theorem lawT_next {R : List (Str × Str)} {ns : List Str} {k : Nat} : lawT R ns (k + 1) = roundT ns (lawT R ns k) := by
  unfold lawT
  rw [List.range_succ, List.foldl_append]
  rfl
theorem fold_next {α β : Type} {f : β → α → β} {b : β} {l : List α} {i : Nat} {x : α} (h : l[i]? = some x) : (l.take (i + 1)).foldl f b = f ((l.take i).foldl f b) x := by
  rw [List.take_add_one, h, List.foldl_append]
  rfl
section
variable {P : Program} {w : World} {K : PySem.W.Frag} {mg : Str → Option Value} {base : Heap}
theorem sc_tdl : FnScope NT ["_law_book_here"] (defScope s__law_told) := ⟨rfl, rfl, rfl, by decide +kernel, rfl, by decide +kernel, by decide +kernel⟩
theorem ok_toldL (B : Bk K mg) : Df P w K mg base CX0 1 "_law_told" ["_law_book_here"] spToldL := by
  obtain ⟨fd, F⟩ := B.F_law_told
  refine ⟨⟨fd, ?_, F.binds fun _ _ _ _ _ _ us hl => match us, hl with | [_], _ => rfl⟩, B.g_law_told, F.kp⟩
  refine F.ok sc_tdl (fun vs H Q E h => ?_) (fun cdv A0 outer s H vs Q E hr h => ?_)
  · obtain ⟨_, _, _, _, _, _, rfl, _⟩ := h
    rfl
  · obtain ⟨b, f, g, ns, qs, R, rfl, hb, hf, hg, hp, bk, k⟩ := h
    have hu := hu_of hr
    have inner1 := fun (s' : Shared) (H' : Hp) (C : Addr) (cl : List (Str × Addr)) (fp : List Addr) => (show PE ((cxOf CX0 P w K mg base NT "_law_told" (defScope s__law_told) (He.ga K "_law_told") cdv A0 outer s H E).nox.blk s' H' tdSc1 (compEnvC tdSc1 cl C (cxOf CX0 P w K mg base NT "_law_told" (defScope s__law_told) (He.ga K "_law_told") cdv A0 outer s H E).nox.env) fp) tdIn1 (tRow1 K) from
      pe_lc (own := [("_law_pair", 5)]) (g := gName 5) (tt := tTest (tOp rEq (tOp (rIxT K) (tVar 5) (tC (.int 0))) (tVar 4))) rfl sc_tdl.nd (pi_tup (pv 2)) (blkOk_by (N := NT) (sc := relS tdSc1 (defScope s__law_told)) (scope := lcScope tdIn1) (own := [("_law_pair", 5)]) (by decide +kernel)) (fun _ _ _ _ _ => pg_name (i := 5) sc_tdl.nd rfl (Or.inl rfl))
        (fun _ _ _ _ _ => pts_one (pt_cmpR op_eq (pe_ix ix_tup (pv 5) pe_int (fun _ _ => rfl)) (pv 4) (nomark _))) (fun _ _ _ _ _ => pe_ix ix_tup (pv 5) pe_int (fun _ _ => rfl)))
    have inner2 := fun (s' : Shared) (H' : Hp) (C : Addr) (cl : List (Str × Addr)) (fp : List Addr) => (show PE ((cxOf CX0 P w K mg base NT "_law_told" (defScope s__law_told) (He.ga K "_law_told") cdv A0 outer s H E).nox.blk s' H' tdSc2 (compEnvC tdSc2 cl C (cxOf CX0 P w K mg base NT "_law_told" (defScope s__law_told) (He.ga K "_law_told") cdv A0 outer s H E).nox.env) fp) tdIn2 (tRow2 K) from
      pe_lc (own := [("_law_far", 7)]) (g := gName 7) (tt := tTest (tOp (rIn K false) (tVar 7) (tDGet (tVar 3) (tVar 4)))) rfl sc_tdl.nd (pi_tup (pv 1)) (blkOk_by (N := NT) (sc := relS tdSc2 (defScope s__law_told)) (scope := lcScope tdIn2) (own := [("_law_far", 7)]) (by decide +kernel)) (fun _ _ _ _ _ => pg_name (i := 7) sc_tdl.nd rfl (Or.inl rfl))
        (fun _ _ _ _ _ => pts_one (pt_cmpR op_in_seq (pv 7) (pe_dget hu (pv 3) (pv 4) (fun _ _ => rfl)) (by rfl))) (fun _ _ _ _ _ => pv 7))
    refine ⟨_, pss_cons (ps_asg (pv 0) (pg_tup rfl (pgs_cons (pg_name (i := 1) sc_tdl.nd rfl (Or.inr rfl)) (pgs_cons (pg_name (i := 2) sc_tdl.nd rfl (Or.inr rfl)) pgs_nil))))
      (pss_cons (ps_set (i := 3) sc_tdl.nd rfl (Or.inr rfl) (pe_callTy (call_dictP rfl) (by rfl) B.b_dict (by decide +kernel) (pa_cons (pe_lc (own := [("_law_own", 4)]) (g := gName 4) (tt := tYes) rfl sc_tdl.nd (pi_tup (pv 1)) (blkOk_by (N := NT) (sc := defScope s__law_told) (by decide +kernel))
          (fun _ _ _ _ _ => pg_name (i := 4) sc_tdl.nd rfl (Or.inr rfl)) (fun _ _ _ _ _ => pts_nil) (fun s' H' C cl fp => pe_tup (pa_cons (pv 4) (pa_cons (inner1 s' H' C cl fp) pa_nil)))) pa_nil)))
      (pss_cons (ps_for PassesOwn.never rfl (pi_range1 rfl B.b_range (pa_cons (pe_callB call_len (by rfl) B.b_len (by decide +kernel) (pa_cons (pv 1) pa_nil)) pa_nil)) (pg_name (i := 6) sc_tdl.nd rfl (Or.inl rfl))
        (pss_one (ps_for PassesOwn.never rfl (pi_tup (pv 1)) (pg_name (i := 4) sc_tdl.nd rfl (Or.inr rfl))
          (pss_one (ps_for PassesOwn.never rfl (pi_list (pe_callTy call_list_of (by rfl) B.b_list (by decide +kernel) (pa_cons (pe_dget hu (pv 3) (pv 4) (fun _ _ => rfl)) pa_nil))) (pg_name (i := 7) sc_tdl.nd rfl (Or.inl rfl))
            (pss_one (ps_dput hu (pv 3) (pv 4) (pe_op op_cat (pe_dget hu (pv 3) (pv 4) (fun _ _ => rfl))
              (pe_lc (own := [("_law_bit", 8)]) (g := gName 8) (tt := tTest (tOp (rIn K true) (tVar 8) (tDGet (tVar 3) (tVar 4)))) rfl sc_tdl.nd (pi_list (pe_dget hu (pv 3) (pv 7) (fun _ _ => rfl))) (blkOk_by (N := NT) (sc := defScope s__law_told) (by decide +kernel))
                (fun _ _ _ _ _ => pg_name (i := 8) sc_tdl.nd rfl (Or.inl rfl)) (fun _ _ _ _ _ => pts_one (pt_cmpR op_notIn_seq (pv 8) (pe_dget hu (pv 3) (pv 4) (fun _ _ => rfl)) (by rfl))) (fun _ _ _ _ _ => pv 8))) rfl)))))))
      (pss_cons (ps_set (i := 3) sc_tdl.nd rfl (Or.inr rfl) (pe_callTy (call_dictP rfl) (by rfl) B.b_dict (by decide +kernel) (pa_cons (pe_lc (own := [("_law_own", 4)]) (g := gName 4) (tt := tYes) rfl sc_tdl.nd (pi_tup (pv 1)) (blkOk_by (N := NT) (sc := defScope s__law_told) (by decide +kernel))
          (fun _ _ _ _ _ => pg_name (i := 4) sc_tdl.nd rfl (Or.inr rfl)) (fun _ _ _ _ _ => pts_nil) (fun s' H' C cl fp => pe_tup (pa_cons (pv 4) (pa_cons (inner2 s' H' C cl fp) pa_nil)))) pa_nil)))
      (pss_cons (ps_dput hu (pv 3) pe_str (pe_callTy call_list_of (by rfl) B.b_list (by decide +kernel) (pa_cons (pv 1) pa_nil)) rfl)
      (pss_one (ps_ret (pv 3))))))), ?_⟩
    have l5 := bk.l5
    have nd := bk.nd
    refine ⟨_, rfl, _, _, rfl, SqT.of hb, rfl, _, _, rfl, _, _, rfl, rfl, ?_⟩
    -- the rows of a dict made of pairs
    refine ⟨_, rfl, f, rfl, ⟨_, SqT.of hf⟩, fun D hD => ?_⟩
    refine lc_it (walk_tup (xs := ns.map V.str)) (fun i H' => Same H H' ∧ ∃ (ps : List Addr) (A : Str → Addr), H' D = some (.lst (ps.map V.ref)) ∧ ps.length = i ∧ Paired (fun p (kv : Key × V) => H' p = some (.tup [kV kv.1, kv.2])) ps (kvT (ns.take i) A) ∧ ∀ n ∈ ns.take i, H' (A n) = some (.lst ((tab0 R n).map V.str)))
      ⟨Same_new hD, [], fun _ => 0, upd_same, rfl, .nil, fun n h => by cases h⟩ (fun i H' _ ⟨s', _⟩ => sm_seqT s' (SqT.of hf)) (fun i x H1 H2 hi ⟨s1, ps, A, hD1, pl1, pp1, hA1⟩ y => ?_) (fun H1 ⟨s1, ps, A, hD1, pl1, pp1, hA1⟩ => ?_)
    · obtain ⟨rfl, hx⟩ := y
      obtain ⟨n, hn, rfl⟩ := at_str hx
      have hi' : i < ns.length := (List.getElem?_eq_some_iff.mp hn).1
      refine ⟨rfl, iteT (B := ∃ z : Nat, z = 0) ?_⟩
      refine ⟨_, rfl, _, rfl, g, rfl, ⟨_, SqT.of (s1 _ _ hg)⟩, fun D2 hD2 => ?_⟩
      have hql : (qs.map V.ref).length = R.length := by rw [List.length_map, hp.1]
      refine lc_fm (walk_tup (xs := qs.map V.ref)) (fun j => (R[j]?).bind fun pr => if pr.1 = n then some (V.str pr.2) else Option.none) hD2 (by rw [hql]; exact Nat.le_trans bk.rl (by decide)) (fun H' s' => sm_seqT (s1.trans s') (SqT.of hg)) (fun j v H3 H4 Kt Kf hj s3 y kt kf => ?_) (fun H3 s3 hD3 => ?_)
      · obtain ⟨rfl, hv⟩ := y
        obtain ⟨q, hq, rfl⟩ := at_ref hv
        obtain ⟨pr, hpr, hqo⟩ := hp.2 j q hq
        have hq4 := s3 _ _ (s1 _ _ hqo)
        refine ⟨rfl, _, rfl, q, _, _, _, rfl, rfl, SqT.of hq4, rfl, _, rfl, rfl, _, rfl, two (fun h1 => ?_) (fun h1 => ?_)⟩
        · have e1 : pr.1 = n := V.str.inj (of_decide_eq_true h1)
          exact ⟨_, rfl, q, _, _, _, rfl, rfl, SqT.of hq4, rfl, kt _ _ (by rw [hpr]; show (if pr.1 = n then _ else _) = _; rw [if_pos e1]) (Same.refl _)⟩
        · have e1 : ¬ pr.1 = n := fun q => of_decide_eq_false h1 (by rw [q])
          exact kf _ (by rw [hpr]; show (if pr.1 = n then _ else _) = _; rw [if_neg e1]) (Same.refl _)
      · have eD : (List.range (qs.map V.ref).length).filterMap (fun j => (R[j]?).bind fun pr => if pr.1 = n then some (V.str pr.2) else Option.none) = (tab0 R n).map V.str := by
          rw [hql, fm_bind, fm_tab0]
        rw [eD] at hD3
        refine ⟨(by show 2 ≤ sizeLine; decide), fun p hpn => ?_⟩
        have s4 := Same_new (o := HO.tup [V.str n, V.ref D2]) hpn
        have hDp := s4 _ _ (s3 _ _ hD1)
        have npD : p ≠ D := fun z => by rw [z, s3 _ _ hD1] at hpn; cases hpn
        have n2D : D2 ≠ D := fun z => by rw [z, hD1] at hD2; cases hD2
        refine ⟨_, hDp, by rw [List.length_map, pl1]; exact Nat.lt_of_lt_of_le hi' (Nat.le_trans l5 (by decide)), fun b' o q => ?_, ps ++ [p], atA A n D2, by rw [upd_same, List.map_append]; rfl, by rw [List.length_append, pl1]; rfl, ?_, fun m hm => ?_⟩
        · rw [upd_ne (ne_of_none q hD)]
          exact s4 _ _ (s3 _ _ (s1 _ _ q))
        · rw [take_next hn, kvT_snoc (nd_take nd hn)]
          refine Paired.snoc (pr_imp (fun a kv h => ?_) pp1) ?_
          · have h4 := s4 _ _ (s3 _ _ h)
            rw [upd_ne (ne_of h4 hDp (by intro z; cases z))]
            exact h4
          · rw [upd_ne npD, upd_same]
            rfl
        · rw [take_next hn] at hm
          by_cases e : m = n
          · subst e
            rw [atA_at, upd_ne n2D]
            exact s4 _ _ hD3
          · have hm' := (List.mem_append.mp hm).resolve_right fun q => e (List.mem_singleton.mp q)
            have h4 := s4 _ _ (s3 _ _ (hA1 m hm'))
            have nAD : A m ≠ D := fun z => by
              have q := hA1 m hm'
              rw [z, hD1] at q
              have q2 := Option.some.inj q
              injection q2 with q2
              cases ps with
              | nil =>
                have : ns.take i = [] := List.eq_nil_of_length_eq_zero (by rw [List.length_take]; simp at pl1; omega)
                rw [this] at hm'
                cases hm'
              | cons p0 ps =>
                cases hT : tab0 R m with
                | nil => rw [hT] at q2; cases q2
                | cons z1 zs => rw [hT] at q2; cases q2
            rw [atA_ne e, upd_ne nAD]
            exact h4
    · rw [List.length_map, List.take_length] at pp1 hA1
      refine ⟨D, ps, kvT ns A, rfl, SqL.of hD1, pr_imp (fun a kv h => SqT.of h) pp1, fun d hd => ?_⟩
      have hdH : H d = none := s1.free hd
      have em : mergeK [] (kvT ns A) = kvT ns A := merge_kvT (acc := []) nd
      rw [em]
      have sd := Same_new (o := HO.dK (kvT ns A)) hd
      have ta0 : TabA (upd H1 d (.dK (kvT ns A))) d ns A (tab0 R) := ⟨upd_same, fun n hn => sd _ _ (hA1 n hn)⟩
      have s2 : Same H (upd H1 d (.dK (kvT ns A))) := Same_lay s1 hd
      generalize (upd H1 d (.dK (kvT ns A))) = H2 at ta0 s2
      clear hD1 pp1 hA1 sd em hD s1
      have fine0 : Fine ns (tab0 R) := fine_tab0 bk.dup bk.r2
      refine ⟨_, rfl, _, (ns.map V.str).length, rfl, .inr ⟨_, SqT.of (s2 _ _ hf), rfl⟩, ((ns.map V.str).length : Int), rfl, by rw [List.length_map]; omega, by rw [List.length_map]; omega, ?_⟩
      rw [show (((ns.map V.str).length : Int)).toNat = ns.length by rw [List.length_map]; omega]
      refine for_it walk_range (fun i σ H' => ∃ (v4 v5 v6 v7 v8 : Option V) (A : Str → Addr), σ = [some (.ref b), some (.ref f), some (.ref g), some (.ref d), v4, v5, v6, v7, v8] ∧ Same H H' ∧ TabA H' d ns A (lawT R ns i))
        ⟨_, _, _, _, _, A, rfl, s2, ta0⟩ (fun _ _ _ _ _ => trivial) (fun i x σ H3 H4 hi ⟨v4, v5, v6, v7, v8, A3, e, s3, ta3⟩ y => ?_) (fun σ H3 ⟨v4, v5, v6, v7, v8, A3, e, s3, ta3⟩ => ?_)
      · obtain ⟨rfl, rfl⟩ := y
        subst e
        have fi := fine_law fine0 i
        refine ⟨_, rfl, f, rfl, ⟨_, SqT.of (s3 _ _ hf)⟩, ?_⟩
        refine for_it (walk_tup (xs := ns.map V.str)) (fun j σ H' => ∃ (v4 v5 v7 v8 : Option V) (A : Str → Addr), σ = [some (.ref b), some (.ref f), some (.ref g), some (.ref d), v4, v5, some (.int (0 + (i : Int))), v7, v8] ∧ Same H H' ∧ TabA H' d ns A ((ns.take j).foldl ownT (lawT R ns i)))
          ⟨_, _, _, _, A3, rfl, s3, ta3⟩ (fun i σ H' _ ⟨_, _, _, _, _, _, s', _⟩ => sm_seqT s' (SqT.of hf)) (fun j x σ H5 H6 hj ⟨w4, w5, w7, w8, A5, e, s5, ta5⟩ y => ?_) (fun σ H5 ⟨w4, w5, w7, w8, A5, e, s5, ta5⟩ => ?_)
        · obtain ⟨rfl, hx⟩ := y
          subst e
          obtain ⟨n, hn, rfl⟩ := at_str hx
          have hni : n ∈ ns := List.mem_of_getElem? hn
          have fj := fine_owns (ns.take j) fi
          rw [fold_next hn (f := ownT)] 
          generalize (ns.take j).foldl ownT (lawT R ns i) = T at ta5 fj
          have hAn := ta5.lst n hni
          refine ⟨_, rfl, _, rfl, d, _, rfl, ta5.get hni, _, _, rfl, .inl (SqL.of hAn), fun L hL => ?_⟩
          have sL := Same_new (o := HO.lst ((T n).map V.str)) hL
          refine ⟨L, rfl, ⟨_, SqL.of upd_same⟩, ?_⟩
          refine for_it (walk_list (xs := (T n).map V.str)) (fun q σ H' => ∃ (v5 v7 v8 : Option V) (A : Str → Addr), σ = [some (.ref b), some (.ref f), some (.ref g), some (.ref d), some (.str n), v5, some (.int (0 + (i : Int))), v7, v8] ∧ Same H H' ∧ H' L = some (.lst ((T n).map V.str)) ∧ TabA H' d ns A (((T n).take q).foldl (farT n) T))
            ⟨_, _, _, A5, rfl, Same_lay s5 hL, upd_same, ta5.same sL⟩ (fun q σ H' _ ⟨_, _, _, _, _, _, e, _⟩ => SqL.of e) (fun q x σ H7 H8 hq ⟨u5, u7, u8, A7, e, s7, hL7, ta7⟩ y => ?_) (fun σ H7 ⟨u5, u7, u8, A7, e, s7, hL7, ta7⟩ => ?_)
          · obtain ⟨rfl, hx⟩ := y
            subst e
            obtain ⟨z, hz, rfl⟩ := at_str hx
            have hzi : z ∈ ns := (fj n).2 z (List.mem_of_getElem? hz)
            have fq := fine_lists ((T n).take q) (o := n) fj
            rw [fold_next hz (f := farT n)]
            generalize ((T n).take q).foldl (farT n) T = T7 at ta7 fq
            have hAn7 := ta7.lst n hni
            have hAz7 := ta7.lst z hzi
            have lT : ∀ a, (T7 a).length ≤ 10 := fun a => Nat.le_trans (fine_len fq a) (by omega)
            refine ⟨_, rfl, _, rfl, d, _, rfl, ta7.get hni, _, rfl, _, rfl, d, _, rfl, ta7.get hzi, _, rfl, ⟨_, SqL.of hAz7⟩, fun D9 hD9 => ?_⟩
            refine lc_fm (walk_list (xs := (T7 z).map V.str)) (fun j => ((T7 z)[j]?).bind fun o => if decide (o ∉ T7 n) = true then some (V.str o) else Option.none) hD9 (by rw [List.length_map]; exact Nat.le_trans (lT z) (by decide)) (fun H' s' => sm_seqL s' (SqL.of hAz7)) (fun j v H9 HA Kt Kf hj s9 y kt kf => ?_) (fun H9 s9 hD10 => ?_)
            · obtain ⟨rfl, hv⟩ := y
              obtain ⟨o, ho, rfl⟩ := at_str hv
              refine ⟨rfl, _, rfl, _, rfl, _, rfl, d, _, rfl, (ta7.same s9).get hni, _, _, rfl, .inl (SqL.of (s9 _ _ hAn7)), rfl, fl_str, _, rfl, two (fun h2 => ?_) (fun h2 => ?_)⟩
              · have h2' : (!inV (.str o) ((T7 n).map V.str)) = true := h2
                rw [inV_str] at h2'
                have e1 : decide (o ∉ T7 n) = true := by
                  rw [decide_not]
                  exact h2'
                exact ⟨_, rfl, kt _ _ (by rw [ho]; show (if decide (o ∉ T7 n) = true then _ else _) = _; rw [if_pos e1]) (Same.refl _)⟩
              · have h2' : (!inV (.str o) ((T7 n).map V.str)) = false := h2
                rw [inV_str] at h2'
                have e1 : decide (o ∉ T7 n) = false := by
                  rw [decide_not]
                  exact h2'
                exact kf _ (by rw [ho]; show (if decide (o ∉ T7 n) = true then _ else _) = _; rw [e1, if_neg Bool.false_ne_true]) (Same.refl _)
            · have eD : (List.range ((T7 z).map V.str).length).filterMap (fun j => ((T7 z)[j]?).bind fun o => if decide (o ∉ T7 n) = true then some (V.str o) else Option.none) = ((T7 z).filter fun o => decide (o ∉ T7 n)).map V.str := by
                rw [List.length_map, fm_bind, fm_filter]
              rw [eD] at hD10
              have lF : ((T7 z).filter fun o => decide (o ∉ T7 n)).length ≤ 10 := Nat.le_trans (List.length_filter_le _ _) (lT z)
              refine ⟨_, _, _, _, rfl, rfl, s9 _ _ hAn7, hD10, ?_, fun p hp' => ?_⟩
              · rw [List.length_map, List.length_map]
                have := lT n
                have : (1000 : Nat) ≤ sizeLine := by decide
                omega
              · have sP := Same_new (o := HO.lst ((T7 n).map V.str ++ ((T7 z).filter fun o => decide (o ∉ T7 n)).map V.str)) hp'
                have ta9 := (ta7.same s9).same sP
                have hP : (upd H9 p (.lst ((T7 n).map V.str ++ ((T7 z).filter fun o => decide (o ∉ T7 n)).map V.str))) p = some (.lst ((T7 n ++ (T7 z).filter fun o => decide (o ∉ T7 n)).map V.str)) := by
                  rw [upd_same, List.map_append]
                refine ⟨_, rfl, _, rfl, d, _, rfl, DPut.k (k := Sum.inr n) ta9.at_ (by rw [kvT_len]; exact Nat.lt_of_le_of_lt l5 (by decide)), ?_⟩
                have q' := ta9.put_old hni hP
                refine ⟨_, _, _, _, rfl, fun b' o q2 => ?_, ?_, q'⟩
                · rw [upd_ne (ne_of_none q2 hdH)]
                  exact sP _ _ (s9 _ _ (s7 _ _ q2))
                · have hL9 := sP _ _ (s9 _ _ hL7)
                  rw [upd_ne (ne_of hL9 ta9.at_ (by intro z; cases z))]
                  exact hL9
          · subst e
            rw [List.length_map, List.take_length] at ta7
            exact ⟨_, _, _, _, A7, rfl, s7, ta7⟩
        · subst e
          rw [List.length_map, List.take_length] at ta5
          exact ⟨_, _, _, _, _, A5, rfl, s5, by rw [lawT_next]; exact ta5⟩
      · subst e
        -- the last table
        refine ⟨_, rfl, f, rfl, ⟨_, SqT.of (s3 _ _ hf)⟩, fun D hD => ?_⟩
        have hDH : H D = none := s3.free hD
        have fl := fine_law fine0 ns.length
        refine lc_it (walk_tup (xs := ns.map V.str)) (fun i H' => Same H3 H' ∧ ∃ (ps : List Addr) (A : Str → Addr), H' D = some (.lst (ps.map V.ref)) ∧ ps.length = i ∧ Paired (fun p (kv : Key × V) => H' p = some (.tup [kV kv.1, kv.2])) ps (kvT (ns.take i) A) ∧ ∀ n ∈ ns.take i, A n ≠ D ∧ H' (A n) = some (.lst ((lawTold R ns n).map V.str)))
          ⟨Same_new hD, [], fun _ => 0, upd_same, rfl, .nil, fun n h => by cases h⟩ (fun i H' _ ⟨s', _⟩ => sm_seqT (s3.trans s') (SqT.of hf)) (fun i x H4 H5 hi ⟨s4, ps, A4, hD4, pl4, pp4, hA4⟩ y => ?_) (fun H4 ⟨s4, ps, A4, hD4, pl4, pp4, hA4⟩ => ?_)
        · obtain ⟨rfl, hx⟩ := y
          obtain ⟨n, hn, rfl⟩ := at_str hx
          have hni : n ∈ ns := List.mem_of_getElem? hn
          have hi' : i < ns.length := (List.getElem?_eq_some_iff.mp hn).1
          refine ⟨rfl, iteT (B := ∃ z : Nat, z = 0) ?_⟩
          refine ⟨_, rfl, _, rfl, f, rfl, ⟨_, SqT.of (s4 _ _ (s3 _ _ hf))⟩, fun D2 hD2 => ?_⟩
          have ta5 := ta3.same s4
          have hAn := ta5.lst n hni
          refine lc_fm (walk_tup (xs := ns.map V.str)) (fun j => (ns[j]?).bind fun o => if decide (o ∈ lawT R ns ns.length n) = true then some (V.str o) else Option.none) hD2 (by rw [List.length_map]; exact Nat.le_trans l5 (by decide)) (fun H' s' => sm_seqT ((s3.trans s4).trans s') (SqT.of hf)) (fun j v H6 H7 Kt Kf hj s6 y kt kf => ?_) (fun H6 s6 hD6 => ?_)
          · obtain ⟨rfl, hv⟩ := y
            obtain ⟨o, ho, rfl⟩ := at_str hv
            refine ⟨rfl, _, rfl, _, rfl, _, rfl, d, _, rfl, (ta5.same s6).get hni, _, _, rfl, .inl (SqL.of (s6 _ _ hAn)), rfl, fl_str, _, rfl, two (fun h2 => ?_) (fun h2 => ?_)⟩
            · have h2' : inV (.str o) ((lawT R ns ns.length n).map V.str) = true := h2
              rw [inV_str] at h2'
              exact ⟨_, rfl, kt _ _ (by rw [ho]; show (if decide (o ∈ lawT R ns ns.length n) = true then _ else _) = _; rw [if_pos h2']) (Same.refl _)⟩
            · have h2' : inV (.str o) ((lawT R ns ns.length n).map V.str) = false := h2
              rw [inV_str] at h2'
              exact kf _ (by rw [ho]; show (if decide (o ∈ lawT R ns ns.length n) = true then _ else _) = _; rw [h2', if_neg Bool.false_ne_true]) (Same.refl _)
          · have eD : (List.range (ns.map V.str).length).filterMap (fun j => (ns[j]?).bind fun o => if decide (o ∈ lawT R ns ns.length n) = true then some (V.str o) else Option.none) = (lawTold R ns n).map V.str := by
              rw [List.length_map, fm_bind, fm_filter]
              rfl
            rw [eD] at hD6
            refine ⟨(by show 2 ≤ sizeLine; decide), fun p hpn => ?_⟩
            have sp := Same_new (o := HO.tup [V.str n, V.ref D2]) hpn
            have hDp := sp _ _ (s6 _ _ hD4)
            have npD : p ≠ D := fun z => by rw [z, s6 _ _ hD4] at hpn; cases hpn
            have n2D : D2 ≠ D := fun z => by rw [z, hD4] at hD2; cases hD2
            refine ⟨_, hDp, by rw [List.length_map, pl4]; exact Nat.lt_of_lt_of_le hi' (Nat.le_trans l5 (by decide)), fun b' o q => ?_, ps ++ [p], atA A4 n D2, by rw [upd_same, List.map_append]; rfl, by rw [List.length_append, pl4]; rfl, ?_, fun m hm => ?_⟩
            · rw [upd_ne (ne_of_none q hD)]
              exact sp _ _ (s6 _ _ (s4 _ _ q))
            · rw [take_next hn, kvT_snoc (nd_take nd hn)]
              refine Paired.snoc (pr_imp (fun a kv h => ?_) pp4) ?_
              · have h4 := sp _ _ (s6 _ _ h)
                rw [upd_ne (ne_of h4 hDp (by intro z; cases z))]
                exact h4
              · rw [upd_ne npD, upd_same]
                rfl
            · rw [take_next hn] at hm
              by_cases e : m = n
              · subst e
                rw [atA_at]
                exact ⟨n2D, by rw [upd_ne n2D]; exact sp _ _ hD6⟩
              · have hm' := (List.mem_append.mp hm).resolve_right fun q => e (List.mem_singleton.mp q)
                obtain ⟨nA, hA⟩ := hA4 m hm'
                rw [atA_ne e]
                exact ⟨nA, by rw [upd_ne nA]; exact sp _ _ (s6 _ _ hA)⟩
        · rw [List.length_map, List.take_length] at pp4 hA4
          refine ⟨D, ps, kvT ns A4, rfl, SqL.of hD4, pr_imp (fun a kv h => SqT.of h) pp4, fun d2 hd2 => ?_⟩
          have em : mergeK [] (kvT ns A4) = kvT ns A4 := merge_kvT (acc := []) nd
          rw [em]
          have sd := Same_new (o := HO.dK (kvT ns A4)) hd2
          have ta4 : TabA (upd H4 d2 (.dK (kvT ns A4))) d2 ns A4 (lawTold R ns) := ⟨upd_same, fun n hn => sd _ _ (hA4 n hn).2⟩
          have s5 : Same H (upd H4 d2 (.dK (kvT ns A4))) := Same_lay (s3.trans s4) hd2
          have hd2H : H d2 = none := (s3.trans s4).free hd2
          generalize (upd H4 d2 (.dK (kvT ns A4))) = H5 at ta4 s5
          refine ⟨_, rfl, f, _, rfl, .inr (SqT.of (s5 _ _ hf)), fun l hl => ?_⟩
          have sl := Same_new (o := HO.lst (ns.map V.str)) hl
          have ta6 := ta4.same sl
          refine ⟨_, rfl, d2, _, rfl, DPut.k (k := Sum.inr "#") ta6.at_ (by rw [kvT_len]; exact Nat.lt_of_le_of_lt l5 (by decide)), ?_⟩
          have n0 := bk.noh
          have rk := bk.rk
          obtain ⟨rk, hr1, hr2⟩ := rk
          have ta7 : TabA (upd H5 l (.lst (ns.map V.str))) d2 ns A4 (toldAt ns (toldOf R ns)) := ta6.congr fun n hn => by
            have e : n ≠ "#" := fun z => n0 (z ▸ hn)
            unfold toldAt
            rw [if_neg e]
            exact law_told bk.r1 bk.r2 hr1 hr2 n
          have q := ta7.put_new n0 (D := l) (by unfold toldAt; rw [if_pos rfl]; exact upd_same)
          refine ⟨_, rfl, k _ d2 _ (fun b' o q2 => ?_) q⟩
          rw [upd_ne (ne_of_none q2 hd2H)]
          exact sl _ _ (s5 _ _ q2)
end
end Jd
namespace Jd
open PySem PySem.Spec PyProof.Rows L2
/-! ### _law_mods -/
/-- a book: names and pairs -/
def BkAt (H : Hp) (b : Addr) (ns : List Str) (R : List (Str × Str)) : Prop := ∃ f g qs, H b = some (.tup [.ref f, .ref g]) ∧ H f = some (.tup (ns.map V.str)) ∧ H g = some (.tup (qs.map V.ref)) ∧ PrAt H qs R
theorem BkAt.same {H H' : Hp} {b : Addr} {ns : List Str} {R : List (Str × Str)} (h : BkAt H b ns R) (s : Same H H') : BkAt H' b ns R := by
  obtain ⟨f, g, qs, h1, h2, h3, h4⟩ := h
  exact ⟨f, g, qs, s _ _ h1, s _ _ h2, s _ _ h3, h4.same s⟩
theorem merge_kvG {f : Str → V} : ∀ {ns acc : List Str}, (acc ++ ns).Nodup → mergeK (kvG acc f) (kvG ns f) = kvG (acc ++ ns) f
  | [], acc, _ => by
    rw [List.append_nil]
    rfl
  | n :: r, acc, nd => by
    have hn : n ∉ acc := fun h => by
      obtain ⟨_, _, h3⟩ := List.nodup_append.mp nd
      exact h3 n h n List.mem_cons_self rfl
    show mergeK (putK (kvG acc f) (Sum.inr n) (f n)) (kvG r f) = _
    rw [putG_new hn, merge_kvG (by rw [List.append_assoc]; exact nd), List.append_assoc]
    rfl
/-- one name's turn of the law's closing -/
def clStep (ns : List Str) (t : Str → List Str) (M : Str → Nat) (own : Str) : Str → Nat := fun x => if M own = 0 ∧ x ∈ toldAt ns t own then 0 else M x
def clAll (ns : List Str) (t : Str → List Str) (l : List Str) (M : Str → Nat) : Str → Nat := l.foldl (clStep ns t) M
theorem cl_zero {ns : List Str} {t : Str → List Str} {x : Str} : ∀ {l : List Str} {M : Str → Nat}, M x = 0 → clAll ns t l M x = 0
  | [], _, h => h
  | w :: l, M, h => cl_zero (l := l) (by
    unfold clStep
    split
    · rfl
    · exact h)
theorem cl_out {ns : List Str} {t : Str → List Str} {M0 : Str → Nat} (tr : ∀ v w x, v ∈ hs ns → w ∈ toldAt ns t v → x ∈ toldAt ns t w → x ∈ toldAt ns t v) : ∀ {l : List Str} {M : Str → Nat}, (∀ w ∈ l, w ∈ hs ns) → (∀ x, M x = M0 x ∨ (M x = 0 ∧ x ∈ wholeOf (hs ns) ns t M0)) → ∀ x, clAll ns t l M x = M0 x ∨ (clAll ns t l M x = 0 ∧ x ∈ wholeOf (hs ns) ns t M0)
  | [], _, _, h => h
  | w :: l, M, hl, h => by
    refine cl_out tr (l := l) (fun x hx => hl x (List.mem_cons_of_mem _ hx)) fun x => ?_
    unfold clStep
    by_cases c : M w = 0 ∧ x ∈ toldAt ns t w
    · rw [if_pos c]
      refine .inr ⟨rfl, ?_⟩
      rcases h w with e | ⟨_, hw⟩
      · refine List.mem_flatMap.mpr ⟨w, hl w List.mem_cons_self, ?_⟩
        rw [if_pos (e ▸ c.1)]
        exact c.2
      · obtain ⟨v, hv, hq⟩ := List.mem_flatMap.mp hw
        refine List.mem_flatMap.mpr ⟨v, hv, ?_⟩
        by_cases z : M0 v = 0
        · rw [if_pos z] at hq ⊢
          exact tr v w x hv hq c.2
        · rw [if_neg z] at hq
          cases hq
    · rw [if_neg c]
      exact h x
theorem cl_in {ns : List Str} {t : Str → List Str} {w x : Str} (hx : x ∈ toldAt ns t w) : ∀ {l : List Str} {M : Str → Nat}, w ∈ l → M w = 0 → clAll ns t l M x = 0
  | v :: l, M, hw, h => by
    rcases List.mem_cons.mp hw with rfl | hw
    · refine cl_zero (l := l) ?_
      unfold clStep
      rw [if_pos ⟨h, hx⟩]
    · refine cl_in hx (l := l) hw ?_
      unfold clStep
      split
      · rfl
      · exact h
theorem cl_close {ns : List Str} {t : Str → List Str} {M : Str → Nat} (tr : ∀ v w x, v ∈ hs ns → w ∈ toldAt ns t v → x ∈ toldAt ns t w → x ∈ toldAt ns t v) (x : Str) : clAll ns t (hs ns) M x = closeM ns t M x := by
  unfold closeM
  by_cases h : x ∈ wholeOf (hs ns) ns t M
  · rw [if_pos h]
    obtain ⟨w, hw, hq⟩ := List.mem_flatMap.mp h
    by_cases z : M w = 0
    · rw [if_pos z] at hq
      exact cl_in hq hw z
    · rw [if_neg z] at hq
      cases hq
  · rw [if_neg h]
    rcases cl_out tr (l := hs ns) (M := M) (fun _ z => z) (fun _ => .inl rfl) x with e | ⟨_, e⟩
    · exact e
    · exact absurd e h
theorem told_tr {ns : List Str} {R : List (Str × Str)} (n0 : ("#" : Str) ∉ ns) : ∀ v w x, v ∈ hs ns → w ∈ toldAt ns (toldOf R ns) v → x ∈ toldAt ns (toldOf R ns) w → x ∈ toldAt ns (toldOf R ns) v := fun v w x hv hw hx => by
  have wns : w ∈ ns := by
    unfold toldAt at hw
    split at hw
    · exact hw
    · exact (told_in.mp hw).1
  have w0 : w ≠ "#" := fun q => n0 (q ▸ wns)
  unfold toldAt at hx hw ⊢
  rw [if_neg w0] at hx
  split
  · exact (told_in.mp hx).1
  · rename_i v0
    rw [if_neg v0] at hw
    exact told_in.mpr ⟨(told_in.mp hx).1, .two (told_in.mp hw).2 wns (told_in.mp hx).2⟩
/-- ('#',) + tuple(book[0]) -/
def tNames (K : PySem.W.Frag) : TE := tOp (rCatA K) (tTup (tCons (tC (.str "#")) tNil)) (tCB (fun xs H Q => ∃ a ys, xs = [V.ref a] ∧ SqT K H a ys ∧ Q (.ref a) H) (tCons (tOp (rIxT K) (tVar 0) (tC (.int 0))) tNil))
theorem rd_names {K : PySem.W.Frag} {σ : L2.St} {H : Hp} {Q : VK} {b : Addr} {ns : List Str} {R : List (Str × Str)} (hσ : σ[0]? = some (some (.ref b))) (hb : BkAt H b ns R) (l5 : ns.length ≤ 5) (k : ∀ H' p, Same H H' → H' p = some (.tup ((hs ns).map V.str)) → Q (.ref p) H') : tNames K σ H Q := by
  obtain ⟨f, g, qs, h1, h2, h3, h4⟩ := hb
  refine ⟨(by show 1 ≤ sizeLine; decide), fun a na => ?_⟩
  have s1 : Same H (upd H a (.tup [.str "#"])) := Same_new na
  refine ⟨_, hσ, b, [.ref f, .ref g], 0, .ref f, rfl, rfl, SqT.of (s1 _ _ h1), rfl, f, _, rfl, SqT.of (s1 _ _ h2), a, f, _, _, rfl, rfl, SqT.of upd_same, SqT.of (s1 _ _ h2), ?_, fun e => absurd e (List.cons_ne_nil _ _), fun _ e => ?_, fun _ _ p np => k _ p (Same_lay s1 np) upd_same⟩
  · rw [List.length_map]
    have : (1000 : Nat) ≤ sizeLine := by decide
    show 1 + ns.length ≤ _
    omega
  · have e0 : ns = [] := List.map_eq_nil_iff.mp e
    subst e0
    exact k _ a s1 upd_same
def spMods (K : PySem.W.Frag) : Sp := fun vs H Q _ => ∃ (b z : Addr) (ns zs : List Str) (R : List (Str × Str)), vs = [.ref b, .ref z] ∧ BkAt H b ns R ∧ Tbl ns R ∧ (∀ o ∈ ns, isName (cd o) = true) ∧ SqL K H z (zs.map V.str) ∧ zs.length ≤ 100 ∧ (∀ x ∈ zs, FldL ns x) ∧
  ∀ H' d, Same H H' → H' d = some (.dK (kvG (hs ns) (numV (closeM ns (toldOf R ns) (joinS zs))))) → Q (.ref d) H'
section
variable {P : Program} {w : World} {K : PySem.W.Frag} {mg : Str → Option Value} {base : Heap}
abbrev NMo : List Str := ["_law_book_here", "_law_bag", "_law_own", "_law_table", "_law_told_so", "_law_flat", "_law_number", "_law_far"]
theorem sc_mo : FnScope NMo ["_law_book_here", "_law_bag"] (defScope s__law_mods) := ⟨rfl, rfl, rfl, by decide +kernel, rfl, by decide +kernel, by decide +kernel⟩
theorem ok_mods (B : Bk K mg) : Df P w K mg base CX0 3 "_law_mods" ["_law_book_here", "_law_bag"] (spMods K) := by
  obtain ⟨fd, F⟩ := B.F_law_mods
  obtain ⟨fdT, GT, bT⟩ := (ok_toldL (P := P) (w := w) (base := base) B).ex
  have kT := (ok_toldL (P := P) (w := w) (base := base) B).kp
  obtain ⟨fdS, GS, bS⟩ := (ok_split (P := P) (w := w) (base := base) B).ex
  have kS := (ok_split (P := P) (w := w) (base := base) B).kp
  obtain ⟨fdL, GL, bL⟩ := (ok_lcmL (P := P) (w := w) (base := base) B).ex
  have kL := (ok_lcmL (P := P) (w := w) (base := base) B).kp
  refine ⟨⟨fd, ?_, F.binds fun _ _ _ _ _ _ us hl => match us, hl with | [_, _], _ => rfl⟩, B.g_law_mods, F.kp⟩
  refine F.ok sc_mo (fun vs H Q E h => ?_) (fun cdv A outer s H vs Q E hr h => ?_)
  · obtain ⟨_, _, _, _, _, rfl, _⟩ := h
    rfl
  · obtain ⟨b, z, ns, zs, R, rfl, hb, tb, hn, hz, l100, fl, k⟩ := h
    have hu := hu_of hr
    have hr1 : Room 1 _ := hr.mono (by decide)
    refine ⟨_, pss_cons (ps_par (i := 3) (j := 4) (by rfl) sc_mo.nd rfl rfl (by decide) rfl rfl (pa_cons
          (pe_callTy (call_dictP rfl) (by rfl) B.b_dict (by decide +kernel) (pa_cons (pe_lc (own := [("_law_own", 2)]) (g := gName 2) (tt := tYes) (te := tTup (tCons (tVar 2) (tCons (tC (.int 1)) tNil))) rfl sc_mo.nd (pi_tup (pe_op op_catA (pe_tup (pa_cons pe_str pa_nil)) (pe_callTy call_tupleT (by rfl) B.b_tuple (by decide +kernel) (pa_cons (pe_ix ix_tup (pv 0) pe_int (fun _ _ => rfl)) pa_nil)))) (blkOk_by (N := NMo) (sc := defScope s__law_mods) (by decide +kernel))
            (fun _ _ _ _ _ => pg_name (i := 2) sc_mo.nd rfl (Or.inl rfl)) (fun _ _ _ _ _ => pts_nil) (fun _ _ _ _ _ => pe_tup (pa_cons (pv 2) (pa_cons pe_int pa_nil)))) pa_nil))
          (pa_cons (pe_call GT hr1 rfl B.g_law_told kT bT .nil pass0 (pa_cons (pv 0) pa_nil)) pa_nil)) (by rfl))
      (pss_cons (ps_for PassesOwn.never rfl (pi_list (pv 1)) (pg_name (i := 5) sc_mo.nd rfl (Or.inl rfl))
        (pss_cons (ps_asg (pe_call GS hr1 rfl B.g_law_split kS bS .nil pass0 (pa_cons (pv 5) pa_nil)) (pg_tup rfl (pgs_cons (pg_name (i := 2) sc_mo.nd rfl (Or.inl rfl)) (pgs_cons (pg_name (i := 6) sc_mo.nd rfl (Or.inl rfl)) pgs_nil))))
        (pss_one (ps_dput hu (pv 3) (pv 2) (pe_call GL hr rfl B.g_law_lcm kL bL .nil pass0 (pa_cons (pe_dget hu (pv 3) (pv 2) (fun _ _ => rfl)) (pa_cons (pv 6) pa_nil))) rfl))))
      (pss_cons (ps_for PassesOwn.never rfl (pi_tup (pe_op op_catA (pe_tup (pa_cons pe_str pa_nil)) (pe_callTy call_tupleT (by rfl) B.b_tuple (by decide +kernel) (pa_cons (pe_ix ix_tup (pv 0) pe_int (fun _ _ => rfl)) pa_nil)))) (pg_name (i := 2) sc_mo.nd rfl (Or.inl rfl))
        (pss_one (ps_for PassesOwn.never rfl (pi_list (pe_dget hu (pv 4) (pv 2) (fun _ _ => rfl))) (pg_name (i := 7) sc_mo.nd rfl (Or.inl rfl))
          (pss_one (ps_if (pt_cmpR op_eq (pe_dget hu (pv 3) (pv 2) (fun _ _ => rfl)) pe_int (nomark _)) (pss_one (ps_dput hu (pv 3) (pv 7) pe_int rfl)) pss_nil)))))
      (pss_one (ps_ret (pv 3))))), ?_⟩
    have nd := tb.nd
    have n0 := tb.noh
    have l5 := tb.l5
    have ndk : (hs ns).Nodup := List.nodup_cons.mpr ⟨n0, nd⟩
    have l8 : (hs ns).length ≤ 8 := by rw [List.length_cons]; omega
    have big : (1000 : Nat) ≤ sizeLine := by decide
    refine rd_names (b := b) rfl hb l5 fun H1 p s1 hp => ⟨p, rfl, ⟨_, SqT.of hp⟩, fun D hD => ?_⟩
    refine lc_it (walk_tup (xs := (hs ns).map V.str)) (fun i H' => Same H1 H' ∧ ∃ ps : List Addr, H' D = some (.lst (ps.map V.ref)) ∧ ps.length = i ∧ Paired (fun p (kv : Key × V) => H' p = some (.tup [kV kv.1, kv.2])) ps (kvG ((hs ns).take i) (numV fun _ => 1)))
      ⟨Same_new hD, [], upd_same, rfl, .nil⟩ (fun i H' _ ⟨s', _⟩ => sm_seqT s' (SqT.of hp)) (fun i x H2 H3 hi ⟨s2, ps, hD2, pl, pp⟩ y => ?_) (fun H2 ⟨s2, ps, hD2, pl, pp⟩ => ?_)
    · obtain ⟨rfl, hx⟩ := y
      obtain ⟨n, hni, rfl⟩ := at_str hx
      have hi' : i < (hs ns).length := (List.getElem?_eq_some_iff.mp hni).1
      refine ⟨rfl, iteT (B := ∃ z : Nat, z = 0) ?_⟩
      refine ⟨_, rfl, (by show 2 ≤ sizeLine; decide), fun q hq => ?_⟩
      have s4 := Same_new (o := HO.tup [V.str n, .int 1]) hq
      have hDq := s4 _ _ hD2
      have nqD : q ≠ D := fun z => by rw [z, hD2] at hq; cases hq
      refine ⟨_, hDq, by rw [List.length_map, pl]; omega, Same_upd (s2.trans s4) hD, ps ++ [q], by rw [upd_same, List.map_append]; rfl, by rw [List.length_append, pl]; rfl, ?_⟩
      rw [take_next hni]
      unfold kvG at pp ⊢
      rw [List.map_append]
      refine Paired.snoc (pr_imp (fun a kv h => ?_) pp) ?_
      · have h4 := s4 _ _ h
        rw [upd_ne (ne_of h4 hDq (by intro z; cases z))]
        exact h4
      · rw [upd_ne nqD, upd_same]
        rfl
    · rw [List.length_map, List.take_length] at pp
      refine ⟨D, ps, kvG (hs ns) (numV fun _ => 1), rfl, SqL.of hD2, pr_imp (fun a kv h => SqT.of h) pp, fun d hd => ?_⟩
      have em : mergeK [] (kvG (hs ns) (numV fun _ => 1)) = kvG (hs ns) (numV fun _ => 1) := merge_kvG (acc := []) ndk
      rw [em]
      have s3 : Same H (upd H2 d (.dK (kvG (hs ns) (numV fun _ => 1)))) := Same_lay (s1.trans s2) hd
      have hdH : H d = none := (s1.trans s2).free hd
      have hd3 : (upd H2 d (.dK (kvG (hs ns) (numV fun _ => 1)))) d = some (.dK (kvG (hs ns) (numV fun _ => 1))) := upd_same
      generalize (upd H2 d (.dK (kvG (hs ns) (numV fun _ => 1)))) = H3 at s3 hd3
      obtain ⟨f, g, qs, h1, h2, h3, h4⟩ := hb.same s3
      refine ⟨_, rfl, b, f, g, ns, qs, R, rfl, h1, h2, h3, h4, tb, fun H4 td A s4 ta => ?_⟩
      have s34 := s3.trans s4
      have hd4 := s4 _ _ hd3
      have sH : ∀ H', Keep d H4 H' → Same H H' := fun H' kp b' o q => kp _ _ (ne_of_none q hdH) (s34 _ _ q)
      have ntd : td ≠ d := fun e => by
        have q := ta.at_
        rw [e, hd4] at q
        have q := Option.some.inj q
        injection q with q
        cases ns with
        | nil =>
          unfold kvG kvT at q
          injection q with q _
          injection q with _ q
          cases q
        | cons n r =>
          unfold kvG kvT at q
          injection q with q _
          injection q with q _
          injection q with q
          exact n0 (q ▸ List.mem_cons_self)
      have keepS : ∀ {H' H''}, Keep d H4 H' → Same H' H'' → Keep d H4 H'' := fun k1 k2 b' o nb q => k2 _ _ (k1 _ _ nb q)
      refine ⟨_, _, rfl, _, rfl, z, rfl, ⟨_, sm_seqL s34 hz⟩, ?_⟩
      have gset : ∀ {M M' : Str → Nat}, (∀ x ∈ hs ns, M x = M' x) → HO.dK (kvG (hs ns) (numV M)) = HO.dK (kvG (hs ns) (numV M')) := fun h => congrArg HO.dK (kvG_congr fun n hn => by unfold numV; rw [h n hn])
      refine for_it (walk_list (xs := zs.map V.str)) (fun i σ H' => ∃ v2 v5 v6 : Option V, σ = [some (.ref b), some (.ref z), v2, some (.ref d), some (.ref td), v5, v6, Option.none] ∧ Keep d H4 H' ∧ H' d = some (.dK (kvG (hs ns) (numV (joinS (zs.take i))))))
        ⟨_, _, _, rfl, Keep.refl _ _, hd4⟩ (fun i σ H' _ ⟨_, _, _, _, kp, _⟩ => sm_seqL (sH _ kp) hz) (fun i x σ H5 H6 hi ⟨v2, v5, v6, e, kp, hd5⟩ y => ?_) (fun σ H5 ⟨v2, v5, v6, e, kp, hd5⟩ => ?_)
      · obtain ⟨rfl, hx⟩ := y
        subst e
        obtain ⟨x, hxi, rfl⟩ := at_str hx
        have fx := fl x (List.mem_of_getElem? hxi)
        have fo := fx.ok hn
        refine ⟨_, rfl, x, ns, rfl, fx, hn, fun H7 p7 s7 np7 hp7 => ?_⟩
        have hd7 := s7 _ _ hd5
        have dv := join_dv (ks := hs ns) (zs := zs.take i) (fun y hy => (fl y (List.mem_of_mem_take hy)).ok hn) (fieldName x)
        have le : ∀ n : Nat, n = 0 ∨ n ∣ MB → n ≤ MB := fun n h => h.elim (fun e => e ▸ Nat.zero_le _) fun h => Nat.le_of_dvd (by decide) h
        refine ⟨_, _, rfl, SqT.of hp7, rfl, _, _, rfl, _, _, rfl, rfl, ?_⟩
        refine ⟨_, rfl, _, rfl, d, _, rfl, gd_kvG hd7 fo.nam, _, rfl, joinS (zs.take i) (fieldName x), fnum x, rfl, le _ dv, le _ fo.dv, _, rfl, _, rfl, d, _, rfl, DPut.k (k := Sum.inr (fieldName x)) hd7 ?_, ?_⟩
        · rw [kvG_len]
          omega
        · refine ⟨_, _, _, rfl, fun b' o nb q => by rw [upd_ne nb]; exact s7 _ _ (kp _ _ nb q), ?_⟩
          rw [upd_same, putG_old fo.nam]
          congr 2
          unfold kvG
          refine List.map_congr_left fun n _ => ?_
          unfold atF numV
          rw [join_next hxi]
          by_cases q : n = fieldName x
          · subst q
            rw [if_pos rfl, if_pos rfl]
          · rw [if_neg q, if_neg fun e => q e.symm]
      · subst e
        rw [List.length_map, List.take_length] at hd5
        refine rd_names (b := b) rfl (hb.same (sH _ kp)) l5 fun H6 p6 s6 hp6 => ?_
        have hd6 := s6 _ _ hd5
        have kp6 := keepS kp s6
        have np6 : p6 ≠ d := ne_of hp6 hd6 (by intro z; cases z)
        refine ⟨p6, rfl, ⟨_, SqT.of hp6⟩, ?_⟩
        refine for_it (walk_tup (xs := (hs ns).map V.str)) (fun i σ H' => ∃ v2 v5 v6 v7 : Option V, σ = [some (.ref b), some (.ref z), v2, some (.ref d), some (.ref td), v5, v6, v7] ∧ Keep d H6 H' ∧ H' d = some (.dK (kvG (hs ns) (numV (clAll ns (toldOf R ns) ((hs ns).take i) (joinS zs))))))
          ⟨_, _, _, _, rfl, Keep.refl _ _, hd6⟩ (fun i σ H' _ ⟨_, _, _, _, _, kp, _⟩ => SqT.of (kp _ _ np6 hp6)) (fun i x σ H7 H8 hi ⟨v2, v5, v6, v7, e, kp7, hd7⟩ y => ?_) (fun σ H7 ⟨v2, v5, v6, v7, e, kp7, hd7⟩ => ?_)
        · obtain ⟨rfl, hx⟩ := y
          subst e
          obtain ⟨own, ho, rfl⟩ := at_str hx
          have hoi : own ∈ hs ns := List.mem_of_getElem? ho
          have hoT : own ∈ ns ++ [("#" : Str)] := (List.mem_cons.mp hoi).elim (fun e => e ▸ List.mem_append_right _ (List.mem_singleton.mpr rfl)) fun h => List.mem_append_left _ h
          have htd := kp7 _ _ ntd (kp6 _ _ ntd ta.at_)
          have hA0 := kp6 _ _ (ne_of (ta.lst own hoT) hd4 (by intro z; cases z)) (ta.lst own hoT)
          have nAd : A own ≠ d := ne_of (ta.lst own hoT) hd4 (by intro z; cases z)
          have hA := kp7 _ _ nAd hA0
          have gt : DGet H8 td (.str own) (some (.ref (A own))) := by
            have q := DGet.k (k := Sum.inr own) htd
            rw [valV_kvT hoT] at q
            exact q
          refine ⟨_, rfl, _, rfl, td, _, rfl, gt, A own, rfl, ⟨_, SqL.of hA⟩, ?_⟩
          generalize hM : clAll ns (toldOf R ns) ((hs ns).take i) (joinS zs) = M at hd7
          refine for_it (walk_list (xs := (toldAt ns (toldOf R ns) own).map V.str)) (fun j σ H' => ∃ v5 v6 v7 : Option V, σ = [some (.ref b), some (.ref z), some (.str own), some (.ref d), some (.ref td), v5, v6, v7] ∧ Keep d H6 H' ∧ H' d = some (.dK (kvG (hs ns) (numV fun x => if M own = 0 ∧ x ∈ (toldAt ns (toldOf R ns) own).take j then 0 else M x))))
            ⟨_, _, _, rfl, kp7, by
              rw [hd7]
              refine congrArg some (gset fun x _ => ?_)
              rw [if_neg]
              exact fun h => by cases h.2⟩ (fun j σ H' _ ⟨_, _, _, _, kp, _⟩ => SqL.of (kp _ _ nAd hA0)) (fun j x σ H8 H9 hj ⟨w5, w6, w7, e, kp8, hd8⟩ y => ?_) (fun σ H8 ⟨w5, w6, w7, e, kp8, hd8⟩ => ?_)
          · obtain ⟨rfl, hx⟩ := y
            subst e
            obtain ⟨far, hf, rfl⟩ := at_str hx
            have hfi : far ∈ hs ns := by
              have q := List.mem_of_getElem? hf
              unfold toldAt at q
              split at q
              · exact List.mem_cons_of_mem _ q
              · exact List.mem_cons_of_mem _ (told_in.mp q).1
            refine ⟨_, rfl, _, rfl, d, _, rfl, gd_kvG hd8 hoi, rfl, _, rfl, ?_⟩
            by_cases m0 : M own = 0
            · have c1 : decide (numV (fun x => if M own = 0 ∧ x ∈ (toldAt ns (toldOf R ns) own).take j then 0 else M x) own = V.int 0) = true := decide_eq_true (by
                unfold numV
                show iV (if M own = 0 ∧ own ∈ (toldAt ns (toldOf R ns) own).take j then 0 else M own) = _
                split
                · rfl
                · rw [m0]
                  rfl)
              show if decide (numV (fun x => if M own = 0 ∧ x ∈ (toldAt ns (toldOf R ns) own).take j then 0 else M x) own = V.int 0) = true then _ else _
              rw [c1]
              refine iteT ?_
              refine ⟨_, rfl, _, rfl, d, _, rfl, DPut.k (k := Sum.inr far) hd8 ?_, ?_⟩
              · rw [kvG_len]
                omega
              · refine ⟨_, _, _, rfl, fun b' o nb q => by rw [upd_ne nb]; exact kp8 _ _ nb q, ?_⟩
                rw [upd_same, putG_old hfi, take_next hf]
                congr 2
                unfold kvG
                refine List.map_congr_left fun n _ => ?_
                unfold atF numV
                dsimp only
                by_cases q : n = far
                · subst q
                  rw [if_pos rfl, if_pos ⟨m0, List.mem_append_right _ (List.mem_singleton.mpr rfl)⟩]
                  rfl
                · rw [if_neg q]
                  by_cases w : n ∈ (toldAt ns (toldOf R ns) own).take j
                  · rw [if_pos ⟨m0, w⟩, if_pos ⟨m0, List.mem_append_left _ w⟩]
                  · rw [if_neg (fun h => w h.2), if_neg (fun h => (List.mem_append.mp h.2).elim w fun h => q (List.mem_singleton.mp h))]
            · have c1 : decide (numV (fun x => if M own = 0 ∧ x ∈ (toldAt ns (toldOf R ns) own).take j then 0 else M x) own = V.int 0) = false := decide_eq_false (fun e => by
                unfold numV at e
                have e2 : V.int ((if M own = 0 ∧ own ∈ (toldAt ns (toldOf R ns) own).take j then 0 else M own : Nat) : Int) = V.int 0 := e
                rw [if_neg (fun h => m0 h.1)] at e2
                have := V.int.inj e2
                omega)
              show if decide (numV (fun x => if M own = 0 ∧ x ∈ (toldAt ns (toldOf R ns) own).take j then 0 else M x) own = V.int 0) = true then _ else _
              rw [c1]
              refine iteF ⟨_, _, _, rfl, kp8, ?_⟩
              rw [hd8]
              refine congrArg some (gset fun x _ => ?_)
              rw [if_neg (fun h => m0 h.1), if_neg (fun h => m0 h.1)]
          · subst e
            rw [List.length_map, List.take_length] at hd8
            refine ⟨_, _, _, _, rfl, kp8, ?_⟩
            rw [hd8, take_next ho]
            unfold clAll
            rw [List.foldl_append]
            refine congrArg some (gset fun x _ => ?_)
            show _ = clStep ns (toldOf R ns) (clAll ns (toldOf R ns) ((hs ns).take i) (joinS zs)) own x
            rw [hM]
            rfl
        · subst e
          rw [List.length_map, List.take_length] at hd7
          refine ⟨_, rfl, k H7 d (sH _ fun b' o nb q => kp7 _ _ nb (kp6 _ _ nb q)) ?_⟩
          rw [hd7]
          exact congrArg some (gset fun x _ => cl_close (told_tr n0) x)
end
end Jd
namespace Jd
open PySem PySem.Spec PyProof.Rows L2
/-! ### _law_shown -/
theorem eqv_lnil (xs : List Str) : PyData.eqv (.list (xs.map PyData.str)) (.list []) = decide (xs = []) := by
  cases xs with
  | nil => simp [PyData.eqv, PyData.eqvAll]
  | cons p r => simp [PyData.eqv, PyData.eqvAll]
theorem fld_dec {o : Str} {n : Nat} (h : n ∣ MB) (h2 : 2 ≤ n) : fldT o n = o ++ "/" ++ dec n := by
  have N := num_facts h h2
  refine cd_ext ?_
  unfold fldT
  rw [if_neg (by omega), cd_ftext o n N.dig, cd_cat, cd_cat, show cd ("/" : Str) = [47] by decide +kernel, List.append_assoc]
  rfl
theorem key_ok {ns : List Str} (hn : ∀ o ∈ ns, isName (cd o) = true) : ∀ o ∈ hs ns, PyData.strOk o = true := fun o ho => by
  rcases List.mem_cons.mp ho with rfl | ho
  · decide +kernel
  · have h := hn o ho
    unfold isName at h
    rw [Bool.and_eq_true, Bool.and_eq_true] at h
    have h3 := h.2.2
    unfold PyData.strOk
    rw [← Array.all_toList, List.all_eq_true]
    intro c hc
    have q := List.all_eq_true.mp h3 c hc
    refine decide_eq_true ?_
    unfold letterB at q
    rw [Bool.and_eq_true, Bool.not_eq_true', Bool.not_eq_true', decide_eq_false_iff_not, decide_eq_false_iff_not] at q
    omega
theorem kvT_ne {ns : List Str} {A : Str → Addr} {m : Str → Nat} (n0 : ("#" : Str) ∉ ns) : HO.dK (kvT (ns ++ [("#" : Str)]) A) ≠ HO.dK (kvG (hs ns) (numV m)) := fun q => by
  injection q with q
  cases ns with
  | nil =>
    unfold kvG kvT at q
    injection q with q _
    injection q with _ q
    cases q
  | cons n r =>
    unfold kvG kvT at q
    injection q with q _
    injection q with q _
    injection q with q
    exact n0 (q ▸ List.mem_cons_self)
def shownF (ns : List Str) (t : Str → List Str) (m : Str → Nat) (ks : List Str) : List Str := (ks.filter fun n => decide (m n ≠ 1 ∧ n ∉ wholeOf (hs ns) ns t m)).map fun n => fldT n (m n)
theorem shownF_next {ns : List Str} {t : Str → List Str} {m : Str → Nat} {ks : List Str} {i : Nat} {n : Str} (h : ks[i]? = some n) : shownF ns t m (ks.take (i + 1)) = shownF ns t m (ks.take i) ++ (if m n ≠ 1 ∧ n ∉ wholeOf (hs ns) ns t m then [fldT n (m n)] else []) := by
  unfold shownF
  rw [List.take_add_one, h, List.filter_append, List.map_append]
  congr 1
  by_cases c : m n ≠ 1 ∧ n ∉ wholeOf (hs ns) ns t m
  · rw [if_pos c]
    simp [c]
  · rw [if_neg c]
    simp [c]
def tellersOf (ns : List Str) (t : Str → List Str) (m : Str → Nat) (n : Str) : List Str := (ns ++ [("#" : Str)]).filter fun far => decide (n ∈ toldAt ns t far ∧ m far = 0)
theorem tellers_nil {ns : List Str} {t : Str → List Str} {m : Str → Nat} {n : Str} : tellersOf ns t m n = [] ↔ n ∉ wholeOf (hs ns) ns t m := by
  unfold tellersOf wholeOf
  rw [List.filter_eq_nil_iff]
  constructor
  · intro h q
    obtain ⟨w, hw, hq⟩ := List.mem_flatMap.mp q
    by_cases z : m w = 0
    · rw [if_pos z] at hq
      refine h w ?_ (decide_eq_true ⟨hq, z⟩)
      rcases List.mem_cons.mp hw with rfl | hw
      · exact List.mem_append_right _ (List.mem_singleton.mpr rfl)
      · exact List.mem_append_left _ hw
    · rw [if_neg z] at hq
      cases hq
  · intro h w hw q
    obtain ⟨q1, q2⟩ := of_decide_eq_true q
    refine h (List.mem_flatMap.mpr ⟨w, ?_, by rw [if_pos q2]; exact q1⟩)
    rcases List.mem_append.mp hw with hw | hw
    · exact List.mem_cons_of_mem _ hw
    · rw [List.mem_singleton.mp hw]
      exact List.mem_cons_self
def spShown (K : PySem.W.Frag) : Sp := fun vs H Q _ => ∃ (b md : Addr) (ns : List Str) (R : List (Str × Str)) (m : Str → Nat), vs = [.ref b, .ref md] ∧ BkAt H b ns R ∧ Tbl ns R ∧ (∀ o ∈ ns, isName (cd o) = true) ∧ H md = some (.dK (kvG (hs ns) (numV m))) ∧ (∀ n ∈ hs ns, m n = 0 ∨ m n ∣ MB) ∧
  ∀ H' p, Same H H' → H p = none → H' p = some (.lst ((shownT ns (toldOf R ns) m).map V.str)) → Q (.ref p) H'
section
variable {P : Program} {w : World} {K : PySem.W.Frag} {mg : Str → Option Value} {base : Heap}
abbrev NSh : List Str := ["_law_book_here", "_law_mods_here", "_law_told_so", "_law_found", "_law_own", "_law_tellers", "_law_far"]
theorem sc_shw : FnScope NSh ["_law_book_here", "_law_mods_here"] (defScope s__law_shown) := ⟨rfl, rfl, rfl, by decide +kernel, rfl, by decide +kernel, by decide +kernel⟩
theorem ok_shown (B : Bk K mg) : Df P w K mg base CX0 2 "_law_shown" ["_law_book_here", "_law_mods_here"] (spShown K) := by
  obtain ⟨fd, F⟩ := B.F_law_shown
  obtain ⟨fdT, GT, bT⟩ := (ok_toldL (P := P) (w := w) (base := base) B).ex
  have kT := (ok_toldL (P := P) (w := w) (base := base) B).kp
  refine ⟨⟨fd, ?_, F.binds fun _ _ _ _ _ _ us hl => match us, hl with | [_, _], _ => rfl⟩, B.g_law_shown, F.kp⟩
  refine F.ok sc_shw (fun vs H Q E h => ?_) (fun cdv A outer s H vs Q E hr h => ?_)
  · obtain ⟨_, _, _, _, _, rfl, _⟩ := h
    rfl
  · obtain ⟨b, md, ns, R, m, rfl, hb, tb, hn, hmd, dv, k⟩ := h
    have hu := hu_of hr
    refine ⟨_, pss_cons (ps_asg (pe_tup (pa_cons (pe_call GT hr rfl B.g_law_told kT bT .nil pass0 (pa_cons (pv 0) pa_nil)) (pa_cons (pe_lst pa_nil) pa_nil))) (pg_tup rfl (pgs_cons (pg_name (i := 2) sc_shw.nd rfl (Or.inr rfl)) (pgs_cons (pg_name (i := 3) sc_shw.nd rfl (Or.inl rfl)) pgs_nil))))
      (pss_cons (ps_for PassesOwn.never rfl (pi_tup (pe_op op_catA (pe_tup (pa_cons pe_str pa_nil)) (pe_callTy call_tupleT (by rfl) B.b_tuple (by decide +kernel) (pa_cons (pe_ix ix_tup (pv 0) pe_int (fun _ _ => rfl)) pa_nil)))) (pg_name (i := 4) sc_shw.nd rfl (Or.inr rfl))
        (pss_cons (ps_lock (ps_setLc (i := 5) (own := [("_law_far", 6)]) (g := gName 6) (tt := tAnd (tTest (tOp (rIn K false) (tVar 4) (tDGet (tVar 2) (tVar 6)))) (tTest (tOp rEq (tDGet (tVar 1) (tVar 6)) (tC (.int 0))))) (te := tVar 6) rfl sc_shw.nd rfl rfl (sw_true rfl rfl rfl (by decide +kernel)) (pi_keys (pv 2)) (blkOk_by (N := NSh) (sc := defScope s__law_shown) (by decide +kernel))
            (fun _ _ _ _ _ => pg_name (i := 6) sc_shw.nd rfl (Or.inl rfl)) (fun _ _ _ _ _ => pts_one (PW.pt (pw_and (pt_cmpR op_in_seq (pv 4) (pe_dget hu (pv 2) (pv 6) (fun _ _ => rfl)) (by rfl)) (pw_and1 (pt_cmpR op_eq (pe_dget hu (pv 1) (pv 6) (fun _ _ => rfl)) pe_int (nomark _)))))) (fun _ _ _ _ _ => pv 6)))
        (pss_one (ps_if (PW.pt (pw_and (pt_cmpR op_ne (pe_dget hu (pv 1) (pv 4) (fun _ _ => rfl)) pe_int (nomark _)) (pw_and1 (pt_cmpR (op_eqD hr.units) (pv 5) (pe_lst pa_nil) (nomark _)))))
          (pss_one (ps_expr (pe_bm PySem.F.plainAttrs_list PySem.F.slot_list_append PySem.F.type_list_append mt_append (pv 3) (pa_cons (pe_ifExp (pt_cmpR op_eq (pe_dget hu (pv 1) (pv 4) (fun _ _ => rfl)) pe_int (nomark _)) (pv 4)
            (pe_op op_add_str (pe_op op_add_str (pv 4) pe_str) (pe_callTy call_str_int (by rfl) B.b_str (by decide +kernel) (pa_cons (pe_dget hu (pv 1) (pv 4) (fun _ _ => rfl)) pa_nil)))) pa_nil)))) pss_nil))))
      (pss_one (ps_ret (pv 3)))), ?_⟩
    obtain ⟨f, g, qs, h1, h2, h3, h4⟩ := id hb
    have l5 := tb.l5
    have n0 := tb.noh
    have big : (1000 : Nat) ≤ sizeLine := by decide
    refine ⟨_, rfl, b, f, g, ns, qs, R, rfl, h1, h2, h3, h4, tb, fun H1 td A s1 ta => ?_⟩
    refine ⟨Nat.zero_le _, fun l hl => ?_⟩
    refine ⟨(by show 2 ≤ sizeLine; decide), fun tu htu => ?_⟩
    have sl := Same_new (o := HO.lst []) hl
    have st := Same_new (o := HO.tup [V.ref td, V.ref l]) htu
    have s3 := (s1.trans sl).trans st
    have hl3 := st _ _ (upd_same (H := H1) (a := l) (o := HO.lst []))
    have lH : H l = none := s1.free hl
    refine ⟨_, _, rfl, SqT.of upd_same, rfl, _, _, rfl, _, _, rfl, rfl, ?_⟩
    have ta3 := ta.same (sl.trans st)
    generalize (upd (upd H1 l (.lst [])) tu (.tup [V.ref td, V.ref l])) = H3 at s3 hl3 ta3
    have sH : ∀ H', Keep l H3 H' → Same H H' := fun H' kp b' o q => kp _ _ (ne_of_none q lH) (s3 _ _ q)
    refine rd_names (b := b) rfl (hb.same s3) l5 fun H4 p s4 hp => ⟨p, rfl, ⟨_, SqT.of hp⟩, ?_⟩
    have hl4 := s4 _ _ hl3
    have npl : p ≠ l := ne_of hp hl4 (by intro z; cases z)
    have ntl : td ≠ l := ne_of ta3.at_ hl3 (by intro z; cases z)
    have nAl : ∀ n ∈ ns ++ [("#" : Str)], A n ≠ l := fun n hn' e => by
      have q := ta.lst n hn'
      rw [e, hl] at q
      cases q
    refine for_it (walk_tup (xs := (hs ns).map V.str)) (fun i σ H' => ∃ v4 v5 : Option V, σ = [some (.ref b), some (.ref md), some (.ref td), some (.ref l), v4, v5, Option.none] ∧ Keep l H4 H' ∧ H' l = some (.lst ((shownF ns (toldOf R ns) m ((hs ns).take i)).map V.str)))
      ⟨_, _, rfl, Keep.refl _ _, hl4⟩ (fun i σ H' _ ⟨_, _, _, kp, _⟩ => SqT.of (kp _ _ npl hp)) (fun i x σ H5 H6 hi ⟨v4, v5, e, kp, hl5⟩ y => ?_) (fun σ H5 ⟨v4, v5, e, kp, hl5⟩ => ?_)
    · obtain ⟨rfl, hx⟩ := y
      subst e
      obtain ⟨n, hni, rfl⟩ := at_str hx
      have hnk : n ∈ hs ns := List.mem_of_getElem? hni
      have hii : i < (hs ns).length := (List.getElem?_eq_some_iff.mp hni).1
      have kp3 : Keep l H3 H6 := fun b' o nb q => kp _ _ nb (s4 _ _ q)
      have htd := kp3 _ _ ntl ta3.at_
      have hmd5 := sH _ kp3 _ _ hmd
      refine ⟨td, _, htd, trivial, fun od => ?_⟩
      refine ⟨_, rfl, td, od, rfl, .inl ⟨_, upd_same, fun D hD => ?_⟩⟩
      have nDt : D ≠ td := fun e => by
        rw [e, upd_same] at hD
        cases hD
      have nDl : D ≠ l := fun e => by
        rw [e, upd_ne ntl.symm, hl5] at hD
        cases hD
      have lk : ∀ {H' : Hp}, Same (upd H6 td (.frz od (.dK (kvT (ns ++ [("#" : Str)]) A)))) H' → ∀ b' o, b' ≠ td → H6 b' = some o → H' b' = some o := fun s' b' o nb q => s' _ _ (by rw [upd_ne nb]; exact q)
      refine lc_fm (w := walk_keys (d := td) (o := od) (kvs := kvT (ns ++ [("#" : Str)]) A)) (fun j => ((ns ++ [("#" : Str)])[j]?).bind fun far => if n ∈ toldAt ns (toldOf R ns) far ∧ m far = 0 then some (V.str far) else none) hD (by
          unfold kvT
          rw [List.length_map, List.length_append]
          show ns.length + 1 ≤ _
          omega) (fun H' s' => s' _ _ upd_same) (fun j v H7 H8 Kt Kf hj s7 y kt kf => ?_) (fun H7 s7 hD7 => ?_)
      · obtain ⟨rfl, ky, vv, hk, rfl⟩ := y
        unfold kvT at hk
        rw [List.getElem?_map] at hk
        cases q : (ns ++ [("#" : Str)])[j]? with
        | none =>
          rw [q] at hk
          cases hk
        | some far =>
          rw [q] at hk kt kf
          cases hk
          have hfar : far ∈ ns ++ [("#" : Str)] := List.mem_of_getElem? q
          have hfk : far ∈ hs ns := (List.mem_append.mp hfar).elim (fun h => List.mem_cons_of_mem _ h) fun h => by
            rw [List.mem_singleton.mp h]
            exact List.mem_cons_self
          have htd8 := s7 _ _ (upd_same (H := H6) (a := td) (o := HO.frz od (.dK (kvT (ns ++ [("#" : Str)]) A))))
          have gt : DGet H8 td (.str far) (some (.ref (A far))) := .inl ⟨_, Sum.inr far, .inr ⟨od, htd8⟩, rfl, (valV_kvT hfar).symm⟩
          have nAt : A far ≠ td := ne_of (ta3.lst far hfar) ta3.at_ (by intro z; cases z)
          have hA := lk s7 _ _ nAt (kp3 _ _ (nAl far hfar) (ta3.lst far hfar))
          have nmt : md ≠ td := fun e => by
            rw [e, htd] at hmd5
            exact kvT_ne n0 (Option.some.inj hmd5)
          have hmd8 := lk s7 _ _ nmt hmd5
          refine ⟨rfl, ?_⟩
          refine ⟨_, rfl, _, rfl, _, rfl, td, _, rfl, gt, A far, _, rfl, .inl (SqL.of hA), rfl, fl_str, _, rfl, two (fun h1 => ?_) (fun h1 => ?_)⟩
          · have h1' : inV (.str n) ((toldAt ns (toldOf R ns) far).map V.str) = true := h1
            rw [inV_str] at h1'
            refine ⟨_, rfl, _, rfl, md, _, rfl, gd_kvG hmd8 hfk, rfl, _, rfl, two (fun h2 => ?_) (fun h2 => ?_)⟩
            · have m0 : m far = 0 := by
                have q := V.int.inj (of_decide_eq_true h2)
                omega
              exact ⟨_, rfl, kt _ _ (if_pos ⟨of_decide_eq_true h1', m0⟩) (Same.refl _)⟩
            · have m0 : ¬ m far = 0 := fun e => of_decide_eq_false h2 (by
                unfold numV
                rw [e]
                rfl)
              exact kf _ (if_neg fun z => m0 z.2) (Same.refl _)
          · have h1' : inV (.str n) ((toldAt ns (toldOf R ns) far).map V.str) = false := h1
            rw [inV_str] at h1'
            exact iteF (kf _ (if_neg fun z => of_decide_eq_false h1' z.1) (Same.refl _))
      · have eT : (List.range (kvT (ns ++ [("#" : Str)]) A).length).filterMap (fun j => ((ns ++ [("#" : Str)])[j]?).bind fun far => if n ∈ toldAt ns (toldOf R ns) far ∧ m far = 0 then some (V.str far) else none) = (tellersOf ns (toldOf R ns) m n).map V.str := by
          unfold kvT
          rw [List.length_map, fm_names, fm_filter' (fun far => n ∈ toldAt ns (toldOf R ns) far ∧ m far = 0) V.str]
          rfl
        rw [eT] at hD7
        refine ⟨s7 _ _ upd_same, ?_⟩
        have s8 := Same_unlock htd s7
        have hD8 : (upd H7 td (.dK (kvT (ns ++ [("#" : Str)]) A))) D = some (.lst ((tellersOf ns (toldOf R ns) m n).map V.str)) := by
          rw [upd_ne nDt]
          exact hD7
        generalize (upd H7 td (.dK (kvT (ns ++ [("#" : Str)]) A))) = H8 at s8 hD8
        have hl8 := s8 _ _ hl5
        have hmd8 := s8 _ _ hmd5
        have kp8 : Keep l H4 H8 := fun b' o nb q => s8 _ _ (kp _ _ nb q)
        have lF : ∀ j, (shownF ns (toldOf R ns) m ((hs ns).take j)).length ≤ 6 := fun j => by
          unfold shownF
          rw [List.length_map]
          refine Nat.le_trans (List.length_filter_le _ _) ?_
          rw [List.length_take, List.length_cons]
          omega
        have stay : ¬ (m n ≠ 1 ∧ n ∉ wholeOf (hs ns) ns (toldOf R ns) m) → ∀ H', Same H8 H' → ∃ v4 v5 : Option V, [some (V.ref b), some (.ref md), some (.ref td), some (.ref l), some (.str n), some (.ref D), Option.none] = [some (V.ref b), some (.ref md), some (.ref td), some (.ref l), v4, v5, Option.none] ∧ Keep l H4 H' ∧ H' l = some (.lst ((shownF ns (toldOf R ns) m ((hs ns).take (i + 1))).map V.str)) := fun c H' s' => by
          refine ⟨_, _, rfl, fun b' o nb q => s' _ _ (kp8 _ _ nb q), ?_⟩
          rw [shownF_next hni, if_neg c, List.append_nil]
          exact s' _ _ hl8
        refine ⟨_, rfl, _, rfl, md, _, rfl, gd_kvG hmd8 hnk, rfl, _, rfl, two (fun h1 => ?_) (fun h1 => ?_)⟩
        · have m1 : m n ≠ 1 := fun e => by
            have h1' : (!decide (V.int ((m n : Nat) : Int) = V.int 1)) = true := h1
            rw [e] at h1'
            cases h1'
          refine ⟨_, rfl, Nat.zero_le _, fun r hr' => ?_⟩
          have sr := Same_new (o := HO.lst []) hr'
          refine ⟨.list ((tellersOf ns (toldOf R ns) m n).map PyData.str), .list [], .lst (SqL.of (sr _ _ hD8)) (dp_strs _), .lst (SqL.of upd_same) .nil, shp_strsL (fun z hz => key_ok hn z ?_), by decide +kernel, _, rfl, ?_⟩
          · rcases List.mem_append.mp (List.mem_filter.mp hz).1 with h | h
            · exact List.mem_cons_of_mem _ h
            · rw [List.mem_singleton.mp h]
              exact List.mem_cons_self
          rw [eqv_lnil]
          by_cases c : n ∈ wholeOf (hs ns) ns (toldOf R ns) m
          · rw [decide_eq_false fun e => tellers_nil.mp e c]
            exact iteF (stay (fun z => z.2 c) _ sr)
          · rw [decide_eq_true (tellers_nil.mpr c)]
            refine iteT ?_
            have hlr := sr _ _ hl8
            have hmr := sr _ _ hmd8
            have nrl : r ≠ l := fun e => by
              rw [e, hl8] at hr'
              cases hr'
            generalize (upd H8 r (.lst [])) = H9 at sr hlr hmr
            have fin : ∃ l0 ys zz, V.ref l = .ref l0 ∧ [V.str (fldT n (m n))] = [zz] ∧ H9 l0 = some (.lst ys) ∧ ys.length < sizeLine ∧ (∃ v4 v5 : Option V, [some (V.ref b), some (.ref md), some (.ref td), some (.ref l), some (.str n), some (.ref D), Option.none] = [some (V.ref b), some (.ref md), some (.ref td), some (.ref l), v4, v5, Option.none] ∧ Keep l H4 (upd H9 l0 (.lst (ys ++ [zz]))) ∧ (upd H9 l0 (.lst (ys ++ [zz]))) l = some (.lst ((shownF ns (toldOf R ns) m ((hs ns).take (i + 1))).map V.str))) := by
              refine ⟨l, _, _, rfl, rfl, hlr, ?_, _, _, rfl, fun b' o nb q => by rw [upd_ne nb]; exact sr _ _ (kp8 _ _ nb q), ?_⟩
              · rw [List.length_map]
                have := lF i
                omega
              · rw [upd_same, shownF_next hni, if_pos ⟨m1, c⟩, List.map_append]
                rfl
            refine ⟨_, rfl, .inl ⟨rfl, _, SqL.of hlr⟩, ?_⟩
            refine ⟨_, rfl, _, rfl, md, _, rfl, gd_kvG hmr hnk, rfl, _, rfl, two (fun h2 => ?_) (fun h2 => ?_)⟩
            · have m0 : m n = 0 := by
                have q := V.int.inj (of_decide_eq_true h2)
                omega
              have ef : fldT n (m n) = n := by
                unfold fldT
                rw [if_pos m0]
              rw [ef] at fin
              exact ⟨_, rfl, fin⟩
            · have m0 : m n ≠ 0 := fun e => of_decide_eq_false h2 (by
                unfold numV
                rw [e]
                rfl)
              have hd := (dv n hnk).resolve_left m0
              have h2' : 2 ≤ m n := by omega
              have ho : OwnF n := (List.mem_cons.mp hnk).elim (fun e => e ▸ own_hash) fun q => own_name (hn n q)
              have lo := ho.len
              have N := num_facts hd h2'
              have l1 : ("/" : Str).length = 1 := by decide +kernel
              have l2 : (dec (m n)).length ≤ 10 := by rw [len_cd, cd_dec]; exact N.len
              have mb : m n ≤ MB := Nat.le_of_dvd (by decide) hd
              refine ⟨_, rfl, _, _, rfl, rfl, ?_, _, rfl, _, rfl, md, _, rfl, gd_kvG hmr hnk, _, rfl, ?_, _, _, rfl, rfl, ?_, ?_⟩
              · show n.length + ("/" : Str).length ≤ sizeLine
                omega
              · refine Nat.lt_of_lt_of_le ((Nat.log2_lt (k := 60) ?_).mpr ?_) (by decide)
                · exact m0
                · exact Nat.lt_of_le_of_lt mb (by decide)
              · show (n ++ "/").length + (dec (m n)).length ≤ sizeLine
                rw [app_len]
                omega
              · rw [fld_dec hd h2'] at fin
                exact fin
        · have m1 : m n = 1 := by
            have h1' : (!decide (V.int ((m n : Nat) : Int) = V.int 1)) = false := h1
            by_cases q : m n = 1
            · exact q
            · rw [decide_eq_false fun y => q (by have := V.int.inj y; omega)] at h1'
              cases h1'
          exact iteF (stay (fun z => z.1 m1) _ (Same.refl _))
    · subst e
      rw [List.length_map, List.take_length] at hl5
      exact ⟨_, rfl, k H5 l (sH _ fun b' o nb q => kp _ _ nb (s4 _ _ q)) lH hl5⟩
end
end Jd
namespace Jd
open PySem PySem.Spec PyProof.Rows L2
/-! ### Keys and Stages that the law makes -/
structure Sg (K : PySem.W.Frag) (H : Hp) (x : Addr) (ns : List Str) (t : Str → List Str) (m : Str → Nat) : Prop where
  o : ∃ kk d, StageO K H x kk d ns t m
  s : StM ns t m
theorem Sg.same {K : PySem.W.Frag} {H H' : Hp} {x : Addr} {ns : List Str} {t : Str → List Str} {m : Str → Nat} (h : Sg K H x ns t m) (s : Same H H') : Sg K H' x ns t m := ⟨let ⟨k, d, o⟩ := h.o; ⟨k, d, o.same s⟩, h.s⟩
section
variable {K : PySem.W.Frag} {mg : Str → Option Value} {H : Hp} {x y : Addr} {ns : List Str} {t : Str → List Str} {m u : Str → Nat} {Q : VK} {E : XK}
theorem rd_get (a : Sg K H x ns t m) {n : Str} (hn : n ∈ hs ns) (k : Q (iV (m n)) H) : rIxOwn (He.ga K "Stage") (spGet K) E (.ref x) (.str n) H Q := by
  obtain ⟨kx, dx, a1⟩ := a.o
  obtain ⟨ax, hx⟩ := a1.x
  exact ⟨x, ax, _, rfl, hx, x, kx, dx, n, ns, m, rfl, a1.r, fun _ => k, fun q => absurd hn q⟩
end
theorem sm_lst {H : Hp} {n : Nat} {a b : Addr} {xs : List V} (h1 : H a = some (.lst xs)) (h2 : H b = some (.lst xs)) (l : xs.length < 1000) (f : ∀ x ∈ xs, FlatV x) : Sm H (n + 1) (.ref a) (.ref b) :=
  Or.inr ⟨a, b, xs, xs, rfl, rfl, rfl, l, fun i u v e1 e2 => by
    rw [e1] at e2
    cases e2
    exact Sm_flat (f _ (List.mem_of_getElem? e1)), .inl ⟨h1, h2⟩⟩
theorem dp_ints {K : PySem.W.Frag} {H : Hp} : ∀ l : List Nat, DpAll K H (l.map iV) (l.map fun n => PyData.int (n : Nat))
  | [] => .nil
  | x :: xs => .cons (.int _) (dp_ints xs)
theorem lay_ints : ∀ l : List Nat, PyData.canLayAll0 (l.map fun n => PyData.int (n : Nat)) = true
  | [] => by simp [PyData.canLayAll0]
  | x :: xs => by
    rw [List.map_cons]
    simp [PyData.canLayAll0, PyData.canLay0, lay_ints xs]
theorem dep_ints : ∀ l : List Nat, PyData.depthAll (l.map fun n => PyData.int (n : Nat)) = 0
  | [] => by simp [PyData.depthAll]
  | x :: xs => by
    rw [List.map_cons]
    simp [PyData.depthAll, PyData.depth, dep_ints xs]
theorem shp_ints (l : List Nat) : SeqAt.shaped (.list (l.map fun n => PyData.int (n : Nat))) = true := by
  unfold SeqAt.shaped
  rw [Bool.and_eq_true]
  refine ⟨by simpa [PyData.canLay0] using lay_ints l, decide_eq_true ?_⟩
  simp only [PyData.depth]
  have := dep_ints l
  omega
theorem lc_hs {K : PySem.W.Frag} {fl : Addr} {l : List Str} {g : TG} {tt : TT} {te : TE} {vs : List Nat} {σ : L2.St} {H1 : Hp} {D : Addr} {Qd : Hp → Prop} (f : Str → V) (hfl : H1 fl = some (.lst (l.map V.str))) (hD : H1 D = none) (hl : l.length ≤ 8)
    (hs : ∀ n ∈ l, ∀ H (Kt : VK) (Kf : Hp → Prop), Same H1 H → (∀ H4, Same H H4 → Kt (f n) H4) → g (.str n) (wipe σ vs) H fun σ2 H2 => wipe σ2 vs = wipe σ vs ∧ tt σ2 H2 fun b H3 => if b = true then te σ2 H3 Kt else Kf H3)
    (hd : ∀ H, Same H1 H → H D = some (.lst (l.map f)) → Qd H) :
    ∃ W : Nat → Nat → Hp → Prop, (∃ m, W 0 m (upd H1 D (.lst []))) ∧ ∀ i m H, W i m H →
      ((Itl K fl).stop i H ∧ Qd H) ∨ ((Itl K fl).go i H ∧ ∃ Nx : Hp → Prop, (∀ H', Nx H' → ∃ m', m' < m ∧ W (i + 1) m' H') ∧ ∀ x H', (Itl K fl).yld i H x H' → g x (wipe σ vs) H' fun σ2 H2 => wipe σ2 vs = wipe σ vs ∧ tt σ2 H2 fun b H3 =>
        if b = true then te σ2 H3 fun y H4 => ∃ acc, H4 D = some (.lst acc) ∧ acc.length < sizeLine ∧ Nx (upd H4 D (.lst (acc ++ [y]))) else Nx H3) := by
  refine lc_fm (walk_list (K := K) (a := fl) (xs := l.map V.str)) (fun i => l[i]?.map f) hD (by rw [List.length_map]; exact Nat.le_trans hl (by decide)) (fun H' s' => SqL.of (s' _ _ hfl)) (fun i v H2 H3 Kt Kf hi s2 yy kt kf => ?_) (fun H2 s2 hD2 => ?_)
  · obtain ⟨rfl, hv⟩ := yy
    obtain ⟨n, hn, rfl⟩ := at_str hv
    exact hs n (List.mem_of_getElem? hn) _ Kt Kf s2 fun H4 s4 => kt _ _ (by rw [hn]; rfl) s4
  · rw [List.length_map, fm_some (g := f) fun i x hx => by rw [hx]; rfl] at hD2
    exact hd H2 s2 hD2
theorem pl_name : ∀ z ∈ pool7, isName (cd z) = true := by decide +kernel
theorem rg_nil {R : List (Str × Str)} {ns : List Str} (nr : ∀ n ∈ ns, n ∉ toldOf R ns n) : ringOf R ns = [] := by
  unfold ringOf
  rw [List.filter_eq_nil_iff]
  exact fun n hn h => nr n hn (of_decide_eq_true h)
theorem ki_gen {K : PySem.W.Frag} {H : Hp} {nm te x dx : Addr} {names : List Str} {R : List (Str × Str)} (nx : H x = none) (ndx : H dx = none) (hnm : Sq K H nm (names.map V.str)) (nd : names.Nodup) (hl : names.length ≤ 7) (ok : ∀ z ∈ names, PyData.strOk z = true) (hte : Tells K H te R) (h64 : R.length ≤ 64)
    (hin : ∀ p ∈ R, p.1 ∈ names ∧ p.2 ∈ names) (rk : ∃ (M : List Str) (rk : Str → Nat), (∀ p ∈ R, rk p.1 < rk p.2) ∧ ∀ p ∈ R, rk p.2 ≤ M.length) {Q : VK} {E : XK}
    (k : ∀ ns', ns'.Perm (txAll names) → sortedS ns' = true → ns'.Nodup → ∀ H', Same H H' → KeysO K H' x ns' (toldOf R ns') → Q .non H') :
    spKI K [.ref x, .ref nm, .ref te] (upd (upd H dx (.own x)) x (.ins (He.ga K "Keys") dx [])) Q E := by
  have sm : Same H (upd (upd H dx (.own x)) x (.ins (He.ga K "Keys") dx [])) := fun b o q => by
    rw [upd_ne (ne_of_none q nx), upd_ne (ne_of_none q ndx)]
    exact q
  refine ⟨x, nm, te, dx, names, R, rfl, upd_same, hnm.same sm, by omega, by rw [names_len nd fun _ => Iff.rfl]; exact hl, ok, hte.same sm, h64, fun ns' pm so' nd' => ?_⟩
  have mem : ∀ z, z ∈ names → z ∈ ns' := fun z hz => pm.mem_iff.mpr ((txAll_in names [] z).mpr (.inl hz))
  obtain ⟨M, rk⟩ := rk
  have er : ringOf R ns' = [] := rg_nil (noring_of (M := M) rk)
  refine ⟨fun _ => ⟨fun _ H' ko kx => k ns' pm so' nd' H' (made_sameS nx ndx kx) ko, fun z => absurd er z⟩, fun z q => ?_⟩
  rw [out_none fun p hp => ⟨mem _ (hin p hp).1, mem _ (hin p hp).2⟩] at q
  cases q
theorem Keep.pr {u : Addr} {H H' : Hp} (k : Keep u H H') {xs : List V} (hu : H u = some (.lst xs)) {qs : List Addr} {prs : List (Str × Str)} (p : PrAt H qs prs) : PrAt H' qs prs :=
  ⟨p.1, fun i q hq => let ⟨pr, e1, e2⟩ := p.2 i q hq; ⟨pr, e1, k _ _ (ne_of e2 hu (by intro z; cases z)) e2⟩⟩
theorem tells_of {K : PySem.W.Frag} {H : Hp} {g : Addr} {qs : List Addr} {R : List (Str × Str)} (hg : H g = some (.tup (qs.map V.ref))) (pr : PrAt H qs R) : Tells K H g R := ⟨qs, .inr (SqT.of hg), pr.1, fun i q hq => let ⟨pr, a, b⟩ := pr.2 i q hq; ⟨pr, a, .inr (SqT.of b)⟩⟩
theorem close_ok {ns zs : List Str} {R : List (Str × Str)} (n0 : ("#" : Str) ∉ ns) (nm : ∀ n ∈ ns, isName (cd n) = true) (fo : ∀ z ∈ zs, FldOk (hs ns) z) : StM ns (toldOf R ns) (closeM ns (toldOf R ns) (joinS zs)) := by
  refine ⟨n0, nm, fun n hn => ?_, fun w hw e o ho => ?_⟩
  · unfold closeM
    split
    · exact .inl rfl
    · exact join_dv fo n
  · have goal : o ∈ wholeOf (("#" : Str) :: ns) ns (toldOf R ns) (joinS zs) := by
      by_cases q : w ∈ wholeOf (("#" : Str) :: ns) ns (toldOf R ns) (joinS zs)
      · obtain ⟨v, hv, hq⟩ := List.mem_flatMap.mp q
        refine List.mem_flatMap.mpr ⟨v, hv, ?_⟩
        by_cases z : joinS zs v = 0
        · rw [if_pos z] at hq ⊢
          have wns : w ∈ ns := by
            unfold toldAt at hq
            split at hq
            · exact hq
            · exact (told_in.mp hq).1
          have w0 : w ≠ "#" := fun q => n0 (q ▸ wns)
          unfold toldAt at ho hq ⊢
          rw [if_neg w0] at ho
          split
          · exact (told_in.mp ho).1
          · rename_i v0
            rw [if_neg v0] at hq
            exact told_in.mpr ⟨(told_in.mp ho).1, .two (told_in.mp hq).2 wns (told_in.mp ho).2⟩
        · rw [if_neg z] at hq
          cases hq
      · unfold closeM at e
        rw [if_neg q] at e
        refine List.mem_flatMap.mpr ⟨w, hw, ?_⟩
        rw [if_pos e]
        exact ho
    unfold closeM
    rw [if_pos goal]
theorem Sg.keepL {K : PySem.W.Frag} {H H' : Hp} {x u : Addr} {ns : List Str} {t : Str → List Str} {m : Str → Nat} {xs : List V} (h : Sg K H x ns t m) (hu : H u = some (.lst xs)) (k : ∀ b o, b ≠ u → H b = some o → H' b = some o) : Sg K H' x ns t m := by
  obtain ⟨kk, d, ⟨dx, h1⟩, h2, h3⟩ := h.o
  exact ⟨⟨kk, d, ⟨dx, k _ _ (ne_of h1 hu (by intro z; cases z)) h1⟩, h2.keep hu k, k _ _ (ne_of h3 hu (by intro z; cases z)) h3⟩, h.s⟩
end Jd
namespace Jd
open PySem PySem.Spec PyProof.Rows L2
/-! ### looked_right -/
theorem keys_same {ns : List Str} {t : Str → List Str} : decide (ns.length = ns.length ∧ ∀ n ∈ ns, n ∈ ns ∧ t n = t n) = true := decide_eq_true ⟨rfl, fun n h => ⟨h, rfl⟩⟩
theorem fld_any {ks : List Str} {z : Str} (h : FldOk ks z) : FldAny z := ⟨h.len, fun _ => h.num, fun _ => h.dv⟩
theorem shown_nd {ns : List Str} {t : Str → List Str} {m : Str → Nat} (sm : StM ns t m) (nd : (hs ns).Nodup) : (shownT ns t m).Nodup := by
  unfold shownT
  have e : (((hs ns).filter fun n => decide (m n ≠ 1 ∧ n ∉ wholeOf (hs ns) ns t m)).map fun n => fldT n (m n)).map fieldName = (hs ns).filter fun n => decide (m n ≠ 1 ∧ n ∉ wholeOf (hs ns) ns t m) := by
    rw [List.map_map]
    conv => rhs; rw [← List.map_id ((hs ns).filter fun n => decide (m n ≠ 1 ∧ n ∉ wholeOf (hs ns) ns t m))]
    refine List.map_congr_left fun n hn => ?_
    obtain ⟨hni, hp⟩ := List.mem_filter.mp hn
    have hp := of_decide_eq_true hp
    have ho : OwnF n := (List.mem_cons.mp hni).elim (fun e => e ▸ own_hash) fun h => own_name (sm.nm n h)
    refine (fld_facts ho ((sm.dv n hni).imp id fun h => ⟨h, ?_⟩)).2.1
    have : m n ≠ 0 := fun z => by
      rw [z] at h
      exact absurd (Nat.eq_zero_of_zero_dvd h) (by decide)
    have := hp.1
    omega
  refine List.Pairwise.of_map (S := fun a b => a ≠ b) fieldName (fun a b h e => h (by rw [e])) ?_
  rw [e]
  exact nd.sublist List.filter_sublist
theorem shown_ne {ns : List Str} {t : Str → List Str} {m : Str → Nat} (sm : StM ns t m) : ∀ z ∈ shownT ns t m, isFieldB z = true := fun z hz => by
  obtain ⟨n, hn, rfl⟩ := List.mem_map.mp hz
  obtain ⟨hni, hp⟩ := List.mem_filter.mp hn
  have hp := of_decide_eq_true hp
  have ho : OwnF n := (List.mem_cons.mp hni).elim (fun e => e ▸ own_hash) fun h => own_name (sm.nm n h)
  refine (fld_facts ho ((sm.dv n hni).imp id fun h => ⟨h, ?_⟩)).1
  have : m n ≠ 0 := fun z => by
    rw [z] at h
    exact absurd (Nat.eq_zero_of_zero_dvd h) (by decide)
  have := hp.1
  omega
theorem len_pos {z : Str} (h : z ≠ "") : 1 ≤ z.length := by
  rcases Nat.eq_zero_or_pos z.length with q | q
  · refine absurd (cd_ext ?_) h
    rw [len_cd] at q
    rw [List.eq_nil_of_length_eq_zero q]
    rfl
  · exact q
theorem join_or {zs : List Str} (h : ∀ z ∈ zs, isFieldB z = true) : joinOr zs = if zs = [] then ("-" : Str) else Txt.join " " zs := by
  unfold joinOr
  cases zs with
  | nil => rfl
  | cons z r =>
    rw [if_neg (List.cons_ne_nil _ _)]
    refine if_pos ?_
    have hz : 1 ≤ z.length := len_pos fun e => by
      have q := h z List.mem_cons_self
      rw [e] at q
      revert q
      decide +kernel
    have e : (Txt.join " " (z :: r)).length ≠ 0 := by
      rw [TL.join_eq, TL.len_tl, TL.tl_join]
      rw [TL.len_tl] at hz
      cases r with
      | nil =>
        show (TL.tl z).length ≠ 0
        omega
      | cons y r =>
        simp only [List.map_cons, TL.joinL, List.length_append]
        omega
    simpa using e
theorem shown_str {ns : List Str} {t : Str → List Str} {m : Str → Nat} (sm : StM ns t m) : ∀ z ∈ shownT ns t m, PyData.strOk z = true := fun z hz => by
  obtain ⟨n, hn, rfl⟩ := List.mem_map.mp hz
  obtain ⟨hni, hp⟩ := List.mem_filter.mp hn
  have hp := of_decide_eq_true hp
  by_cases m0 : m n = 0
  · unfold fldT
    rw [if_pos m0]
    exact key_ok sm.nm n hni
  · have hd := (sm.dv n hni).resolve_left m0
    have h2 : 2 ≤ m n := by
      have := hp.1
      omega
    have N := num_facts hd h2
    have ko := key_ok sm.nm n hni
    have e : cd (fldT n (m n)) = cd n ++ 47 :: TL.numL (m n) := by
      unfold fldT
      rw [if_neg m0, cd_ftext n (m n) N.dig, cd_dec]
    unfold PyData.strOk at ko ⊢
    rw [← Array.all_toList, List.all_eq_true] at ko ⊢
    intro c hc
    have hc : c ∈ cd (fldT n (m n)) := hc
    rw [e] at hc
    rcases List.mem_append.mp hc with hc | hc
    · exact ko c hc
    · refine decide_eq_true ?_
      rcases List.mem_cons.mp hc with rfl | hc
      · decide
      · have q := N.md
        unfold isModC at q
        split at q
        · cases q
        · have q2 := List.all_eq_true.mp q c hc
          unfold digitB at q2
          have q3 : ∀ x ∈ cd "0123456789", x < 128 := by decide +kernel
          have q4 := q3 c (of_decide_eq_true q2)
          omega
theorem own_hsY {ns : List Str} {t : Str → List Str} {m : Str → Nat} (h : StM ns t m) {n : Str} (hn : n ∈ hs ns) : OwnF n := by
  rcases List.mem_cons.mp hn with rfl | hn
  · exact own_hash
  · exact own_name (h.nm n hn)
theorem KeysO.tyY {K : PySem.W.Frag} {mg : Str → Option Value} (B : Bk K mg) {H : Hp} {x : Addr} {ns : List Str} {t : Str → List Str} (h : KeysO K H x ns t) : TyX K H (.ref x) (.ref (He.ga K "Keys")) := by
  obtain ⟨ha, hn, htk, hmo⟩ := B.ty_Keys
  obtain ⟨dx, _, _, _, hx, _⟩ := h
  exact .base (.ins hx B.cl_Keys ha hn htk hmo)
theorem fld_at {n : Str} {p : Nat} (ho : OwnF n) (h : p = 0 ∨ (p ∣ MB ∧ 2 ≤ p)) : FldAny (fldT n p) ∧ isFieldB (fldT n p) = true ∧ fieldName (fldT n p) = n ∧ fnum (fldT n p) = p := by
  obtain ⟨f1, f2, f3, f4⟩ := fld_facts ho h
  have f5 : fnum (fldT n p) = p := by
    unfold fnum
    rw [f3]
    rfl
  exact ⟨⟨Nat.le_trans f4 (by decide), fun _ => by rw [f5]; exact f3, fun _ => by rw [f5]; exact h.imp id And.left⟩, f1, f2, f5⟩
def six : List Str := ["q", "q/2", "user/1", "", "-", "user/02"]
def stp7 : List Nat := [2, 3, 4, 7, 12, 60, 1000000]
theorem mod_dv {a p : Nat} : decide (V.int ((a : Int) % (p : Int)) = V.int 0) = decide (p ∣ a) := by
  refine decide_eq_decide.mpr ⟨fun h => ?_, fun h => ?_⟩
  · have q := V.int.inj h
    exact Int.natCast_dvd_natCast.mp (Int.dvd_of_emod_eq_zero q)
  · rw [Int.emod_eq_zero_of_dvd (Int.natCast_dvd_natCast.mpr h)]
theorem zero_dv {a : Nat} : decide (V.int ((a : Nat) : Int) = V.int 0) = decide (0 ∣ a) := by
  refine decide_eq_decide.mpr ⟨fun h => ?_, fun h => ?_⟩
  · have q := V.int.inj h
    have e : a = 0 := by omega
    rw [e]
    exact Nat.dvd_zero _
  · rw [Nat.eq_zero_of_zero_dvd h]
    rfl
theorem odd6 : ∀ z ∈ six, z.length ≤ 1000 ∧ (isFieldB z = true → fieldNum z = ((fnum z : Nat) : Int)) ∧ (isFieldB z = true → fnum z = 0 ∨ fnum z ∣ MB) ∧ (isFieldB z = false ∨ fieldName z = "q") := by decide +kernel
theorem steps7 : ∀ p ∈ stp7, p ∣ MB ∧ 2 ≤ p ∧ p ≤ 1000000 := by decide +kernel
def spLk (K : PySem.W.Frag) : Sp := fun vs H Q _ => ∃ (b kk md x d : Addr) (ns : List Str) (R : List (Str × Str)) (m : Str → Nat), vs = [.ref b, .ref kk, .ref md, .ref x] ∧ BkAt H b ns R ∧ Tbl ns R ∧ ("q" : Str) ∉ hs ns ∧ H md = some (.dK (kvG (hs ns) (numV m))) ∧ StageO K H x kk d ns (toldOf R ns) m ∧ StM ns (toldOf R ns) m ∧
  ∀ H', Same H H' → Q (.bl true) H'
section
variable {P : Program} {w : World} {K : PySem.W.Frag} {mg : Str → Option Value} {base : Heap}
abbrev NLk : List Str := ["_law_book_here", "_law_keyring", "_law_mods_here", "_law_stage_so", "_law_flats", "_law_shown_here", "_law_own", "_law_order_so", "_law_got", "_law_used", "_law_flat", "_law_goal", "_law_step", "_law_has_so"]
theorem sc_lk : FnScope NLk ["_law_book_here", "_law_keyring", "_law_mods_here", "_law_stage_so"] (defScope s__law_looked_right) := ⟨rfl, rfl, rfl, by decide +kernel, rfl, by decide +kernel, by decide +kernel⟩
theorem ok_looked (B : Bk K mg) : Df P w K mg base CX0 9 "_law_looked_right" ["_law_book_here", "_law_keyring", "_law_mods_here", "_law_stage_so"] (spLk K) := by
  obtain ⟨fd, F⟩ := B.F_law_looked_right
  obtain ⟨fdW, GW, bW⟩ := (ok_shown (P := P) (w := w) (base := base) B).ex
  have kW := (ok_shown (P := P) (w := w) (base := base) B).kp
  obtain ⟨fdQ, GQ, bQ⟩ := (ok_law_same (P := P) (w := w) (base := base) B 2).ex
  have kQ := (ok_law_same (P := P) (w := w) (base := base) B 2).kp
  obtain ⟨fdG, GG, bG⟩ := ok_get (P := P) (w := w) (base := base) B
  obtain ⟨fdF, GF, bF⟩ := ok_fields (P := P) (w := w) (base := base) B
  obtain ⟨fdX, GX, bX⟩ := ok_stext (P := P) (w := w) (base := base) B
  obtain ⟨fdN, GN, bN⟩ := ok_slen (P := P) (w := w) (base := base) B
  obtain ⟨fdI, GI, bI⟩ := ok_sin (P := P) (w := w) (base := base) B
  obtain ⟨fdS, GS, bS⟩ := ok_schema (P := P) (w := w) (base := base) B
  obtain ⟨fdE, GE, bE⟩ := ok_eqK (P := P) (w := w) (base := base) B
  refine ⟨⟨fd, ?_, F.binds fun _ _ _ _ _ _ us hl => match us, hl with | [_, _, _, _], _ => rfl⟩, B.g_law_looked_right, F.kp⟩
  refine F.ok sc_lk (fun vs H Q E h => ?_) (fun cdv A outer s H vs Q E hr h => ?_)
  · obtain ⟨_, _, _, _, _, _, _, _, rfl, _⟩ := h
    rfl
  · obtain ⟨b, kk, md, x, d, ns, R, m, rfl, hb, tb, nq, hmd, so, sm, k⟩ := h
    have hu := hu_of hr
    have hr2 : Room 2 _ := hr.mono (by decide)
    have hr4 : Room 4 _ := hr.mono (by decide)
    have hr6 : Room 6 _ := hr.mono (by decide)
    refine ⟨_, pss_cons (ps_cut (ps_par (i := 4) (j := 5) (by rfl) sc_lk.nd rfl rfl (by decide) rfl rfl (pa_cons (pe_op op_cat (pe_lst (pa_cons pe_str pa_nil)) (pe_callTy call_list_of (by rfl) B.b_list (by decide +kernel) (pa_cons (pe_ix ix_tup (pv 0) pe_int (fun _ _ => rfl)) pa_nil))) (pa_cons (pe_call GW hr2 rfl B.g_law_shown kW bW .nil pass0 (pa_cons (pv 0) (pa_cons (pv 2) pa_nil))) pa_nil)) (by rfl)))
      (pss_cons (ps_cut (ps_set (i := 7) sc_lk.nd rfl (Or.inl rfl) (pe_callB cr_sortedS (by rfl) B.b_sorted (by decide +kernel) (pa_cons (pe_lc (own := [("_law_own", 6)]) (g := gName 6) (tt := tYes) rfl sc_lk.nd (pi_list (pv 5)) (blkOk_by (N := NLk) (sc := defScope s__law_looked_right) (by decide +kernel)) (fun _ _ _ _ _ => pg_name (i := 6) sc_lk.nd rfl (Or.inl rfl)) (fun _ _ _ _ _ => pts_nil) (fun _ _ _ _ _ => pe_callTy SkE.call_str_str (by rfl) B.b_str (by decide +kernel) (pa_cons (pv 6) pa_nil))) pa_nil))))
      (pss_cons (ps_cut (ps_set (i := 8) sc_lk.nd rfl (Or.inl rfl) (pe_lst (pa_cons (pe_lc (own := [("_law_own", 6)]) (g := gName 6) (tt := tYes) (te := tOp (rIxOwn (He.ga K "Stage") (spGet K) (fun _ _ _ => False)) (tVar 3) (tVar 6)) rfl sc_lk.nd (pi_list (pv 4)) (blkOk_by (N := NLk) (sc := defScope s__law_looked_right) (by decide +kernel)) (fun _ _ _ _ _ => pg_name (i := 6) sc_lk.nd rfl (Or.inl rfl)) (fun _ _ _ _ _ => pts_nil) (fun _ _ _ _ _ => pe_ixOwn (E := fun _ _ _ => False) GG hr4 B.sp_Stage_getitem B.fin_Stage_getitem bG passF (pv 3) (pv 6) (fun _ _ => rfl)))
          (pa_cons (pe_prop (pv 3) B.cl_Stage B.pr_Stage_fields GF hr6 bF .nil pass0 rfl) (pa_cons (pe_prop (pv 3) B.cl_Stage B.pr_Stage_text GX hr bX .nil pass0 rfl)
          (pa_cons (pe_callB (call_lenOwn (E := E0) GN hr2 B.sp_Stage_len.1 B.sp_Stage_len.2 bN pass0) (by rfl) B.b_len (by decide +kernel) (pa_cons (pv 3) pa_nil)) (pa_cons (pe_callTy (call_boolOwn (E := E0) GN hr4 B.nf_Stage___bool__ B.sp_Stage_len.1 B.sp_Stage_len.2 bN pass0) (by rfl) B.b_bool (by decide +kernel) (pa_cons (pv 3) pa_nil)) pa_nil))))))))
      (pss_cons (ps_cut (ps_setLc (i := 9) (own := [("_law_own", 6)]) (g := gName 6) (tt := tTest (tOp rNe (tDGet (tVar 2) (tVar 6)) (tC (.int 1)))) (te := tVar 6) rfl sc_lk.nd rfl rfl (sw_true rfl rfl rfl (by decide +kernel)) (pi_list (pv 4)) (blkOk_by (N := NLk) (sc := defScope s__law_looked_right) (by decide +kernel)) (fun _ _ _ _ _ => pg_name (i := 6) sc_lk.nd rfl (Or.inl rfl)) (fun _ _ _ _ _ => pts_one (pt_cmpR op_ne (pe_dget hu (pv 2) (pv 6) (fun _ _ => rfl)) pe_int (nomark _))) (fun _ _ _ _ _ => pv 6)))
      (pss_cons (ps_cut (ps_set (i := 10) sc_lk.nd rfl (Or.inl rfl) (pe_ifExp (pt_cmpR (op_neD hr.units) (pv 7) (pe_lst pa_nil) (nomark _)) (pe_join pe_str (pv 7)) pe_str)))
      (pss_cons (ps_cut (ps_set (i := 11) sc_lk.nd rfl (Or.inl rfl) (pe_lst (pa_cons (pe_lc (own := [("_law_own", 6)]) (g := gName 6) (tt := tYes) (te := tDGet (tVar 2) (tVar 6)) rfl sc_lk.nd (pi_list (pv 4)) (blkOk_by (N := NLk) (sc := defScope s__law_looked_right) (by decide +kernel)) (fun _ _ _ _ _ => pg_name (i := 6) sc_lk.nd rfl (Or.inl rfl)) (fun _ _ _ _ _ => pts_nil) (fun _ _ _ _ _ => pe_dget hu (pv 2) (pv 6) (fun _ _ => rfl)))
          (pa_cons (pe_callTy call_tuple_of (by rfl) B.b_tuple (by decide +kernel) (pa_cons (pv 7) pa_nil)) (pa_cons (pv 10) (pa_cons (pe_callB call_len (by rfl) B.b_len (by decide +kernel) (pa_cons (pv 9) pa_nil)) (pa_cons (pe_cmpR (op_neD hr.units) (pv 9) (pe_lst pa_nil) (nomark _)) pa_nil))))))))
      (pss_cons (ps_if (PW.pt (pw_or (pt_not (pt_val (pe_call GQ hr4 rfl B.g_law_same kQ bQ .nil pass0 (pa_cons (pv 8) (pa_cons (pv 11) pa_nil))))) (pw_or1 (pt_cmpR (op_neOwn (E := E0) GE hr2 hu B.sp_Keys_eq.1 B.sp_Keys_eq.2 B.ne_Keys B.ty_Keys.2.2.2 bE pass0) (pe_prop (pv 3) B.cl_Stage B.pr_Stage_schema GS hr2 bS .nil pass0 rfl) (pv 1) (nomark _))))) (pss_one (ps_ret pe_bl)) pss_nil)
      (pss_cons (ps_for PassesOwn.never rfl (pi_list (pv 4)) (pg_name (i := 6) sc_lk.nd rfl (Or.inl rfl))
        (pss_cons (ps_for PassesOwn.never rfl (pi_tup (pe_tup (pa_cons pe_int (pa_cons pe_int (pa_cons pe_int (pa_cons pe_int (pa_cons pe_int (pa_cons pe_int (pa_cons (pe_op op_pow pe_int pe_int) pa_nil))))))))) (pg_name (i := 12) sc_lk.nd rfl (Or.inl rfl))
          (pss_cons (ps_cut (ps_set (i := 13) sc_lk.nd rfl (Or.inl rfl) (pe_or (pe_cmpR op_eq (pe_dget hu (pv 2) (pv 6) (fun _ _ => rfl)) pe_int (nomark _)) (pe_one (pe_cmpR op_eq (pe_op op_mod (pe_callTy call_int1 (by rfl) B.b_int (by decide +kernel) (pa_cons (pe_dget hu (pv 2) (pv 6) (fun _ _ => rfl)) pa_nil)) (pv 12)) pe_int (nomark _))))))
          (pss_one (ps_if (pt_cmpR op_ne (pe_cmpR (op_inOwn (E := E0) GI hr4 B.sp_Stage_contains.1 B.sp_Stage_contains.2 bI pass0) (pe_op op_add_str (pe_op op_add_str (pv 6) pe_str) (pe_callTy call_str_int (by rfl) B.b_str (by decide +kernel) (pa_cons (pv 12) pa_nil))) (pv 3) (by rfl)) (pv 13) (nomark _)) (pss_one (ps_ret pe_bl)) pss_nil))))
        (pss_one (ps_if (pt_cmpR op_ne (pe_cmpR (op_inOwn (E := E0) GI hr4 B.sp_Stage_contains.1 B.sp_Stage_contains.2 bI pass0) (pv 6) (pv 3) (by rfl)) (pe_cmpR op_eq (pe_dget hu (pv 2) (pv 6) (fun _ _ => rfl)) pe_int (nomark _)) (nomark _)) (pss_one (ps_ret pe_bl)) pss_nil))))
      (pss_one (ps_ret (pe_cmpR (op_eqD hr.units) (pe_lc (own := [("_law_own", 6)]) (g := gName 6) (tt := tYes) (te := tOp (rInOwn (He.ga K "Stage") (spInS K) E0) (tVar 6) (tVar 3)) rfl sc_lk.nd (pi_tup (pe_tup (pa_cons pe_str (pa_cons pe_str (pa_cons pe_str (pa_cons pe_str (pa_cons pe_str (pa_cons pe_str pa_nil)))))))) (blkOk_by (N := NLk) (sc := defScope s__law_looked_right) (by decide +kernel)) (fun _ _ _ _ _ => pg_name (i := 6) sc_lk.nd rfl (Or.inl rfl)) (fun _ _ _ _ _ => pts_nil) (fun _ _ _ _ _ => pe_cmpR (op_inOwn (E := E0) GI hr4 B.sp_Stage_contains.1 B.sp_Stage_contains.2 bI pass0) (pv 6) (pv 3) (by rfl))) (pe_op op_rep (pe_lst (pa_cons pe_bl pa_nil)) pe_int) (nomark _))))))))))), ?_⟩
    obtain ⟨f, g, qs, e1, e2, e3, e4⟩ := id hb
    have l5 := tb.l5
    have n0 := tb.noh
    have nd := tb.nd
    have ndk : (hs ns).Nodup := List.nodup_cons.mpr ⟨n0, nd⟩
    have l8 : (hs ns).length ≤ 8 := by rw [List.length_cons]; omega
    have l6 : (hs ns).length ≤ 6 := by rw [List.length_cons]; omega
    have big : (1000 : Nat) ≤ sizeLine := by decide
    have snd := shown_nd sm ndk
    have sle : (shownT ns (toldOf R ns) m).length ≤ 6 := by
      unfold shownT
      rw [List.length_map]
      exact Nat.le_trans (List.length_filter_le _ _) l6
    refine ⟨fun σ' H' => ∃ fl sh, Same H H' ∧ H' fl = some (.lst ((hs ns).map V.str)) ∧ H' sh = some (.lst ((shownT ns (toldOf R ns) m).map V.str)) ∧ σ' = [some (.ref b), some (.ref kk), some (.ref md), some (.ref x), some (.ref fl), some (.ref sh), none, none, none, none, none, none, none, none], ?_, ?_⟩
    · refine ⟨(by show 1 ≤ sizeLine; decide), fun a na => ?_⟩
      have s1 := Same_new (o := HO.lst [.str "#"]) na
      refine ⟨_, rfl, b, [.ref f, .ref g], 0, .ref f, rfl, rfl, SqT.of (s1 _ _ e1), rfl, f, _, rfl, .inr (SqT.of (s1 _ _ e2)), fun L nL => ?_⟩
      have s2 := Same_new (o := HO.lst (ns.map V.str)) nL
      refine ⟨a, L, _, _, rfl, rfl, s2 _ _ upd_same, upd_same, ?_, fun p np => ?_⟩
      · rw [List.length_map]
        show 1 + ns.length ≤ _
        omega
      · have s3 := Same_new (o := HO.lst ([V.str "#"] ++ ns.map V.str)) np
        have s13 := (s1.trans s2).trans s3
        refine ⟨_, rfl, _, rfl, b, md, ns, R, m, rfl, hb.same s13, tb, sm.nm, s13 _ _ hmd, sm.dv, fun H1 q s4 _ hq => ?_⟩
        exact ⟨_, _, rfl, p, q, s13.trans s4, s4 _ _ upd_same, hq, rfl⟩
    rintro σ1 H1 ⟨fl, sh, s1, hfl, hsh, rfl⟩
    refine ⟨fun σ' H' => ∃ ol os, os.Perm (shownT ns (toldOf R ns) m) ∧ sortedS os = true ∧ Same H H' ∧ H' fl = some (.lst ((hs ns).map V.str)) ∧ H' ol = some (.lst (os.map V.str)) ∧ σ' = [some (.ref b), some (.ref kk), some (.ref md), some (.ref x), some (.ref fl), some (.ref sh), none, some (.ref ol), none, none, none, none, none, none], ?_, ?_⟩
    · refine ⟨_, rfl, sh, rfl, ⟨_, SqL.of hsh⟩, fun D hD => ?_⟩
      refine lc_hs V.str hsh hD (Nat.le_trans sle (by decide)) (fun n hn H2 Kt Kf s2 kt => ⟨rfl, iteT (B := Kf H2) ⟨_, rfl, n, rfl, kt _ (Same.refl _)⟩⟩) (fun H2 s2 hD2 => ?_)
      refine ⟨D, _, rfl, SqL.of hD2, Nat.lt_of_le_of_lt sle (by decide), fun os ol pn so' nf => ?_⟩
      have s3 := Same_new (o := HO.lst (os.map V.str)) nf
      exact ⟨ol, os, pn, so', (s1.trans s2).trans s3, s3 _ _ (s2 _ _ hfl), upd_same, rfl⟩
    rintro σ2 H2 ⟨ol, os, pn, sos, s2, hfl2, hol, rfl⟩
    have osl : os.length ≤ 6 := by rw [pn.length_eq]; exact sle
    have uniq : ∀ ys : List Str, ys.Perm (txAll (shownT ns (toldOf R ns) m)) → sortedS ys = true → ys = os := fun ys py sy => sorted_one ((py.trans (by
      have q := txAll_perm (shownT ns (toldOf R ns) m) [] (by rw [List.append_nil]; exact snd)
      rw [List.append_nil] at q
      exact q)).trans pn.symm) sy sos
    clear hsh hfl s1
    refine ⟨fun σ' H' => ∃ got D p, Same H H' ∧ H' fl = some (.lst ((hs ns).map V.str)) ∧ H' ol = some (.lst (os.map V.str)) ∧ H' got = some (.lst [.ref D, .ref p, .str (joinOr os), .int (usedN ns m : Nat), .bl (((usedN ns m : Nat) : Int) != 0)]) ∧ H' D = some (.lst ((hs ns).map fun n => iV (m n))) ∧ H' p = some (.tup (os.map V.str)) ∧ σ' = [some (.ref b), some (.ref kk), some (.ref md), some (.ref x), some (.ref fl), some (.ref sh), none, some (.ref ol), some (.ref got), none, none, none, none, none], ?_, ?_⟩
    · refine ⟨_, rfl, fl, rfl, ⟨_, SqL.of hfl2⟩, fun D hD => ?_⟩
      have soD := so.same s2
      obtain ⟨dx, hx⟩ := so.x
      have ub : usedN ns m ≤ 8 := Nat.le_trans (List.length_filter_le _ _) l8
      have b1 : (0 : Int) ≤ ((usedN ns m : Nat) : Int) := by omega
      have b2 : ((usedN ns m : Nat) : Int) < 2 ^ 63 := by omega
      refine lc_hs (fun n => iV (m n)) hfl2 hD l8 (fun n hn H3 Kt Kf s3 kt => ⟨rfl, iteT (B := Kf H3) ⟨_, rfl, _, rfl, x, dx, _, rfl, (s2.trans s3) _ _ hx, x, kk, d, n, ns, m, rfl, (so.same (s2.trans s3)).r, fun _ => kt _ (Same.refl _), fun q => absurd hn q⟩⟩) (fun H3 s3 hD3 => ?_)
      have t3 := s2.trans s3
      refine ⟨_, rfl, x, dx, _, rfl, t3 _ _ hx, x, kk, d, ns, _, m, rfl, so.same t3, sm, fun H4 p ys s4 py sy hp => ?_⟩
      have ey := uniq ys py sy
      subst ey
      have t4 := t3.trans s4
      refine ⟨_, rfl, x, dx, _, rfl, t4 _ _ hx, x, kk, d, ns, _, m, rfl, so.same t4, sm, fun H5 zs s5 pz sz => ?_⟩
      have ez := uniq zs pz sz
      subst ez
      have t5 := t4.trans s5
      refine ⟨_, rfl, x, dx, _, rfl, t5 _ _ hx, x, kk, d, ns, _, m, rfl, so.same t5, (by omega), fun H6 s6 => ⟨_, rfl, b1, b2, ?_⟩⟩
      have t6 := t5.trans s6
      refine ⟨_, rfl, x, dx, _, rfl, t6 _ _ hx, x, kk, d, ns, _, m, rfl, so.same t6, (by omega), fun H7 s7 => ⟨_, rfl, b1, b2, ?_⟩⟩
      have t7 := t6.trans s7
      refine ⟨(by show 5 ≤ sizeLine; decide), fun got ng => ?_⟩
      have s8 := Same_new (o := HO.lst [V.ref D, .ref p, .str (joinOr zs), .int (usedN ns m : Nat), .bl (((usedN ns m : Nat) : Int) != 0)]) ng
      have s38 := (((s3.trans s4).trans s5).trans s6).trans (s7.trans s8)
      exact ⟨got, D, p, t7.trans s8, s38 _ _ hfl2, s38 _ _ hol, upd_same, (((s4.trans s5).trans s6).trans (s7.trans s8)) _ _ hD3, ((s5.trans s6).trans (s7.trans s8)) _ _ hp, rfl⟩
    rintro σ3 H3 ⟨got, D, p, s3, hfl3, hol3, hgot, hDg, hpg, rfl⟩
    clear hfl2 hol s2
    have noD : ∀ n ∈ shownT ns (toldOf R ns) m, isFieldB n = true := shown_ne sm
    have strO : ∀ z ∈ os, PyData.strOk z = true := fun z hz => shown_str sm z (pn.mem_iff.mp hz)
    have strU : ∀ z ∈ (hs ns).filter (fun n => decide (m n ≠ 1)), PyData.strOk z = true := fun z hz => key_ok sm.nm z (List.mem_filter.mp hz).1
    refine ⟨fun σ' H' => ∃ ul, Same H H' ∧ H' fl = some (.lst ((hs ns).map V.str)) ∧ H' ol = some (.lst (os.map V.str)) ∧ H' ul = some (.lst (((hs ns).filter (fun n => decide (m n ≠ 1))).map V.str)) ∧ H' got = some (.lst [.ref D, .ref p, .str (joinOr os), .int (usedN ns m : Nat), .bl (((usedN ns m : Nat) : Int) != 0)]) ∧ H' D = some (.lst ((hs ns).map fun n => iV (m n))) ∧ H' p = some (.tup (os.map V.str)) ∧ σ' = [some (.ref b), some (.ref kk), some (.ref md), some (.ref x), some (.ref fl), some (.ref sh), none, some (.ref ol), some (.ref got), some (.ref ul), none, none, none, none], ?_, ?_⟩
    · refine ⟨_, rfl, fl, rfl, ⟨_, SqL.of hfl3⟩, fun U hU => ?_⟩
      refine lc_fm (walk_list (xs := (hs ns).map V.str)) (fun i => ((hs ns)[i]?).bind fun n => if m n ≠ 1 then some (V.str n) else none) hU (by rw [List.length_map]; exact Nat.le_trans l8 (by decide)) (fun H' s' => SqL.of (s' _ _ hfl3)) (fun i v H4 H5 Kt Kf hi s4 y kt kf => ?_) (fun H4 s4 hU4 => ?_)
      · obtain ⟨rfl, hv⟩ := y
        obtain ⟨n, hn, rfl⟩ := at_str hv
        have hni : n ∈ hs ns := List.mem_of_getElem? hn
        rw [hn] at kt kf
        refine ⟨rfl, ⟨_, rfl, _, rfl, md, _, rfl, gd_kvG (s4 _ _ (s3 _ _ hmd)) hni, rfl, _, rfl, two (fun h1 => ?_) (fun h1 => ?_)⟩⟩
        · have m1 : m n ≠ 1 := fun e => by
            have h1' : (!decide (V.int ((m n : Nat) : Int) = V.int 1)) = true := h1
            rw [e] at h1'
            cases h1'
          exact ⟨_, rfl, kt _ _ (if_pos m1) (Same.refl _)⟩
        · have m1 : m n = 1 := by
            have h1' : (!decide (V.int ((m n : Nat) : Int) = V.int 1)) = false := h1
            by_cases q : m n = 1
            · exact q
            · rw [decide_eq_false fun y => q (by have := V.int.inj y; omega)] at h1'
              cases h1'
          exact kf _ (if_neg fun z => z m1) (Same.refl _)
      · rw [List.length_map, fm_names, fm_filter' (fun n => m n ≠ 1) V.str] at hU4
        exact ⟨U, s3.trans s4, s4 _ _ hfl3, s4 _ _ hol3, hU4, s4 _ _ hgot, s4 _ _ hDg, s4 _ _ hpg, rfl⟩
    rintro σ4 H4 ⟨ul, s4, hfl4, hol4, hul4, hgot4, hDg4, hpg4, rfl⟩
    clear hfl3 hol3 hgot hDg hpg s3
    refine ⟨fun σ' H' => Same H H' ∧ Same H4 H' ∧ σ' = [some (.ref b), some (.ref kk), some (.ref md), some (.ref x), some (.ref fl), some (.ref sh), none, some (.ref ol), some (.ref got), some (.ref ul), some (.str (joinOr os)), none, none, none], ?_, ?_⟩
    · refine ⟨_, rfl, Nat.zero_le _, fun e he => ?_⟩
      have se := Same_new (o := HO.lst []) he
      refine ⟨.list (os.map PyData.str), .list [], .lst (SqL.of (se _ _ hol4)) (dp_strs _), .lst (SqL.of upd_same) .nil, shp_strsL strO, by decide +kernel, _, rfl, ?_⟩
      rw [eqv_lnil, join_or fun z hz => noD z (pn.mem_iff.mp hz)]
      by_cases e0 : os = []
      · rw [decide_eq_true e0, if_pos e0]
        exact iteF ⟨s4.trans se, se, rfl⟩
      · rw [decide_eq_false e0, if_neg e0]
        have l2 : ∀ z ∈ os, z.length ≤ 30 := fun z hz => shown_len sm z (pn.mem_iff.mp hz)
        have l3 := sum_le l2
        have l4 : (" " : Str).length = 1 := by decide
        exact iteT ⟨⟨_, rfl⟩, _, rfl, " ", ol, os, rfl, rfl, .inl (SqL.of (se _ _ hol4)), (by rw [l4]; omega), s4.trans se, se, rfl⟩
    rintro σ5 H5 ⟨s5, s45, rfl⟩
    have hfl5 := s45 _ _ hfl4
    have hol5 := s45 _ _ hol4
    have hul5 := s45 _ _ hul4
    have hgot5 := s45 _ _ hgot4
    have hDg5 := s45 _ _ hDg4
    have hpg5 := s45 _ _ hpg4
    clear hfl4 hol4 hul4 hgot4 hDg4 hpg4 s4 s45
    refine ⟨fun σ' H' => ∃ gl, Same H H' ∧ H' fl = some (.lst ((hs ns).map V.str)) ∧ Sm H' 2 (.ref got) (.ref gl) ∧ σ' = [some (.ref b), some (.ref kk), some (.ref md), some (.ref x), some (.ref fl), some (.ref sh), none, some (.ref ol), some (.ref got), some (.ref ul), some (.str (joinOr os)), some (.ref gl), none, none], ?_, ?_⟩
    · refine ⟨_, rfl, fl, rfl, ⟨_, SqL.of hfl5⟩, fun D2 hD2 => ?_⟩
      refine lc_hs (fun n => iV (m n)) hfl5 hD2 l8 (fun n hn H6 Kt Kf s6 kt => ⟨rfl, iteT (B := Kf H6) ⟨_, rfl, _, rfl, md, _, rfl, gd_kvG ((s5.trans s6) _ _ hmd) hn, kt _ (Same.refl _)⟩⟩) (fun H6 s6 hD6 => ?_)
      refine ⟨_, rfl, ol, _, rfl, .inl ⟨SqL.of (s6 _ _ hol5), fun t2 nt2 => ?_⟩⟩
      have st := Same_new (o := HO.tup (os.map V.str)) nt2
      have s7 := s6.trans st
      refine ⟨_, rfl, _, rfl, _, _, rfl, .inl ⟨_, SqL.of (s7 _ _ hul5), rfl⟩, ?_⟩
      refine ⟨_, rfl, Nat.zero_le _, fun e he => ?_⟩
      have se := Same_new (o := HO.lst []) he
      have s8 := s7.trans se
      refine ⟨.list (((hs ns).filter (fun n => decide (m n ≠ 1))).map PyData.str), .list [], .lst (SqL.of (s8 _ _ hul5)) (dp_strs _), .lst (SqL.of upd_same) .nil, shp_strsL strU, by decide +kernel, ?_⟩
      refine ⟨(by show 5 ≤ sizeLine; decide), fun gl ngl => ?_⟩
      rw [eqv_lnil, List.length_map]
      have eb : (!decide ((hs ns).filter (fun n => decide (m n ≠ 1)) = [])) = (((usedN ns m : Nat) : Int) != 0) := by
        unfold usedN
        cases (hs ns).filter (fun n => decide (m n ≠ 1)) with
        | nil => rfl
        | cons a r =>
          rw [decide_eq_false (List.cons_ne_nil _ _)]
          symm
          show _ = true
          rw [bne_iff_ne, List.length_cons]
          omega
      rw [eb]
      have sg := Same_new (o := HO.lst [V.ref D2, .ref t2, .str (joinOr os), .int (((hs ns).filter (fun n => decide (m n ≠ 1))).length : Nat), .bl (((usedN ns m : Nat) : Int) != 0)]) ngl
      have s9 := s8.trans sg
      refine ⟨gl, s5.trans s9, s9 _ _ hfl5, ?_, rfl⟩
      refine .inr ⟨got, gl, _, _, rfl, rfl, ?_, ?_, fun i u v h1 h2 => ?_, .inl ⟨s9 _ _ hgot5, upd_same⟩⟩
      · rfl
      · show 5 < 1000
        decide
      · match i with
        | 0 =>
          cases h1
          cases h2
          exact sm_lst (s9 _ _ hDg5) (sg _ _ (se _ _ (st _ _ hD6))) (by rw [List.length_map]; omega) (fun y hy => by
            obtain ⟨n, _, rfl⟩ := List.mem_map.mp hy
            trivial)
        | 1 =>
          cases h1
          cases h2
          exact sm_tf (s9 _ _ hpg5) (sg _ _ (se _ _ upd_same)) (by omega)
        | 2 =>
          cases h1
          cases h2
          exact Sm_flat trivial
        | 3 =>
          cases h1
          cases h2
          exact Sm_flat trivial
        | 4 =>
          cases h1
          cases h2
          exact Sm_flat trivial
        | i + 5 => cases h1
    rintro σ6 H6 ⟨gl, s6, hfl6, hsm, rfl⟩
    clear hfl5 hol5 hul5 hgot5 hDg5 hpg5 s5
    refine ⟨_, rfl, _, rfl, _, _, rfl, hsm, fun H7 s7 => ?_⟩
    have t7 := s6.trans s7
    have hfl7 := s7 _ _ hfl6
    obtain ⟨dx, hx⟩ := so.x
    obtain ⟨d1, _, _, _, hk1, _⟩ := id so.k
    refine ⟨_, rfl, iteF ?_⟩
    refine ⟨_, rfl, x, dx, _, rfl, t7 _ _ hx, x, kk, d, ns, m, rfl, (so.same t7).r, ?_⟩
    refine ⟨_, rfl, kk, d1, _, _, rfl, t7 _ _ hk1, (so.k.same t7).tyY B, nf_self, kk, kk, ns, _, rfl, so.k.same t7, .inl ⟨ns, _, so.k.same t7, _, rfl, _, rfl, ?_⟩⟩
    rw [keys_same]
    refine iteF ?_
    refine ⟨_, rfl, fl, rfl, ⟨_, SqL.of hfl7⟩, ?_⟩
    refine for_it (walk_list (xs := (hs ns).map V.str)) (fun i σ H' => ∃ v6 v12 v13 : Option V, σ = [some (.ref b), some (.ref kk), some (.ref md), some (.ref x), some (.ref fl), some (.ref sh), v6, some (.ref ol), some (.ref got), some (.ref ul), some (.str (joinOr os)), some (.ref gl), v12, v13] ∧ Same H7 H')
      ⟨_, _, _, rfl, Same.refl _⟩ (fun i σ H' _ ⟨_, _, _, _, s'⟩ => SqL.of (s' _ _ hfl7)) (fun i v σ H8 H9 hi ⟨v6, v12, v13, e, s8⟩ y => ?_) (fun σ H8 ⟨v6, v12, v13, e, s8⟩ => ?_)
    · obtain ⟨rfl, hv⟩ := y
      subst e
      obtain ⟨n, hn, rfl⟩ := at_str hv
      have hni : n ∈ hs ns := List.mem_of_getElem? hn
      have ho := own_hsY sm hni
      have t8 := t7.trans s8
      refine ⟨_, _, rfl, rfl, ⟨by decide, by decide, by decide⟩, (by show 7 ≤ sizeLine; decide), fun p2 np2 => ⟨p2, rfl, ⟨_, SqT.of upd_same⟩, ?_⟩⟩
      have sp := Same_new (o := HO.tup (stp7.map iV)) np2
      have hp2 : (upd H9 p2 (.tup (stp7.map iV))) p2 = some (.tup (stp7.map iV)) := upd_same
      refine for_it (walk_tup (xs := stp7.map iV)) (fun j σ H' => ∃ v12 v13 : Option V, σ = [some (.ref b), some (.ref kk), some (.ref md), some (.ref x), some (.ref fl), some (.ref sh), some (.str n), some (.ref ol), some (.ref got), some (.ref ul), some (.str (joinOr os)), some (.ref gl), v12, v13] ∧ Same (upd H9 p2 (.tup (stp7.map iV))) H')
        ⟨_, _, rfl, Same.refl _⟩ (fun j σ H' _ ⟨_, _, _, s'⟩ => SqT.of (s' _ _ hp2)) (fun j v σ HA HB hj ⟨w12, w13, e, sA⟩ y => ?_) (fun σ HA ⟨w12, w13, e, sA⟩ => ?_)
      · obtain ⟨rfl, hv⟩ := y
        subst e
        obtain ⟨p0, hp0, rfl⟩ := List.mem_map.mp (List.mem_of_getElem? hv)
        obtain ⟨pd, pg, pl⟩ := steps7 p0 hp0
        have tA := (t8.trans sp).trans sA
        have hmA := tA _ _ hmd
        refine ⟨fun σ' H' => σ' = [some (.ref b), some (.ref kk), some (.ref md), some (.ref x), some (.ref fl), some (.ref sh), some (.str n), some (.ref ol), some (.ref got), some (.ref ul), some (.str (joinOr os)), some (.ref gl), some (iV p0), some (.bl (decide (p0 ∣ m n)))] ∧ H' = HB, ?_, ?_⟩
        · refine ⟨_, rfl, _, rfl, md, _, rfl, gd_kvG hmA hni, rfl, _, rfl, two (fun h1 => ?_) (fun h1 => ?_)⟩
          · have m0 : m n = 0 := by
              have q := V.int.inj (of_decide_eq_true h1)
              omega
            rw [decide_eq_true (show p0 ∣ m n by rw [m0]; exact Nat.dvd_zero _)]
            exact ⟨rfl, rfl⟩
          · have p1 : (0 : Int) < (p0 : Int) := by omega
            refine ⟨_, rfl, _, rfl, md, _, rfl, gd_kvG hmA hni, .inl ⟨_, rfl, _, rfl, _, _, rfl, rfl, p1, rfl, ?_⟩⟩
            rw [mod_dv]
            exact ⟨rfl, rfl⟩
        rintro σB HC ⟨rfl, rfl⟩
        obtain ⟨fa, f1, f2, f3⟩ := fld_at (p := p0) ho (.inr ⟨pd, pg⟩)
        have fe := fld_dec (o := n) pd pg
        have N := num_facts pd pg
        have lo := ho.len
        have l1 : ("/" : Str).length = 1 := by decide +kernel
        have l2 : (dec p0).length ≤ 10 := by rw [len_cd, cd_dec]; exact N.len
        refine ⟨_, rfl, _, _, rfl, rfl, ?_, _, rfl, _, rfl, ?_, _, _, rfl, rfl, ?_, _, rfl, x, dx, _, rfl, tA _ _ hx, x, kk, d, fldT n p0, ns, _, m, ?_, so.same tA, sm, fa, fun H' s' => ⟨_, rfl, _, rfl, rfl, _, rfl, ?_⟩⟩
        · show n.length + ("/" : Str).length ≤ sizeLine
          omega
        · refine Nat.lt_of_lt_of_le ((Nat.log2_lt (k := 60) ?_).mpr ?_) (by decide)
          · show p0 ≠ 0
            omega
          · show p0 < 2 ^ 60
            omega
        · show (n ++ "/").length + (dec p0).length ≤ sizeLine
          rw [app_len]
          omega
        · rw [fe]
          rfl
        · rw [f1, f2, f3, decide_eq_true hni, Bool.true_and, Bool.true_and]
          show if (!decide (V.bl (decide (p0 ∣ m n)) = V.bl (decide (p0 ∣ m n)))) = true then _ else _
          rw [decide_eq_true rfl]
          exact ⟨_, _, rfl, sA.trans s'⟩
      · subst e
        have tA := (t8.trans sp).trans sA
        obtain ⟨fa, f1, f2, f3⟩ := fld_at (p := 0) ho (.inl rfl)
        have fe : fldT n 0 = n := by
          unfold fldT
          rw [if_pos rfl]
        rw [fe] at fa f1 f2 f3
        refine ⟨_, rfl, _, rfl, x, dx, _, rfl, tA _ _ hx, x, kk, d, n, ns, _, m, rfl, so.same tA, sm, fa, fun H' s' => ⟨_, rfl, _, rfl, _, rfl, md, _, rfl, gd_kvG ((tA.trans s') _ _ hmd) hni, rfl, rfl, _, rfl, ?_⟩⟩
        rw [f1, f2, f3, decide_eq_true hni, Bool.true_and, Bool.true_and]
        show if (!decide (V.bl (decide (0 ∣ m n)) = V.bl (decide (V.int ((m n : Nat) : Int) = V.int 0)))) = true then _ else _
        rw [zero_dv, decide_eq_true rfl]
        exact ⟨_, _, _, rfl, ((s8.trans sp).trans sA).trans s'⟩
    · subst e
      have t8 := t7.trans s8
      refine ⟨(by show 6 ≤ sizeLine; decide), fun q hq => ⟨q, rfl, ⟨_, SqT.of upd_same⟩, fun D3 hD3 => ?_⟩⟩
      have sq := Same_new (o := HO.tup (six.map V.str)) hq
      have hq' : (upd H8 q (.tup (six.map V.str))) q = some (.tup (six.map V.str)) := upd_same
      refine lc_fm (walk_tup (xs := six.map V.str)) (fun i => (six[i]?).map fun _ => V.bl false) hD3 (by rw [List.length_map]; decide) (fun H' s' => SqT.of (s' _ _ hq')) (fun i v HA HB Kt Kf hi sA y kt kf => ?_) (fun HA sA hDA => ?_)
      · obtain ⟨rfl, hv⟩ := y
        obtain ⟨z, hz, rfl⟩ := at_str hv
        have hz6 : z ∈ six := List.mem_of_getElem? hz
        obtain ⟨o1, o2, o3, o4⟩ := odd6 z hz6
        have tA := (t8.trans sq).trans sA
        refine ⟨rfl, iteT (B := Kf HB) ⟨_, rfl, _, rfl, x, dx, _, rfl, tA _ _ hx, x, kk, d, z, ns, _, m, rfl, so.same tA, sm, ⟨o1, o2, o3⟩, fun H' s' => ⟨_, rfl, kt _ _ ?_ s'⟩⟩⟩
        rw [hz]
        rcases o4 with o4 | o4
        · rw [o4, Bool.false_and]
          rfl
        · rw [o4, decide_eq_false nq, Bool.false_and, Bool.and_false]
          rfl
      · have eD : (List.range (six.map V.str).length).filterMap (fun i => (six[i]?).map fun _ => V.bl false) = List.replicate 6 (V.bl false) := rfl
        rw [eD] at hDA
        refine ⟨(by show 1 ≤ sizeLine; decide), fun e he => ?_⟩
        have se := Same_new (o := HO.lst [V.bl false]) he
        refine ⟨e, 6, _, rfl, rfl, upd_same, by decide, by decide, (by show 1 * 6 ≤ sizeLine; decide), fun p3 hp3 => ?_⟩
        have s3' := Same_new (o := HO.lst (List.replicate (6 : Int).toNat [V.bl false]).flatten) hp3
        refine ⟨.list (List.replicate 6 (.bool false)), .list (List.replicate 6 (.bool false)), .lst (SqL.of ((se.trans s3') _ _ hDA)) (.cons (.bl _) (.cons (.bl _) (.cons (.bl _) (.cons (.bl _) (.cons (.bl _) (.cons (.bl _) .nil)))))), .lst (SqL.of upd_same) (.cons (.bl _) (.cons (.bl _) (.cons (.bl _) (.cons (.bl _) (.cons (.bl _) (.cons (.bl _) .nil)))))), by decide +kernel, by decide +kernel, ?_⟩
        have ee : PyData.eqv (.list (List.replicate 6 (.bool false))) (.list (List.replicate 6 (.bool false))) = true := by decide +kernel
        rw [ee]
        exact k _ (((t8.trans sq).trans sA).trans (se.trans s3'))
end
end Jd
namespace Jd
open PySem PySem.Spec PyProof.Rows L2
/-! ### answers of Stage, and lists of them -/
theorem take_first {zs : List Str} {i j : Nat} {y z : Str} {p : Str → Prop} (hi : zs[i]? = some y) (hj : zs[j]? = some z) (pi : ∀ x ∈ zs.take i, p x) (pj : ∀ x ∈ zs.take j, p x) (ny : ¬ p y) (nz : ¬ p z) : y = z := by
  rcases Nat.lt_trichotomy i j with q | q | q
  · refine absurd (pj y (List.mem_of_getElem? (i := i) ?_)) ny
    rw [List.getElem?_take_of_lt q]
    exact hi
  · subst q
    rw [hi] at hj
    cases hj
    rfl
  · refine absurd (pi z (List.mem_of_getElem? (i := j) ?_)) nz
    rw [List.getElem?_take_of_lt q]
    exact hj
theorem ans_bad {ns : List Str} {t : Str → List Str} {zs : List Str} {i : Nat} {z : Str} (hi : zs[i]? = some z) (hb : isFieldB z = false) (hp : ∀ y ∈ zs.take i, isFieldB y = true) : AnsOf ns t zs (.bad z) := by
  refine ⟨fun j y h1 h2 h3 => ?_, fun j y h1 h2 h3 h4 => ?_, fun h => ?_⟩
  · rw [take_first (p := fun y => isFieldB y = true) hi h1 hp h3 (by rw [hb]; decide) (by rw [h2]; decide)]
  · rw [h4 z (List.mem_of_getElem? hi)] at hb
    cases hb
  · rw [(h z (List.mem_of_getElem? hi)).1] at hb
    cases hb
theorem ans_name {ns : List Str} {t : Str → List Str} {zs : List Str} {i : Nat} {z o : Str} (hf : ∀ y ∈ zs, isFieldB y = true) (hi : zs[i]? = some z) (hn : fieldName z ∉ hs ns) (hp : ∀ y ∈ zs.take i, fieldName y ∈ hs ns) (ho : fieldName z = o) : AnsOf ns t zs (.name o) := by
  subst ho
  refine ⟨fun j y h1 h2 h3 => ?_, fun j y h1 h2 h3 h4 => ?_, fun h => ?_⟩
  · rw [hf y (List.mem_of_getElem? h1)] at h2
    cases h2
  · rw [take_first (p := fun y => fieldName y ∈ hs ns) hi h1 hp h3 hn h2]
  · exact absurd (h z (List.mem_of_getElem? hi)).2 hn
theorem ans_txt {ns : List Str} {R : List (Str × Str)} {zs ys : List Str} {e : Str} (n0 : ("#" : Str) ∉ ns) (nm : ∀ n ∈ ns, isName (cd n) = true) (fo : ∀ z ∈ zs, FldOk (hs ns) z) (pm : ys.Perm (txAll (shownT ns (toldOf R ns) (closeM ns (toldOf R ns) (joinS zs))))) (so : sortedS ys = true) (he : joinOr ys = e) : AnsOf ns (toldOf R ns) zs (.txt e) := by
  subst he
  refine ⟨fun j y h1 h2 h3 => ?_, fun j y h1 h2 h3 h4 => ?_, fun h => ⟨close_ok n0 nm fo, fun ys' pm' so' => ?_⟩⟩
  · rw [(fo y (List.mem_of_getElem? h1)).ok] at h2
    cases h2
  · exact absurd (fo y (List.mem_of_getElem? h1)).nam h2
  · rw [sorted_one (pm'.trans pm.symm) so' so]
theorem ends_good {K : PySem.W.Frag} {R : Hp → Prop} {E : XK} {ns zs : List Str} {kQ : Prop} (h : ∀ z ∈ zs, FldOk (hs ns) z) (k : kQ) : FldEnds K R E ns zs kQ :=
  ⟨fun i z h1 h2 => (by rw [(h z (List.mem_of_getElem? h1)).ok] at h2; cases h2), fun i z h1 h2 => absurd (h z (List.mem_of_getElem? h1)).nam h2, fun _ => k⟩
def fldP (ks : List Str) (z : Str) : Prop := isFieldB z = true ∧ z.length ≤ 1000 ∧ fieldName z ∈ ks ∧ fieldNum z = ((fnum z : Nat) : Int) ∧ (fnum z = 0 ∨ fnum z ∣ MB)
instance {ks : List Str} {z : Str} : Decidable (fldP ks z) := by
  unfold fldP
  infer_instance
theorem fldP_ok {ks : List Str} {z : Str} (h : fldP ks z) : FldOk ks z := ⟨h.1, h.2.1, h.2.2.1, h.2.2.2.1, h.2.2.2.2⟩
def anyP (z : Str) : Prop := z.length ≤ 1000 ∧ (isFieldB z = true → fieldNum z = ((fnum z : Nat) : Int)) ∧ (isFieldB z = true → fnum z = 0 ∨ fnum z ∣ MB)
instance {z : Str} : Decidable (anyP z) := by
  unfold anyP
  infer_instance
theorem anyP_ok {z : Str} (h : anyP z) : FldAny z := ⟨h.1, h.2.1, h.2.2⟩
inductive It where
  | a (x : Ans)
  | l (xs : List Nat)
  | b (c : Bool)
def ItAt (H : Hp) (v : V) : It → Prop
  | .a x => AnsAt H v x
  | .l xs => ∃ p, v = .ref p ∧ H p = some (.lst (xs.map iV))
  | .b c => v = .bl c
theorem AnsAt.same {H H' : Hp} (s : Same H H') {v : V} : ∀ {a : Ans}, AnsAt H v a → AnsAt H' v a
  | .txt _, h => h
  | .num _, h => h
  | .name _, ⟨p, e, h⟩ => ⟨p, e, s _ _ h⟩
  | .bad _, ⟨p, e, h⟩ => ⟨p, e, s _ _ h⟩
theorem ItAt.same {H H' : Hp} (s : Same H H') {v : V} : ∀ {i : It}, ItAt H v i → ItAt H' v i
  | .a _, h => AnsAt.same s h
  | .l _, ⟨p, e, h⟩ => ⟨p, e, s _ _ h⟩
  | .b _, h => h
def ItL (H : Hp) : List V → List It → Prop
  | [], [] => True
  | v :: vs, i :: is => ItAt H v i ∧ ItL H vs is
  | _, _ => False
theorem ItL.same {H H' : Hp} (s : Same H H') : ∀ {vs : List V} {is : List It}, ItL H vs is → ItL H' vs is
  | [], [], _ => trivial
  | _ :: _, _ :: _, h => ⟨ItAt.same s h.1, ItL.same s h.2⟩
  | [], _ :: _, h => h.elim
  | _ :: _, [], h => h.elim
theorem ItL.app {H : Hp} : ∀ {vs ws : List V} {is js : List It}, ItL H vs is → ItL H ws js → ItL H (vs ++ ws) (is ++ js)
  | [], _, [], _, _, h => h
  | _ :: _, _, _ :: _, _, h, g => ⟨h.1, ItL.app h.2 g⟩
  | [], _, _ :: _, _, h, _ => h.elim
  | _ :: _, _, [], _, h, _ => h.elim
theorem ItL.len {H : Hp} : ∀ {vs : List V} {is : List It}, ItL H vs is → vs.length = is.length
  | [], [], _ => rfl
  | _ :: _, _ :: _, h => by rw [List.length_cons, List.length_cons, ItL.len h.2]
  | [], _ :: _, h => h.elim
  | _ :: _, [], h => h.elim
theorem sm_pair {H : Hp} {a b : Addr} {u w : V} (h1 : H a = some (.tup [u, w])) (h2 : H b = some (.tup [u, w])) (f1 : FlatV u) (f2 : FlatV w) : Sm H 1 (.ref a) (.ref b) :=
  .inr ⟨a, b, _, _, rfl, rfl, rfl, (by show 2 < 1000; decide), fun i x y e1 e2 => (by
    match i with
    | 0 => cases e1; cases e2; exact Sm_flat f1
    | 1 => cases e1; cases e2; exact Sm_flat f2
    | i + 2 => cases e1), .inr ⟨h1, h2⟩⟩
theorem sm_ans {H : Hp} {v w : V} : ∀ {a : Ans}, AnsAt H v a → AnsAt H w a → Sm H 1 v w
  | .txt z, h, g => by
    cases h
    cases g
    exact Sm_flat trivial
  | .num z, h, g => by
    cases h
    cases g
    exact Sm_flat trivial
  | .name z, ⟨p, e, h⟩, ⟨q, e', g⟩ => by
    subst e
    subst e'
    exact sm_pair h g trivial trivial
  | .bad z, ⟨p, e, h⟩, ⟨q, e', g⟩ => by
    subst e
    subst e'
    exact sm_pair h g trivial trivial
def It.smallB : It → Bool
  | .l xs => decide (xs.length < 1000)
  | _ => true
def It.small (i : It) : Prop := i.smallB = true
instance {i : It} : Decidable i.small := by
  unfold It.small
  infer_instance
theorem sm_it {H : Hp} {v w : V} : ∀ {i : It}, i.small → ItAt H v i → ItAt H w i → Sm H 1 v w
  | .a x, _, h, g => sm_ans h g
  | .l xs, l, ⟨p, e, h⟩, ⟨q, e', g⟩ => by
    subst e
    subst e'
    exact sm_lst h g (by rw [List.length_map]; exact of_decide_eq_true l) fun x hx => by
      obtain ⟨n, _, rfl⟩ := List.mem_map.mp hx
      trivial
  | .b c, _, h, g => by
    cases h
    cases g
    exact Sm_flat trivial
theorem sm_its0 {H : Hp} : ∀ {vs ws : List V} {is : List It}, (∀ i ∈ is, i.small) → ItL H vs is → ItL H ws is → ∀ (i : Nat) (u v : V), vs[i]? = some u → ws[i]? = some v → Sm H 1 u v
  | [], _, _, _, _, _, _, _, _, h, _ => by cases h
  | _ :: _, [], _, _, _, _, _, _, _, _, h => by cases h
  | _ :: _, _ :: _, [], _, h, _, _, _, _, _, _ => h.elim
  | a :: vs, b :: ws, j :: is, sm, h, g, i, u, v, e1, e2 => by
    match i with
    | 0 =>
      cases e1
      cases e2
      exact sm_it (sm _ List.mem_cons_self) h.1 g.1
    | i + 1 => exact sm_its0 (fun i hi => sm i (List.mem_cons_of_mem _ hi)) h.2 g.2 i u v e1 e2
theorem sm_its {H : Hp} {a b : Addr} {vs ws : List V} {is : List It} (sm : ∀ i ∈ is, i.small) (h1 : H a = some (.lst vs)) (h2 : H b = some (.lst ws)) (p1 : ItL H vs is) (p2 : ItL H ws is) (l : is.length < 1000) : Sm H 2 (.ref a) (.ref b) :=
  .inr ⟨a, b, vs, ws, rfl, rfl, by rw [p1.len, p2.len], by rw [p1.len]; exact l, sm_its0 sm p1 p2, .inl ⟨h1, h2⟩⟩
/-! ### by hand: what is asked -/
def ns3 : List Str := ["city", "shop", "user"]
def R1 : List (Str × Str) := [("shop", "city")]
def ns5 : List Str := ["a", "b", "c", "d", "e"]
def R4 : List (Str × Str) := [("d", "e"), ("a", "b"), ("c", "d"), ("b", "c")]
def shT (ns : List Str) (R : List (Str × Str)) (zs : List Str) : List Str := if sortedS (txAll (shownT ns (toldOf R ns) (closeM ns (toldOf R ns) (joinS zs)))) = true then txAll (shownT ns (toldOf R ns) (closeM ns (toldOf R ns) (joinS zs))) else (txAll (shownT ns (toldOf R ns) (closeM ns (toldOf R ns) (joinS zs)))).reverse
theorem shT_perm {ns : List Str} {R : List (Str × Str)} {zs : List Str} : (shT ns R zs).Perm (txAll (shownT ns (toldOf R ns) (closeM ns (toldOf R ns) (joinS zs)))) := by
  unfold shT
  split
  · exact List.Perm.refl _
  · exact List.reverse_perm _
def es6 : List (Str × Str) := [("", "-"), ("  ", "-"), ("-", "-"), (" - ", "-"), ("user/2 user/3 user/4", "user/12"), ("city shop", "shop")]
def es3 : List (Str × Str) := [("#/6 #/4 city/5", "#/12 city/5"), ("user # shop", "#"), ("city/9 shop", "shop")]
def litP (p : Str × Str) : Prop := p.1.length ≤ 10000 ∧ (wordsOf p.1).length ≤ 100 ∧ (∀ y ∈ wordsOf p.1, PyData.strOk y = true) ∧ (∀ y ∈ wordsS p.1, fldP (hs ns3) y) ∧ sortedS (shT ns3 R1 (wordsS p.1)) = true ∧ joinOr (shT ns3 R1 (wordsS p.1)) = p.2
instance {p : Str × Str} : Decidable (litP p) := by
  unfold litP
  infer_instance
theorem es6_ok : ∀ p ∈ es6, litP p := by decide +kernel
theorem es3_ok : ∀ p ∈ es3, litP p := by decide +kernel
theorem ns3_nm : ∀ n ∈ ns3, isName (cd n) = true := by decide +kernel
theorem ns5_nm : ∀ n ∈ ns5, isName (cd n) = true := by decide +kernel
def anyW (z : Str) : Prop := z.length ≤ 10000 ∧ (wordsOf z).length ≤ 100 ∧ (∀ y ∈ wordsOf z, PyData.strOk y = true) ∧ ∀ y ∈ wordsS z, anyP y
instance {z : Str} : Decidable (anyW z) := by
  unfold anyW
  infer_instance
theorem w5 : ∀ z ∈ (["user item a2 -", "user lot/3 item", "- user", "- -"] : List Str), anyW z := by decide +kernel
theorem a1 : AnsOf ns3 (toldOf R1 ns3) ["user", "item/2", "lot"] (.name "item") := ans_name (i := 1) (z := "item/2") (by decide +kernel) rfl (by decide +kernel) (by decide +kernel) (by decide +kernel)
theorem a2 : AnsOf ns3 (toldOf R1 ns3) (wordsS "user item a2 -") (.bad "a2") := ans_bad (i := 2) (by decide +kernel) (by decide +kernel) (by decide +kernel)
theorem a3 : AnsOf ns3 (toldOf R1 ns3) (wordsS "user lot/3 item") (.name "lot") := ans_name (i := 1) (z := "lot/3") (by decide +kernel) (by decide +kernel) (by decide +kernel) (by decide +kernel) (by decide +kernel)
theorem a4 : AnsOf ns3 (toldOf R1 ns3) (wordsS "- user") (.bad "-") := ans_bad (i := 0) (by decide +kernel) (by decide +kernel) (by decide +kernel)
theorem a5 : AnsOf ns3 (toldOf R1 ns3) (wordsS "- -") (.bad "-") := ans_bad (i := 0) (by decide +kernel) (by decide +kernel) (by decide +kernel)
theorem a6_fo : ∀ z ∈ (["#/2", "#/5"] : List Str), FldOk (hs []) z := fun z hz => fldP_ok ((by decide +kernel : ∀ z ∈ (["#/2", "#/5"] : List Str), fldP (hs []) z) z hz)
theorem a6 : AnsOf [] (toldOf [] []) ["#/2", "#/5"] (.txt "#/10") := ans_txt (ys := shT [] [] ["#/2", "#/5"]) List.not_mem_nil (fun n h => nomatch h) a6_fo shT_perm (by decide +kernel) (by decide +kernel)
theorem ch_fo : ∀ z ∈ (["a", "e/7"] : List Str), FldOk (hs ns5) z := fun z hz => fldP_ok ((by decide +kernel : ∀ z ∈ (["a", "e/7"] : List Str), fldP (hs ns5) z) z hz)
def mch : Str → Nat := closeM ns5 (toldOf R4 ns5) (joinS ["a", "e/7"])
theorem ch_st : StM ns5 (toldOf R4 ns5) mch := close_ok (by decide +kernel) ns5_nm ch_fo
theorem ch_nums : (hs ns5).map mch = [1, 0, 0, 0, 0, 0] := by decide +kernel
theorem ch_sh : sortedS (shT ns5 R4 ["a", "e/7"]) = true ∧ joinOr (shT ns5 R4 ["a", "e/7"]) = "a" := by decide +kernel
end Jd
namespace Jd
open PySem PySem.Spec PyProof.Rows L2
/-! ### by hand; the derivation is printed by gen_yc.py -/
theorem new_at {H : Hp} {a : Addr} (o : HO) (_ : H a = none) : (upd H a o) a = some o := upd_same
def spBH : Sp := fun vs H Q _ => vs = [] ∧ ∀ H', Same H H' → Q (.bl true) H'
section
variable {P : Program} {w : World} {K : PySem.W.Frag} {mg : Str → Option Value} {base : Heap}
abbrev NBh : List Str := ["_law_keyring", "_law_got", "_law_goal", "_law_flat", "_law_chain_so", "_law_own"]
theorem sc_bh : FnScope NBh [] (defScope s__law_by_hand_right) := ⟨rfl, rfl, rfl, by decide +kernel, rfl, by decide +kernel, by decide +kernel⟩
theorem ok_by_hand (B : Bk K mg) : Df P w K mg base CX0 11 "_law_by_hand_right" [] spBH := by
  obtain ⟨fd, F⟩ := B.F_law_by_hand_right
  obtain ⟨fdI, GI, ⟨dsF, vDf, bDf⟩, FI⟩ := ok_Keys_init (P := P) (w := w) (base := base) B
  have bI := kb_two FI
  obtain ⟨fdS, GS, bS⟩ := ok_Stage_initX (P := P) (w := w) (base := base) B
  obtain ⟨fdX, GX, bX⟩ := ok_stext (P := P) (w := w) (base := base) B
  obtain ⟨fdG, GG, bG⟩ := ok_get (P := P) (w := w) (base := base) B
  obtain ⟨fdN, GN, bN⟩ := ok_sin (P := P) (w := w) (base := base) B
  obtain ⟨fdO, GO, FO⟩ := ok_Stage_of (P := P) (w := w) (base := base) B
  have bO : Binds K fdO ["keys", "text"] [] := FO.binds fun _ _ _ _ _ _ us hl => match us, hl with | [_, _], _ => rfl
  obtain ⟨fdH, GH, bH⟩ := (ok_heard (P := P) (w := w) (base := base) B).ex
  have kH := (ok_heard (P := P) (w := w) (base := base) B).kp
  obtain ⟨fdQ, GQ, bQ⟩ := (ok_law_same (P := P) (w := w) (base := base) B 2).ex
  have kQ := (ok_law_same (P := P) (w := w) (base := base) B 2).kp
  refine ⟨⟨fd, ?_, F.binds fun _ _ _ _ _ _ us hl => match us, hl with | [], _ => rfl⟩, B.g_law_by_hand_right, F.kp⟩
  refine F.ok sc_bh (fun vs H Q E h => ?_) (fun cdv A outer s H vs Q E hr h => ?_)
  · obtain ⟨rfl, _⟩ := h
    rfl
  · obtain ⟨rfl, k⟩ := h
    have hr4 : Room 4 _ := hr.mono (by decide)
    have hr7 : Room 7 _ := hr.mono (by decide)
    have hr8 : Room 8 _ := hr.mono (by decide)
    refine ⟨_, pss_cons (ps_cut (ps_set (i := 0) sc_bh.nd rfl (Or.inl rfl) (pe_make (E := fun _ _ _ => False) B.mk_Keys GI hr4 (by rfl) B.g_Keys bI .nil passF (pa_cons (pe_tup (pa_cons pe_str (pa_cons pe_str (pa_cons pe_str pa_nil)))) (pa_cons (pe_tup (pa_cons (pe_tup (pa_cons pe_str (pa_cons pe_str pa_nil))) pa_nil)) pa_nil)))))
      (pss_cons (ps_cut (ps_par (i := 1) (j := 2) (by rfl) sc_bh.nd rfl rfl (by decide) rfl rfl (pa_cons (pe_lst pa_nil) (pa_cons (pe_lst pa_nil) pa_nil)) (by rfl)))
      (pss_cons (ps_cut (ps_for PassesOwn.never rfl (pi_tup (pe_tup (pa_cons pe_str (pa_cons pe_str (pa_cons pe_str (pa_cons pe_str (pa_cons pe_str (pa_cons pe_str pa_nil)))))))) (pg_name (i := 3) sc_bh.nd rfl (Or.inl rfl)) (pss_one (ps_expr (pe_bm PySem.F.plainAttrs_list PySem.F.slot_list_append PySem.F.type_list_append mt_append (pv 1) (pa_cons (pe_prop (pe_smeth (E := fun _ _ _ => False) (pe_glob (v := .ref (He.ga K "Stage")) rfl B.g_Stage rfl) B.sm_Stage_of GO hr8 bO .nil passF (pa_cons (pv 0) (pa_cons (pv 3) pa_nil))) B.cl_Stage B.pr_Stage_text GX hr8 bX .nil pass0 rfl) pa_nil))))))
      (pss_cons (ps_cut (ps_for PassesOwn.never rfl (pi_tup (pe_tup (pa_cons pe_str (pa_cons pe_str (pa_cons pe_str pa_nil))))) (pg_name (i := 3) sc_bh.nd rfl (Or.inl rfl)) (pss_one (ps_expr (pe_bm PySem.F.plainAttrs_list PySem.F.slot_list_append PySem.F.type_list_append mt_append (pv 1) (pa_cons (pe_prop (pe_smeth (E := fun _ _ _ => False) (pe_glob (v := .ref (He.ga K "Stage")) rfl B.g_Stage rfl) B.sm_Stage_of GO hr8 bO .nil passF (pa_cons (pv 0) (pa_cons (pv 3) pa_nil))) B.cl_Stage B.pr_Stage_text GX hr8 bX .nil pass0 rfl) pa_nil))))))
      (pss_cons (ps_cut (ps_set (i := 2) sc_bh.nd rfl (Or.inl rfl) (pe_lst (pa_cons pe_str (pa_cons pe_str (pa_cons pe_str (pa_cons pe_str (pa_cons pe_str (pa_cons pe_str (pa_cons pe_str (pa_cons pe_str (pa_cons pe_str pa_nil))))))))))))
      (pss_cons (ps_cut (ps_set (i := 1) sc_bh.nd rfl (Or.inl rfl) (pe_op op_cat (pv 1) (pe_lst (pa_cons (pe_call GH hr rfl B.g_law_heard kH bH .nil pass0 (pa_cons pe_int (pa_cons (pv 0) (pa_cons (pe_tup (pa_cons pe_str (pa_cons pe_str (pa_cons pe_str pa_nil)))) pa_nil)))) (pa_cons (pe_call GH hr rfl B.g_law_heard kH bH .nil pass0 (pa_cons pe_int (pa_cons (pv 0) (pa_cons pe_str pa_nil)))) pa_nil))))))
      (pss_cons (ps_cut (ps_set (i := 2) sc_bh.nd rfl (Or.inl rfl) (pe_op op_cat (pv 2) (pe_lst (pa_cons (pe_tup (pa_cons pe_str (pa_cons pe_str pa_nil))) (pa_cons (pe_tup (pa_cons pe_str (pa_cons pe_str pa_nil))) pa_nil))))))
      (pss_cons (ps_cut (ps_set (i := 1) sc_bh.nd rfl (Or.inl rfl) (pe_op op_cat (pv 1) (pe_lst (pa_cons (pe_call GH hr rfl B.g_law_heard kH bH .nil pass0 (pa_cons pe_int (pa_cons (pv 0) (pa_cons pe_str pa_nil)))) (pa_cons (pe_call GH hr rfl B.g_law_heard kH bH .nil pass0 (pa_cons pe_int (pa_cons (pv 0) (pa_cons pe_str pa_nil)))) pa_nil))))))
      (pss_cons (ps_cut (ps_set (i := 1) sc_bh.nd rfl (Or.inl rfl) (pe_op op_cat (pv 1) (pe_lst (pa_cons (pe_call GH hr rfl B.g_law_heard kH bH .nil pass0 (pa_cons pe_int (pa_cons (pv 0) (pa_cons pe_str pa_nil)))) (pa_cons (pe_call GH hr rfl B.g_law_heard kH bH .nil pass0 (pa_cons pe_int (pa_cons (pv 0) (pa_cons pe_str pa_nil)))) pa_nil))))))
      (pss_cons (ps_cut (ps_set (i := 2) sc_bh.nd rfl (Or.inl rfl) (pe_op op_cat (pv 2) (pe_lst (pa_cons (pe_tup (pa_cons pe_str (pa_cons pe_str pa_nil))) (pa_cons (pe_tup (pa_cons pe_str (pa_cons pe_str pa_nil))) (pa_cons (pe_tup (pa_cons pe_str (pa_cons pe_str pa_nil))) (pa_cons (pe_tup (pa_cons pe_str (pa_cons pe_str pa_nil))) pa_nil))))))))
      (pss_cons (ps_cut (ps_set (i := 4) sc_bh.nd rfl (Or.inr rfl) (pe_make (E := fun _ _ _ => False) B.mk_Stage GS hr7 (by rfl) B.g_Stage bS .nil passF (pa_cons (pe_make (E := fun _ _ _ => False) B.mk_Keys GI hr4 (by rfl) B.g_Keys bI .nil passF (pa_cons (pe_tup (pa_cons pe_str (pa_cons pe_str (pa_cons pe_str (pa_cons pe_str (pa_cons pe_str pa_nil)))))) (pa_cons (pe_tup (pa_cons (pe_tup (pa_cons pe_str (pa_cons pe_str pa_nil))) (pa_cons (pe_tup (pa_cons pe_str (pa_cons pe_str pa_nil))) (pa_cons (pe_tup (pa_cons pe_str (pa_cons pe_str pa_nil))) (pa_cons (pe_tup (pa_cons pe_str (pa_cons pe_str pa_nil))) pa_nil))))) pa_nil))) (pa_cons (pe_tup (pa_cons pe_str (pa_cons pe_str pa_nil))) pa_nil)))))
      (pss_cons (ps_cut (ps_set (i := 1) sc_bh.nd rfl (Or.inl rfl) (pe_op op_cat (pv 1) (pe_lst (pa_cons (pe_prop (pv 4) B.cl_Stage B.pr_Stage_text GX hr8 bX .nil pass0 rfl) (pa_cons (pe_lc (own := [("_law_own", 5)]) (g := gName 5) (tt := tYes) (te := tOp (rIxOwn (He.ga K "Stage") (spGet K) (fun _ _ _ => False)) (tVar 4) (tVar 5)) rfl sc_bh.nd (pi_tup (pe_tup (pa_cons pe_str (pa_cons pe_str (pa_cons pe_str (pa_cons pe_str (pa_cons pe_str (pa_cons pe_str pa_nil)))))))) (blkOk_by (N := NBh) (sc := defScope s__law_by_hand_right) (by decide +kernel)) (fun _ _ _ _ _ => pg_name (i := 5) sc_bh.nd rfl (Or.inl rfl)) (fun _ _ _ _ _ => pts_nil) (fun _ _ _ _ _ => pe_ixOwn (E := fun _ _ _ => False) GG hr4 B.sp_Stage_getitem B.fin_Stage_getitem bG passF (pv 4) (pv 5) (fun _ _ => rfl))) (pa_cons (pe_cmpR (op_inOwn (E := E0) GN hr4 B.sp_Stage_contains.1 B.sp_Stage_contains.2 bN pass0) pe_str (pv 4) (by rfl)) pa_nil)))))))
      (pss_cons (ps_cut (ps_set (i := 2) sc_bh.nd rfl (Or.inl rfl) (pe_op op_cat (pv 2) (pe_lst (pa_cons pe_str (pa_cons (pe_lst (pa_cons pe_int (pa_cons pe_int (pa_cons pe_int (pa_cons pe_int (pa_cons pe_int (pa_cons pe_int pa_nil))))))) (pa_cons pe_bl pa_nil)))))))
      (pss_cons (ps_cut (ps_set (i := 1) sc_bh.nd rfl (Or.inl rfl) (pe_op op_cat (pv 1) (pe_lst (pa_cons (pe_call GH hr rfl B.g_law_heard kH bH .nil pass0 (pa_cons pe_int (pa_cons (pv 0) (pa_cons pe_str pa_nil)))) (pa_cons (pe_call GH hr rfl B.g_law_heard kH bH .nil pass0 (pa_cons pe_int (pa_cons (pv 0) (pa_cons pe_str pa_nil)))) pa_nil))))))
      (pss_cons (ps_cut (ps_expr (pe_bm PySem.F.plainAttrs_list PySem.F.slot_list_append PySem.F.type_list_append mt_append (pv 1) (pa_cons (pe_call GH hr rfl B.g_law_heard kH bH .nil pass0 (pa_cons pe_int (pa_cons (pe_make (E := fun _ _ _ => False) B.mk_Keys GI hr4 (by rfl) B.g_Keys bDf vDf passF (pa_cons (pe_tup pa_nil) pa_nil)) (pa_cons (pe_tup (pa_cons pe_str (pa_cons pe_str pa_nil))) pa_nil)))) pa_nil))))
      (pss_one (ps_ret (pe_call GQ hr4 rfl B.g_law_same kQ bQ .nil pass0 (pa_cons (pv 1) (pa_cons (pe_op op_cat (pv 2) (pe_lst (pa_cons pe_int (pa_cons (pe_tup (pa_cons pe_str (pa_cons pe_str pa_nil))) (pa_cons pe_str pa_nil))))) pa_nil))))))))))))))))))), ?_⟩
    refine ⟨fun σ' H' => ∃ x, σ' = [some (.ref x), none, none, none, none, none] ∧ Same H H' ∧ KeysO K H' x ns3 (toldOf R1 ns3), ?_, ?_⟩
    · refine ⟨(by show 3 ≤ sizeLine; decide), fun a na => ⟨(by show 2 ≤ sizeLine; decide), fun b1 nb1 => ⟨(by show 1 ≤ sizeLine; decide), fun te nte => fun x dx nx ndx nex => ?_⟩⟩⟩
      have sa := Same_new (o := HO.tup (ns3.map V.str)) na
      have ha := new_at (HO.tup (ns3.map V.str)) na
      have sb1 := Same_new (o := HO.tup [V.str "shop", V.str "city"]) nb1
      have hb1 := new_at (HO.tup [V.str "shop", V.str "city"]) nb1
      have ste := Same_new (o := HO.tup [V.ref b1]) nte
      have hte := new_at (HO.tup [V.ref b1]) nte
      have ss := (sa.trans sb1).trans ste
      have pp : PrAt _ [b1] R1 := ⟨rfl, fun i q hq => (by
        match i with
        | 0 =>
          cases hq
          exact ⟨("shop", "city"), rfl, ste _ _ hb1⟩
        | i + 1 => cases hq)⟩
      refine ki_gen (names := ns3) (R := R1) nx ndx (.inr (SqT.of (ste _ _ (sb1 _ _ ha)))) (by decide +kernel) (by decide) (by decide +kernel) (tells_of hte pp) (by decide) (by decide +kernel) ⟨ns3, fun z => if z = "city" then 1 else 0, by decide +kernel, by decide +kernel⟩ fun ns' pm so' nd' H' s' ko => ?_
      have e := names_one (names := ns3) (ns := ns3) (by decide +kernel) (by decide +kernel) (fun _ => Iff.rfl) ns' pm so'
      subst e
      exact ⟨rfl, x, rfl, ss.trans s', ko⟩
    rintro σ1 H1 ⟨kk, rfl, s1, ko1⟩
    refine ⟨fun σ' H' => ∃ got goal, σ' = [some (.ref kk), some (.ref got), some (.ref goal), none, none, none] ∧ Same H1 H' ∧ H1 got = none ∧ got ≠ goal ∧ H' got = some (.lst []) ∧ H' goal = some (.lst []), ?_, ?_⟩
    · refine ⟨Nat.zero_le _, fun got ng => ⟨Nat.zero_le _, fun goal ngo => ?_⟩⟩
      have sg := Same_new (o := HO.lst []) ng
      have sgo := Same_new (o := HO.lst []) ngo
      exact ⟨_, _, rfl, got, goal, rfl, sg.trans sgo, ng, fun e => (by rw [e, upd_same] at ngo; cases ngo), sgo _ _ upd_same, upd_same⟩
    rintro σ2 H2 ⟨got, goal, rfl, s12, ng, ngg, hgot, hgoal⟩
    have n30 : ("#" : Str) ∉ ns3 := by decide +kernel
    refine ⟨fun σ' H' => ∃ v3 : Option V, σ' = [some (.ref kk), some (.ref got), some (.ref goal), v3, none, none] ∧ Keep got H2 H' ∧ H' got = some (.lst (es6.map fun p => V.str p.2)), ?_, ?_⟩
    · refine ⟨(by show 6 ≤ sizeLine; decide), fun p np => ⟨p, rfl, ⟨_, SqT.of upd_same⟩, ?_⟩⟩
      have sp := Same_new (o := HO.tup (es6.map fun p => V.str p.1)) np
      have hp : (upd H2 p (.tup (es6.map fun p => V.str p.1))) p = some (.tup (es6.map fun p => V.str p.1)) := upd_same
      have npg : p ≠ got := fun e => by rw [e, hgot] at np; cases np
      refine for_it (walk_tup (xs := es6.map fun p => V.str p.1)) (fun i σ H' => ∃ v3 : Option V, σ = [some (.ref kk), some (.ref got), some (.ref goal), v3, none, none] ∧ Keep got (upd H2 p (.tup (es6.map fun p => V.str p.1))) H' ∧ H' got = some (.lst ((es6.take i).map fun p => V.str p.2)))
        ⟨_, rfl, Keep.refl _ _, sp _ _ (by rw [hgot]; rfl)⟩ (fun i σ H' _ ⟨_, _, kp, _⟩ => SqT.of (kp _ _ npg hp)) (fun i v σ H7 H8 hi ⟨v3, e, kp, hg⟩ y => ?_) (fun σ H7 ⟨v3, e, kp, hg⟩ => ?_)
      · obtain ⟨rfl, hv⟩ := y
        subst e
        rw [List.getElem?_map] at hv
        obtain ⟨pr, hpr, hv⟩ := Option.map_eq_some_iff.mp hv
        subst hv
        obtain ⟨q1, q2, q3, q4, q5, q6⟩ := es6_ok pr (List.mem_of_getElem? hpr)
        have kp2 : Keep got H2 H8 := fun b o nb q => kp _ _ nb (sp _ _ q)
        have ko8 := (ko1.same s12).keep hgot kp2
        have fo : ∀ y ∈ wordsS pr.1, FldOk (hs ns3) y := fun y hy => fldP_ok (q4 y hy)
        refine ⟨_, rfl, .inl ⟨rfl, _, SqL.of hg⟩, ?_⟩
        refine ⟨rfl, _, rfl, _, rfl, kk, pr.1, ns3, _, rfl, ko8, n30, q1, q2, q3, fun y hy => fld_any (fo y hy), ends_good fo fun H9 x d s9 so => ?_⟩
        obtain ⟨dx, hx⟩ := so.x
        refine ⟨x, dx, _, rfl, hx, x, kk, d, ns3, _, _, rfl, so, close_ok n30 ns3_nm fo, fun HA ys sA pm ss => ?_⟩
        have ey : ys = shT ns3 R1 (wordsS pr.1) := sorted_one (pm.trans shT_perm.symm) ss q5
        rw [ey, q6]
        have hgA := sA _ _ (s9 _ _ hg)
        refine ⟨got, _, _, rfl, rfl, hgA, ?_, _, rfl, fun b o nb q => by rw [upd_ne nb]; exact sA _ _ (s9 _ _ (kp _ _ nb q)), ?_⟩
        · simp only [List.length_append, List.length_map, List.length_take]
          have : (1000 : Nat) ≤ sizeLine := by decide
          have : es6.length = 6 := rfl
          have : es3.length = 3 := rfl
          omega
        · rw [upd_same, List.take_add_one, hpr, List.map_append]
          rfl
      · subst e
        rw [List.length_map, List.take_length] at hg
        exact ⟨_, rfl, fun b o nb q => kp _ _ nb (sp _ _ q), hg⟩
    rintro σ3 H3 ⟨v3, rfl, k3, hg3⟩
    refine ⟨fun σ' H' => ∃ v3 : Option V, σ' = [some (.ref kk), some (.ref got), some (.ref goal), v3, none, none] ∧ Keep got H2 H' ∧ H' got = some (.lst ((es6 ++ es3).map fun p => V.str p.2)), ?_, ?_⟩
    · refine ⟨(by show 3 ≤ sizeLine; decide), fun p np => ⟨p, rfl, ⟨_, SqT.of upd_same⟩, ?_⟩⟩
      have sp := Same_new (o := HO.tup (es3.map fun p => V.str p.1)) np
      have hp : (upd H3 p (.tup (es3.map fun p => V.str p.1))) p = some (.tup (es3.map fun p => V.str p.1)) := upd_same
      have npg : p ≠ got := fun e => by rw [e, hg3] at np; cases np
      refine for_it (walk_tup (xs := es3.map fun p => V.str p.1)) (fun i σ H' => ∃ v3 : Option V, σ = [some (.ref kk), some (.ref got), some (.ref goal), v3, none, none] ∧ Keep got (upd H3 p (.tup (es3.map fun p => V.str p.1))) H' ∧ H' got = some (.lst ((es6.map fun p => V.str p.2) ++ (es3.take i).map fun p => V.str p.2)))
        ⟨_, rfl, Keep.refl _ _, sp _ _ (by rw [hg3]; rfl)⟩ (fun i σ H' _ ⟨_, _, kp, _⟩ => SqT.of (kp _ _ npg hp)) (fun i v σ H7 H8 hi ⟨v3, e, kp, hg⟩ y => ?_) (fun σ H7 ⟨v3, e, kp, hg⟩ => ?_)
      · obtain ⟨rfl, hv⟩ := y
        subst e
        rw [List.getElem?_map] at hv
        obtain ⟨pr, hpr, hv⟩ := Option.map_eq_some_iff.mp hv
        subst hv
        obtain ⟨q1, q2, q3, q4, q5, q6⟩ := es3_ok pr (List.mem_of_getElem? hpr)
        have kp2 : Keep got H2 H8 := fun b o nb q => kp _ _ nb (sp _ _ (k3 _ _ nb q))
        have ko8 := (ko1.same s12).keep hgot kp2
        have fo : ∀ y ∈ wordsS pr.1, FldOk (hs ns3) y := fun y hy => fldP_ok (q4 y hy)
        refine ⟨_, rfl, .inl ⟨rfl, _, SqL.of hg⟩, ?_⟩
        refine ⟨rfl, _, rfl, _, rfl, kk, pr.1, ns3, _, rfl, ko8, n30, q1, q2, q3, fun y hy => fld_any (fo y hy), ends_good fo fun H9 x d s9 so => ?_⟩
        obtain ⟨dx, hx⟩ := so.x
        refine ⟨x, dx, _, rfl, hx, x, kk, d, ns3, _, _, rfl, so, close_ok n30 ns3_nm fo, fun HA ys sA pm ss => ?_⟩
        have ey : ys = shT ns3 R1 (wordsS pr.1) := sorted_one (pm.trans shT_perm.symm) ss q5
        rw [ey, q6]
        have hgA := sA _ _ (s9 _ _ hg)
        refine ⟨got, _, _, rfl, rfl, hgA, ?_, _, rfl, fun b o nb q => by rw [upd_ne nb]; exact sA _ _ (s9 _ _ (kp _ _ nb q)), ?_⟩
        · simp only [List.length_append, List.length_map, List.length_take]
          have : (1000 : Nat) ≤ sizeLine := by decide
          have : es6.length = 6 := rfl
          have : es3.length = 3 := rfl
          omega
        · rw [upd_same, List.take_add_one, hpr, List.map_append, ← List.append_assoc]
          rfl
      · subst e
        rw [List.length_map, List.take_length] at hg
        exact ⟨_, rfl, fun b o nb q => kp _ _ nb (sp _ _ (k3 _ _ nb q)), by rw [List.map_append]; exact hg⟩
    rintro σ4 H4 ⟨v3, rfl, k4, hg4⟩
    have s14 : Same H1 H4 := fun b o q => k4 _ _ (ne_of_none q ng) (s12 _ _ q)
    refine ⟨fun σ' H' => ∃ (got goal : Addr) (v3 : Option V) (vs ws : List V), σ' = [some (.ref kk), some (.ref got), some (.ref goal), v3, none, none] ∧ Same H1 H' ∧ H' got = some (.lst vs) ∧ ItL H' vs ([.a (.txt "-"), .a (.txt "-"), .a (.txt "-"), .a (.txt "-"), .a (.txt "user/12"), .a (.txt "shop"), .a (.txt "#/12 city/5"), .a (.txt "#"), .a (.txt "shop")]) ∧ H' goal = some (.lst ws) ∧ ItL H' ws ([.a (.txt "-"), .a (.txt "-"), .a (.txt "-"), .a (.txt "-"), .a (.txt "user/12"), .a (.txt "shop"), .a (.txt "#/12 city/5"), .a (.txt "#"), .a (.txt "shop")]), ?_, ?_⟩
    · refine ⟨(by show 9 ≤ sizeLine; decide), fun gl ngl => ?_⟩
      have sg := Same_new (o := HO.lst [V.str "-", V.str "-", V.str "-", V.str "-", V.str "user/12", V.str "shop", V.str "#/12 city/5", V.str "#", V.str "shop"]) ngl
      exact ⟨got, gl, _, _, _, rfl, s14.trans sg, sg _ _ hg4, ⟨rfl, rfl, rfl, rfl, rfl, rfl, rfl, rfl, rfl, trivial⟩, upd_same, ⟨rfl, rfl, rfl, rfl, rfl, rfl, rfl, rfl, rfl, trivial⟩⟩
    clear hg4 k4 hg3 k3 hgot hgoal ngg s14 s12 ng
    rintro σ5 H5 ⟨got, goal, v3, vs, ws, rfl, s, hg, ig, ho, io⟩
    refine ⟨fun σ' H' => ∃ (got goal : Addr) (v3 : Option V) (vs ws : List V), σ' = [some (.ref kk), some (.ref got), some (.ref goal), v3, none, none] ∧ Same H1 H' ∧ H' got = some (.lst vs) ∧ ItL H' vs ([.a (.txt "-"), .a (.txt "-"), .a (.txt "-"), .a (.txt "-"), .a (.txt "user/12"), .a (.txt "shop"), .a (.txt "#/12 city/5"), .a (.txt "#"), .a (.txt "shop"), .a (.name "item"), .a (.bad "a2")]) ∧ H' goal = some (.lst ws) ∧ ItL H' ws ([.a (.txt "-"), .a (.txt "-"), .a (.txt "-"), .a (.txt "-"), .a (.txt "user/12"), .a (.txt "shop"), .a (.txt "#/12 city/5"), .a (.txt "#"), .a (.txt "shop")]), ?_, ?_⟩
    · refine ⟨_, rfl, ?_⟩
      refine ⟨_, rfl, (by show 3 ≤ sizeLine; decide), fun ad1 na1 => ?_⟩
      have sa1 := (Same.refl _).trans (Same_new (o := HO.tup ((["user", "item/2", "lot"] : List Str).map V.str)) na1)
      refine ⟨0, kk, _, ns3, _, .name "item", rfl, ko1.same (s.trans sa1), n30, .inl ⟨rfl, ad1, (["user", "item/2", "lot"] : List Str), rfl, .inr (SqT.of upd_same), by decide, (fun z hz => anyP_ok ((by decide +kernel : ∀ z ∈ (["user", "item/2", "lot"] : List Str), anyP z) z hz)), a1⟩, fun x1 K1 sK1 hx1 => ?_⟩
      have t1 := sa1.trans sK1
      obtain ⟨w1, w2, w3, w4⟩ := w5 "user item a2 -" (by decide +kernel)
      refine ⟨_, rfl, 1, kk, _, ns3, _, .bad "a2", rfl, ko1.same (s.trans (t1)), n30, .inr (.inl ⟨rfl, "user item a2 -", rfl, w1, w2, w3, fun y hy => anyP_ok (w4 y hy), a2⟩), fun x2 K2 sK2 hx2 => ?_⟩
      have t2 := (t1).trans sK2
      refine ⟨(by show 2 ≤ sizeLine; decide), fun q nq => ?_⟩
      have sq := t2.trans (Same_new (o := HO.lst [x1, x2]) nq)
      refine ⟨got, q, vs, [x1, x2], rfl, rfl, sq _ _ hg, upd_same, (by rw [ig.len]; show 9 + 2 ≤ sizeLine; decide), fun p np => ?_⟩
      have sp := sq.trans (Same_new (o := HO.lst (vs ++ [x1, x2])) np)
      exact ⟨p, goal, _, _, ws, rfl, s.trans sp, upd_same, (ItL.same sp ig).app ⟨AnsAt.same ((sK2.trans (Same_new (o := HO.lst [x1, x2]) nq)).trans (Same_new np)) hx1, AnsAt.same ((Same_new (o := HO.lst [x1, x2]) nq).trans (Same_new np)) hx2, trivial⟩, sp _ _ ho, ItL.same sp io⟩
    rintro σ6 H6 ⟨got, goal, v3, vs, ws, rfl, s, hg, ig, ho, io⟩
    refine ⟨fun σ' H' => ∃ (got goal : Addr) (v3 : Option V) (vs ws : List V), σ' = [some (.ref kk), some (.ref got), some (.ref goal), v3, none, none] ∧ Same H1 H' ∧ H' got = some (.lst vs) ∧ ItL H' vs ([.a (.txt "-"), .a (.txt "-"), .a (.txt "-"), .a (.txt "-"), .a (.txt "user/12"), .a (.txt "shop"), .a (.txt "#/12 city/5"), .a (.txt "#"), .a (.txt "shop"), .a (.name "item"), .a (.bad "a2")]) ∧ H' goal = some (.lst ws) ∧ ItL H' ws ([.a (.txt "-"), .a (.txt "-"), .a (.txt "-"), .a (.txt "-"), .a (.txt "user/12"), .a (.txt "shop"), .a (.txt "#/12 city/5"), .a (.txt "#"), .a (.txt "shop"), .a (.name "item"), .a (.bad "a2")]), ?_, ?_⟩
    · refine ⟨_, rfl, ?_⟩
      refine ⟨(by show 2 ≤ sizeLine; decide), fun p0 np0 => ?_⟩
      have sp0 := Same_new (o := HO.tup [V.str "name", V.str "item"]) np0
      have hp0 := new_at (HO.tup [V.str "name", V.str "item"]) np0
      refine ⟨(by show 2 ≤ sizeLine; decide), fun p1 np1 => ?_⟩
      have sp1 := Same_new (o := HO.tup [V.str "bad", V.str "a2"]) np1
      have hp1 := new_at (HO.tup [V.str "bad", V.str "a2"]) np1
      refine ⟨(by show 2 ≤ sizeLine; decide), fun q nq => ?_⟩
      have sq := Same_new (o := HO.lst [V.ref p0, V.ref p1]) nq
      have sA := ((sp0).trans (sp1)).trans (sq)
      refine ⟨goal, q, ws, [V.ref p0, V.ref p1], rfl, rfl, sA _ _ ho, upd_same, (by rw [io.len]; show 9 + 2 ≤ sizeLine; decide), fun p np => ?_⟩
      have sp := Same_new (o := HO.lst (ws ++ [V.ref p0, V.ref p1])) np
      have sB := sA.trans sp
      exact ⟨got, p, _, vs, _, rfl, s.trans sB, sB _ _ hg, ItL.same sB ig, upd_same, (ItL.same sB io).app ⟨⟨p0, rfl, (((sp1).trans (sq)).trans (sp)) _ _ hp0⟩, ⟨p1, rfl, ((sq).trans (sp)) _ _ hp1⟩, trivial⟩⟩
    rintro σ7 H7 ⟨got, goal, v3, vs, ws, rfl, s, hg, ig, ho, io⟩
    refine ⟨fun σ' H' => ∃ (got goal : Addr) (v3 : Option V) (vs ws : List V), σ' = [some (.ref kk), some (.ref got), some (.ref goal), v3, none, none] ∧ Same H1 H' ∧ H' got = some (.lst vs) ∧ ItL H' vs ([.a (.txt "-"), .a (.txt "-"), .a (.txt "-"), .a (.txt "-"), .a (.txt "user/12"), .a (.txt "shop"), .a (.txt "#/12 city/5"), .a (.txt "#"), .a (.txt "shop"), .a (.name "item"), .a (.bad "a2"), .a (.name "lot"), .a (.bad "-")]) ∧ H' goal = some (.lst ws) ∧ ItL H' ws ([.a (.txt "-"), .a (.txt "-"), .a (.txt "-"), .a (.txt "-"), .a (.txt "user/12"), .a (.txt "shop"), .a (.txt "#/12 city/5"), .a (.txt "#"), .a (.txt "shop"), .a (.name "item"), .a (.bad "a2")]), ?_, ?_⟩
    · refine ⟨_, rfl, ?_⟩
      obtain ⟨w1, w2, w3, w4⟩ := w5 "user lot/3 item" (by decide +kernel)
      refine ⟨_, rfl, 1, kk, _, ns3, _, .name "lot", rfl, ko1.same (s.trans (Same.refl _)), n30, .inr (.inl ⟨rfl, "user lot/3 item", rfl, w1, w2, w3, fun y hy => anyP_ok (w4 y hy), a3⟩), fun x1 K1 sK1 hx1 => ?_⟩
      have t1 := (Same.refl _).trans sK1
      obtain ⟨w1, w2, w3, w4⟩ := w5 "- user" (by decide +kernel)
      refine ⟨_, rfl, 1, kk, _, ns3, _, .bad "-", rfl, ko1.same (s.trans (t1)), n30, .inr (.inl ⟨rfl, "- user", rfl, w1, w2, w3, fun y hy => anyP_ok (w4 y hy), a4⟩), fun x2 K2 sK2 hx2 => ?_⟩
      have t2 := (t1).trans sK2
      refine ⟨(by show 2 ≤ sizeLine; decide), fun q nq => ?_⟩
      have sq := t2.trans (Same_new (o := HO.lst [x1, x2]) nq)
      refine ⟨got, q, vs, [x1, x2], rfl, rfl, sq _ _ hg, upd_same, (by rw [ig.len]; show 11 + 2 ≤ sizeLine; decide), fun p np => ?_⟩
      have sp := sq.trans (Same_new (o := HO.lst (vs ++ [x1, x2])) np)
      exact ⟨p, goal, _, _, ws, rfl, s.trans sp, upd_same, (ItL.same sp ig).app ⟨AnsAt.same ((sK2.trans (Same_new (o := HO.lst [x1, x2]) nq)).trans (Same_new np)) hx1, AnsAt.same ((Same_new (o := HO.lst [x1, x2]) nq).trans (Same_new np)) hx2, trivial⟩, sp _ _ ho, ItL.same sp io⟩
    rintro σ8 H8 ⟨got, goal, v3, vs, ws, rfl, s, hg, ig, ho, io⟩
    refine ⟨fun σ' H' => ∃ (got goal : Addr) (v3 : Option V) (vs ws : List V), σ' = [some (.ref kk), some (.ref got), some (.ref goal), v3, none, none] ∧ Same H1 H' ∧ H' got = some (.lst vs) ∧ ItL H' vs ([.a (.txt "-"), .a (.txt "-"), .a (.txt "-"), .a (.txt "-"), .a (.txt "user/12"), .a (.txt "shop"), .a (.txt "#/12 city/5"), .a (.txt "#"), .a (.txt "shop"), .a (.name "item"), .a (.bad "a2"), .a (.name "lot"), .a (.bad "-"), .a (.bad "-"), .a (.name "b")]) ∧ H' goal = some (.lst ws) ∧ ItL H' ws ([.a (.txt "-"), .a (.txt "-"), .a (.txt "-"), .a (.txt "-"), .a (.txt "user/12"), .a (.txt "shop"), .a (.txt "#/12 city/5"), .a (.txt "#"), .a (.txt "shop"), .a (.name "item"), .a (.bad "a2")]), ?_, ?_⟩
    · refine ⟨_, rfl, ?_⟩
      obtain ⟨w1, w2, w3, w4⟩ := w5 "- -" (by decide +kernel)
      refine ⟨_, rfl, 1, kk, _, ns3, _, .bad "-", rfl, ko1.same (s.trans (Same.refl _)), n30, .inr (.inl ⟨rfl, "- -", rfl, w1, w2, w3, fun y hy => anyP_ok (w4 y hy), a5⟩), fun x1 K1 sK1 hx1 => ?_⟩
      have t1 := (Same.refl _).trans sK1
      refine ⟨_, rfl, 2, kk, _, ns3, _, .name "b", rfl, ko1.same (s.trans (t1)), n30, .inr (.inr ⟨rfl, "b", rfl, (if_neg (by decide +kernel)).symm⟩), fun x2 K2 sK2 hx2 => ?_⟩
      have t2 := (t1).trans sK2
      refine ⟨(by show 2 ≤ sizeLine; decide), fun q nq => ?_⟩
      have sq := t2.trans (Same_new (o := HO.lst [x1, x2]) nq)
      refine ⟨got, q, vs, [x1, x2], rfl, rfl, sq _ _ hg, upd_same, (by rw [ig.len]; show 13 + 2 ≤ sizeLine; decide), fun p np => ?_⟩
      have sp := sq.trans (Same_new (o := HO.lst (vs ++ [x1, x2])) np)
      exact ⟨p, goal, _, _, ws, rfl, s.trans sp, upd_same, (ItL.same sp ig).app ⟨AnsAt.same ((sK2.trans (Same_new (o := HO.lst [x1, x2]) nq)).trans (Same_new np)) hx1, AnsAt.same ((Same_new (o := HO.lst [x1, x2]) nq).trans (Same_new np)) hx2, trivial⟩, sp _ _ ho, ItL.same sp io⟩
    rintro σ9 H9 ⟨got, goal, v3, vs, ws, rfl, s, hg, ig, ho, io⟩
    refine ⟨fun σ' H' => ∃ (got goal : Addr) (v3 : Option V) (vs ws : List V), σ' = [some (.ref kk), some (.ref got), some (.ref goal), v3, none, none] ∧ Same H1 H' ∧ H' got = some (.lst vs) ∧ ItL H' vs ([.a (.txt "-"), .a (.txt "-"), .a (.txt "-"), .a (.txt "-"), .a (.txt "user/12"), .a (.txt "shop"), .a (.txt "#/12 city/5"), .a (.txt "#"), .a (.txt "shop"), .a (.name "item"), .a (.bad "a2"), .a (.name "lot"), .a (.bad "-"), .a (.bad "-"), .a (.name "b")]) ∧ H' goal = some (.lst ws) ∧ ItL H' ws ([.a (.txt "-"), .a (.txt "-"), .a (.txt "-"), .a (.txt "-"), .a (.txt "user/12"), .a (.txt "shop"), .a (.txt "#/12 city/5"), .a (.txt "#"), .a (.txt "shop"), .a (.name "item"), .a (.bad "a2"), .a (.name "lot"), .a (.bad "-"), .a (.bad "-"), .a (.name "b")]), ?_, ?_⟩
    · refine ⟨_, rfl, ?_⟩
      refine ⟨(by show 2 ≤ sizeLine; decide), fun p0 np0 => ?_⟩
      have sp0 := Same_new (o := HO.tup [V.str "name", V.str "lot"]) np0
      have hp0 := new_at (HO.tup [V.str "name", V.str "lot"]) np0
      refine ⟨(by show 2 ≤ sizeLine; decide), fun p1 np1 => ?_⟩
      have sp1 := Same_new (o := HO.tup [V.str "bad", V.str "-"]) np1
      have hp1 := new_at (HO.tup [V.str "bad", V.str "-"]) np1
      refine ⟨(by show 2 ≤ sizeLine; decide), fun p2 np2 => ?_⟩
      have sp2 := Same_new (o := HO.tup [V.str "bad", V.str "-"]) np2
      have hp2 := new_at (HO.tup [V.str "bad", V.str "-"]) np2
      refine ⟨(by show 2 ≤ sizeLine; decide), fun p3 np3 => ?_⟩
      have sp3 := Same_new (o := HO.tup [V.str "name", V.str "b"]) np3
      have hp3 := new_at (HO.tup [V.str "name", V.str "b"]) np3
      refine ⟨(by show 4 ≤ sizeLine; decide), fun q nq => ?_⟩
      have sq := Same_new (o := HO.lst [V.ref p0, V.ref p1, V.ref p2, V.ref p3]) nq
      have sA := ((((sp0).trans (sp1)).trans (sp2)).trans (sp3)).trans (sq)
      refine ⟨goal, q, ws, [V.ref p0, V.ref p1, V.ref p2, V.ref p3], rfl, rfl, sA _ _ ho, upd_same, (by rw [io.len]; show 11 + 4 ≤ sizeLine; decide), fun p np => ?_⟩
      have sp := Same_new (o := HO.lst (ws ++ [V.ref p0, V.ref p1, V.ref p2, V.ref p3])) np
      have sB := sA.trans sp
      exact ⟨got, p, _, vs, _, rfl, s.trans sB, sB _ _ hg, ItL.same sB ig, upd_same, (ItL.same sB io).app ⟨⟨p0, rfl, (((((sp1).trans (sp2)).trans (sp3)).trans (sq)).trans (sp)) _ _ hp0⟩, ⟨p1, rfl, ((((sp2).trans (sp3)).trans (sq)).trans (sp)) _ _ hp1⟩, ⟨p2, rfl, (((sp3).trans (sq)).trans (sp)) _ _ hp2⟩, ⟨p3, rfl, ((sq).trans (sp)) _ _ hp3⟩, trivial⟩⟩
    rintro σ10 H10 ⟨got, goal, v3, vs, ws, rfl, s, hg, ig, ho, io⟩
    refine ⟨fun σ' H' => ∃ (got goal c kc d5 : Addr) (v3 : Option V) (vs ws : List V), σ' = [some (.ref kk), some (.ref got), some (.ref goal), v3, some (.ref c), none] ∧ Same H1 H' ∧ H' got = some (.lst vs) ∧ ItL H' vs ([.a (.txt "-"), .a (.txt "-"), .a (.txt "-"), .a (.txt "-"), .a (.txt "user/12"), .a (.txt "shop"), .a (.txt "#/12 city/5"), .a (.txt "#"), .a (.txt "shop"), .a (.name "item"), .a (.bad "a2"), .a (.name "lot"), .a (.bad "-"), .a (.bad "-"), .a (.name "b")]) ∧ H' goal = some (.lst ws) ∧ ItL H' ws ([.a (.txt "-"), .a (.txt "-"), .a (.txt "-"), .a (.txt "-"), .a (.txt "user/12"), .a (.txt "shop"), .a (.txt "#/12 city/5"), .a (.txt "#"), .a (.txt "shop"), .a (.name "item"), .a (.bad "a2"), .a (.name "lot"), .a (.bad "-"), .a (.bad "-"), .a (.name "b")]) ∧ StageO K H' c kc d5 ns5 (toldOf R4 ns5) mch, ?_, ?_⟩
    · refine ⟨(by show 5 ≤ sizeLine; decide), fun a na => ⟨(by show 2 ≤ sizeLine; decide), fun b1 nb1 => ⟨(by show 2 ≤ sizeLine; decide), fun b2 nb2 => ⟨(by show 2 ≤ sizeLine; decide), fun b3 nb3 => ⟨(by show 2 ≤ sizeLine; decide), fun b4 nb4 => ⟨(by show 4 ≤ sizeLine; decide), fun te nte => fun x dx nx ndx nex => ?_⟩⟩⟩⟩⟩⟩
      have sa := Same_new (o := HO.tup (ns5.map V.str)) na
      have ha := new_at (HO.tup (ns5.map V.str)) na
      have sb1 := Same_new (o := HO.tup [V.str "d", V.str "e"]) nb1
      have hb1 := new_at (HO.tup [V.str "d", V.str "e"]) nb1
      have sb2 := Same_new (o := HO.tup [V.str "a", V.str "b"]) nb2
      have hb2 := new_at (HO.tup [V.str "a", V.str "b"]) nb2
      have sb3 := Same_new (o := HO.tup [V.str "c", V.str "d"]) nb3
      have hb3 := new_at (HO.tup [V.str "c", V.str "d"]) nb3
      have sb4 := Same_new (o := HO.tup [V.str "b", V.str "c"]) nb4
      have hb4 := new_at (HO.tup [V.str "b", V.str "c"]) nb4
      have ste := Same_new (o := HO.tup [V.ref b1, V.ref b2, V.ref b3, V.ref b4]) nte
      have hte := new_at (HO.tup [V.ref b1, V.ref b2, V.ref b3, V.ref b4]) nte
      have ss := ((((sa.trans sb1).trans sb2).trans sb3).trans sb4).trans ste
      have pp : PrAt _ [b1, b2, b3, b4] R4 := ⟨rfl, fun i q hq => (by
        match i with
        | 0 =>
          cases hq
          exact ⟨("d", "e"), rfl, ste _ _ (sb4 _ _ (sb3 _ _ (sb2 _ _ hb1)))⟩
        | 1 =>
          cases hq
          exact ⟨("a", "b"), rfl, ste _ _ (sb4 _ _ (sb3 _ _ hb2))⟩
        | 2 =>
          cases hq
          exact ⟨("c", "d"), rfl, ste _ _ (sb4 _ _ hb3)⟩
        | 3 =>
          cases hq
          exact ⟨("b", "c"), rfl, ste _ _ hb4⟩
        | i + 4 => cases hq)⟩
      refine ki_gen (names := ns5) (R := R4) nx ndx (.inr (SqT.of (ste _ _ (sb4 _ _ (sb3 _ _ (sb2 _ _ (sb1 _ _ ha))))))) (by decide +kernel) (by decide) (by decide +kernel) (tells_of hte pp) (by decide) (by decide +kernel) ⟨ns5, fun z => ns5.idxOf z, by decide +kernel, by decide +kernel⟩ fun ns' pm so' nd' H' s' ko => ?_
      have e := names_one (names := ns5) (ns := ns5) (by decide +kernel) (by decide +kernel) (fun _ => Iff.rfl) ns' pm so'
      subst e
      refine ⟨rfl, (by show 2 ≤ sizeLine; decide), fun f nf => fun y dy ny ndy ney => ?_⟩
      have sf := Same_new (o := HO.tup ((["a", "e/7"] : List Str).map V.str)) nf
      refine rd_mkT (zs := ["a", "e/7"]) (ko.same sf) (by decide +kernel) (.inr (SqT.of upd_same)) (by decide) (fun z hz => fld_any (ch_fo z hz)) (fun H' s' => s') ny ndy (ends_good ch_fo fun H2' d5 s2' so => ?_)
      have st := ((ss.trans s').trans sf).trans s2'
      exact ⟨rfl, got, goal, y, x, d5, _, vs, ws, rfl, s.trans st, st _ _ hg, ItL.same st ig, st _ _ ho, ItL.same st io, so⟩
    rintro σ11 H11 ⟨got, goal, c, kc, d5, v3, vs, ws, rfl, s, hg, ig, ho, io, so⟩
    refine ⟨fun σ' H' => ∃ (got goal : Addr) (v3 v4 : Option V) (vs ws : List V), σ' = [some (.ref kk), some (.ref got), some (.ref goal), v3, v4, none] ∧ Same H1 H' ∧ H' got = some (.lst vs) ∧ ItL H' vs ([.a (.txt "-"), .a (.txt "-"), .a (.txt "-"), .a (.txt "-"), .a (.txt "user/12"), .a (.txt "shop"), .a (.txt "#/12 city/5"), .a (.txt "#"), .a (.txt "shop"), .a (.name "item"), .a (.bad "a2"), .a (.name "lot"), .a (.bad "-"), .a (.bad "-"), .a (.name "b"), .a (.txt "a"), .l [1, 0, 0, 0, 0, 0], .b true]) ∧ H' goal = some (.lst ws) ∧ ItL H' ws ([.a (.txt "-"), .a (.txt "-"), .a (.txt "-"), .a (.txt "-"), .a (.txt "user/12"), .a (.txt "shop"), .a (.txt "#/12 city/5"), .a (.txt "#"), .a (.txt "shop"), .a (.name "item"), .a (.bad "a2"), .a (.name "lot"), .a (.bad "-"), .a (.bad "-"), .a (.name "b")]), ?_, ?_⟩
    · obtain ⟨dx, hx⟩ := so.x
      refine ⟨_, rfl, _, rfl, c, dx, _, rfl, hx, c, kc, d5, ns5, _, _, rfl, so, ch_st, fun Ha ys sA pm ss => ?_⟩
      have ey : ys = shT ns5 R4 ["a", "e/7"] := sorted_one (pm.trans shT_perm.symm) ss ch_sh.1
      rw [ey, ch_sh.2]
      refine ⟨(by show 6 ≤ sizeLine; decide), fun p np => ⟨p, rfl, ⟨_, SqT.of upd_same⟩, fun D hD => ?_⟩⟩
      have sp := Same_new (o := HO.tup ((hs ns5).map V.str)) np
      have hp : (upd Ha p (.tup ((hs ns5).map V.str))) p = some (.tup ((hs ns5).map V.str)) := upd_same
      refine lc_fm (walk_tup (xs := (hs ns5).map V.str)) (fun i => ((hs ns5)[i]?).map fun n => iV (mch n)) hD (by rw [List.length_map]; decide) (fun H' s' => SqT.of (s' _ _ hp)) (fun i v HA HB Kt Kf hi sA' y kt kf => ?_) (fun HA sA' hDA => ?_)
      · obtain ⟨rfl, hv⟩ := y
        obtain ⟨n, hn, rfl⟩ := at_str hv
        have hni : n ∈ hs ns5 := List.mem_of_getElem? hn
        have tt := (sA.trans sp).trans sA'
        exact ⟨rfl, iteT (B := Kf HB) ⟨_, rfl, _, rfl, c, dx, _, rfl, tt _ _ hx, c, kc, d5, n, ns5, mch, rfl, (so.same tt).r, fun _ => kt _ _ (by rw [hn]; rfl) (Same.refl _), fun q => absurd hni q⟩⟩
      · have eD : (List.range ((hs ns5).map V.str).length).filterMap (fun i => ((hs ns5)[i]?).map fun n => iV (mch n)) = ([1, 0, 0, 0, 0, 0] : List Nat).map iV := by
          rw [← ch_nums, List.map_map, List.length_map]
          exact fm_some fun i x hx => (by rw [hx]; rfl)
        rw [eD] at hDA
        have tt := (sA.trans sp).trans sA'
        refine ⟨_, rfl, c, dx, _, rfl, tt _ _ hx, c, kc, d5, "e/2", ns5, _, _, rfl, so.same tt, ch_st, anyP_ok (by decide +kernel), fun HC sC => ⟨_, rfl, ?_⟩⟩
        have eT : (isFieldB "e/2" && (decide (fieldName "e/2" ∈ hs ns5) && decide (fnum "e/2" ∣ mch (fieldName "e/2")))) = true := by decide +kernel
        rw [eT]
        refine ⟨(by show 3 ≤ sizeLine; decide), fun q nq => ?_⟩
        have sq := Same_new (o := HO.lst [V.str "a", .ref D, .bl true]) nq
        have tq := (tt.trans sC).trans sq
        refine ⟨got, q, vs, _, rfl, rfl, tq _ _ hg, upd_same, (by rw [ig.len]; show 15 + 3 ≤ sizeLine; decide), fun p2 np2 => ?_⟩
        have sp2 := Same_new (o := HO.lst (vs ++ [V.str "a", .ref D, .bl true])) np2
        have tp := tq.trans sp2
        exact ⟨p2, goal, _, _, _, ws, rfl, s.trans tp, upd_same, (ItL.same tp ig).app ⟨rfl, ⟨D, rfl, ((sC.trans sq).trans sp2) _ _ hDA⟩, rfl, trivial⟩, tp _ _ ho, ItL.same tp io⟩
    rintro σ12 H12 ⟨got, goal, v3, v4, vs, ws, rfl, s, hg, ig, ho, io⟩
    refine ⟨fun σ' H' => ∃ (got goal : Addr) (v3 v4 : Option V) (vs ws : List V), σ' = [some (.ref kk), some (.ref got), some (.ref goal), v3, v4, none] ∧ Same H1 H' ∧ H' got = some (.lst vs) ∧ ItL H' vs ([.a (.txt "-"), .a (.txt "-"), .a (.txt "-"), .a (.txt "-"), .a (.txt "user/12"), .a (.txt "shop"), .a (.txt "#/12 city/5"), .a (.txt "#"), .a (.txt "shop"), .a (.name "item"), .a (.bad "a2"), .a (.name "lot"), .a (.bad "-"), .a (.bad "-"), .a (.name "b"), .a (.txt "a"), .l [1, 0, 0, 0, 0, 0], .b true]) ∧ H' goal = some (.lst ws) ∧ ItL H' ws ([.a (.txt "-"), .a (.txt "-"), .a (.txt "-"), .a (.txt "-"), .a (.txt "user/12"), .a (.txt "shop"), .a (.txt "#/12 city/5"), .a (.txt "#"), .a (.txt "shop"), .a (.name "item"), .a (.bad "a2"), .a (.name "lot"), .a (.bad "-"), .a (.bad "-"), .a (.name "b"), .a (.txt "a"), .l [1, 0, 0, 0, 0, 0], .b true]), ?_, ?_⟩
    · refine ⟨_, rfl, ?_⟩
      refine ⟨(by show 6 ≤ sizeLine; decide), fun D nD => ?_⟩
      have sD := Same_new (o := HO.lst (([1, 0, 0, 0, 0, 0] : List Nat).map iV)) nD
      have hD := new_at (HO.lst (([1, 0, 0, 0, 0, 0] : List Nat).map iV)) nD
      refine ⟨(by show 3 ≤ sizeLine; decide), fun q nq => ?_⟩
      have sq := Same_new (o := HO.lst [V.str "a", .ref D, .bl true]) nq
      have tq := sD.trans sq
      refine ⟨goal, q, ws, _, rfl, rfl, tq _ _ ho, upd_same, (by rw [io.len]; show 15 + 3 ≤ sizeLine; decide), fun p2 np2 => ?_⟩
      have sp2 := Same_new (o := HO.lst (ws ++ [V.str "a", .ref D, .bl true])) np2
      have tp := tq.trans sp2
      exact ⟨got, p2, _, _, vs, _, rfl, s.trans tp, tp _ _ hg, ItL.same tp ig, upd_same, (ItL.same tp io).app ⟨rfl, ⟨D, rfl, (sq.trans sp2) _ _ hD⟩, rfl, trivial⟩⟩
    rintro σ13 H13 ⟨got, goal, v3, v4, vs, ws, rfl, s, hg, ig, ho, io⟩
    refine ⟨fun σ' H' => ∃ (got goal : Addr) (v3 v4 : Option V) (vs ws : List V) (Hb : Hp), σ' = [some (.ref kk), some (.ref got), some (.ref goal), v3, v4, none] ∧ Same H1 Hb ∧ Same Hb H' ∧ Hb got = none ∧ H' got = some (.lst vs) ∧ ItL Hb vs ([.a (.txt "-"), .a (.txt "-"), .a (.txt "-"), .a (.txt "-"), .a (.txt "user/12"), .a (.txt "shop"), .a (.txt "#/12 city/5"), .a (.txt "#"), .a (.txt "shop"), .a (.name "item"), .a (.bad "a2"), .a (.name "lot"), .a (.bad "-"), .a (.bad "-"), .a (.name "b"), .a (.txt "a"), .l [1, 0, 0, 0, 0, 0], .b true, .a (.num 1), .a (.name "zz")]) ∧ Hb goal = some (.lst ws) ∧ ItL Hb ws ([.a (.txt "-"), .a (.txt "-"), .a (.txt "-"), .a (.txt "-"), .a (.txt "user/12"), .a (.txt "shop"), .a (.txt "#/12 city/5"), .a (.txt "#"), .a (.txt "shop"), .a (.name "item"), .a (.bad "a2"), .a (.name "lot"), .a (.bad "-"), .a (.bad "-"), .a (.name "b"), .a (.txt "a"), .l [1, 0, 0, 0, 0, 0], .b true]), ?_, ?_⟩
    · refine ⟨_, rfl, ?_⟩
      refine ⟨_, rfl, 2, kk, _, ns3, _, .num 1, rfl, ko1.same (s.trans (Same.refl _)), n30, .inr (.inr ⟨rfl, "#", rfl, (if_pos (by decide +kernel)).symm⟩), fun x1 K1 sK1 hx1 => ?_⟩
      have t1 := (Same.refl _).trans sK1
      refine ⟨_, rfl, 2, kk, _, ns3, _, .name "zz", rfl, ko1.same (s.trans (t1)), n30, .inr (.inr ⟨rfl, "zz", rfl, (if_neg (by decide +kernel)).symm⟩), fun x2 K2 sK2 hx2 => ?_⟩
      have t2 := (t1).trans sK2
      refine ⟨(by show 2 ≤ sizeLine; decide), fun q nq => ?_⟩
      have sq := t2.trans (Same_new (o := HO.lst [x1, x2]) nq)
      refine ⟨got, q, vs, [x1, x2], rfl, rfl, sq _ _ hg, upd_same, (by rw [ig.len]; show 18 + 2 ≤ sizeLine; decide), fun p np => ?_⟩
      have sp := sq.trans (Same_new (o := HO.lst (vs ++ [x1, x2])) np)
      exact ⟨p, goal, _, _, _, ws, _, rfl, s.trans sq, Same_new np, np, upd_same, (ItL.same sq ig).app ⟨AnsAt.same (sK2.trans (Same_new (o := HO.lst [x1, x2]) nq)) hx1, AnsAt.same (Same_new (o := HO.lst [x1, x2]) nq) hx2, trivial⟩, sq _ _ ho, ItL.same sq io⟩
    rintro σ14 H14 ⟨got, goal, v3, v4, vs, ws, Hb, rfl, sb, s, nb, hg, ig, ho, io⟩
    refine ⟨fun σ' H' => ∃ (got goal : Addr) (v3 v4 : Option V) (vs ws : List V), σ' = [some (.ref kk), some (.ref got), some (.ref goal), v3, v4, none] ∧ Same H1 H' ∧ H' got = some (.lst vs) ∧ ItL H' vs ([.a (.txt "-"), .a (.txt "-"), .a (.txt "-"), .a (.txt "-"), .a (.txt "user/12"), .a (.txt "shop"), .a (.txt "#/12 city/5"), .a (.txt "#"), .a (.txt "shop"), .a (.name "item"), .a (.bad "a2"), .a (.name "lot"), .a (.bad "-"), .a (.bad "-"), .a (.name "b"), .a (.txt "a"), .l [1, 0, 0, 0, 0, 0], .b true, .a (.num 1), .a (.name "zz"), .a (.txt "#/10")]) ∧ H' goal = some (.lst ws) ∧ ItL H' ws ([.a (.txt "-"), .a (.txt "-"), .a (.txt "-"), .a (.txt "-"), .a (.txt "user/12"), .a (.txt "shop"), .a (.txt "#/12 city/5"), .a (.txt "#"), .a (.txt "shop"), .a (.name "item"), .a (.bad "a2"), .a (.name "lot"), .a (.bad "-"), .a (.bad "-"), .a (.name "b"), .a (.txt "a"), .l [1, 0, 0, 0, 0, 0], .b true]), ?_, ?_⟩
    · refine ⟨_, rfl, .inl ⟨rfl, _, SqL.of hg⟩, ?_⟩
      refine ⟨Nat.zero_le _, fun a na => fun x dx nx ndx nex => ?_⟩
      have sa := Same_new (o := HO.tup []) na
      refine ki_gen (names := []) (R := []) nx ndx (.inr (SqT.of upd_same)) List.nodup_nil (by decide) (fun z h => nomatch h) (Tells.nil (.inr (B.df_Keys_init _))) (by decide) (fun p h => nomatch h) ⟨[], fun _ => 0, (fun p h => nomatch h), fun p h => nomatch h⟩ fun ns' pm so' nd' H' s' ko => ?_
      have e : ns' = [] := pm.eq_nil
      subst e
      refine ⟨rfl, (by show 2 ≤ sizeLine; decide), fun f nf => ?_⟩
      have sf := Same_new (o := HO.tup ((["#/2", "#/5"] : List Str).map V.str)) nf
      refine ⟨0, x, _, [], _, .txt "#/10", rfl, ko.same sf, List.not_mem_nil, .inl ⟨rfl, f, ["#/2", "#/5"], rfl, .inr (SqT.of upd_same), by decide, (fun z hz => fld_any (a6_fo z hz)), a6⟩, fun v H3 s3 hv => ?_⟩
      have ev : v = .str "#/10" := hv
      subst ev
      have st := ((sa.trans s').trans sf).trans s3
      refine ⟨got, _, _, rfl, rfl, st _ _ hg, (by rw [ig.len]; show 20 < sizeLine; decide), ?_⟩
      have sB := Same_upd (o := HO.lst (vs ++ [V.str "#/10"])) (s.trans st) nb
      exact ⟨got, goal, _, _, _, ws, rfl, sb.trans sB, upd_same, (ItL.same sB ig).app ⟨rfl, trivial⟩, sB _ _ ho, ItL.same sB io⟩
    rintro σ15 H15 ⟨got, goal, v3, v4, vs, ws, rfl, s, hg, ig, ho, io⟩
    refine ⟨_, rfl, _, rfl, (by show 2 ≤ sizeLine; decide), fun t nt => ?_⟩
    have st := Same_new (o := HO.tup [V.str "name", V.str "zz"]) nt
    have ht := new_at (HO.tup [V.str "name", V.str "zz"]) nt
    refine ⟨(by show 3 ≤ sizeLine; decide), fun q nq => ?_⟩
    have sq := Same_new (o := HO.lst [V.int 1, .ref t, .str "#/10"]) nq
    have tq := st.trans sq
    refine ⟨goal, q, ws, _, rfl, rfl, tq _ _ ho, upd_same, (by rw [io.len]; show 18 + 3 ≤ sizeLine; decide), fun p np => ?_⟩
    have sp := Same_new (o := HO.lst (ws ++ [V.int 1, .ref t, .str "#/10"])) np
    have tp := tq.trans sp
    exact ⟨_, _, rfl, sm_its (is := [.a (.txt "-"), .a (.txt "-"), .a (.txt "-"), .a (.txt "-"), .a (.txt "user/12"), .a (.txt "shop"), .a (.txt "#/12 city/5"), .a (.txt "#"), .a (.txt "shop"), .a (.name "item"), .a (.bad "a2"), .a (.name "lot"), .a (.bad "-"), .a (.bad "-"), .a (.name "b"), .a (.txt "a"), .l [1, 0, 0, 0, 0, 0], .b true, .a (.num 1), .a (.name "zz"), .a (.txt "#/10")]) (by decide) (tp _ _ hg) upd_same (ItL.same tp ig) ((ItL.same tp io).app ⟨rfl, ⟨t, rfl, (sq.trans sp) _ _ ht⟩, rfl, trivial⟩) (by decide), fun H' s' => k _ ((s1.trans s).trans (tp.trans s'))⟩
end
end Jd
namespace Jd
open PySem PySem.Spec PyProof.Rows L2
/-! ### words of a drawn line -/
/-- the words of a text's codes, cut at blanks -/
def wds : List Nat → List Nat → List (List Nat)
  | acc, [] => if acc = [] then [] else [acc]
  | acc, c :: l => if c = 32 then (if acc = [] then wds [] l else acc :: wds [] l) else wds (acc ++ [c]) l
theorem wds_spl : ∀ (l acc : List Nat), (TL.spl [32] 0 acc l).filter (fun w => decide (w ≠ [])) = wds acc l
  | [], acc => by
    have e : TL.spl [32] 0 acc [] = [acc] := rfl
    rw [e]
    unfold wds
    by_cases h : acc = []
    · subst h
      rfl
    · rw [if_neg h, List.filter_cons, if_pos (decide_eq_true h)]
      rfl
  | c :: l, acc => by
    have e : TL.spl [32] 0 acc (c :: l) = if TL.pre [32] (c :: l) = true then acc :: TL.spl [32] 0 [] l else TL.spl [32] 0 (acc ++ [c]) l := rfl
    have ep : TL.pre [32] (c :: l) = decide (c = 32) := by
      by_cases h : c = 32
      · subst h
        exact TL.pre_self [32] l
      · rw [decide_eq_false h]
        exact TL.pre_of_head [] l h
    rw [e, ep]
    unfold wds
    by_cases h : c = 32
    · rw [if_pos (decide_eq_true h), if_pos h, List.filter_cons]
      by_cases ha : acc = []
      · rw [if_neg (by simpa using ha), if_pos ha]
        exact wds_spl l []
      · rw [if_pos (decide_eq_true ha), if_neg ha, wds_spl l []]
    · rw [if_neg (by simpa using h), if_neg h]
      exact wds_spl l _
theorem emp_iff {w : Str} : w = "" ↔ TL.tl w = [] := ⟨fun h => by rw [h]; rfl, fun h => cd_ext (by show TL.tl w = _; rw [h]; rfl)⟩
theorem words_wds (z : Str) : (wordsOf z).map TL.tl = wds [] (TL.tl z) := by
  have q := TL.split_spl z " " (by decide +kernel) (TL.kind_ok (by decide +kernel))
  have e : TL.tl (" " : Str) = [32] := by decide +kernel
  rw [e] at q
  rw [← wds_spl, ← q, List.filter_map]
  unfold wordsOf
  congr 1
  refine List.filter_congr fun w _ => ?_
  show decide (w ≠ "") = decide (TL.tl w ≠ [])
  exact decide_eq_decide.mpr (not_congr emp_iff)
theorem wds_word : ∀ (w acc l : List Nat), (32 : Nat) ∉ w → wds acc (w ++ l) = wds (acc ++ w) l
  | [], acc, l, _ => by rw [List.append_nil]; rfl
  | c :: w, acc, l, h => by
    have hc : c ≠ 32 := fun e => h (e ▸ List.mem_cons_self)
    show wds acc (c :: (w ++ l)) = _
    conv => lhs; unfold wds
    rw [if_neg hc, wds_word w _ l (fun q => h (List.mem_cons_of_mem _ q)), List.append_assoc]
    rfl
theorem wds_gap : ∀ (k : Nat) (acc l : List Nat), acc ≠ [] → wds acc (List.replicate (k + 1) 32 ++ l) = acc :: wds [] (List.replicate k 32 ++ l)
  | k, acc, l, h => by
    rw [List.replicate_succ]
    show wds acc (32 :: (List.replicate k 32 ++ l)) = _
    conv => lhs; unfold wds
    rw [if_pos rfl, if_neg h]
theorem wds_lead : ∀ (k : Nat) (l : List Nat), wds [] (List.replicate k 32 ++ l) = wds [] l
  | 0, l => rfl
  | k + 1, l => by
    rw [List.replicate_succ]
    show wds [] (32 :: (List.replicate k 32 ++ l)) = _
    conv => lhs; unfold wds
    rw [if_pos rfl, if_pos rfl]
    exact wds_lead k l
theorem wds_tail (k : Nat) {acc : List Nat} (h : acc ≠ []) : wds acc (List.replicate k 32) = [acc] := by
  cases k with
  | zero =>
    show wds acc [] = _
    unfold wds
    rw [if_neg h]
  | succ k =>
    have e := wds_gap k acc [] h
    rw [List.append_nil, List.append_nil] at e
    have z := wds_lead k []
    rw [List.append_nil] at z
    rw [e, z]
    rfl
theorem wds_join {k : Nat} : ∀ ps : List (List Nat), (∀ w ∈ ps, w ≠ [] ∧ (32 : Nat) ∉ w) → wds [] (TL.joinL (List.replicate (k + 1) 32) ps) = ps
  | [], _ => rfl
  | [p], h => by
    obtain ⟨h1, h2⟩ := h p List.mem_cons_self
    have e := wds_word p [] [] h2
    rw [List.append_nil, List.nil_append] at e
    show wds [] p = [p]
    rw [e]
    exact wds_tail 0 h1
  | p :: q :: r, h => by
    obtain ⟨h1, h2⟩ := h p List.mem_cons_self
    show wds [] (p ++ (List.replicate (k + 1) 32 ++ TL.joinL (List.replicate (k + 1) 32) (q :: r))) = _
    rw [wds_word p [] _ h2, List.nil_append, wds_gap k _ _ h1, wds_lead, wds_join (q :: r) fun w hw => h w (List.mem_cons_of_mem _ hw)]
theorem wds_join_more {k : Nat} (l : List Nat) : ∀ ps : List (List Nat), (∀ w ∈ ps, w ≠ [] ∧ (32 : Nat) ∉ w) → wds [] (TL.joinL (List.replicate (k + 1) 32) ps ++ 32 :: l) = ps ++ wds [] l
  | [], _ => wds_lead 1 l
  | [p], h => by
    obtain ⟨h1, h2⟩ := h p List.mem_cons_self
    show wds [] (p ++ 32 :: l) = p :: wds [] l
    rw [wds_word p [] _ h2, List.nil_append]
    exact wds_gap 0 _ _ h1
  | p :: q :: r, h => by
    obtain ⟨h1, h2⟩ := h p List.mem_cons_self
    show wds [] ((p ++ (List.replicate (k + 1) 32 ++ TL.joinL (List.replicate (k + 1) 32) (q :: r))) ++ 32 :: l) = _
    rw [List.append_assoc, List.append_assoc, wds_word p [] _ h2, List.nil_append, wds_gap k _ _ h1, wds_lead, wds_join_more l (q :: r) fun w hw => h w (List.mem_cons_of_mem _ hw)]
    rfl
def WdB (z : Str) : Prop := TL.tl z ≠ [] ∧ (32 : Nat) ∉ TL.tl z
theorem wd_all {zs : List Str} (h : ∀ z ∈ zs, WdB z) : ∀ w ∈ zs.map TL.tl, w ≠ [] ∧ (32 : Nat) ∉ w := fun w hw => by
  obtain ⟨z, hz, rfl⟩ := List.mem_map.mp hw
  exact h z hz
theorem words_join {zs : List Str} (h : ∀ z ∈ zs, WdB z) : wordsOf (Txt.join " " zs) = zs := by
  refine TL.map_tl_inj ?_
  rw [words_wds, TL.join_eq, TL.tl_join]
  exact wds_join (k := 0) _ (wd_all h)
theorem words_join2 {zs : List Str} (h : ∀ z ∈ zs, WdB z) : wordsOf (Txt.join "  " zs ++ " ") = zs := by
  refine TL.map_tl_inj ?_
  rw [words_wds, TL.tl_append, TL.join_eq, TL.tl_join]
  have q := wds_join_more (k := 1) [] _ (wd_all h)
  rw [show wds [] [] = [] from rfl, List.append_nil] at q
  exact q
theorem words_more {zs : List Str} (h : ∀ z ∈ zs, WdB z) : wordsOf (Txt.join " " zs ++ " q/1") = zs ++ [("q/1" : Str)] := by
  refine TL.map_tl_inj ?_
  rw [words_wds, TL.tl_append, TL.join_eq, TL.tl_join, List.map_append]
  exact wds_join_more (k := 0) (TL.tl "q/1") _ (wd_all h)
/-! ### FIELDs as words -/
def FldT (ns : List Str) (z : Str) : Prop := ∃ o ∈ hs ns, ∃ p, (p = 0 ∨ (p ∣ MB ∧ 2 ≤ p)) ∧ z = fldT o p
theorem FldL.t {ns : List Str} {z : Str} (h : FldL ns z) : FldT ns z := by
  obtain ⟨o, p, ho, hp, hz⟩ := h
  refine ⟨o, ho, p, parts_ok p hp, ?_⟩
  rcases parts_ok p hp with rfl | ⟨hd, h2⟩
  · exact cd_ext (by rw [hz, if_pos rfl]; unfold fldT; rw [if_pos rfl])
  · have N := num_facts hd h2
    exact cd_ext (by
      unfold fldT
      rw [hz, if_neg (by omega), if_neg (by omega), cd_ftext o p N.dig, cd_dec])
theorem own_at {ns : List Str} (hn : ∀ n ∈ ns, isName (cd n) = true) {o : Str} (ho : o ∈ hs ns) : OwnF o := by
  rcases List.mem_cons.mp ho with rfl | ho
  · exact own_hash
  · exact own_name (hn o ho)
theorem own_wd {ns : List Str} (hn : ∀ n ∈ ns, isName (cd n) = true) {o : Str} (ho : o ∈ hs ns) : WdB o := by
  rcases List.mem_cons.mp ho with rfl | ho
  · exact (by decide +kernel : TL.tl ("#" : Str) ≠ [] ∧ (32 : Nat) ∉ TL.tl "#")
  · have h := hn o ho
    unfold isName at h
    rw [Bool.and_eq_true, Bool.and_eq_true] at h
    have h3 := h.2.2
    refine ⟨fun e => ?_, fun e => ?_⟩
    · have e : cd o = [] := e
      rw [e] at h
      revert h
      decide
    · have q := List.all_eq_true.mp h3 32 e
      revert q
      decide
theorem FldT.wd {ns : List Str} (hn : ∀ n ∈ ns, isName (cd n) = true) {z : Str} (h : FldT ns z) : WdB z := by
  obtain ⟨o, ho, p, hp, rfl⟩ := h
  obtain ⟨w1, w2⟩ := own_wd hn ho
  rcases hp with rfl | ⟨hd, h2⟩
  · unfold fldT
    rw [if_pos rfl]
    exact ⟨w1, w2⟩
  · have N := num_facts hd h2
    have e : TL.tl (fldT o p) = TL.tl o ++ 47 :: TL.numL p := by
      show cd (fldT o p) = cd o ++ _
      unfold fldT
      rw [if_neg (by omega), cd_ftext o p N.dig, cd_dec]
    unfold WdB
    rw [e]
    refine ⟨fun q => w1 (List.append_eq_nil_iff.mp q).1, fun q => ?_⟩
    rcases List.mem_append.mp q with q | q
    · exact w2 q
    · rcases List.mem_cons.mp q with q | q
      · exact absurd q (by decide)
      · have md := N.md
        unfold isModC at md
        split at md
        · cases md
        · have q2 := List.all_eq_true.mp md 32 q
          revert q2
          decide +kernel
theorem FldT.ok {ns : List Str} (hn : ∀ n ∈ ns, isName (cd n) = true) {z : Str} (h : FldT ns z) : FldOk (hs ns) z ∧ z.length ≤ 30 := by
  obtain ⟨o, ho, p, hp, rfl⟩ := h
  obtain ⟨fa, f1, f2, f3⟩ := fld_at (own_at hn ho) hp
  obtain ⟨_, _, _, f4⟩ := fld_facts (own_at hn ho) hp
  exact ⟨⟨f1, fa.len, by rw [f2]; exact ho, fa.num f1, fa.dv f1⟩, f4⟩
theorem FldT.str {ns : List Str} (hn : ∀ n ∈ ns, isName (cd n) = true) {z : Str} (h : FldT ns z) : PyData.strOk z = true := by
  obtain ⟨o, ho, p, hp, rfl⟩ := h
  have ko := key_ok hn o ho
  rcases hp with rfl | ⟨hd, h2⟩
  · unfold fldT
    rw [if_pos rfl]
    exact ko
  · have N := num_facts hd h2
    have e : cd (fldT o p) = cd o ++ 47 :: TL.numL p := by
      unfold fldT
      rw [if_neg (by omega), cd_ftext o p N.dig, cd_dec]
    unfold PyData.strOk at ko ⊢
    rw [← Array.all_toList, List.all_eq_true] at ko ⊢
    intro c hc
    have hc : c ∈ cd (fldT o p) := hc
    rw [e] at hc
    rcases List.mem_append.mp hc with hc | hc
    · exact ko c hc
    · refine decide_eq_true ?_
      rcases List.mem_cons.mp hc with rfl | hc
      · decide
      · have q := N.md
        unfold isModC at q
        split at q
        · cases q
        · have q2 := List.all_eq_true.mp q c hc
          unfold digitB at q2
          have q3 : ∀ x ∈ cd "0123456789", x < 128 := by decide +kernel
          have q4 := q3 c (of_decide_eq_true q2)
          omega
theorem shown_t {ns : List Str} {t : Str → List Str} {m : Str → Nat} (sm : StM ns t m) : ∀ z ∈ shownT ns t m, FldT ns z := fun z hz => by
  obtain ⟨n, hn, rfl⟩ := List.mem_map.mp hz
  obtain ⟨hni, hp⟩ := List.mem_filter.mp hn
  have hp := of_decide_eq_true hp
  refine ⟨n, hni, m n, (sm.dv n hni).imp id fun h => ⟨h, ?_⟩, rfl⟩
  have : m n ≠ 0 := fun z => by
    rw [z] at h
    exact absurd (Nat.eq_zero_of_zero_dvd h) (by decide)
  have := hp.1
  omega
theorem not_dash {ns : List Str} (hn : ∀ n ∈ ns, isName (cd n) = true) {zs : List Str} (h : ∀ z ∈ zs, FldT ns z) : zs ≠ [("-" : Str)] := fun e => by
  have q := ((h "-" (by rw [e]; exact List.mem_cons_self)).ok hn).1.ok
  revert q
  decide +kernel
theorem wS_or {ns : List Str} (hn : ∀ n ∈ ns, isName (cd n) = true) {ys : List Str} (h : ∀ z ∈ ys, FldT ns z) : wordsS (joinOr ys) = ys := by
  rw [join_or fun z hz => ((h z hz).ok hn).1.ok]
  by_cases e : ys = []
  · rw [if_pos e, e]
    decide +kernel
  · rw [if_neg e]
    unfold wordsS
    rw [words_join fun z hz => (h z hz).wd hn, if_neg (not_dash hn h)]
theorem wO_or {ns : List Str} (hn : ∀ n ∈ ns, isName (cd n) = true) {ys : List Str} (h : ∀ z ∈ ys, FldT ns z) : wordsOf (joinOr ys) = ys ∨ (ys = [] ∧ wordsOf (joinOr ys) = [("-" : Str)]) := by
  rw [join_or fun z hz => ((h z hz).ok hn).1.ok]
  by_cases e : ys = []
  · rw [if_pos e, e]
    exact .inr ⟨rfl, by decide +kernel⟩
  · rw [if_neg e]
    exact .inl (words_join fun z hz => (h z hz).wd hn)
theorem wS_2 {ns : List Str} (hn : ∀ n ∈ ns, isName (cd n) = true) {zs : List Str} (h : ∀ z ∈ zs, FldT ns z) : wordsS (Txt.join "  " zs ++ " ") = zs := by
  unfold wordsS
  rw [words_join2 fun z hz => (h z hz).wd hn, if_neg (not_dash hn h)]
/-! ### numbers: FIELDs in another order, the plain writing -/
theorem join_perm {zs ys : List Str} (pm : ys.Perm zs) (n : Str) : joinS ys n = joinS zs n := by
  unfold joinS
  refine pm.foldl_eq' (fun x _ y _ z => ?_) 1
  by_cases hx : fieldName x = n
  · by_cases hy : fieldName y = n
    · rw [if_pos hx, if_pos hy, if_pos hy, if_pos hx, Nat.lcm_assoc, Nat.lcm_assoc, Nat.lcm_comm (fnum x)]
    · rw [if_pos hx, if_neg hy, if_neg hy, if_pos hx]
  · by_cases hy : fieldName y = n
    · rw [if_neg hx, if_pos hy, if_neg hx]
    · rw [if_neg hx, if_neg hy, if_neg hx]
theorem close_cg {ns : List Str} {t : Str → List Str} {m u : Str → Nat} (h : ∀ n ∈ hs ns, m n = u n) : ∀ n ∈ hs ns, closeM ns t m n = closeM ns t u n := fun n hn => by
  have e : wholeOf (hs ns) ns t m = wholeOf (hs ns) ns t u := by
    unfold wholeOf
    have key : ∀ l : List Str, (∀ w ∈ l, m w = u w) → (l.flatMap fun w => if m w = 0 then toldAt ns t w else []) = l.flatMap fun w => if u w = 0 then toldAt ns t w else [] := fun l => by
      induction l with
      | nil => intro _; rfl
      | cons w l ih =>
        intro h
        rw [List.flatMap_cons, List.flatMap_cons, ih fun x hx => h x (List.mem_cons_of_mem _ hx), h w List.mem_cons_self]
    exact key _ h
  unfold closeM
  rw [show wholeOf (("#" : Str) :: ns) ns t m = wholeOf (hs ns) ns t m from rfl, show wholeOf (("#" : Str) :: ns) ns t u = wholeOf (hs ns) ns t u from rfl, e, h n hn]
theorem StageO.cg {K : PySem.W.Frag} {H : Hp} {x kk d : Addr} {ns : List Str} {t : Str → List Str} {m u : Str → Nat} (h : StageO K H x kk d ns t m) (e : ∀ n ∈ hs ns, m n = u n) : StageO K H x kk d ns t u := ⟨h.x, h.k, by
  rw [h.d, kvG_congr (f := numV m) (g := numV u) fun n hn => by unfold numV; rw [e n hn]]⟩
theorem fold_one {m : Str → Nat} {n : Str} : ∀ {l : List Str} (a : Nat), (∀ k ∈ l, fieldName (fldT k (m k)) = k ∧ fnum (fldT k (m k)) = m k) → l.Nodup → ((l.map fun k => fldT k (m k)).foldl (fun a z => if fieldName z = n then Nat.lcm a (fnum z) else a) a) = if n ∈ l then Nat.lcm a (m n) else a
  | [], a, _, _ => rfl
  | k :: l, a, hf, nd => by
    obtain ⟨f1, f2⟩ := hf k List.mem_cons_self
    obtain ⟨n1, n2⟩ := List.nodup_cons.mp nd
    rw [List.map_cons, List.foldl_cons, fold_one _ (fun z hz => hf z (List.mem_cons_of_mem _ hz)) n2, f1, f2]
    by_cases e : k = n
    · subst e
      rw [if_pos rfl, if_neg n1, if_pos List.mem_cons_self]
    · rw [if_neg e]
      by_cases hn : n ∈ l
      · rw [if_pos hn, if_pos (List.mem_cons_of_mem _ hn)]
      · rw [if_neg hn, if_neg fun q => (List.mem_cons.mp q).elim (fun z => e z.symm) hn]
theorem top_of {ns : List Str} {R : List (Str × Str)} {m : Str → Nat} (n0 : ("#" : Str) ∉ ns) {rk : Str → Nat} (hr : ∀ p ∈ R, rk p.1 < rk p.2) : ∀ (k : Nat) (v : Str), v ∈ hs ns → m v = 0 → rk v ≤ k → ∃ u ∈ hs ns, m u = 0 ∧ u ∉ wholeOf (hs ns) ns (toldOf R ns) m ∧ (u = v ∨ v ∈ toldAt ns (toldOf R ns) u) := fun k => by
  induction k using Nat.strongRecOn with
  | _ k ih =>
    intro v hv hm hk
    by_cases q : v ∈ wholeOf (hs ns) ns (toldOf R ns) m
    · obtain ⟨u, hu, h⟩ := List.mem_flatMap.mp q
      by_cases z : m u = 0
      · rw [if_pos z] at h
        by_cases e : u = "#"
        · refine ⟨u, hu, z, fun h2 => ?_, .inr h⟩
          obtain ⟨w, hw, h3⟩ := List.mem_flatMap.mp h2
          split at h3
          · rw [e] at h3
            unfold toldAt at h3
            split at h3
            · exact n0 h3
            · exact n0 (told_in.mp h3).1
          · cases h3
        · have h' := h
          unfold toldAt at h'
          rw [if_neg e] at h'
          obtain ⟨j, hj⟩ := via_steps (told_in.mp h').2
          have l1 := steps_rank hr hj
          have l2 := via_pos hj
          obtain ⟨u', hu', z', nw, hq⟩ := ih (rk u) (by omega) u hu z (Nat.le_refl _)
          refine ⟨u', hu', z', nw, .inr ?_⟩
          rcases hq with rfl | hq
          · exact h
          · exact told_tr n0 u' u v hu' hq h
      · rw [if_neg z] at h
        cases h
    · exact ⟨v, hv, hm, q, .inl rfl⟩
theorem shown_num {ns : List Str} {R : List (Str × Str)} {m : Str → Nat} {ys : List Str} (sm : StM ns (toldOf R ns) m) (nd : (hs ns).Nodup) (hr : ∃ rk : Str → Nat, ∀ p ∈ R, rk p.1 < rk p.2) (pm : ys.Perm (shownT ns (toldOf R ns) m)) : ∀ n ∈ hs ns, closeM ns (toldOf R ns) (joinS ys) n = m n := by
  obtain ⟨rk, hr⟩ := hr
  have j : ∀ n ∈ hs ns, joinS ys n = if m n ≠ 1 ∧ n ∉ wholeOf (hs ns) ns (toldOf R ns) m then m n else 1 := fun n hn => by
    rw [join_perm pm]
    unfold joinS shownT
    rw [fold_one 1 (fun k hk => ?_) (nd.sublist List.filter_sublist)]
    · by_cases c : m n ≠ 1 ∧ n ∉ wholeOf (hs ns) ns (toldOf R ns) m
      · rw [if_pos (List.mem_filter.mpr ⟨hn, decide_eq_true c⟩), if_pos c, Nat.lcm_one_left]
      · have nq : n ∉ (hs ns).filter (fun n => decide (m n ≠ 1 ∧ n ∉ wholeOf (hs ns) ns (toldOf R ns) m)) := fun q => c (by
          have q2 := (List.mem_filter.mp q).2
          exact of_decide_eq_true q2)
        rw [if_neg nq, if_neg c]
    · obtain ⟨hki, hp⟩ := List.mem_filter.mp hk
      have hp := of_decide_eq_true hp
      obtain ⟨_, _, f2, f3⟩ := fld_at (own_at sm.nm hki) (p := m k) ((sm.dv k hki).imp id fun h => ⟨h, by
        have : m k ≠ 0 := fun z => by
          rw [z] at h
          exact absurd (Nat.eq_zero_of_zero_dvd h) (by decide)
        have := hp.1
        omega⟩)
      exact ⟨f2, f3⟩
  intro n hn
  unfold closeM
  show (if n ∈ wholeOf (hs ns) ns (toldOf R ns) (joinS ys) then 0 else joinS ys n) = m n
  by_cases q : n ∈ wholeOf (hs ns) ns (toldOf R ns) (joinS ys)
  · rw [if_pos q]
    obtain ⟨w, hw, h⟩ := List.mem_flatMap.mp q
    split at h
    · rename_i z
      rw [j w hw] at z
      split at z
      · exact (sm.cl w hw z n h).symm
      · cases z
    · cases h
  · rw [if_neg q, j n hn]
    by_cases c1 : m n = 1
    · rw [if_neg fun z => z.1 c1, c1]
    · by_cases c2 : n ∈ wholeOf (hs ns) ns (toldOf R ns) m
      · exfalso
        obtain ⟨v, hv, h⟩ := List.mem_flatMap.mp c2
        split at h
        · rename_i z
          obtain ⟨u, hu, zu, nu, hq⟩ := top_of sm.n0 hr (rk v) v hv z (Nat.le_refl _)
          have hnu : n ∈ toldAt ns (toldOf R ns) u := by
            rcases hq with rfl | hq
            · exact h
            · exact told_tr sm.n0 u v n hu hq h
          refine q (List.mem_flatMap.mpr ⟨u, hu, ?_⟩)
          have ju : joinS ys u = 0 := by
            rw [j u hu, if_pos ⟨by omega, nu⟩, zu]
          rw [if_pos ju]
          exact hnu
        · cases h
      · rw [if_pos ⟨c1, c2⟩]
end Jd
namespace Jd
open PySem PySem.Spec PyProof.Rows L2
/-! ### right; the derivation is printed by gen_yd.py -/
theorem kb_st {K : PySem.W.Frag} {fd : FuncData} (F : Fun K "__init__" "Stage.__init__" s_Stage___init__ (He.ma K (He.ga K "Stage") "__init__") fd) : KBn K fd ["self", "keys", "fields"] 1 ["keys", "fields"] (fun us ws => us ++ ws) (fun vs zs => vs ++ zs) := by
  obtain ⟨oc, od, kV, doc, pm, an, cdv, ct, osl, rfl, lk, hcd⟩ := F.ex
  refine ⟨fun s us ws X l1 l2 => ?_, fun r1 r2 => r1.append r2⟩
  match us, ws, l1, l2 with
  | [_], [_, _], _, _ => exact .of_eq rfl
def g2 {α : Type} : List α → List α → List α
  | [], [a, b] => [b, a]
  | _, _ => []
theorem kb_sof {K : PySem.W.Frag} {fd : FuncData} (F : Fun K "of" "Stage.of" s_Stage_s_of (He5.wf K (He.ga K "Stage") "staticmethod" "of") fd) : KBinds K fd ["keys", "text"] ["text", "keys"] g2 g2 := by
  obtain ⟨oc, od, kV, doc, pm, an, cdv, ct, osl, rfl, lk, hcd⟩ := F.ex
  refine ⟨fun s us ws X hl => ?_, fun r1 r2 => ?_⟩
  · match us, ws, hl with
    | [], [v, w], _ => exact .of_eq rfl
  · cases r1 with
    | nil =>
      cases r2 with
      | nil => exact .nil
      | cons a b =>
        cases b with
        | nil => exact .nil
        | cons c e =>
          cases e with
          | nil => exact .cons c (.cons a .nil)
          | cons _ _ => exact .nil
    | cons _ _ => cases r2 <;> exact .nil
theorem Book.tbl {ns : List Str} {R : List (Str × Str)} (b : Book ns R) : Tbl ns R := ⟨b.nd, b.l5, fun h => noh (b.pool _ h), fun a y => by rw [(tab0_nd b.rnd a).count]; split <;> omega, b.r1, b.r2, b.rk, by have := b.rl; omega⟩
theorem StageO.keepU {K : PySem.W.Frag} {H H' : Hp} {x kk d u : Addr} {ns : List Str} {t : Str → List Str} {m : Str → Nat} {xs : List V} (h : StageO K H x kk d ns t m) (hu : H u = some (.lst xs)) (k : ∀ b o, b ≠ u → H b = some o → H' b = some o) : StageO K H' x kk d ns t m := by
  obtain ⟨⟨dx, h1⟩, h2, h3⟩ := h
  exact ⟨⟨dx, k _ _ (ne_of h1 hu (by intro z; cases z)) h1⟩, h2.keep hu k, k _ _ (ne_of h3 hu (by intro z; cases z)) h3⟩
theorem join_le {sep : Str} {zs : List Str} {j : Nat} (h : ∀ z ∈ zs, z.length ≤ j) : (Txt.join sep zs).length ≤ j * zs.length + sep.length * zs.length := by
  have q := StrLaws.join_length_le sep zs
  have q2 := sum_le h
  have e : Txt.join sep zs = Str.join sep zs := StrLaws.glued_eq_join sep zs
  rw [e, Nat.mul_comm sep.length]
  omega
theorem or_le {ys : List Str} (h : ∀ z ∈ ys, z.length ≤ 30) (l : ys.length ≤ 8) : (joinOr ys).length ≤ 1000 := by
  unfold joinOr
  split
  · exact Nat.le_trans (join_small h l) (by decide)
  · decide
theorem StageO.tyY {K : PySem.W.Frag} {mg : Str → Option Value} (B : Bk K mg) {H : Hp} {x kk d : Addr} {ns : List Str} {t : Str → List Str} {m : Str → Nat} (h : StageO K H x kk d ns t m) : TyX K H (.ref x) (.ref (He.ga K "Stage")) := by
  obtain ⟨ha, hn, htk, hmo⟩ := B.ty_Stage
  obtain ⟨dx, hx⟩ := h.x
  exact .base (.ins hx B.cl_Stage ha hn htk hmo)
def oddW (zs : List Str) (s : Nat) : List Str := ((zs.take s ++ [("q/3" : Str)]) ++ zs.drop s) ++ [("qq" : Str)]
theorem odd_mem {zs : List Str} {s : Nat} {z : Str} (h : z ∈ oddW zs s) : z ∈ zs ∨ z = "q/3" ∨ z = "qq" := by
  unfold oddW at h
  simp only [List.mem_append, List.mem_singleton] at h
  rcases h with ((h | h) | h) | h
  · exact .inl (List.mem_of_mem_take h)
  · exact .inr (.inl h)
  · exact .inl (List.mem_of_mem_drop h)
  · exact .inr (.inr h)
theorem odd_len {zs : List Str} {s : Nat} (h : s ≤ zs.length) : (oddW zs s).length = zs.length + 2 := by
  unfold oddW
  simp only [List.length_append, List.length_take, List.length_drop, List.length_singleton]
  omega
theorem odd_at {zs : List Str} {s : Nat} (h : s ≤ zs.length) : (oddW zs s)[s]? = some ("q/3" : Str) ∧ (oddW zs s).take s = zs.take s := by
  have e : oddW zs s = zs.take s ++ (("q/3" : Str) :: (zs.drop s ++ [("qq" : Str)])) := by
    unfold oddW
    simp
  have l : (zs.take s).length = s := by
    rw [List.length_take]
    omega
  rw [e]
  constructor
  · rw [List.getElem?_append_right (by rw [l]; exact Nat.le_refl _), l, Nat.sub_self]
    rfl
  · rw [List.take_append_of_le_length (by rw [l]; exact Nat.le_refl _)]
    exact List.take_of_length_le (by rw [l]; exact Nat.le_refl _)
theorem q3_ok : ∀ z ∈ (["q/3", "qq"] : List Str), isFieldB z = true ∧ z.length ≤ 30 ∧ PyData.strOk z = true ∧ anyP z ∧ TL.tl z ≠ [] ∧ (32 : Nat) ∉ TL.tl z := by decide +kernel
theorem q1_ok : anyP "q/1" ∧ isFieldB "q/1" = false ∧ PyData.strOk "q/1" = true ∧ (" q/1" : Str).length = 4 ∧ fieldName "q/3" = "q" := by decide +kernel
def spRt : Sp := fun vs H Q _ => ∃ (u : Addr) (n : Nat), vs = [.ref u] ∧ Urn H u n ∧ n < 1000 ∧ ∀ H', Keep u H H' → Q (.bl true) H'
section
variable {P : Program} {w : World} {K : PySem.W.Frag} {mg : Str → Option Value} {base : Heap}
abbrev NRt : List Str := ["_law_urn", "_law_turn", "_law_book_here", "_law_lap", "_law_keyring", "_law_bag", "_law_mods_here", "_law_stage_so", "_law_kin", "_law_own", "_law_spot", "_law_odd", "_law_flat", "_law_got"]
theorem sc_rt : FnScope NRt ["_law_urn"] (defScope s__law_right) := ⟨rfl, rfl, rfl, by decide +kernel, rfl, by decide +kernel, by decide +kernel⟩
theorem ok_right (B : Bk K mg) : Df P w K mg base CX0 12 "_law_right" ["_law_urn"] spRt := by
  obtain ⟨fd, F⟩ := B.F_law_right
  obtain ⟨fdBh, GBh, bBh⟩ := (ok_by_hand (P := P) (w := w) (base := base) B).ex
  have kBh := (ok_by_hand (P := P) (w := w) (base := base) B).kp
  obtain ⟨fdLk, GLk, bLk⟩ := (ok_looked (P := P) (w := w) (base := base) B).ex
  have kLk := (ok_looked (P := P) (w := w) (base := base) B).kp
  obtain ⟨fdB, GB, bB⟩ := (ok_book (P := P) (w := w) (base := base) B).ex
  have kB := (ok_book (P := P) (w := w) (base := base) B).kp
  obtain ⟨fdK, GK, bK⟩ := (ok_law_take (P := P) (w := w) (base := base) B).ex
  have kK := (ok_law_take (P := P) (w := w) (base := base) B).kp
  obtain ⟨fdF, GF, bF⟩ := (ok_fieldL (P := P) (w := w) (base := base) B).ex
  have kF := (ok_fieldL (P := P) (w := w) (base := base) B).kp
  obtain ⟨fdMo, GMo, bMo⟩ := (ok_mods (P := P) (w := w) (base := base) B).ex
  have kMo := (ok_mods (P := P) (w := w) (base := base) B).kp
  obtain ⟨fdMx, GMx, bMx⟩ := (ok_law_mixed (P := P) (w := w) (base := base) B).ex
  have kMx := (ok_law_mixed (P := P) (w := w) (base := base) B).kp
  obtain ⟨fdH, GH, bH⟩ := (ok_heard (P := P) (w := w) (base := base) B).ex
  have kH := (ok_heard (P := P) (w := w) (base := base) B).kp
  obtain ⟨fdQ, GQ, bQ⟩ := (ok_law_same (P := P) (w := w) (base := base) B 2).ex
  have kQ := (ok_law_same (P := P) (w := w) (base := base) B 2).kp
  obtain ⟨fdI, GI, _, FI⟩ := ok_Keys_init (P := P) (w := w) (base := base) B
  have bI := kb_two FI
  obtain ⟨fdS, GS, FS⟩ := ok_Stage_initF (P := P) (w := w) (base := base) B
  have bS : Binds K fdS ["self", "keys", "fields"] [] := FS.binds fun _ _ _ _ _ _ us hl => match us, hl with | [_, _, _], _ => rfl
  have kSt := kb_st FS
  obtain ⟨fdX, GX, bX⟩ := ok_stext (P := P) (w := w) (base := base) B
  obtain ⟨fdFl, GFl, bFl⟩ := ok_fields (P := P) (w := w) (base := base) B
  obtain ⟨fdQs, GQs, bQs⟩ := ok_eqS (P := P) (w := w) (base := base) B
  obtain ⟨fdO, GO, FO⟩ := ok_Stage_of (P := P) (w := w) (base := base) B
  have bO : Binds K fdO ["keys", "text"] [] := FO.binds fun _ _ _ _ _ _ us hl => match us, hl with | [_, _], _ => rfl
  have kOf := kb_sof FO
  refine ⟨⟨fd, ?_, F.binds fun _ _ _ _ _ _ us hl => match us, hl with | [_], _ => rfl⟩, B.g_law_right, F.kp⟩
  refine F.ok sc_rt (fun vs H Q E h => ?_) (fun cdv A outer s H vs Q E hr h => ?_)
  · obtain ⟨_, _, rfl, _⟩ := h
    rfl
  · obtain ⟨u, n, rfl, hu0, hn, k⟩ := h
    have hr1 : Room 1 _ := hr.mono (by decide)
    have hr2 : Room 2 _ := hr.mono (by decide)
    have hr3 : Room 3 _ := hr.mono (by decide)
    have hr4 : Room 4 _ := hr.mono (by decide)
    have hr6 : Room 6 _ := hr.mono (by decide)
    have hr7 : Room 7 _ := hr.mono (by decide)
    have hr8 : Room 8 _ := hr.mono (by decide)
    have hr9 : Room 9 _ := hr.mono (by decide)
    have hr10 : Room 10 _ := hr.mono (by decide)
    refine ⟨_, pss_cons (ps_if (pt_not (pt_val (pe_call0 GBh hr rfl B.g_law_by_hand_right kBh bBh .nil pass0))) (pss_one (ps_ret pe_bl)) pss_nil)
      (pss_cons (ps_for PassesOwn.never rfl (pi_range1 rfl B.b_range (pa_cons pe_int pa_nil)) (pg_name (i := 1) sc_rt.nd rfl (Or.inl rfl)) (pss_cons (ps_cut (ps_set (i := 2) sc_rt.nd rfl (Or.inr rfl) (pe_call GB hr3 rfl B.g_law_book kB bB .nil pass0 (pa_cons (pv 0) (pa_cons pe_int pa_nil)))))
        (pss_cons (ps_cut (ps_par (i := 4) (j := 5) (by rfl) sc_rt.nd rfl rfl (by decide) rfl rfl (pa_cons (pe_make (E := fun _ _ _ => False) B.mk_Keys GI hr4 (by rfl) B.g_Keys bI .nil passF (pa_cons (pe_ix ix_tup (pv 2) pe_int (fun _ _ => rfl)) (pa_cons (pe_ix ix_tup (pv 2) pe_int (fun _ _ => rfl)) pa_nil))) (pa_cons (pe_lc (own := [("_law_lap", 3)]) (g := gName 3) (tt := tYes) (te := tCall spFl [] E0 (tCons (tVar 0) (tCons (tOp (rIxT K) (tVar 2) (tC (.int 0))) tNil))) rfl sc_rt.nd (pi_range1 rfl B.b_range (pa_cons (pe_call GK hr1 rfl B.g_law_take kK bK .nil pass0 (pa_cons (pv 0) (pa_cons pe_int pa_nil))) pa_nil)) (blkOk_by (N := NRt) (sc := defScope s__law_right) (by decide +kernel)) (fun _ _ _ _ _ => pg_name (i := 3) sc_rt.nd rfl (Or.inl rfl)) (fun _ _ _ _ _ => pts_nil) (fun _ _ _ _ _ => (pe_call GF hr3 rfl B.g_law_field kF bF .nil pass0 (pa_cons (pv 0) (pa_cons (pe_ix ix_tup (pv 2) pe_int (fun _ _ => rfl)) pa_nil))))) pa_nil)) (by rfl)))
        (pss_cons (ps_cut (ps_asg (pe_tup (pa_cons (pe_call GMo hr3 rfl B.g_law_mods kMo bMo .nil pass0 (pa_cons (pv 2) (pa_cons (pv 5) pa_nil))) (pa_cons (pe_make (E := fun _ _ _ => False) B.mk_Stage GS hr7 (by rfl) B.g_Stage bS .nil passF (pa_cons (pv 4) (pa_cons (pv 5) pa_nil))) pa_nil))) (pg_tup (by rfl) (pgs_cons (pg_name (i := 6) sc_rt.nd rfl (.inl rfl)) (pgs_cons (pg_name (i := 7) sc_rt.nd rfl (.inr rfl)) pgs_nil)))))
        (pss_cons (ps_if (pt_not (pt_val (pe_call GLk hr9 rfl B.g_law_looked_right kLk bLk .nil pass0 (pa_cons (pv 2) (pa_cons (pv 4) (pa_cons (pv 6) (pa_cons (pv 7) pa_nil))))))) (pss_one (ps_ret pe_bl)) pss_nil)
        (pss_cons (ps_cut (ps_set (i := 8) sc_rt.nd rfl (Or.inl rfl) (pe_lst (pa_cons (pe_makeK0 (E := fun _ _ _ => False) B.mk_Stage GS hr7 (by rfl) B.g_Stage kSt passF (pk_cons (pv 4) (pk_cons (pe_callTy call_tupleT (by rfl) B.b_tuple (by decide +kernel) (pa_cons (pe_call GMx hr2 rfl B.g_law_mixed kMx bMx .nil pass0 (pa_cons (pv 0) (pa_cons (pv 5) pa_nil))) pa_nil)) pk_nil))) (pa_cons (pe_make (E := fun _ _ _ => False) B.mk_Stage GS hr7 (by rfl) B.g_Stage bS .nil passF (pa_cons (pv 4) (pa_cons (pe_prop (pv 7) B.cl_Stage B.pr_Stage_fields GFl hr6 bFl .nil pass0 rfl) pa_nil))) pa_nil)))))
        (pss_cons (ps_cut (ps_set (i := 8) sc_rt.nd rfl (Or.inl rfl) (pe_op op_cat (pv 8) (pe_lst (pa_cons (pe_smeth (E := fun _ _ _ => False) (pe_glob (v := .ref (He.ga K "Stage")) rfl B.g_Stage rfl) B.sm_Stage_of GO hr8 bO .nil passF (pa_cons (pv 4) (pa_cons (pe_prop (pv 7) B.cl_Stage B.pr_Stage_text GX hr8 bX .nil pass0 rfl) pa_nil))) (pa_cons (pe_smethK0 (E := fun _ _ _ => False) (pe_glob (v := .ref (He.ga K "Stage")) rfl B.g_Stage rfl) B.sm_Stage_of GO hr8 kOf passF (pk_cons (pe_op op_add_str (pe_join pe_str (pv 5)) pe_str) (pk_cons (pv 4) pk_nil))) pa_nil))))))
        (pss_cons (ps_if (pt_not (pt_val (pe_callB (cr_all rfl) (by rfl) B.b_all (by decide +kernel) (pa_cons (pe_lc (own := [("_law_own", 9)]) (g := gName 9) (tt := tYes) (te := tAndV (tOp (rEqOwn K (He.ga K "Stage") (spEqS K) E0) (tVar 9) (tVar 7)) (tOp rEq (tProp (He.ga K "Stage") (spTxt K) [] E0 (tVar 9)) (tProp (He.ga K "Stage") (spTxt K) [] E0 (tVar 7)))) rfl sc_rt.nd (pi_list (pv 8)) (blkOk_by (N := NRt) (sc := defScope s__law_right) (by decide +kernel)) (fun _ _ _ _ _ => pg_name (i := 9) sc_rt.nd rfl (Or.inl rfl)) (fun _ _ _ _ _ => pts_nil) (fun _ _ _ _ _ => pe_and (pe_cmpR (op_eqOwn (E := E0) GQs hr2 B.sp_Stage_eq.1 B.sp_Stage_eq.2 bQs pass0) (pv 9) (pv 7) (nomark _)) (pe_one (pe_cmpR op_eq (pe_prop (pv 9) B.cl_Stage B.pr_Stage_text GX hr8 bX .nil pass0 rfl) (pe_prop (pv 7) B.cl_Stage B.pr_Stage_text GX hr8 bX .nil pass0 rfl) (nomark _))))) pa_nil)))) (pss_one (ps_ret pe_bl)) pss_nil)
        (pss_cons (ps_cut (ps_set (i := 10) sc_rt.nd rfl (Or.inl rfl) (pe_call GK hr1 rfl B.g_law_take kK bK .nil pass0 (pa_cons (pv 0) (pa_cons (pe_op op_add (pe_callB call_len (by rfl) B.b_len (by decide +kernel) (pa_cons (pv 5) pa_nil)) pe_int) pa_nil)))))
        (pss_cons (ps_cut (ps_set (i := 11) sc_rt.nd rfl (Or.inl rfl) (pe_op op_cat (pe_op op_cat (pe_op op_cat (pe_slice sl_list (pv 5) po_none (po_some (pv 10))) (pe_lst (pa_cons pe_str pa_nil))) (pe_slice sl_list (pv 5) (po_some (pv 10)) po_none)) (pe_lst (pa_cons pe_str pa_nil)))))
        (pss_cons (ps_cut (ps_set (i := 12) sc_rt.nd rfl (Or.inl rfl) (pe_join pe_str (pv 11))))
        (pss_cons (ps_cut (ps_set (i := 13) sc_rt.nd rfl (Or.inl rfl) (pe_lst (pa_cons (pe_call GH hr10 rfl B.g_law_heard kH bH .nil pass0 (pa_cons pe_int (pa_cons (pv 4) (pa_cons (pv 11) pa_nil)))) (pa_cons (pe_call GH hr10 rfl B.g_law_heard kH bH .nil pass0 (pa_cons pe_int (pa_cons (pv 4) (pa_cons (pv 12) pa_nil)))) (pa_cons (pe_call GH hr10 rfl B.g_law_heard kH bH .nil pass0 (pa_cons pe_int (pa_cons (pv 4) (pa_cons (pe_op op_add_str (pv 12) pe_str) pa_nil)))) pa_nil))))))
        (pss_one (ps_if (pt_not (pt_val (pe_call GQ hr4 rfl B.g_law_same kQ bQ .nil pass0 (pa_cons (pv 13) (pa_cons (pe_lst (pa_cons (pe_tup (pa_cons pe_str (pa_cons pe_str pa_nil))) (pa_cons (pe_tup (pa_cons pe_str (pa_cons pe_str pa_nil))) (pa_cons (pe_tup (pa_cons pe_str (pa_cons pe_str pa_nil))) pa_nil)))) pa_nil))))) (pss_one (ps_ret pe_bl)) pss_nil))))))))))))))
      (pss_one (ps_ret pe_bl))), ?_⟩
    have big : (1000000 : Nat) ≤ sizeLine := by decide
    refine ⟨rfl, fun H0 s0 => ⟨_, rfl, iteF ?_⟩⟩
    refine ⟨_, rfl, by decide, by decide, ?_⟩
    refine for_it (n := 10) walk_range (fun i σ H' => ∃ v1 v2 v3 v4 v5 v6 v7 v8 v9 v10 v11 v12 v13 : Option V, σ = [some (.ref u), v1, v2, v3, v4, v5, v6, v7, v8, v9, v10, v11, v12, v13] ∧ Urn H' u (n + 80 * i) ∧ Keep u H H')
      ⟨_, _, _, _, _, _, _, _, _, _, _, _, _, rfl, hu0.same s0, Same.keep s0⟩ (fun _ _ _ _ _ => trivial) (fun i xx σ H2 H3 hi ⟨v1, v2, v3, v4, v5, v6, v7, v8, v9, v10, v11, v12, v13, e, huT, kT⟩ y => ?_) (fun σ H2 ⟨v1, v2, v3, v4, v5, v6, v7, v8, v9, v10, v11, v12, v13, e, huT, kT⟩ => ?_)
    rotate_left
    · subst e
      exact k _ kT
    obtain ⟨rfl, rfl⟩ := y
    subst e
    have hi4 : i < 10 := hi
    refine ⟨fun σ' H' => ∃ (ns : List Str) (R : List (Str × Str)) (bt f g : Addr) (qs : List Addr), σ' = [some (.ref u), some (.int (0 + (i : Int))), some (.ref bt), v3, v4, v5, v6, v7, v8, v9, v10, v11, v12, v13] ∧ Keep u H3 H' ∧ Urn H' u (n + 80 * i + 40) ∧ Book ns R ∧ H' bt = some (.tup [.ref f, .ref g]) ∧ H' f = some (.tup (ns.map V.str)) ∧ H' g = some (.tup (qs.map V.ref)) ∧ PrAt H' qs R, ?_, ?_⟩
    · refine ⟨_, rfl, u, 4, n + 80 * i, rfl, huT, by omega, by decide, by decide, fun ns R t f g qs H' bk hu' kp nt nf ng nq ht hf hg pr => ?_⟩
      exact ⟨ns, R, t, f, g, qs, rfl, kp, hu', bk, ht, hf, hg, pr⟩
    rintro σ1 Ha ⟨ns, R, bt, f, g, qs, rfl, ka, hua, bk, ht, hf, hg, pr⟩
    replace ka := kT.trans ka
    clear kT huT
    have l5 := bk.l5
    have rl := bk.rl
    have nm : ∀ z ∈ ns, isName (cd z) = true := fun z hz => pl_name z (bk.pool z hz)
    have sok : ∀ z ∈ ns, PyData.strOk z = true := fun z hz => pool_ok z (bk.pool z hz)
    have n0 : ("#" : Str) ∉ ns := fun h => noh (bk.pool _ h)
    have nq : ("q" : Str) ∉ hs ns := fun h => (List.mem_cons.mp h).elim (fun e => absurd e (by decide +kernel)) fun h => noq (bk.pool _ h)
    have rin : ∀ p ∈ R, p.1 ∈ ns ∧ p.2 ∈ ns := fun p hp => ⟨bk.r1 p hp, bk.r2 p hp⟩
    have tb : Tbl ns R := bk.tbl
    refine ⟨fun σ' H' => ∃ (kk bg : Addr) (v3 : Option V) (zs : List Str), σ' = [some (.ref u), some (.int (0 + (i : Int))), some (.ref bt), v3, some (.ref kk), some (.ref bg), v6, v7, v8, v9, v10, v11, v12, v13] ∧ Keep u H H' ∧ Urn H' u (n + 80 * i + 56) ∧ BkAt H' bt ns R ∧ KeysO K H' kk ns (toldOf R ns) ∧ H' bg = some (.lst (zs.map V.str)) ∧ bg ≠ u ∧ zs.length ≤ 5 ∧ ∀ z ∈ zs, FldL ns z, ?_, ?_⟩
    · refine ⟨_, rfl, bt, _, _, _, rfl, rfl, SqT.of ht, rfl, _, rfl, bt, _, _, _, rfl, rfl, SqT.of ht, rfl, fun x dx nx ndx nex => ?_⟩
      refine ki_gen (names := ns) (R := R) nx ndx (.inr (SqT.of hf)) bk.nd (by omega) sok (tells_of hg pr) (by omega) rin ⟨ns, bk.rk⟩ fun ns' pm so nd H4 s4 ko => ⟨rfl, ?_⟩
      have e := names_one bk.nd bk.so (fun _ => Iff.rfl) ns' pm so
      subst e
      refine ⟨_, rfl, u, 6, n + 80 * i + 40, rfl, hua.same s4, by omega, by decide, by decide, fun r H6 r0 r1 hu6 k6 => ?_⟩
      obtain ⟨ua, ub, uc, hua0, _⟩ := id hua
      have hu40 := s4 _ _ hua0
      have ka6 : Keep u Ha H6 := fun b o nb q => k6 _ _ nb (s4 _ _ q)
      have ko6 := ko.keep hu40 k6
      have nf : ∀ {b : Addr} {xs : List V}, Ha b = some (.tup xs) → b ≠ u := fun h => ne_of h hua0 (by intro z; cases z)
      have ht6 := ka6 _ _ (nf ht) ht
      have hf6 := ka6 _ _ (nf hf) hf
      have hg6 := ka6 _ _ (nf hg) hg
      have pr6 := Keep.pr ka6 hua0 pr
      obtain ⟨va, vb, vc, hu60, _⟩ := id hu6
      refine ⟨_, rfl, by omega, by omega, fun D nD => ?_⟩
      have nDu : D ≠ u := fun e => by rw [e, hu60] at nD; cases nD
      refine lc_it (n := r.toNat) walk_range (fun q H' => Keep u H6 H' ∧ Urn H' u (n + 80 * i + 41 + 3 * q) ∧ ∃ zs : List Str, zs.length = q ∧ H' D = some (.lst (zs.map V.str)) ∧ ∀ z ∈ zs, FldL ns' z)
        ⟨Same.keep (Same_new nD), hu6.same (Same_new nD), [], rfl, upd_same, fun z hz => by cases hz⟩ (fun _ _ _ _ => trivial) (fun q xq H7 H8 hq ⟨k7, hu7, zs, lz, hD7, fz⟩ y => ?_) (fun H7 ⟨k7, hu7, zs, lz, hD7, fz⟩ => ?_)
      · obtain ⟨rfl, rfl⟩ := y
        refine ⟨rfl, iteT (B := ∃ z : Nat, z = 0) ?_⟩
        have nf6 : ∀ {b : Addr} {xs : List V}, H6 b = some (.tup xs) → b ≠ u := fun h => ne_of h hu60 (by intro z; cases z)
        refine ⟨_, rfl, _, rfl, bt, _, _, _, rfl, rfl, SqT.of (k7 _ _ (nf6 ht6) ht6), rfl, u, f, _, ns', rfl, hu7, by omega, k7 _ _ (nf6 hf6) hf6, bk.l1, l5, nm, fun H9 z hu9 k9 fo => ?_⟩
        have hD9 := k9 _ _ nDu hD7
        refine ⟨_, hD9, ?_, ?_, ?_, zs ++ [z], by rw [List.length_append, lz]; rfl, by rw [upd_same, List.map_append]; rfl, fun y hy => ?_⟩
        · rw [List.length_map]
          omega
        · exact Keep_lay (k7.trans k9) nD
        · obtain ⟨a, b, c, e1, e2, e3⟩ := hu9
          exact ⟨a, b, c, by rw [upd_ne nDu.symm]; exact e1, e2, by omega⟩
        · rcases List.mem_append.mp hy with hy | hy
          · exact fz y hy
          · rw [List.mem_singleton.mp hy]
            exact fo
      · have kf : Keep u Ha H7 := ka6.trans k7
        exact ⟨_, _, rfl, x, D, _, zs, rfl, ka.trans kf, hu7.le (by omega), ⟨f, g, qs, kf _ _ (nf ht) ht, kf _ _ (nf hf) hf, kf _ _ (nf hg) hg, Keep.pr kf hua0 pr⟩, ko6.keep hu60 k7, hD7, nDu, by omega, fz⟩
    rintro σ2 Hb ⟨kk, bg, w3, zs, rfl, kb, hub, hbk, ko, hbg, nbu, lz, fz⟩
    clear hua ht hf hg pr ka
    have ft : ∀ z ∈ zs, FldT ns z := fun z hz => (fz z hz).t
    have fo : ∀ z ∈ zs, FldOk (hs ns) z := fun z hz => ((ft z hz).ok nm).1
    have sm : StM ns (toldOf R ns) (closeM ns (toldOf R ns) (joinS zs)) := close_ok n0 nm fo
    have nd : (hs ns).Nodup := List.nodup_cons.mpr ⟨n0, bk.nd⟩
    obtain ⟨ua, ub, uc, hub0, _⟩ := id hub
    have nub : ∀ {H' : Hp} {a : Addr}, Same Hb H' → H' a = none → a ≠ u := fun s h e => by
      have q := s _ _ hub0
      rw [← e, h] at q
      cases q
    refine ⟨fun σ' H' => ∃ (md x d : Addr), σ' = [some (.ref u), some (.int (0 + (i : Int))), some (.ref bt), w3, some (.ref kk), some (.ref bg), some (.ref md), some (.ref x), v8, v9, v10, v11, v12, v13] ∧ Same Hb H' ∧ H' md = some (.dK (kvG (hs ns) (numV (closeM ns (toldOf R ns) (joinS zs))))) ∧ StageO K H' x kk d ns (toldOf R ns) (closeM ns (toldOf R ns) (joinS zs)), ?_, ?_⟩
    · refine ⟨_, rfl, _, rfl, bt, bg, ns, zs, R, rfl, hbk, tb, nm, SqL.of hbg, by omega, fz, fun H4 md s4 hmd => ?_⟩
      refine ⟨_, rfl, _, rfl, fun x dx nx ndx nex => ?_⟩
      refine rd_mkT (ko.same s4) n0 (.inl (SqL.of (s4 _ _ hbg))) (by omega) (fun z hz => fld_any (fo z hz)) (fun H' s' => s') nx ndx (ends_good fo fun H5 d s5 so => ⟨rfl, ?_⟩)
      refine ⟨(by show 2 ≤ sizeLine; decide), fun t0 h0 => ?_⟩
      have s6 := Same_new (o := HO.tup [V.ref md, V.ref x]) h0
      exact ⟨_, _, rfl, SqT.of upd_same, rfl, _, _, rfl, _, _, rfl, rfl, md, x, d, rfl, (s4.trans s5).trans s6, (s5.trans s6) _ _ hmd, so.same s6⟩
    rintro σ3 Hc ⟨md, x, d, rfl, sc, hmd, so⟩
    refine ⟨_, rfl, _, rfl, _, rfl, _, rfl, bt, kk, md, x, d, ns, R, _, rfl, hbk.same sc, tb, nq, hmd, so, sm, fun Hd sd => ⟨_, rfl, iteF ?_⟩⟩
    have t4 := sc.trans sd
    have so4 := so.same sd
    clear hmd so sc sd
    have snd := shown_nd sm nd
    have toS : ∀ {ys : List Str}, ys.Perm (txAll (shownT ns (toldOf R ns) (closeM ns (toldOf R ns) (joinS zs)))) → ys.Perm (shownT ns (toldOf R ns) (closeM ns (toldOf R ns) (joinS zs))) := fun py => py.trans (by
      have q := txAll_perm (shownT ns (toldOf R ns) (closeM ns (toldOf R ns) (joinS zs))) [] (by rw [List.append_nil]; exact snd)
      rw [List.append_nil] at q
      exact q)
    have hrk : ∃ rk : Str → Nat, ∀ p ∈ R, rk p.1 < rk p.2 := bk.rk.imp fun _ h => h.1
    have l6 : (hs ns).length ≤ 6 := by rw [List.length_cons]; omega
    have sle : ∀ {ys : List Str}, ys.Perm (shownT ns (toldOf R ns) (closeM ns (toldOf R ns) (joinS zs))) → ys.length ≤ 6 := fun py => by
      rw [py.length_eq]
      unfold shownT
      rw [List.length_map]
      exact Nat.le_trans (List.length_filter_le _ _) l6
    have yft : ∀ {ys : List Str}, ys.Perm (shownT ns (toldOf R ns) (closeM ns (toldOf R ns) (joinS zs))) → ∀ z ∈ ys, FldT ns z := fun py z hz => shown_t sm z (py.mem_iff.mp hz)
    refine ⟨fun σ' H' => ∃ (kn s1 s2 d : Addr), σ' = [some (.ref u), some (.int (0 + (i : Int))), some (.ref bt), w3, some (.ref kk), some (.ref bg), some (.ref md), some (.ref x), some (.ref kn), v9, v10, v11, v12, v13] ∧ Keep u Hb H' ∧ Urn H' u (n + 80 * i + 61) ∧ StageO K H' x kk d ns (toldOf R ns) (closeM ns (toldOf R ns) (joinS zs)) ∧ H' kn = some (.lst [.ref s1, .ref s2]) ∧ ∀ s ∈ [s1, s2], ∃ d, StageO K H' s kk d ns (toldOf R ns) (closeM ns (toldOf R ns) (joinS zs)), ?_, ?_⟩
    · refine ⟨_, rfl, _, rfl, _, rfl, u, bg, _, n + 80 * i + 56, rfl, hub.same t4, by rw [List.length_map]; omega, .inl (SqL.of (t4 _ _ hbg)), by rw [List.length_map]; omega, fun ys0 p H1 pm hu1 kp1 np hp => ?_⟩
      obtain ⟨ws, rfl, pz⟩ := nodup_perm_map pm
      refine ⟨p, _, rfl, SqT.of hp, rfl, rfl, fun y dy ny ndy ney => ?_⟩
      have k1 : Keep u Hb H1 := (Same.keep t4).trans kp1
      have ko1 := ko.keep hub0 k1
      have fow : ∀ z ∈ ws, FldOk (hs ns) z := fun z hz => fo z (pz.mem_iff.mp hz)
      refine rd_mkT ko1 n0 (.inr (SqT.of hp)) (by rw [pz.length_eq]; omega) (fun z hz => fld_any (fow z hz)) (fun H' s' => s') ny ndy (ends_good fow fun H5 d1 s5 so1 => ⟨rfl, ?_⟩)
      have so1' := so1.cg (close_cg fun n hn => join_perm pz n)
      have so5 := ((so4.keepU (t4 _ _ hub0) kp1).same s5)
      obtain ⟨dx, hx⟩ := so5.x
      refine ⟨_, rfl, _, rfl, x, dx, _, rfl, hx, x, kk, d, ns, _, _, rfl, so5, sm, fun H6 p2 ys s6 py sy hp2 => ?_⟩
      have py' := toS py
      have foy : ∀ z ∈ ys, FldOk (hs ns) z := fun z hz => ((yft py' z hz).ok nm).1
      have s16 := s5.trans s6
      refine fun y2 dy2 ny2 ndy2 ney2 => rd_mkT (ko1.same s16) n0 (.inr (SqT.of hp2)) (by have := sle py'; omega) (fun z hz => fld_any (foy z hz)) (fun H' s' => s') ny2 ndy2 (ends_good foy fun H7 d2 s7 so2 => ⟨rfl, ?_⟩)
      have so2' := so2.cg (shown_num sm nd hrk py')
      refine ⟨(by show 2 ≤ sizeLine; decide), fun kn nkn => ?_⟩
      have s8 := Same_new (o := HO.lst [V.ref y, V.ref y2]) nkn
      have s18 := s16.trans (s7.trans s8)
      rw [List.length_map] at hu1
      refine ⟨kn, y, y2, d, rfl, k1.trans (Same.keep s18), (hu1.same s18).le (by omega), so5.same (s6.trans (s7.trans s8)), upd_same, fun s hs => ?_⟩
      rcases List.mem_cons.mp hs with rfl | hs
      · exact ⟨d1, so1'.same (s6.trans (s7.trans s8))⟩
      · rw [List.mem_singleton.mp hs]
        exact ⟨d2, so2'.same s8⟩
    rintro σ4 He ⟨kn, s1, s2, d4, rfl, ke, hue, soe, hkn, hks⟩
    clear so4 t4
    have hbge := ke _ _ nbu hbg
    have koe := ko.keep hub0 ke
    refine ⟨fun σ' H' => ∃ (kn : Addr) (ss : List Addr), σ' = [some (.ref u), some (.int (0 + (i : Int))), some (.ref bt), w3, some (.ref kk), some (.ref bg), some (.ref md), some (.ref x), some (.ref kn), v9, v10, v11, v12, v13] ∧ Same He H' ∧ H' kn = some (.lst (ss.map V.ref)) ∧ ss.length = 4 ∧ ∀ s ∈ ss, ∃ d, StageO K H' s kk d ns (toldOf R ns) (closeM ns (toldOf R ns) (joinS zs)), ?_, ?_⟩
    · obtain ⟨dx, hx⟩ := soe.x
      refine ⟨_, rfl, rfl, _, rfl, _, rfl, x, dx, _, rfl, hx, x, kk, d4, ns, _, _, rfl, soe, sm, fun H1 ys s1' py sy => ?_⟩
      have py' := toS py
      have fty := yft py'
      have foy : ∀ z ∈ ys, FldOk (hs ns) z := fun z hz => ((fty z hz).ok nm).1
      have wS := wS_or nm fty
      have ly := sle py'
      refine ⟨kk, joinOr ys, ns, _, rfl, koe.same s1', n0, Nat.le_trans (or_le (fun z hz => ((fty z hz).ok nm).2) (by omega)) (by decide), ?_, ?_, by rw [wS]; exact fun z hz => fld_any (foy z hz), ?_⟩
      · rcases wO_or nm fty with e | ⟨_, e⟩
        · rw [e]
          omega
        · rw [e]
          decide
      · rcases wO_or nm fty with e | ⟨_, e⟩
        · rw [e]
          exact fun z hz => (fty z hz).str nm
        · rw [e]
          decide +kernel
      rw [wS]
      refine ends_good foy fun H2 y3 d3 s2' so3 => ?_
      have so3' := so3.cg (shown_num sm nd hrk py')
      have s12 := s1'.trans s2'
      have l30 : ∀ z ∈ zs, z.length ≤ 30 := fun z hz => ((ft z hz).ok nm).2
      have l2 : ("  " : Str).length = 2 := by decide
      have jl := join_le (sep := "  ") l30
      have sl := sum_le l30
      refine ⟨rfl, ⟨_, rfl⟩, _, rfl, "  ", bg, zs, rfl, rfl, .inl (SqL.of (s12 _ _ hbge)), by rw [l2]; omega, _, _, rfl, rfl, ?_, _, rfl, kk, Txt.join "  " zs ++ " ", ns, _, rfl, koe.same s12, n0, ?_, ?_, ?_, ?_, ?_⟩
      · have l1 : (" " : Str).length = 1 := by decide
        rw [l1]
        rw [l2] at jl
        omega
      · rw [app_len]
        have l1 : (" " : Str).length = 1 := by decide
        rw [l1]
        rw [l2] at jl
        omega
      · rw [words_join2 fun z hz => (ft z hz).wd nm]
        omega
      · rw [words_join2 fun z hz => (ft z hz).wd nm]
        exact fun z hz => (ft z hz).str nm
      · rw [wS_2 nm ft]
        exact fun z hz => fld_any (fo z hz)
      rw [wS_2 nm ft]
      refine ends_good fo fun H3 y4 d4' s3' so4 => ?_
      refine ⟨(by show 2 ≤ sizeLine; decide), fun q nq' => ?_⟩
      have sq := Same_new (o := HO.lst [V.ref y3, V.ref y4]) nq'
      have s13 := (s12.trans s3').trans sq
      refine ⟨kn, q, _, _, rfl, rfl, s13 _ _ hkn, upd_same, (by show 2 + 2 ≤ sizeLine; decide), fun p np => ?_⟩
      have sp := Same_new (o := HO.lst ([V.ref s1, .ref s2] ++ [V.ref y3, V.ref y4])) np
      have s14 := s13.trans sp
      refine ⟨p, [s1, s2, y3, y4], rfl, s14, upd_same, rfl, fun s hs => ?_⟩
      rcases List.mem_cons.mp hs with rfl | hs
      · obtain ⟨d, h⟩ := hks s List.mem_cons_self
        exact ⟨d, h.same s14⟩
      · rcases List.mem_cons.mp hs with rfl | hs
        · obtain ⟨d, h⟩ := hks s (List.mem_cons_of_mem _ List.mem_cons_self)
          exact ⟨d, h.same s14⟩
        · rcases List.mem_cons.mp hs with rfl | hs
          · exact ⟨d3, so3'.same ((s3'.trans sq).trans sp)⟩
          · rw [List.mem_singleton.mp hs]
            exact ⟨d4', so4.same (sq.trans sp)⟩
    rintro σ5 Hf ⟨kn2, ss, rfl, sf, hkn2, lss, hss⟩
    clear hkn hks
    have kf : Keep u Hb Hf := ke.trans (Same.keep sf)
    have huf := hue.same sf
    have sof := soe.same sf
    have hbgf := sf _ _ hbge
    have kof := koe.same sf
    clear ke hue soe hbge koe sf
    refine ⟨_, rfl, kn2, rfl, ⟨_, SqL.of hkn2⟩, fun D hD => ?_⟩
    refine lc_fm (walk_list (xs := ss.map V.ref)) (fun i => (ss[i]?).map fun _ => V.bl true) hD (by rw [List.length_map, lss]; decide) (fun H' s' => SqL.of (s' _ _ hkn2)) (fun j v H1 H2 Kt Kf hj s1 y kt kf => ?_) (fun H1 s1 hD1 => ?_)
    · obtain ⟨rfl, hv⟩ := y
      obtain ⟨s, hsj, rfl⟩ := at_ref hv
      obtain ⟨ds, sos⟩ := hss s (List.mem_of_getElem? hsj)
      have a1 := sos.same s1
      have b1 := sof.same s1
      obtain ⟨ax, hx⟩ := a1.x
      obtain ⟨bx, hy⟩ := b1.x
      refine ⟨rfl, iteT (B := Kf H2) ⟨_, rfl, _, rfl, s, ax, _, _, rfl, hx, b1.tyY B, nf_self, s, x, kk, kk, ds, d4, ns, ns, _, _, _, _, rfl, a1, .inl ⟨b1, _, rfl, _, rfl, ?_⟩⟩⟩
      rw [keys_same, Bool.true_and]
      have e2 : decide ((hs ns).length = (hs ns).length ∧ ∀ n ∈ hs ns, n ∈ hs ns ∧ closeM ns (toldOf R ns) (joinS zs) n = closeM ns (toldOf R ns) (joinS zs) n) = true := decide_eq_true ⟨rfl, fun n h => ⟨h, rfl⟩⟩
      rw [e2]
      refine iteT ⟨_, rfl, s, ax, _, rfl, hx, s, kk, ds, ns, _, _, rfl, a1, sm, fun H3 ys s3 py sy => ?_⟩
      refine ⟨_, rfl, x, bx, _, rfl, s3 _ _ hy, x, kk, d4, ns, _, _, rfl, b1.same s3, sm, fun H4 ws s4 pw sw => ⟨rfl, ?_⟩⟩
      have e3 : ys = ws := sorted_one (py.trans pw.symm) sy sw
      rw [e3, decide_eq_true rfl]
      exact kt _ _ (by rw [hsj]; rfl) (s3.trans s4)
    have eD : (List.range (ss.map V.ref).length).filterMap (fun i => (ss[i]?).map fun _ => V.bl true) = [true, true, true, true].map V.bl := by
      match ss, lss with
      | [_, _, _, _], _ => rfl
    rw [eD] at hD1
    refine ⟨D, [true, true, true, true], rfl, SqL.of hD1, _, rfl, iteF ?_⟩
    have kg := kf.trans (Same.keep s1)
    have hug := huf.same s1
    have hbgg := s1 _ _ hbgf
    have kog := kof.same s1
    clear kf huf hbgf kof hkn2 hss sof
    refine ⟨fun σ' H' => ∃ (s : Nat), σ' = [some (.ref u), some (.int (0 + (i : Int))), some (.ref bt), w3, some (.ref kk), some (.ref bg), some (.ref md), some (.ref x), some (.ref kn2), v9, some (.int ((s : Nat) : Int)), v11, v12, v13] ∧ s ≤ zs.length ∧ Keep u H1 H' ∧ Urn H' u (n + 80 * i + 62), ?_, ?_⟩
    · refine ⟨_, rfl, _, rfl, _, _, rfl, .inl ⟨_, SqL.of hbgg, rfl⟩, _, _, rfl, rfl, u, _, n + 80 * i + 61, rfl, hug, by omega, ?_, ?_, fun r H2 r0 r1 hu2 k2 => ?_⟩
      · rw [List.length_map]
        omega
      · rw [List.length_map]
        omega
      · rw [List.length_map] at r1
        have er : r = ((r.toNat : Nat) : Int) := by omega
        refine ⟨r.toNat, by rw [← er]; rfl, by omega, k2, hu2⟩
    rintro σ6 Hh ⟨sp, rfl, lsp, kh, huh⟩
    obtain ⟨vg, vh, vi, hug0, _⟩ := id hug
    have hbgh := kh _ _ nbu hbgg
    have koh := kog.keep hug0 kh
    have ki := kb.trans (kg.trans kh)
    clear kg hug hbgg kog kh hD1 eD
    refine ⟨fun σ' H' => ∃ (od : Addr), σ' = [some (.ref u), some (.int (0 + (i : Int))), some (.ref bt), w3, some (.ref kk), some (.ref bg), some (.ref md), some (.ref x), some (.ref kn2), v9, some (.int ((sp : Nat) : Int)), some (.ref od), v12, v13] ∧ Same Hh H' ∧ H' od = some (.lst ((oddW zs sp).map V.str)), ?_, ?_⟩
    · refine ⟨_, rfl, _, rfl, _, rfl, bg, _, rfl, SqL.of hbgh, fun q1 n1 => ?_⟩
      have t1 := Same_new (o := HO.lst ((zs.take sp).map V.str)) n1
      have h1 := new_at (HO.lst ((zs.take sp).map V.str)) n1
      rw [cut_to, ← List.map_take]
      refine ⟨(by show 1 ≤ sizeLine; decide), fun q2 n2 => ?_⟩
      have t2 := Same_new (o := HO.lst [V.str "q/3"]) n2
      have h2 := new_at (HO.lst [V.str "q/3"]) n2
      refine ⟨q1, q2, _, _, rfl, rfl, t2 _ _ h1, h2, ?_, fun q3 n3 => ?_⟩
      · rw [List.length_map, List.length_take]
        show _ + 1 ≤ _
        omega
      have t3 := Same_new (o := HO.lst ((zs.take sp).map V.str ++ [V.str "q/3"])) n3
      have h3 := new_at (HO.lst ((zs.take sp).map V.str ++ [V.str "q/3"])) n3
      have t13 := (t1.trans t2).trans t3
      refine ⟨_, rfl, _, rfl, _, rfl, bg, _, rfl, SqL.of (t13 _ _ hbgh), fun q4 n4 => ?_⟩
      have ec : cutV (zs.map V.str) (some ((sp : Nat) : Int)) Option.none = (zs.drop sp).map V.str := by
        rw [cut_from, List.map_drop, List.length_map, Nat.min_eq_left lsp]
      rw [ec]
      have t4 := Same_new (o := HO.lst ((zs.drop sp).map V.str)) n4
      have h4 := new_at (HO.lst ((zs.drop sp).map V.str)) n4
      refine ⟨q3, q4, _, _, rfl, rfl, t4 _ _ h3, h4, ?_, fun q5 n5 => ?_⟩
      · simp only [List.length_append, List.length_map, List.length_take, List.length_drop, List.length_singleton]
        omega
      have t5 := Same_new (o := HO.lst (((zs.take sp).map V.str ++ [V.str "q/3"]) ++ (zs.drop sp).map V.str)) n5
      have h5 := new_at (HO.lst (((zs.take sp).map V.str ++ [V.str "q/3"]) ++ (zs.drop sp).map V.str)) n5
      refine ⟨(by show 1 ≤ sizeLine; decide), fun q6 n6 => ?_⟩
      have t6 := Same_new (o := HO.lst [V.str "qq"]) n6
      have h6 := new_at (HO.lst [V.str "qq"]) n6
      refine ⟨q5, q6, _, _, rfl, rfl, t6 _ _ h5, h6, ?_, fun q7 n7 => ?_⟩
      · simp only [List.length_append, List.length_map, List.length_take, List.length_drop, List.length_singleton]
        omega
      have t7 := Same_new (o := HO.lst ((((zs.take sp).map V.str ++ [V.str "q/3"]) ++ (zs.drop sp).map V.str) ++ [V.str "qq"])) n7
      refine ⟨q7, rfl, (t13.trans t4).trans ((t5.trans t6).trans t7), ?_⟩
      rw [upd_same]
      unfold oddW
      simp only [List.map_append, List.map_cons, List.map_nil]
    rintro σ7 Hi ⟨od, rfl, si, hod⟩
    have huj := huh.same si
    have koj := koh.same si
    have kj := ki.trans (Same.keep si)
    clear huh koh ki si hbgh
    have ol := odd_len lsp
    have of30 : ∀ z ∈ oddW zs sp, z.length ≤ 30 := fun z hz => by
      rcases odd_mem hz with h | rfl | rfl
      · exact ((ft z h).ok nm).2
      · exact (q3_ok _ (by simp)).2.1
      · exact (q3_ok _ (by simp)).2.1
    have ofd : ∀ z ∈ oddW zs sp, isFieldB z = true := fun z hz => by
      rcases odd_mem hz with h | rfl | rfl
      · exact (fo z h).ok
      · exact (q3_ok _ (by simp)).1
      · exact (q3_ok _ (by simp)).1
    have ost : ∀ z ∈ oddW zs sp, PyData.strOk z = true := fun z hz => by
      rcases odd_mem hz with h | rfl | rfl
      · exact (ft z h).str nm
      · exact (q3_ok _ (by simp)).2.2.1
      · exact (q3_ok _ (by simp)).2.2.1
    have oan : ∀ z ∈ oddW zs sp, FldAny z := fun z hz => by
      rcases odd_mem hz with h | rfl | rfl
      · exact fld_any (fo z h)
      · exact anyP_ok (q3_ok _ (by simp)).2.2.2.1
      · exact anyP_ok (q3_ok _ (by simp)).2.2.2.1
    have owd : ∀ z ∈ oddW zs sp, WdB z := fun z hz => by
      rcases odd_mem hz with h | rfl | rfl
      · exact (ft z h).wd nm
      · exact (q3_ok _ (by simp)).2.2.2.2
      · exact (q3_ok _ (by simp)).2.2.2.2
    obtain ⟨oat, otk⟩ := odd_at lsp
    have otn : ∀ y ∈ (oddW zs sp).take sp, fieldName y ∈ hs ns := fun y hy => by
      rw [otk] at hy
      exact (fo y (List.mem_of_mem_take hy)).nam
    have ond : ∀ (x : Str) (l : List Str), oddW zs sp ++ l ≠ [x] := fun x l e => by
      have q := congrArg List.length e
      rw [List.length_append, ol] at q
      have q2 : zs.length + 2 + l.length = 1 := q
      omega
    have w1 : wordsOf (Txt.join " " (oddW zs sp)) = oddW zs sp := words_join owd
    have w1S : wordsS (Txt.join " " (oddW zs sp)) = oddW zs sp := by
      unfold wordsS
      rw [w1, if_neg (by have q := ond "-" []; rw [List.append_nil] at q; exact q)]
    have w2 : wordsOf (Txt.join " " (oddW zs sp) ++ " q/1") = oddW zs sp ++ [("q/1" : Str)] := words_more owd
    have w2S : wordsS (Txt.join " " (oddW zs sp) ++ " q/1") = oddW zs sp ++ [("q/1" : Str)] := by
      unfold wordsS
      rw [w2, if_neg (ond _ _)]
    obtain ⟨p1, p2, p3, p4, p5⟩ := q1_ok
    have an1 : AnsOf ns (toldOf R ns) (oddW zs sp) (.name "q") := ans_name ofd oat (by rw [p5]; exact nq) otn p5
    have an2 : AnsOf ns (toldOf R ns) (oddW zs sp ++ [("q/1" : Str)]) (.bad "q/1") := ans_bad (i := (oddW zs sp).length) (by rw [List.getElem?_append_right (Nat.le_refl _), Nat.sub_self]; rfl) p2 (by
      rw [List.take_append_of_le_length (Nat.le_refl _), List.take_length]
      exact ofd)
    have l1 : (" " : Str).length = 1 := by decide
    have jl := join_le (sep := " ") of30
    rw [l1, ol] at jl
    have sl := sum_le of30
    rw [ol] at sl
    refine ⟨fun σ' H' => σ' = [some (.ref u), some (.int (0 + (i : Int))), some (.ref bt), w3, some (.ref kk), some (.ref bg), some (.ref md), some (.ref x), some (.ref kn2), v9, some (.int ((sp : Nat) : Int)), some (.ref od), some (.str (Txt.join " " (oddW zs sp))), v13] ∧ H' = Hi, ?_, ?_⟩
    · exact ⟨⟨_, rfl⟩, _, rfl, " ", od, _, rfl, rfl, .inl (SqL.of hod), by rw [l1, ol]; omega, rfl, rfl⟩
    rintro σ8 Hi' ⟨rfl, rfl⟩
    refine ⟨fun σ' H' => ∃ (got : Addr) (vs : List V), σ' = [some (.ref u), some (.int (0 + (i : Int))), some (.ref bt), w3, some (.ref kk), some (.ref bg), some (.ref md), some (.ref x), some (.ref kn2), v9, some (.int ((sp : Nat) : Int)), some (.ref od), some (.str (Txt.join " " (oddW zs sp))), some (.ref got)] ∧ Same Hi' H' ∧ H' got = some (.lst vs) ∧ ItL H' vs [.a (.name "q"), .a (.name "q"), .a (.bad "q/1")], ?_, ?_⟩
    · refine ⟨_, rfl, _, rfl, 0, kk, _, ns, _, .name "q", rfl, koj, n0, .inl ⟨rfl, od, _, rfl, .inl (SqL.of hod), by rw [ol]; omega, oan, an1⟩, fun x1 H1' s1 hx1 => ?_⟩
      refine ⟨_, rfl, _, rfl, 1, kk, _, ns, _, .name "q", rfl, koj.same s1, n0, .inr (.inl ⟨rfl, _, rfl, by omega, by rw [w1, ol]; omega, by rw [w1]; exact ost, by rw [w1S]; exact oan, by rw [w1S]; exact an1⟩), fun x2 H2' s2 hx2 => ?_⟩
      refine ⟨_, rfl, _, rfl, _, _, rfl, rfl, by rw [p4]; omega, 1, kk, _, ns, _, .bad "q/1", rfl, koj.same (s1.trans s2), n0, .inr (.inl ⟨rfl, _, rfl, by rw [app_len, p4]; omega, by rw [w2, List.length_append, ol]; show _ + 1 ≤ _; omega, ?_, ?_, by rw [w2S]; exact an2⟩), fun x3 H3' s3 hx3 => ?_⟩
      · rw [w2]
        intro y hy
        rcases List.mem_append.mp hy with h | h
        · exact ost y h
        · rw [List.mem_singleton.mp h]
          exact p3
      · rw [w2S]
        intro y hy
        rcases List.mem_append.mp hy with h | h
        · exact oan y h
        · rw [List.mem_singleton.mp h]
          exact anyP_ok p1
      refine ⟨(by show 3 ≤ sizeLine; decide), fun got ng => ?_⟩
      have sg := Same_new (o := HO.lst [x1, x2, x3]) ng
      exact ⟨got, _, rfl, ((s1.trans s2).trans s3).trans sg, upd_same, AnsAt.same ((s2.trans s3).trans sg) hx1, AnsAt.same (s3.trans sg) hx2, AnsAt.same sg hx3, trivial⟩
    rintro σ9 Hj ⟨got, vs, rfl, sj, hgot, igot⟩
    refine ⟨_, rfl, (by show 2 ≤ sizeLine; decide), fun a na => ⟨(by show 2 ≤ sizeLine; decide), fun b nb => ⟨(by show 2 ≤ sizeLine; decide), fun c nc => ⟨(by show 3 ≤ sizeLine; decide), fun q nq2 => ?_⟩⟩⟩⟩
    have ta := Same_new (o := HO.tup [V.str "name", V.str "q"]) na
    have ha := new_at (HO.tup [V.str "name", V.str "q"]) na
    have tb' := Same_new (o := HO.tup [V.str "name", V.str "q"]) nb
    have hb := new_at (HO.tup [V.str "name", V.str "q"]) nb
    have tc := Same_new (o := HO.tup [V.str "bad", V.str "q/1"]) nc
    have hc := new_at (HO.tup [V.str "bad", V.str "q/1"]) nc
    have tq := Same_new (o := HO.lst [V.ref a, V.ref b, V.ref c]) nq2
    have tt := ((ta.trans tb').trans tc).trans tq
    refine ⟨_, _, rfl, sm_its (is := [.a (.name "q"), .a (.name "q"), .a (.bad "q/1")]) (by decide) (tt _ _ hgot) upd_same (ItL.same tt igot) ⟨⟨a, rfl, ((tb'.trans tc).trans tq) _ _ ha⟩, ⟨b, rfl, (tc.trans tq) _ _ hb⟩, ⟨c, rfl, tq _ _ hc⟩, trivial⟩ (by decide), fun H' s' => ⟨_, rfl, iteF ?_⟩⟩
    have tz := (sj.trans tt).trans s'
    exact ⟨_, _, _, _, _, _, _, _, _, _, _, _, _, rfl, (huj.same tz).le (by omega), kj.trans (Same.keep tz)⟩
end
end Jd
namespace Jd
open PySem PySem.Spec PyProof.Rows L2
/-! ### the law -/
def spLaw (K : PySem.W.Frag) : Sp := fun vs H Q _ => ∃ (a : Addr) (ns : List Int), vs = [.ref a] ∧ SqL K H a (ns.map V.int) ∧ ns.length ≤ 63 ∧ ∀ H', Same H H' → Q (.bl true) H'
section
variable {P : Program} {w : World} {K : PySem.W.Frag} {mg : Str → Option Value} {base : Heap}
abbrev NW : List Str := ["_law_script", "_law_cells_here", "_law_k"]
theorem sc_law : FnScope NW ["_law_script"] (defScope s_law) := ⟨rfl, rfl, rfl, by decide +kernel, rfl, by decide +kernel, by decide +kernel⟩
theorem ok_law (B : Bk K mg) {fd : FuncData} (F : Fun K "law" "law" s_law (He.ga K "law") fd) : FnOk P w K mg base CX0 13 (He.ga K "law") fd ["_law_script"] (spLaw K) := by
  obtain ⟨fdC, GC, bC⟩ := (ok_law_cells (P := P) (w := w) (base := base) B).ex
  have kC := (ok_law_cells (P := P) (w := w) (base := base) B).kp
  obtain ⟨fdX, GX, bX⟩ := (ok_law_box (P := P) (w := w) (base := base) B).ex
  have kX := (ok_law_box (P := P) (w := w) (base := base) B).kp
  obtain ⟨fdR, GR, bR⟩ := (ok_right (P := P) (w := w) (base := base) B).ex
  have kR := (ok_right (P := P) (w := w) (base := base) B).kp
  refine F.ok sc_law (fun vs H Q E h => ?_) (fun cdv A outer s H vs Q E hr h => ?_)
  · obtain ⟨_, _, rfl, _⟩ := h
    rfl
  · obtain ⟨a, ns, rfl, hs, hn, k⟩ := h
    have hr1 : Room 1 _ := hr.mono (by decide)
    refine ⟨_, pss_cons (ps_set (i := 1) sc_law.nd rfl (Or.inr rfl) (pe_call GC hr1 rfl B.g_law_cells kC bC .nil pass0 (pa_cons (pv 0) (pa_cons pe_int pa_nil))))
      (pss_one (ps_ret (pe_callB (cr_all rfl) (by rfl) B.b_all (by decide +kernel) (pa_cons (pe_lc (own := [("_law_k", 2)]) (g := gName 2) (tt := tYes) rfl sc_law.nd (pi_range1 rfl B.b_range (pa_cons (pe_callB call_len (by rfl) B.b_len (by decide +kernel) (pa_cons (pv 1) pa_nil)) pa_nil)) (blkOk_by (N := NW) (sc := defScope s_law) (by decide +kernel))
          (fun _ _ _ _ _ => pg_name (i := 2) sc_law.nd rfl (Or.inl rfl)) (fun _ _ _ _ _ => pts_nil) (fun _ _ _ _ _ => pe_call GR hr rfl B.g_law_right kR bR .nil pass0 (pa_cons (pe_call GX hr1 rfl B.g_law_box kX bX .nil pass0 (pa_cons (pv 1) (pa_cons (pv 2) pa_nil))) pa_nil))) pa_nil)))), ?_⟩
    refine ⟨_, rfl, a, ns, rfl, hs, hn, fun H1 p ms s1 np hp h1 h3 => ?_⟩
    refine ⟨_, rfl, _, _, rfl, .inl ⟨_, SqL.of hp, rfl⟩, _, rfl, by rw [List.length_map]; omega, by rw [List.length_map]; omega, fun D nD => ?_⟩
    refine lc_fm (n := ms.length) (by rw [List.length_map]; exact walk_range) (fun _ => some (.bl true)) nD (Nat.le_trans h3 (by decide)) (fun _ _ => trivial) (fun i x H2 H3 Kt Kf hi s2 y kt kf => ?_) (fun H2 s2 hD2 => ?_)
    · obtain ⟨rfl, rfl⟩ := y
      refine ⟨rfl, iteT (B := Kf H3) ?_⟩
      refine ⟨_, rfl, _, rfl, p, ms, i, by show [V.ref p, V.int (0 + (i : Int))] = _; rw [Int.zero_add], SqL.of (s2 _ _ hp), hi, by omega, fun H4 u s4 nu hu => ?_⟩
      refine ⟨u, _, rfl, hu, by decide, fun H5 kp => kt _ _ rfl fun b o q => kp _ _ (ne_of_none q nu) (s4 _ _ q)⟩
    · refine ⟨D, List.replicate ms.length true, rfl, SqL.of (hD2.trans (by rw [rep_true])), ?_⟩
      rw [rep_all]
      exact k _ (s1.trans s2)
theorem one_arg {fd : FuncData} (F : Fun K "law" "law" s_law (He.ga K "law") fd) (s : Shared) (u : Value) : BindsTo s fd ⟨[u], []⟩ [("_law_script", u)] := by
  obtain ⟨oc, od, kV, doc, pm, an, cdv, ct, osl, rfl, lk, hcd⟩ := F.ex
  exact .of_eq rfl
end
end Jd
namespace Jd
open PySem PySem.W PySem.Calls PyProof.Rows
/-! ### the end -/
abbrev lawDef := HandSHeadRun.topDef R.prog 52
theorem e_def : defOf qv R.name = some (lawDef, []) := by kernel_rfl
theorem e_the : R.prog.theDef R.name = some (lawDef.params, lawDef.body, lawDef.scope) := by kernel_rfl
theorem e_kw : kwWritten? lawDef.params.kwonlyargs lawDef.params.kw_defaults = some [] := by kernel_rfl
theorem e_wr : (!R.writes || R.records.isEmpty) = true := by rfl
theorem e_ok : (chainsOk qv && opensWell R.prog && (frees R.toRowW && R.within.isEmpty)) = true := by decide +kernel
theorem e_bare : R.prog.bare := ⟨rfl, rfl, rfl, rfl, rfl, by decide +kernel⟩
theorem e_name : lawDef.name = ("law" : PySem.Str) := by kernel_rfl
theorem e_nodf : lawDef.params.defaults = [] := by kernel_rfl
theorem e_prom : R.toRowW.promised := by w_witness2
theorem e_walk : WalkO qv loose (XL qv []) hk.says R.toRowW lawDef [] fun f vs => PySem.call f vs := by
  refine L2.walk_ofE (l := PySem.Challenge.rw_keyspans_k04_numbers_of_stages) (n := 63) (k := 13) (x := "_law_script") (CX := L2.CX0) rfl (by decide) e_nodf ⟨rfl, by decide, by decide⟩ ?F (fun _ _ _ _ z => z)
  intro w mg fa h Y G hmg0
  obtain ⟨K, KX, c⟩ := Y
  have hmg : mg ("law" : PySem.Str) = some (.ref fa) := by
    rw [← e_name]
    exact hmg0
  have B : Bk K mg := ⟨c, h, KX, G⟩
  have ef : fa = He.ga K "law" := by
    have q := B.g_law
    rw [hmg] at q
    injection q with q
    injection q
  subst ef
  obtain ⟨fd, F⟩ := B.F_law
  exact ⟨K, fd, spLaw K, KX, fun s u => one_arg F s u, fun H a ns hl _ hS => ⟨a, ns, rfl, hS, hl, fun _ _ => rfl⟩, fun base _ _ => ok_law B F⟩
theorem e_all (said : R.wellSaid = true) : R.Holds :=
  HandSHeadRun.head_imp (r := R) (q := qv) (H := hk) (ob := ob) (M := 6000) (loose := loose) (d := lawDef) (kwd := []) ob_eq run e_def e_the e_kw e_wr said e_ok e_bare e_prom e_walk
end Jd
open PySem PySem.W PySem.Calls PyProof.Rows
theorem PySem.Challenge.cw_keyspans_k04_numbers_of_stages_holds : PySem.Challenge.rw_keyspans_k04_numbers_of_stages.Holds := by
  w_on; o_law
  exact Jd.e_all (by assumption)
