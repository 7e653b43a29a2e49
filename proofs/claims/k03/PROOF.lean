import PyProof.Rows.All
import Wide.All
import OpenK.AllK
import Wide.FinOn
import PyProof.EqAt
import PyProof.EqKinds
import PyProof.TupleCall
import HandS.ForMost
import HandS.More
import HandS.Set
import HandS.SetFor
import HandS.Strs
import HandS.ExcInit
import HandS.ExcIs
import HandS.ExcField
import HandS.IsInst
import HandS.ExcOwn
import KE.KExcInit
import HandS.OwnEq
import HandS.DeepEq
import HandS.MakeKwOnly
import PyProof.InstEq
import HandS.CallSlots
import HandS.HeadNt
import HandS.Walk
import HandS.Gcd
import HandS.Property
import HandS.Defaults
import HandS.Wide
import HandS.WideBits
import HandS.StrMore
import HandS.FStr
import HandS.DictComp
import HandS.Conv
import HandS.Flow
import HandS.Head0
import HandS.Head1
import HandS.Head2
import HandS.Head3
import HandS.HeadEnd
import HandS.HeadHook1
import HandS.HeadHook2
import HandS.EndBits
import HandS.NoneIn
import HandS.TryOnly
import HandS.Comp
import HandS.Dict
import HandS.ForExc
import HandS.Style
import HandS.Text
import HandS.DictEq
import HandS.List
import PyProof.P3Eq
import HandS.MakeKw
import HandS.Zip
import HandS.RaiseMore
import HandS.TupAny
import HandS.Deep
import PySem.Challenge.RW_keyspans_k03_whole_telling_is_an_order
set_option Elab.async false
set_option linter.all false
set_option maxRecDepth 100000
set_option maxHeartbeats 0
/-! Sets of texts: made of a list or a tuple of texts, sorted. -/
namespace Jd
open PySem PySem.Spec PyProof.Rows L2

def txK (e : Int × Value) : Str := match e.2 with
  | .str x _ => x
  | _ => Str.empty
def TxE (P : Program) (w : World) (e : Int × Value) : Prop := ∃ x tk, e.2 = Value.str x tk ∧ e.1 = (PySem.strKind P w).hash x
/-- the table holds the texts xs, each once -/
structure TxHas (P : Program) (w : World) (xs : List Str) (es : Array (Int × Value)) : Prop where
  good : ∀ e ∈ es.toList, TxE P w e
  perm : (es.toList.map txK).Perm xs
  nd : xs.Nodup
theorem TxHas.move {P : Program} {w : World} {xs : List Str} {es es' : Array (Int × Value)} (g : TxHas P w xs es) (p : es'.toList.Perm es.toList) : TxHas P w xs es' :=
  { good := fun e he => g.good e (p.mem_iff.mp he), perm := (p.map txK).trans g.perm, nd := g.nd }
theorem TxHas.size {P : Program} {w : World} {xs : List Str} {es : Array (Int × Value)} (g : TxHas P w xs es) : es.size = xs.length := by
  have q := g.perm.length_eq
  rw [List.length_map, Array.length_toList] at q
  exact q
/-- the set of texts at a -/
def TxS (P : Program) (w : World) (h : Heap) (a : Addr) (xs : List Str) : Prop :=
  ∃ o es ep t, h.get? a = some o ∧ o.ExactSet ∧ o.data = .set es ep t ∧ TxHas P w xs es ∧
    (es.size < scanBound ∧ t.fits es.size = true) ∧ Ris t.place.toList ∧ (w.params.followText "set-order" = true ∨ t.led = true)
section
variable {P : Program} {w : World} {h h' : Heap} {a : Addr} {xs : List Str}
theorem TxS.to (R : TxS P w h a xs) (k : ∀ o, h.get? a = some o → h'.get? a = some o) : TxS P w h' a xs := by
  obtain ⟨o, es, ep, t, q0, q1⟩ := R
  exact ⟨o, es, ep, t, k o q0, q1⟩
theorem tx_elems {l : List (Int × Value)} (g : ∀ e ∈ l, TxE P w e) : ElemsOf (PySem.strKind P w) l := by
  intro e he
  obtain ⟨x, tk, q1, q2⟩ := g e he
  refine ⟨⟨x, ?_, q2⟩, ?_⟩
  · rw [q1]
    exact PySem.strKind_is P w x tk
  · rw [q1]
    rfl
theorem tx_is {e : Int × Value} (g : TxE P w e) (x : Str) : (PySem.strKind P w).is x e.2 = true ↔ txK e = x := by
  obtain ⟨y, tk, q1, _⟩ := g
  have e1 : txK e = y := by
    unfold txK
    rw [q1]
  rw [e1, q1]
  show (Value.isStrOf x (.str y tk) = true) ↔ y = x
  simp [Value.isStrOf]
theorem tx_mem {l : List (Int × Value)} (g : ∀ e ∈ l, TxE P w e) (x : Str) : x ∈ l.map txK ↔ ∃ e ∈ l, (PySem.strKind P w).is x e.2 = true := by
  rw [List.mem_map]
  exact ⟨fun ⟨e, he, q⟩ => ⟨e, he, (tx_is (g e he) x).mpr q⟩, fun ⟨e, he, q⟩ => ⟨e, he, (tx_is (g e he) x).mp q⟩⟩
end
section
variable {P : Program} {w : World} {A : Around} {E : Value → Shared → Prop} {s : Shared} {a : Addr}
theorem tx_tail {g : Bool → Sem Unit} (hg : ∀ (b : Bool) (s₁ : Shared) (Q' : Unit → Shared → Prop), Q' () s₁ → wpAny (model P w) A (g b) Q' E s₁)
    {o : Obj} {es : Array (Int × Value)} {ep : Nat} {t : SetTable} (q0 : s.heap.get? a = some o) (q1 : o.ExactSet) (q2 : o.data = .set es ep t)
    {es1 : Array (Int × Value)} {t2 : SetTable} {xs : List Str} (q3 : TxHas P w xs es1)
    (q4 : es1.size < scanBound) (q5 : t2.fits es1.size = true) (q6 : Ris t2.place.toList) (q7 : w.params.followText "set-order" = true ∨ t2.led = true) {wasDummy : Bool} {R : Option Bool → Shared → Prop}
    (fin : ∀ hz, Heap.SameBut a s.heap hz → TxS P w hz a xs → R (some true) { s with heap := hz }) :
    wpAny (model P w) A (do
        storeSet a es1 t2
        if (!wasDummy && t2.tooFull) = true then do
            g (relayAll t2 es1 (SetTable.grown es1.size)).2.2
            storeSet a (relayAll t2 es1 (SetTable.grown es1.size)).1 (relayAll t2 es1 (SetTable.grown es1.size)).2.1
            pure (some true)
          else pure (some true)) R E s := by
  refine wpAny_bind (wpAny_storeSet_of q0 q2 ?_ (fits_of_scanBound q4))
  have r0 := store_at (es' := es1) (t' := t2) q0 q2
  have r1 := Heap.SameBut.update s.heap a (Obj.putSet es1 t2)
  split
  · have z1 := relayAll_perm t2 es1 (SetTable.grown es1.size)
    have z2 := relayAll_fits t2 es1 (SetTable.grown es1.size)
    have z3 := relayAll_ris t2 es1 (SetTable.grown es1.size)
    have z4 := relayAll_led t2 es1 (SetTable.grown es1.size)
    generalize relayAll t2 es1 (SetTable.grown es1.size) = Z at z1 z2 z3 z4 ⊢
    obtain ⟨es2, t3, gv⟩ := Z
    dsimp only at z1 z2 z3 z4 ⊢
    have q8 := q3.move z1
    have q9 : es2.size < scanBound := by rw [q8.size, ← q3.size]; exact q4
    refine wpAny_bind (hg _ _ _ ?_)
    refine wpAny_bind (wpAny_storeSet_of r0 rfl ?_ (fits_of_scanBound q9))
    have r2 := store_at (es' := es2) (t' := t3) r0 rfl
    refine wpAny_pure (fin _ (r1.trans (Heap.SameBut.update _ a _)) ?_)
    exact ⟨_, es2, _, t3, r2, q1, rfl, q8, ⟨q9, z2⟩, z3, q7.imp id fun z => by rw [z4]; exact z⟩
  · exact wpAny_pure (fin _ r1 ⟨_, es1, _, t2, r0, q1, rfl, q3, ⟨q4, q5⟩, q6, q7⟩)

def txAdd (xs : List Str) (x : Str) : List Str := if x ∈ xs then xs else x :: xs
theorem txAdd_len (xs : List Str) (x : Str) : (txAdd xs x).length ≤ xs.length + 1 := by
  unfold txAdd
  split
  · omega
  · exact Nat.le_refl _
theorem tx_add {x : Str} {tk : Tok} {xs : List Str} {Q : Bool → Shared → Prop} (R : TxS P w s.heap a xs) (room : xs.length + 1 < scanBound)
    (fin : ∀ hz b, Heap.SameBut a s.heap hz → TxS P w hz a (txAdd xs x) → Q b { s with heap := hz }) :
    wpAny (model P w) A (setAddHashed a (.str x tk) ((PySem.strKind P w).hash x)) Q E s := by
  obtain ⟨o, es, ep, t, q0, q1, q2, q3, ⟨q4, q5⟩, q6, q7⟩ := R
  have i1 : (PySem.strKind P w).is x (.str x tk) = true := PySem.strKind_is P w x tk
  have i2 : (Value.str x tk).scannable = true := rfl
  have i3 : ElemsOf (PySem.strKind P w) es.toList := tx_elems q3.good
  unfold setAddHashed setAddHashedIn
  refine wpAny_holding (wpAny_bind (wpAny_setState_of q0 q2 q5 ?_))
  dsimp only
  rw [byScan_of i2 q4 i3]
  simp only [↓reduceIte]
  unfold setAddByScan
  refine wpAny_bind ?_
  refine wpAny_bind (wpAny_rule ?_)
  refine wpAny_bind (wpAny_setScan_of i1 q0 q2 q5 i3 ?_)
  cases hf : List.findIdx? (fun e => (PySem.strKind P w).is x e.2) es.toList with
  | some j =>
    dsimp only
    obtain ⟨hj, pj, _⟩ := List.findIdx?_eq_some_iff_getElem.mp hf
    have hin : x ∈ xs := q3.perm.mem_iff.mp ((tx_mem (P := P) (w := w) q3.good x).mpr ⟨es.toList[j], List.getElem_mem hj, pj⟩)
    refine wpAny_pure (wpAny_pure ?_)
    refine fin s.heap false (Heap.SameBut.refl a s.heap) ?_
    unfold txAdd
    rw [if_pos hin]
    exact ⟨o, es, ep, t, q0, q1, q2, q3, ⟨q4, q5⟩, q6, q7⟩
  | none =>
    dsimp only
    have hno : x ∉ xs := fun z => by
      obtain ⟨e, he, q⟩ := (tx_mem (P := P) (w := w) q3.good x).mp (q3.perm.mem_iff.mpr z)
      have c := List.findIdx?_eq_none_iff.mp hf e he
      rw [q] at c
      cases c
    have gw : ∀ (b : Bool) {s₁ : Shared} {Q' : Unit → Shared → Prop}, Q' () s₁ → wpAny (model P w) A (match b with | true => rule "set.scan.the-table-gave-way" | false => pure ()) Q' E s₁ := by
      intro b s₁ Q' q
      cases b <;> first | exact wpAny_pure q | exact wpAny_rule q
    have z1 := layNew_perm t es ((PySem.strKind P w).hash x) (.str x tk)
    have z2 := layNew_fits t es ((PySem.strKind P w).hash x) (.str x tk)
    have z3 := layNew_ris t es ((PySem.strKind P w).hash x) (.str x tk) q6
    have z4 := layNew_led t es ((PySem.strKind P w).hash x) (.str x tk)
    generalize layNew t es ((PySem.strKind P w).hash x) (.str x tk) = Z at z1 z2 z3 z4 ⊢
    obtain ⟨es1, t1, wasDummy, gave⟩ := Z
    dsimp only at z1 z2 z3 z4 ⊢
    rw [Array.toList_push] at z1
    have pc : es1.toList.Perm (((PySem.strKind P w).hash x, Value.str x tk) :: es.toList) := z1.trans (List.perm_append_singleton _ _)
    have g1 : TxHas P w (x :: xs) es1 :=
      { good := fun e he => by
          rcases List.mem_cons.mp (pc.mem_iff.mp he) with z | z
          · rw [z]
            exact ⟨x, tk, rfl, rfl⟩
          · exact q3.good e z
        perm := (pc.map txK).trans (List.Perm.cons x q3.perm)
        nd := List.nodup_cons.mpr ⟨hno, q3.nd⟩ }
    have hb1 : es1.size < scanBound := by rw [g1.size]; exact room
    have hled : w.params.followText "set-order" = true ∨ t1.led = true := q7.imp id fun z => by rw [z4]; exact z
    have last : ∀ hz, Heap.SameBut a s.heap hz → TxS P w hz a (x :: xs) → Q true { s with heap := hz } := fun hz sb r => by
      refine fin hz true sb ?_
      unfold txAdd
      rw [if_neg hno]
      exact r
    refine wpAny_bind (gw _ ?_)
    split
    · refine wpAny_bind ?_
      rw [hashByValue_scannable 8 i2]
      refine wpAny_pure ?_
      refine tx_tail ?_ q0 q1 q2 g1 hb1 ?_ ?_ ?_ ?_
      · intro b s₁ Q' q; cases b <;> first | exact wpAny_pure q | exact wpAny_rule q
      · first | (split <;> first | exact z2 | exact SetTable.fits_plain_off z2) | exact z2
      · first | (split <;> exact z3) | exact z3
      · first | (split <;> exact hled) | exact hled
      · intro hz sb r; dsimp only; exact wpAny_pure (last hz sb r)
    · refine wpAny_bind (wpAny_pure ?_)
      simp only [↓reduceIte]
      refine tx_tail ?_ q0 q1 q2 g1 hb1 z2 z3 hled ?_
      · intro b s₁ Q' q; cases b <;> first | exact wpAny_pure q | exact wpAny_rule q
      · intro hz sb r; dsimp only; exact wpAny_pure (last hz sb r)
end
end Jd
namespace Jd
open PySem PySem.Spec PyProof.Rows L2
abbrev ledW (w : World) : Bool := !w.params.followText "set-order"
abbrev bareS (w : World) : Obj := { cls := .type "set", dict := none, data := .set #[] 0 (.fresh 0 0 (ledW w)) }
abbrev putS (w : World) (h : Heap) : Heap := h.push (bareS w)
theorem bare_tx {P : Program} {w : World} {h : Heap} {a : Addr} (q : h.get? a = some (bareS w)) : TxS P w h a [] :=
  ⟨_, #[], 0, _, q, ⟨rfl, rfl, rfl⟩, rfl, ⟨fun e he => (by simp at he), List.Perm.nil, List.nodup_nil⟩, ⟨by decide, by rfl⟩, List.Pairwise.nil, by
    show _ ∨ ledW w = true
    unfold ledW
    cases w.params.followText "set-order"
    · exact .inr rfl
    · exact .inl rfl⟩
theorem tx_at : ∀ {us : List Value} {xs : List Str}, StrsAre us xs → ∀ (i : Nat) (v : Value), us[i]? = some v → ∃ k t, xs[i]? = some k ∧ v = .str k t
  | _, _, .nil, i, v, h => by simp at h
  | _, _, .cons n t hr, 0, v, h => ⟨n, t, rfl, (Option.some.inj h).symm⟩
  | _, _, .cons n t hr, i + 1, v, h => tx_at hr i v h
def txAll (xs : List Str) : List Str := xs.foldl txAdd []
theorem txAll_in : ∀ (xs acc : List Str) (x : Str), x ∈ xs.foldl txAdd acc ↔ x ∈ xs ∨ x ∈ acc
  | [], acc, x => by simp
  | y :: r, acc, x => by
    show x ∈ r.foldl txAdd (txAdd acc y) ↔ _
    rw [txAll_in r (txAdd acc y) x, List.mem_cons]
    have e : x ∈ txAdd acc y ↔ x = y ∨ x ∈ acc := by
      unfold txAdd
      split
      · rename_i hy
        exact ⟨.inr, fun z => z.elim (fun q => q ▸ hy) id⟩
      · exact List.mem_cons
    rw [e]
    constructor
    · rintro (z | z | z)
      · exact .inl (.inr z)
      · exact .inl (.inl z)
      · exact .inr z
    · rintro ((z | z) | z)
      · exact .inr (.inl z)
      · exact .inl z
      · exact .inr (.inr z)
theorem txAll_len : ∀ (xs acc : List Str), (xs.foldl txAdd acc).length ≤ acc.length + xs.length
  | [], acc => Nat.le_refl _
  | y :: r, acc => by
    have q := txAll_len r (txAdd acc y)
    have q2 := txAdd_len acc y
    show (r.foldl txAdd (txAdd acc y)).length ≤ acc.length + (r.length + 1)
    omega
theorem take_step {xs : List Str} {i : Nat} {z : Str} (hz : xs[i]? = some z) : txAll (xs.take (i + 1)) = txAdd (txAll (xs.take i)) z := by
  unfold txAll
  rw [List.take_add_one, hz, List.foldl_append]
  rfl
section
variable {P : Program} {w : World} {A : Around} {E : Value → Shared → Prop} {s : Shared}
theorem tx_loop {I : Addr} {fp wr : List Addr} {G : Array GenState → Array GenState → Prop} {n : Nat} {Pv : Nat → Value → Prop} {St : Nat → Shared → Prop} {R : Result → Shared → Prop}
    (W : WalksS P w A.in1 I fp wr G n Pv St) (S : Addr) (away : S ∉ fp) (xs : List Str) (hn : n = xs.length) (hb : xs.length + 1 < scanBound) (hval : ∀ i v, Pv i v → ∃ k t, xs[i]? = some k ∧ v = .str k t) :
    ∀ (k i : Nat) (s : Shared), n - i = k → i ≤ n → St i s → TxS P w s.heap S (txAll (xs.take i)) →
      (∀ s', Moved (S :: wr) G s s' → TxS P w s'.heap S (txAll xs) → R (.ok (.ret .none)) s') →
      codeAny (model P w) A (.builtin "set.update.loop" ⟨[.ref S, .ref I], []⟩) R s := by
  have nw : S ∉ wr := fun h => away (W.sub _ h)
  have more : ∀ b ∈ wr, b ∈ S :: wr := fun b hb => List.mem_cons_of_mem _ hb
  intro k
  induction k with
  | zero =>
    intro i s hk' hi hst hS hR
    obtain rfl : i = n := by omega
    refine codeAny_builtin F.entry_set_update_loop ?_
    rw [Around.under_plainId F.plain_set_update_loop _]
    show wpAny _ A.in1 (pyNext (.ref I) >>= _) _ _ s
    refine wpAny_bind (W.done s _ _ hst fun s' hm => ?_)
    show wpAny _ A.in1 (ret Value.none) _ _ s'
    rw [List.take_of_length_le (by omega : xs.length ≤ i)] at hS
    exact wpAny_pure (hR s' (hm.mono more) (hS.to fun o e => hm.heap S o nw e))
  | succ k ih =>
    intro i s hk' hi hst hS hR
    have lt : i < n := by omega
    refine codeAny_builtin F.entry_set_update_loop ?_
    rw [Around.under_plainId F.plain_set_update_loop _]
    show wpAny _ A.in1 (pyNext (.ref I) >>= _) _ _ s
    refine wpAny_bind (W.item i s _ _ lt hst fun v s' hP hst' hm => ?_)
    obtain ⟨z, t, hz, rfl⟩ := hval i v hP
    have hS' : TxS P w s'.heap S (txAll (xs.take i)) := hS.to fun o e => hm.heap S o nw e
    show wpAny _ A.in1 (holding [Value.str z t] (setAdd S (.str z t)) >>= _) _ _ s'
    refine wpAny_bind (wpAny_holding ?_)
    unfold setAdd
    refine wpAny_holding ?_
    refine wpAny_bind ((PySem.strKind P w).pyHash (k := z) (PySem.strKind_is _ _ _ _) ?_)
    have few : (txAll (xs.take i)).length + 1 < scanBound := by
      have q := txAll_len (xs.take i) []
      have q2 : (xs.take i).length ≤ xs.length := by rw [List.length_take]; omega
      have q3 : ([] : List Str).length = 0 := rfl
      unfold txAll
      omega
    refine tx_add (s := { s' with toks := s'.toks + 1 }) hS' few fun h' bb hsb hS2 => ?_
    rw [← take_step hz] at hS2
    refine wpAny_pure ⟨plainId_quiet F.plain_set_update_loop _, ih (i + 1) _ (by omega) lt (W.frame _ s' _ _ hst' (Nat.le_succ _) fun b hb o e => ?_) hS2 fun s'' hm'' hS'' => ?_⟩
    · rw [hsb.2 b (fun q : b = S => away (by rw [← q]; exact hb))]; exact e
    · refine hR s'' (Moved.trans W.gtrans ((hm.mono more).then_heap (Nat.le_succ _) fun b o hb e => ?_) hm'') hS''
      rw [hsb.2 b (fun q : b = S => hb (by rw [q]; exact List.mem_cons_self))]; exact e

set_option maxHeartbeats 8000000 in
theorem tx_of_list {l : Addr} {items : Array Value} (xs : List Str) {Q : Value → Shared → Prop} (calm : A.handled = none) (hl : s.heap.IsList l items) (hit : StrsAre items.toList xs) (hb : xs.length + 1 < scanBound)
    (fin : ∀ (hz : Heap) (tk : Nat), TxS P w hz s.heap.objs.size (txAll xs) → (∀ b o, s.heap.get? b = some o → hz.get? b = some o) → Q (.ref s.heap.objs.size) { s with heap := hz, toks := tk }) :
    wpAny (model P w) A (call (.type "set") [.ref l]) Q E s := by
  have hisz : items.size = xs.length := by
    have q := hit.length
    rw [Array.length_toList] at q
    exact q
  obtain ⟨c, tl, hmro⟩ := F.called_set.mro
  have z0 := F.called_set.made
  have z1 := F.called_set.sub
  refine wpAny_call (codeAny_of_tree ?_)
  show wpAny _ _ (callAny (.type "set") _) _ _ _
  refine wpAny_pure ⟨Code.quiet_builtin _ (by decide +kernel), codeAny_builtin F.entry_type_call ?_⟩
  rw [Around.under_plain (weight_type_call_type "set" [.ref l] []) rfl]
  have z2 := F.called_set.notType
  have z3 := F.called_set.canCreate
  have z4 := F.typeCall_set_1 (.ref l)
  repeat (any_goals (first | assumption | wp_step))
  refine codeAny_mono (code_set_led1 (.ref l) (E := E) (Q₁ := fun obj s₁ => obj = .ref s.heap.objs.size ∧ s₁ = { s with heap := putS w s.heap }) ⟨rfl, rfl⟩) fun r s₁ hr => ?_
  cases r with
  | error e => exact hr
  | ok fl =>
    cases fl with
    | ret obj =>
      obtain ⟨rfl, rfl⟩ := hr
      have hS : (putS w s.heap).get? s.heap.objs.size = some (bareS w) := Heap.get?_push_size _ rfl
      have hT : Shared.TypeIs { s with heap := putS w s.heap } (.ref s.heap.objs.size) "set" := ⟨_, hS, rfl⟩
      have z5 := F.called_set.init.lookup
      have z6 := F.called_set.init.bind (.ref s.heap.objs.size)
      repeat (any_goals (first | assumption | wp_step))
      refine codeAny_mono (codeAny_call_builtin (R := wants (fun r s₂ => r = .none ∧ ∃ hz tk, s₂ = { s with heap := hz, toks := tk } ∧ TxS P w hz s.heap.objs.size (txAll xs) ∧
          (∀ b o, s.heap.get? b = some o → hz.get? b = some o)) E) F.called_set.init.plain F.entry_set_init (check_set_init_1 hT ?_)) fun r₂ s₂ hr₂ => ?_
      · obtain ⟨ol, hol, hcl, nl, hdl⟩ := hl
        obtain ⟨oc, od, dt, osl⟩ := ol
        simp only at hcl hdl
        subst hcl
        subst hdl
        have hol' : (putS w s.heap).get? l = some { cls := .type "list", dict := od, data := .seq items nl, slots := osl } := Heap.get?_push_of_some _ hol
        have z7 := F.sub_list_set
        have z8 := F.sub_list_frozenset
        have z9 : (Value.type "list" == Value.type "dict") = false := by decide
        have hl1 : (putS w s.heap).IsList l items := ⟨_, hol', rfl, nl, rfl⟩
        unfold Builtin.«set.__init__» noKeywords Builtin.Frozenset.updateFrom
        generalize hPI : pyIter = PI
        wp_walk
        subst hPI
        refine wpAny_pyIter_list hl1 ?_
        refine wpAny_bind (wpAny_runValue ?_)
        have lt : l < s.heap.objs.size := Heap.lt_size hol
        have calm3 : A.in1.in1.in1.handled = none := by simp [calm]
        have sz1 : (putS w s.heap).objs.size = s.heap.objs.size + 1 := Heap.size_push ..
        have neI : l ≠ (putS w s.heap).objs.size := by
          rw [sz1]
          exact Nat.ne_of_lt (Nat.lt_succ_of_lt lt)
        have away : s.heap.objs.size ∉ [(putS w s.heap).objs.size, l] := by
          rw [sz1]; simp only [List.mem_cons, List.mem_singleton, List.not_mem_nil, or_false, not_or]
          exact ⟨Nat.ne_of_lt (Nat.lt_succ_self _), Nat.ne_of_gt lt⟩
        have hval : ∀ (i : Nat) (v : Value), items[i]? = some v → ∃ k t, xs[i]? = some k ∧ v = .str k t := fun i v hv => by
          have hi : i < xs.length := by rw [← hisz]; exact (Array.getElem?_eq_some_iff.mp hv).1
          exact tx_at hit i v (by rw [Array.getElem?_toList]; exact hv)
        refine tx_loop ((Walks.list calm3 _ l neI items).toS) s.heap.objs.size
          away xs hisz hb hval (items.size - 0) 0 _ (by omega) (Nat.zero_le _)
          ⟨⟨_, Heap.get?_push_size _ rfl, rfl, rfl⟩, (hl1.push _)⟩ ?hS0 ?hR
        case hS0 =>
          exact bare_tx (Heap.get?_push_of_some _ hS)
        case hR =>
          intro s' hm hS'
          obtain ⟨h', g2, d', tk', os'⟩ := s'
          have eg : g2 = s.gens := hm.gens
          have ed : d' = s.drawn := hm.drawn
          have eo : os' = s.os := hm.os
          subst eg; subst ed; subst eo
          show wpAny _ _ _ _ _ _
          refine wpAny_pure ?_
          show wpAny _ _ (ret Value.none) _ _ _
          refine wpAny_pure ⟨rfl, h', tk', rfl, hS', fun b o e => ?_⟩
          have b0 : b < s.heap.objs.size := Heap.lt_size e
          have b1 : b ≠ s.heap.objs.size := Nat.ne_of_lt b0
          have b2 : b ≠ (putS w s.heap).objs.size := by
            rw [sz1]
            exact Nat.ne_of_lt (Nat.lt_succ_of_lt b0)
          exact hm.heap b o (by simp only [List.mem_cons, List.mem_singleton, List.not_mem_nil, or_false, not_or]; exact ⟨b1, b2⟩) (Heap.get?_push_of_some _ (Heap.get?_push_of_some _ e))
      · cases r₂ with
        | error e => exact hr₂
        | ok fl₂ =>
          cases fl₂ with
          | ret r =>
            obtain ⟨rfl, h', tk, rfl, hS', hk'⟩ := hr₂
            repeat (any_goals (first | assumption | wp_step))
            exact fin _ _ hS' hk'
          | _ => exact hr₂.elim
    | _ => exact hr.elim

set_option maxHeartbeats 8000000 in
theorem tx_of_tuple {l : Addr} {items : Array Value} (xs : List Str) {Q : Value → Shared → Prop} (calm : A.handled = none) (hl : s.heap.IsTuple l items) (hit : StrsAre items.toList xs) (hb : xs.length + 1 < scanBound)
    (fin : ∀ (hz : Heap) (tk : Nat), TxS P w hz s.heap.objs.size (txAll xs) → (∀ b o, s.heap.get? b = some o → hz.get? b = some o) → Q (.ref s.heap.objs.size) { s with heap := hz, toks := tk }) :
    wpAny (model P w) A (call (.type "set") [.ref l]) Q E s := by
  have hisz : items.size = xs.length := by
    have q := hit.length
    rw [Array.length_toList] at q
    exact q
  obtain ⟨c, tl, hmro⟩ := F.called_set.mro
  have z0 := F.called_set.made
  have z1 := F.called_set.sub
  refine wpAny_call (codeAny_of_tree ?_)
  show wpAny _ _ (callAny (.type "set") _) _ _ _
  refine wpAny_pure ⟨Code.quiet_builtin _ (by decide +kernel), codeAny_builtin F.entry_type_call ?_⟩
  rw [Around.under_plain (weight_type_call_type "set" [.ref l] []) rfl]
  have z2 := F.called_set.notType
  have z3 := F.called_set.canCreate
  have z4 := F.typeCall_set_1 (.ref l)
  repeat (any_goals (first | assumption | wp_step))
  refine codeAny_mono (code_set_led1 (.ref l) (E := E) (Q₁ := fun obj s₁ => obj = .ref s.heap.objs.size ∧ s₁ = { s with heap := putS w s.heap }) ⟨rfl, rfl⟩) fun r s₁ hr => ?_
  cases r with
  | error e => exact hr
  | ok fl =>
    cases fl with
    | ret obj =>
      obtain ⟨rfl, rfl⟩ := hr
      have hS : (putS w s.heap).get? s.heap.objs.size = some (bareS w) := Heap.get?_push_size _ rfl
      have hT : Shared.TypeIs { s with heap := putS w s.heap } (.ref s.heap.objs.size) "set" := ⟨_, hS, rfl⟩
      have z5 := F.called_set.init.lookup
      have z6 := F.called_set.init.bind (.ref s.heap.objs.size)
      repeat (any_goals (first | assumption | wp_step))
      refine codeAny_mono (codeAny_call_builtin (R := wants (fun r s₂ => r = .none ∧ ∃ hz tk, s₂ = { s with heap := hz, toks := tk } ∧ TxS P w hz s.heap.objs.size (txAll xs) ∧
          (∀ b o, s.heap.get? b = some o → hz.get? b = some o)) E) F.called_set.init.plain F.entry_set_init (check_set_init_1 hT ?_)) fun r₂ s₂ hr₂ => ?_
      · obtain ⟨ol, hol, hcl, nl, hdl⟩ := hl
        obtain ⟨oc, od, dt, osl⟩ := ol
        simp only at hcl hdl
        subst hcl
        subst hdl
        have hol' : (putS w s.heap).get? l = some { cls := .type "tuple", dict := od, data := .seq items nl, slots := osl } := Heap.get?_push_of_some _ hol
        have z7 := F.sub_tuple_set
        have z8 := F.sub_tuple_frozenset
        have z9 : (Value.type "tuple" == Value.type "dict") = false := by decide
        have hl1 : (putS w s.heap).IsTuple l items := ⟨_, hol', rfl, nl, rfl⟩
        unfold Builtin.«set.__init__» noKeywords Builtin.Frozenset.updateFrom
        generalize hPI : pyIter = PI
        wp_walk
        subst hPI
        refine wpAny_pyIter_tuple hl1 ?_
        refine wpAny_bind (wpAny_runValue ?_)
        have lt : l < s.heap.objs.size := Heap.lt_size hol
        have calm3 : A.in1.in1.in1.handled = none := by simp [calm]
        have sz1 : (putS w s.heap).objs.size = s.heap.objs.size + 1 := Heap.size_push ..
        have neI : l ≠ (putS w s.heap).objs.size := by
          rw [sz1]
          exact Nat.ne_of_lt (Nat.lt_succ_of_lt lt)
        have away : s.heap.objs.size ∉ [(putS w s.heap).objs.size, l] := by
          rw [sz1]; simp only [List.mem_cons, List.mem_singleton, List.not_mem_nil, or_false, not_or]
          exact ⟨Nat.ne_of_lt (Nat.lt_succ_self _), Nat.ne_of_gt lt⟩
        have hval : ∀ (i : Nat) (v : Value), items[i]? = some v → ∃ k t, xs[i]? = some k ∧ v = .str k t := fun i v hv => by
          have hi : i < xs.length := by rw [← hisz]; exact (Array.getElem?_eq_some_iff.mp hv).1
          exact tx_at hit i v (by rw [Array.getElem?_toList]; exact hv)
        refine tx_loop ((Walks.tuple calm3 _ l neI items).toS) s.heap.objs.size
          away xs hisz hb hval (items.size - 0) 0 _ (by omega) (Nat.zero_le _)
          ⟨⟨_, Heap.get?_push_size _ rfl, rfl, rfl⟩, (hl1.push _)⟩ ?hS0 ?hR
        case hS0 =>
          exact bare_tx (Heap.get?_push_of_some _ hS)
        case hR =>
          intro s' hm hS'
          obtain ⟨h', g2, d', tk', os'⟩ := s'
          have eg : g2 = s.gens := hm.gens
          have ed : d' = s.drawn := hm.drawn
          have eo : os' = s.os := hm.os
          subst eg; subst ed; subst eo
          show wpAny _ _ _ _ _ _
          refine wpAny_pure ?_
          show wpAny _ _ (ret Value.none) _ _ _
          refine wpAny_pure ⟨rfl, h', tk', rfl, hS', fun b o e => ?_⟩
          have b0 : b < s.heap.objs.size := Heap.lt_size e
          have b1 : b ≠ s.heap.objs.size := Nat.ne_of_lt b0
          have b2 : b ≠ (putS w s.heap).objs.size := by
            rw [sz1]
            exact Nat.ne_of_lt (Nat.lt_succ_of_lt b0)
          exact hm.heap b o (by simp only [List.mem_cons, List.mem_singleton, List.not_mem_nil, or_false, not_or]; exact ⟨b1, b2⟩) (Heap.get?_push_of_some _ (Heap.get?_push_of_some _ e))
      · cases r₂ with
        | error e => exact hr₂
        | ok fl₂ =>
          cases fl₂ with
          | ret r =>
            obtain ⟨rfl, h', tk, rfl, hS', hk'⟩ := hr₂
            repeat (any_goals (first | assumption | wp_step))
            exact fin _ _ hS' hk'
          | _ => exact hr₂.elim
    | _ => exact hr.elim

theorem strs_good : ∀ (l : List Value), (∀ v ∈ l, ∃ x tk, v = Value.str x tk) → StrsAre l (l.map strOf)
  | [], _ => .nil
  | v :: l, h => by
    obtain ⟨x, tk, rfl⟩ := h v List.mem_cons_self
    exact .cons x tk (strs_good l fun u hu => h u (List.mem_cons_of_mem _ hu))
theorem tx_sorted {a : Addr} {xs : List Str} {Q : Value → Shared → Prop} (R : TxS P w s.heap a xs) (calm : A.handled = none) (h64 : xs.length < 64)
    (fin : ∀ s' p (out : Array Value) (c : Nat) (ys : List Str), (∀ b o, s.heap.get? b = some o → s'.heap.get? b = some o) → s'.gens = s.gens → s'.os = s.os → s.heap.objs.size ≤ p →
      s'.heap.get? p = some (seqObj "list" out c) → StrsAre out.toList ys → sortedS ys = true → ys.Perm xs → Q (.ref p) s') :
    wpAny (model P w) A (call (.builtin "sorted") [.ref a]) Q E s := by
  obtain ⟨o, es, ep, t, q0, q1, q2, q3, ⟨q4, q5⟩, q6, q7⟩ := R
  refine Calls.call_function_entry kind_sorted plain_sorted entry_sorted (args_sorted1 _) ?_
  unfold Builtin.«sorted»
  refine wpAny_bind (m := checkCount "sorted" 1 1 _) (wpAny_pure ?_)
  refine wpAny_bind (collect_set (A := A.in1) calm ⟨o, q0, q1.1, q2⟩ q5 q4 q6 q7 fun s1 vs k1 hz g1 o1 pm => ?_)
  have few : vs.length < 64 := by
    rw [pm.length_eq, List.length_map, Array.length_toList, q3.size]
    exact h64
  have hI : StrsAre vs (vs.map strOf) := strs_good vs fun v hv => by
    obtain ⟨e, he, q⟩ := List.mem_map.mp (pm.mem_iff.mp hv)
    obtain ⟨x, tk, h1, _⟩ := q3.good e he
    exact ⟨x, tk, by rw [← q]; exact h1⟩
  have pk : (vs.map strOf).Perm xs := by
    have q := pm.map strOf
    rw [List.map_map] at q
    have e : es.toList.map (strOf ∘ fun x => x.2) = es.toList.map txK := List.map_congr_left fun e he => by
      obtain ⟨x, tk, h1, _⟩ := q3.good e he
      show strOf e.2 = txK e
      unfold txK
      rw [h1]
      rfl
    rw [e] at q
    exact q.trans q3.perm
  refine wpAny_bind (wpAny_newList ?_ (by rw [sizeLine_eq]; omega))
  have oL : (s1.heap.push (seqObj "list" vs.toArray 0)).get? s1.heap.objs.size = some (seqObj "list" vs.toArray 0) := Heap.get?_push_size _ rfl
  refine wpAny_bind (wpAny_holding (wpAny_call_entry slot_list_sort ⟨_, oL, rfl⟩ entry_list_sort
    (list_sort_treeK PyProof.Rows.strKind_oneLt oL hI.keysOf (fun v₁ v₂ rest e => keyKind_strs (by rw [← e]; exact hI)) few fun st' hp hs => ⟨_, rfl, ?_⟩) (args_list_sort _)))
  obtain ⟨ys, a1, a2, a3⟩ := sorted_out_str hI hp hs
  obtain ⟨c, hc⟩ := sortedHeap_at (vs := vs) (out := (arrOf st').map (·.2)) oL
  refine wpAny_pure ⟨_, rfl, fin _ s1.heap.objs.size _ c ys (fun b u e => ?_) g1 o1 hz hc a1 a3 (a2.trans pk)⟩
  have q := k1 b u e
  have lt := Heap.lt_size q
  show (sortedHeap (s1.heap.push (seqObj "list" vs.toArray 0)) s1.heap.objs.size vs ((arrOf st').map (·.2))).get? b = some u
  rw [sortedHeap_old (Nat.ne_of_lt lt) (by rw [Heap.size_push]; exact Nat.lt_succ_of_lt lt)]
  exact Heap.get?_push_of_some _ q
end
/-! ### over the layer -/
def TxO (P : Program) (w : World) (a : Addr) (xs : List Str) : HO := .ext fun h => TxS P w h a xs
section
variable {X : Cx}
theorem txO_ok {P : Program} {w : World} {H : Hp} {h : Heap} {a : Addr} {xs : List Str} (R : TxS P w h a xs) : ObjOk P w H h a (TxO P w a xs) := by
  have ⟨o, _, _, _, ho, _⟩ := R
  exact ⟨R, ⟨o, ho⟩, fun h1 h2 p k => TxS.to p k⟩
def rSetTx (X : Cx) : List V → Hp → VK → Prop := fun vs H Q => ∃ (l : Addr) (xs : List Str), vs = [V.ref l] ∧ (SqL X.K H l (xs.map V.str) ∨ SqT X.K H l (xs.map V.str)) ∧ xs.length < 64 ∧
  ∀ a, H a = none → Q (.ref a) (upd H a (TxO X.prog X.w a (txAll xs)))
theorem cr_setTx (hc : X.calm = true) : CallR X (.type "set") (rSetTx X) := by
  intro pins s σ H vs us Q I r h
  obtain ⟨l, xs, rfl, hl, h64, q⟩ := h
  rw [Vals.ref1 r]
  have hn : H s.heap.objs.size = none := I.hok.fresh (Nat.le_refl _)
  have sb : xs.length + 1 < scanBound := by unfold scanBound; omega
  rcases hl with hl | hl
  · obtain ⟨its, rv, pl, hz⟩ := I.list hl
    refine tx_of_list (P := X.prog) (w := X.w) xs (I.ok.hd hc) pl.isList (by simpa using rv.strs) sb fun h' tk R k => ?_
    exact ⟨.ref s.heap.objs.size, upd H s.heap.objs.size (TxO X.prog X.w s.heap.objs.size (txAll xs)), I.laid (t' := tk) k (Nat.le_refl _) (txO_ok R), rfl, q _ hn⟩
  · obtain ⟨its, rv, ⟨o, ho, hcl, n, hd⟩, _⟩ := I.tuple hl
    refine tx_of_tuple (P := X.prog) (w := X.w) xs (I.ok.hd hc) (items := its.toArray) ⟨o, ho, hcl, n, hd⟩ (by simpa using rv.strs) sb fun h' tk R k => ?_
    exact ⟨.ref s.heap.objs.size, upd H s.heap.objs.size (TxO X.prog X.w s.heap.objs.size (txAll xs)), I.laid (t' := tk) k (Nat.le_refl _) (txO_ok R), rfl, q _ hn⟩
def rSortTx (X : Cx) : List V → Hp → VK → Prop := fun vs H Q => ∃ (a : Addr) (xs : List Str), vs = [V.ref a] ∧ H a = some (TxO X.prog X.w a xs) ∧ xs.length < 64 ∧
  ∀ (ys : List Str) (p : Addr), ys.Perm xs → sortedS ys = true → xs.Nodup → H p = none → Q (.ref p) (upd H p (.lst (ys.map V.str)))
theorem cr_sortTx (hc : X.calm = true) : CallR X (.builtin "sorted") (rSortTx X) := by
  intro pins s σ H vs us Q I r h
  obtain ⟨a, xs, rfl, ha, h64, q⟩ := h
  have R : TxS X.prog X.w s.heap a xs := (I.hok a _ ha).1
  have nd : xs.Nodup := by
    obtain ⟨_, _, _, _, _, _, _, q3, _⟩ := R
    exact q3.nd
  rw [Vals.ref1 r]
  refine tx_sorted R (I.ok.hd hc) h64 fun s' p out c ys k g o hp hg hi hs hm => ?_
  have hlen : (ys.map V.str).length ≤ sizeLine := by
    rw [List.length_map, hm.length_eq, sizeLine_eq]
    omega
  have hn : H p = none := I.hok.fresh hp
  have J : Inv X pins σ (upd H p (.lst (ys.map V.str))) { s with heap := s'.heap, gens := s'.gens, drawn := s'.drawn, toks := s'.toks } :=
    I.call (ch := []) (Un.laid k hp hn) (I.hok.laid k hp ⟨hlen, out.toList, c, vals_of_strs hi, hg⟩) (by rw [g]; exact I.bare) (fun _ z => nomatch z)
  have e : s' = { s with heap := s'.heap, gens := s'.gens, drawn := s'.drawn, toks := s'.toks } := by
    obtain ⟨b0, b1, b2, b3, b4⟩ := s'
    obtain ⟨c0, c1, c2, c3, c4⟩ := s
    cases o
    rfl
  rw [e]
  exact ⟨.ref p, _, J, rfl, q ys p hm hs nd hn⟩
end
end Jd
/-! try: .. except (A, B, ..) as e: suite, where the error outlives the suite: it is tracked behind it. -/
namespace Jd
open PySem PySem.Spec PyProof.Rows L2
/-- an error object at a: its class, its own dict -/
def ErO (cls : Value) (d : Option Addr) (a : Addr) : HO := .ext fun h => ∃ (oe : Obj) (vs : Array Value), h.get? a = some oe ∧ Zc cls d oe ∧ oe.data = .fields vs
theorem erO_ok {P : Program} {w : World} {H : Hp} {h : Heap} {a : Addr} {cls : Value} {d : Option Addr} {oe : Obj} {vs : Array Value} (q : h.get? a = some oe) (z : Zc cls d oe) (dt : oe.data = .fields vs) : ObjOk P w H h a (ErO cls d a) :=
  ⟨⟨oe, vs, q, z, dt⟩, ⟨oe, q⟩, fun _ _ ⟨o, v, r0, r1⟩ k => ⟨o, v, k o r0, r1⟩⟩
theorem flyZ_more {B : Heap} {l : List Env} {e : Addr} {Z : Obj → Prop} {h h' : Heap} (R : HandSPX.FlyingZ B l e Z h) (k : ∀ b o, h.get? b = some o → h'.get? b = some o) : HandSPX.FlyingZ B l e Z h' := by
  obtain ⟨f1, f2, f3, oe, vs, T, oT, ts, q0, q1, q2, q3, q4, q5, q6, q7⟩ := R
  exact ⟨fun b o q => k b o (f1 b o q), f2, f3.of_keeps fun b o q _ => ⟨o, k b o q, rfl⟩, oe, vs, T, oT, ts, k _ _ q0, q1, q2, q3, q4, q5, k _ _ q6, q7⟩
section
variable {X : Cx} {pins : List (Addr × Obj)} {σ : L2.St} {H : Hp} {s : Shared}
/-- an object that stands untracked in the heap is tracked from now on -/
theorem Inv_track {a : Addr} {oe : Obj} {o : HO} (I : Inv X pins σ H s) (he : s.heap.get? a = some oe) (na : H a = none) (n0 : X.s_0.heap.get? a = none) (np : ∀ p ∈ X.pn ++ pins, p.1 ≠ a) (nL : a ≠ X.env.locals)
    (nc : ∀ v, oe.data ≠ .cell v) (new : ObjOk X.prog X.w (upd H a o) s.heap a o) : Inv X pins σ (upd H a o) s := by
  have ne0 : ∀ {b : Addr} {ob : Obj}, X.s_0.heap.get? b = some ob → b ≠ a := fun {b ob} q z => by
    rw [z, n0] at q
    cases q
  have neS : ∀ {b : Addr} {u : HO}, H b = some u → b ≠ a := fun {b u} q z => by
    rw [z, na] at q
    cases q
  have nce : ∀ x c, X.env.cells.lookup x = some c → c ≠ a := fun x c q z => by
    obtain ⟨v, ob, r0, r1⟩ := I.cell x c q
    rw [z, he] at r0
    cases r0
    exact nc v r1
  refine ⟨I.ok, I.os, I.bare, ⟨I.base.keep, I.base.slot, fun b ob q n hx => ?_, I.base.there, fun b xs q => ?_, fun b ob u q => ?_, fun b ps q => ?_⟩, I.loc, I.cell, ?_, fun x c q => ?_, fun p hp => ?_, fun b u q => ?_, I.len⟩
  · rw [upd_ne (ne0 q)]
    exact I.base.free b ob q n hx
  · have r := I.base.tups b xs q
    rw [upd_ne (neS r)]
    exact r
  · have r := I.base.frzs b ob u q
    rw [upd_ne (neS r)]
    exact r
  · obtain ⟨m, r⟩ := I.base.tbls b ps q
    exact ⟨m, by rw [upd_ne (neS r)]; exact r⟩
  · rw [upd_ne nL.symm]
    exact I.free
  · rw [upd_ne (nce x c q)]
    exact I.freeC x c q
  · obtain ⟨r0, r1, r2⟩ := I.pin p hp
    exact ⟨r0, by rw [upd_ne (np p hp)]; exact r1, r2⟩
  · by_cases hb : b = a
    · subst hb
      rw [upd_same] at q
      cases q
      exact new
    · rw [upd_ne hb] at q
      exact (I.hok b u q).stay (fun c v _ r => r) (fun c r => by rw [upd_ne (neS r)]; exact r) fun c xs r => by rw [upd_ne (neS r)]; exact r
end
/-- what an except clause's tuple of classes is worth -/
def HTest (X : Cx) (t : Expr) (cs : List Value) : Prop := ∀ (a : Addr) (oe : Obj) (pn pins : List (Addr × Obj)) (σ : L2.St) (H : Hp) (s : Shared) (b : Bool) (Q : Bool → Shared → Prop) (E : Value → Shared → Prop),
  Inv (X.suite a pn) pins σ H s → s.heap.get? a = some oe → PySem.W.exmAny X.K oe.cls cs = some b → (∀ hz, (∀ q o, s.heap.get? q = some o → hz.get? q = some o) → Q b { s with heap := hz }) →
  wpAny (model X.prog X.w) (X.A.mark (some (.ref a))) (eval t X.env) (fun c s₁ => wpAny (model X.prog X.w) (X.A.mark (some (.ref a))) (excMatches (.ref a) c) Q E s₁) E s
theorem names_ev {X : Cx} {x : Str} {c : Value} {a : Addr} {pn pins : List (Addr × Obj)} {σ : L2.St} {H : Hp} {s : Shared} {np : Pos} {Q : Value → Shared → Prop} {E : Value → Shared → Prop} (n : Names X x c) (I : Inv (X.suite a pn) pins σ H s) (q : Q c s) :
    wpAny (model X.prog X.w) (X.A.mark (some (.ref a))) (eval (.Name x np) X.env) Q E s := by
  obtain ⟨hg, hdbg, hm | ⟨hm, hv, hnn⟩⟩ := n
  · exact ld_glob (X := X.suite a pn) I hg hm q hdbg
  · exact ld_blt (X := X.suite a pn) I hg hm hv q hnn hdbg
theorem htest2 {X : Cx} {x1 x2 : Str} {c1 c2 : Value} {p1 p2 tp : Pos} {kk : Nat} (n1 : Names X x1 c1) (n2 : Names X x2 c2) : HTest X (.Tuple [.Name x1 p1, .Name x2 p2] kk tp) [c1, c2] := by
  intro a oe pn pins σ H s b Q E I he hx q
  refine wpAny_Tuple (wpAny_items_cons (names_ev (pn := pn) (pins := pins) (σ := σ) (H := H) n1 I (wpAny_items_cons (names_ev (pn := pn) (pins := pins) (σ := σ) (H := H) n2 I (wpAny_items_nil ⟨(by show 2 ≤ sizeLine; decide), ?_⟩)))))
  have kp : ∀ q o, s.heap.get? q = some o → (s.heap.push { cls := .type "tuple", data := .seq [c1, c2].toArray }).get? q = some o := fun _ _ z => Heap.get?_push_of_some _ z
  have LT : PySem.W.Looks (model X.prog X.w) s.heap (typeOf (.ref a)) oe.cls := fun A Q E s k q => wpAny_typeOf_ref (k _ _ he) q
  exact (PySem.W.exm_tup2 (I.kIn.keeps kp) (LT.keeps kp) (Heap.get?_push_size s.heap rfl) hx).here (q _ kp)
theorem htest3 {X : Cx} {x1 x2 x3 : Str} {c1 c2 c3 : Value} {p1 p2 p3 tp : Pos} {kk : Nat} (n1 : Names X x1 c1) (n2 : Names X x2 c2) (n3 : Names X x3 c3) : HTest X (.Tuple [.Name x1 p1, .Name x2 p2, .Name x3 p3] kk tp) [c1, c2, c3] := by
  intro a oe pn pins σ H s b Q E I he hx q
  refine wpAny_Tuple (wpAny_items_cons (names_ev (pn := pn) (pins := pins) (σ := σ) (H := H) n1 I (wpAny_items_cons (names_ev (pn := pn) (pins := pins) (σ := σ) (H := H) n2 I (wpAny_items_cons (names_ev (pn := pn) (pins := pins) (σ := σ) (H := H) n3 I (wpAny_items_nil ⟨(by show 3 ≤ sizeLine; decide), ?_⟩)))))))
  have kp : ∀ q o, s.heap.get? q = some o → (s.heap.push { cls := .type "tuple", data := .seq [c1, c2, c3].toArray }).get? q = some o := fun _ _ z => Heap.get?_push_of_some _ z
  have LT : PySem.W.Looks (model X.prog X.w) s.heap (typeOf (.ref a)) oe.cls := fun A Q E s k q => wpAny_typeOf_ref (k _ _ he) q
  exact (PySem.W.exm_tup3 (I.kIn.keeps kp) (LT.keeps kp) (Heap.get?_push_size s.heap rfl) hx).here (q _ kp)
theorem htest4 {X : Cx} {x1 x2 x3 x4 : Str} {c1 c2 c3 c4 : Value} {p1 p2 p3 p4 tp : Pos} {kk : Nat} (n1 : Names X x1 c1) (n2 : Names X x2 c2) (n3 : Names X x3 c3) (n4 : Names X x4 c4) :
    HTest X (.Tuple [.Name x1 p1, .Name x2 p2, .Name x3 p3, .Name x4 p4] kk tp) [c1, c2, c3, c4] := by
  intro a oe pn pins σ H s b Q E I he hx q
  refine wpAny_Tuple (wpAny_items_cons (names_ev (pn := pn) (pins := pins) (σ := σ) (H := H) n1 I (wpAny_items_cons (names_ev (pn := pn) (pins := pins) (σ := σ) (H := H) n2 I (wpAny_items_cons (names_ev (pn := pn) (pins := pins) (σ := σ) (H := H) n3 I (wpAny_items_cons (names_ev (pn := pn) (pins := pins) (σ := σ) (H := H) n4 I (wpAny_items_nil ⟨(by show 4 ≤ sizeLine; decide), ?_⟩)))))))))
  have kp : ∀ q o, s.heap.get? q = some o → (s.heap.push { cls := .type "tuple", data := .seq [c1, c2, c3, c4].toArray }).get? q = some o := fun _ _ z => Heap.get?_push_of_some _ z
  have LT : PySem.W.Looks (model X.prog X.w) s.heap (typeOf (.ref a)) oe.cls := fun A Q E s k q => wpAny_typeOf_ref (k _ _ he) q
  exact (PySem.W.exm_tup4 (I.kIn.keeps kp) (LT.keeps kp) (Heap.get?_push_size s.heap rfl) hx).here (q _ kp)
/-- what the clause wishes of an exception of the body: slot i is the error's name; behind the suite the error stands tracked -/
def wErr (K : PySem.W.Frag) (cs : List Value) (i : Nat) (ts : Addr → Value → Option Addr → TS) (Wout : WX) (D : Ends) : WX := fun cls d σ H =>
  ∃ b, PySem.W.exmAny K cls cs = some b ∧ (b = true → ∀ a, H a = none → ts a cls d { nx := fun σ' H' => H' a = none → D.nx (σ'.set i none) (upd H' a (ErO cls d a)), rt := D.rt, bk := fun σ' H' => D.bk (σ'.set i none) H', ct := fun σ' H' => D.ct (σ'.set i none) H' } (σ.set i (some (.ref a))) H) ∧
    (b = false → Wout cls d σ H)
section
variable {X : Cx} {n : Str} {t : Expr} {cs : List Value} {i : Nat} {body suite : List Stmt} {b₀ : Stmt} {pos pos' : Pos} {tb : WX → TS} {ts : Addr → Value → Option Addr → TS} {Wout : WX}
theorem ps_try_err (hs : X.stack = X.env :: X.outer) (hf : X.env.frame = some X.env.locals) (hex : X.ex = []) (hN : X.N.Nodup) (hi : X.N[i]? = some n) (hln : X.env.kindOf n = some .local) (hc : HTest X t cs) (tk : Takes X Wout)
    (hb : ∀ (W : WX) (pn : List (Addr × Obj)) (xe : Value → Shared → Prop), Takes (X.tr pn xe) W → PassesOwn (model X.prog X.w) X.A X.env xe → PSs (X.tr pn xe) body (tb W))
    (hsu : ∀ (a : Addr) (oe : Obj) (cls : Value) (d : Option Addr) (pn : List (Addr × Obj)), Zc cls d oe → (∃ vs, oe.data = .fields vs) → PSs (X.suite a ((a, oe) :: pn)) (b₀ :: suite) (ts a cls d)) :
    PS X (.Try body [.ExceptHandler (some t) (some n) (b₀ :: suite) pos'] [] [] pos) (fun D σ H => tb (wErr X.K cs i ts Wout D) D σ H) := by
  refine ⟨fun pins s σ H D I h => ?_⟩
  have ok := I.ok
  have loc : Loc X.env.scope n := .inl hln
  have frm : X.A.frames = some (X.env :: X.outer) := by rw [ok.frames, hs]
  refine wpAny_Try_except ?_
  refine wpAny_mono ((hb (wErr X.K cs i ts Wout D) (X.pn ++ pins) (fun e s₁ => wpAny (model X.prog X.w) X.A (noteFrame e X.env) (fun _ s₂ => wpAny (model X.prog X.w) X.A (setFlight e none) (fun _ s₃ =>
    wpAny (model X.prog X.w) X.A (handleBy e X.env [.ExceptHandler (some t) (some n) (b₀ :: suite) pos']) (SP X pins D) X.xe s₃) X.xe s₂) X.xe s₁) (fun u s' xx => ?_) PassesOwn.looking).run [] s σ H D (I.toTry _) h) (fun f s1 hsp => ?_) (fun e s1 he => he)
  · obtain ⟨a, B, sI, pins', σ', H', cls, d, rfl, J', nb, up, sky, na, os, ag, b, w1, w2, w3⟩ := xx
    have J : Inv X pins σ' H' sI := J'.ofTry ok
    have sk : Sky B (X.env :: X.outer) a (Zc cls d) X.env.locals s'.heap := by rw [← hs]; exact sky
    show wpAny (model X.prog X.w) X.A (noteFrame (.ref a) X.env) _ _ _
    refine Sky.land Zc.steady frm hf sk fun h3 fl3 up3 => ?_
    have J3 : Inv X pins σ' H' { s' with heap := h3 } := J.landed nb fl3.1 (up.trans up3) os ag
    obtain ⟨oe3, vs3, he3, hz3, hd3⟩ := fl3.there
    have nfr : a ∉ frs (X.env :: X.outer) := fun hm => by
      obtain ⟨_, o', e', nf⟩ := fl3.2.2.1.mem hm
      rw [he3] at e'
      cases e'
      exact nf _ hd3
    have nL : a ≠ X.env.locals := fun z => nfr (List.mem_filterMap.mpr ⟨X.env, List.mem_cons_self, by rw [hf, z]⟩)
    have nF : a ∉ X.fs := fun hm => by
      obtain ⟨e, he, q⟩ := List.mem_filterMap.mp hm
      exact nfr (List.mem_filterMap.mpr ⟨e, List.mem_cons_of_mem _ he, q⟩)
    have nI : sI.heap.get? a = none := by
      cases q : sI.heap.get? a with
      | none => rfl
      | some o =>
        have r := nb a o q (by rw [hs]; exact nfr)
        rw [fl3.2.1] at r
        cases r
    have n0 : X.s_0.heap.get? a = none := by
      cases q : X.s_0.heap.get? a with
      | none => rfl
      | some o =>
        obtain ⟨o', r⟩ := J.base.there a o q (by rw [hex]; exact fun z => nomatch z)
        rw [nI] at r
        cases r
    have np : ∀ p ∈ X.pn ++ pins, p.1 ≠ a := fun p hp z => by
      have r := (J.pin p hp).1
      rw [z, nI] at r
      cases r
    have S3 := J3.suite he3 hd3 na nL nF
    refine wpAny_handleBy_cons (codeAny_handlers_test (hc a oe3 ((a, oe3) :: (X.pn ++ pins)) [] σ' H' _ b _ _ S3 he3 (by rw [hz3.1]; exact w1) fun h5 k5 => ?_)) (by intro q; cases q)
    have fl5 : HandSPX.FlyingZ B (X.env :: X.outer) a (Zc cls d) h5 := flyZ_more fl3 k5
    have up5 : h3.UpToSlots h5 := Heap.UpToSlots.of_keeps k5
    cases b with
    | true =>
      refine codeAny_handlers_suite_as ?_
      refine HandSPX.lands_againZ fl5 fun h4 fl4 up4 => ?_
      have J4 : Inv X pins σ' H' { s' with heap := h4 } := J.landed nb fl4.1 (((up.trans up3).trans up5).trans up4) os ag
      obtain ⟨oe4, vs4, he4, hz4, hd4⟩ := fl4.there
      have S4 := J4.suite he4 hd4 na nL nF
      refine store_ok (X := X.suite a ((a, oe4) :: (X.pn ++ pins))) (v := .ref a) S4 hN hi loc rfl (fun s5 S5 => ?_) (.inr hln)
      refine wpAny_mono ((hsu a oe4 cls d (X.pn ++ pins) hz4 ⟨_, hd4⟩).run [] s5 _ H' _ S5 (w2 rfl a na)) (fun f s6 hsp => ?_) (fun _ _ z => False.elim z)
      have gone : ∀ {σ6 : L2.St} {H6 : Hp} {Q : Shared → Prop}, Inv X pins σ6 H6 s6 → (∀ s7, Inv X pins (σ6.set i none) H6 s7 → Q s7) →
          wpAny (model X.prog X.w) X.A (do bindName X.env n .none; unbindBehindTheSuite X.env n pos') (fun _ s7 => Q s7) X.xe s6 := fun {σ6 H6 Q} S6 hq => gone_ok S6 hN hi hln hq
      cases f with
      | next =>
        obtain ⟨σ6, H6, S6, q6⟩ := hsp
        obtain ⟨r0, r1, _⟩ := S6.pin (a, oe4) (List.mem_append_left _ List.mem_cons_self)
        have S7 := Inv_track (o := ErO cls d a) (S6.unsuite ok) r0 r1 n0 np nL (fun v z => by have z' : oe4.data = .cell v := z; rw [hd4] at z'; cases z') (erO_ok r0 hz4 hd4)
        exact gone S7 fun s7 J7 => ⟨_, _, J7, q6 r1⟩
      | brk =>
        obtain ⟨σ6, H6, S6, q6⟩ := hsp
        exact gone (S6.unsuite ok) fun s7 J7 => ⟨_, _, J7, q6⟩
      | cont =>
        obtain ⟨σ6, H6, S6, q6⟩ := hsp
        exact gone (S6.unsuite ok) fun s7 J7 => ⟨_, _, J7, q6⟩
      | ret u =>
        obtain ⟨v6, σ6, H6, S6, r6, q6⟩ := hsp
        exact gone (S6.unsuite ok) fun s7 J7 => ⟨_, _, _, J7, r6, q6⟩
    | false =>
      show wpAny _ X.A (handleBy (.ref a) X.env []) _ _ _
      refine wpAny_handleBy_nil ?_
      obtain ⟨k1, k2, k3, oe, vs, T, oT, ts', g0, g1, g2, g3, gr⟩ := id fl5
      unfold PySem.passOn
      refine wpAny_bind (wpAny_field g0 g2 g3 ?_)
      rw [if_neg (show ¬ ((Value.ref T == Value.none) = true) from by simp)]
      have last : wpAny (model X.prog X.w) X.A (setFlight (.ref a) X.env.frame) (fun _ s4 => wpAny (model X.prog X.w) X.A (throw (.ref a) : Sem Flow) (SP X pins D) X.xe s4) X.xe { s' with heap := h5 } := by
        rw [hf]
        refine HandSPX.setFlight_upZ fl5 fun h4 hh4 up4 => wpAny_throw (tk _ _ ?_)
        exact ⟨a, B, sI, pins, σ', H', cls, d, rfl, J, nb, ((up.trans up3).trans up5).trans up4, .inr (.inr (by rw [hs]; exact hh4)), na, os, ag, w3 rfl⟩
      first
        | exact wpAny_bind (wpAny_pure (wpAny_bind last))
        | exact wpAny_bind last
  · cases f with
    | next =>
      obtain ⟨σ', H', J', q⟩ := hsp
      exact wpAny_execs_nil ⟨σ', H', J'.ofTry ok, q⟩
    | brk =>
      obtain ⟨σ', H', J', q⟩ := hsp
      exact ⟨σ', H', J'.ofTry ok, q⟩
    | cont =>
      obtain ⟨σ', H', J', q⟩ := hsp
      exact ⟨σ', H', J'.ofTry ok, q⟩
    | ret u =>
      obtain ⟨v, σ', H', J', r, q⟩ := hsp
      exact ⟨v, σ', H', J'.ofTry ok, r, q⟩
end
/-! ### the error behind the suite: its field, isinstance -/
/-- e.f, e an error that is tracked -/
def tErF (K : PySem.W.Frag) (f : Str) (te : TE) : TE := fun σ H Q => te σ H fun x H1 => ∃ (a C dd : Addr) (fs : List (Str × V)) (v : V), x = .ref a ∧ H1 a = some (ErO (.ref C) (some dd) a) ∧ XfC K C ∧ PySem.W.findIn K (.ref C) f = some none ∧
  H1 dd = some (.xd fs) ∧ fs.lookup f = some v ∧ Q v H1
theorem pe_erF {X : Cx} {e : Expr} {te : TE} {pos : Pos} {f : Str} (he : PE X e te) (hb : attributeBase e f X.env (eval e X.env) = eval e X.env := by rfl) : PE X (.Attribute e f pos) (tErF X.K f te) := by
  refine ⟨fun pins s σ H Q I h => ?_⟩
  refine attr_of hb (thn (he.run pins s σ H _ I h) fun u s1 hh => ?_)
  obtain ⟨x, H1, I1, rx, a, C, dd, fs, v, ex, ea, T, hno, ed, l, q⟩ := hh
  subst ex
  obtain rfl : u = Value.ref a := rx
  obtain ⟨oe, vs, r0, r1, r2⟩ := (I1.hok a _ ea).1
  have hx : ObjOk X.prog X.w H1 s1.heap dd (.xd fs) := I1.hok dd _ ed
  obtain ⟨mA, hns, hr⟩ := hx
  obtain ⟨od, ho, hl⟩ := lookIn_ns hns
  obtain ⟨u, hu, ru⟩ := RelO.some_of (v := v) (o := mA f) (by rw [← l]; exact hr f)
  have J : PySem.W.InstAt s1.heap a oe C (some od) := ⟨r0, r1.1, by unfold PySem.W.notCls; rw [r2] <;> rfl, by rw [r1.2]; exact ho⟩
  exact HandSPX.exc_get I1.kIn J T.ga T.gg T.exC (PySem.W.findObj_own T.hdC hno rfl (by rw [hl, hu])) (handed_of ru) ⟨v, H1, I1.tok _, ru, q⟩
end Jd
namespace Jd
open PySem PySem.Spec PyProof.Rows L2
/-! ### an own error over LookupError, made by its own __init__ -/
/-- what stands behind such a class in its order -/
abbrev leRow : List Value := [.type "LookupError", .type "Exception", .type "BaseException", .type "object"]
structure LexC (K : PySem.W.Frag) (C : Addr) : Prop where
  shape : ∃ nm ql N bs sl sb ab cl dt j0 j1 j2 j3 j5,
    K.lookup C = some (excClassObj nm ql C N bs leRow true sl sb ab cl dt j0 j1 j2 j3 j5 "LookupError.__new__")
  store : PySem.W.findIn K (.ref C) "__setattr__" = some (some (.builtin "object.__setattr__"))
  isE : PySem.W.subIn K (.ref C) (.type "BaseException") = some true
  isT : PySem.W.typeIn K (.ref C) = some (.type "type")
  keep : PySem.W.keepIn K (.ref C) = true
end Jd
namespace Jd
open PySem Builtin Builtin.ObjectAttr
theorem le_pass (self : Value) (C : Addr) : refuseLoop self "__setattr__" (.ref C :: leRow) = pure () := by
  rw [refuseLoop_ref]
  exact F.store_LookupError.passes self
section
variable {P : Program} {w : World} {A : Around} {R : Result → Shared → Prop} {hp : Heap} {g : Array GenState} {dr : Drawn} {tk0 : Nat} {os : OsState}
/-- e.f = v, e an error of such a class without a dict -/
theorem le_first {K : W.Frag} {f : Str} {tk : Tok} {v : Value} {e C : Addr} {cells : Array Value} {c : ClassData} (inK : K.In hp)
    (he : hp.get? e = some { cls := .ref C, data := .fields cells }) (hc : W.clsIn K C = some c) (hm : c.mro = .ref C :: leRow)
    (hh : c.hasDict = true) (hf : W.findIn K (.ref C) f = some none)
    (fin : ∀ hp' tk' dx, (∀ b o, b ≠ e → hp.get? b = some o → hp'.get? b = some o) → hp.objs.size ≤ dx → dx ≠ e →
      hp'.get? e = some { cls := .ref C, dict := some dx, data := .fields cells } →
      hp'.Ns1 dx (fun y => if y = f then some v else none) → R (.ok (.ret .none)) ⟨hp', g, dr, tk', os⟩) :
    codeAny (model P w) A (.call (.builtin "object.__setattr__") ⟨[.ref e, .str f tk, v], []⟩) R ⟨hp, g, dr, tk0, os⟩ := by
  have inst : W.InstAt hp e { cls := .ref C, data := .fields cells } C none := ⟨he, rfl, rfl, trivial⟩
  have S := F.store_object
  have obj : c.mro.contains (.type "object") = true := by
    rw [hm, List.contains_cons]
    rfl
  have far : e ≠ hp.objs.size := Nat.ne_of_lt (Heap.lt_size he)
  have isO : W.Looks (model P w) hp (isInstance (.ref e) (.type "object")) true :=
    inst.type.andThen (W.looks_mroIn inK (by
      unfold W.mroIn
      rw [hc, Option.bind_some, if_neg (by rw [hm]; exact Bool.false_ne_true), obj]))
  refine codeAny_call_builtin S.slot.plain S.entry
    (@W.check_slot (model P w) _ _ ⟨hp, g, dr, tk0, os⟩ "object.__setattr__" "object" "__setattr__" (.ref e) [.str f tk, v] [] _
      S.kind S.split isO (S.args (.ref e) (.str f tk) v) ?_)
  have lm : W.Looks (model P w) hp (mroOf (.ref C)) c.mro := (W.looks_clsIn inK hc).andThen .now
  have lt : W.Looks (model P w) hp (storeTaker? none) none := .now
  have lc : W.Looks (model P w) hp (classData C) c := W.looks_clsIn inK hc
  rw [W.osa_eq, refuse_eq]
  refine wpAny_bind (wpAny_bind (inst.type.at (wpAny_bind (lm.at ?_))))
  rw [hm, le_pass]
  refine wpAny_pure (wpAny_bind (inst.type.at (wpAny_bind
    ((W.looks_findIn inK hf).at (wpAny_bind (lt.at ?_))))))
  show wpAny _ _ (storeInOwnDict (.ref e) (.ref C) (.str f tk) f v false) _ _ _
  obtain ⟨a1, a2, a3, a4, a5, a6, a7, a8, a9, a10, a11⟩ := c
  dsimp only at hh
  subst hh
  unfold storeInOwnDict ownDictForStores
  repeat (first
    | with_reducible refine HandSPX.store_in_new ?_ ?_
    | with_reducible refine wpAny_loadPart_at he ?_
    | with_reducible refine lc.at ?_
    | wp_step)
  · refine ⟨_, #[], _, (Heap.get?_update_ne _ _ _ _ far.symm).trans (Heap.get?_push_at rfl rfl), rfl, ?_, fun _ => rfl⟩
    exact fun q hq => absurd hq (by simp)
  · intro hp' tk' ns same
    have he2 : (hp.push { cls := .type "dict", data := .dict #[] }).get? e = some { cls := .ref C, data := .fields cells } :=
      Heap.get?_push_of_some _ he
    refine fin hp' tk' hp.objs.size (fun b o nb ho => ?_) (Nat.le_refl _) far.symm ?_ ns
    · rw [same.2 b (Nat.ne_of_lt (Heap.lt_size ho)), Heap.get?_update_ne _ _ _ _ nb]
      exact Heap.get?_push_of_some _ ho
    · rw [same.2 e far]
      exact Heap.get?_update_self _ he2 rfl
end
end Jd
namespace Jd
open PySem PySem.Spec PyProof.Rows L2
section
variable {X : Cx} {pins : List (Addr × Obj)} {σ : L2.St} {H : Hp} {s : Shared} {a C : Addr} {A : Around}
theorem LexC.cd {K : PySem.W.Frag} (T : LexC K C) : ∃ c : ClassData, PySem.W.clsIn K C = some c ∧ c.mro = .ref C :: leRow ∧ c.hasDict = true := by
  obtain ⟨nm, ql, N, bs, sl, sb, ab, cl, dt, j0, j1, j2, j3, j5, lk⟩ := T.shape
  refine ⟨{ name := nm, bases := bs, mro := .ref C :: leRow, ns := N, qualname := ql, hasDict := true, slotNames := sl, subclasses := sb, abstract := ab, collection := cl, hasDel := false }, ?_, rfl, rfl⟩
  unfold PySem.W.clsIn
  rw [lk] <;> rfl
/-- the error's first field -/
theorem le_field {f : Str} {y : V} {u : Value} {Q : Unit → Shared → Prop} {E : Value → Shared → Prop} (T : LexC X.K C)
    (I : Inv X pins σ H s) (ea : H a = some (exo a C none)) (nf : PySem.W.findIn X.K (.ref C) f = some none) (ry : RelV y u)
    (fin : ∀ dx s', H dx = none → dx ≠ a → Inv X pins σ (upd (upd H dx (exd dx [(f, y)])) a (exo a C (some dx))) s' → Q () s') :
    wpAny (model X.prog X.w) A (setAttr (.ref a) f u) Q E s := by
  obtain ⟨c, hc, hm, hh⟩ := T.cd
  obtain ⟨t1, ho⟩ := exo_at I.hok ea
  obtain ⟨hp, g, d, t, os⟩ := s
  refine PySem.W.set_plain I.kIn (od := none)
    (ox := { cls := .ref C, dict := none, data := .fields #[.ref t1, .none, .none, .none, .bool false, .none] })
    ⟨ho, rfl, rfl, trivial⟩ T.store ?_
  refine le_first I.kIn ho hc hm hh nf (fun hp' tk' dx kept lo ne hx ns => ?_)
  have free : H dx = none := I.hok.fresh lo
  have below : ∀ {b : Addr} {o : Obj}, hp.get? b = some o → b ≠ dx := fun {b o} q =>
    Nat.ne_of_lt (Nat.lt_of_lt_of_le (Heap.lt_size q) lo)
  have other : ∀ {b : Addr}, H b = none → b ≠ a := fun {b} q z => by
    rw [z, ea] at q
    cases q
  have two_off : ∀ {b : Addr} {o : HO}, H b = some o → b ≠ a → (upd (upd H dx (exd dx [(f, y)])) a (exo a C (some dx))) b = some o :=
    fun {b o} q n => by
      rw [upd_ne n, upd_ne (ne_of_none q free)]
      exact q
  have un : Un X.fs [] H (upd (upd H dx (exd dx [(f, y)])) a (exo a C (some dx))) hp hp' := {
    keep := fun b o q n _ _ => kept b o (other n) q
    slot := fun b o q n _ _ => ⟨o.slots, kept b o (other n) q⟩
    free := fun b o q n _ => by
      rw [upd_ne (other n), upd_ne (below q)]
      exact n
    there := fun b o q _ => by
      rcases Nat.decEq b a with h | h
      · exact ⟨o, kept b o h q⟩
      · exact ⟨_, h ▸ hx⟩
    tups := fun b xs q => two_off q (at_ne ea q exo_tup)
    frzs := fun b o v q => two_off q (at_ne ea q exo_frz)
    tbls := fun b ps q => ⟨#[], by
      rw [two_off q (at_ne ea q exo_tbl)]
      simp⟩ }
  refine fin dx _ free ne (I.un (t' := tk') un fun b o q => ?_)
  by_cases ba : b = a
  · subst ba
    rw [upd_same] at q
    cases q
    exact exo_ok hx
  rw [upd_ne ba] at q
  by_cases bd : b = dx
  · subst bd
    rw [upd_same] at q
    cases q
    exact exd_ok ns (relO_put (fs := []) ry fun _ => True.intro)
  rw [upd_ne bd] at q
  refine (I.hok b o q).stay (fun c v hcv z => kept c v ?_ z) (fun c hcv => ?_) (fun c xs hcv => two_off hcv (at_ne ea hcv exo_tup))
  · rcases hcv with h | h
    · exact h ▸ ba
    · exact at_ne ea h exo_own
  · rw [upd_ne (at_ne ea hcv exo_own), upd_ne (ne_of_none hcv free)]
    exact hcv
/-- LookupError.__init__(e, ..) -/
theorem le_init {us : List Value} {Q : Value → Shared → Prop} {E : Value → Shared → Prop} (T : LexC X.K C) (I : Inv X pins σ H s)
    (ea : H a = some (exo a C none)) (hl : us.length ≤ sizeLine) (fin : ∀ s', Inv X pins σ H s' → Q .none s') :
    wpAny (model X.prog X.w) A (call (.builtin "LookupError.__init__") (.ref a :: us)) Q E s := by
  obtain ⟨nm, ql, N, bs, sl, sb, ab, cl, dt, j0, j1, j2, j3, j5, lk⟩ := T.shape
  obtain ⟨t1, ho⟩ := exo_at I.hok ea
  obtain ⟨hp, g, d, t, os⟩ := s
  refine wpAny_call (PySem.HandSPX.init_base F.excBase_LookupError (fun _ => rfl) (I.kIn _ _ lk) ho hl fun hp' t2 kept hx => ?_)
  have again : upd H a (exo a C none) = H := funext fun b => by
    unfold upd
    split
    · rename_i h
      rw [h, ea]
    · rfl
  have J := I.write (t' := t) (x := a) (e := a) (o := exo a C none) (by rw [ea]; exact True.intro) (.inl rfl) kept ⟨_, hx⟩ (exo_ok hx)
  exact fin _ (by rw [again] at J; exact J)
end
end Jd
namespace Jd
open PySem PySem.Spec PyProof.Rows L2
/-! ### its rules -/
def tLeI (K : PySem.W.Frag) (ta : TA) : TE := fun σ H Q => ta σ H fun vs H1 =>
  ∃ (a C : Addr) (ws : List V), vs = .ref a :: ws ∧ ws.length ≤ 1000 ∧ LexC K C ∧ H1 a = some (exo a C none) ∧ Q .non H1
def tLeF (K : PySem.W.Frag) (f : Str) (to te : TE) : TS := fun D σ H => te σ H fun y H1 => to σ H1 fun x H2 =>
  ∃ a C : Addr, x = .ref a ∧ LexC K C ∧ PySem.W.findIn K (.ref C) f = some none ∧ H2 a = some (exo a C none) ∧
    ∀ dx, H2 dx = none → dx ≠ a → D.nx σ (upd (upd H2 dx (exd dx [(f, y)])) a (exo a C (some dx)))
section
variable {X : Cx} {o e : Expr} {es : List Expr} {to te : TE} {ta : TA} {f : Str} {p p' p1 p2 pos : Pos}
theorem typ_LE : typeOf (.type "LookupError") = pure (.type "type") := by kernel_rfl
/-- LookupError.__init__(self, ..) as an expression -/
theorem pe_leinit {pl : Sem Bool} (hg : Gl X "LookupError") (hm : X.mg "LookupError" = none)
    (at_ : PySem.W.findCls X.K (.type "LookupError") (.type "type") "__init__" = some (.val (.builtin "LookupError.__init__"))) (ha : PA X (e :: es) ta)
    (ev : eval (.Call (.Attribute (.Name "LookupError" p1) "__init__" p2) (e :: es) [] pos) X.env = (do
      let base ← eval (.Name "LookupError" p1) X.env
      standAt p2.atName
      let (f, first) ← holding [base] (getMethod base "__init__" pl)
      callWith pos f first (backTo pos (starEach (e :: es) X.env)) (backToKw pos (keywordEach [] X.env))) := by rfl)
    (st : starEach (e :: es) X.env = (false, eval e X.env) :: starEach es X.env := by rfl)
    (ns : (backTo pos (starEach es X.env)).any (fun q => q.1) = false := by rfl) :
    PE X (.Call (.Attribute (.Name "LookupError" p1) "__init__" p2) (e :: es) [] pos) (tLeI X.K ta) := by
  refine ⟨fun pins s σ H Q I h => PySem.W.methodCall_KW (ld_blt I hg hm PyProof.Rows.Boot.«LookupError» ?_ (by decide) (by decide)) ev⟩
  obtain ⟨m, fr⟩ := I.fr
  refine PySem.W.method_type fr I.ok.mod.kin typ_LE (by decide +kernel) at_ (by decide +kernel) ?_
  show wpAny _ _ (callWith pos (Value.builtin "LookupError.__init__") [] (backTo pos (starEach (e :: es) X.env)) []) _ _ _
  refine PyProof.Rows.callWith_method1 (thn (ha.run pos pins _ σ H _ (I.tok _) h) fun us s1 hz => ?_) st ns
  obtain ⟨vs, H1, I1, rel, a, C, ws, rfl, short, T, ea, q⟩ := hz
  cases rel with
  | @cons _ self _ rest r0 rs =>
    obtain rfl : self = Value.ref a := r0
    have few : rest.length ≤ sizeLine := by
      have z := Paired.length rs
      rw [sizeLine_eq]
      omega
    exact le_init T I1 ea few fun s' J => ⟨.non, H1, J, rfl, q⟩
/-- self.f = e, the first one -/
theorem ps_leF (ho : PE X o to) (he : PE X e te) (hs : swapsWith e (some (.Attribute o f p')) pos.line X.env = pure false := by rfl) :
    PS X (.Assign [.Attribute o f p'] e pos) (tLeF X.K f to te) := by
  refine ⟨fun pins s σ H D I h => plainObj_wpAny_Assign_Attribute (thn (he.run pins s σ H _ I h) fun v s1 hy => ?_) hs⟩
  obtain ⟨y, H1, I1, ry, q1⟩ := hy
  refine thn (ho.run pins s1 σ H1 _ I1 q1) fun u s2 hx => ?_
  obtain ⟨x, H2, I2, rx, a, C, rfl, T, nf, ea, q⟩ := hx
  obtain rfl : u = Value.ref a := rx
  exact le_field T I2 ea nf ry fun dx s' n ne J => ⟨σ, _, J, q dx n ne⟩
/-- raise C(e, ..): the error is made, its __init__ keeps sp -/
theorem pmk_lex {CX : CXT} {x : Str} {C fI : Addr} {k : Nat} {fd : FuncData} {ps : List Str} {sp : Sp} {ds : List Value} {dvs : List V}
    (T : LexC X.K C) (iC : PySem.W.findIn X.K (.ref C) "__init__" = some (some (.ref fI)))
    (tI : PySem.W.typeIn X.K (.ref fI) = some (.type "function")) (F1 : FnOk X.prog X.w X.K X.mg X.base CX k fI fd ps sp)
    (hr : Room (k + 1) X.A) (hb : Binds X.K fd ps ds) (hd : Vals dvs ds) (hx : Passes CX X (fun _ _ _ => False)) (hg : Gl X x)
    (hm : X.mg x = some (.ref C)) (ha : PA X (e :: es) ta) (nd : (x == ("__debug__" : Str)) = false := by decide)
    (st : starEach (e :: es) X.env = (false, eval e X.env) :: starEach es X.env := by rfl)
    (ns : (backTo pos (starEach es X.env)).any (fun q => q.1) = false := by rfl) : PMk X (.Call (.Name x p) (e :: es) [] pos) (tMkO C sp dvs ta) := by
  intro pins s σ H Q I h
  obtain ⟨nm, ql, N, bs, sl, sb, ab, cl, dt, j0, j1, j2, j3, j5, lk⟩ := T.shape
  refine wpAny_Call_Name_kw (ld_glob I hg hm ?_ nd)
  refine PySem.W.callWith_K (h₀ := X.base) I.ok.mod.kin T.keep (thn (ha.run pos pins s σ H _ I h) fun us s1 hu => ?_) st ns
  obtain ⟨vs, H1, I1, rel, short, way⟩ := hu
  refine ⟨I1.kIn, ?_⟩
  show wpAny _ _ (call (.ref C) us) _ _ _
  obtain ⟨hp, g, dr, tk, os⟩ := s1
  -- where the error will stand
  have lo : hp.objs.size ≤ hp.objs.size + 1 := Nat.le_succ _
  have vac : H1 (hp.objs.size + 1) = none := I1.hok.fresh lo
  have todo := way (hp.objs.size + 1) vac
  have grow : ∀ b o, hp.get? b = some o → ((hp.push (PySem.W.kdv_tup us)).push (PySem.HandSPX.excO C hp.objs.size)).get? b = some o :=
    fun b o q => Heap.get?_push_of_some _ (Heap.get?_push_of_some _ q)
  have here : ((hp.push (PySem.W.kdv_tup us)).push (PySem.HandSPX.excO C hp.objs.size)).get? (hp.objs.size + 1) = some (PySem.HandSPX.excO C hp.objs.size) := by
    heap_get
  have I2 := I1.laid (t' := tk) (o := exo (hp.objs.size + 1) C none) grow lo (exo_ok here)
  have rel2 : Vals (V.ref (hp.objs.size + 1) :: (vs ++ dvs)) (Value.ref (hp.objs.size + 1) :: (us ++ ds)) := .cons rfl (rel.append hd)
  have args : (Value.ref (hp.objs.size + 1) :: us ++ ds).length = ps.length := by
    have z := rel2.length
    rw [F1.len _ _ _ _ todo] at z
    exact z.symm
  have few : us.length ≤ sizeLine := by
    have z := Paired.length rel
    rw [sizeLine_eq]
    omega
  have body := F1.run (Around.under X.A (.builtin "type.__call__" ⟨.ref C :: us, []⟩)) X.stack _ _ ⟨Value.ref (hp.objs.size + 1) :: us, []⟩ (Value.ref (hp.objs.size + 1) :: (us ++ ds)) _ _
    (fun _ _ _ => False) (hr.make C us []) (I2.env0.make C us []) (hb _ (Value.ref (hp.objs.size + 1) :: us) I2.kIn args) rel2 todo
  refine wpAny_call (PySem.HandSPX.call_own F.excBase_LookupError (fun _ => rfl) (I1.kIn _ _ lk) (PySem.W.looks_findIn I1.kIn iC)
    (fun self => PySem.W.bind_fn I1.kIn self tI) few (codeAny_mono body fun r s' out => ?_))
  cases r with
  | error er => exact hx pins σ _ _ er s' I2 out
  | ok way2 =>
    cases way2 with
    | ret u =>
      obtain ⟨v, H2, os2, bare2, un2, ok2, rv, ev, d, fs, ea, ed, vd, q2⟩ := out
      subst ev
      obtain ⟨h2, g2, d2, t2, os'⟩ := s'
      exact ⟨rv, mk_end (raises_own T.isE T.isT) I1 lo grow un2 ok2 os2 bare2 ea ed vd q2⟩
    | _ => exact out.elim
end
end Jd
/-! len, in, ==, != by a class's own defs; calls by keywords alone; a class made where errors are caught -/
namespace PySem.W
open PySem PySem.Calls PyProof.Rows Builtin
section
variable {prog : Program} {w : World} {A : Around} {E : Value → Shared → Prop} {s : Shared} {K : Frag} {x C L f : Addr} {h₀ : Heap} {m : Str → Option Value} {ox : Obj} {od : Option Obj} {b tb : Value}
theorem ifBoundB_K {M : Model} {id : String} {name : Str} {args : List Value} {Q : Option Value → Shared → Prop} (X : K.In s.heap) (I : InstAt s.heap x ox C od) (hs : findIn K (.ref C) name = some (some (.builtin id)))
    (hb : bindSpecial (.builtin id) (.ref x) = pure (.builtin id, [.ref x]))
    (h : wpAny M A (call (.builtin id) (.ref x :: args)) (fun v => Q (some v)) E s) : wpAny M A (callSpecialIfBound? (.ref x) name args) Q E s := by
  simp only [callSpecialIfBound?, bindSpecialIfBound?]
  refine wpAny_holding (wpAny_bind (wpAny_bind (wpAny_bind (I.type.here ((looks_findIn X hs).here ?_)))))
  simp only [hb]
  refine wpAny_bind (wpAny_askSetting (wpAny_ite ?_))
  have fin : wpAny M A (call (.builtin id) ([.ref x] ++ args) >>= fun v => pure (some v)) Q E s := wpAny_bind (wpAny_mono h (fun v s' h' => wpAny_pure h') fun _ _ h' => h')
  split
  · exact wpAny_bind (wpAny_pure (wpAny_pure (by exact fin)))
  · exact wpAny_tryCatch (wpAny_bind (wpAny_pure (wpAny_pure (by exact fin))))
theorem ne_K {Q : Value → Shared → Prop} (hu : A.units + 1 < cLine) (X : K.In s.heap) (I : InstAt s.heap x ox C od) (hb : Looks (model prog w) s.heap (typeOf b) tb) (hn : notFirst K C tb = true)
    (hne : findIn K (.ref C) "__ne__" = some (some (.builtin "object.__ne__"))) (hm : mroIn K C (.type "object") = some true)
    (hs : findIn K (.ref C) "__eq__" = some (some (.ref f))) (hf : isFn K (.ref f) = true)
    (h : wpAny (model prog w) A.in1 (call (.ref f) [.ref x, b]) (fun v s' => ∃ c, v = .bool c ∧ Q (.bool (!c)) s') E s) : wpAny (model prog w) A (richCompare .NotEq (.ref x) b) Q E s := by
  have isO : Looks (model prog w) s.heap (isInstance (.ref x) (.type "object")) true := I.type.andThen (looks_mroIn X hm)
  have body : wpAny (model prog w) A (call (.builtin "object.__ne__") [.ref x, b]) (fun v s' => ∃ c, v = .bool c ∧ Q v s') E s := by
    refine wpAny_call (codeAny_call_builtin PySem.F.cmp_object.ne.plain PySem.F.cmpEntry_ne
      (@check_slot (model prog w) _ _ s "object.__ne__" "object" "__ne__" (.ref x) [b] [] _ PySem.F.cmpKind_ne PySem.F.cmpSplit_ne isO (PySem.F.cmpArgs_ne _ _) ?_))
    unfold Builtin.«object.__ne__»
    refine wpAny_bind (wpAny_of_eq (a := ((Value.ref x : Value), [b])) (by first | rfl | (simp only [slotArgs]; rfl)) ?_)
    refine wpAny_bind (wpAny_cRoomFor (A := A.in1) hu ?_)
    refine wpAny_bind (ifBound_K X I hs hf (wpAny_mono h (fun v s' hv => ?_) fun _ _ e => e))
    obtain ⟨c, rfl, q⟩ := hv
    refine wpAny_bind (wpAny_truthy_bool ?_)
    exact wpAny_pure ⟨_, rfl, q⟩
  have one : wpAny (model prog w) A (tryCompare (.ref x) (cmpInfo .NotEq).2.1 b) (fun r s' => ∃ v, r = some v ∧ Q v s') E s := by
    unfold tryCompare
    refine wpAny_bind (ifBoundB_K X I hne (PySem.F.cmp_object.ne.bind _) (wpAny_mono body (fun v s' hv => ?_) fun _ _ e => e))
    obtain ⟨c, rfl, q⟩ := hv
    exact wpAny_pure ⟨_, rfl, q⟩
  unfold richCompare
  simp only [oneThing_ref]
  refine wpAny_holding (wpAny_bind (wpAny_cRoomFor (Nat.lt_of_succ_lt hu) ?_))
  refine wpAny_bind (I.type.here (wpAny_bind (hb.here ?_)))
  split
  · rename_i q
    have e : subIn K tb (.ref C) = some false := by
      rcases Bool.or_eq_true_iff.mp hn with e | e
      · rw [beq_iff_eq.mp e] at q; simp at q
      · exact beq_iff_eq.mp e
    refine wpAny_bind ((looks_subIn X e).here ?_)
    simp only [Bool.false_eq_true, if_false]
    refine wpAny_bind (wpAny_mono one (fun r s' z => ?_) fun _ _ e => e)
    obtain ⟨v, rfl, hq⟩ := z
    exact wpAny_pure hq
  · refine wpAny_bind (wpAny_pure ?_)
    simp only [Bool.false_eq_true, if_false]
    refine wpAny_bind (wpAny_mono one (fun r s' z => ?_) fun _ _ e => e)
    obtain ⟨v, rfl, hq⟩ := z
    exact wpAny_pure hq
end
end PySem.W
namespace Jd
open PySem PySem.Spec PyProof.Rows L2
section
variable {X : Cx} {CX : CXT} {k : Nat} {C f : Addr} {fd : FuncData} {ps : List Str} {sp : Sp} {E : XK}
def rLenOwn (C : Addr) (sp : Sp) (E : XK) : List V → Hp → VK → Prop := fun xs H Q => ∃ a dx fs, xs = [.ref a] ∧ H a = some (.ins C dx fs) ∧ sp [.ref a] H (fun v H' => ∃ n : Int, v = .int n ∧ 0 ≤ n ∧ n < 2 ^ 63 ∧ Q (.int n) H') E
def rInOwn (C : Addr) (sp : Sp) (E : XK) : R2 := fun x y H Q => ∃ a dx fs, y = .ref a ∧ H a = some (.ins C dx fs) ∧ sp [y, x] H (fun v H' => ∃ c : Bool, v = .bl c ∧ Q (.bl c) H') E
def rEqOwn (K : PySem.W.Frag) (C : Addr) (sp : Sp) (E : XK) : R2 := fun x y H Q => ∃ a dx fs t, x = .ref a ∧ H a = some (.ins C dx fs) ∧ TyX K H y t ∧ PySem.W.notFirst K C t = true ∧ sp [x, y] H (fun v H' => ∃ c : Bool, v = .bl c ∧ Q (.bl c) H') E
def rNeOwn (K : PySem.W.Frag) (C : Addr) (sp : Sp) (E : XK) : R2 := fun x y H Q => ∃ a dx fs t, x = .ref a ∧ H a = some (.ins C dx fs) ∧ TyX K H y t ∧ PySem.W.notFirst K C t = true ∧ sp [x, y] H (fun v H' => ∃ c : Bool, v = .bl c ∧ Q (.bl (!c)) H') E
/-- the def run around A, which stands as deep as X.A or one deeper -/
theorem own_run {pins : List (Addr × Obj)} {s : Shared} {σ : L2.St} {H : Hp} {Q : VK} {vs : List V} {us : List Value} (A : Around) (hA : A.frames = X.A.frames) (F : FnOk X.prog X.w X.K X.mg X.base CX k f fd ps sp) (hr : Room k A) (hb : Binds X.K fd ps []) (hx : Passes CX X E)
    (I : Inv X pins σ H s) (r : Vals vs us) (h : sp vs H Q E) : wpAny (model X.prog X.w) A (call (.ref f) us) (EP X pins σ Q) X.xe s := by
  have e := I.env0
  have e0 : Env0 X.prog X.w X.K X.mg X.base A X.stack s H := ⟨by rw [hA]; exact e.frames, e.mod, e.bs, e.bsz, e.funs, e.frf, e.hok, e.bare⟩
  have hl := F.len _ _ _ _ h
  refine wpAny_call (codeAny_mono (F.run A X.stack s H ⟨us, []⟩ us vs _ E hr e0 (by
    have := hb s us I.kIn (by simpa [← r.length] using hl)
    simpa using this) r h) fun r s' hq => ?_)
  cases r with
  | error e => exact hx pins σ H s e s' I hq
  | ok fl =>
    cases fl with
    | ret w => exact I.after hq
    | next => exact False.elim hq
    | brk => exact False.elim hq
    | cont => exact False.elim hq
theorem call_lenOwn (F : FnOk X.prog X.w X.K X.mg X.base CX k f fd ps sp) (hr : Room (k + 1) X.A) (hs : PySem.W.findIn X.K (.ref C) "__len__" = some (some (.ref f))) (hf : PySem.W.isFn X.K (.ref f) = true) (hb : Binds X.K fd ps []) (hx : Passes CX X E) : CallR X (.builtin "len") (rLenOwn C sp E) := by
  intro pins s σ H xs us Q I r h
  obtain ⟨a, dx, fs, rfl, ha, hsp⟩ := h
  cases r with
  | cons rx rr =>
    cases rr
    cases rx
    obtain ⟨mA, J, _⟩ := ins_get I.hok ha
    obtain ⟨od, J, _⟩ := J.look
    obtain ⟨m, hF⟩ := I.fr
    refine PySem.W.len_K hF I.ok.mod.kin J hs hf (wpAny_mono (own_run X.A.in1 rfl F hr.in1 hb hx I (.cons (show RelV (V.ref a) (Value.ref a) from rfl) .nil) hsp) (fun v s' z => ?_) fun _ _ x => x)
    obtain ⟨y, H', I', rz, n, ez, n0, n1, q⟩ := z
    subst ez
    obtain ⟨t, rfl⟩ := (show ∃ t, v = Value.int n t from rz)
    exact ⟨⟨n0, n1⟩, .int n, H', I'.tok _, ⟨_, rfl⟩, q⟩
theorem op_inOwn (F : FnOk X.prog X.w X.K X.mg X.base CX k f fd ps sp) (hr : Room k X.A) (hs : PySem.W.findIn X.K (.ref C) "__contains__" = some (some (.ref f))) (hf : PySem.W.isFn X.K (.ref f) = true) (hb : Binds X.K fd ps []) (hx : Passes CX X E) : OpR X (compareOp .In) (rInOwn C sp E) := by
  intro pins s σ H x y v u Q I rx ry h
  obtain ⟨a, dx, fs, rfl, ha, hsp⟩ := h
  cases ry
  obtain ⟨mA, J, _⟩ := ins_get I.hok ha
  obtain ⟨od, J, _⟩ := J.look
  obtain ⟨m, hF⟩ := I.fr
  refine PySem.W.in_K hF I.ok.mod.kin J hs hf (wpAny_mono (own_run X.A rfl F hr hb hx I (.cons (show RelV (V.ref a) (Value.ref a) from rfl) (.cons rx .nil)) hsp) (fun v s' z => ?_) fun _ _ x => x)
  obtain ⟨y, H', I', rz, c, ez, q⟩ := z
  subst ez
  cases rz
  exact wpAny_truthy_bool ⟨.bl c, H', I', rfl, q⟩
theorem op_eqOwn (F : FnOk X.prog X.w X.K X.mg X.base CX k f fd ps sp) (hr : Room k X.A) (hs : PySem.W.findIn X.K (.ref C) "__eq__" = some (some (.ref f))) (hf : PySem.W.isFn X.K (.ref f) = true) (hb : Binds X.K fd ps []) (hx : Passes CX X E) : OpR X (compareOp .Eq) (rEqOwn X.K C sp E) := by
  intro pins s σ H x y v u Q I rx ry h
  obtain ⟨a, dx, fs, t, rfl, ha, ht, hn, hsp⟩ := h
  obtain ⟨P, kx, hP, _⟩ := kit_of I ry ht
  cases rx
  obtain ⟨mA, J, _⟩ := ins_get I.hok ha
  obtain ⟨od, J, _⟩ := J.look
  obtain ⟨m, hF⟩ := I.fr
  show wpAny (model X.prog X.w) X.A (richCompare .Eq (.ref a) u) (EP X pins σ Q) X.xe s
  refine PySem.W.cmp_K (op := .Eq) (tb := t) hr.units0 hF I.ok.mod.kin J (kx.ty _ _ I.kIn hP) hn hs hf (wpAny_mono (own_run X.A rfl F hr hb hx I (.cons (show RelV (V.ref a) (Value.ref a) from rfl) (.cons ry .nil)) hsp) (fun v s' z => ?_) fun _ _ x => x)
  obtain ⟨y, H', I', rz, c, ez, q⟩ := z
  subst ez
  cases rz
  exact ⟨.bl c, H', I', rfl, q⟩
theorem op_neOwn (F : FnOk X.prog X.w X.K X.mg X.base CX k f fd ps sp) (hr : Room (k + 1) X.A) (hu : X.A.units + 1 < cLine) (hs : PySem.W.findIn X.K (.ref C) "__eq__" = some (some (.ref f))) (hf : PySem.W.isFn X.K (.ref f) = true)
    (hne : PySem.W.findIn X.K (.ref C) "__ne__" = some (some (.builtin "object.__ne__"))) (hm : PySem.W.mroIn X.K C (.type "object") = some true) (hb : Binds X.K fd ps []) (hx : Passes CX X E) : OpR X (compareOp .NotEq) (rNeOwn X.K C sp E) := by
  intro pins s σ H x y v u Q I rx ry h
  obtain ⟨a, dx, fs, t, rfl, ha, ht, hn, hsp⟩ := h
  obtain ⟨P, kx, hP, _⟩ := kit_of I ry ht
  cases rx
  obtain ⟨mA, J, _⟩ := ins_get I.hok ha
  obtain ⟨od, J, _⟩ := J.look
  show wpAny (model X.prog X.w) X.A (richCompare .NotEq (.ref a) u) (EP X pins σ Q) X.xe s
  refine PySem.W.ne_K (tb := t) hu I.kIn J (kx.ty _ _ I.kIn hP) hn hne hm hs hf (wpAny_mono (own_run X.A.in1 rfl F hr.in1 hb hx I (.cons (show RelV (V.ref a) (Value.ref a) from rfl) (.cons ry .nil)) hsp) (fun v s' z => ?_) fun _ _ x => x)
  obtain ⟨y, H', I', rz, c, ez, q⟩ := z
  subst ez
  cases rz
  exact ⟨c, rfl, .bl (!c), H', I', rfl, q⟩
end
/-! two readings of one piece -/
section
variable {X : Cx} {e tg : Expr} {t1 t2 : TE} {w1 w2 : TI} {g1 g2 : TG}
theorem pe_or2 (h1 : PE X e t1) (h2 : PE X e t2) : PE X e (fun σ H Q => t1 σ H Q ∨ t2 σ H Q) :=
  ⟨fun pins s σ H Q I h => h.elim (h1.run pins s σ H Q I) (h2.run pins s σ H Q I)⟩
theorem pi_or2 (h1 : PI X tg e w1) (h2 : PI X tg e w2) : PI X tg e (fun σ H R => w1 σ H R ∨ w2 σ H R) :=
  ⟨fun pins s σ H R I h => h.elim (h1.run pins s σ H R I) (h2.run pins s σ H R I)⟩
theorem pg_or2 (h1 : PG X tg g1) (h2 : PG X tg g2) : PG X tg (fun v σ H Q => g1 v σ H Q ∨ g2 v σ H Q) :=
  ⟨fun pins s σ H v u Q I r h => h.elim (h1.run pins s σ H v u Q I r) (h2.run pins s σ H v u Q I r)⟩
end
end Jd
namespace Jd
open PySem PySem.Spec PyProof.Rows L2
/-! a class made, a method called, where what is raised is wished for at the slots; methods called by keywords alone -/
section
variable {X : Cx} {CX : CXT} {k : Nat} {f C : Addr} {fd : FuncData} {ps : List Str} {sp : Sp} {dvs : List V} {ds : List Value} {E : L2.St → XK} {x m : Str} {p pos apos : Pos} {e o : Expr} {es : List Expr} {t : TA} {ta : TE}
def tMakeS (C : Addr) (sp : Sp) (dvs : List V) (E : L2.St → XK) (t : TA) : TE := fun σ H Q => t σ H fun vs H1 => ∀ x dx, H1 x = none → H1 dx = none → dx ≠ x →
  sp (.ref x :: (vs ++ dvs)) (upd (upd H1 dx (.own x)) x (.ins C dx [])) (fun v H2 => v = .non ∧ Q (.ref x) H2) (E σ)
theorem run_makeS {pins : List (Addr × Obj)} {σ : L2.St} {H : Hp} {s : Shared} {Q : VK} {us : List Value} {vs : List V} (M : Mk X.K C f) (F : FnOk X.prog X.w X.K X.mg X.base CX k f fd ps sp) (hr : Room (k + 1) X.A) (hb : Binds X.K fd ps ds) (hd : Vals dvs ds)
    (hx : PassesAt CX X σ (E σ)) (I : Inv X pins σ H s) (r : Vals vs us)
    (h : ∀ x dx, H x = none → H dx = none → dx ≠ x → sp (.ref x :: (vs ++ dvs)) (upd (upd H dx (.own x)) x (.ins C dx [])) (fun v H2 => v = .non ∧ Q (.ref x) H2) (E σ)) :
    wpAny (model X.prog X.w) X.A (call (.ref C) us) (EP X pins σ Q) X.xe s := by
  have hq := h (s.heap.objs.size + 1) s.heap.objs.size (I.hok.fresh (Nat.le_succ _)) (I.hok.fresh (Nat.le_refl _)) (Nat.ne_of_lt (Nat.lt_succ_self _))
  have I2 := Inv.made (C := C) I
  have r2 : Vals (V.ref (s.heap.objs.size + 1) :: (vs ++ dvs)) (Value.ref (s.heap.objs.size + 1) :: (us ++ ds)) := .cons rfl (r.append hd)
  have hl : (Value.ref (s.heap.objs.size + 1) :: us ++ ds).length = ps.length := by
    have e := r2.length
    rw [F.len _ _ _ _ hq] at e
    exact e.symm
  refine wpAny_call (make_map (f := f) I.kIn M.makes M.init (beq_iff_eq.mp M.fn) (codeAny_mono (F.run _ X.stack _ _ ⟨Value.ref (s.heap.objs.size + 1) :: us, []⟩ (Value.ref (s.heap.objs.size + 1) :: (us ++ ds)) _ _ (E σ) (hr.make C us [])
    (I2.env0.make C us []) (hb _ (Value.ref (s.heap.objs.size + 1) :: us) I2.kIn hl) r2 hq) fun r s' hq' => ?_))
  cases r with
  | error e => exact hx pins _ _ e s' I2 hq'
  | ok fl =>
    cases fl with
    | ret u =>
      obtain ⟨v, H', I3, rv, ev, q3⟩ := I2.after hq'
      subst ev
      exact ⟨rv, ⟨V.ref (s.heap.objs.size + 1), H', I3, rfl, q3⟩⟩
    | next => exact False.elim hq'
    | brk => exact False.elim hq'
    | cont => exact False.elim hq'
theorem pe_makeS (M : Mk X.K C f) (F : FnOk X.prog X.w X.K X.mg X.base CX k f fd ps sp) (hr : Room (k + 1) X.A) (hg : Gl X x) (hm : X.mg x = some (.ref C)) (hb : Binds X.K fd ps ds) (hd : Vals dvs ds) (hx : ∀ σ, PassesAt CX X σ (E σ))
    (ha : PA X (e :: es) t) (hdb : (x == ("__debug__" : Str)) = false := by decide) (he : starEach (e :: es) X.env = (false, eval e X.env) :: starEach es X.env := by rfl) (hpl : (backTo pos (starEach es X.env)).any (·.1) = false := by rfl) :
    PE X (.Call (.Name x p) (e :: es) [] pos) (tMakeS C sp dvs E t) := by
  refine ⟨fun pins s σ H Q I h => ?_⟩
  refine wpAny_Call_Name_kw (ld_glob I hg hm ?_ hdb)
  refine PySem.W.callWith_K (h₀ := X.base) I.ok.mod.kin M.kp (thn (ha.run pos pins s σ H _ I h) fun us s1 ⟨vs, H1, I1, r, q⟩ => ⟨I1.kIn, ?_⟩) he hpl
  exact run_makeS M F hr hb hd (hx σ) I1 r q
/-- o.m(e, ..), what is raised wished for at the slots -/
def tMethSA (C : Addr) (m : Str) (sp : Sp) (E : L2.St → XK) (ta : TE) (t : TA) : TE := fun σ H Q => ta σ H fun x H1 => ∃ a dx fs, x = .ref a ∧ H1 a = some (.ins C dx fs) ∧ fs.lookup m = none ∧ t σ H1 fun vs H2 => sp (x :: vs) H2 Q (E σ)
theorem pe_methSA {pl : Sem Bool} (he : PE X o ta) (c : Cls X.K C) (hm : Meth X.K C m f) (F : FnOk X.prog X.w X.K X.mg X.base CX k f fd ps sp) (hr : Room k X.A) (hb : Binds X.K fd ps []) (hx : ∀ σ, PassesAt CX X σ (E σ)) (ha : PA X (e :: es) t)
    (ht : eval (.Call (.Attribute o m apos) (e :: es) [] pos) X.env = (do
      let ov ← eval o X.env
      standAt apos.atName
      let (f, first) ← holding [ov] (getMethod ov m pl)
      callWith pos f first (backTo pos (starEach (e :: es) X.env)) (backToKw pos (keywordEach [] X.env))) := by rfl)
    (hst : starEach (e :: es) X.env = (false, eval e X.env) :: starEach es X.env := by rfl) (hpl : (backTo pos (starEach es X.env)).any (·.1) = false := by rfl) :
    PE X (.Call (.Attribute o m apos) (e :: es) [] pos) (tMethSA C m sp E ta t) := by
  refine ⟨fun pins s σ H Q I h => ?_⟩
  refine PySem.W.methodCall_KW (pl := pl) (thn (he.run pins s σ H _ I h) fun u s1 ⟨x, H1, I1, rx, a, dx, fs, ex, ea, l, q⟩ => ?_) ht
  subst ex
  obtain rfl : u = Value.ref a := rx
  refine getmeth_ok I1 ea c hm l ?_
  refine PySem.W.callWith_K (first := [.ref a]) (h₀ := X.base) I1.ok.mod.kin hm.kp (thn (ha.run pos pins s1 σ H1 _ I1 q) fun us s2 ⟨vs, H2, I2, r, q2⟩ => ⟨I2.kIn, ?_⟩) hst hpl
  exact run_fnSD (us := .ref a :: us) (vs := .ref a :: vs) (dvs := []) (ds := []) F hr hb .nil (hx σ) I2 (.cons rfl r) (by rw [List.append_nil]; exact q2)
end
section
variable {X : Cx} {CX : CXT} {k : Nat} {f C : Addr} {fd : FuncData} {ps ks : List Str} {sp : Sp} {E : XK} {m : Str} {pos apos : Pos} {o : Expr} {ta : TE} {kws : List Keyword} {tk : TA} {g : List Value → List Value → List Value} {gV : List V → List V → List V}
/-- o.m(k = v, ..) -/
def tMethK0 (C : Addr) (m : Str) (sp : Sp) (gV : List V → List V → List V) (E : XK) (ta : TE) (tk : TA) : TE := fun σ H Q => ta σ H fun x H1 => ∃ a dx fs, x = .ref a ∧ H1 a = some (.ins C dx fs) ∧ fs.lookup m = none ∧ tk σ H1 fun zs H2 => sp (gV [x] zs) H2 Q E
theorem pe_methK0 {pl : Sem Bool} (he : PE X o ta) (c : Cls X.K C) (hm : Meth X.K C m f) (F : FnOk X.prog X.w X.K X.mg X.base CX k f fd ps sp) (hr : Room k X.A) (hb : KBinds X.K fd ps ks g gV) (hx : Passes CX X E) (hkw : PK X kws tk)
    (ht : eval (.Call (.Attribute o m apos) [] kws pos) X.env = (do
      let ov ← eval o X.env
      standAt apos.atName
      let (f, first) ← holding [ov] (getMethod ov m pl)
      callWith pos f first (backTo pos (starEach [] X.env)) (backToKw pos (keywordEach kws X.env))) := by rfl)
    (hall : (backToKw pos (keywordEach kws X.env)).all (fun q => q.1.isSome) = true := by rfl) (hks : (backToKw pos (keywordEach kws X.env)).filterMap (fun q => q.1) = ks := by rfl)
    (hpl : ((backTo pos (starEach [] X.env)).any (fun q => q.1) || (backToKw pos (keywordEach kws X.env)).any (fun q => q.1.isNone)) = false := by rfl) :
    PE X (.Call (.Attribute o m apos) [] kws pos) (tMethK0 C m sp gV E ta tk) := by
  refine ⟨fun pins s σ H Q I h => ?_⟩
  refine PySem.W.methodCall_KW (pl := pl) (thn (he.run pins s σ H _ I h) fun u s1 ⟨x, H1, I1, rx, a, dx, fs, ex, ea, l, q⟩ => ?_) ht
  subst ex
  obtain rfl : u = Value.ref a := rx
  refine getmeth_ok I1 ea c hm l ?_
  refine PySem.W.callWith_KW0 (first := [.ref a]) (h₀ := X.base) I1.ok.mod.kin hm.kp hall ?_ hpl
  refine thn (hkw.run pos pins s1 σ H1 _ I1 q) fun ws s2 hz => ?_
  obtain ⟨zs, H2, I2, rz, q2⟩ := hz
  refine ⟨I2.kIn, ?_⟩
  rw [hks]
  exact run_fnk (us := [.ref a]) (vs := [.ref a]) F hr hb hx I2 (.cons rfl .nil) rz q2
end
end Jd
namespace Jd
open PySem PySem.Spec PyProof.Rows L2
/-! ### a static method, called on its class -/
/-- C.m is a static method: its record's def stands at g -/
structure SMet (K : PySem.W.Frag) (C : Addr) (m : Str) (g : Addr) : Prop where
  rd : ClX.CRead K C (.type "type")
  at_ : ∃ p rest, PySem.W.findCls K (.ref C) (.type "type") m = some (.get (.builtin "staticmethod.__get__") (.ref p) .none (.ref C)) ∧ PySem.W.recIn K p "staticmethod" = some (.ref g :: rest)
  kp : PySem.W.keepIn K (.ref g) = true
def smB (K : PySem.W.Frag) (c m : Str) : Bool := He5.wrapB K (He.ga K c) "staticmethod" "staticmethod.__get__" m && (PySem.W.readsIn K (He.ga K c) (.type "type") && PySem.W.keepIn K (.ref (He5.wf K (He.ga K c) "staticmethod" m)))
theorem smB_ok {K : PySem.W.Frag} {c m : Str} (h : smB K c m = true) : SMet K (He.ga K c) m (He5.wf K (He.ga K c) "staticmethod" m) := by
  obtain ⟨h1, h⟩ := He.ba h
  obtain ⟨h2, h3⟩ := He.ba h
  obtain ⟨k1, rest, k2⟩ := He5.wrapB_ok h1
  refine ⟨⟨h2, ?_⟩, ⟨_, rest, k1, k2⟩, h3⟩
  have h := h2
  unfold PySem.W.readsIn at h
  obtain ⟨h, _⟩ := He.ba h
  obtain ⟨h, _⟩ := He.ba h
  obtain ⟨h, h3⟩ := He.ba h
  obtain ⟨_, h2⟩ := He.ba h
  unfold PySem.W.specialIn
  rw [beq_iff_eq.mp h2, Option.bind_some]
  exact beq_iff_eq.mp h3
section
variable {X : Cx} {CX : CXT} {k : Nat} {f C : Addr} {fd : FuncData} {ps ks : List Str} {sp : Sp} {dvs : List V} {ds : List Value} {E : XK} {m : Str} {pos apos : Pos} {o e : Expr} {es : List Expr} {t : TA} {ta : TE} {kws : List Keyword} {tk : TA} {g : List Value → List Value → List Value} {gV : List V → List V → List V}
theorem getmethsm_ok {pins : List (Addr × Obj)} {σ : L2.St} {H : Hp} {s : Shared} {A : Around} {E : Value → Shared → Prop} {pl : Sem Bool} {Q : Value × List Value → Shared → Prop} (I : Inv X pins σ H s) (r : SMet X.K C m f) (h : ∀ s', Inv X pins σ H s' → Q (.ref f, []) s') :
    wpAny (model X.prog X.w) A (getMethod (.ref C) m pl) Q E s := by
  obtain ⟨p, rest, k1, k2⟩ := r.at_
  refine PySem.W.method_cls I.kIn r.rd.ga (PySem.W.cls_bind I.kIn r.rd.rd k1 ?_)
  exact wpAny_call (PySem.W.sm_get (s := { s with toks := s.toks + 1 }) I.kIn k2 (PySem.W.handed_on rfl (h _ (I.tok _))))
/-- C.m(e, ..) -/
def tSMeth (C : Addr) (sp : Sp) (dvs : List V) (E : XK) (ta : TE) (t : TA) : TE := fun σ H Q => ta σ H fun x H1 => x = .ref C ∧ t σ H1 fun vs H2 => sp (vs ++ dvs) H2 Q E
theorem pe_smeth {pl : Sem Bool} (he : PE X o ta) (r : SMet X.K C m f) (F : FnOk X.prog X.w X.K X.mg X.base CX k f fd ps sp) (hr : Room k X.A) (hb : Binds X.K fd ps ds) (hd : Vals dvs ds) (hx : Passes CX X E) (ha : PA X (e :: es) t)
    (hst : starEach (e :: es) X.env = (false, eval e X.env) :: starEach es X.env := by rfl) (hpl : (backTo pos (starEach es X.env)).any (·.1) = false := by rfl)
    (ht : eval (.Call (.Attribute o m apos) (e :: es) [] pos) X.env = (do
      let ov ← eval o X.env
      standAt apos.atName
      let (f, first) ← holding [ov] (getMethod ov m pl)
      callWith pos f first (backTo pos (starEach (e :: es) X.env)) (backToKw pos (keywordEach [] X.env))) := by rfl) :
    PE X (.Call (.Attribute o m apos) (e :: es) [] pos) (tSMeth C sp dvs E ta t) := by
  refine ⟨fun pins s σ H Q I h => ?_⟩
  refine PySem.W.methodCall_KW (pl := pl) (thn (he.run pins s σ H _ I h) fun u s1 ⟨x, H1, I1, rx, ex, q⟩ => ?_) ht
  subst ex
  obtain rfl : u = Value.ref C := rx
  refine getmethsm_ok I1 r fun s2 I2 => ?_
  refine PySem.W.callWith_K (h₀ := X.base) I2.ok.mod.kin r.kp (thn (ha.run pos pins s2 σ H1 _ I2 q) fun us s3 ⟨vs, H2, I3, rv, q2⟩ => ⟨I3.kIn, ?_⟩) hst hpl
  exact run_fn F hr hb hd hx I3 rv q2
/-- C.m(k = v, ..) -/
def tSMethK0 (C : Addr) (sp : Sp) (gV : List V → List V → List V) (E : XK) (ta : TE) (tk : TA) : TE := fun σ H Q => ta σ H fun x H1 => x = .ref C ∧ tk σ H1 fun zs H2 => sp (gV [] zs) H2 Q E
theorem pe_smethK0 {pl : Sem Bool} (he : PE X o ta) (r : SMet X.K C m f) (F : FnOk X.prog X.w X.K X.mg X.base CX k f fd ps sp) (hr : Room k X.A) (hb : KBinds X.K fd ps ks g gV) (hx : Passes CX X E) (hkw : PK X kws tk)
    (ht : eval (.Call (.Attribute o m apos) [] kws pos) X.env = (do
      let ov ← eval o X.env
      standAt apos.atName
      let (f, first) ← holding [ov] (getMethod ov m pl)
      callWith pos f first (backTo pos (starEach [] X.env)) (backToKw pos (keywordEach kws X.env))) := by rfl)
    (hall : (backToKw pos (keywordEach kws X.env)).all (fun q => q.1.isSome) = true := by rfl) (hks : (backToKw pos (keywordEach kws X.env)).filterMap (fun q => q.1) = ks := by rfl)
    (hpl : ((backTo pos (starEach [] X.env)).any (fun q => q.1) || (backToKw pos (keywordEach kws X.env)).any (fun q => q.1.isNone)) = false := by rfl) :
    PE X (.Call (.Attribute o m apos) [] kws pos) (tSMethK0 C sp gV E ta tk) := by
  refine ⟨fun pins s σ H Q I h => ?_⟩
  refine PySem.W.methodCall_KW (pl := pl) (thn (he.run pins s σ H _ I h) fun u s1 ⟨x, H1, I1, rx, ex, q⟩ => ?_) ht
  subst ex
  obtain rfl : u = Value.ref C := rx
  refine getmethsm_ok I1 r fun s2 I2 => ?_
  refine PySem.W.callWith_KW0 (h₀ := X.base) I2.ok.mod.kin r.kp hall ?_ hpl
  refine thn (hkw.run pos pins s2 σ H1 _ I2 q) fun ws s3 hz => ?_
  obtain ⟨zs, H2, I3, rz, q2⟩ := hz
  refine ⟨I3.kIn, ?_⟩
  rw [hks]
  exact run_fnk (us := []) (vs := []) F hr hb hx I3 .nil rz q2
end
end Jd
namespace Jd
open PySem PySem.Spec PyProof.Rows L2
def top (i : Nat) : Stmt := PySem.Challenge.pw_keyspans_k03_whole_telling_is_an_order.main.body.getD i (.Pass ⟨0, 0, 0, 0⟩)
abbrev s_is_name : Stmt := top 6
abbrev s_words_of : Stmt := top 7
abbrev s_Keys___init__ : Stmt := inClass (top 8) 0
abbrev s_Keys_p_names : Stmt := inClass (top 8) 1
abbrev s_Keys_p_pairs : Stmt := inClass (top 8) 2
abbrev s_Keys_p_text : Stmt := inClass (top 8) 3
abbrev s_Keys_tells : Stmt := inClass (top 8) 4
abbrev s_Keys_told : Stmt := inClass (top 8) 5
abbrev s_Keys__check : Stmt := inClass (top 8) 6
abbrev s_Keys___contains__ : Stmt := inClass (top 8) 7
abbrev s_Keys___len__ : Stmt := inClass (top 8) 8
abbrev s_Keys___eq__ : Stmt := inClass (top 8) 9
abbrev s_Keys_s_of : Stmt := inClass (top 8) 10
abbrev s__stated : Stmt := top 9
abbrev s__all_told : Stmt := top 10
abbrev s_NoName___init__ : Stmt := inClass (top 1) 0
abbrev s_BadLine___init__ : Stmt := inClass (top 3) 0
abbrev s_Ringed___init__ : Stmt := inClass (top 4) 0
abbrev s__law_box : Stmt := top 12
abbrev s__law_take : Stmt := top 13
abbrev s__law_cells : Stmt := top 14
abbrev s__law_of : Stmt := top 15
abbrev s__law_same : Stmt := top 16
abbrev s__law_mixed : Stmt := top 17
abbrev s__law_book : Stmt := top 18
abbrev s__law_more : Stmt := top 19
abbrev s__law_order_right : Stmt := top 20
abbrev s__law_ring_right : Stmt := top 21
abbrev s__law_by_hand_right : Stmt := top 22
abbrev s__law_right : Stmt := top 23
abbrev s_law : Stmt := top 24
end Jd
namespace Jd
open PySem PySem.Spec PyProof.Rows L2
/-! ### facts of the written part that the house's own list does not hold -/
/-- the getter of a property -/
def propG (K : PySem.W.Frag) (c m : Str) : Addr := match PySem.W.recIn K (He.ma K (He.ga K c) m) "property" with
  | some (.ref g :: _) => g
  | _ => 0
def propB (K : PySem.W.Frag) (c m : Str) : Bool :=
  He.eqO (PySem.W.findIn K (.ref (He.ga K c)) m) (some (some (.ref (He.ma K (He.ga K c) m)))) && (He.eqO (PySem.W.specialIn K (.ref (He.ma K (He.ga K c) m)) "__get__") (some (some (.builtin "property.__get__"))) &&
    (decide (PySem.W.takesIn K (.ref (He.ma K (He.ga K c) m)) = some true) && (match PySem.W.recIn K (He.ma K (He.ga K c) m) "property" with
      | some (.ref _ :: _) => true
      | _ => false)))
theorem propB_ok {K : PySem.W.Frag} {c m : Str} (h : propB K c m = true) : PropOf K (He.ga K c) m (He.ma K (He.ga K c) m) (propG K c m) := by
  obtain ⟨c1, h⟩ := He.ba h
  obtain ⟨c2, h⟩ := He.ba h
  obtain ⟨c3, c4⟩ := He.ba h
  refine ⟨He.eqO_ok c1, He.eqO_ok c2, of_decide_eq_true c3, ?_⟩
  unfold propG
  cases e : PySem.W.recIn K (He.ma K (He.ga K c) m) "property" with
  | none =>
    rw [e] at c4
    cases c4
  | some l =>
    rw [e] at c4
    cases l with
    | nil => cases c4
    | cons v r =>
      cases v with
      | ref g => exact ⟨r, rfl⟩
      | _ => cases c4
/-- a name of the module that holds a built-in function -/
def blB (K : PySem.W.Frag) (x : Str) (id : String) : Bool := He.eqO (PySem.W.nsIn K mainGlobals x) (some (some (.builtin id)))
theorem blB_ok {K : PySem.W.Frag} {h : Heap} {mg : Str → Option Value} (X : K.In h) (G : h.Ns mainGlobals mg) {x : Str} {id : String} (c : blB K x id = true) : mg x = some (.builtin id) := PySem.W.mg_of X G (He.eqO_ok c)
/-- an exception class over ValueError with an __init__ of its own -/
def oexB (K : PySem.W.Frag) (c : Str) : Bool :=
  (match K.lookup (He.ga K c) with
    | some ⟨.type n, _, .cls cd, sl⟩ => decide (n = "type") && ((match cd.mro, sl.toList with
      | .ref C' :: bm, [_, _, _, _, some (.builtin n), _] => decide (C' = He.ga K c) && (decide (n = "ValueError.__new__") && PySem.HandSPX.refsVE bm)
      | _, _ => false) && (cd.hasDict && !cd.hasDel))
    | _ => false) && (He.eqO (PySem.W.findIn K (.ref (He.ga K c)) "__setattr__") (some (some (.builtin "object.__setattr__"))) &&
  (decide (PySem.W.subIn K (.ref (He.ga K c)) (.type "BaseException") = some true) && (decide (PySem.W.typeIn K (.ref (He.ga K c)) = some (.type "type")) && (PySem.W.keepIn K (.ref (He.ga K c)) &&
  (He.eqO (PySem.W.findIn K (.ref (He.ga K c)) "__init__") (some (some (.ref (He.ma K (He.ga K c) "__init__")))) && decide (PySem.W.typeIn K (.ref (He.ma K (He.ga K c) "__init__")) = some (.type "function")))))))
theorem oexB_ok {K : PySem.W.Frag} {c : Str} (h : oexB K c = true) : OexC K (He.ga K c) ∧ PySem.W.findIn K (.ref (He.ga K c)) "__init__" = some (some (.ref (He.ma K (He.ga K c) "__init__"))) ∧
    PySem.W.typeIn K (.ref (He.ma K (He.ga K c) "__init__")) = some (.type "function") := by
  obtain ⟨c1, h⟩ := He.ba h
  obtain ⟨c2, h⟩ := He.ba h
  obtain ⟨c3, h⟩ := He.ba h
  obtain ⟨c4, h⟩ := He.ba h
  obtain ⟨c5, h⟩ := He.ba h
  obtain ⟨c6, c7⟩ := He.ba h
  refine ⟨⟨?_, He.eqO_ok c2, of_decide_eq_true c3, of_decide_eq_true c4, c5⟩, He.eqO_ok c6, of_decide_eq_true c7⟩
  split at c1
  · rename_i n dd cd sl ho
    obtain ⟨b1, c1⟩ := He.ba c1
    obtain ⟨b2, b3⟩ := He.ba c1
    obtain ⟨b4, b5⟩ := He.ba b3
    have en : n = "type" := of_decide_eq_true b1
    split at b2
    · rename_i C' bm k0 k1 k2 k3 n' k5 hm hs
      obtain ⟨b6, b2⟩ := He.ba b2
      obtain ⟨b7, b8⟩ := He.ba b2
      have e1 : C' = He.ga K c := of_decide_eq_true b6
      have e2 : n' = "ValueError.__new__" := of_decide_eq_true b7
      subst e2
      subst en
      obtain ⟨nm, bs, mro, ns, qn, hd, sn, sub, ab, col, del⟩ := cd
      dsimp only at hm b4 b5
      rw [e1] at hm
      have ed : del = false := by simpa using b5
      subst b4
      subst ed
      have hsl : sl = #[k0, k1, k2, k3, some (.builtin "ValueError.__new__"), k5] := by
        obtain ⟨l⟩ := sl
        simp only at hs
        rw [hs]
      subst hsl
      subst hm
      exact ⟨nm, qn, ns, bs, bm, sn, sub, ab, col, dd, k0, k1, k2, k3, k5, ho, b8⟩
    · cases b2
  · cases c1
/-- an exception class over LookupError with an __init__ of its own -/
def lexB (K : PySem.W.Frag) (c : Str) : Bool :=
  (match K.lookup (He.ga K c) with
    | some ⟨.type n, _, .cls cd, sl⟩ => decide (n = "type") && ((match cd.mro, sl.toList with
      | [.ref C', .type b1, .type b2, .type b3, .type b4], [_, _, _, _, some (.builtin n), _] => decide (C' = He.ga K c) && (decide (n = "LookupError.__new__") && (decide (b1 = "LookupError") && (decide (b2 = "Exception") && (decide (b3 = "BaseException") && decide (b4 = "object")))))
      | _, _ => false) && (cd.hasDict && !cd.hasDel))
    | _ => false) && (He.eqO (PySem.W.findIn K (.ref (He.ga K c)) "__setattr__") (some (some (.builtin "object.__setattr__"))) &&
  (decide (PySem.W.subIn K (.ref (He.ga K c)) (.type "BaseException") = some true) && (decide (PySem.W.typeIn K (.ref (He.ga K c)) = some (.type "type")) && (PySem.W.keepIn K (.ref (He.ga K c)) &&
  (He.eqO (PySem.W.findIn K (.ref (He.ga K c)) "__init__") (some (some (.ref (He.ma K (He.ga K c) "__init__")))) && decide (PySem.W.typeIn K (.ref (He.ma K (He.ga K c) "__init__")) = some (.type "function")))))))
theorem lexB_ok {K : PySem.W.Frag} {c : Str} (h : lexB K c = true) : LexC K (He.ga K c) ∧ PySem.W.findIn K (.ref (He.ga K c)) "__init__" = some (some (.ref (He.ma K (He.ga K c) "__init__"))) ∧
    PySem.W.typeIn K (.ref (He.ma K (He.ga K c) "__init__")) = some (.type "function") := by
  obtain ⟨c1, h⟩ := He.ba h
  obtain ⟨c2, h⟩ := He.ba h
  obtain ⟨c3, h⟩ := He.ba h
  obtain ⟨c4, h⟩ := He.ba h
  obtain ⟨c5, h⟩ := He.ba h
  obtain ⟨c6, c7⟩ := He.ba h
  refine ⟨⟨?_, He.eqO_ok c2, of_decide_eq_true c3, of_decide_eq_true c4, c5⟩, He.eqO_ok c6, of_decide_eq_true c7⟩
  split at c1
  · rename_i n dd cd sl ho
    obtain ⟨b1, c1⟩ := He.ba c1
    obtain ⟨b2, b3⟩ := He.ba c1
    obtain ⟨b4, b5⟩ := He.ba b3
    have en : n = "type" := of_decide_eq_true b1
    split at b2
    · rename_i C' m1 m2 m3 m4 k0 k1 k2 k3 n' k5 hm hs
      obtain ⟨b6, b2⟩ := He.ba b2
      obtain ⟨b7, b2⟩ := He.ba b2
      obtain ⟨b8, b2⟩ := He.ba b2
      obtain ⟨b9, b2⟩ := He.ba b2
      obtain ⟨b10, b11⟩ := He.ba b2
      have e1 : C' = He.ga K c := of_decide_eq_true b6
      have e2 : n' = "LookupError.__new__" := of_decide_eq_true b7
      have e3 : m1 = "LookupError" := of_decide_eq_true b8
      have e4 : m2 = "Exception" := of_decide_eq_true b9
      have e5 : m3 = "BaseException" := of_decide_eq_true b10
      have e6 : m4 = "object" := of_decide_eq_true b11
      subst e2
      subst en
      subst e3
      subst e4
      subst e5
      subst e6
      obtain ⟨nm, bs, mro, ns, qn, hd, sn, sub, ab, col, del⟩ := cd
      dsimp only at hm b4 b5
      rw [e1] at hm
      have ed : del = false := by simpa using b5
      subst b4
      subst ed
      have hsl : sl = #[k0, k1, k2, k3, some (.builtin "LookupError.__new__"), k5] := by
        obtain ⟨l⟩ := sl
        simp only at hs
        rw [hs]
      subst hsl
      subst hm
      exact ⟨nm, qn, ns, bs, sn, sub, ab, col, dd, k0, k1, k2, k3, k5, ho⟩
    · cases b2
  · cases c1
/-- a special method of an own class, a def -/
def eqsB (K : PySem.W.Frag) (c m : Str) : Bool := He.eqO (PySem.W.findIn K (.ref (He.ga K c)) m) (some (some (.ref (He.ma K (He.ga K c) m)))) && PySem.W.isFn K (.ref (He.ma K (He.ga K c) m))
theorem eqsB_ok {K : PySem.W.Frag} {c m : Str} (h : eqsB K c m = true) : PySem.W.findIn K (.ref (He.ga K c)) m = some (some (.ref (He.ma K (He.ga K c) m))) ∧ PySem.W.isFn K (.ref (He.ma K (He.ga K c) m)) = true := by
  obtain ⟨c1, c2⟩ := He.ba h
  exact ⟨He.eqO_ok c1, c2⟩
/-- the i-th default of a def, if it is an object -/
def dflA (f : PySem.W.Frag → Addr) (i : Nat) (K : PySem.W.Frag) : Addr := match K.lookup (f K) with
  | some ⟨_, _, .func fd, _⟩ => (match fd.defaults with
    | .ref T => (match K.lookup T with
      | some ⟨_, _, .seq its _, _⟩ => (match its.toList[i]? with
        | some (.ref a) => a
        | _ => 0)
      | _ => 0)
    | _ => 0)
  | _ => 0
/-- what isinstance asks of an instance's class -/
def tyB (K : PySem.W.Frag) (C : Addr) : Bool := He.eqO (PySem.W.findIn K (.ref C) "__class__") (some (some (.builtin "object.__class__"))) && (He.eqO (PySem.W.specialIn K (.builtin "object.__class__") "__get__") (some (some (.builtin "getset_descriptor.__get__"))) &&
  (decide (PySem.W.takesIn K (.builtin "object.__class__") = some true) && decide (PySem.W.mroIn K C (.type "object") = some true)))
theorem tyB_ok {K : PySem.W.Frag} {C : Addr} (h : tyB K C = true) : PySem.W.findIn K (.ref C) "__class__" = some (some (.builtin "object.__class__")) ∧ PySem.W.specialIn K (.builtin "object.__class__") "__get__" = some (some (.builtin "getset_descriptor.__get__")) ∧
    PySem.W.takesIn K (.builtin "object.__class__") = some true ∧ PySem.W.mroIn K C (.type "object") = some true := by
  obtain ⟨c1, h⟩ := He.ba h
  obtain ⟨c2, h⟩ := He.ba h
  obtain ⟨c3, c4⟩ := He.ba h
  exact ⟨He.eqO_ok c1, He.eqO_ok c2, of_decide_eq_true c3, of_decide_eq_true c4⟩
/-- an empty tuple of the written part -/
def tup0B (K : PySem.W.Frag) (a : Addr) : Bool := match K.lookup a with
  | some ⟨.type c, _, .seq its _, _⟩ => decide (c = "tuple") && its.isEmpty
  | _ => false
theorem tup0B_ok {K : PySem.W.Frag} {a : Addr} (h : tup0B K a = true) (H : Hp) : SqT K H a [] := by
  unfold tup0B at h
  cases q : K.lookup a with
  | none =>
    rw [q] at h
    cases h
  | some o =>
    obtain ⟨oc, od, dt, osl⟩ := o
    rw [q] at h
    cases oc with
    | type c =>
      cases dt with
      | seq its n =>
        obtain ⟨h1, h2⟩ := He.ba (show (decide (c = "tuple") && its.isEmpty) = true from h)
        have e : its = #[] := Array.isEmpty_iff.mp h2
        subst e
        exact .inr ⟨_, #[], n, q, congrArg Value.type (of_decide_eq_true h1), rfl, Nat.zero_le _, .nil⟩
      | _ => cases h
    | _ => cases dt <;> cases h
/-- what isinstance and a field's reading ask of an error's class -/
def xcB (K : PySem.W.Frag) (D : Addr) : Bool :=
  He.eqO (PySem.W.findIn K (.ref D) "__getattribute__") (some (some (.builtin "BaseException.__getattribute__"))) && (He.eqO (PySem.W.findIn K (.ref D) "__getattr__") (some none) && (decide (PySem.W.subIn K (.ref D) (.type "BaseException") = some true) && (PySem.W.hasDictIn K D &&
  (He.eqO (PySem.W.findIn K (.ref D) "__class__") (some (some (.builtin "object.__class__"))) && (He.eqO (PySem.W.specialIn K (.builtin "object.__class__") "__get__") (some (some (.builtin "getset_descriptor.__get__"))) &&
  (decide (PySem.W.takesIn K (.builtin "object.__class__") = some true) && decide (PySem.W.mroIn K D (.type "object") = some true)))))))
theorem xcB_ok {K : PySem.W.Frag} {D : Addr} (h : xcB K D = true) : ExcC K D := by
  obtain ⟨c1, h⟩ := He.ba h
  obtain ⟨c2, h⟩ := He.ba h
  obtain ⟨c3, h⟩ := He.ba h
  obtain ⟨c4, h⟩ := He.ba h
  obtain ⟨c5, h⟩ := He.ba h
  obtain ⟨c6, h⟩ := He.ba h
  obtain ⟨c7, c8⟩ := He.ba h
  exact ⟨He.eqO_ok c1, He.eqO_ok c2, of_decide_eq_true c3, c4, He.eqO_ok c5, He.eqO_ok c6, of_decide_eq_true c7, of_decide_eq_true c8⟩
/-! ### the Hook -/
abbrev AlJ : Type := Bool × List He5.FnW
def obsJ (fa : List He.Fa) (fn : List He5.DefA) (ex : PySem.W.Frag → Bool) (K : PySem.W.Frag) : AlJ := (((fa.all fun f => f.ok K) && fn.all fun d => d.ok K) && ex K, fn.map fun d => He5.fnA K (d.at_ K))
def valJ (fn : List He5.DefA) : AlJ := (true, fn.map He5.DefA.val)
def SaysJ (fa : List He.Fa) (fn : List He5.DefA) (ex : PySem.W.Frag → Bool) (K : PySem.W.Frag) : Prop := obsJ fa fn ex K = valJ fn
def obsJG (n : Nat) (fa : List He.Fa) (fn : List He5.DefA) (ex : PySem.W.Frag → Bool) (g : Addr → Option Obj) : AlJ := obsJ fa fn ex (He.frG g (He5.asA g n))
def hookJ (n : Nat) (fa : List He.Fa) (fn : List He5.DefA) (ex : PySem.W.Frag → Bool) : PySem.W.Hook where
  α := AlJ
  obs := fun s => obsJG n fa fn ex s.heap.get?
  val := fun _ => valJ fn
  says := fun _ h => ∃ K : PySem.W.Frag, K.In h ∧ SaysJ fa fn ex K
  of := fun _ _ e => ⟨_, He.frG_in, e⟩
  keeps := fun _ _ _ ⟨K, inK, c⟩ k => ⟨K, PySem.W.Frag.In.keeps inK k, c⟩
theorem obsJG_eq {n : Nat} {fa : List He.Fa} {fn : List He5.DefA} {ex : PySem.W.Frag → Bool} {g : Addr → Option Obj} {s : Shared} (h : ∀ a, g a = s.heap.get? a) : obsJG n fa fn ex g = (hookJ n fa fn ex).obs s := by
  obtain rfl : g = s.heap.get? := funext h
  rfl
section
variable {fa : List He.Fa} {fn : List He5.DefA} {ex : PySem.W.Frag → Bool} {K : PySem.W.Frag}
theorem SaysJ.b (c : SaysJ fa fn ex K) : ((fa.all fun f => f.ok K) = true ∧ (fn.all fun d => d.ok K) = true) ∧ ex K = true := by
  obtain ⟨c1, c2⟩ := He.ba (show (((fa.all fun f => f.ok K) && fn.all fun d => d.ok K) && ex K) = true from congrArg (fun z : AlJ => z.1) c)
  exact ⟨He.ba c1, c2⟩
theorem SaysJ.fact (c : SaysJ fa fn ex K) {f : He.Fa} (h : f ∈ fa) : f.ok K = true := List.all_eq_true.mp c.b.1.1 f h
theorem SaysJ.def_ (c : SaysJ fa fn ex K) {d : He5.DefA} (h : d ∈ fn) : ∃ fd, L2.FunD K d.name d.qual d.params d.body d.scope (d.dvs K) (d.kws K) (d.at_ K) fd := by
  have e : fn.map (fun d => He5.fnA K (d.at_ K)) = fn.map He5.DefA.val := congrArg (fun z : AlJ => z.2) c
  obtain ⟨i, hi, q⟩ := List.mem_iff_getElem.mp h
  have e2 : (fn.map fun d => He5.fnA K (d.at_ K))[i]? = (fn.map He5.DefA.val)[i]? := by rw [e]
  rw [List.getElem?_map, List.getElem?_map, List.getElem?_eq_getElem hi, q] at e2
  exact He5.DefA.funD (Option.some.inj e2) (List.all_eq_true.mp c.b.1.2 d h)
end
/-! ### the head -/
def d_is_name : He5.DefA := ⟨(fun K => He.ga K "is_name"), "is_name", "is_name", defArgs s_is_name, defBody s_is_name, defScope s_is_name, [], []⟩
def d_words_of : He5.DefA := ⟨(fun K => He.ga K "words_of"), "words_of", "words_of", defArgs s_words_of, defBody s_words_of, defScope s_words_of, [], []⟩
def d_Keys___init__ : He5.DefA := ⟨(fun K => He.ma K (He.ga K "Keys") "__init__"), "__init__", "Keys.__init__", defArgs s_Keys___init__, defBody s_Keys___init__, defScope s_Keys___init__, [.adr (dflA (fun K => He.ma K (He.ga K "Keys") "__init__") 0)], []⟩
def d_Keys_p_names : He5.DefA := ⟨(fun K => propG K "Keys" "names"), "names", "Keys.names", defArgs s_Keys_p_names, defBody s_Keys_p_names, defScope s_Keys_p_names, [], []⟩
def d_Keys_p_pairs : He5.DefA := ⟨(fun K => propG K "Keys" "pairs"), "pairs", "Keys.pairs", defArgs s_Keys_p_pairs, defBody s_Keys_p_pairs, defScope s_Keys_p_pairs, [], []⟩
def d_Keys_p_text : He5.DefA := ⟨(fun K => propG K "Keys" "text"), "text", "Keys.text", defArgs s_Keys_p_text, defBody s_Keys_p_text, defScope s_Keys_p_text, [], []⟩
def d_Keys_tells : He5.DefA := ⟨(fun K => He.ma K (He.ga K "Keys") "tells"), "tells", "Keys.tells", defArgs s_Keys_tells, defBody s_Keys_tells, defScope s_Keys_tells, [], []⟩
def d_Keys_told : He5.DefA := ⟨(fun K => He.ma K (He.ga K "Keys") "told"), "told", "Keys.told", defArgs s_Keys_told, defBody s_Keys_told, defScope s_Keys_told, [], []⟩
def d_Keys__check : He5.DefA := ⟨(fun K => He.ma K (He.ga K "Keys") "_check"), "_check", "Keys._check", defArgs s_Keys__check, defBody s_Keys__check, defScope s_Keys__check, [], []⟩
def d_Keys___contains__ : He5.DefA := ⟨(fun K => He.ma K (He.ga K "Keys") "__contains__"), "__contains__", "Keys.__contains__", defArgs s_Keys___contains__, defBody s_Keys___contains__, defScope s_Keys___contains__, [], []⟩
def d_Keys___len__ : He5.DefA := ⟨(fun K => He.ma K (He.ga K "Keys") "__len__"), "__len__", "Keys.__len__", defArgs s_Keys___len__, defBody s_Keys___len__, defScope s_Keys___len__, [], []⟩
def d_Keys___eq__ : He5.DefA := ⟨(fun K => He.ma K (He.ga K "Keys") "__eq__"), "__eq__", "Keys.__eq__", defArgs s_Keys___eq__, defBody s_Keys___eq__, defScope s_Keys___eq__, [], []⟩
def d_Keys_s_of : He5.DefA := ⟨(fun K => He5.wf K (He.ga K "Keys") "staticmethod" "of"), "of", "Keys.of", defArgs s_Keys_s_of, defBody s_Keys_s_of, defScope s_Keys_s_of, [], []⟩
def d__stated : He5.DefA := ⟨(fun K => He.ga K "_stated"), "_stated", "_stated", defArgs s__stated, defBody s__stated, defScope s__stated, [], []⟩
def d__all_told : He5.DefA := ⟨(fun K => He.ga K "_all_told"), "_all_told", "_all_told", defArgs s__all_told, defBody s__all_told, defScope s__all_told, [], []⟩
def d_NoName___init__ : He5.DefA := ⟨(fun K => He.ma K (He.ga K "NoName") "__init__"), "__init__", "NoName.__init__", defArgs s_NoName___init__, defBody s_NoName___init__, defScope s_NoName___init__, [], []⟩
def d_BadLine___init__ : He5.DefA := ⟨(fun K => He.ma K (He.ga K "BadLine") "__init__"), "__init__", "BadLine.__init__", defArgs s_BadLine___init__, defBody s_BadLine___init__, defScope s_BadLine___init__, [], []⟩
def d_Ringed___init__ : He5.DefA := ⟨(fun K => He.ma K (He.ga K "Ringed") "__init__"), "__init__", "Ringed.__init__", defArgs s_Ringed___init__, defBody s_Ringed___init__, defScope s_Ringed___init__, [], []⟩
def d__law_box : He5.DefA := ⟨(fun K => He.ga K "_law_box"), "_law_box", "_law_box", defArgs s__law_box, defBody s__law_box, defScope s__law_box, [], []⟩
def d__law_take : He5.DefA := ⟨(fun K => He.ga K "_law_take"), "_law_take", "_law_take", defArgs s__law_take, defBody s__law_take, defScope s__law_take, [], []⟩
def d__law_cells : He5.DefA := ⟨(fun K => He.ga K "_law_cells"), "_law_cells", "_law_cells", defArgs s__law_cells, defBody s__law_cells, defScope s__law_cells, [], []⟩
def d__law_of : He5.DefA := ⟨(fun K => He.ga K "_law_of"), "_law_of", "_law_of", defArgs s__law_of, defBody s__law_of, defScope s__law_of, [], []⟩
def d__law_same : He5.DefA := ⟨(fun K => He.ga K "_law_same"), "_law_same", "_law_same", defArgs s__law_same, defBody s__law_same, defScope s__law_same, [], []⟩
def d__law_mixed : He5.DefA := ⟨(fun K => He.ga K "_law_mixed"), "_law_mixed", "_law_mixed", defArgs s__law_mixed, defBody s__law_mixed, defScope s__law_mixed, [], []⟩
def d__law_book : He5.DefA := ⟨(fun K => He.ga K "_law_book"), "_law_book", "_law_book", defArgs s__law_book, defBody s__law_book, defScope s__law_book, [], []⟩
def d__law_more : He5.DefA := ⟨(fun K => He.ga K "_law_more"), "_law_more", "_law_more", defArgs s__law_more, defBody s__law_more, defScope s__law_more, [], []⟩
def d__law_order_right : He5.DefA := ⟨(fun K => He.ga K "_law_order_right"), "_law_order_right", "_law_order_right", defArgs s__law_order_right, defBody s__law_order_right, defScope s__law_order_right, [], []⟩
def d__law_ring_right : He5.DefA := ⟨(fun K => He.ga K "_law_ring_right"), "_law_ring_right", "_law_ring_right", defArgs s__law_ring_right, defBody s__law_ring_right, defScope s__law_ring_right, [], []⟩
def d__law_by_hand_right : He5.DefA := ⟨(fun K => He.ga K "_law_by_hand_right"), "_law_by_hand_right", "_law_by_hand_right", defArgs s__law_by_hand_right, defBody s__law_by_hand_right, defScope s__law_by_hand_right, [], []⟩
def d__law_right : He5.DefA := ⟨(fun K => He.ga K "_law_right"), "_law_right", "_law_right", defArgs s__law_right, defBody s__law_right, defScope s__law_right, [], []⟩
def d_law : He5.DefA := ⟨(fun K => He.ga K "law"), "law", "law", defArgs s_law, defBody s_law, defScope s_law, [], []⟩
def fn : List He5.DefA := [d_is_name, d_words_of, d_Keys___init__, d_Keys_p_names, d_Keys_p_pairs, d_Keys_p_text, d_Keys_tells, d_Keys_told, d_Keys__check, d_Keys___contains__, d_Keys___len__, d_Keys___eq__, d_Keys_s_of, d__stated, d__all_told, d_NoName___init__, d_BadLine___init__, d_Ringed___init__, d__law_box, d__law_take, d__law_cells, d__law_of, d__law_same, d__law_mixed, d__law_book, d__law_more, d__law_order_right, d__law_ring_right, d__law_by_hand_right, d__law_right, d_law]
def fa1 : List He.Fa := [.glo "is_name", .glo "words_of", .glo "_stated", .glo "_all_told", .glo "_law_box", .glo "_law_take", .glo "_law_cells", .glo "_law_of", .glo "_law_same", .glo "_law_mixed", .glo "_law_book", .glo "_law_more", .glo "_law_order_right", .glo "_law_ring_right", .glo "_law_by_hand_right", .glo "_law_right", .glo "law", .glo "NoName", .glo "BadField", .glo "BadLine", .glo "Ringed", .glo "Keys", .free "len", .free "isinstance", .free "all", .free "sorted", .free "set", .free "tuple", .free "list", .free "range"]
def fa2 : List He.Fa := [.free "int", .free "str", .free "abs", .free "zip", .free "enumerate", .free "divmod", .free "LookupError", .free "ValueError", .free "bool", .free "dict", .free "sum", .cls "Keys", .mkr "Keys", .noat "Keys" "_names", .noat "Keys" "_told", .meth "Keys" "tells", .meth "Keys" "told", .meth "Keys" "_check"]
def fa3 : List He.Fa := []
def fa : List He.Fa := fa1 ++ (fa2 ++ fa3)
def exs0 : List (PySem.W.Frag → Bool) := [fun K => oexB K "BadField", fun K => oexB K "BadLine", fun K => oexB K "Ringed", fun K => lexB K "NoName", fun K => He.eqO (PySem.W.nsIn K mainGlobals "NotImplemented") (some none), fun K => eqsB K "Keys" "__contains__", fun K => eqsB K "Keys" "__len__", fun K => eqsB K "Keys" "__eq__", fun K => He.eqO (PySem.W.findIn K (.ref (He.ga K "Keys")) "__ne__") (some (some (.builtin "object.__ne__"))), fun K => propB K "Keys" "names", fun K => propB K "Keys" "pairs", fun K => propB K "Keys" "text", fun K => smB K "Keys" "of", fun K => xcB K (He.ga K "NoName"), fun K => decide (PySem.W.kitOne K (.ref (He.ga K "NoName")) (.type "LookupError") = some true), fun K => He.eqO (PySem.W.findIn K (.ref (He.ga K "NoName")) "name") (some none), fun K => xcB K (He.ga K "BadField"), fun K => decide (PySem.W.kitOne K (.ref (He.ga K "BadField")) (.type "ValueError") = some true), fun K => He.eqO (PySem.W.findIn K (.ref (He.ga K "BadField")) "field") (some none), fun K => xcB K (He.ga K "BadLine")]
def exs1 : List (PySem.W.Frag → Bool) := [fun K => decide (PySem.W.kitOne K (.ref (He.ga K "BadLine")) (.type "ValueError") = some true), fun K => He.eqO (PySem.W.findIn K (.ref (He.ga K "BadLine")) "number") (some none), fun K => xcB K (He.ga K "Ringed"), fun K => decide (PySem.W.kitOne K (.ref (He.ga K "Ringed")) (.type "ValueError") = some true), fun K => He.eqO (PySem.W.findIn K (.ref (He.ga K "Ringed")) "ring") (some none), fun K => decide (PySem.W.kitOne K (.ref (He.ga K "Keys")) (.type "str") = some false), fun K => decide (PySem.W.kitOne K (.ref (He.ga K "Keys")) (.type "list") = some false), fun K => decide (PySem.W.kitOne K (.ref (He.ga K "Keys")) (.type "tuple") = some false), fun K => decide (PySem.W.kitOne K (.ref (He.ga K "Keys")) (.type "bool") = some false), fun K => decide (PySem.W.kitOne K (.ref (He.ga K "Keys")) (.type "int") = some false), fun K => decide (PySem.W.kitOne K (.ref (He.ga K "Keys")) (.ref (He.ga K "Keys")) = some true), fun K => PySem.W.notFirst K (He.ga K "Keys") (.type "tuple"), fun K => decide (PySem.W.kitOne K (.type "tuple") (.ref (He.ga K "Keys")) = some false), fun K => PySem.W.notFirst K (He.ga K "Keys") (.type "list"), fun K => decide (PySem.W.kitOne K (.type "list") (.ref (He.ga K "Keys")) = some false), fun K => tyB K (He.ga K "Keys"), fun K => tup0B K (dflA (fun K => He.ma K (He.ga K "Keys") "__init__") 0 K), fun K => decide (PySem.W.exmOne K (.ref (He.ga K "NoName")) (.ref (He.ga K "NoName")) = some true), fun K => decide (PySem.W.exmOne K (.ref (He.ga K "NoName")) (.ref (He.ga K "BadField")) = some false), fun K => decide (PySem.W.exmOne K (.ref (He.ga K "NoName")) (.ref (He.ga K "BadLine")) = some false)]
def exs2 : List (PySem.W.Frag → Bool) := [fun K => decide (PySem.W.exmOne K (.ref (He.ga K "NoName")) (.ref (He.ga K "Ringed")) = some false), fun K => decide (PySem.W.exmOne K (.ref (He.ga K "BadField")) (.ref (He.ga K "NoName")) = some false), fun K => decide (PySem.W.exmOne K (.ref (He.ga K "BadField")) (.ref (He.ga K "BadField")) = some true), fun K => decide (PySem.W.exmOne K (.ref (He.ga K "BadField")) (.ref (He.ga K "BadLine")) = some false), fun K => decide (PySem.W.exmOne K (.ref (He.ga K "BadField")) (.ref (He.ga K "Ringed")) = some false), fun K => decide (PySem.W.exmOne K (.ref (He.ga K "BadLine")) (.ref (He.ga K "NoName")) = some false), fun K => decide (PySem.W.exmOne K (.ref (He.ga K "BadLine")) (.ref (He.ga K "BadField")) = some false), fun K => decide (PySem.W.exmOne K (.ref (He.ga K "BadLine")) (.ref (He.ga K "BadLine")) = some true), fun K => decide (PySem.W.exmOne K (.ref (He.ga K "BadLine")) (.ref (He.ga K "Ringed")) = some false), fun K => decide (PySem.W.exmOne K (.ref (He.ga K "Ringed")) (.ref (He.ga K "NoName")) = some false), fun K => decide (PySem.W.exmOne K (.ref (He.ga K "Ringed")) (.ref (He.ga K "BadField")) = some false), fun K => decide (PySem.W.exmOne K (.ref (He.ga K "Ringed")) (.ref (He.ga K "BadLine")) = some false), fun K => decide (PySem.W.exmOne K (.ref (He.ga K "Ringed")) (.ref (He.ga K "Ringed")) = some true)]
def exs : List (PySem.W.Frag → Bool) := exs0 ++ (exs1 ++ (exs2))
def ex1 (K : PySem.W.Frag) : Bool := exs.all fun f => f K

abbrev R : PySem.W.OpenRow := PySem.W.OpenLaw.row PySem.Challenge.rw_keyspans_k03_whole_telling_is_an_order
abbrev qv : Program := PySem.W.view R.prog [24]
abbrev hk : PySem.W.Hook := hookJ 6 fa fn ex1
def ob (s : PySem.W.SharedT) : AlJ := obsJG 6 fa fn ex1 (HandSHeadRun.getT s)
theorem ob_eq (s : PySem.W.SharedT) : ob s = hk.obs s.abs := obsJG_eq (HandSHeadRun.getT_eq s)
def lo0 : List Str := ["NoName", "BadField", "BadLine", "Ringed", "is_name", "words_of", "Keys", "_stated", "_all_told", "_law_box", "_law_take", "_law_cells", "_law_of", "_law_same", "_law_mixed", "_law_book", "_law_more", "_law_order_right", "_law_ring_right", "_law_by_hand_right", "_law_right"]
def loose : List Str := lo0
theorem run (w : World) : HandSHeadRun.RunEq R qv hk ob 4000 loose w := by
  intro os
  kernel_rfl
end Jd
namespace Jd
open PySem PySem.Spec PyProof.Rows L2
/-- what the top has written -/
structure Bk (K : PySem.W.Frag) (mg : Str → Option Value) : Prop where
  c : SaysJ fa fn ex1 K
  h : ∃ h : Heap, K.In h ∧ h.Ns mainGlobals mg
section
variable {K : PySem.W.Frag} {mg : Str → Option Value}
theorem Bk.fact (B : Bk K mg) (i : Nat) {f : He.Fa} (h : fa[i]? = some f := by rfl) : f.ok K = true := B.c.fact (List.mem_of_getElem? h)
theorem Bk.ex (B : Bk K mg) (i : Nat) {f : PySem.W.Frag → Bool} (h : exs[i]? = some f := by rfl) : f K = true := List.all_eq_true.mp B.c.b.2 f (List.mem_of_getElem? h)
theorem Bk.fn_ (B : Bk K mg) (i : Nat) {d : He5.DefA} (h : fn[i]? = some d := by rfl) : ∃ fd, L2.FunD K d.name d.qual d.params d.body d.scope (d.dvs K) (d.kws K) (d.at_ K) fd := B.c.def_ (List.mem_of_getElem? h)

theorem Bk.g_is_name (B : Bk K mg) : mg "is_name" = some (.ref (He.ga K "is_name")) := let ⟨_, X, G⟩ := B.h; He.glo_ok X G (B.fact 0 (f := .glo "is_name"))
theorem Bk.g_words_of (B : Bk K mg) : mg "words_of" = some (.ref (He.ga K "words_of")) := let ⟨_, X, G⟩ := B.h; He.glo_ok X G (B.fact 1 (f := .glo "words_of"))
theorem Bk.g_stated (B : Bk K mg) : mg "_stated" = some (.ref (He.ga K "_stated")) := let ⟨_, X, G⟩ := B.h; He.glo_ok X G (B.fact 2 (f := .glo "_stated"))
theorem Bk.g_all_told (B : Bk K mg) : mg "_all_told" = some (.ref (He.ga K "_all_told")) := let ⟨_, X, G⟩ := B.h; He.glo_ok X G (B.fact 3 (f := .glo "_all_told"))
theorem Bk.g_law_box (B : Bk K mg) : mg "_law_box" = some (.ref (He.ga K "_law_box")) := let ⟨_, X, G⟩ := B.h; He.glo_ok X G (B.fact 4 (f := .glo "_law_box"))
theorem Bk.g_law_take (B : Bk K mg) : mg "_law_take" = some (.ref (He.ga K "_law_take")) := let ⟨_, X, G⟩ := B.h; He.glo_ok X G (B.fact 5 (f := .glo "_law_take"))
theorem Bk.g_law_cells (B : Bk K mg) : mg "_law_cells" = some (.ref (He.ga K "_law_cells")) := let ⟨_, X, G⟩ := B.h; He.glo_ok X G (B.fact 6 (f := .glo "_law_cells"))
theorem Bk.g_law_of (B : Bk K mg) : mg "_law_of" = some (.ref (He.ga K "_law_of")) := let ⟨_, X, G⟩ := B.h; He.glo_ok X G (B.fact 7 (f := .glo "_law_of"))
theorem Bk.g_law_same (B : Bk K mg) : mg "_law_same" = some (.ref (He.ga K "_law_same")) := let ⟨_, X, G⟩ := B.h; He.glo_ok X G (B.fact 8 (f := .glo "_law_same"))
theorem Bk.g_law_mixed (B : Bk K mg) : mg "_law_mixed" = some (.ref (He.ga K "_law_mixed")) := let ⟨_, X, G⟩ := B.h; He.glo_ok X G (B.fact 9 (f := .glo "_law_mixed"))
theorem Bk.g_law_book (B : Bk K mg) : mg "_law_book" = some (.ref (He.ga K "_law_book")) := let ⟨_, X, G⟩ := B.h; He.glo_ok X G (B.fact 10 (f := .glo "_law_book"))
theorem Bk.g_law_more (B : Bk K mg) : mg "_law_more" = some (.ref (He.ga K "_law_more")) := let ⟨_, X, G⟩ := B.h; He.glo_ok X G (B.fact 11 (f := .glo "_law_more"))
theorem Bk.g_law_order_right (B : Bk K mg) : mg "_law_order_right" = some (.ref (He.ga K "_law_order_right")) := let ⟨_, X, G⟩ := B.h; He.glo_ok X G (B.fact 12 (f := .glo "_law_order_right"))
theorem Bk.g_law_ring_right (B : Bk K mg) : mg "_law_ring_right" = some (.ref (He.ga K "_law_ring_right")) := let ⟨_, X, G⟩ := B.h; He.glo_ok X G (B.fact 13 (f := .glo "_law_ring_right"))
theorem Bk.g_law_by_hand_right (B : Bk K mg) : mg "_law_by_hand_right" = some (.ref (He.ga K "_law_by_hand_right")) := let ⟨_, X, G⟩ := B.h; He.glo_ok X G (B.fact 14 (f := .glo "_law_by_hand_right"))
theorem Bk.g_law_right (B : Bk K mg) : mg "_law_right" = some (.ref (He.ga K "_law_right")) := let ⟨_, X, G⟩ := B.h; He.glo_ok X G (B.fact 15 (f := .glo "_law_right"))
theorem Bk.g_law (B : Bk K mg) : mg "law" = some (.ref (He.ga K "law")) := let ⟨_, X, G⟩ := B.h; He.glo_ok X G (B.fact 16 (f := .glo "law"))
theorem Bk.g_NoName (B : Bk K mg) : mg "NoName" = some (.ref (He.ga K "NoName")) := let ⟨_, X, G⟩ := B.h; He.glo_ok X G (B.fact 17 (f := .glo "NoName"))
theorem Bk.g_BadField (B : Bk K mg) : mg "BadField" = some (.ref (He.ga K "BadField")) := let ⟨_, X, G⟩ := B.h; He.glo_ok X G (B.fact 18 (f := .glo "BadField"))
theorem Bk.g_BadLine (B : Bk K mg) : mg "BadLine" = some (.ref (He.ga K "BadLine")) := let ⟨_, X, G⟩ := B.h; He.glo_ok X G (B.fact 19 (f := .glo "BadLine"))
theorem Bk.g_Ringed (B : Bk K mg) : mg "Ringed" = some (.ref (He.ga K "Ringed")) := let ⟨_, X, G⟩ := B.h; He.glo_ok X G (B.fact 20 (f := .glo "Ringed"))
theorem Bk.g_Keys (B : Bk K mg) : mg "Keys" = some (.ref (He.ga K "Keys")) := let ⟨_, X, G⟩ := B.h; He.glo_ok X G (B.fact 21 (f := .glo "Keys"))
theorem Bk.b_len (B : Bk K mg) : mg "len" = none := let ⟨_, X, G⟩ := B.h; He.free_ok X G (B.fact 22 (f := .free "len"))
theorem Bk.b_isinstance (B : Bk K mg) : mg "isinstance" = none := let ⟨_, X, G⟩ := B.h; He.free_ok X G (B.fact 23 (f := .free "isinstance"))
theorem Bk.b_all (B : Bk K mg) : mg "all" = none := let ⟨_, X, G⟩ := B.h; He.free_ok X G (B.fact 24 (f := .free "all"))
theorem Bk.b_sorted (B : Bk K mg) : mg "sorted" = none := let ⟨_, X, G⟩ := B.h; He.free_ok X G (B.fact 25 (f := .free "sorted"))
theorem Bk.b_set (B : Bk K mg) : mg "set" = none := let ⟨_, X, G⟩ := B.h; He.free_ok X G (B.fact 26 (f := .free "set"))
theorem Bk.b_tuple (B : Bk K mg) : mg "tuple" = none := let ⟨_, X, G⟩ := B.h; He.free_ok X G (B.fact 27 (f := .free "tuple"))
theorem Bk.b_list (B : Bk K mg) : mg "list" = none := let ⟨_, X, G⟩ := B.h; He.free_ok X G (B.fact 28 (f := .free "list"))
theorem Bk.b_range (B : Bk K mg) : mg "range" = none := let ⟨_, X, G⟩ := B.h; He.free_ok X G (B.fact 29 (f := .free "range"))
theorem Bk.b_int (B : Bk K mg) : mg "int" = none := let ⟨_, X, G⟩ := B.h; He.free_ok X G (B.fact 30 (f := .free "int"))
theorem Bk.b_str (B : Bk K mg) : mg "str" = none := let ⟨_, X, G⟩ := B.h; He.free_ok X G (B.fact 31 (f := .free "str"))
theorem Bk.b_abs (B : Bk K mg) : mg "abs" = none := let ⟨_, X, G⟩ := B.h; He.free_ok X G (B.fact 32 (f := .free "abs"))
theorem Bk.b_zip (B : Bk K mg) : mg "zip" = none := let ⟨_, X, G⟩ := B.h; He.free_ok X G (B.fact 33 (f := .free "zip"))
theorem Bk.b_enumerate (B : Bk K mg) : mg "enumerate" = none := let ⟨_, X, G⟩ := B.h; He.free_ok X G (B.fact 34 (f := .free "enumerate"))
theorem Bk.b_divmod (B : Bk K mg) : mg "divmod" = none := let ⟨_, X, G⟩ := B.h; He.free_ok X G (B.fact 35 (f := .free "divmod"))
theorem Bk.b_LookupError (B : Bk K mg) : mg "LookupError" = none := let ⟨_, X, G⟩ := B.h; He.free_ok X G (B.fact 36 (f := .free "LookupError"))
theorem Bk.b_ValueError (B : Bk K mg) : mg "ValueError" = none := let ⟨_, X, G⟩ := B.h; He.free_ok X G (B.fact 37 (f := .free "ValueError"))
theorem Bk.b_bool (B : Bk K mg) : mg "bool" = none := let ⟨_, X, G⟩ := B.h; He.free_ok X G (B.fact 38 (f := .free "bool"))
theorem Bk.b_dict (B : Bk K mg) : mg "dict" = none := let ⟨_, X, G⟩ := B.h; He.free_ok X G (B.fact 39 (f := .free "dict"))
theorem Bk.b_sum (B : Bk K mg) : mg "sum" = none := let ⟨_, X, G⟩ := B.h; He.free_ok X G (B.fact 40 (f := .free "sum"))
theorem Bk.cl_Keys (B : Bk K mg) : Cls K (He.ga K "Keys") := He.cls_ok (B.fact 41 (f := .cls "Keys"))
theorem Bk.mk_Keys (B : Bk K mg) : Mk K (He.ga K "Keys") (He.ma K (He.ga K "Keys") "__init__") := He.mkr_ok (B.fact 42 (f := .mkr "Keys"))
theorem Bk.no_Keys__names (B : Bk K mg) : NoAttr K (He.ga K "Keys") "_names" := He.noat_ok (B.fact 43 (f := .noat "Keys" "_names"))
theorem Bk.no_Keys__told (B : Bk K mg) : NoAttr K (He.ga K "Keys") "_told" := He.noat_ok (B.fact 44 (f := .noat "Keys" "_told"))
theorem Bk.me_Keys_tells (B : Bk K mg) : Meth K (He.ga K "Keys") "tells" (He.ma K (He.ga K "Keys") "tells") := He.meth_ok (B.fact 45 (f := .meth "Keys" "tells"))
theorem Bk.me_Keys_told (B : Bk K mg) : Meth K (He.ga K "Keys") "told" (He.ma K (He.ga K "Keys") "told") := He.meth_ok (B.fact 46 (f := .meth "Keys" "told"))
theorem Bk.me_Keys__check (B : Bk K mg) : Meth K (He.ga K "Keys") "_check" (He.ma K (He.ga K "Keys") "_check") := He.meth_ok (B.fact 47 (f := .meth "Keys" "_check"))
theorem Bk.ox_BadField (B : Bk K mg) : OexC K (He.ga K "BadField") ∧ PySem.W.findIn K (.ref (He.ga K "BadField")) "__init__" = some (some (.ref (He.ma K (He.ga K "BadField") "__init__"))) ∧ PySem.W.typeIn K (.ref (He.ma K (He.ga K "BadField") "__init__")) = some (.type "function") := oexB_ok (B.ex 0 (f := fun K => oexB K "BadField"))
theorem Bk.ox_BadLine (B : Bk K mg) : OexC K (He.ga K "BadLine") ∧ PySem.W.findIn K (.ref (He.ga K "BadLine")) "__init__" = some (some (.ref (He.ma K (He.ga K "BadLine") "__init__"))) ∧ PySem.W.typeIn K (.ref (He.ma K (He.ga K "BadLine") "__init__")) = some (.type "function") := oexB_ok (B.ex 1 (f := fun K => oexB K "BadLine"))
theorem Bk.ox_Ringed (B : Bk K mg) : OexC K (He.ga K "Ringed") ∧ PySem.W.findIn K (.ref (He.ga K "Ringed")) "__init__" = some (some (.ref (He.ma K (He.ga K "Ringed") "__init__"))) ∧ PySem.W.typeIn K (.ref (He.ma K (He.ga K "Ringed") "__init__")) = some (.type "function") := oexB_ok (B.ex 2 (f := fun K => oexB K "Ringed"))
theorem Bk.lx_NoName (B : Bk K mg) : LexC K (He.ga K "NoName") ∧ PySem.W.findIn K (.ref (He.ga K "NoName")) "__init__" = some (some (.ref (He.ma K (He.ga K "NoName") "__init__"))) ∧ PySem.W.typeIn K (.ref (He.ma K (He.ga K "NoName") "__init__")) = some (.type "function") := lexB_ok (B.ex 3 (f := fun K => lexB K "NoName"))
theorem Bk.sp_Keys_contains (B : Bk K mg) : PySem.W.findIn K (.ref (He.ga K "Keys")) "__contains__" = some (some (.ref (He.ma K (He.ga K "Keys") "__contains__"))) ∧ PySem.W.isFn K (.ref (He.ma K (He.ga K "Keys") "__contains__")) = true := eqsB_ok (B.ex 5 (f := fun K => eqsB K "Keys" "__contains__"))
theorem Bk.sp_Keys_len (B : Bk K mg) : PySem.W.findIn K (.ref (He.ga K "Keys")) "__len__" = some (some (.ref (He.ma K (He.ga K "Keys") "__len__"))) ∧ PySem.W.isFn K (.ref (He.ma K (He.ga K "Keys") "__len__")) = true := eqsB_ok (B.ex 6 (f := fun K => eqsB K "Keys" "__len__"))
theorem Bk.sp_Keys_eq (B : Bk K mg) : PySem.W.findIn K (.ref (He.ga K "Keys")) "__eq__" = some (some (.ref (He.ma K (He.ga K "Keys") "__eq__"))) ∧ PySem.W.isFn K (.ref (He.ma K (He.ga K "Keys") "__eq__")) = true := eqsB_ok (B.ex 7 (f := fun K => eqsB K "Keys" "__eq__"))
theorem Bk.ne_Keys (B : Bk K mg) : PySem.W.findIn K (.ref (He.ga K "Keys")) "__ne__" = some (some (.builtin "object.__ne__")) := He.eqO_ok (B.ex 8 (f := fun K => He.eqO (PySem.W.findIn K (.ref (He.ga K "Keys")) "__ne__") (some (some (.builtin "object.__ne__")))))
theorem Bk.pr_Keys_names (B : Bk K mg) : PropOf K (He.ga K "Keys") "names" (He.ma K (He.ga K "Keys") "names") (propG K "Keys" "names") := propB_ok (B.ex 9 (f := fun K => propB K "Keys" "names"))
theorem Bk.pr_Keys_pairs (B : Bk K mg) : PropOf K (He.ga K "Keys") "pairs" (He.ma K (He.ga K "Keys") "pairs") (propG K "Keys" "pairs") := propB_ok (B.ex 10 (f := fun K => propB K "Keys" "pairs"))
theorem Bk.pr_Keys_text (B : Bk K mg) : PropOf K (He.ga K "Keys") "text" (He.ma K (He.ga K "Keys") "text") (propG K "Keys" "text") := propB_ok (B.ex 11 (f := fun K => propB K "Keys" "text"))
theorem Bk.sm_Keys_of (B : Bk K mg) : SMet K (He.ga K "Keys") "of" (He5.wf K (He.ga K "Keys") "staticmethod" "of") := smB_ok (B.ex 12 (f := fun K => smB K "Keys" "of"))
theorem Bk.xc_NoName (B : Bk K mg) : ExcC K (He.ga K "NoName") := xcB_ok (B.ex 13 (f := fun K => xcB K (He.ga K "NoName")))
theorem Bk.kit_NoName_LookupError (B : Bk K mg) : PySem.W.kitOne K (.ref (He.ga K "NoName")) (.type "LookupError") = some true := of_decide_eq_true (B.ex 14 (f := fun K => decide (PySem.W.kitOne K (.ref (He.ga K "NoName")) (.type "LookupError") = some true)))
theorem Bk.nf_NoName_name (B : Bk K mg) : PySem.W.findIn K (.ref (He.ga K "NoName")) "name" = some none := He.eqO_ok (B.ex 15 (f := fun K => He.eqO (PySem.W.findIn K (.ref (He.ga K "NoName")) "name") (some none)))
theorem Bk.xc_BadField (B : Bk K mg) : ExcC K (He.ga K "BadField") := xcB_ok (B.ex 16 (f := fun K => xcB K (He.ga K "BadField")))
theorem Bk.kit_BadField_ValueError (B : Bk K mg) : PySem.W.kitOne K (.ref (He.ga K "BadField")) (.type "ValueError") = some true := of_decide_eq_true (B.ex 17 (f := fun K => decide (PySem.W.kitOne K (.ref (He.ga K "BadField")) (.type "ValueError") = some true)))
theorem Bk.nf_BadField_field (B : Bk K mg) : PySem.W.findIn K (.ref (He.ga K "BadField")) "field" = some none := He.eqO_ok (B.ex 18 (f := fun K => He.eqO (PySem.W.findIn K (.ref (He.ga K "BadField")) "field") (some none)))
theorem Bk.xc_BadLine (B : Bk K mg) : ExcC K (He.ga K "BadLine") := xcB_ok (B.ex 19 (f := fun K => xcB K (He.ga K "BadLine")))
theorem Bk.kit_BadLine_ValueError (B : Bk K mg) : PySem.W.kitOne K (.ref (He.ga K "BadLine")) (.type "ValueError") = some true := of_decide_eq_true (B.ex 20 (f := fun K => decide (PySem.W.kitOne K (.ref (He.ga K "BadLine")) (.type "ValueError") = some true)))
theorem Bk.nf_BadLine_number (B : Bk K mg) : PySem.W.findIn K (.ref (He.ga K "BadLine")) "number" = some none := He.eqO_ok (B.ex 21 (f := fun K => He.eqO (PySem.W.findIn K (.ref (He.ga K "BadLine")) "number") (some none)))
theorem Bk.xc_Ringed (B : Bk K mg) : ExcC K (He.ga K "Ringed") := xcB_ok (B.ex 22 (f := fun K => xcB K (He.ga K "Ringed")))
theorem Bk.kit_Ringed_ValueError (B : Bk K mg) : PySem.W.kitOne K (.ref (He.ga K "Ringed")) (.type "ValueError") = some true := of_decide_eq_true (B.ex 23 (f := fun K => decide (PySem.W.kitOne K (.ref (He.ga K "Ringed")) (.type "ValueError") = some true)))
theorem Bk.nf_Ringed_ring (B : Bk K mg) : PySem.W.findIn K (.ref (He.ga K "Ringed")) "ring" = some none := He.eqO_ok (B.ex 24 (f := fun K => He.eqO (PySem.W.findIn K (.ref (He.ga K "Ringed")) "ring") (some none)))
theorem Bk.kit_Keys_str (B : Bk K mg) : PySem.W.kitOne K (.ref (He.ga K "Keys")) (.type "str") = some false := of_decide_eq_true (B.ex 25 (f := fun K => decide (PySem.W.kitOne K (.ref (He.ga K "Keys")) (.type "str") = some false)))
theorem Bk.kit_Keys_list (B : Bk K mg) : PySem.W.kitOne K (.ref (He.ga K "Keys")) (.type "list") = some false := of_decide_eq_true (B.ex 26 (f := fun K => decide (PySem.W.kitOne K (.ref (He.ga K "Keys")) (.type "list") = some false)))
theorem Bk.kit_Keys_tuple (B : Bk K mg) : PySem.W.kitOne K (.ref (He.ga K "Keys")) (.type "tuple") = some false := of_decide_eq_true (B.ex 27 (f := fun K => decide (PySem.W.kitOne K (.ref (He.ga K "Keys")) (.type "tuple") = some false)))
theorem Bk.kit_Keys_bool (B : Bk K mg) : PySem.W.kitOne K (.ref (He.ga K "Keys")) (.type "bool") = some false := of_decide_eq_true (B.ex 28 (f := fun K => decide (PySem.W.kitOne K (.ref (He.ga K "Keys")) (.type "bool") = some false)))
theorem Bk.kit_Keys_int (B : Bk K mg) : PySem.W.kitOne K (.ref (He.ga K "Keys")) (.type "int") = some false := of_decide_eq_true (B.ex 29 (f := fun K => decide (PySem.W.kitOne K (.ref (He.ga K "Keys")) (.type "int") = some false)))
theorem Bk.kit_Keys_Keys (B : Bk K mg) : PySem.W.kitOne K (.ref (He.ga K "Keys")) (.ref (He.ga K "Keys")) = some true := of_decide_eq_true (B.ex 30 (f := fun K => decide (PySem.W.kitOne K (.ref (He.ga K "Keys")) (.ref (He.ga K "Keys")) = some true)))
theorem Bk.nfst_Keys_tuple (B : Bk K mg) : PySem.W.notFirst K (He.ga K "Keys") (.type "tuple") = true := (B.ex 31 (f := fun K => PySem.W.notFirst K (He.ga K "Keys") (.type "tuple")))
theorem Bk.kit_tuple_Keys (B : Bk K mg) : PySem.W.kitOne K (.type "tuple") (.ref (He.ga K "Keys")) = some false := of_decide_eq_true (B.ex 32 (f := fun K => decide (PySem.W.kitOne K (.type "tuple") (.ref (He.ga K "Keys")) = some false)))
theorem Bk.nfst_Keys_list (B : Bk K mg) : PySem.W.notFirst K (He.ga K "Keys") (.type "list") = true := (B.ex 33 (f := fun K => PySem.W.notFirst K (He.ga K "Keys") (.type "list")))
theorem Bk.kit_list_Keys (B : Bk K mg) : PySem.W.kitOne K (.type "list") (.ref (He.ga K "Keys")) = some false := of_decide_eq_true (B.ex 34 (f := fun K => decide (PySem.W.kitOne K (.type "list") (.ref (He.ga K "Keys")) = some false)))
theorem Bk.ty_Keys (B : Bk K mg) : PySem.W.findIn K (.ref (He.ga K "Keys")) "__class__" = some (some (.builtin "object.__class__")) ∧ PySem.W.specialIn K (.builtin "object.__class__") "__get__" = some (some (.builtin "getset_descriptor.__get__")) ∧ PySem.W.takesIn K (.builtin "object.__class__") = some true ∧ PySem.W.mroIn K (He.ga K "Keys") (.type "object") = some true := tyB_ok (B.ex 35 (f := fun K => tyB K (He.ga K "Keys")))
theorem Bk.df_Keys_init (B : Bk K mg) (H : Hp) : SqT K H (dflA (fun K => He.ma K (He.ga K "Keys") "__init__") 0 K) [] := tup0B_ok (B.ex 36 (f := fun K => tup0B K (dflA (fun K => He.ma K (He.ga K "Keys") "__init__") 0 K))) H
theorem Bk.exm_NoName_NoName (B : Bk K mg) : PySem.W.exmOne K (.ref (He.ga K "NoName")) (.ref (He.ga K "NoName")) = some true := of_decide_eq_true (B.ex 37 (f := fun K => decide (PySem.W.exmOne K (.ref (He.ga K "NoName")) (.ref (He.ga K "NoName")) = some true)))
theorem Bk.exm_NoName_BadField (B : Bk K mg) : PySem.W.exmOne K (.ref (He.ga K "NoName")) (.ref (He.ga K "BadField")) = some false := of_decide_eq_true (B.ex 38 (f := fun K => decide (PySem.W.exmOne K (.ref (He.ga K "NoName")) (.ref (He.ga K "BadField")) = some false)))
theorem Bk.exm_NoName_BadLine (B : Bk K mg) : PySem.W.exmOne K (.ref (He.ga K "NoName")) (.ref (He.ga K "BadLine")) = some false := of_decide_eq_true (B.ex 39 (f := fun K => decide (PySem.W.exmOne K (.ref (He.ga K "NoName")) (.ref (He.ga K "BadLine")) = some false)))
theorem Bk.exm_NoName_Ringed (B : Bk K mg) : PySem.W.exmOne K (.ref (He.ga K "NoName")) (.ref (He.ga K "Ringed")) = some false := of_decide_eq_true (B.ex 40 (f := fun K => decide (PySem.W.exmOne K (.ref (He.ga K "NoName")) (.ref (He.ga K "Ringed")) = some false)))
theorem Bk.exm_BadField_NoName (B : Bk K mg) : PySem.W.exmOne K (.ref (He.ga K "BadField")) (.ref (He.ga K "NoName")) = some false := of_decide_eq_true (B.ex 41 (f := fun K => decide (PySem.W.exmOne K (.ref (He.ga K "BadField")) (.ref (He.ga K "NoName")) = some false)))
theorem Bk.exm_BadField_BadField (B : Bk K mg) : PySem.W.exmOne K (.ref (He.ga K "BadField")) (.ref (He.ga K "BadField")) = some true := of_decide_eq_true (B.ex 42 (f := fun K => decide (PySem.W.exmOne K (.ref (He.ga K "BadField")) (.ref (He.ga K "BadField")) = some true)))
theorem Bk.exm_BadField_BadLine (B : Bk K mg) : PySem.W.exmOne K (.ref (He.ga K "BadField")) (.ref (He.ga K "BadLine")) = some false := of_decide_eq_true (B.ex 43 (f := fun K => decide (PySem.W.exmOne K (.ref (He.ga K "BadField")) (.ref (He.ga K "BadLine")) = some false)))
theorem Bk.exm_BadField_Ringed (B : Bk K mg) : PySem.W.exmOne K (.ref (He.ga K "BadField")) (.ref (He.ga K "Ringed")) = some false := of_decide_eq_true (B.ex 44 (f := fun K => decide (PySem.W.exmOne K (.ref (He.ga K "BadField")) (.ref (He.ga K "Ringed")) = some false)))
theorem Bk.exm_BadLine_NoName (B : Bk K mg) : PySem.W.exmOne K (.ref (He.ga K "BadLine")) (.ref (He.ga K "NoName")) = some false := of_decide_eq_true (B.ex 45 (f := fun K => decide (PySem.W.exmOne K (.ref (He.ga K "BadLine")) (.ref (He.ga K "NoName")) = some false)))
theorem Bk.exm_BadLine_BadField (B : Bk K mg) : PySem.W.exmOne K (.ref (He.ga K "BadLine")) (.ref (He.ga K "BadField")) = some false := of_decide_eq_true (B.ex 46 (f := fun K => decide (PySem.W.exmOne K (.ref (He.ga K "BadLine")) (.ref (He.ga K "BadField")) = some false)))
theorem Bk.exm_BadLine_BadLine (B : Bk K mg) : PySem.W.exmOne K (.ref (He.ga K "BadLine")) (.ref (He.ga K "BadLine")) = some true := of_decide_eq_true (B.ex 47 (f := fun K => decide (PySem.W.exmOne K (.ref (He.ga K "BadLine")) (.ref (He.ga K "BadLine")) = some true)))
theorem Bk.exm_BadLine_Ringed (B : Bk K mg) : PySem.W.exmOne K (.ref (He.ga K "BadLine")) (.ref (He.ga K "Ringed")) = some false := of_decide_eq_true (B.ex 48 (f := fun K => decide (PySem.W.exmOne K (.ref (He.ga K "BadLine")) (.ref (He.ga K "Ringed")) = some false)))
theorem Bk.exm_Ringed_NoName (B : Bk K mg) : PySem.W.exmOne K (.ref (He.ga K "Ringed")) (.ref (He.ga K "NoName")) = some false := of_decide_eq_true (B.ex 49 (f := fun K => decide (PySem.W.exmOne K (.ref (He.ga K "Ringed")) (.ref (He.ga K "NoName")) = some false)))
theorem Bk.exm_Ringed_BadField (B : Bk K mg) : PySem.W.exmOne K (.ref (He.ga K "Ringed")) (.ref (He.ga K "BadField")) = some false := of_decide_eq_true (B.ex 50 (f := fun K => decide (PySem.W.exmOne K (.ref (He.ga K "Ringed")) (.ref (He.ga K "BadField")) = some false)))
theorem Bk.exm_Ringed_BadLine (B : Bk K mg) : PySem.W.exmOne K (.ref (He.ga K "Ringed")) (.ref (He.ga K "BadLine")) = some false := of_decide_eq_true (B.ex 51 (f := fun K => decide (PySem.W.exmOne K (.ref (He.ga K "Ringed")) (.ref (He.ga K "BadLine")) = some false)))
theorem Bk.exm_Ringed_Ringed (B : Bk K mg) : PySem.W.exmOne K (.ref (He.ga K "Ringed")) (.ref (He.ga K "Ringed")) = some true := of_decide_eq_true (B.ex 52 (f := fun K => decide (PySem.W.exmOne K (.ref (He.ga K "Ringed")) (.ref (He.ga K "Ringed")) = some true)))
theorem Bk.F_is_name (B : Bk K mg) : ∃ fd, Fun K "is_name" "is_name" s_is_name (He.ga K "is_name") fd := let ⟨fd, h⟩ := B.fn_ 0 (d := d_is_name); ⟨fd, He5.fun_of h⟩
theorem Bk.F_words_of (B : Bk K mg) : ∃ fd, Fun K "words_of" "words_of" s_words_of (He.ga K "words_of") fd := let ⟨fd, h⟩ := B.fn_ 1 (d := d_words_of); ⟨fd, He5.fun_of h⟩
theorem Bk.F_Keys___init (B : Bk K mg) : ∃ fd, FunD K "__init__" "Keys.__init__" (defArgs s_Keys___init__) (defBody s_Keys___init__) (defScope s_Keys___init__) (d_Keys___init__.dvs K) [] (He.ma K (He.ga K "Keys") "__init__") fd := B.fn_ 2 (d := d_Keys___init__)
theorem Bk.F_Keys_p_names (B : Bk K mg) : ∃ fd, Fun K "names" "Keys.names" s_Keys_p_names (propG K "Keys" "names") fd := let ⟨fd, h⟩ := B.fn_ 3 (d := d_Keys_p_names); ⟨fd, He5.fun_of h⟩
theorem Bk.F_Keys_p_pairs (B : Bk K mg) : ∃ fd, Fun K "pairs" "Keys.pairs" s_Keys_p_pairs (propG K "Keys" "pairs") fd := let ⟨fd, h⟩ := B.fn_ 4 (d := d_Keys_p_pairs); ⟨fd, He5.fun_of h⟩
theorem Bk.F_Keys_p_text (B : Bk K mg) : ∃ fd, Fun K "text" "Keys.text" s_Keys_p_text (propG K "Keys" "text") fd := let ⟨fd, h⟩ := B.fn_ 5 (d := d_Keys_p_text); ⟨fd, He5.fun_of h⟩
theorem Bk.F_Keys_tells (B : Bk K mg) : ∃ fd, Fun K "tells" "Keys.tells" s_Keys_tells (He.ma K (He.ga K "Keys") "tells") fd := let ⟨fd, h⟩ := B.fn_ 6 (d := d_Keys_tells); ⟨fd, He5.fun_of h⟩
theorem Bk.F_Keys_told (B : Bk K mg) : ∃ fd, Fun K "told" "Keys.told" s_Keys_told (He.ma K (He.ga K "Keys") "told") fd := let ⟨fd, h⟩ := B.fn_ 7 (d := d_Keys_told); ⟨fd, He5.fun_of h⟩
theorem Bk.F_Keys__check (B : Bk K mg) : ∃ fd, Fun K "_check" "Keys._check" s_Keys__check (He.ma K (He.ga K "Keys") "_check") fd := let ⟨fd, h⟩ := B.fn_ 8 (d := d_Keys__check); ⟨fd, He5.fun_of h⟩
theorem Bk.F_Keys___contains (B : Bk K mg) : ∃ fd, Fun K "__contains__" "Keys.__contains__" s_Keys___contains__ (He.ma K (He.ga K "Keys") "__contains__") fd := let ⟨fd, h⟩ := B.fn_ 9 (d := d_Keys___contains__); ⟨fd, He5.fun_of h⟩
theorem Bk.F_Keys___len (B : Bk K mg) : ∃ fd, Fun K "__len__" "Keys.__len__" s_Keys___len__ (He.ma K (He.ga K "Keys") "__len__") fd := let ⟨fd, h⟩ := B.fn_ 10 (d := d_Keys___len__); ⟨fd, He5.fun_of h⟩
theorem Bk.F_Keys___eq (B : Bk K mg) : ∃ fd, Fun K "__eq__" "Keys.__eq__" s_Keys___eq__ (He.ma K (He.ga K "Keys") "__eq__") fd := let ⟨fd, h⟩ := B.fn_ 11 (d := d_Keys___eq__); ⟨fd, He5.fun_of h⟩
theorem Bk.F_Keys_s_of (B : Bk K mg) : ∃ fd, Fun K "of" "Keys.of" s_Keys_s_of (He5.wf K (He.ga K "Keys") "staticmethod" "of") fd := let ⟨fd, h⟩ := B.fn_ 12 (d := d_Keys_s_of); ⟨fd, He5.fun_of h⟩
theorem Bk.F_stated (B : Bk K mg) : ∃ fd, Fun K "_stated" "_stated" s__stated (He.ga K "_stated") fd := let ⟨fd, h⟩ := B.fn_ 13 (d := d__stated); ⟨fd, He5.fun_of h⟩
theorem Bk.F_all_told (B : Bk K mg) : ∃ fd, Fun K "_all_told" "_all_told" s__all_told (He.ga K "_all_told") fd := let ⟨fd, h⟩ := B.fn_ 14 (d := d__all_told); ⟨fd, He5.fun_of h⟩
theorem Bk.F_NoName___init (B : Bk K mg) : ∃ fd, Fun K "__init__" "NoName.__init__" s_NoName___init__ (He.ma K (He.ga K "NoName") "__init__") fd := let ⟨fd, h⟩ := B.fn_ 15 (d := d_NoName___init__); ⟨fd, He5.fun_of h⟩
theorem Bk.F_BadLine___init (B : Bk K mg) : ∃ fd, Fun K "__init__" "BadLine.__init__" s_BadLine___init__ (He.ma K (He.ga K "BadLine") "__init__") fd := let ⟨fd, h⟩ := B.fn_ 16 (d := d_BadLine___init__); ⟨fd, He5.fun_of h⟩
theorem Bk.F_Ringed___init (B : Bk K mg) : ∃ fd, Fun K "__init__" "Ringed.__init__" s_Ringed___init__ (He.ma K (He.ga K "Ringed") "__init__") fd := let ⟨fd, h⟩ := B.fn_ 17 (d := d_Ringed___init__); ⟨fd, He5.fun_of h⟩
theorem Bk.F_law_box (B : Bk K mg) : ∃ fd, Fun K "_law_box" "_law_box" s__law_box (He.ga K "_law_box") fd := let ⟨fd, h⟩ := B.fn_ 18 (d := d__law_box); ⟨fd, He5.fun_of h⟩
theorem Bk.F_law_take (B : Bk K mg) : ∃ fd, Fun K "_law_take" "_law_take" s__law_take (He.ga K "_law_take") fd := let ⟨fd, h⟩ := B.fn_ 19 (d := d__law_take); ⟨fd, He5.fun_of h⟩
theorem Bk.F_law_cells (B : Bk K mg) : ∃ fd, Fun K "_law_cells" "_law_cells" s__law_cells (He.ga K "_law_cells") fd := let ⟨fd, h⟩ := B.fn_ 20 (d := d__law_cells); ⟨fd, He5.fun_of h⟩
theorem Bk.F_law_of (B : Bk K mg) : ∃ fd, Fun K "_law_of" "_law_of" s__law_of (He.ga K "_law_of") fd := let ⟨fd, h⟩ := B.fn_ 21 (d := d__law_of); ⟨fd, He5.fun_of h⟩
theorem Bk.F_law_same (B : Bk K mg) : ∃ fd, Fun K "_law_same" "_law_same" s__law_same (He.ga K "_law_same") fd := let ⟨fd, h⟩ := B.fn_ 22 (d := d__law_same); ⟨fd, He5.fun_of h⟩
theorem Bk.F_law_mixed (B : Bk K mg) : ∃ fd, Fun K "_law_mixed" "_law_mixed" s__law_mixed (He.ga K "_law_mixed") fd := let ⟨fd, h⟩ := B.fn_ 23 (d := d__law_mixed); ⟨fd, He5.fun_of h⟩
theorem Bk.F_law_book (B : Bk K mg) : ∃ fd, Fun K "_law_book" "_law_book" s__law_book (He.ga K "_law_book") fd := let ⟨fd, h⟩ := B.fn_ 24 (d := d__law_book); ⟨fd, He5.fun_of h⟩
theorem Bk.F_law_more (B : Bk K mg) : ∃ fd, Fun K "_law_more" "_law_more" s__law_more (He.ga K "_law_more") fd := let ⟨fd, h⟩ := B.fn_ 25 (d := d__law_more); ⟨fd, He5.fun_of h⟩
theorem Bk.F_law_order_right (B : Bk K mg) : ∃ fd, Fun K "_law_order_right" "_law_order_right" s__law_order_right (He.ga K "_law_order_right") fd := let ⟨fd, h⟩ := B.fn_ 26 (d := d__law_order_right); ⟨fd, He5.fun_of h⟩
theorem Bk.F_law_ring_right (B : Bk K mg) : ∃ fd, Fun K "_law_ring_right" "_law_ring_right" s__law_ring_right (He.ga K "_law_ring_right") fd := let ⟨fd, h⟩ := B.fn_ 27 (d := d__law_ring_right); ⟨fd, He5.fun_of h⟩
theorem Bk.F_law_by_hand_right (B : Bk K mg) : ∃ fd, Fun K "_law_by_hand_right" "_law_by_hand_right" s__law_by_hand_right (He.ga K "_law_by_hand_right") fd := let ⟨fd, h⟩ := B.fn_ 28 (d := d__law_by_hand_right); ⟨fd, He5.fun_of h⟩
theorem Bk.F_law_right (B : Bk K mg) : ∃ fd, Fun K "_law_right" "_law_right" s__law_right (He.ga K "_law_right") fd := let ⟨fd, h⟩ := B.fn_ 29 (d := d__law_right); ⟨fd, He5.fun_of h⟩
theorem Bk.F_law (B : Bk K mg) : ∃ fd, Fun K "law" "law" s_law (He.ga K "law") fd := let ⟨fd, h⟩ := B.fn_ 30 (d := d_law); ⟨fd, He5.fun_of h⟩
end
end Jd
namespace Jd
open PySem PySem.Spec PyProof.Rows L2
/-! ### words -/
/-- a def that stands behind the top, its promise -/
structure Df (P : Program) (w : World) (K : PySem.W.Frag) (mg : Str → Option Value) (base : Heap) (CX : CXT) (k : Nat) (x : Str) (ps : List Str) (sp : Sp) : Prop where
  ex : ∃ fd, FnOk P w K mg base CX k (He.ga K x) fd ps sp ∧ Binds K fd ps []
  g : mg x = some (.ref (He.ga K x))
  kp : PySem.W.keepIn K (.ref (He.ga K x)) = true
/-- the codes of a text -/
abbrev cd (z : Str) : List Nat := z.cps.toList
theorem len_cd (z : Str) : z.length = (cd z).length := by
  show z.cps.size = z.cps.toList.length
  rw [Array.length_toList]
theorem cd_ext {a b : Str} (h : cd a = cd b) : a = b := by
  obtain ⟨x⟩ := a
  obtain ⟨y⟩ := b
  congr 1
  exact Array.toList_inj.mp h
theorem cd_at {z : Str} {i c : Nat} (h : z.cps[i]? = some c) : (cd z)[i]? = some c := by
  rw [Array.getElem?_toList]
  exact h
/-- both ways of a test -/
theorem two {c : Bool} {A B : Prop} (h1 : c = true → A) (h2 : c = false → B) : if c = true then A else B := by
  cases c with
  | true => exact iteT (h1 rfl)
  | false => exact iteF (h2 rfl)
theorem one_lt (a b : Nat) : decide ([a] < [b]) = decide (a < b) := by
  have e : ([a] < [b]) ↔ a < b := by
    constructor
    · intro h
      cases h with
      | rel h => exact h
      | cons h => cases h
    · exact fun h => .rel h
  exact decide_eq_decide.mpr e
/-! ### heaps -/
theorem Same_upd {H H' : Hp} {a : Addr} {o : HO} (s : Same H H') (n : H a = none) : Same H (upd H' a o) := fun b u q => by
  rw [upd_ne (ne_of_none q n)]
  exact s b u q
theorem Same_new {H : Hp} {a : Addr} {o : HO} (n : H a = none) : Same H (upd H a o) := Same_upd (Same.refl H) n
theorem Same_lay {H H' : Hp} {a : Addr} {o : HO} (s : Same H H') (n : H' a = none) : Same H (upd H' a o) := fun b u q => by
  rw [upd_ne (ne_of_none (s b u q) n)]
  exact s b u q
theorem Same_seqT {K : PySem.W.Frag} {H H' : Hp} {a : Addr} {xs : List V} (e : Same H H') (h : SqT K H a xs) : SqT K H' a xs := by
  rcases h with (h | ⟨o, h⟩) | h
  · exact .inl (.inl (e _ _ h))
  · exact .inl (.inr ⟨o, e _ _ h⟩)
  · exact .inr h
/-! ### a comprehension that only lays new objects -/
theorem fm_step {f : Nat → Option V} (i : Nat) : (List.range (i + 1)).filterMap f = (List.range i).filterMap f ++ (match f i with
    | some y => [y]
    | none => []) := by
  rw [List.range_succ, List.filterMap_append]
  congr 1
  cases e : f i with
  | none => simp [e]
  | some y => simp [e]
theorem fm_len {f : Nat → Option V} (i : Nat) : ((List.range i).filterMap f).length ≤ i := by
  have q := List.length_filterMap_le f (List.range i)
  rw [List.length_range] at q
  exact q
section
variable {J : It} {n : Nat} {G : Hp → Prop} {Y : Nat → Hp → V → Hp → Prop}
theorem lc_fm (w : Walk J n G Y) {g : TG} {tt : TT} {te : TE} {vs : List Nat} {σ : L2.St} {H1 : Hp} {D : Addr} {Qd : Hp → Prop} (f : Nat → Option V) (hD : H1 D = none) (hn : n ≤ sizeLine) (hG : ∀ H, Same H1 H → G H)
    (hs : ∀ i x H H' (Kt : VK) (Kf : Hp → Prop), i < n → Same H1 H → Y i H x H' → (∀ y H4, f i = some y → Same H H4 → Kt y H4) → (∀ H4, f i = none → Same H H4 → Kf H4) →
      g x (wipe σ vs) H' fun σ2 H2 => wipe σ2 vs = wipe σ vs ∧ tt σ2 H2 fun b H3 => if b = true then te σ2 H3 Kt else Kf H3)
    (hd : ∀ H, Same H1 H → H D = some (.lst ((List.range n).filterMap f)) → Qd H) :
    ∃ W : Nat → Nat → Hp → Prop, (∃ m, W 0 m (upd H1 D (.lst []))) ∧ ∀ i m H, W i m H →
      (J.stop i H ∧ Qd H) ∨ (J.go i H ∧ ∃ Nx : Hp → Prop, (∀ H', Nx H' → ∃ m', m' < m ∧ W (i + 1) m' H') ∧ ∀ x H', J.yld i H x H' → g x (wipe σ vs) H' fun σ2 H2 => wipe σ2 vs = wipe σ vs ∧ tt σ2 H2 fun b H3 =>
        if b = true then te σ2 H3 fun y H4 => ∃ acc, H4 D = some (.lst acc) ∧ acc.length < sizeLine ∧ Nx (upd H4 D (.lst (acc ++ [y]))) else Nx H3) := by
  refine lc_it w (fun i H => Same H1 H ∧ H D = some (.lst ((List.range i).filterMap f))) ⟨Same_new hD, upd_same⟩ (fun i H _ p => hG H p.1) (fun i x H H' hi p y => ?_) (fun H p => hd H p.1 p.2)
  refine hs i x H H' _ _ hi p.1 y (fun y H4 e s4 => ⟨_, s4 _ _ p.2, Nat.lt_of_le_of_lt (fm_len i) (Nat.lt_of_lt_of_le hi hn), Same_upd (p.1.trans s4) hD, ?_⟩) (fun H4 e s4 => ⟨p.1.trans s4, ?_⟩)
  · rw [upd_same, fm_step, e]
  · rw [fm_step, e, List.append_nil]
    exact s4 _ _ p.2
end
theorem fm_some {α : Type} {l : List α} {g : α → V} {f : Nat → Option V} (h : ∀ i x, l[i]? = some x → f i = some (g x)) : (List.range l.length).filterMap f = l.map g := by
  have key : ∀ k, k ≤ l.length → (List.range k).filterMap f = (l.take k).map g := by
    intro k
    induction k with
    | zero => intro _; rfl
    | succ k ih =>
      intro hk
      have hl : k < l.length := hk
      have e : l[k]? = some l[k] := List.getElem?_eq_getElem hl
      rw [fm_step, ih (Nat.le_of_lt hl), h k _ e, List.take_add_one, e, List.map_append]
      rfl
  have q := key l.length (Nat.le_refl _)
  rw [List.take_length] at q
  exact q
end Jd
namespace Jd
open PySem PySem.Spec PyProof.Rows L2
/-! ### is_name -/
def letterB (c : Nat) : Bool := !decide (c < 97) && !decide (122 < c)
def isName (l : List Nat) : Bool := decide (1 ≤ l.length) && (decide (l.length ≤ 8) && l.all letterB)
def spName : Sp := fun vs H Q _ => ∃ z : Str, vs = [.str z] ∧ z.length ≤ sizeLine ∧ ∀ H', Same H H' → Q (.bl (isName (cd z))) H'
section
variable {P : Program} {w : World} {K : PySem.W.Frag} {mg : Str → Option Value} {base : Heap}
theorem sc_is_name : FnScope ["thing", "letter"] ["thing"] (defScope s_is_name) := ⟨rfl, rfl, rfl, by decide +kernel, rfl, by decide +kernel, by decide +kernel⟩
theorem kit_str : PySem.W.kitOne K (.type "str") (.type "str") = some true := by
  unfold PySem.W.kitOne
  rw [if_pos (by decide)]
theorem ok_is_name (B : Bk K mg) : Df P w K mg base CX0 1 "is_name" ["thing"] spName := by
  obtain ⟨fd, F⟩ := B.F_is_name
  refine ⟨⟨fd, ?_, F.binds fun _ _ _ _ _ _ us hl => match us, hl with | [_], _ => rfl⟩, B.g_is_name, F.kp⟩
  refine F.ok sc_is_name (fun vs H Q E h => ?_) (fun cdv A outer s H vs Q E hr h => ?_)
  · obtain ⟨z, rfl, _⟩ := h
    rfl
  · obtain ⟨z, rfl, hz, k⟩ := h
    refine ⟨_, pss_cons (ps_if (pt_not (pt_val (pe_callB call_isi (by rfl) B.b_isinstance (by decide +kernel) (pa_cons (pv 0) (pa_cons (pe_bltn (by rfl) B.b_str (by decide +kernel) (show RelV (.ty "str") (.type "str") from rfl)) pa_nil))))) (pss_one (ps_ret pe_bl)) pss_nil)
      (pss_one (ps_ret (pe_and (pe_chain op_le op_le pe_int (pe_callB call_len (by rfl) B.b_len (by decide +kernel) (pa_cons (pv 0) pa_nil)) pe_int)
        (pe_one (pe_callB (cr_all rfl) (by rfl) B.b_all (by decide +kernel) (pa_cons (pe_lc (own := [("letter", 1)]) (g := gName 1) (tt := tYes) rfl sc_is_name.nd (pi_str (pv 0)) (blkOk_by (N := ["thing", "letter"]) (sc := defScope s_is_name) (by decide +kernel))
          (fun _ _ _ _ _ => pg_name (i := 1) sc_is_name.nd rfl (Or.inl rfl)) (fun _ _ _ _ _ => pts_nil) (fun _ _ _ _ _ => pe_chain op_le_str op_le_str pe_str (pv 1) pe_str)) pa_nil)))))), ?_⟩
    refine ⟨_, rfl, _, _, _, _, _, rfl, .ty "str", .base (.str z), kit_str, _, rfl, iteF ?_⟩
    refine ⟨_, rfl, _, _, rfl, ⟨hz, rfl⟩, _, _, rfl, rfl, _, rfl, two (fun h1 => ?_) (fun h1 => ⟨_, rfl, iteF ?_⟩)⟩
    · refine ⟨_, _, rfl, rfl, _, rfl, two (fun h2 => ?_) (fun h2 => ?_)⟩
      · refine ⟨_, rfl, _, rfl, fun D hD => lc_fm walk_str (fun i => ((cd z)[i]?).map fun c => V.bl (letterB c)) hD (by rw [← show z.length = z.cps.size from rfl]; exact hz) (fun _ _ => trivial) (fun i x H1 H' Kt Kf hi s1 y kt kf => ?_) (fun H1 s1 hL => ?_)⟩
        · obtain ⟨rfl, c, hc, rfl⟩ := y
          have e : ((cd z)[i]?).map (fun c => V.bl (letterB c)) = some (V.bl (letterB c)) := by rw [cd_at hc]; rfl
          refine ⟨rfl, iteT (B := Kf H') ?_⟩
          refine ⟨_, rfl, _, _, rfl, rfl, _, rfl, two (fun h3 => ⟨_, _, rfl, rfl, ?_⟩) (fun h3 => ?_)⟩
          · have q := kt _ _ e (Same.refl _)
            have h3' : (!decide (([c] : List Nat) < [97])) = true := h3
            rw [one_lt] at h3'
            unfold letterB at q
            rw [h3', Bool.true_and] at q
            show Kt (V.bl (!decide (([122] : List Nat) < [c]))) _
            rw [one_lt]
            exact q
          · have q := kt _ _ e (Same.refl _)
            have h3' : (!decide (([c] : List Nat) < [97])) = false := h3
            rw [one_lt] at h3'
            unfold letterB at q
            rw [h3', Bool.false_and] at q
            exact q
        · refine ⟨_, (cd z).map letterB, rfl, SqL.of (hL.trans ?_), ?_⟩
          · congr 2
            rw [show z.cps.size = (cd z).length from len_cd z]
            rw [fm_some (l := cd z) (g := fun c => V.bl (letterB c)) (fun i c hc => by rw [hc]; rfl), List.map_map]
            rfl
          · have q := k H1 s1
            have h1' : decide (1 ≤ (cd z).length) = true := by
              rw [← h1]
              exact decide_eq_decide.mpr (by rw [len_cd z]; omega)
            have h2' : decide ((cd z).length ≤ 8) = true := by
              rw [← h2]
              exact decide_eq_decide.mpr (by rw [len_cd z]; omega)
            unfold isName at q
            rw [h1', h2', Bool.true_and, Bool.true_and] at q
            rw [List.all_map]
            exact q
      · have q := k H (Same.refl _)
        have h2' : decide ((cd z).length ≤ 8) = false := by
          rw [← h2]
          exact decide_eq_decide.mpr (by rw [len_cd z]; omega)
        unfold isName at q
        rw [h2', Bool.false_and, Bool.and_false] at q
        exact q
    · have q := k H (Same.refl _)
      have h1' : decide (1 ≤ (cd z).length) = false := by
        rw [← h1]
        exact decide_eq_decide.mpr (by rw [len_cd z]; omega)
      unfold isName at q
      rw [h1', Bool.false_and] at q
      exact q
end
end Jd
namespace Jd
open PySem PySem.Spec PyProof.Rows L2
/-! ### lists and tuples alike -/
def Sq (K : PySem.W.Frag) (H : Hp) (a : Addr) (xs : List V) : Prop := SqL K H a xs ∨ SqT K H a xs
theorem sm_seqT {K : PySem.W.Frag} {H H' : Hp} {a : Addr} {xs : List V} (e : ∀ b o, H b = some o → H' b = some o) (h : SqT K H a xs) : SqT K H' a xs := by
  rcases h with (h | ⟨o, h⟩) | h
  · exact .inl (.inl (e _ _ h))
  · exact .inl (.inr ⟨o, e _ _ h⟩)
  · exact .inr h
theorem sm_seqL {K : PySem.W.Frag} {H H' : Hp} {a : Addr} {xs : List V} (e : ∀ b o, H b = some o → H' b = some o) (h : SqL K H a xs) : SqL K H' a xs := by
  rcases h with (h | ⟨o, h⟩) | h
  · exact .inl (.inl (e _ _ h))
  · exact .inl (.inr ⟨o, e _ _ h⟩)
  · exact .inr h
theorem Sq.same {K : PySem.W.Frag} {H H' : Hp} {a : Addr} {xs : List V} (e : ∀ b o, H b = some o → H' b = some o) (h : Sq K H a xs) : Sq K H' a xs := h.elim (fun h => .inl (sm_seqL e h)) fun h => .inr (sm_seqT e h)
/-- all but the instance at u is as it was -/
theorem Sq.keep {K : PySem.W.Frag} {u : Addr} {H H' : Hp} {a : Addr} {xs : List V} {C dx : Addr} {fs : List (Str × V)} (hu : H u = some (.ins C dx fs)) (k : ∀ b o, b ≠ u → H b = some o → H' b = some o) (h : Sq K H a xs) : Sq K H' a xs := by
  rcases h with ((h | ⟨o, h⟩) | h) | ((h | ⟨o, h⟩) | h)
  · exact .inl (.inl (.inl (k _ _ (ne_of h hu (by intro z; cases z)) h)))
  · exact .inl (.inl (.inr ⟨o, k _ _ (ne_of h hu (by intro z; cases z)) h⟩))
  · exact .inl (.inr h)
  · exact .inr (.inl (.inl (k _ _ (ne_of h hu (by intro z; cases z)) h)))
  · exact .inr (.inl (.inr ⟨o, k _ _ (ne_of h hu (by intro z; cases z)) h⟩))
  · exact .inr (.inr h)
/-- a list or a tuple, walked -/
def iSq (K : PySem.W.Frag) (te : TE) : TI := fun σ H R => te σ H fun x H1 => ∃ (a : Addr) (xs : List V), x = .ref a ∧ Sq K H1 a xs ∧
  ∀ (J : It) (G : Hp → Prop), Walk J xs.length G (YAt xs) → (∀ H', (∀ b o, H1 b = some o → H' b = some o) → G H') → R J H1
section
variable {X : Cx} {tg : Expr}
theorem pi_seq {l : Expr} {te : TE} (hl : PE X l te) : PI X tg l (iSq X.K te) := by
  refine ⟨fun pins s σ H R I h => ?_⟩
  refine thn (hl.run pins s σ H _ I h) fun v s1 ⟨x, H1, I1, r1, q1⟩ => ?_
  obtain ⟨a, xs, e, hq, q⟩ := q1
  subst e
  cases r1
  rcases hq with hq | hq
  · obtain ⟨its, rv, p, hz⟩ := I1.list hq
    refine wpAny_pyIter_list p.isList ?_
    refine ⟨s1.heap.objs.size, [s1.heap.objs.size], _, _, H1, rfl, I1.kept (t' := s1.toks) fun b o e => Heap.get?_push_of_some _ e, turn_list a _, ⟨_, Heap.get?_push_size _ rfl, rfl, rfl⟩, fun b hb => ?_,
      q (Itl X.K a) _ walk_list fun H' e => sm_seqL e hq⟩
    have e : b = s1.heap.objs.size := by simpa using hb
    subst e
    exact I1.fpOk (Nat.le_refl _) (I1.hok.fresh (Nat.le_refl _))
  · obtain ⟨its, rv, p, hz⟩ := I1.tuple hq
    refine wpAny_pyIter_tuple (show s1.heap.IsTuple a its.toArray from p) ?_
    refine ⟨s1.heap.objs.size, [s1.heap.objs.size], _, _, H1, rfl, I1.kept (t' := s1.toks) fun b o e => Heap.get?_push_of_some _ e, turn_tuple a _, ⟨_, Heap.get?_push_size _ rfl, rfl, rfl⟩, fun b hb => ?_,
      q (Itt X.K a) _ walk_tup fun H' e => sm_seqT e hq⟩
    have e : b = s1.heap.objs.size := by simpa using hb
    subst e
    exact I1.fpOk (Nat.le_refl _) (I1.hok.fresh (Nat.le_refl _))
/-- unpacked, a list or a tuple -/
def gSq (K : PySem.W.Frag) (n : Nat) (t : TGs) : TG := fun v σ H Q => ∃ (a : Addr) (xs : List V), v = .ref a ∧ Sq K H a xs ∧ xs.length = n ∧ t xs σ H Q
theorem pg_sq {es : List Expr} {kk : Nat} {pos : Pos} {n : Nat} {t : TGs} (h1 : PG X (.Tuple es kk pos) (gTup X.K n t)) (h2 : PG X (.Tuple es kk pos) (gLst X.K n t)) : PG X (.Tuple es kk pos) (gSq X.K n t) := by
  refine ⟨fun pins s σ H v u Q I r h => ?_⟩
  obtain ⟨a, xs, e, hq, hl, q⟩ := h
  rcases hq with hq | hq
  · exact h2.run pins s σ H v u Q I r ⟨a, xs, e, hq, hl, q⟩
  · exact h1.run pins s σ H v u Q I r ⟨a, xs, e, hq, hl, q⟩
end
end Jd
namespace Jd
/-! ### what follows from tellings -/
section
variable {α : Type} [DecidableEq α]
/-- reached by pairs, what lies between being among M -/
inductive Via (R : List (α × α)) (M : List α) : α → α → Prop
  | one {a b : α} : (a, b) ∈ R → Via R M a b
  | two {a m b : α} : Via R M a m → m ∈ M → Via R M m b → Via R M a b
theorem Via.mono {R : List (α × α)} {M M' : List α} (h : ∀ x, x ∈ M → x ∈ M') {a b : α} (v : Via R M a b) : Via R M' a b := by
  induction v with
  | one q => exact .one q
  | two _ m _ ih1 ih2 => exact .two ih1 (h _ m) ih2
theorem via_step {R : List (α × α)} {M : List α} {m a b : α} : Via R (M ++ [m]) a b ↔ Via R M a b ∨ (Via R M a m ∧ Via R M m b) := by
  constructor
  · intro v
    induction v with
    | one q => exact .inl (.one q)
    | @two a k b _ hk _ ih1 ih2 =>
      have hk' : k ∈ M ∨ k = m := by
        rcases List.mem_append.mp hk with h | h
        · exact .inl h
        · exact .inr (List.mem_singleton.mp h)
      rcases ih1 with l1 | ⟨l1, l2⟩
      · rcases ih2 with r1 | ⟨r1, r2⟩
        · rcases hk' with h | h
          · exact .inl (.two l1 h r1)
          · exact .inr ⟨h ▸ l1, h ▸ r1⟩
        · rcases hk' with h | h
          · exact .inr ⟨.two l1 h r1, r2⟩
          · exact .inr ⟨h ▸ l1, r2⟩
      · rcases ih2 with r1 | ⟨r1, r2⟩
        · rcases hk' with h | h
          · exact .inr ⟨l1, .two l2 h r1⟩
          · exact .inr ⟨l1, h ▸ r1⟩
        · exact .inr ⟨l1, r2⟩
  · have up : ∀ x, x ∈ M → x ∈ M ++ [m] := fun x h => List.mem_append.mpr (.inl h)
    rintro (v | ⟨v1, v2⟩)
    · exact v.mono up
    · exact .two (v1.mono up) (List.mem_append.mpr (.inr (List.mem_singleton.mpr rfl))) (v2.mono up)
/-- the table at the start: what is told at once -/
def tab0 (R : List (α × α)) (a : α) : List α := (R.filter fun p => decide (p.1 = a)).map (·.2)
theorem tab0_in {R : List (α × α)} {a b : α} : b ∈ tab0 R a ↔ (a, b) ∈ R := by
  unfold tab0
  constructor
  · intro h
    obtain ⟨⟨x, y⟩, hp, e⟩ := List.mem_map.mp h
    obtain ⟨h1, h2⟩ := List.mem_filter.mp hp
    have e1 : x = a := of_decide_eq_true h2
    have e2 : y = b := e
    exact e1 ▸ e2 ▸ h1
  · intro h
    exact List.mem_map.mpr ⟨(a, b), List.mem_filter.mpr ⟨h, decide_eq_true rfl⟩, rfl⟩
/-- one pass for one name in the middle -/
def passT (T : α → List α) (m a : α) : List α := if m ∈ T a then T a ++ (T m).filter (fun o => decide (o ∉ T a)) else T a
theorem filter_none {l : List α} : l.filter (fun o => decide (o ∉ l)) = [] := by
  rw [List.filter_eq_nil_iff]
  intro x hx h
  exact of_decide_eq_true h hx
theorem passT_self (T : α → List α) (m : α) : passT T m m = T m := by
  unfold passT
  rw [filter_none, List.append_nil]
  split <;> rfl
theorem passT_in {T : α → List α} {m a b : α} : b ∈ passT T m a ↔ b ∈ T a ∨ (m ∈ T a ∧ b ∈ T m) := by
  unfold passT
  split
  · rename_i h
    constructor
    · intro q
      rcases List.mem_append.mp q with q | q
      · exact .inl q
      · exact .inr ⟨h, (List.mem_filter.mp q).1⟩
    · rintro (q | ⟨_, q⟩)
      · exact List.mem_append.mpr (.inl q)
      · by_cases hb : b ∈ T a
        · exact List.mem_append.mpr (.inl hb)
        · exact List.mem_append.mpr (.inr (List.mem_filter.mpr ⟨q, decide_eq_true hb⟩))
  · rename_i h
    exact ⟨.inl, fun q => q.elim id fun q => absurd q.1 h⟩
theorem passT_len {T : α → List α} {m : α} {n : Nat} (h : ∀ a, (T a).length ≤ n) (a : α) : (passT T m a).length ≤ 2 * n := by
  unfold passT
  split
  · rw [List.length_append]
    have h1 := h a
    have h2 := h m
    have h3 := List.length_filter_le (fun o => decide (o ∉ T a)) (T m)
    omega
  · have h1 := h a
    omega
def closeT (R : List (α × α)) (ns : List α) : α → List α := ns.foldl (fun T m => passT T m) (tab0 R)
theorem close_via (R : List (α × α)) : ∀ (ns M : List α) (T : α → List α), (∀ a b, b ∈ T a ↔ Via R M a b) → ∀ a b, b ∈ (ns.foldl (fun T m => passT T m) T) a ↔ Via R (M ++ ns) a b
  | [], M, T, h, a, b => by rw [List.append_nil]; exact h a b
  | m :: ns, M, T, h, a, b => by
    have q := close_via R ns (M ++ [m]) (passT T m) (fun a b => by rw [passT_in, via_step, h, h, h]) a b
    rw [List.append_assoc] at q
    exact q
theorem via_nil {R : List (α × α)} {a b : α} : Via R [] a b ↔ (a, b) ∈ R := by
  constructor
  · intro v
    cases v with
    | one q => exact q
    | two _ h _ => cases h
  · exact .one
theorem close_in {R : List (α × α)} {ns : List α} {a b : α} : b ∈ closeT R ns a ↔ Via R ns a b := by
  have q := close_via R ns [] (tab0 R) (fun a b => by rw [tab0_in, via_nil]) a b
  rw [List.nil_append] at q
  exact q
theorem tab0_len (R : List (α × α)) (a : α) : (tab0 R a).length ≤ R.length := by
  unfold tab0
  rw [List.length_map]
  exact List.length_filter_le _ _
theorem close_len (R : List (α × α)) : ∀ (ns : List α) (T : α → List α) (n : Nat), (∀ a, (T a).length ≤ n) → ∀ a, ((ns.foldl (fun T m => passT T m) T) a).length ≤ 2 ^ ns.length * n
  | [], T, n, h, a => by simpa using h a
  | m :: ns, T, n, h, a => by
    have q := close_len R ns (passT T m) (2 * n) (passT_len h) a
    rw [List.length_cons, Nat.pow_succ, Nat.mul_assoc]
    exact q
/-- what a name tells, in the order of the names -/
def toldOf (R : List (α × α)) (ns : List α) (a : α) : List α := ns.filter fun b => decide (b ∈ closeT R ns a)
theorem told_in {R : List (α × α)} {ns : List α} {a b : α} : b ∈ toldOf R ns a ↔ b ∈ ns ∧ Via R ns a b := by
  unfold toldOf
  rw [List.mem_filter]
  constructor
  · rintro ⟨h1, h2⟩
    exact ⟨h1, close_in.mp (of_decide_eq_true h2)⟩
  · rintro ⟨h1, h2⟩
    exact ⟨h1, decide_eq_true (close_in.mpr h2)⟩
/-! steps one behind the other -/
inductive Steps (R : List (α × α)) : Nat → α → α → Prop
  | one {a b : α} : (a, b) ∈ R → Steps R 1 a b
  | more {a m b : α} {k : Nat} : (a, m) ∈ R → Steps R k m b → Steps R (k + 1) a b
theorem Steps.app {R : List (α × α)} {k l : Nat} {a m b : α} (h : Steps R k a m) (g : Steps R l m b) : Steps R (k + l) a b := by
  induction h with
  | one q => rw [Nat.add_comm]; exact .more q g
  | more q _ ih =>
    rw [Nat.add_right_comm]
    exact .more q (ih g)
theorem via_steps {R : List (α × α)} {M : List α} {a b : α} (v : Via R M a b) : ∃ k, Steps R k a b := by
  induction v with
  | one q => exact ⟨1, .one q⟩
  | two _ _ _ ih1 ih2 =>
    obtain ⟨k, h⟩ := ih1
    obtain ⟨l, g⟩ := ih2
    exact ⟨k + l, h.app g⟩
theorem steps_via {R : List (α × α)} {M : List α} (hM : ∀ p ∈ R, p.2 ∈ M) {k : Nat} {a b : α} (h : Steps R k a b) : Via R M a b := by
  induction h with
  | one q => exact .one q
  | more q _ ih => exact .two (.one q) (hM _ q) ih
theorem steps_rank {R : List (α × α)} {rk : α → Nat} (hr : ∀ p ∈ R, rk p.1 < rk p.2) {k : Nat} {a b : α} (h : Steps R k a b) : rk a + k ≤ rk b := by
  induction h with
  | one q => exact hr _ q
  | more q _ ih =>
    have := hr _ q
    dsimp only at this
    omega
theorem via_pos {R : List (α × α)} {k : Nat} {a b : α} (h : Steps R k a b) : 1 ≤ k := by
  cases h <;> omega
/-- without a ring nobody tells itself -/
theorem no_ring {R : List (α × α)} {M : List α} {rk : α → Nat} (hr : ∀ p ∈ R, rk p.1 < rk p.2) (a : α) : ¬ Via R M a a := fun v => by
  obtain ⟨k, h⟩ := via_steps v
  have h1 := steps_rank hr h
  have h2 := via_pos h
  omega
theorem via_any {R : List (α × α)} {M M' : List α} (hM : ∀ p ∈ R, p.2 ∈ M') {a b : α} (v : Via R M a b) : Via R M' a b := by
  obtain ⟨k, h⟩ := via_steps v
  exact steps_via hM h
/-! the law's own table -/
def updT (T : α → List α) (o : α) (l : List α) : α → List α := fun a => if a = o then l else T a
/-- one far name for one own -/
def farT (o : α) (T : α → List α) (far : α) : α → List α := updT T o (T o ++ (T far).filter fun b => decide (b ∉ T o))
def ownT (T : α → List α) (o : α) : α → List α := (T o).foldl (farT o) T
def roundT (ns : List α) (T : α → List α) : α → List α := ns.foldl ownT T
def lawT (R : List (α × α)) (ns : List α) (k : Nat) : α → List α := (List.range k).foldl (fun T _ => roundT ns T) (tab0 R)
def lawTold (R : List (α × α)) (ns : List α) (a : α) : List α := ns.filter fun b => decide (b ∈ lawT R ns ns.length a)
theorem farT_ne {o a : α} {T : α → List α} {far : α} (h : a ≠ o) : farT o T far a = T a := if_neg h
theorem farT_in {o : α} {T : α → List α} {far b : α} : b ∈ farT o T far o ↔ b ∈ T o ∨ b ∈ T far := by
  show b ∈ (if o = o then _ else _) ↔ _
  rw [if_pos rfl, List.mem_append]
  constructor
  · rintro (h | h)
    · exact .inl h
    · exact .inr (List.mem_filter.mp h).1
  · rintro (h | h)
    · exact .inl h
    · by_cases q : b ∈ T o
      · exact .inl q
      · exact .inr (List.mem_filter.mpr ⟨h, decide_eq_true q⟩)
theorem farT_up {o : α} {T : α → List α} {far a b : α} (h : b ∈ T a) : b ∈ farT o T far a := by
  by_cases e : a = o
  · subst e
    exact farT_in.mpr (.inl h)
  · rw [farT_ne e]
    exact h
theorem fars_up {o : α} : ∀ (l : List α) {T : α → List α} {a b : α}, b ∈ T a → b ∈ (l.foldl (farT o) T) a
  | [], _, _, _, h => h
  | f :: l, T, a, b, h => fars_up l (farT_up h)
theorem fars_ne {o a : α} (h : a ≠ o) : ∀ (l : List α) {T : α → List α}, (l.foldl (farT o) T) a = T a
  | [], _ => rfl
  | f :: l, T => by
    show (l.foldl (farT o) (farT o T f)) a = T a
    rw [fars_ne h l, farT_ne h]
theorem fars_all {o : α} : ∀ (l : List α) {T : α → List α} {far b : α}, far ∈ l → b ∈ T far → b ∈ (l.foldl (farT o) T) o
  | [], _, _, _, h, _ => by cases h
  | f :: l, T, far, b, h, hb => by
    show b ∈ (l.foldl (farT o) (farT o T f)) o
    rcases List.mem_cons.mp h with e | h
    · subst e
      exact fars_up l (farT_in.mpr (.inr hb))
    · exact fars_all l h (farT_up hb)
theorem ownT_up {o a b : α} {T : α → List α} (h : b ∈ T a) : b ∈ ownT T o a := fars_up _ h
theorem round_up : ∀ (ns : List α) {T : α → List α} {a b : α}, b ∈ T a → b ∈ roundT ns T a
  | [], _, _, _, h => h
  | o :: ns, T, a, b, h => round_up ns (ownT_up h)
theorem round_all : ∀ (ns : List α) {T : α → List α} {a m b : α}, a ∈ ns → m ∈ T a → b ∈ T m → b ∈ roundT ns T a
  | [], _, _, _, _, h, _, _ => by cases h
  | o :: ns, T, a, m, b, h, hm, hb => by
    show b ∈ roundT ns (ownT T o) a
    rcases List.mem_cons.mp h with e | h
    · subst e
      exact round_up ns (fars_all _ hm hb)
    · exact round_all ns h (ownT_up hm) (ownT_up hb)
/-- what the table holds follows -/
def Sound (R : List (α × α)) (M : List α) (T : α → List α) : Prop := ∀ a b, b ∈ T a → Via R M a b
theorem far_sound {R : List (α × α)} {M : List α} {T : α → List α} {o far : α} (s : Sound R M T) (hv : Via R M o far) (hf : far ∈ M) : Sound R M (farT o T far) := fun a b h => by
  by_cases e : a = o
  · subst e
    rcases farT_in.mp h with h | h
    · exact s _ _ h
    · exact .two hv hf (s _ _ h)
  · rw [farT_ne e] at h
    exact s _ _ h
theorem via_snd {R : List (α × α)} {M : List α} (hM : ∀ p ∈ R, p.2 ∈ M) {a b : α} (v : Via R M a b) : b ∈ M := by
  induction v with
  | one q => exact hM _ q
  | two _ _ _ _ ih => exact ih
theorem fars_sound {R : List (α × α)} {M : List α} (hM : ∀ p ∈ R, p.2 ∈ M) {o : α} : ∀ (l : List α) {T : α → List α}, Sound R M T → (∀ f ∈ l, Via R M o f) → Sound R M (l.foldl (farT o) T)
  | [], _, s, _ => s
  | f :: l, T, s, h => fars_sound hM l (far_sound s (h f List.mem_cons_self) (via_snd hM (h f List.mem_cons_self))) fun g hg => h g (List.mem_cons_of_mem _ hg)
theorem own_sound {R : List (α × α)} {M : List α} (hM : ∀ p ∈ R, p.2 ∈ M) {T : α → List α} {o : α} (s : Sound R M T) : Sound R M (ownT T o) := fars_sound hM _ s fun f h => s _ _ h
theorem round_sound {R : List (α × α)} {M : List α} (hM : ∀ p ∈ R, p.2 ∈ M) : ∀ (ns : List α) {T : α → List α}, Sound R M T → Sound R M (roundT ns T)
  | [], _, s => s
  | o :: ns, T, s => round_sound hM ns (own_sound hM s)
theorem law_sound {R : List (α × α)} {ns : List α} (hM : ∀ p ∈ R, p.2 ∈ ns) : ∀ k, Sound R ns (lawT R ns k)
  | 0 => fun a b h => .one (tab0_in.mp h)
  | k + 1 => by
    unfold lawT
    rw [List.range_succ, List.foldl_append]
    exact round_sound hM ns (law_sound hM k)
theorem law_all {R : List (α × α)} {ns : List α} (h1 : ∀ p ∈ R, p.1 ∈ ns) : ∀ (k l : Nat) (a b : α), l ≤ k + 1 → Steps R l a b → b ∈ lawT R ns k a
  | 0, l, a, b, hl, h => by
    cases h with
    | one q => exact tab0_in.mpr q
    | more q g =>
      have := via_pos g
      omega
  | k + 1, l, a, b, hl, h => by
    have e : lawT R ns (k + 1) = roundT ns (lawT R ns k) := by
      unfold lawT
      rw [List.range_succ, List.foldl_append]
      rfl
    rw [e]
    cases h with
    | one q => exact round_up ns (law_all h1 k 1 a b (by omega) (.one q))
    | @more a m b l' q g => exact round_all ns (h1 _ q) (law_all h1 k 1 a m (by omega) (.one q)) (law_all h1 k l' m b (by omega) g)
/-- the law's table and the program's tell the same -/
theorem law_told {R : List (α × α)} {ns : List α} {rk : α → Nat} (h1 : ∀ p ∈ R, p.1 ∈ ns) (h2 : ∀ p ∈ R, p.2 ∈ ns) (hr : ∀ p ∈ R, rk p.1 < rk p.2) (hb : ∀ p ∈ R, rk p.2 ≤ ns.length) (a : α) : lawTold R ns a = toldOf R ns a := by
  unfold lawTold toldOf
  refine List.filter_congr fun b _ => decide_eq_decide.mpr ?_
  rw [close_in]
  constructor
  · exact law_sound h2 ns.length a b
  · intro v
    obtain ⟨k, g⟩ := via_steps v
    refine law_all h1 ns.length k a b ?_ g
    have q := steps_rank hr g
    have : rk b ≤ ns.length := by
      have key : ∀ {k : Nat} {a b : α}, Steps R k a b → rk b ≤ ns.length := by
        intro k a b g
        induction g with
        | one q => exact hb _ q
        | more _ _ ih => exact ih
      exact key g
    omega
/-- lists with two of a kind at most in the law's table -/
def Fine (ns : List α) (T : α → List α) : Prop := ∀ a, (∀ b, (T a).count b ≤ 2) ∧ ∀ b ∈ T a, b ∈ ns
theorem fine_far {ns : List α} {T : α → List α} {o far : α} (f : Fine ns T) : Fine ns (farT o T far) := fun a => by
  by_cases e : a = o
  · subst e
    refine ⟨fun b => ?_, fun b h => ?_⟩
    · show (if a = a then _ else _ : List α).count b ≤ 2
      rw [if_pos rfl, List.count_append]
      by_cases hb : b ∈ T a
      · have z : List.count b (List.filter (fun c => decide (c ∉ T a)) (T far)) = 0 := List.count_eq_zero.mpr fun h => absurd hb (of_decide_eq_true (List.mem_filter.mp h).2)
        rw [z]
        exact (f a).1 b
      · rw [List.count_eq_zero.mpr hb, Nat.zero_add]
        exact Nat.le_trans (List.Sublist.count_le _ List.filter_sublist) ((f far).1 b)
    · rcases farT_in.mp h with h | h
      · exact (f _).2 b h
      · exact (f _).2 b h
  · rw [farT_ne e]
    exact f a
theorem len_cut (n : α) : ∀ l : List α, l.length = l.count n + (l.filter fun x => decide (x ≠ n)).length
  | [] => rfl
  | x :: l => by
    have q := len_cut n l
    by_cases e : x = n
    · subst e
      rw [List.filter_cons, if_neg (by simp), List.count_cons_self, List.length_cons]
      omega
    · rw [List.filter_cons, if_pos (decide_eq_true e), List.count_cons_of_ne e, List.length_cons, List.length_cons]
      omega
theorem two_len : ∀ (m l : List α), (∀ b, l.count b ≤ 2) → (∀ x ∈ l, x ∈ m) → l.length ≤ 2 * m.length
  | [], l, _, h => by
    cases l with
    | nil => exact Nat.le_refl _
    | cons x l => exact absurd (h x List.mem_cons_self) List.not_mem_nil
  | n :: m, l, c, h => by
    have q := two_len m (l.filter fun x => decide (x ≠ n)) (fun b => Nat.le_trans (List.Sublist.count_le _ List.filter_sublist) (c b)) fun x hx => by
      obtain ⟨h1, h2⟩ := List.mem_filter.mp hx
      exact (List.mem_cons.mp (h x h1)).resolve_left (of_decide_eq_true h2)
    have e := len_cut n l
    have k := c n
    rw [List.length_cons]
    omega
theorem fine_len {ns : List α} {T : α → List α} (f : Fine ns T) (a : α) : (T a).length ≤ 2 * ns.length := two_len _ _ (f a).1 (f a).2
theorem fine_tab0 {R : List (α × α)} {ns : List α} (nd : ∀ a b, (tab0 R a).count b ≤ 2) (h2 : ∀ p ∈ R, p.2 ∈ ns) : Fine ns (tab0 R) := fun a => ⟨nd a, fun b h => h2 _ (tab0_in.mp h)⟩
theorem tab0_nd {R : List (α × α)} (nd : R.Nodup) (a : α) : (tab0 R a).Nodup := by
  unfold tab0
  induction R with
  | nil => exact List.nodup_nil
  | cons p R ih =>
    obtain ⟨n1, n2⟩ := List.nodup_cons.mp nd
    have q := ih n2
    rw [List.filter_cons]
    split
    · rename_i hp
      rw [List.map_cons]
      refine List.nodup_cons.mpr ⟨fun hm => ?_, q⟩
      obtain ⟨p', h1, h3⟩ := List.mem_map.mp hm
      obtain ⟨h4, h5⟩ := List.mem_filter.mp h1
      have e1 : p.1 = a := of_decide_eq_true hp
      have e2 : p'.1 = a := of_decide_eq_true h5
      have e3 : p' = p := Prod.ext (e2.trans e1.symm) h3
      exact n1 (e3 ▸ h4)
    · exact q
theorem told_len (R : List (α × α)) (ns : List α) (a : α) : (toldOf R ns a).length ≤ ns.length := List.length_filter_le _ _
end
end Jd
namespace Jd
open PySem PySem.Spec PyProof.Rows L2
/-! ### tables: dicts by names -/
theorem fl_str {xs : List Str} : (xs.map V.str).all flatV = true := by
  rw [List.all_eq_true]
  intro x hx
  obtain ⟨z, _, rfl⟩ := List.mem_map.mp hx
  rfl
theorem inV_str (z : Str) (xs : List Str) : inV (.str z) (xs.map V.str) = decide (z ∈ xs) := by
  unfold inV
  induction xs with
  | nil => rfl
  | cons x xs ih =>
    rw [List.map_cons, List.any_cons, ih]
    show ((x == z) || _) = _
    by_cases h : x = z
    · subst h
      simp
    · have h' : ¬ z = x := fun q => h q.symm
      have hb : (x == z) = false := by
        cases e : (x == z) with
        | false => rfl
        | true => exact absurd (eq_of_beq e) h
      rw [hb, Bool.false_or]
      exact decide_eq_decide.mpr (by simp [h'])
theorem fm_bind {α : Type} {l : List α} (h : α → Option V) : (List.range l.length).filterMap (fun i => (l[i]?).bind h) = l.filterMap h := by
  have key : ∀ k, k ≤ l.length → (List.range k).filterMap (fun i => (l[i]?).bind h) = (l.take k).filterMap h := by
    intro k
    induction k with
    | zero => intro _; rfl
    | succ k ih =>
      intro hk
      have hl : k < l.length := hk
      have e : l[k]? = some l[k] := List.getElem?_eq_getElem hl
      rw [fm_step, ih (Nat.le_of_lt hl), e, List.take_add_one, e, List.filterMap_append]
      congr 1
      show (match h l[k] with
        | some y => [y]
        | none => []) = List.filterMap h [l[k]]
      cases q : h l[k] with
      | none => rw [List.filterMap_cons_none q]; rfl
      | some y => rw [List.filterMap_cons_some q]; rfl
  have q := key l.length (Nat.le_refl _)
  rw [List.take_length] at q
  exact q
theorem fm_filter {l : List Str} {p : Str → Bool} : l.filterMap (fun o => if p o = true then some (V.str o) else none) = (l.filter p).map V.str := by
  induction l with
  | nil => rfl
  | cons x l ih =>
    by_cases h : p x = true
    · rw [List.filterMap_cons_some (by rw [if_pos h]), List.filter_cons_of_pos h, List.map_cons, ih]
    · rw [List.filterMap_cons_none (by rw [if_neg h]), List.filter_cons_of_neg h, ih]
theorem fm_tab0 {R : List (Str × Str)} {n : Str} : R.filterMap (fun pr => if pr.1 = n then some (V.str pr.2) else none) = (tab0 R n).map V.str := by
  unfold tab0
  induction R with
  | nil => rfl
  | cons x l ih =>
    by_cases h : x.1 = n
    · rw [List.filterMap_cons_some (by rw [if_pos h]), List.filter_cons_of_pos (by rw [decide_eq_true h]), List.map_cons, List.map_cons, ih]
    · rw [List.filterMap_cons_none (by rw [if_neg h]), List.filter_cons_of_neg (by rw [decide_eq_false h]; decide), ih]
def kvT (ns : List Str) (A : Str → Addr) : List (Key × V) := ns.map fun n => (Sum.inr n, V.ref (A n))
theorem kvT_len (ns : List Str) (A : Str → Addr) : (kvT ns A).length = ns.length := List.length_map ..
theorem valV_kvT {n : Str} {A : Str → Addr} : ∀ {ns : List Str}, n ∈ ns → valV (kvT ns A) (Sum.inr n) = some (.ref (A n))
  | [], h => by cases h
  | m :: ns, h => by
    show valV ((Sum.inr m, V.ref (A m)) :: kvT ns A) (Sum.inr n) = _
    by_cases e : m = n
    · subst e
      exact valV_pos rfl
    · rw [valV_neg (fun q => e (Sum.inr.inj q))]
      exact valV_kvT ((List.mem_cons.mp h).resolve_left fun q => e q.symm)
theorem valV_kvN {n : Str} {A : Str → Addr} : ∀ {ns : List Str}, n ∉ ns → valV (kvT ns A) (Sum.inr n) = none
  | [], h => rfl
  | m :: ns, h => by
    show valV ((Sum.inr m, V.ref (A m)) :: kvT ns A) (Sum.inr n) = _
    have e : m ≠ n := fun q => h (q ▸ List.mem_cons_self)
    rw [valV_neg (fun q => e (Sum.inr.inj q))]
    exact valV_kvN fun q => h (List.mem_cons_of_mem _ q)
/-- A changed at n -/
def atA (A : Str → Addr) (n : Str) (p : Addr) : Str → Addr := fun m => if m = n then p else A m
theorem atA_at {A : Str → Addr} {n : Str} {p : Addr} : atA A n p n = p := if_pos rfl
theorem atA_ne {A : Str → Addr} {n m : Str} {p : Addr} (h : m ≠ n) : atA A n p m = A m := if_neg h
theorem putK_old {n : Str} {A : Str → Addr} {p : Addr} {ns : List Str} (h : n ∈ ns) : putK (kvT ns A) (Sum.inr n) (.ref p) = kvT ns (atA A n p) := by
  unfold putK
  have e : ((kvT ns A).any fun kv => decide (kv.1 = Sum.inr n)) = true := by
    rw [List.any_eq_true]
    exact ⟨(Sum.inr n, V.ref (A n)), List.mem_map.mpr ⟨n, h, rfl⟩, decide_eq_true rfl⟩
  rw [if_pos e]
  unfold kvT
  rw [List.map_map]
  refine List.map_congr_left fun m _ => ?_
  show (if (Sum.inr m : Key) = Sum.inr n then ((Sum.inr m : Key), V.ref p) else (Sum.inr m, V.ref (A m))) = (Sum.inr m, V.ref (atA A n p m))
  by_cases q : m = n
  · subst q
    rw [if_pos rfl, atA_at]
  · rw [if_neg (fun z => q (Sum.inr.inj z)), atA_ne q]
theorem putK_new {n : Str} {A : Str → Addr} {p : Addr} {ns : List Str} (h : n ∉ ns) : putK (kvT ns A) (Sum.inr n) (.ref p) = kvT (ns ++ [n]) (atA A n p) := by
  unfold putK
  have e : ((kvT ns A).any fun kv => decide (kv.1 = Sum.inr n)) = false := by
    rw [List.any_eq_false]
    intro kv hk q
    obtain ⟨m, hm, rfl⟩ := List.mem_map.mp hk
    exact h (Sum.inr.inj (of_decide_eq_true q) ▸ hm)
  rw [e, if_neg Bool.false_ne_true]
  unfold kvT
  rw [List.map_append]
  congr 1
  · refine List.map_congr_left fun m hm => ?_
    rw [atA_ne (fun (q : m = n) => h (q ▸ hm))]
  · show [((Sum.inr n : Key), V.ref p)] = [((Sum.inr n : Key), V.ref (atA A n p n))]
    rw [atA_at]
/-- a dict of lists -/
structure TabA (H : Hp) (d : Addr) (ns : List Str) (A : Str → Addr) (T : Str → List Str) : Prop where
  at_ : H d = some (.dK (kvT ns A))
  lst : ∀ n ∈ ns, H (A n) = some (.lst ((T n).map V.str))
theorem TabA.same {H H' : Hp} {d : Addr} {ns : List Str} {A : Str → Addr} {T : Str → List Str} (s : Same H H') (t : TabA H d ns A T) : TabA H' d ns A T := ⟨s _ _ t.at_, fun n h => s _ _ (t.lst n h)⟩
theorem TabA.congr {H : Hp} {d : Addr} {ns : List Str} {A : Str → Addr} {T T' : Str → List Str} (t : TabA H d ns A T) (e : ∀ n ∈ ns, T n = T' n) : TabA H d ns A T' := ⟨t.at_, fun n h => by rw [← e n h]; exact t.lst n h⟩
theorem TabA.get {H : Hp} {d : Addr} {ns : List Str} {A : Str → Addr} {T : Str → List Str} (t : TabA H d ns A T) {n : Str} (h : n ∈ ns) : DGet H d (.str n) (some (.ref (A n))) := by
  have q := DGet.k (k := Sum.inr n) t.at_
  rw [valV_kvT h] at q
  exact q
theorem TabA.put_old {H : Hp} {d D : Addr} {ns : List Str} {A : Str → Addr} {T : Str → List Str} (t : TabA H d ns A T) {n : Str} {l : List Str} (h : n ∈ ns) (hD : H D = some (.lst (l.map V.str))) :
    TabA (upd H d (.dK (putK (kvT ns A) (Sum.inr n) (.ref D)))) d ns (atA A n D) (fun m => if m = n then l else T m) := by
  refine ⟨by rw [upd_same, putK_old h], fun m hm => ?_⟩
  by_cases e : m = n
  · subst e
    rw [atA_at, if_pos rfl, upd_ne (ne_of hD t.at_ (by intro z; cases z))]
    exact hD
  · rw [atA_ne e, if_neg e, upd_ne (ne_of (t.lst m hm) t.at_ (by intro z; cases z))]
    exact t.lst m hm
theorem TabA.put_new {H : Hp} {d D : Addr} {ns : List Str} {A : Str → Addr} {T : Str → List Str} (t : TabA H d ns A T) {n : Str} (h : n ∉ ns) (hD : H D = some (.lst ((T n).map V.str))) :
    TabA (upd H d (.dK (putK (kvT ns A) (Sum.inr n) (.ref D)))) d (ns ++ [n]) (atA A n D) T := by
  refine ⟨by rw [upd_same, putK_new h], fun m hm => ?_⟩
  by_cases e : m = n
  · subst e
    rw [atA_at, upd_ne (ne_of hD t.at_ (by intro z; cases z))]
    exact hD
  · have hm' : m ∈ ns := (List.mem_append.mp hm).resolve_right fun q => e (List.mem_singleton.mp q)
    rw [atA_ne e, upd_ne (ne_of (t.lst m hm') t.at_ (by intro z; cases z))]
    exact t.lst m hm'
/-- the i-th name is none of those ahead -/
theorem nd_take {ns : List Str} (nd : ns.Nodup) {i : Nat} {n : Str} (h : ns[i]? = some n) : n ∉ ns.take i := fun q => by
  obtain ⟨j, hj, e⟩ := List.mem_iff_getElem.mp q
  obtain ⟨hi, e2⟩ := List.getElem?_eq_some_iff.mp h
  rw [List.length_take] at hj
  rw [List.getElem_take] at e
  have := (List.getElem_inj nd).mp (e.trans e2.symm)
  omega
theorem take_next {ns : List Str} {i : Nat} {n : Str} (h : ns[i]? = some n) : ns.take (i + 1) = ns.take i ++ [n] := by
  rw [List.take_add_one, h]
  rfl
theorem at_str {ns : List Str} {i : Nat} {x : V} (h : (ns.map V.str)[i]? = some x) : ∃ n, ns[i]? = some n ∧ x = .str n := by
  rw [List.getElem?_map] at h
  cases q : ns[i]? with
  | none => rw [q] at h; cases h
  | some n => rw [q] at h; exact ⟨n, rfl, (Option.some.inj h).symm⟩
theorem at_ref {ps : List Addr} {i : Nat} {x : V} (h : (ps.map V.ref)[i]? = some x) : ∃ p, ps[i]? = some p ∧ x = .ref p := by
  rw [List.getElem?_map] at h
  cases q : ps[i]? with
  | none => rw [q] at h; cases h
  | some n => rw [q] at h; exact ⟨n, rfl, (Option.some.inj h).symm⟩
/-- tellings as they are handed in -/
def Tells (K : PySem.W.Frag) (H : Hp) (te : Addr) (R : List (Str × Str)) : Prop := ∃ ps : List Addr, Sq K H te (ps.map V.ref) ∧ ps.length = R.length ∧
  ∀ (i : Nat) (p : Addr), ps[i]? = some p → ∃ pr, R[i]? = some pr ∧ Sq K H p [.str pr.1, .str pr.2]
theorem Tells.same {K : PySem.W.Frag} {H H' : Hp} {te : Addr} {R : List (Str × Str)} (s : Same H H') (t : Tells K H te R) : Tells K H' te R := by
  obtain ⟨ps, h1, h2, h3⟩ := t
  exact ⟨ps, h1.same s, h2, fun i p hp => let ⟨pr, e, q⟩ := h3 i p hp; ⟨pr, e, q.same s⟩⟩
theorem Tells.keep {K : PySem.W.Frag} {u : Addr} {H H' : Hp} {te : Addr} {R : List (Str × Str)} {C dx : Addr} {fs : List (Str × V)} (hu : H u = some (.ins C dx fs)) (k : ∀ b o, b ≠ u → H b = some o → H' b = some o) (t : Tells K H te R) : Tells K H' te R := by
  obtain ⟨ps, h1, h2, h3⟩ := t
  exact ⟨ps, h1.keep hu k, h2, fun i p hp => let ⟨pr, e, q⟩ := h3 i p hp; ⟨pr, e, q.keep hu k⟩⟩
theorem Tells.nil {K : PySem.W.Frag} {H : Hp} {te : Addr} (h : Sq K H te []) : Tells K H te [] := ⟨[], h, rfl, fun i p hp => by cases hp⟩
end Jd
namespace Jd
open PySem PySem.Spec PyProof.Rows L2
/-! ### _all_told -/
theorem Same_lay2 {H H' : Hp} {a : Addr} {o : HO} (s : Same H H') (n : H' a = none) : Same H (upd H' a o) := fun b u q => by
  rw [upd_ne (ne_of_none (s b u q) n)]
  exact s b u q
def retScope : List Stmt → Scope
  | [.Return (some (.DictComp _ _ _ sc _)) _] => sc
  | _ :: r => retScope r
  | [] => { kind := .function, names := [], isGenerator := false, isCoroutine := false }
def retVal : List Stmt → Expr
  | [.Return (some (.DictComp _ v _ _ _)) _] => v
  | _ :: r => retVal r
  | [] => .Name "" ⟨0, 0, 0, 0⟩
def argScope : Expr → Scope
  | .Call _ [.ListComp _ _ sc _] _ _ => sc
  | _ => { kind := .function, names := [], isGenerator := false, isCoroutine := false }
abbrev N7 : List Str := ["names", "tells", "told", "name", "teller", "other", "middle"]
/-- tuple(a sequence) -/
def rTupOf (K : PySem.W.Frag) : List V → Hp → VK → Prop := fun xs H Q => ∃ p ys, xs = [V.ref p] ∧ ((SqL K H p ys ∧ ∀ l, H l = none → Q (.ref l) (upd H l (.tup ys))) ∨ (SqT K H p ys ∧ Q (.ref p) H))
/-- the row of one name -/
def tRow (K : PySem.W.Frag) : TE := tCB (rTupOf K) (tCons (tLc (iTup K (tVar 0)) (gName 5) (tTest (tOp (rIn K false) (tVar 5) (tDGet (tVar 2) (tVar 3)))) (tVar 5) [5]) tNil)
def spAT (K : PySem.W.Frag) : Sp := fun vs H Q _ => ∃ (t te : Addr) (ns : List Str) (R : List (Str × Str)), vs = [.ref t, .ref te] ∧ SqT K H t (ns.map V.str) ∧ ns.Nodup ∧ ns.length ≤ 7 ∧ Tells K H te R ∧ R.length ≤ 64 ∧
  ∀ H' d A, Same H H' → H' d = some (.dK (kvT ns A)) → (∀ n ∈ ns, H' (A n) = some (.tup ((toldOf R ns n).map V.str))) → Q (.ref d) H'
def stT (R : List (Str × Str)) (M : List Str) : Str → List Str := M.foldl (fun T m => passT T m) (tab0 R)
theorem stT_len {R : List (Str × Str)} {M : List Str} (h1 : M.length ≤ 7) (h2 : R.length ≤ 64) (a : Str) : (stT R M a).length ≤ 8192 := by
  have q := close_len R M (tab0 R) R.length (tab0_len R) a
  have p : 2 ^ M.length ≤ 2 ^ 7 := Nat.pow_le_pow_right (by decide) h1
  have q2 : 2 ^ M.length * R.length ≤ 2 ^ 7 * 64 := Nat.mul_le_mul p h2
  exact Nat.le_trans q q2
theorem stT_next {R : List (Str × Str)} {M : List Str} {m : Str} : stT R (M ++ [m]) = passT (stT R M) m := by
  unfold stT
  rw [List.foldl_append]
  rfl
section
variable {P : Program} {w : World} {K : PySem.W.Frag} {mg : Str → Option Value} {base : Heap}
theorem sc_at : FnScope ["names", "tells", "told", "name", "teller", "other", "middle"] ["names", "tells"] (defScope s__all_told) := ⟨rfl, rfl, rfl, by decide +kernel, rfl, by decide +kernel, by decide +kernel⟩
theorem ok_all_told (B : Bk K mg) : Df P w K mg base CX0 1 "_all_told" ["names", "tells"] (spAT K) := by
  obtain ⟨fd, F⟩ := B.F_all_told
  refine ⟨⟨fd, ?_, F.binds fun _ _ _ _ _ _ us hl => match us, hl with | [_, _], _ => rfl⟩, B.g_all_told, F.kp⟩
  refine F.ok sc_at (fun vs H Q E h => ?_) (fun cdv A outer s H vs Q E hr h => ?_)
  · obtain ⟨_, _, _, _, rfl, _⟩ := h
    rfl
  · obtain ⟨t, te, ns, R, rfl, ht, nd, h7, hte, h64, k⟩ := h
    have hu := hu_of hr
    have inner := fun (s' : Shared) (H' : Hp) (C : Addr) (cl : List (Str × Addr)) (fp : List Addr) => (show PE ((cxOf CX0 P w K mg base N7 "_all_told" (defScope s__all_told) (He.ga K "_all_told") cdv A outer s H E).nox.blk s' H' (retScope (defBody s__all_told)) (compEnvC (retScope (defBody s__all_told)) cl C (cxOf CX0 P w K mg base N7 "_all_told" (defScope s__all_told) (He.ga K "_all_told") cdv A outer s H E).nox.env) fp) (retVal (defBody s__all_told)) (tRow K) from
      pe_callTy call_tuple_of (by rfl) B.b_tuple (by decide +kernel) (pa_cons (pe_lc (own := [("other", 5)]) (g := gName 5) (tt := tTest (tOp (rIn K false) (tVar 5) (tDGet (tVar 2) (tVar 3)))) rfl sc_at.nd (pi_tup (pv 0)) (blkOk_by (N := N7) (sc := relS (retScope (defBody s__all_told)) (defScope s__all_told)) (scope := argScope (retVal (defBody s__all_told))) (own := [("other", 5)]) (by decide +kernel)) (fun _ _ _ _ _ => pg_name (i := 5) sc_at.nd rfl (Or.inl rfl)) (fun _ _ _ _ _ => pts_one (pt_cmpR op_in_seq (pv 5) (pe_dget hu (pv 2) (pv 3) (fun _ _ => rfl)) (by rfl))) (fun _ _ _ _ _ => pv 5)) pa_nil))
    refine ⟨_, pss_cons (ps_set (i := 2) sc_at.nd rfl (Or.inr rfl) pe_dnewK)
      (pss_cons (ps_for PassesOwn.never rfl (pi_tup (pv 0)) (pg_name (i := 3) sc_at.nd rfl (Or.inr rfl))
        (pss_one (ps_dput hu (pv 2) (pv 3) (pe_lc (own := [("teller", 4), ("other", 5)]) (g := gSq K 2 (gCons (gName 4) (gCons (gName 5) gNil))) (tt := tTest (tOp rEq (tVar 4) (tVar 3))) rfl sc_at.nd (pi_seq (pv 1)) (blkOk_by (N := ["names", "tells", "told", "name", "teller", "other", "middle"]) (sc := defScope s__all_told) (by decide +kernel))
          (fun _ _ _ _ _ => pg_sq (pg_tup rfl (pgs_cons (pg_name (i := 4) sc_at.nd rfl (Or.inl rfl)) (pgs_cons (pg_name (i := 5) sc_at.nd rfl (Or.inl rfl)) pgs_nil))) (pg_lst rfl (pgs_cons (pg_name (i := 4) sc_at.nd rfl (Or.inl rfl)) (pgs_cons (pg_name (i := 5) sc_at.nd rfl (Or.inl rfl)) pgs_nil)))) (fun _ _ _ _ _ => pts_one (pt_cmpR op_eq (pv 4) (pv 3) (nomark _))) (fun _ _ _ _ _ => pv 5)) rfl)))
      (pss_cons (ps_for PassesOwn.never rfl (pi_tup (pv 0)) (pg_name (i := 6) sc_at.nd rfl (Or.inl rfl))
        (pss_one (ps_for PassesOwn.never rfl (pi_tup (pv 0)) (pg_name (i := 3) sc_at.nd rfl (Or.inr rfl))
          (pss_one (ps_if (pt_cmpR op_in_seq (pv 6) (pe_dget hu (pv 2) (pv 3) (fun _ _ => rfl)) (by rfl))
            (pss_one (ps_dput hu (pv 2) (pv 3) (pe_op op_cat (pe_dget hu (pv 2) (pv 3) (fun _ _ => rfl))
              (pe_lc (own := [("other", 5)]) (g := gName 5) (tt := tTest (tOp (rIn K true) (tVar 5) (tDGet (tVar 2) (tVar 3)))) rfl sc_at.nd (pi_list (pe_dget hu (pv 2) (pv 6) (fun _ _ => rfl))) (blkOk_by (N := ["names", "tells", "told", "name", "teller", "other", "middle"]) (sc := defScope s__all_told) (by decide +kernel))
                (fun _ _ _ _ _ => pg_name (i := 5) sc_at.nd rfl (Or.inl rfl)) (fun _ _ _ _ _ => pts_one (pt_cmpR op_notIn_seq (pv 5) (pe_dget hu (pv 2) (pv 3) (fun _ _ => rfl)) (by rfl))) (fun _ _ _ _ _ => pv 5))) rfl)) pss_nil)))))
      (pss_one (ps_ret (pe_dc (own := [("name", 3)]) (g := gName 3) (tt := tYes) rfl sc_at.nd (pi_tup (pv 0)) (blkOk_by (N := ["names", "tells", "told", "name", "teller", "other", "middle"]) (sc := defScope s__all_told) (by decide +kernel))
          (fun _ _ _ _ _ => pg_name (i := 3) sc_at.nd rfl (Or.inr rfl)) (fun _ _ _ _ _ => pts_nil) (fun _ _ _ _ _ => pv 3)
          inner))))), ?_⟩
    refine fun d hd => ?_
    have s0 : Same H (upd H d (.dK [])) := Same_new hd
    obtain ⟨ps, hps, pl, hpp⟩ := hte
    refine ⟨_, rfl, t, rfl, ⟨_, Same_seqT s0 ht⟩, ?_⟩
    refine for_it (walk_tup (xs := ns.map V.str)) (fun i σ H' => ∃ (v3 v4 v5 v6 : Option V) (A : Str → Addr), σ = [some (.ref t), some (.ref te), some (.ref d), v3, v4, v5, v6] ∧ Same H H' ∧ TabA H' d (ns.take i) A (tab0 R))
      ⟨Option.none, Option.none, Option.none, Option.none, fun _ => 0, rfl, s0, upd_same, fun n h => by cases h⟩ (fun i σ H' _ ⟨_, _, _, _, _, _, s1, _⟩ => Same_seqT s1 ht)
      (fun i x σ H1 H2 hi ⟨v3, v4, v5, v6, A, e, s1, ta⟩ y => ?_) (fun σ H1 ⟨v3, v4, v5, v6, A, e, s1, ta⟩ => ?_)
    · obtain ⟨rfl, hx⟩ := y
      subst e
      obtain ⟨n, hn, rfl⟩ := at_str hx
      refine ⟨_, rfl, te, _, rfl, hps.same s1, fun J G wk hG D hD => ?_⟩
      have hl : (ps.map V.ref).length ≤ sizeLine := by
        rw [List.length_map, pl]
        exact Nat.le_trans h64 (by decide)
      refine lc_fm wk (fun i => (R[i]?).bind fun pr => if pr.1 = n then some (V.str pr.2) else Option.none) hD hl (fun H' s' => hG H' s') (fun j v H3 H4 Kt Kf hj s3 y kt kf => ?_) (fun H3 s3 hD3 => ?_)
      · obtain ⟨rfl, hv⟩ := y
        obtain ⟨p, hp, rfl⟩ := at_ref hv
        obtain ⟨pr, hpr, hq⟩ := hpp j p hp
        refine ⟨p, _, rfl, hq.same (s1.trans s3), rfl, _, _, rfl, _, _, rfl, rfl, rfl, _, rfl, _, rfl, rfl, _, rfl, two (fun h1 => ?_) (fun h1 => ?_)⟩
        · have e1 : pr.1 = n := V.str.inj (of_decide_eq_true h1)
          exact ⟨_, rfl, kt _ _ (by rw [hpr]; show (if pr.1 = n then _ else _) = _; rw [if_pos e1]) (Same.refl _)⟩
        · have e1 : ¬ pr.1 = n := fun q => of_decide_eq_false h1 (by rw [q])
          exact kf _ (by rw [hpr]; show (if pr.1 = n then _ else _) = _; rw [if_neg e1]) (Same.refl _)
      · have eD : (List.range (ps.map V.ref).length).filterMap (fun i => (R[i]?).bind fun pr => if pr.1 = n then some (V.str pr.2) else Option.none) = (tab0 R n).map V.str := by
          rw [List.length_map, pl, fm_bind, fm_tab0]
        rw [eD] at hD3
        have ta3 := ta.same s3
        refine ⟨_, rfl, _, rfl, d, _, rfl, DPut.k (k := Sum.inr n) ta3.at_ (by rw [kvT_len, List.length_take]; exact Nat.lt_of_le_of_lt (Nat.le_trans (Nat.min_le_right _ _) h7) (by decide)), ?_⟩
        have q := ta3.put_new (nd_take nd hn) hD3
        rw [← take_next hn] at q
        exact ⟨_, _, _, _, _, rfl, fun b o q => by
          rw [upd_ne (ne_of_none q hd)]
          exact s3 _ _ (s1 _ _ q), q⟩
    · subst e
      have ta1 : TabA H1 d ns A (tab0 R) := by
        have q := ta
        rw [List.length_map, List.take_length] at q
        exact q
      clear ta
      refine ⟨_, rfl, t, rfl, ⟨_, Same_seqT s1 ht⟩, ?_⟩
      refine for_it (walk_tup (xs := ns.map V.str)) (fun i σ H' => ∃ (v3 v4 v5 v6 : Option V) (A : Str → Addr), σ = [some (.ref t), some (.ref te), some (.ref d), v3, v4, v5, v6] ∧ Same H H' ∧ TabA H' d ns A (stT R (ns.take i)))
        ⟨_, _, _, _, A, rfl, s1, ta1⟩ (fun i σ H' _ ⟨_, _, _, _, _, _, s1, _⟩ => Same_seqT s1 ht)
        (fun i x σ H3 H2 hi ⟨w3, w4, w5, w6, A2, e, s2, ta2⟩ y => ?_) (fun σ H3 ⟨w3, w4, w5, w6, A2, e, s2, ta2⟩ => ?_)
      · obtain ⟨rfl, hx⟩ := y
        subst e
        obtain ⟨m, hm, rfl⟩ := at_str hx
        have hmi : m ∈ ns := List.mem_of_getElem? hm
        have hT : ∀ a, (stT R (ns.take i) a).length ≤ 8192 := stT_len (by rw [List.length_take]; exact Nat.le_trans (Nat.min_le_right _ _) h7) h64
        generalize hTe : stT R (ns.take i) = T at ta2 hT
        refine ⟨_, rfl, t, rfl, ⟨_, Same_seqT s2 ht⟩, ?_⟩
        refine for_it (walk_tup (xs := ns.map V.str)) (fun j σ H' => ∃ (v3 v4 v5 : Option V) (A : Str → Addr), σ = [some (.ref t), some (.ref te), some (.ref d), v3, v4, v5, some (.str m)] ∧ Same H H' ∧ TabA H' d ns A (fun a => if a ∈ ns.take j then passT T m a else T a))
          ⟨_, _, _, A2, rfl, s2, ta2.congr fun n _ => by rw [List.take_zero, if_neg List.not_mem_nil]⟩ (fun i σ H' _ ⟨_, _, _, _, _, s1, _⟩ => Same_seqT s1 ht)
          (fun j x σ H4 H5 hj ⟨u3, u4, u5, A3, e, s4, ta4⟩ y => ?_) (fun σ H4 ⟨u3, u4, u5, A3, e, s4, ta4⟩ => ?_)
        · obtain ⟨rfl, hx⟩ := y
          subst e
          obtain ⟨n, hn, rfl⟩ := at_str hx
          have hni : n ∈ ns := List.mem_of_getElem? hn
          have nn := nd_take nd hn
          have hAn := ta4.lst n hni
          have hAm := ta4.lst m hmi
          rw [if_neg nn] at hAn
          rw [passT_self, ite_self] at hAm
          refine ⟨_, rfl, _, rfl, _, rfl, d, _, rfl, ta4.get hni, _, _, rfl, .inl (SqL.of hAn), rfl, fl_str, _, rfl, two (fun h1 => ?_) (fun h1 => ?_)⟩
          · have h1' : inV (.str m) ((T n).map V.str) = true := h1
            rw [inV_str] at h1'
            have hin : m ∈ T n := of_decide_eq_true h1'
            refine ⟨_, rfl, _, rfl, d, _, rfl, ta4.get hni, _, rfl, _, rfl, d, _, rfl, ta4.get hmi, _, rfl, ⟨_, SqL.of hAm⟩, fun D hD => ?_⟩
            have hl : ((T m).map V.str).length ≤ sizeLine := by
              rw [List.length_map]
              exact Nat.le_trans (hT m) (by decide)
            refine lc_fm (walk_list (xs := (T m).map V.str)) (fun q => ((T m)[q]?).bind fun o => if decide (o ∉ T n) = true then some (V.str o) else Option.none) hD hl (fun H' s' => sm_seqL s' (SqL.of hAm)) (fun q v H6 H7 Kt Kf hq s6 y kt kf => ?_) (fun H6 s6 hD6 => ?_)
            · obtain ⟨rfl, hv⟩ := y
              obtain ⟨o, ho, rfl⟩ := at_str hv
              refine ⟨rfl, _, rfl, _, rfl, _, rfl, d, _, rfl, (ta4.same s6).get hni, _, _, rfl, .inl (SqL.of (s6 _ _ hAn)), rfl, fl_str, _, rfl, two (fun h2 => ?_) (fun h2 => ?_)⟩
              · have h2' : (!inV (.str o) ((T n).map V.str)) = true := h2
                rw [inV_str] at h2'
                have e1 : decide (o ∉ T n) = true := by
                  rw [decide_not]
                  exact h2'
                exact ⟨_, rfl, kt _ _ (by rw [ho]; show (if decide (o ∉ T n) = true then _ else _) = _; rw [if_pos e1]) (Same.refl _)⟩
              · have h2' : (!inV (.str o) ((T n).map V.str)) = false := h2
                rw [inV_str] at h2'
                have e1 : decide (o ∉ T n) = false := by
                  rw [decide_not]
                  exact h2'
                exact kf _ (by rw [ho]; show (if decide (o ∉ T n) = true then _ else _) = _; rw [e1, if_neg Bool.false_ne_true]) (Same.refl _)
            · have eD : (List.range ((T m).map V.str).length).filterMap (fun q => ((T m)[q]?).bind fun o => if decide (o ∉ T n) = true then some (V.str o) else Option.none) = ((T m).filter fun o => decide (o ∉ T n)).map V.str := by
                rw [List.length_map, fm_bind, fm_filter]
              rw [eD] at hD6
              have lF : ((T m).filter fun o => decide (o ∉ T n)).length ≤ 8192 := Nat.le_trans (List.length_filter_le _ _) (hT m)
              refine ⟨_, _, _, _, rfl, rfl, s6 _ _ hAn, hD6, ?_, fun p hp => ?_⟩
              · rw [List.length_map, List.length_map]
                have := hT n
                have : (16384 : Nat) ≤ sizeLine := by decide
                omega
              · have ta6 := (ta4.same s6).same (Same_new (o := HO.lst ((T n).map V.str ++ ((T m).filter fun o => decide (o ∉ T n)).map V.str)) hp)
                have hP : (upd H6 p (.lst ((T n).map V.str ++ ((T m).filter fun o => decide (o ∉ T n)).map V.str))) p = some (.lst ((T n ++ (T m).filter fun o => decide (o ∉ T n)).map V.str)) := by
                  rw [upd_same, List.map_append]
                have sp : Same H (upd H6 p (.lst ((T n).map V.str ++ ((T m).filter fun o => decide (o ∉ T n)).map V.str))) := Same_lay2 (s4.trans s6) hp
                refine ⟨_, rfl, _, rfl, d, _, rfl, DPut.k (k := Sum.inr n) ta6.at_ (by rw [kvT_len]; exact Nat.lt_of_le_of_lt h7 (by decide)), ?_⟩
                have q := ta6.put_old hni hP
                refine ⟨_, _, _, _, rfl, fun b o q => by
                  rw [upd_ne (ne_of_none q hd)]
                  exact sp _ _ q, q.congr fun a ha => ?_⟩
                rw [take_next hn]
                by_cases ea : a = n
                · subst ea
                  rw [if_pos rfl, if_pos (List.mem_append.mpr (.inr (List.mem_singleton.mpr rfl)))]
                  unfold passT
                  rw [if_pos hin]
                · rw [if_neg ea]
                  by_cases eb : a ∈ ns.take j
                  · rw [if_pos eb, if_pos (List.mem_append.mpr (.inl eb))]
                  · rw [if_neg eb, if_neg fun z => (List.mem_append.mp z).elim eb fun z => ea (List.mem_singleton.mp z)]
          · have h1' : inV (.str m) ((T n).map V.str) = false := h1
            rw [inV_str] at h1'
            have hin : m ∉ T n := of_decide_eq_false h1'
            refine ⟨_, _, _, A3, rfl, s4, ta4.congr fun a ha => ?_⟩
            rw [take_next hn]
            by_cases ea : a = n
            · subst ea
              rw [if_neg nn, if_pos (List.mem_append.mpr (.inr (List.mem_singleton.mpr rfl)))]
              unfold passT
              rw [if_neg hin]
            · by_cases eb : a ∈ ns.take j
              · rw [if_pos eb, if_pos (List.mem_append.mpr (.inl eb))]
              · rw [if_neg eb, if_neg fun z => (List.mem_append.mp z).elim eb fun z => ea (List.mem_singleton.mp z)]
        · subst e
          refine ⟨_, _, _, _, A3, rfl, s4, ta4.congr fun a ha => ?_⟩
          rw [take_next hm, stT_next, hTe, List.length_map, List.take_length]
          rw [if_pos ha]
      · subst e
        have ta3 : TabA H3 d ns A2 (closeT R ns) := by
          have q := ta2
          rw [List.length_map, List.take_length] at q
          exact q
        have hT : ∀ a, (closeT R ns a).length ≤ 8192 := stT_len h7 h64
        refine ⟨_, rfl, t, rfl, ⟨_, Same_seqT s2 ht⟩, fun D hD => ?_⟩
        refine dc_tup (xs := ns.map V.str) (fun i H' => Same H3 H' ∧ ∃ A4 : Str → Addr, H' D = some (.dK (kvT (ns.take i) A4)) ∧ ∀ n ∈ ns.take i, H' (A4 n) = some (.tup ((toldOf R ns n).map V.str)))
          ⟨Same_new hD, fun _ => 0, upd_same, fun n h => by cases h⟩ (fun i H' _ ⟨s', _⟩ => Same_seqT (s2.trans s') ht) (fun i x H4 hx ⟨s4, A4, hD4, hr4⟩ => ?_) (fun H4 ⟨s4, A4, hD4, hr4⟩ => ?_)
        · obtain ⟨n, hn, rfl⟩ := at_str hx
          have hni : n ∈ ns := List.mem_of_getElem? hn
          refine ⟨rfl, ?_⟩
          refine iteT (B := ∃ z : Nat, z = 0) ?_
          have hAn := s4 _ _ (ta3.lst n hni)
          refine ⟨_, rfl, _, rfl, t, rfl, ⟨_, Same_seqT (s2.trans s4) ht⟩, fun D2 hD2 => ?_⟩
          refine lc_fm (walk_tup (xs := ns.map V.str)) (fun q => (ns[q]?).bind fun o => if decide (o ∈ closeT R ns n) = true then some (V.str o) else Option.none) hD2 (by rw [List.length_map]; exact Nat.le_trans h7 (by decide)) (fun H' s' => Same_seqT ((s2.trans s4).trans s') ht) (fun q v H5 H6 Kt Kf hq s5 y kt kf => ?_) (fun H5 s5 hD5 => ?_)
          · obtain ⟨rfl, hv⟩ := y
            obtain ⟨o, ho, rfl⟩ := at_str hv
            refine ⟨rfl, _, rfl, _, rfl, _, rfl, d, _, rfl, ((ta3.same s4).same s5).get hni, _, _, rfl, .inl (SqL.of (s5 _ _ hAn)), rfl, fl_str, _, rfl, two (fun h2 => ?_) (fun h2 => ?_)⟩
            · have h2' : inV (.str o) ((closeT R ns n).map V.str) = true := h2
              rw [inV_str] at h2'
              exact ⟨_, rfl, kt _ _ (by rw [ho]; show (if decide (o ∈ closeT R ns n) = true then _ else _) = _; rw [if_pos h2']) (Same.refl _)⟩
            · have h2' : inV (.str o) ((closeT R ns n).map V.str) = false := h2
              rw [inV_str] at h2'
              exact kf _ (by rw [ho]; show (if decide (o ∈ closeT R ns n) = true then _ else _) = _; rw [h2', if_neg Bool.false_ne_true]) (Same.refl _)
          · have eD : (List.range (ns.map V.str).length).filterMap (fun q => (ns[q]?).bind fun o => if decide (o ∈ closeT R ns n) = true then some (V.str o) else Option.none) = (toldOf R ns n).map V.str := by
              rw [List.length_map, fm_bind, fm_filter]
              rfl
            rw [eD] at hD5
            refine ⟨D2, _, rfl, .inl ⟨SqL.of hD5, fun L hL => ?_⟩⟩
            have hDL := s5 _ _ hD4
            have nDL : D ≠ L := ne_of_none hDL hL
            refine ⟨_, Sum.inr n, rfl, by rw [upd_ne nDL]; exact hDL, by rw [kvT_len, List.length_take]; exact Nat.lt_of_le_of_lt (Nat.le_trans (Nat.min_le_right _ _) h7) (by decide), ?_, atA A4 n L, ?_, ?_⟩
            · exact fun b o q => by
                have q4 := s4 _ _ q
                rw [upd_ne (ne_of_none q hD)]
                exact Same_new hL _ _ (s5 _ _ q4)
            · rw [upd_same, putK_new (nd_take nd hn), ← take_next hn]
            · intro m hm
              rw [take_next hn] at hm
              by_cases e : m = n
              · subst e
                rw [atA_at, upd_ne nDL.symm, upd_same]
              · have hm' := (List.mem_append.mp hm).resolve_right fun q => e (List.mem_singleton.mp q)
                have q4 := s5 _ _ (hr4 m hm')
                rw [atA_ne e, upd_ne (ne_of q4 hDL (by intro z; cases z)), upd_ne (ne_of_none q4 hL)]
                exact q4
        · rw [List.length_map, List.take_length] at hD4 hr4
          exact k _ _ _ (s2.trans s4) hD4 hr4
end
end Jd
namespace Jd
open PySem PySem.Spec PyProof.Rows L2
/-! ### sorted texts are told by their order -/
theorem rising_le : ∀ (l : List Str) (p : Str), risingS p l = true → ∀ y ∈ l, cd p ≤ cd y
  | [], _, _, _, h => nomatch h
  | x :: r, p, h, y, hy => by
    have h' : (!ltCps x.cps.toList p.cps.toList && risingS x r) = true := h
    rw [Bool.and_eq_true] at h'
    obtain ⟨h1, h2⟩ := h'
    have px : cd p ≤ cd x := by
      rw [ltCps_eq] at h1
      have h3 : ¬ cd x < cd p := fun q => by
        rw [decide_eq_true (show x.cps.toList < p.cps.toList from q)] at h1
        cases h1
      exact List.not_lt.mp h3
    rcases List.mem_cons.mp hy with rfl | hy
    · exact px
    · exact List.le_trans px (rising_le r x h2 y hy)
theorem sorted_pw : ∀ (l : List Str), sortedS l = true → l.Pairwise fun a b => cd a ≤ cd b
  | [], _ => List.Pairwise.nil
  | [x], _ => List.pairwise_singleton _ _
  | x :: y :: r, h => by
    have h' : risingS x (y :: r) = true := h
    have h2 : (!ltCps y.cps.toList x.cps.toList && risingS y r) = true := h
    rw [Bool.and_eq_true] at h2
    exact List.pairwise_cons.mpr ⟨rising_le _ _ h', sorted_pw (y :: r) h2.2⟩
theorem sorted_one {xs ys : List Str} (pm : xs.Perm ys) (hx : sortedS xs = true) (hy : sortedS ys = true) : xs = ys :=
  pm.eq_of_pairwise (fun a b _ _ h1 h2 => cd_ext (List.le_antisymm h1 h2)) (sorted_pw xs hx) (sorted_pw ys hy)
theorem txAll_perm : ∀ (xs acc : List Str), (xs ++ acc).Nodup → (xs.foldl txAdd acc).Perm (xs ++ acc)
  | [], acc, _ => List.Perm.refl _
  | x :: r, acc, h => by
    have h' : (x :: (r ++ acc)).Nodup := h
    obtain ⟨h1, h2⟩ := List.nodup_cons.mp h'
    have hx : x ∉ acc := fun q => h1 (List.mem_append_right _ q)
    have e : txAdd acc x = x :: acc := by unfold txAdd; rw [if_neg hx]
    show (r.foldl txAdd (txAdd acc x)).Perm (x :: (r ++ acc))
    rw [e]
    have pm : (r ++ x :: acc).Perm (x :: (r ++ acc)) := List.perm_middle
    exact (txAll_perm r (x :: acc) (pm.nodup_iff.mpr h')).trans pm
theorem nodup_perm_map {α β : Type} {f : α → β} {ys : List β} {xs : List α} (h : ys.Perm (xs.map f)) : ∃ zs : List α, ys = zs.map f ∧ zs.Perm xs := by
  have key : ∀ (as bs : List β), as.Perm bs → ∀ xs : List α, bs = xs.map f → ∃ zs : List α, as = zs.map f ∧ zs.Perm xs := by
    intro as bs pm
    induction pm with
    | nil => intro xs e; exact ⟨[], rfl, by rw [List.map_eq_nil_iff.mp e.symm]⟩
    | cons x _ ih =>
      intro xs e
      obtain ⟨a, r, rfl, rfl, er⟩ := List.map_eq_cons_iff.mp e.symm
      obtain ⟨zs, e1, p1⟩ := ih r er.symm
      exact ⟨a :: zs, by rw [e1]; rfl, p1.cons a⟩
    | swap x y l =>
      intro xs e
      obtain ⟨a, r, rfl, rfl, er⟩ := List.map_eq_cons_iff.mp e.symm
      obtain ⟨b, r2, rfl, rfl, er2⟩ := List.map_eq_cons_iff.mp er
      subst er2
      exact ⟨b :: a :: r2, rfl, List.Perm.swap a b r2⟩
    | trans _ _ ih1 ih2 =>
      intro xs e
      obtain ⟨zs, e1, p1⟩ := ih2 xs e
      obtain ⟨ws, e2, p2⟩ := ih1 zs e1
      exact ⟨ws, e2, p2.trans p1⟩
  exact key ys _ h xs rfl
end Jd
namespace Jd
open PySem PySem.Spec PyProof.Rows L2
/-! ### NoName, Keys -/
theorem passF {P : Program} {w : World} {X : Cx} : Passes (L2.CX P w) X (fun _ _ _ => False) := fun _ _ _ _ _ _ _ ⟨_, _, _, _, _, _, _, _, _, _, _, _, h⟩ => h.elim
def spNN (C : Addr) : Sp := fun vs H Q _ => ∃ (a : Addr) (v : V), vs = [.ref a, v] ∧ H a = some (exo a C none) ∧ ∀ dx, H dx = none → dx ≠ a → Q .non (upd (upd H dx (exd dx [("name", v)])) a (exo a C (some dx)))
/-- the first name of the tellings that is none -/
def firstOut (ns : List Str) : List (Str × Str) → Option Str
  | [] => none
  | p :: R => if p.1 ∈ ns then (if p.2 ∈ ns then firstOut ns R else some p.2) else some p.1
theorem out_none {ns : List Str} : ∀ {R : List (Str × Str)}, (∀ p ∈ R, p.1 ∈ ns ∧ p.2 ∈ ns) → firstOut ns R = none
  | [], _ => rfl
  | p :: R, h => by
    have q := h p List.mem_cons_self
    unfold firstOut
    rw [if_pos q.1, if_pos q.2]
    exact out_none fun p hp => h p (List.mem_cons_of_mem _ hp)
theorem out_in {ns : List Str} : ∀ {R : List (Str × Str)}, firstOut ns R = none → ∀ p ∈ R, p.1 ∈ ns ∧ p.2 ∈ ns
  | [], _, _, hp => by cases hp
  | p :: R, h, p', hp => by
    unfold firstOut at h
    split at h
    · split at h
      · rename_i h1 h2
        rcases List.mem_cons.mp hp with rfl | hp
        · exact ⟨h1, h2⟩
        · exact out_in h p' hp
      · cases h
    · cases h
theorem out_at {ns : List Str} : ∀ {R : List (Str × Str)} {i : Nat} {pr : Str × Str}, R[i]? = some pr → (∀ p ∈ R.take i, p.1 ∈ ns ∧ p.2 ∈ ns) → firstOut ns R = (if pr.1 ∈ ns then (if pr.2 ∈ ns then firstOut ns (R.drop (i + 1)) else some pr.2) else some pr.1)
  | [], i, pr, h, _ => by cases h
  | p :: R, 0, pr, h, _ => by
    cases h
    rfl
  | p :: R, i + 1, pr, h, hi => by
    have q := hi p List.mem_cons_self
    show firstOut ns (p :: R) = _
    conv => lhs; unfold firstOut
    rw [if_pos q.1, if_pos q.2]
    exact out_at (R := R) (i := i) h fun p hp => hi p (List.mem_cons_of_mem _ hp)
def KeysO (K : PySem.W.Frag) (H : Hp) (x : Addr) (ns : List Str) (t : Str → List Str) : Prop := ∃ (dx tn d : Addr) (A : Str → Addr), H x = some (.ins (He.ga K "Keys") dx [("_names", .ref tn), ("_told", .ref d)]) ∧ H tn = some (.tup (ns.map V.str)) ∧
  H d = some (.dK (kvT ns A)) ∧ (∀ n ∈ ns, H (A n) = some (.tup ((t n).map V.str))) ∧ ns.Nodup ∧ ns.length ≤ 7 ∧ (∀ n ∈ ns, PyData.strOk n = true) ∧ ∀ n ∈ ns, (t n).length ≤ 7 ∧ ∀ z ∈ t n, z ∈ ns
theorem KeysO.same {K : PySem.W.Frag} {H H' : Hp} {x : Addr} {ns : List Str} {t : Str → List Str} (h : KeysO K H x ns t) (s : Same H H') : KeysO K H' x ns t := by
  obtain ⟨dx, tn, d, A, h1, h2, h3, h4, h5⟩ := h
  exact ⟨dx, tn, d, A, s _ _ h1, s _ _ h2, s _ _ h3, fun n hn => s _ _ (h4 n hn), h5⟩
theorem KeysO.keep {K : PySem.W.Frag} {H H' : Hp} {x u : Addr} {ns : List Str} {t : Str → List Str} {xs : List V} (h : KeysO K H x ns t) (hu : H u = some (.lst xs)) (s : ∀ b o, b ≠ u → H b = some o → H' b = some o) : KeysO K H' x ns t := by
  obtain ⟨dx, tn, d, A, h1, h2, h3, h4, h5⟩ := h
  exact ⟨dx, tn, d, A, s _ _ (ne_of h1 hu (by intro z; cases z)) h1, s _ _ (ne_of h2 hu (by intro z; cases z)) h2, s _ _ (ne_of h3 hu (by intro z; cases z)) h3, fun n hn => s _ _ (ne_of (h4 n hn) hu (by intro z; cases z)) (h4 n hn), h5⟩
/-- all but the object at u is as it was -/
abbrev KeepX (u : Addr) (H H' : Hp) : Prop := ∀ b o, b ≠ u → H b = some o → H' b = some o
def ringOf (R : List (Str × Str)) (ns : List Str) : List Str := ns.filter fun n => decide (n ∈ toldOf R ns n)
def spKI (K : PySem.W.Frag) : Sp := fun vs H Q E => ∃ (x nm te dx : Addr) (names : List Str) (R : List (Str × Str)), vs = [.ref x, .ref nm, .ref te] ∧ H x = some (.ins (He.ga K "Keys") dx []) ∧ Sq K H nm (names.map V.str) ∧ names.length < 64 ∧ (txAll names).length ≤ 7 ∧ (∀ z ∈ names, PyData.strOk z = true) ∧ Tells K H te R ∧ R.length ≤ 64 ∧
  ∀ ns : List Str, ns.Perm (txAll names) → sortedS ns = true → ns.Nodup →
    (firstOut ns R = none → (ringOf R ns = [] → ∀ H', KeysO K H' x ns (toldOf R ns) → KeepX x H H' → Q .non H') ∧
      (ringOf R ns ≠ [] → ∀ H' d r, KeepX x H H' → H' d = some (.xd [("ring", .ref r)]) → H' r = some (.tup ((ringOf R ns).map V.str)) → E (.ref (He.ga K "Ringed")) (some d) H')) ∧
    (∀ z, firstOut ns R = some z → ∀ H' d, KeepX x H H' → H' d = some (.xd [("name", .str z)]) → E (.ref (He.ga K "NoName")) (some d) H')
def spVE (C : Addr) (f : Str) : Sp := fun vs H Q _ => ∃ (a : Addr) (v : V), vs = [.ref a, v] ∧ H a = some (exo a C none) ∧ ∀ dx, H dx = none → dx ≠ a → Q .non (upd (upd H dx (exd dx [(f, v)])) a (exo a C (some dx)))
section
variable {P : Program} {w : World} {K : PySem.W.Frag} {mg : Str → Option Value} {base : Heap}
theorem sc_nn : FnScope ["self", "name"] ["self", "name"] (defScope s_NoName___init__) := ⟨rfl, rfl, rfl, by decide +kernel, rfl, by decide +kernel, by decide +kernel⟩
theorem ok_nn (B : Bk K mg) : ∃ fd, FnOk P w K mg base CX0 1 (He.ma K (He.ga K "NoName") "__init__") fd ["self", "name"] (spNN (He.ga K "NoName")) ∧ Binds K fd ["self", "name"] [] := by
  obtain ⟨fd, F⟩ := B.F_NoName___init
  refine ⟨fd, ?_, F.binds fun _ _ _ _ _ _ us hl => match us, hl with | [_, _], _ => rfl⟩
  refine F.ok sc_nn (fun vs H Q E h => ?_) (fun cdv A outer s H vs Q E hr h => ?_)
  · obtain ⟨a, v, rfl, _⟩ := h
    rfl
  · obtain ⟨a, v, rfl, ha, k⟩ := h
    refine ⟨_, pss_cons (ps_expr (pe_leinit (by rfl) B.b_LookupError (by rfl) (pa_cons (pv 0) (pa_cons (pv 1) pa_nil)))) (pss_one (ps_leF (pv 0) (pv 1))), ?_⟩
    refine ⟨_, rfl, _, rfl, a, _, [v], rfl, (by show 1 ≤ 1000; decide), B.lx_NoName.1, ha, ?_⟩
    exact ⟨_, rfl, _, rfl, a, _, rfl, B.lx_NoName.1, B.nf_NoName_name, ha, fun dx n ne => k dx n ne⟩
theorem sc_rg : FnScope ["self", "ring"] ["self", "ring"] (defScope s_Ringed___init__) := ⟨rfl, rfl, rfl, by decide +kernel, rfl, by decide +kernel, by decide +kernel⟩
theorem ok_rg (B : Bk K mg) : ∃ fd, FnOk P w K mg base CX0 1 (He.ma K (He.ga K "Ringed") "__init__") fd ["self", "ring"] (spVE (He.ga K "Ringed") "ring") ∧ Binds K fd ["self", "ring"] [] := by
  obtain ⟨fd, F⟩ := B.F_Ringed___init
  refine ⟨fd, ?_, F.binds fun _ _ _ _ _ _ us hl => match us, hl with | [_, _], _ => rfl⟩
  refine F.ok sc_rg (fun vs H Q E h => ?_) (fun cdv A outer s H vs Q E hr h => ?_)
  · obtain ⟨a, v, rfl, _⟩ := h
    rfl
  · obtain ⟨a, v, rfl, ha, k⟩ := h
    refine ⟨_, pss_cons (ps_expr (pe_veinit (by rfl) B.b_ValueError (by rfl) (pa_cons (pv 0) (pa_cons (pv 1) pa_nil)))) (pss_one (ps_ost (pv 0) (pv 1))), ?_⟩
    refine ⟨_, rfl, _, rfl, a, _, [v], rfl, (by show 1 ≤ 1000; decide), B.ox_Ringed.1, ha, ?_⟩
    exact ⟨_, rfl, _, rfl, a, _, rfl, B.ox_Ringed.1, B.nf_Ringed_ring, .inl ⟨ha, fun dx n ne => k dx n ne⟩⟩
theorem sc_bl : FnScope ["self", "number"] ["self", "number"] (defScope s_BadLine___init__) := ⟨rfl, rfl, rfl, by decide +kernel, rfl, by decide +kernel, by decide +kernel⟩
theorem ok_bl (B : Bk K mg) : ∃ fd, FnOk P w K mg base CX0 1 (He.ma K (He.ga K "BadLine") "__init__") fd ["self", "number"] (spVE (He.ga K "BadLine") "number") ∧ Binds K fd ["self", "number"] [] := by
  obtain ⟨fd, F⟩ := B.F_BadLine___init
  refine ⟨fd, ?_, F.binds fun _ _ _ _ _ _ us hl => match us, hl with | [_, _], _ => rfl⟩
  refine F.ok sc_bl (fun vs H Q E h => ?_) (fun cdv A outer s H vs Q E hr h => ?_)
  · obtain ⟨a, v, rfl, _⟩ := h
    rfl
  · obtain ⟨a, v, rfl, ha, k⟩ := h
    refine ⟨_, pss_cons (ps_expr (pe_veinit (by rfl) B.b_ValueError (by rfl) (pa_cons (pv 0) (pa_cons (pv 1) pa_nil)))) (pss_one (ps_ost (pv 0) (pv 1))), ?_⟩
    refine ⟨_, rfl, _, rfl, a, _, [v], rfl, (by show 1 ≤ 1000; decide), B.ox_BadLine.1, ha, ?_⟩
    exact ⟨_, rfl, _, rfl, a, _, rfl, B.ox_BadLine.1, B.nf_BadLine_number, .inl ⟨ha, fun dx n ne => k dx n ne⟩⟩
abbrev NK : List Str := ["self", "names", "tells", "pair", "name", "ring"]
theorem sc_ki : FnScope ["self", "names", "tells", "pair", "name", "ring"] ["self", "names", "tells"] (defScope s_Keys___init__) := ⟨rfl, rfl, rfl, by decide +kernel, rfl, by decide +kernel, by decide +kernel⟩
theorem ok_Keys_init (B : Bk K mg) : ∃ fd, FnOk P w K mg base (L2.CX P w) 3 (He.ma K (He.ga K "Keys") "__init__") fd ["self", "names", "tells"] (spKI K) ∧ (∃ ds, Vals [.ref (dflA (fun K => He.ma K (He.ga K "Keys") "__init__") 0 K)] ds ∧ Binds K fd ["self", "names", "tells"] ds) ∧ FunD K "__init__" "Keys.__init__" (defArgs s_Keys___init__) (defBody s_Keys___init__) (defScope s_Keys___init__) (d_Keys___init__.dvs K) [] (He.ma K (He.ga K "Keys") "__init__") fd := by
  obtain ⟨fd, F⟩ := B.F_Keys___init
  obtain ⟨fdA, GA, bA⟩ := (ok_all_told (P := P) (w := w) (base := base) B).ex
  have kA := (ok_all_told (P := P) (w := w) (base := base) B).kp
  obtain ⟨fdE, GE, bE⟩ := ok_nn (P := P) (w := w) (base := base) B
  obtain ⟨lxc, li, lt⟩ := B.lx_NoName
  obtain ⟨fdR, GR, bR⟩ := ok_rg (P := P) (w := w) (base := base) B
  obtain ⟨oxc, oi, ot⟩ := B.ox_Ringed
  refine ⟨fd, ?_, ?_, F⟩
  · refine F.ok (CX := L2.CX P w) sc_ki (fun vs H Q E h => ?_) (fun cdv A outer s H vs Q E hr h => ?_)
    · obtain ⟨_, _, _, _, _, _, rfl, _⟩ := h
      rfl
    · obtain ⟨x, nm, te, dx, names, R, rfl, hx, hnm, n64, n7, gN, hte, h64, kk⟩ := h
      have hu := hu_of hr
      have hr1 : Room 1 _ := hr.mono (by decide)
      refine ⟨_, (pss_cons (ps_fld (pv 0) (pe_callTy call_tuple_of (by rfl) B.b_tuple (by decide +kernel) (pa_cons (pe_callB (cr_sortTx rfl) (by rfl) B.b_sorted (by decide +kernel) (pa_cons (pe_callTy (cr_setTx rfl) (by rfl) B.b_set (by decide +kernel) (pa_cons (pv 1) pa_nil)) pa_nil)) pa_nil)) rfl)
        (pss_cons (ps_for (passes_of rfl) rfl (pi_seq (pv 2)) (pg_name (i := 3) sc_ki.nd rfl (Or.inl rfl))
          (pss_one (ps_for (passes_of rfl) rfl (pi_seq (pv 3)) (pg_name (i := 4) sc_ki.nd rfl (Or.inl rfl))
            (pss_one (ps_if (pt_cmpR op_notIn_seq (pv 4) (pe_fld (pv 0) rfl) (by rfl)) (pss_one (ps_raise rfl (takes_of rfl rfl rfl rfl) (pmk_lex lxc li lt GE hr bE .nil pass0 (by rfl) B.g_NoName (pa_cons (pv 4) pa_nil)))) pss_nil)))))
        (pss_cons (ps_fld (pv 0) (pe_call GA hr1 rfl B.g_all_told kA bA .nil pass0 (pa_cons (pe_fld (pv 0) rfl) (pa_cons (pv 2) pa_nil))) rfl)
        (pss_cons (ps_set (i := 5) sc_ki.nd rfl (Or.inl rfl) (pe_callTy call_tuple_of (by rfl) B.b_tuple (by decide +kernel) (pa_cons (pe_lc (own := [("name", 4)]) (g := gName 4) (tt := tTest (tOp (rIn K false) (tVar 4) (tDGet (tFld K (tVar 0) "_told") (tVar 4)))) rfl sc_ki.nd (pi_tup (pe_fld (pv 0) rfl)) (blkOk_by (N := ["self", "names", "tells", "pair", "name", "ring"]) (sc := defScope s_Keys___init__) (by decide +kernel))
            (fun _ _ _ _ _ => pg_name (i := 4) sc_ki.nd rfl (Or.inl rfl)) (fun _ _ _ _ _ => pts_one (pt_cmpR op_in_seq (pv 4) (pe_dget hu (pe_fld (pv 0) rfl) (pv 4) (fun _ _ => rfl)) (by rfl))) (fun _ _ _ _ _ => pv 4)) pa_nil)))
        (pss_one (ps_if (pt_cmpR op_gt (pe_callB call_len_seq (by rfl) B.b_len (by decide +kernel) (pa_cons (pv 5) pa_nil)) pe_int (nomark _)) (pss_one (ps_raise rfl (takes_of rfl rfl rfl rfl) (pmk_oex oxc oi ot GR hr bR .nil pass0 (by rfl) B.g_Ringed (pa_cons (pv 5) pa_nil)))) pss_nil)))))), ?_⟩
      refine ⟨_, rfl, nm, names, rfl, hnm, n64, fun a na => ?_⟩
      refine ⟨a, _, rfl, upd_same, Nat.lt_of_le_of_lt n7 (by decide), fun ns p2 pm so nd0 np => ?_⟩
      refine ⟨p2, _, rfl, .inl ⟨SqL.of upd_same, fun t nt => ?_⟩⟩
      have nd : ns.Nodup := pm.nodup_iff.mpr nd0
      have l7 : ns.length ≤ 7 := by rw [pm.length_eq]; exact n7
      obtain ⟨kQ, kE⟩ := kk ns pm so nd
      dsimp only [cxOf, Cx.nox]
      have s1 : Same H (upd (upd (upd H a (TxO P w a (txAll names))) p2 (.lst (List.map V.str ns))) t (.tup (List.map V.str ns))) := Same_lay (Same_lay (Same_new na) np) nt
      have ht : (upd (upd (upd H a (TxO P w a (txAll names))) p2 (.lst (List.map V.str ns))) t (.tup (List.map V.str ns))) t = some (.tup (ns.map V.str)) := upd_same
      generalize (upd (upd (upd H a (TxO P w a (txAll names))) p2 (.lst (List.map V.str ns))) t (.tup (List.map V.str ns))) = H1 at s1 ht
      refine ⟨_, rfl, x, _, dx, [], rfl, s1 _ _ hx, B.cl_Keys, B.no_Keys__names, by decide, ?_⟩
      have htx : t ≠ x := ne_of ht (s1 _ _ hx) (by intro z; cases z)
      have kp2 : KeepX x H (upd H1 x (.ins (He.ga K "Keys") dx [("_names", .ref t)])) := fun b o n q => by
        rw [upd_ne n]
        exact s1 _ _ q
      have ht2 : (upd H1 x (.ins (He.ga K "Keys") dx [("_names", .ref t)])) t = some (.tup (ns.map V.str)) := by rw [upd_ne htx]; exact ht
      have hx2 : (upd H1 x (.ins (He.ga K "Keys") dx [("_names", .ref t)])) x = some (.ins (He.ga K "Keys") dx [("_names", .ref t)]) := upd_same
      have ep : putF ("_names" : Str) (V.ref t) [] = [(("_names" : Str), V.ref t)] := rfl
      rw [ep]
      generalize (upd H1 x (.ins (He.ga K "Keys") dx [("_names", .ref t)])) = H2 at kp2 ht2 hx2
      have hte2 := hte.keep hx kp2
      obtain ⟨ps, hps, pl, hpp⟩ := id hte2
      refine ⟨_, rfl, te, _, rfl, hps, fun J G wk hG => ?_⟩
      refine for_it wk (fun i σ H' => ∃ v3 v4 : Option V, σ = [some (.ref x), some (.ref nm), some (.ref te), v3, v4, Option.none] ∧ H' = H2 ∧ ∀ p ∈ R.take i, p.1 ∈ ns ∧ p.2 ∈ ns)
        ⟨_, _, rfl, rfl, fun p hp => by cases hp⟩ (fun i σ H' _ ⟨_, _, _, e, _⟩ => by rw [e]; exact hG _ fun _ _ z => z) (fun i v σ H3 H4 hi ⟨v3, v4, e, e1, hin⟩ y => ?_) (fun σ H3 ⟨v3, v4, e, e1, hin⟩ => ?_)
      · obtain ⟨rfl, hv⟩ := y
        subst e e1
        obtain ⟨p, hp, rfl⟩ := at_ref hv
        obtain ⟨pr, hpr, hq⟩ := hpp i p hp
        have oa := out_at hpr hin
        refine ⟨_, rfl, p, _, rfl, hq, fun J2 G2 wk2 hG2 => ?_⟩
        refine for_it wk2 (fun j σ H' => ∃ v4 : Option V, σ = [some (.ref x), some (.ref nm), some (.ref te), some (.ref p), v4, Option.none] ∧ H' = H4 ∧ (1 ≤ j → pr.1 ∈ ns) ∧ (2 ≤ j → pr.2 ∈ ns))
          ⟨_, rfl, rfl, fun h => absurd h (by decide), fun h => absurd h (by decide)⟩ (fun i σ H' _ ⟨_, _, e, _⟩ => by rw [e]; exact hG2 _ fun _ _ z => z) (fun j v σ H5 H6 hj ⟨v4, e, e1, g1, g2⟩ y => ?_) (fun σ H5 ⟨v4, e, e1, g1, g2⟩ => ?_)
        · obtain ⟨rfl, hv⟩ := y
          subst e e1
          obtain ⟨z, ez, hno, hyes⟩ : ∃ z : Str, v = .str z ∧ (z ∉ ns → firstOut ns R = some z) ∧ (z ∈ ns → (1 ≤ j + 1 → pr.1 ∈ ns) ∧ (2 ≤ j + 1 → pr.2 ∈ ns)) := by
            have hj2 : j < 2 := hj
            have hc : j = 0 ∨ j = 1 := by omega
            rcases hc with rfl | rfl
            · refine ⟨pr.1, (Option.some.inj hv).symm, fun h => ?_, fun h => ⟨fun _ => h, fun q => absurd q (by decide)⟩⟩
              rw [oa, if_neg h]
            · have q1 := g1 (by decide)
              refine ⟨pr.2, (Option.some.inj hv).symm, fun h => ?_, fun h => ⟨fun _ => q1, fun _ => h⟩⟩
              rw [oa, if_pos q1, if_neg h]
          subst ez
          refine ⟨_, rfl, _, rfl, x, _, dx, _, _, rfl, hx2, B.cl_Keys, B.no_Keys__names, rfl, t, _, rfl, .inr (SqT.of ht2), rfl, fl_str, _, rfl, two (fun h1 => ?_) (fun h1 => ?_)⟩
          · have h1' : (!inV (.str z) (ns.map V.str)) = true := h1
            rw [inV_str] at h1'
            have hz : z ∉ ns := fun q => by rw [decide_eq_true q] at h1'; cases h1'
            refine ⟨_, rfl, (by show 1 ≤ 1000; decide), fun a na => ⟨a, _, rfl, upd_same, fun ex nd ne => ⟨rfl, ex, [("name", .str z)], upd_same, ?_, ?_, ?_⟩⟩⟩
            · rw [upd_ne ne, upd_same]
            · rw [upd_ne ne] at nd
              exact nd
            · have nd' : H6 ex = none := by
                rw [upd_ne ne] at nd
                exact nd
              refine kE z (hno hz) _ ex (fun b o nb q => ?_) upd_same
              have q1 := kp2 b o nb q
              have nb : b ≠ a := ne_of_none q1 na
              rw [upd_ne (ne_of_none q1 nd'), del_ne nb, upd_ne nb, upd_ne (ne_of_none q1 nd'), upd_ne nb]
              exact q1
          · have h1' : (!inV (.str z) (ns.map V.str)) = false := h1
            rw [inV_str] at h1'
            have hz : z ∈ ns := by
              by_cases q : z ∈ ns
              · exact q
              · rw [decide_eq_false q] at h1'; cases h1'
            exact ⟨_, rfl, rfl, hyes hz⟩
        · subst e
          refine ⟨_, _, rfl, e1, fun p' hp' => ?_⟩
          rw [List.take_add_one, hpr] at hp'
          rcases List.mem_append.mp hp' with hp' | hp'
          · exact hin p' hp'
          · have e : p' = pr := by simpa using hp'
            subst e
            exact ⟨g1 (by show 1 ≤ 2; decide), g2 (by show 2 ≤ 2; decide)⟩
      · subst e
        cases e1
        have hall : ∀ p ∈ R, p.1 ∈ ns ∧ p.2 ∈ ns := by
          have q := hin
          rw [List.length_map, pl, List.take_length] at q
          exact q
        obtain ⟨kQ, kR⟩ := kQ (out_none hall)
        refine ⟨_, rfl, x, _, dx, _, _, rfl, hx2, B.cl_Keys, B.no_Keys__names, rfl, _, rfl, t, te, ns, R, rfl, SqT.of ht2, nd, l7, hte2, h64, fun H3 d A s3 hd hA => ?_⟩
        refine ⟨_, rfl, x, _, dx, _, rfl, s3 _ _ hx2, B.cl_Keys, B.no_Keys__told, (by show 1 < 1000; decide), ?_⟩
        have hx3 := s3 _ _ hx2
        have ht3 := s3 _ _ ht2
        have ep : putF ("_told" : Str) (V.ref d) [(("_names" : Str), V.ref t)] = [(("_names" : Str), V.ref t), (("_told" : Str), V.ref d)] := rfl
        rw [ep]
        have kp4 : KeepX x H (upd H3 x (.ins (He.ga K "Keys") dx [("_names", .ref t), ("_told", .ref d)])) := fun b o n q => by
          rw [upd_ne n]
          exact s3 _ _ (kp2 _ _ n q)
        have ht4 : (upd H3 x (.ins (He.ga K "Keys") dx [("_names", .ref t), ("_told", .ref d)])) t = some (.tup (ns.map V.str)) := by rw [upd_ne htx]; exact ht3
        have hd4 : (upd H3 x (.ins (He.ga K "Keys") dx [("_names", .ref t), ("_told", .ref d)])) d = some (.dK (kvT ns A)) := by rw [upd_ne (ne_of hd hx3 (by intro z; cases z))]; exact hd
        have hA4 : ∀ n ∈ ns, (upd H3 x (.ins (He.ga K "Keys") dx [("_names", .ref t), ("_told", .ref d)])) (A n) = some (.tup ((toldOf R ns n).map V.str)) := fun n hn => by rw [upd_ne (ne_of (hA n hn) hx3 (by intro z; cases z))]; exact hA n hn
        have hx4 : (upd H3 x (.ins (He.ga K "Keys") dx [("_names", .ref t), ("_told", .ref d)])) x = some (.ins (He.ga K "Keys") dx [("_names", .ref t), ("_told", .ref d)]) := upd_same
        generalize (upd H3 x (.ins (He.ga K "Keys") dx [("_names", .ref t), ("_told", .ref d)])) = H4 at kp4 ht4 hd4 hA4 hx4
        refine ⟨_, rfl, x, _, dx, _, _, rfl, hx4, B.cl_Keys, B.no_Keys__names, rfl, t, rfl, ⟨_, SqT.of ht4⟩, fun D hD => ?_⟩
        refine lc_fm (walk_tup (xs := ns.map V.str)) (fun i => (ns[i]?).bind fun n => if decide (n ∈ toldOf R ns n) = true then some (V.str n) else Option.none) hD (by rw [List.length_map]; exact Nat.le_trans l7 (by decide)) (fun H' s' => sm_seqT s' (SqT.of ht4)) (fun i v H5 H6 Kt Kf hi s5 y kt kf => ?_) (fun H5 s5 hD5 => ?_)
        · obtain ⟨rfl, hv⟩ := y
          obtain ⟨n, hn, rfl⟩ := at_str hv
          have hni : n ∈ ns := List.mem_of_getElem? hn
          have gd : DGet H6 d (.str n) (some (.ref (A n))) := by
            have q := DGet.k (k := Sum.inr n) (s5 _ _ hd4)
            rw [valV_kvT hni] at q
            exact q
          refine ⟨rfl, _, rfl, _, rfl, x, _, dx, _, _, rfl, s5 _ _ hx4, B.cl_Keys, B.no_Keys__told, rfl, _, rfl, d, _, rfl, gd, _, _, rfl, .inr (SqT.of (s5 _ _ (hA4 n hni))), rfl, fl_str, _, rfl, two (fun h1 => ?_) (fun h1 => ?_)⟩
          · have h1' : inV (.str n) ((toldOf R ns n).map V.str) = true := h1
            rw [inV_str] at h1'
            exact ⟨_, rfl, kt _ _ (by rw [hn]; show (if decide (n ∈ toldOf R ns n) = true then _ else _) = _; rw [if_pos h1']) (Same.refl _)⟩
          · have h1' : inV (.str n) ((toldOf R ns n).map V.str) = false := h1
            rw [inV_str] at h1'
            exact kf _ (by rw [hn]; show (if decide (n ∈ toldOf R ns n) = true then _ else _) = _; rw [if_neg (by rw [h1']; exact Bool.false_ne_true)]) (Same.refl _)
        · rw [List.length_map, fm_bind, fm_filter] at hD5
          replace hD5 : H5 D = some (.lst ((ringOf R ns).map V.str)) := hD5
          refine ⟨D, _, rfl, .inl ⟨SqL.of hD5, fun r nr => ?_⟩⟩
          have s6 : Same H4 (upd H5 r (.tup ((ringOf R ns).map V.str))) := Same_lay s5 nr
          have hr6 : (upd H5 r (.tup ((ringOf R ns).map V.str))) r = some (.tup ((ringOf R ns).map V.str)) := upd_same
          dsimp only [cxOf, Cx.nox]
          generalize (upd H5 r (.tup ((ringOf R ns).map V.str))) = H6 at s6 hr6
          refine ⟨_, rfl, r, _, rfl, .inr (SqT.of hr6), _, _, rfl, rfl, _, rfl, two (fun h1 => ?_) (fun h1 => ?_)⟩
          · have ne : ringOf R ns ≠ [] := fun z => by rw [z] at h1; cases h1
            refine ⟨_, rfl, (by show 1 ≤ 1000; decide), fun a na => ⟨a, _, rfl, upd_same, fun ex nd ne2 => ⟨rfl, ex, [("ring", .ref r)], upd_same, ?_, ?_, ?_⟩⟩⟩
            · rw [upd_ne ne2, upd_same]
            · rw [upd_ne ne2] at nd
              exact nd
            · have nd' : H6 ex = none := by
                rw [upd_ne ne2] at nd
                exact nd
              have lft : ∀ b o, H6 b = some o → (upd (del (upd (upd (upd H6 a (exo a (He.ga K "Ringed") none)) ex (exd ex [("ring", V.ref r)])) a (exo a (He.ga K "Ringed") (some ex))) a) ex (HO.xd [("ring", V.ref r)])) b = some o := fun b o q1 => by
                have nb : b ≠ a := ne_of_none q1 na
                rw [upd_ne (ne_of_none q1 nd'), del_ne nb, upd_ne nb, upd_ne (ne_of_none q1 nd'), upd_ne nb]
                exact q1
              exact kR ne _ ex r (fun b o nb q => lft _ _ (s6 _ _ (kp4 b o nb q))) upd_same (lft _ _ hr6)
          · have e0 : ringOf R ns = [] := by
              cases q : ringOf R ns with
              | nil => rfl
              | cons y l =>
                rw [q] at h1
                have h1' : decide ((0 : Int) < (((y :: l).map V.str).length : Nat)) = false := h1
                rw [List.length_map, List.length_cons] at h1'
                exact absurd (of_decide_eq_false h1') (by omega)
            exact kQ e0 _ ⟨dx, t, d, A, s6 _ _ hx4, s6 _ _ ht4, s6 _ _ hd4, fun n hn => s6 _ _ (hA4 n hn), nd, l7, fun n hn => gN n (((txAll_in names [] n).mp (pm.mem_iff.mp hn)).resolve_right List.not_mem_nil), fun n _ => ⟨Nat.le_trans (told_len R ns n) l7, fun z hz => (told_in.mp hz).1⟩⟩ (fun b o n q => s6 _ _ (kp4 _ _ n q))
  · have hd : d_Keys___init__.dvs K = [.ref (dflA (fun K => He.ma K (He.ga K "Keys") "__init__") 0 K)] := rfl
    rw [← hd]
    have q := F.binds1 (ps := ["self", "names", "tells"]) 2 0 (by rw [hd]; exact List.cons_ne_nil _ _) (by rw [hd]; rfl) (fun T kV doc pm an cdv ct us its hu hi => by
      rw [hd] at hi
      match us, its, hu, hi with
      | [_, _], [_], _, _ => exact ⟨_, rfl, rfl⟩)
    exact q
end
end Jd
namespace Jd
open PySem PySem.Spec PyProof.Rows L2
/-! ### the urn -/
/-- all but the object at u is as it was -/
def Keep (u : Addr) (H H' : Hp) : Prop := ∀ b o, b ≠ u → H b = some o → H' b = some o
theorem Keep.trans {u : Addr} {H H1 H2 : Hp} (a : Keep u H H1) (b : Keep u H1 H2) : Keep u H H2 := fun c o n h => b c o n (a c o n h)
theorem Keep.refl (u : Addr) (H : Hp) : Keep u H H := fun _ _ _ h => h
theorem Same.keep {u : Addr} {H H' : Hp} (s : Same H H') : Keep u H H' := fun b o _ h => s b o h
theorem Keep_upd {u : Addr} {H : Hp} {o : HO} : Keep u H (upd H u o) := fun b q n h => by rw [upd_ne n]; exact h
theorem Keep.at {u : Addr} {H H' : Hp} (k : Keep u H H') {b : Addr} {o : HO} (h : H b = some o) (n : b ≠ u) : H' b = some o := k b o n h
def Urn (H : Hp) (u : Addr) (n : Nat) : Prop := ∃ a b c : Int, H u = some (.lst [.int a, .int b, .int c]) ∧ 0 ≤ c ∧ c ≤ (n : Int)
theorem Urn.same {H H' : Hp} {u : Addr} {n : Nat} (h : Urn H u n) (s : Same H H') : Urn H' u n := by
  obtain ⟨a, b, c, h, h1⟩ := h
  exact ⟨a, b, c, s _ _ h, h1⟩
theorem Urn.some {H : Hp} {u : Addr} {n : Nat} (h : Urn H u n) : ∃ o, H u = some o := by
  obtain ⟨a, b, c, h, h1⟩ := h
  exact ⟨_, h⟩
theorem Urn.le {H : Hp} {u : Addr} {n m : Nat} (h : Urn H u n) (l : n ≤ m) : Urn H u m := by
  obtain ⟨a, b, c, h, h1, h2⟩ := h
  exact ⟨a, b, c, h, h1, by omega⟩
def spTake : Sp := fun vs H Q _ => ∃ (u : Addr) (lo : Int) (n : Nat), vs = [.ref u, .int lo] ∧ Urn H u n ∧ n < 100000 ∧ 0 < lo ∧ lo < 1073741824 ∧
  ∀ r H', 0 ≤ r → r < lo → Urn H' u (n + 1) → Keep u H H' → Q (.int r) H'
section
variable {P : Program} {w : World} {K : PySem.W.Frag} {mg : Str → Option Value} {base : Heap}
theorem sc_take : FnScope ["_law_urn", "_law_low_so", "_law_drawn", "_law_once", "_law_far", "_law_both_so"] ["_law_urn", "_law_low_so"] (defScope s__law_take) := ⟨rfl, rfl, rfl, by decide +kernel, rfl, by decide +kernel, by decide +kernel⟩
theorem ok_law_take (B : Bk K mg) : Df P w K mg base CX0 1 "_law_take" ["_law_urn", "_law_low_so"] spTake := by
  obtain ⟨fd, F⟩ := B.F_law_take
  refine ⟨⟨fd, ?_, F.binds fun _ _ _ _ _ _ us hl => match us, hl with | [_, _], _ => rfl⟩, B.g_law_take, F.kp⟩
  refine F.ok sc_take (fun vs H Q E h => ?_) (fun cdv A outer s H vs Q E hr h => ?_)
  · obtain ⟨u, lo, n, rfl, _⟩ := h
    rfl
  · obtain ⟨u, lo, n, rfl, ⟨a, b, c, hu, c0, c1⟩, hn, l0, l1, k⟩ := h
    refine ⟨_, pss_cons (ps_if (pt_cmpR op_gt (pe_ix ix_list (pv 0) pe_int (fun _ _ => rfl)) pe_int (nomark _))
        (pss_cons (ps_set (i := 2) sc_take.nd rfl (Or.inl rfl) (pe_op op_mod (pe_callTy call_int1 (by rfl) B.b_int (by decide +kernel) (pa_cons (pe_ix ix_list (pv 0) pe_int (fun _ _ => rfl)) pa_nil)) (pv 1)))
        (pss_cons (ps_asg (pe_op op_fdiv (pe_ix ix_list (pv 0) pe_int (fun _ _ => rfl)) (pv 1)) (pg_sub (pv 0) pe_int set_list))
        (pss_one (ps_ret (pv 2))))) pss_nil)
      (pss_cons (ps_asg (pe_op op_add (pe_ix ix_list (pv 0) pe_int (fun _ _ => rfl)) pe_int) (pg_sub (pv 0) pe_int set_list))
      (pss_cons (ps_set (i := 3) sc_take.nd rfl (Or.inl rfl) (pe_op op_mod (pe_callTy call_int1 (by rfl) B.b_int (by decide +kernel) (pa_cons (pe_op op_mul (pe_op op_add (pe_ix ix_list (pv 0) pe_int (fun _ _ => rfl)) (pe_op op_mul pe_int (pe_ix ix_list (pv 0) pe_int (fun _ _ => rfl)))) (pe_op op_add pe_int (pe_ix ix_list (pv 0) pe_int (fun _ _ => rfl)))) pa_nil)) pe_int))
      (pss_cons (ps_set (i := 4) sc_take.nd rfl (Or.inl rfl) (pe_op op_add (pe_op op_mod (pe_callTy call_int1 (by rfl) B.b_int (by decide +kernel) (pa_cons (pv 3) pa_nil)) pe_int) pe_int))
      (pss_cons (ps_set (i := 5) sc_take.nd rfl (Or.inl rfl) (pe_op op_mod (pe_callTy call_int1 (by rfl) B.b_int (by decide +kernel) (pa_cons (pe_op op_mul (pe_op op_add (pe_op op_add (pv 3) (pe_ix ix_list (pv 0) pe_int (fun _ _ => rfl))) (pe_op op_fdiv (pe_ix ix_list (pv 0) pe_int (fun _ _ => rfl)) pe_int)) (pv 4)) pa_nil)) pe_int))
      (pss_one (ps_ret (pe_op op_mod (pe_callTy call_int1 (by rfl) B.b_int (by decide +kernel) (pa_cons (pe_op op_fdiv (pe_op op_mod (pe_callTy call_int1 (by rfl) B.b_int (by decide +kernel) (pa_cons (pe_op op_add (pe_op op_mul (pv 5) pe_int) (pv 3)) pa_nil)) pe_int) pe_int) pa_nil)) (pv 1)))))))), ?_⟩
    have L : SqL K H u [.int a, .int b, .int c] := SqL.of hu
    refine ⟨_, rfl, _, _, _, _, rfl, rfl, L, rfl, _, _, rfl, rfl, _, rfl, two (fun h1 => ?_) (fun h1 => ?_)⟩
    · refine ⟨_, rfl, _, _, _, _, rfl, rfl, L, rfl, .inl ⟨_, rfl, _, rfl, _, _, rfl, rfl, l0, ?_⟩⟩
      refine ⟨_, rfl, _, _, _, _, rfl, rfl, L, rfl, _, rfl, _, _, rfl, rfl, ⟨l0, l1⟩, _, rfl, u, _, _, 0, rfl, rfl, hu, rfl, ?_⟩
      refine ⟨_, rfl, k _ _ (Int.emod_nonneg _ (by omega)) (Int.emod_lt_of_pos _ l0) ⟨a / lo, b, c, upd_same, c0, by omega⟩ Keep_upd⟩
    · refine ⟨_, rfl, _, _, _, _, rfl, rfl, L, rfl, _, _, rfl, rfl, _, rfl, u, _, _, 2, rfl, rfl, hu, rfl, ?_⟩
      have L2 : SqL K (upd H u (.lst [.int a, .int b, .int (c + 1)])) u [.int a, .int b, .int (c + 1)] := SqL.of upd_same
      refine ⟨_, rfl, _, _, _, _, rfl, rfl, L2, rfl, _, rfl, _, _, _, _, rfl, rfl, L2, rfl, _, _, rfl, rfl, .inl ⟨by decide, by decide⟩, _, _, rfl, rfl, _, rfl, _, _, _, _, rfl, rfl, L2, rfl, _, _, rfl, rfl, _, _, rfl, rfl, .inr ⟨?_, ?_⟩, .inl ⟨_, rfl, _, _, rfl, rfl, (show (0 : Int) < 2147483647 by decide), ?_⟩⟩
      · show -(2 ^ 64) < (39373 : Int) + (c + 1)
        omega
      · show (39373 : Int) + (c + 1) < 2 ^ 64
        omega
      · refine ⟨_, rfl, .inl ⟨_, rfl, _, _, rfl, rfl, (show (0 : Int) < 40009 by decide), _, _, rfl, rfl, ?_⟩⟩
        refine ⟨_, rfl, _, rfl, _, _, _, _, rfl, rfl, L2, rfl, _, _, rfl, rfl, _, rfl, _, _, _, _, rfl, rfl, L2, rfl, _, _, rfl, rfl, ⟨by decide, by decide⟩, _, _, rfl, rfl, _, rfl, _, _, rfl, rfl, .inr ⟨?_, ?_⟩, .inl ⟨_, rfl, _, _, rfl, rfl, (show (0 : Int) < 2147483629 by decide), ?_⟩⟩
        · have q := Int.emod_nonneg (((b : Int) + 48271 * (c + 1)) * (39373 + (c + 1)) % 2147483647) (show (40009 : Int) ≠ 0 by decide)
          show -(2 ^ 64) < ((b : Int) + 48271 * (c + 1)) * (39373 + (c + 1)) % 2147483647 % 40009 + 7
          omega
        · have q := Int.emod_lt_of_pos (((b : Int) + 48271 * (c + 1)) * (39373 + (c + 1)) % 2147483647) (show (0 : Int) < 40009 by decide)
          show ((b : Int) + 48271 * (c + 1)) * (39373 + (c + 1)) % 2147483647 % 40009 + 7 < 2 ^ 64
          omega
        · refine ⟨_, rfl, _, _, rfl, rfl, .inr ⟨by decide, by decide⟩, _, rfl, _, _, rfl, rfl, .inl ⟨_, rfl, _, _, rfl, rfl, (show (0 : Int) < 2147483587 by decide), _, _, rfl, rfl, ⟨by decide, by decide⟩, .inl ⟨_, rfl, _, rfl, _, _, rfl, rfl, l0, ?_⟩⟩⟩
          exact k _ _ (Int.emod_nonneg _ (by omega)) (Int.emod_lt_of_pos _ l0) ⟨a, b, c + 1, upd_same, by omega, by omega⟩ Keep_upd
end
end Jd
namespace Jd
open PySem PySem.Spec PyProof.Rows L2
/-! ### box, cells -/
theorem cut_to (xs : List V) (k : Nat) : cutV xs none (some (k : Int)) = xs.take k := by
  unfold cutV
  rw [HT.sIx_none, HT.sIx_nat, List.drop_zero, Nat.sub_zero]
  by_cases h : k ≤ xs.length
  · rw [Nat.min_eq_left h]
  · rw [Nat.min_eq_right (by omega), List.take_of_length_le (Nat.le_refl _), List.take_of_length_le (by omega)]
theorem cut_of (xs : List V) (a b : Nat) : cutV xs (some (a : Int)) (some (b : Int)) = (xs.drop (min a xs.length)).take (min b xs.length - min a xs.length) := by
  unfold cutV
  rw [HT.sIx_nat, HT.sIx_nat]
theorem b01 (b : Bool) : -(2 ^ 64) < (if b then (1 : Int) else 0) ∧ (if b then (1 : Int) else 0) < 2 ^ 64 := by
  cases b <;> decide
/-- an expression's ways are joined -/
theorem pe_cut {X : Cx} {e : Expr} {t : TE} (h : PE X e t) : PE X e (fun σ H Q => ∃ Q0 : VK, t σ H Q0 ∧ ∀ x H1, Q0 x H1 → Q x H1) :=
  ⟨fun pins s σ H Q I ⟨Q0, h0, h1⟩ => wpAny_mono (h.run pins s σ H Q0 I h0) (fun u s1 ⟨v, H1, I1, r, q⟩ => ⟨v, H1, I1, r, h1 v H1 q⟩) (fun _ _ x => x)⟩
/-- a statement's ways are joined -/
theorem ps_cut {X : Cx} {st : Stmt} {t : TS} (h : PS X st t) : PS X st (fun D σ H => ∃ N : L2.St → Hp → Prop, t { D with nx := N } σ H ∧ ∀ σ' H', N σ' H' → D.nx σ' H') := by
  refine ⟨fun pins s σ H D I ⟨N, h0, h1⟩ => wpAny_mono (h.run pins s σ H { D with nx := N } I h0) (fun f s1 q => ?_) (fun _ _ x => x)⟩
  cases f with
  | next =>
    obtain ⟨σ', H', I', q⟩ := q
    exact ⟨σ', H', I', h1 σ' H' q⟩
  | brk => exact q
  | cont => exact q
  | ret u => exact q
def spBox (K : PySem.W.Frag) : Sp := fun vs H Q _ => ∃ (a : Addr) (ns : List Int) (k : Nat), vs = [.ref a, .int (k : Int)] ∧ SqL K H a (ns.map V.int) ∧ k < ns.length ∧ k < 1000 ∧ ∀ H' p, Same H H' → H p = none → Urn H' p 0 → Q (.ref p) H'
def spCells (K : PySem.W.Frag) : Sp := fun vs H Q _ => ∃ (a : Addr) (ns : List Int), vs = [.ref a, .int 3] ∧ SqL K H a (ns.map V.int) ∧ ns.length ≤ 63 ∧
  ∀ (H' : Hp) (p : Addr) (ms : List Int), Same H H' → H p = none → H' p = some (.lst (ms.map V.int)) → 1 ≤ ms.length → ms.length ≤ 3 → Q (.ref p) H'
section
variable {P : Program} {w : World} {K : PySem.W.Frag} {mg : Str → Option Value} {base : Heap}
theorem sc_box : FnScope ["_law_script", "_law_k", "_law_cell"] ["_law_script", "_law_k"] (defScope s__law_box) := ⟨rfl, rfl, rfl, by decide +kernel, rfl, by decide +kernel, by decide +kernel⟩
theorem ok_law_box (B : Bk K mg) : Df P w K mg base CX0 1 "_law_box" ["_law_script", "_law_k"] (spBox K) := by
  obtain ⟨fd, F⟩ := B.F_law_box
  refine ⟨⟨fd, ?_, F.binds fun _ _ _ _ _ _ us hl => match us, hl with | [_, _], _ => rfl⟩, B.g_law_box, F.kp⟩
  refine F.ok sc_box (fun vs H Q E h => ?_) (fun cdv A outer s H vs Q E hr h => ?_)
  · obtain ⟨u, lo, n, rfl, _⟩ := h
    rfl
  · obtain ⟨a, ns, k, rfl, hs, hk, hk2, kq⟩ := h
    refine ⟨_, pss_cons (ps_set (i := 2) sc_box.nd rfl (Or.inl rfl) (pe_ifExp (pt_cmpR op_lt (pv 1) (pe_callB call_len (by rfl) B.b_len (by decide +kernel) (pa_cons (pv 0) pa_nil)) (nomark _)) (pe_ix ix_list (pv 0) (pv 1) (fun _ _ => rfl)) pe_int))
      (pss_one (ps_ret (pe_lst (pa_cons (pe_op op_mul (pe_callB call_abs (by rfl) B.b_abs (by decide +kernel) (pa_cons (pv 2) pa_nil)) (pe_callTy call_int1 (by rfl) B.b_int (by decide +kernel) (pa_cons (pe_cmpR op_ge (pe_callB call_abs (by rfl) B.b_abs (by decide +kernel) (pa_cons (pv 2) pa_nil)) (pe_op op_pow pe_int pe_int) (nomark _)) pa_nil)))
        (pa_cons (pe_op op_add (pe_op op_add (pe_op op_mod (pe_callTy call_int1 (by rfl) B.b_int (by decide +kernel) (pa_cons (pv 2) pa_nil)) pe_int) (pe_op op_mul pe_int (pv 1))) pe_int) (pa_cons pe_int pa_nil)))))), ?_⟩
    obtain ⟨x, hx⟩ : ∃ x, ns[k]? = some x := ⟨ns[k], List.getElem?_eq_getElem hk⟩
    have hx2 : atI (ns.map V.int) (k : Int) = some (V.int x) := at_of rfl (by rw [List.getElem?_map, hx]; rfl)
    refine ⟨_, rfl, _, rfl, _, _, rfl, .inl ⟨_, hs, rfl⟩, _, _, rfl, rfl, _, rfl, ?_⟩
    have c1 : decide ((k : Int) < ((ns.map V.int).length : Int)) = true := decide_eq_true (by rw [List.length_map]; omega)
    show if decide ((k : Int) < ((ns.map V.int).length : Int)) = true then _ else _
    rw [c1]
    refine iteT ?_
    refine ⟨_, rfl, _, rfl, _, _, _, _, rfl, rfl, hs, hx2, ?_⟩
    refine ⟨_, rfl, _, rfl, _, rfl, _, rfl, _, _, rfl, rfl, ⟨by decide, by decide, by decide⟩, _, _, rfl, rfl, .inr ⟨_, rfl, _, _, rfl, rfl, .inr (b01 _), ?_⟩⟩
    · refine ⟨_, rfl, .inl ⟨_, rfl, _, _, rfl, rfl, (show (0 : Int) < 2305843009213693951 by decide), _, rfl, _, _, rfl, rfl, .inl ⟨by decide, by decide⟩, _, _, rfl, rfl, _, _, rfl, rfl, ?_⟩⟩
      refine ⟨(by show 3 ≤ sizeLine; decide), fun p hp => ?_⟩
      exact kq _ p (Same_new hp) hp ⟨_, _, _, upd_same, by omega, by omega⟩
theorem sc_cells : FnScope ["_law_script", "_law_top", "_law_cells_here", "_law_k", "_law_cell", "_law_at_so"] ["_law_script", "_law_top"] (defScope s__law_cells) := ⟨rfl, rfl, rfl, by decide +kernel, rfl, by decide +kernel, by decide +kernel⟩
theorem ok_law_cells (B : Bk K mg) : Df P w K mg base CX0 1 "_law_cells" ["_law_script", "_law_top"] (spCells K) := by
  obtain ⟨fd, F⟩ := B.F_law_cells
  refine ⟨⟨fd, ?_, F.binds fun _ _ _ _ _ _ us hl => match us, hl with | [_, _], _ => rfl⟩, B.g_law_cells, F.kp⟩
  refine F.ok sc_cells (fun vs H Q E h => ?_) (fun cdv A outer s H vs Q E hr h => ?_)
  · obtain ⟨u, lo, rfl, _⟩ := h
    rfl
  · obtain ⟨a, ns, rfl, hs, hk, kq⟩ := h
    refine ⟨_, pss_cons (ps_set (i := 2) sc_cells.nd rfl (Or.inl rfl) (pe_cut (pe_orT (pe_callTy call_list_of (by rfl) B.b_list (by decide +kernel) (pa_cons (pe_slice sl_list (pv 0) po_none (po_some (pv 1))) pa_nil)) (pe_one (pe_lst (pa_cons pe_int pa_nil))))))
      (pss_cons (ps_for PassesOwn.never rfl (pi_enum (by rfl) B.b_enumerate (pa_cons (pe_slice sl_list (pv 0) (po_some (pv 1)) (po_some pe_int)) pa_nil)) (pg_tup rfl (pgs_cons (pg_name (i := 3) sc_cells.nd rfl (.inl rfl)) (pgs_cons (pg_name (i := 4) sc_cells.nd rfl (.inl rfl)) pgs_nil)))
        (pss_cons (ps_set (i := 5) sc_cells.nd rfl (Or.inl rfl) (pe_op op_mod (pe_callTy call_int1 (by rfl) B.b_int (by decide +kernel) (pa_cons (pv 3) pa_nil)) (pv 1)))
        (pss_one (ps_asg (pe_op op_add (pe_ix ix_list (pv 2) (pv 5) (fun _ _ => rfl)) (pe_op op_mul (pv 4) (pe_op op_add (pv 3) pe_int))) (pg_sub (pv 2) (pv 5) set_list)))))
      (pss_one (ps_ret (pv 2)))), ?_⟩
    refine ⟨fun x H1 => ∃ (p : Addr) (ms : List Int), x = .ref p ∧ Same H H1 ∧ H p = none ∧ H1 p = some (.lst (ms.map V.int)) ∧ 1 ≤ ms.length ∧ ms.length ≤ 3 ∧ (3 < ns.length → ms.length = 3), ?_, ?_⟩
    · refine ⟨_, rfl, _, rfl, _, rfl, a, _, rfl, hs, fun q hq => ⟨_, _, rfl, .inl (SqL.of upd_same), fun l hl => ?_⟩⟩
      have sl : Same H (upd (upd H q (.lst (cutV (ns.map V.int) none (some (3 : Int))))) l (.lst (cutV (ns.map V.int) none (some (3 : Int))))) := Same_lay (Same_new hq) hl
      have nl : H l = none := (Same_new hq).free hl
      have ec : cutV (ns.map V.int) none (some (3 : Int)) = (ns.take 3).map V.int := by
        rw [show (3 : Int) = ((3 : Nat) : Int) from rfl, cut_to, List.map_take]
      refine ⟨_, .inl ⟨_, SqL.of upd_same, rfl⟩, two (fun h1 => ?_) (fun h1 => ?_)⟩
      · refine ⟨l, ns.take 3, rfl, sl, nl, by rw [upd_same, ec], ?_, by rw [List.length_take]; omega, fun h => by rw [List.length_take]; omega⟩
        have h1' : (!(cutV (ns.map V.int) none (some (3 : Int))).isEmpty) = true := h1
        rw [ec] at h1'
        cases hns : ns.take 3 with
        | nil => rw [hns] at h1'; cases h1'
        | cons x r => exact Nat.succ_le_succ (Nat.zero_le _)
      · have h1' : (!(cutV (ns.map V.int) none (some (3 : Int))).isEmpty) = false := h1
        rw [ec] at h1'
        have e0 : ns = [] := by
          cases ns with
          | nil => rfl
          | cons x r => cases h1'
        refine ⟨(by show 1 ≤ sizeLine; decide), fun p hp => ⟨p, [0], rfl, Same_lay sl hp, sl.free hp, upd_same, Nat.le_refl _, by decide, fun h => ?_⟩⟩
        rw [e0] at h
        exact absurd h (by decide)
    · rintro x H1 ⟨p, ms, rfl, s1, np, h1, l1, l3, l3'⟩
      have hs1 := s1.seq hs
      have ec : cutV (ns.map V.int) (some (3 : Int)) (some (63 : Int)) = ((ns.drop (min 3 ns.length)).take (min 63 ns.length - min 3 ns.length)).map V.int := by
        rw [show (3 : Int) = ((3 : Nat) : Int) from rfl, show (63 : Int) = ((63 : Nat) : Int) from rfl, cut_of, List.length_map, List.map_take, List.map_drop]
      have kl : ((ns.drop (min 3 ns.length)).take (min 63 ns.length - min 3 ns.length)).length ≤ ns.length - 3 := by
        rw [List.length_take, List.length_drop]
        omega
      generalize (ns.drop (min 3 ns.length)).take (min 63 ns.length - min 3 ns.length) = ks at ec kl
      refine ⟨_, rfl, _, rfl, _, rfl, _, rfl, a, _, rfl, hs1, fun q hq => ⟨q, ks.map V.int, rfl, SqL.of (by rw [upd_same, ec]), ?_⟩⟩
      have npq : p ≠ q := ne_of_none h1 hq
      refine for_it (n := (ks.map V.int).length) walk_enum (fun i σ H' => ∃ (ms' : List Int) (v3 v4 v5 : Option V), σ = [some (.ref a), some (.int 3), some (.ref p), v3, v4, v5] ∧ Same H H' ∧ H' p = some (.lst (ms'.map V.int)) ∧ ms'.length = ms.length ∧ H' q = some (.lst (ks.map V.int)))
        ⟨ms, none, none, none, rfl, Same_lay s1 hq, by rw [upd_ne npq]; exact h1, rfl, by rw [upd_same, ec]⟩ (fun i σ H' _ ⟨_, _, _, _, _, _, _, _, e⟩ => SqL.of e) (fun i x σ H2 H3 hi ⟨ms', v3, v4, v5, e, s2, h2, hl2, hq2⟩ y => ?_) (fun σ H2 ⟨ms', v3, v4, v5, e, s2, h2, hl2, hq2⟩ => ?_)
      · obtain ⟨T, x1, x2, rfl, nT, rfl, e1, e2⟩ := y
        have e1' := Option.some.inj e1
        subst e1'
        have e2 : (ks.map V.int)[i]? = some x2 := e2
        rw [List.getElem?_map] at e2
        cases hz : ks[i]? with
        | none =>
          rw [hz] at e2
          cases e2
        | some z =>
          rw [hz] at e2
          have e2' := Option.some.inj e2
          subst e2' e
          have hik : i < ks.length := (List.getElem?_eq_some_iff.mp hz).1
          have hm3 : ms'.length = 3 := by rw [hl2]; exact l3' (by omega)
          have nTp : p ≠ T := ne_of_none h2 nT
          have nTq : q ≠ T := ne_of_none hq2 nT
          refine ⟨_, _, rfl, SqT.of upd_same, rfl, _, _, rfl, _, _, rfl, rfl, ?_⟩
          have j0 : 0 ≤ (i : Int) % 3 := Int.emod_nonneg _ (by decide)
          have j1 : (i : Int) % 3 < 3 := Int.emod_lt_of_pos _ (by decide)
          have j2 : ((i : Int) % 3) = (((i : Int) % 3).toNat : Int) := by omega
          obtain ⟨m, hm⟩ : ∃ m, ms'[((i : Int) % 3).toNat]? = some m := ⟨ms'[((i : Int) % 3).toNat]'(by omega), List.getElem?_eq_getElem _⟩
          have h3 : (upd H2 T (.tup [V.int (i : Nat), V.int z])) p = some (.lst (ms'.map V.int)) := by rw [upd_ne nTp]; exact h2
          refine ⟨_, rfl, .inl ⟨_, rfl, _, rfl, _, _, rfl, rfl, (show (0 : Int) < 3 by decide), ?_⟩⟩
          refine ⟨_, rfl, _, rfl, _, _, _, _, rfl, rfl, SqL.of h3, at_of j2 (by rw [List.getElem?_map, hm]; rfl), _, rfl, _, rfl, _, _, rfl, rfl, _, _, rfl, rfl, .inr ⟨?_, ?_⟩, _, _, rfl, rfl, ?_⟩
          · show -(2 ^ 64) < ((i : Int) + 2)
            omega
          · show ((i : Int) + 2) < 2 ^ 64
            omega
          · refine ⟨_, rfl, _, rfl, p, _, _, ((i : Int) % 3).toNat, rfl, rfl, h3, ?_, ?_⟩
            · show ixN (ms'.map V.int).length ((i : Int) % 3) = _
              unfold ixN
              rw [if_pos j0, if_pos (by rw [List.length_map, hm3]; exact j1)]
            · refine ⟨ms'.set ((i : Int) % 3).toNat (m + z * ((i : Int) + 2)), _, _, _, rfl, Same_upd (Same_lay s2 nT) np, ?_, ?_, ?_⟩
              · rw [upd_same, List.map_set]
              · rw [List.length_set, hl2]
              · rw [upd_ne npq.symm, upd_ne nTq]
                exact hq2
      · subst e
        exact ⟨_, rfl, kq H2 p ms' s2 np h2 (by omega) (by omega)⟩
end
end Jd
namespace Jd
open PySem PySem.Spec PyProof.Rows L2
/-! ### words_of, _stated -/
def wordsOf (z : Str) : List Str := (Txt.split z " ").filter fun w => decide (w ≠ "")
def spWords : Sp := fun vs H Q _ => ∃ z : Str, vs = [.str z] ∧ z.length + 2 ≤ sizeLine ∧ ∀ H' p, Same H H' → H p = none → H' p = some (.lst ((wordsOf z).map V.str)) → Q (.ref p) H'
def pickOf (ws : List Str) : Option (List Str) := match ws with
  | [] => some []
  | [a] => some [a]
  | [a, b, c] => if b = "tells" then some [a, c] else none
  | _ => none
def statedOf (ws : List Str) : Option (List Str) := (pickOf ws).bind fun l => if l.all (fun w => isName (cd w)) = true then some l else none
def spStated : Sp := fun vs H Q _ => ∃ (p : Addr) (ws : List Str), vs = [.ref p] ∧ H p = some (.lst (ws.map V.str)) ∧ ws.length ≤ 1000000 ∧ (∀ w ∈ ws, w.length ≤ sizeLine) ∧
  (statedOf ws = none → ∀ H', Same H H' → Q .non H') ∧ (∀ l, statedOf ws = some l → ∀ H' q, Same H H' → (q = p ∨ H q = none) → H' q = some (.lst (l.map V.str)) → Q (.ref q) H')
section
variable {P : Program} {w : World} {K : PySem.W.Frag} {mg : Str → Option Value} {base : Heap}
theorem sc_words : FnScope ["line", "word"] ["line"] (defScope s_words_of) := ⟨rfl, rfl, rfl, by decide +kernel, rfl, by decide +kernel, by decide +kernel⟩
theorem ok_words_of (B : Bk K mg) : Df P w K mg base CX0 1 "words_of" ["line"] spWords := by
  obtain ⟨fd, F⟩ := B.F_words_of
  refine ⟨⟨fd, ?_, F.binds fun _ _ _ _ _ _ us hl => match us, hl with | [_], _ => rfl⟩, B.g_words_of, F.kp⟩
  refine F.ok sc_words (fun vs H Q E h => ?_) (fun cdv A outer s H vs Q E hr h => ?_)
  · obtain ⟨z, rfl, _⟩ := h
    rfl
  · obtain ⟨z, rfl, hz, k⟩ := h
    refine ⟨_, pss_one (ps_ret (pe_lc (own := [("word", 1)]) (g := gName 1) (tt := tTest (tOp rNe (tVar 1) (tC (.str "")))) rfl sc_words.nd (pi_list (pe_split (pv 0) pe_str)) (blkOk_by (N := ["line", "word"]) (sc := defScope s_words_of) (by decide +kernel))
      (fun _ _ _ _ _ => pg_name (i := 1) sc_words.nd rfl (Or.inl rfl)) (fun _ _ _ _ _ => pts_one (pt_cmpR op_ne (pv 1) pe_str (nomark _))) (fun _ _ _ _ _ => pv 1))), ?_⟩
    refine ⟨_, rfl, ⟨z, rfl⟩, z, " ", rfl, rfl, rfl, hz, fun p hp => ?_⟩
    have sp := Same_new (o := HO.lst ((Txt.split z " ").map V.str)) hp
    have hpp : (upd H p (.lst ((Txt.split z " ").map V.str))) p = some (.lst ((Txt.split z " ").map V.str)) := upd_same
    refine ⟨p, rfl, ⟨_, SqL.of hpp⟩, fun D hD => ?_⟩
    have hD0 : H D = none := sp.free hD
    have hsl : (Txt.split z " ").length ≤ sizeLine := Nat.le_trans (PyProof.Rows.split_le z " ") (by omega)
    refine lc_fm (walk_list (xs := (Txt.split z " ").map V.str)) (fun i => ((Txt.split z " ")[i]?).bind fun o => if decide (o ≠ "") = true then some (V.str o) else Option.none) hD (by rw [List.length_map]; exact hsl) (fun H' s' => sm_seqL s' (SqL.of hpp)) (fun i v H5 H6 Kt Kf hi s5 y kt kf => ?_) (fun H5 s5 hD5 => ?_)
    · obtain ⟨rfl, hv⟩ := y
      obtain ⟨o, ho, rfl⟩ := at_str hv
      refine ⟨rfl, _, rfl, rfl, _, rfl, two (fun h1 => ?_) (fun h1 => ?_)⟩
      · have h1' : (!decide (V.str o = V.str "")) = true := h1
        have e1 : decide (o ≠ "") = true := decide_eq_true fun z => by rw [z, decide_eq_true rfl] at h1'; cases h1'
        exact ⟨_, rfl, kt _ _ (by rw [ho]; show (if decide (o ≠ "") = true then _ else _) = _; rw [if_pos e1]) (Same.refl _)⟩
      · have h1' : (!decide (V.str o = V.str "")) = false := h1
        have e1 : decide (o ≠ "") = false := decide_eq_false fun z => by
          rw [decide_eq_false (fun q => z (V.str.inj q))] at h1'
          cases h1'
        exact kf _ (by rw [ho]; show (if decide (o ≠ "") = true then _ else _) = _; rw [if_neg (by rw [e1]; exact Bool.false_ne_true)]) (Same.refl _)
    · rw [List.length_map, fm_bind, fm_filter] at hD5
      exact k _ D (sp.trans s5) hD0 hD5
theorem sc_stated : FnScope ["words", "word"] ["words"] (defScope s__stated) := ⟨rfl, rfl, rfl, by decide +kernel, rfl, by decide +kernel, by decide +kernel⟩
theorem ok_stated (B : Bk K mg) : Df P w K mg base CX0 2 "_stated" ["words"] spStated := by
  obtain ⟨fd, F⟩ := B.F_stated
  obtain ⟨fdN, GN, bN⟩ := (ok_is_name (P := P) (w := w) (base := base) B).ex
  have kN := (ok_is_name (P := P) (w := w) (base := base) B).kp
  refine ⟨⟨fd, ?_, F.binds fun _ _ _ _ _ _ us hl => match us, hl with | [_], _ => rfl⟩, B.g_stated, F.kp⟩
  refine F.ok sc_stated (fun vs H Q E h => ?_) (fun cdv A outer s H vs Q E hr h => ?_)
  · obtain ⟨_, _, rfl, _⟩ := h
    rfl
  · obtain ⟨p, ws, rfl, hp, hl, hw, k1, k2⟩ := h
    refine ⟨_, pss_cons (ps_cut (ps_if (PW.pt (pw_and (pt_cmpR op_eq (pe_callB call_len_seq (by rfl) B.b_len (by decide +kernel) (pa_cons (pv 0) pa_nil)) pe_int (nomark _)) (pw_and1 (pt_cmpR op_eq (pe_ix ix_list (pv 0) pe_int (fun _ _ => rfl)) pe_str (nomark _)))))
        (pss_one (ps_set (i := 0) sc_stated.nd rfl (Or.inl rfl) (pe_lst (pa_cons (pe_ix ix_list (pv 0) pe_int (fun _ _ => rfl)) (pa_cons (pe_ix ix_list (pv 0) pe_int (fun _ _ => rfl)) pa_nil)))))
        (pss_one (ps_if (pt_cmpR op_gt (pe_callB call_len_seq (by rfl) B.b_len (by decide +kernel) (pa_cons (pv 0) pa_nil)) pe_int (nomark _)) (pss_one (ps_ret pe_non)) pss_nil))))
      (pss_one (ps_ret (pe_ifExp (pt_val (pe_callB (cr_all rfl) (by rfl) B.b_all (by decide +kernel) (pa_cons (pe_lc (own := [("word", 1)]) (g := gName 1) (tt := tYes) rfl sc_stated.nd (pi_list (pv 0)) (blkOk_by (N := ["words", "word"]) (sc := defScope s__stated) (by decide +kernel))
          (fun _ _ _ _ _ => pg_name (i := 1) sc_stated.nd rfl (Or.inl rfl)) (fun _ _ _ _ _ => pts_nil) (fun _ _ _ _ _ => pe_call GN hr rfl B.g_is_name kN bN .nil pass0 (pa_cons (pv 1) pa_nil))) pa_nil))) (pv 0) pe_non))), ?_⟩
    refine ⟨fun σ' H' => ∃ (q : Addr) (l : List Str), σ' = [some (.ref q), none] ∧ Same H H' ∧ pickOf ws = some l ∧ (∀ x ∈ l, x ∈ ws) ∧ (q = p ∨ H q = none) ∧ H' q = some (.lst (l.map V.str)), ?_, ?_⟩
    · refine ⟨_, rfl, p, _, rfl, .inl (SqL.of hp), rfl, _, rfl, two (fun h1 => ?_) (fun h1 => ?_)⟩
      · have l3 : ws.length = 3 := by
          have e := V.int.inj (of_decide_eq_true h1)
          rw [List.length_map] at e
          omega
        obtain ⟨a, b, c, rfl⟩ : ∃ a b c, ws = [a, b, c] := by
          match ws, l3 with
          | [a, b, c], _ => exact ⟨a, b, c, rfl⟩
        refine ⟨_, rfl, p, _, _, V.str b, rfl, rfl, SqL.of hp, rfl, rfl, _, rfl, two (fun h2 => ?_) (fun h2 => ?_)⟩
        · have eb : b = "tells" := V.str.inj (of_decide_eq_true h2)
          refine ⟨_, rfl, p, _, _, V.str a, rfl, rfl, SqL.of hp, rfl, _, rfl, p, _, _, V.str c, rfl, rfl, SqL.of hp, rfl, (by show 2 ≤ sizeLine; decide), fun q nq => ?_⟩
          refine ⟨q, [a, c], rfl, Same_new nq, ?_, fun x hx => ?_, .inr nq, upd_same⟩
          · show (if b = "tells" then some [a, c] else none) = _
            rw [if_pos eb]
          · rcases List.mem_cons.mp hx with rfl | hx
            · exact List.mem_cons_self
            · rw [List.mem_singleton.mp hx]
              exact List.mem_cons_of_mem _ (List.mem_cons_of_mem _ List.mem_cons_self)
        · have eb : b ≠ "tells" := fun z => of_decide_eq_false h2 (by rw [z])
          refine ⟨_, rfl, p, _, rfl, .inl (SqL.of hp), _, _, rfl, rfl, _, rfl, iteT (k1 ?_ _ (Same.refl _))⟩
          show (pickOf [a, b, c]).bind _ = none
          rw [show pickOf [a, b, c] = none from if_neg eb]
          rfl
      · have l3 : ws.length ≠ 3 := fun z => of_decide_eq_false h1 (by rw [List.length_map, z]; rfl)
        refine ⟨_, rfl, p, _, rfl, .inl (SqL.of hp), _, _, rfl, rfl, _, rfl, two (fun h2 => ?_) (fun h2 => ?_)⟩
        · have l1 : 1 < ws.length := by
            have e := of_decide_eq_true h2
            rw [List.length_map] at e
            omega
          refine k1 ?_ _ (Same.refl _)
          have e : pickOf ws = none := by
            match ws, l1, l3 with
            | [a, b], _, _ => rfl
            | a :: b :: c :: d :: r, _, _ => rfl
          unfold statedOf
          rw [e]
          rfl
        · have l1 : ws.length ≤ 1 := by
            have e := of_decide_eq_false h2
            rw [List.length_map] at e
            omega
          refine ⟨p, ws, rfl, Same.refl _, ?_, fun x hx => hx, .inl rfl, hp⟩
          match ws, l1 with
          | [], _ => rfl
          | [a], _ => rfl
    rintro σ1 H1 ⟨q, l, rfl, s1, ep, ml, hq0, hq⟩
    have ll : l.length ≤ 1000000 := by
      unfold pickOf at ep
      split at ep
      · cases ep; decide
      · cases ep; exact (by omega : 1 ≤ 1000000)
      · split at ep
        · cases ep; exact (by omega : 2 ≤ 1000000)
        · cases ep
      · cases ep
    refine ⟨_, rfl, q, rfl, ⟨_, SqL.of hq⟩, fun D hD => ?_⟩
    refine lc_fm (walk_list (xs := l.map V.str)) (fun i => (l[i]?).map fun z => V.bl (isName (cd z))) hD (by rw [List.length_map]; exact Nat.le_trans ll (by decide)) (fun H' s' => sm_seqL s' (SqL.of hq)) (fun i v H5 H6 Kt Kf hi s5 y kt kf => ?_) (fun H5 s5 hD5 => ?_)
    · obtain ⟨rfl, hv⟩ := y
      obtain ⟨o, ho, rfl⟩ := at_str hv
      refine ⟨rfl, iteT (B := Kf H6) ?_⟩
      exact ⟨_, rfl, o, rfl, hw o (ml o (List.mem_of_getElem? ho)), fun H7 s7 => kt _ _ (by rw [ho]; rfl) s7⟩
    · rw [List.length_map, fm_some (l := l) (g := fun z => V.bl (isName (cd z))) (fun i c hc => by rw [hc]; rfl)] at hD5
      refine ⟨D, l.map fun z => isName (cd z), rfl, SqL.of (by rw [hD5, List.map_map]; rfl), _, rfl, ?_⟩
      have ea : (l.map fun z => isName (cd z)).all id = l.all fun z => isName (cd z) := by rw [List.all_map]; rfl
      refine two (fun h1 => ?_) (fun h1 => ?_)
      · refine ⟨_, rfl, k2 l ?_ _ _ (s1.trans s5) hq0 (s5 _ _ hq)⟩
        unfold statedOf
        rw [ep]
        show (if (l.all fun w => isName (cd w)) = true then some l else none) = some l
        rw [if_pos (by rw [← ea]; exact h1)]
      · refine k1 ?_ _ (s1.trans s5)
        unfold statedOf
        rw [ep]
        show (if (l.all fun w => isName (cd w)) = true then some l else none) = none
        rw [if_neg (by rw [← ea, show _ = false from h1]; exact Bool.false_ne_true)]
end
end Jd
namespace Jd
open PySem PySem.Spec PyProof.Rows L2
/-! ### dicts of tuples of texts compared -/
theorem eqv_strs : ∀ l m : List Str, PyData.eqvAll (l.map PyData.str) (m.map PyData.str) = decide (l = m)
  | [], [] => by simp [PyData.eqvAll]
  | [], y :: ys => by simp [PyData.eqvAll]
  | x :: xs, [] => by simp [PyData.eqvAll]
  | x :: xs, y :: ys => by
    rw [List.map_cons, List.map_cons, PyData.eqvAll, eqv_strs xs ys, PyData.eqv]
    by_cases h : x = y
    · subst h
      simp
    · have hb : (x == y) = false := by
        cases e : (x == y) with
        | false => rfl
        | true => exact absurd (eq_of_beq e) h
      rw [hb, Bool.false_and, decide_eq_false fun q => h (List.cons.inj q).1]
theorem lay_strs : ∀ l : List Str, (∀ z ∈ l, PyData.strOk z = true) → PyData.canLayAll0 (l.map PyData.str) = true
  | [], _ => by simp [PyData.canLayAll0]
  | x :: xs, h => by
    rw [List.map_cons]
    simp [PyData.canLayAll0, PyData.canLay0, lay_strs xs fun z hz => h z (List.mem_cons_of_mem _ hz), h x List.mem_cons_self]
theorem dep_strs : ∀ l : List Str, PyData.depthAll (l.map PyData.str) = 0
  | [] => by simp [PyData.depthAll]
  | x :: xs => by
    rw [List.map_cons]
    simp [PyData.depthAll, PyData.depth, dep_strs xs]
theorem dp_strs {K : PySem.W.Frag} {H : Hp} : ∀ l : List Str, DpAll K H (l.map V.str) (l.map PyData.str)
  | [] => .nil
  | x :: xs => .cons (.str x) (dp_strs xs)
def hitB (ms : List Str) (t u : Str → List Str) : List Str → Bool
  | [] => true
  | n :: r => if n ∈ ms then (decide (t n = u n) && hitB ms t u r) else false
theorem hitB_eq (ms : List Str) (t u : Str → List Str) : ∀ ns : List Str, hitB ms t u ns = decide (∀ n ∈ ns, n ∈ ms ∧ t n = u n)
  | [] => by
    unfold hitB
    exact (decide_eq_true fun n h => by cases h).symm
  | n :: r => by
    unfold hitB
    rw [hitB_eq ms t u r]
    by_cases h : n ∈ ms
    · rw [if_pos h, ← Bool.decide_and]
      refine decide_eq_decide.mpr ⟨fun q m hm => ?_, fun q => ⟨(q n List.mem_cons_self).2, fun m hm => q m (List.mem_cons_of_mem _ hm)⟩⟩
      rcases List.mem_cons.mp hm with rfl | hm
      · exact ⟨h, q.1⟩
      · exact q.2 m hm
    · rw [if_neg h]
      exact (decide_eq_false fun q => h (q n List.mem_cons_self).1).symm
def rEqT (K : PySem.W.Frag) : R2 := fun x y H Q => ∃ (a b : Addr) (ns ms : List Str) (A B : Str → Addr) (t u : Str → List Str), x = .ref a ∧ y = .ref b ∧ H a = some (.dK (kvT ns A)) ∧ H b = some (.dK (kvT ms B)) ∧
  (∀ n ∈ ns, H (A n) = some (.tup ((t n).map V.str))) ∧ (∀ n ∈ ms, H (B n) = some (.tup ((u n).map V.str))) ∧ (∀ n ∈ ns, ∀ z ∈ t n, PyData.strOk z = true) ∧ (∀ n ∈ ms, ∀ z ∈ u n, PyData.strOk z = true) ∧ Q (.bl (decide (ns.length = ms.length ∧ ∀ n ∈ ns, n ∈ ms ∧ t n = u n))) H
section
variable {X : Cx} {pins : List (Addr × Obj)} {σ : L2.St} {H : Hp} {s : Shared}
theorem hits_T (I : Inv X pins σ H s) {A0 : Around} (hu : A0.units + 1 < cLine) {ms : List Str} {A B : Str → Addr} {t u : Str → List Str} {vb : List (Key × Value)} (rb : KV (kvT ms B) vb) (hB : ∀ n ∈ ms, H (B n) = some (.tup ((u n).map V.str))) (gu : ∀ n ∈ ms, ∀ z ∈ u n, PyData.strOk z = true) :
    ∀ (ns : List Str) (va : List (Key × Value)), KV (kvT ns A) va → (∀ n ∈ ns, H (A n) = some (.tup ((t n).map V.str))) → (∀ n ∈ ns, ∀ z ∈ t n, PyData.strOk z = true) → PySem.W.KeqHitsP X.prog X.w A0 s vb va (hitB ms t u ns)
  | [], va, ra, _, _ => by
    cases ra
    exact .nil
  | n :: r, va, ra, hA, gt => by
    cases ra with
    | @cons p q ps qs h tl =>
      obtain ⟨key, v⟩ := q
      obtain ⟨h1, h2⟩ := h
      have h1' : (Sum.inr n : Key) = key := h1
      subst h1'
      cases (show v = Value.ref (A n) from h2)
      unfold hitB
      by_cases hm : n ∈ ms
      · rw [if_pos hm]
        have rr : RelO (some (V.ref (B n))) (valueAt vb (Sum.inr n)) := by
          have q := rb.val (Sum.inr n)
          rw [valV_kvT hm] at q
          exact q
        obtain ⟨y, hy, ry⟩ := rr.some_of
        cases (show y = Value.ref (B n) from ry)
        have d1 : Dp X.K H (.ref (A n)) (.tuple ((t n).map PyData.str)) := .tup (SqT.of (hA n List.mem_cons_self)) (dp_strs _)
        have d2 : Dp X.K H (.ref (B n)) (.tuple ((u n).map PyData.str)) := .tup (SqT.of (hB n hm)) (dp_strs _)
        obtain ⟨as, r1⟩ := Dp.reads I _ _ (.ref (A n)) d1 rfl
        obtain ⟨bs, r2⟩ := Dp.reads I _ _ (.ref (B n)) d2 rfl
        have e := SeqAt.eqAt_reads (.tuple ((t n).map PyData.str)) (.tuple ((u n).map PyData.str)) A0 s _ _ as bs r1 r2 (by simpa [PyData.canLay0] using lay_strs (t n) (gt n List.mem_cons_self)) (by simpa [PyData.canLay0] using lay_strs (u n) (gu n hm))
          (by
            have z1 : (PyData.tuple ((t n).map PyData.str)).depth = 1 := by simp [PyData.depth, dep_strs]
            rw [z1]
            have := Nat.min_le_left 1 (PyData.tuple ((u n).map PyData.str)).depth
            omega)
        have e2 : PyData.eqv (.tuple ((t n).map PyData.str)) (.tuple ((u n).map PyData.str)) = decide (t n = u n) := by
          rw [PyData.eqv]
          exact eqv_strs _ _
        rw [e2] at e
        exact .hit hy e.eqP (hits_T I hu rb hB gu r qs tl (fun m h => hA m (List.mem_cons_of_mem _ h)) fun m h => gt m (List.mem_cons_of_mem _ h))
      · rw [if_neg hm]
        have rr : RelO none (valueAt vb (Sum.inr n)) := by
          have q := rb.val (Sum.inr n)
          rw [valV_kvN hm] at q
          exact q
        exact .miss rr.none_of
theorem op_eqT (hu : X.A.units + 64 < cLine) : OpR X (compareOp .Eq) (rEqT X.K) := by
  intro pins s σ H x y v u Q I rx ry h
  obtain ⟨a, b, ns, ms, A, B, t, u', rfl, rfl, ha, hb, hA, hB, gt, gu, q⟩ := h
  cases (show v = Value.ref a from rx)
  cases (show u = Value.ref b from ry)
  obtain ⟨_, ya, va, ra, da⟩ := (show ObjOk X.prog X.w H s.heap a (.dK (kvT ns A)) from I.hok a _ ha)
  obtain ⟨_, yb, vb, rb, db⟩ := (show ObjOk X.prog X.w H s.heap b (.dK (kvT ms B)) from I.hok b _ hb)
  show wpAny (model X.prog X.w) X.A (richCompare .Eq (.ref a) (.ref b)) (EP X pins σ Q) X.xe s
  refine PySem.W.rcP_dicts (knd := mixKind X.prog X.w) (r := hitB ms t u' ns) ya yb da db (by omega) (fun _ => hits_T I (A0 := X.A.in1) (by show X.A.units + 1 + 1 < cLine; omega) rb hB gu ns va ra hA gt) _ _ ?_
  have e1 : va.length = ns.length := by rw [← ra.length, kvT_len]
  have e2 : vb.length = ms.length := by rw [← rb.length, kvT_len]
  have e : (va.length == vb.length && hitB ms t u' ns) = decide (ns.length = ms.length ∧ ∀ n ∈ ns, n ∈ ms ∧ t n = u' n) := by
    rw [e1, e2, hitB_eq, Bool.decide_and]
    rfl
  rw [e]
  exact ⟨.bl _, H, I, rfl, q⟩
end
end Jd
namespace Jd
open PySem PySem.Spec PyProof.Rows L2
/-! ### Keys asked -/
section
variable {J : It} {n : Nat} {G : Hp → Prop} {Y : Nat → Hp → V → Hp → Prop}
/-- a comprehension's outer walk: what a turn does is told whole -/
theorem walk_by (w : Walk J n G Y) (T : (Hp → Prop) → V → Hp → Prop) (Pv : Nat → Hp → Prop) {Z : Hp} {Qd : Hp → Prop} (h0 : Pv 0 Z) (hG : ∀ i H, Pv i H → G H)
    (hs : ∀ i x H H', i < n → Pv i H → Y i H x H' → T (Pv (i + 1)) x H') (hd : ∀ H, Pv n H → Qd H) :
    ∃ W : Nat → Nat → Hp → Prop, (∃ m, W 0 m Z) ∧ ∀ i m H, W i m H → (J.stop i H ∧ Qd H) ∨ (J.go i H ∧ ∃ Nx : Hp → Prop, (∀ H', Nx H' → ∃ m', m' < m ∧ W (i + 1) m' H') ∧ ∀ x H', J.yld i H x H' → T Nx x H') := by
  refine ⟨fun i m H => i + m = n ∧ Pv i H, ⟨n, by omega, h0⟩, fun i m H hw => ?_⟩
  obtain ⟨e, p⟩ := hw
  rcases Nat.eq_zero_or_pos m with z | z
  · have ei : i = n := by omega
    rw [ei] at p
    exact .inl ⟨by rw [ei]; exact w.stops H (hG _ _ p), hd H p⟩
  · have li : i < n := by omega
    exact .inr ⟨w.goes i H li (hG _ _ p), Pv (i + 1), fun H' q => ⟨m - 1, by omega, by omega, q⟩, fun x H' y => hs i x H H' li p (w.yields i H x H' li (hG _ _ p) y)⟩
end
/-- tuples of two texts, one behind another -/
def PrAt (H : Hp) (qs : List Addr) (prs : List (Str × Str)) : Prop := qs.length = prs.length ∧ ∀ (i : Nat) (q : Addr), qs[i]? = some q → ∃ pr, prs[i]? = some pr ∧ H q = some (.tup [.str pr.1, .str pr.2])
theorem PrAt.same {H H' : Hp} {qs : List Addr} {prs : List (Str × Str)} (h : PrAt H qs prs) (s : Same H H') : PrAt H' qs prs := ⟨h.1, fun i q hq => let ⟨pr, e, z⟩ := h.2 i q hq; ⟨pr, e, s _ _ z⟩⟩
theorem PrAt.nil {H : Hp} : PrAt H [] [] := ⟨rfl, fun i q h => by cases h⟩
theorem PrAt.snoc {H : Hp} {qs : List Addr} {prs : List (Str × Str)} {q : Addr} {pr : Str × Str} (h : PrAt H qs prs) (hq : H q = some (.tup [.str pr.1, .str pr.2])) : PrAt H (qs ++ [q]) (prs ++ [pr]) := by
  refine ⟨by rw [List.length_append, List.length_append, h.1]; rfl, fun i p hp => ?_⟩
  by_cases hi : i < qs.length
  · rw [List.getElem?_append_left hi] at hp
    obtain ⟨pr', e, z⟩ := h.2 i p hp
    exact ⟨pr', by rw [List.getElem?_append_left (by rw [← h.1]; exact hi)]; exact e, z⟩
  · rw [List.getElem?_append_right (by omega)] at hp
    have i0 : i - qs.length = 0 := by
      rcases Nat.eq_zero_or_pos (i - qs.length) with z | z
      · exact z
      · rw [List.getElem?_eq_none (by show 1 ≤ _; omega)] at hp
        cases hp
    rw [i0] at hp
    cases hp
    refine ⟨pr, ?_, hq⟩
    rw [List.getElem?_append_right (by rw [← h.1]; omega), ← h.1, i0]
    rfl
def pairsOf (ns : List Str) (t : Str → List Str) : List (Str × Str) := ns.flatMap fun n => (t n).map fun o => (n, o)
theorem pairs_len {t : Str → List Str} : ∀ {ns : List Str}, (∀ n ∈ ns, (t n).length ≤ 7) → (pairsOf ns t).length ≤ 7 * ns.length
  | [], _ => Nat.le_refl _
  | n :: r, h => by
    have q := pairs_len (ns := r) fun m hm => h m (List.mem_cons_of_mem _ hm)
    have q2 := h n List.mem_cons_self
    unfold pairsOf at q ⊢
    rw [List.flatMap_cons, List.length_append, List.length_map, List.length_cons]
    omega
theorem pairs_snoc {ns : List Str} {t : Str → List Str} {n : Str} : pairsOf (ns ++ [n]) t = pairsOf ns t ++ (t n).map fun o => (n, o) := by
  unfold pairsOf
  rw [List.flatMap_append]
  simp
def spCheck (K : PySem.W.Frag) : Sp := fun vs H Q E => ∃ (x : Addr) (z : Str) (ns : List Str) (t : Str → List Str), vs = [.ref x, .str z] ∧ KeysO K H x ns t ∧ ((z = "#" ∨ z ∈ ns) → Q .non H) ∧
  (¬ (z = "#" ∨ z ∈ ns) → ∀ H' d, Same H H' → H' d = some (.xd [("name", .str z)]) → E (.ref (He.ga K "NoName")) (some d) H')
def toldAt (ns : List Str) (t : Str → List Str) (z : Str) : List Str := if z = "#" then ns else t z
def spTold (K : PySem.W.Frag) : Sp := fun vs H Q E => ∃ (x : Addr) (z : Str) (ns : List Str) (t : Str → List Str), vs = [.ref x, .str z] ∧ KeysO K H x ns t ∧ ((z = "#" ∨ z ∈ ns) → ∀ p, H p = some (.tup ((toldAt ns t z).map V.str)) → Q (.ref p) H) ∧
  (¬ (z = "#" ∨ z ∈ ns) → ∀ H' d, Same H H' → H' d = some (.xd [("name", .str z)]) → E (.ref (He.ga K "NoName")) (some d) H')
def spTells (K : PySem.W.Frag) : Sp := fun vs H Q E => ∃ (x : Addr) (z y : Str) (ns : List Str) (t : Str → List Str), vs = [.ref x, .str z, .str y] ∧ KeysO K H x ns t ∧ ((z = "#" ∨ z ∈ ns) → (y = "#" ∨ y ∈ ns) → Q (.bl (decide (y ∈ toldAt ns t z))) H) ∧
  (∀ b : Str, (if (z = "#" ∨ z ∈ ns) then (¬ (y = "#" ∨ y ∈ ns) ∧ b = y) else b = z) → ∀ H' d, Same H H' → H' d = some (.xd [("name", .str b)]) → E (.ref (He.ga K "NoName")) (some d) H')
def spNames (K : PySem.W.Frag) : Sp := fun vs H Q _ => ∃ (x : Addr) (ns : List Str) (t : Str → List Str), vs = [.ref x] ∧ KeysO K H x ns t ∧ ∀ p, H p = some (.tup (ns.map V.str)) → Q (.ref p) H
def spPairs (K : PySem.W.Frag) : Sp := fun vs H Q _ => ∃ (x : Addr) (ns : List Str) (t : Str → List Str), vs = [.ref x] ∧ KeysO K H x ns t ∧ ∀ H' p qs, Same H H' → H' p = some (.tup (qs.map V.ref)) → PrAt H' qs (pairsOf ns t) → Q (.ref p) H'
def spHas (K : PySem.W.Frag) : Sp := fun vs H Q _ => ∃ (x : Addr) (z : Str) (ns : List Str) (t : Str → List Str), vs = [.ref x, .str z] ∧ KeysO K H x ns t ∧ Q (.bl (decide (z ∈ ns))) H
def spLenK (K : PySem.W.Frag) : Sp := fun vs H Q _ => ∃ (x : Addr) (ns : List Str) (t : Str → List Str), vs = [.ref x] ∧ KeysO K H x ns t ∧ Q (.int ns.length) H
def spEqK (K : PySem.W.Frag) : Sp := fun vs H Q _ => ∃ (x y : Addr) (ns : List Str) (t : Str → List Str), vs = [.ref x, .ref y] ∧ KeysO K H x ns t ∧
  ((∃ (ms : List Str) (u : Str → List Str), KeysO K H y ms u ∧ Q (.bl (decide (ns.length = ms.length ∧ ∀ n ∈ ns, n ∈ ms ∧ t n = u n))) H) ∨ ((∃ xs, H y = some (.tup xs)) ∧ Q (.bl false) H))
/-- a name that is none, told by its error -/
theorem rd_nn {C : Addr} {i : Nat} {σ : L2.St} {H1 : Hp} {z : Str} {E : XK} (hσ : σ[i]? = some (some (.str z))) (h : ∀ H' d, Same H1 H' → H' d = some (.xd [("name", .str z)]) → E (.ref C) (some d) H') : tMkO C (spNN C) [] (tCons (tVar i) tNil) σ H1 E := by
  refine ⟨_, hσ, (by show 1 ≤ 1000; decide), fun a na => ⟨a, _, rfl, upd_same, fun ex nd ne => ⟨rfl, ex, [("name", .str z)], upd_same, ?_, ?_, ?_⟩⟩⟩
  · rw [upd_ne ne, upd_same]
  · rw [upd_ne ne] at nd
    exact nd
  · have nd' : H1 ex = none := by
      rw [upd_ne ne] at nd
      exact nd
    refine h _ ex (fun b o q => ?_) upd_same
    have nb : b ≠ a := ne_of_none q na
    rw [upd_ne (ne_of_none q nd'), del_ne nb, upd_ne nb, upd_ne (ne_of_none q nd'), upd_ne nb]
    exact q
theorem str_eq (a b : Str) : decide (V.str a = V.str b) = decide (a = b) := decide_eq_decide.mpr ⟨V.str.inj, fun e => e ▸ rfl⟩
section
variable {P : Program} {w : World} {K : PySem.W.Frag} {mg : Str → Option Value} {base : Heap}
theorem sc_ck : FnScope ["self", "name"] ["self", "name"] (defScope s_Keys__check) := ⟨rfl, rfl, rfl, by decide +kernel, rfl, by decide +kernel, by decide +kernel⟩
theorem ok_check (B : Bk K mg) : ∃ fd, FnOk P w K mg base (L2.CX P w) 3 (He.ma K (He.ga K "Keys") "_check") fd ["self", "name"] (spCheck K) ∧ Binds K fd ["self", "name"] [] := by
  obtain ⟨fd, F⟩ := B.F_Keys__check
  obtain ⟨fdE, GE, bE⟩ := ok_nn (P := P) (w := w) (base := base) B
  obtain ⟨lxc, li, lt⟩ := B.lx_NoName
  refine ⟨fd, ?_, F.binds fun _ _ _ _ _ _ us hl => match us, hl with | [_, _], _ => rfl⟩
  refine F.okX sc_ck (fun vs H Q E h => ?_) (fun cdv A outer s H vs Q E hr h => ?_)
  · obtain ⟨_, _, _, _, rfl, _⟩ := h
    rfl
  · obtain ⟨x, z, ns, t, rfl, ⟨dx, tn, d, A, hx, ht, hd, hq⟩, k, kE⟩ := h
    refine ⟨_, pss_one (ps_if (PW.pt (pw_and (pt_cmpR op_ne (pv 1) pe_str (nomark _)) (pw_and1 (pt_cmpR op_notIn_seq (pv 1) (pe_fld (pv 0) rfl) (by rfl)))))
      (pss_one (ps_raise rfl (takes_of rfl rfl rfl rfl) (pmk_lex lxc li lt GE hr bE .nil pass0 (by rfl) B.g_NoName (pa_cons (pv 1) pa_nil)))) pss_nil), ?_⟩
    refine ⟨_, rfl, rfl, _, rfl, two (fun h1 => ?_) (fun h1 => ?_)⟩
    · refine ⟨_, rfl, _, rfl, x, _, dx, _, _, rfl, hx, B.cl_Keys, B.no_Keys__names, rfl, tn, _, rfl, .inr (SqT.of ht), rfl, fl_str, _, rfl, two (fun h2 => ?_) (fun h2 => ?_)⟩
      · have h1' : (!decide (V.str z = V.str "#")) = true := h1
        have h2' : (!inV (.str z) (ns.map V.str)) = true := h2
        rw [str_eq] at h1'
        rw [inV_str] at h2'
        have n1 : ¬ z = "#" := fun q => by rw [decide_eq_true q] at h1'; cases h1'
        have n2 : z ∉ ns := fun q => by rw [decide_eq_true q] at h2'; cases h2'
        exact rd_nn rfl (kE fun q => q.elim n1 n2)
      · have h2' : (!inV (.str z) (ns.map V.str)) = false := h2
        rw [inV_str] at h2'
        have n2 : z ∈ ns := by
          by_cases q : z ∈ ns
          · exact q
          · rw [decide_eq_false q] at h2'; cases h2'
        exact k (.inr n2)
    · have h1' : (!decide (V.str z = V.str "#")) = false := h1
      rw [str_eq] at h1'
      have n1 : z = "#" := by
        by_cases q : z = "#"
        · exact q
        · rw [decide_eq_false q] at h1'; cases h1'
      exact iteF (k (.inl n1))
theorem sc_td : FnScope ["self", "name"] ["self", "name"] (defScope s_Keys_told) := ⟨rfl, rfl, rfl, by decide +kernel, rfl, by decide +kernel, by decide +kernel⟩
theorem ok_told (B : Bk K mg) : ∃ fd, FnOk P w K mg base (L2.CX P w) 4 (He.ma K (He.ga K "Keys") "told") fd ["self", "name"] (spTold K) ∧ Fun K "told" "Keys.told" s_Keys_told (He.ma K (He.ga K "Keys") "told") fd := by
  obtain ⟨fd, F⟩ := B.F_Keys_told
  obtain ⟨fdC, GC, bC⟩ := ok_check (P := P) (w := w) (base := base) B
  refine ⟨fd, ?_, F⟩
  refine F.okX sc_td (fun vs H Q E h => ?_) (fun cdv A outer s H vs Q E hr h => ?_)
  · obtain ⟨_, _, _, _, rfl, _⟩ := h
    rfl
  · obtain ⟨x, z, ns, t, rfl, ko, k, kE⟩ := h
    have hu := hu_of hr
    refine ⟨_, pss_cons (ps_expr (pe_meth (pv 0) B.cl_Keys B.me_Keys__check GC hr bC .nil (passes_call (takes_of rfl rfl rfl rfl) (fun _ _ _ _ h => h)) (pa_cons (pv 1) pa_nil)))
      (pss_cons (ps_if (pt_cmpR op_eq (pv 1) pe_str (nomark _)) (pss_one (ps_ret (pe_fld (pv 0) rfl))) pss_nil)
      (pss_one (ps_ret (pe_dget hu (pe_fld (pv 0) rfl) (pv 1) (fun _ _ => rfl))))), ?_⟩
    obtain ⟨dx, tn, d, A, hx, ht, hd, hq, _⟩ := id ko
    refine ⟨_, rfl, x, dx, _, rfl, hx, rfl, _, rfl, x, z, ns, t, rfl, ko, fun hz => ?_, kE⟩
    have k := k hz
    refine ⟨_, rfl, rfl, _, rfl, two (fun h1 => ?_) (fun h1 => ?_)⟩
    · have h1' : decide (V.str z = V.str "#") = true := h1
      rw [str_eq] at h1'
      have e : z = "#" := of_decide_eq_true h1'
      unfold toldAt at k
      rw [if_pos e] at k
      exact ⟨_, rfl, x, _, dx, _, _, rfl, hx, B.cl_Keys, B.no_Keys__names, rfl, k tn ht⟩
    · have h1' : decide (V.str z = V.str "#") = false := h1
      rw [str_eq] at h1'
      have e : ¬ z = "#" := of_decide_eq_false h1'
      unfold toldAt at k
      rw [if_neg e] at k
      have hz2 : z ∈ ns := hz.resolve_left e
      have gd : DGet H d (.str z) (some (.ref (A z))) := by
        have q := DGet.k (k := Sum.inr z) hd
        rw [valV_kvT hz2] at q
        exact q
      exact ⟨_, rfl, x, _, dx, _, _, rfl, hx, B.cl_Keys, B.no_Keys__told, rfl, _, rfl, d, _, rfl, gd, k _ (hq z hz2)⟩
theorem sc_tl : FnScope ["self", "one", "other"] ["self", "one", "other"] (defScope s_Keys_tells) := ⟨rfl, rfl, rfl, by decide +kernel, rfl, by decide +kernel, by decide +kernel⟩
theorem ok_tells (B : Bk K mg) : ∃ fd, FnOk P w K mg base (L2.CX P w) 5 (He.ma K (He.ga K "Keys") "tells") fd ["self", "one", "other"] (spTells K) ∧ Fun K "tells" "Keys.tells" s_Keys_tells (He.ma K (He.ga K "Keys") "tells") fd := by
  obtain ⟨fd, F⟩ := B.F_Keys_tells
  obtain ⟨fdC, GC, bC⟩ := ok_check (P := P) (w := w) (base := base) B
  obtain ⟨fdT, GT, FT⟩ := ok_told (P := P) (w := w) (base := base) B
  have bT : Binds K fdT ["self", "name"] [] := FT.binds fun _ _ _ _ _ _ us hl => match us, hl with | [_, _], _ => rfl
  refine ⟨fd, ?_, F⟩
  refine F.okX sc_tl (fun vs H Q E h => ?_) (fun cdv A outer s H vs Q E hr h => ?_)
  · obtain ⟨_, _, _, _, _, rfl, _⟩ := h
    rfl
  · obtain ⟨x, z, y, ns, t, rfl, ko, k, kE⟩ := h
    have hr3 : Room 3 _ := hr.mono (by decide)
    refine ⟨_, pss_cons (ps_expr (pe_meth (pv 0) B.cl_Keys B.me_Keys__check GC hr3 bC .nil (passes_call (takes_of rfl rfl rfl rfl) (fun _ _ _ _ h => h)) (pa_cons (pv 1) pa_nil)))
      (pss_cons (ps_expr (pe_meth (pv 0) B.cl_Keys B.me_Keys__check GC hr3 bC .nil (passes_call (takes_of rfl rfl rfl rfl) (fun _ _ _ _ h => h)) (pa_cons (pv 2) pa_nil)))
      (pss_one (ps_ret (pe_cmpR op_in_seq (pv 2) (pe_meth (pv 0) B.cl_Keys B.me_Keys_told GT hr bT .nil (passes_call (takes_of rfl rfl rfl rfl) (fun _ _ _ _ h => h)) (pa_cons (pv 1) pa_nil)) (by rfl))))), ?_⟩
    obtain ⟨dx, tn, d, A, hx, _⟩ := id ko
    refine ⟨_, rfl, x, dx, _, rfl, hx, rfl, _, rfl, x, z, ns, t, rfl, ko, fun hz => ?_, fun hz => kE z (by rw [if_neg hz])⟩
    refine ⟨_, rfl, x, dx, _, rfl, hx, rfl, _, rfl, x, y, ns, t, rfl, ko, fun hy => ?_, fun hy => kE y (by rw [if_pos hz]; exact ⟨hy, rfl⟩)⟩
    refine ⟨_, rfl, _, rfl, x, dx, _, rfl, hx, rfl, _, rfl, x, z, ns, t, rfl, ko, fun _ p hp => ?_, fun h => absurd hz h⟩
    refine ⟨p, _, rfl, .inr (SqT.of hp), rfl, fl_str, ?_⟩
    show Q (.bl (inV (.str y) ((toldAt ns t z).map V.str))) H
    rw [inV_str]
    exact k hz hy
theorem sc_nm : FnScope ["self"] ["self"] (defScope s_Keys_p_names) := ⟨rfl, rfl, rfl, by decide +kernel, rfl, by decide +kernel, by decide +kernel⟩
theorem ok_names (B : Bk K mg) : ∃ fd, FnOk P w K mg base CX0 1 (propG K "Keys" "names") fd ["self"] (spNames K) ∧ Binds K fd ["self"] [] := by
  obtain ⟨fd, F⟩ := B.F_Keys_p_names
  refine ⟨fd, ?_, F.binds fun _ _ _ _ _ _ us hl => match us, hl with | [_], _ => rfl⟩
  refine F.ok sc_nm (fun vs H Q E h => ?_) (fun cdv A outer s H vs Q E hr h => ?_)
  · obtain ⟨_, _, _, rfl, _⟩ := h
    rfl
  · obtain ⟨x, ns, t, rfl, ⟨dx, tn, d, A, hx, ht, hd, hq⟩, k⟩ := h
    refine ⟨_, pss_one (ps_ret (pe_fld (pv 0) rfl)), ?_⟩
    exact ⟨_, rfl, x, _, dx, _, _, rfl, hx, B.cl_Keys, B.no_Keys__names, rfl, k tn ht⟩
theorem sc_hs : FnScope ["self", "name"] ["self", "name"] (defScope s_Keys___contains__) := ⟨rfl, rfl, rfl, by decide +kernel, rfl, by decide +kernel, by decide +kernel⟩
theorem ok_has (B : Bk K mg) : ∃ fd, FnOk P w K mg base CX0 1 (He.ma K (He.ga K "Keys") "__contains__") fd ["self", "name"] (spHas K) ∧ Binds K fd ["self", "name"] [] := by
  obtain ⟨fd, F⟩ := B.F_Keys___contains
  refine ⟨fd, ?_, F.binds fun _ _ _ _ _ _ us hl => match us, hl with | [_, _], _ => rfl⟩
  refine F.ok sc_hs (fun vs H Q E h => ?_) (fun cdv A outer s H vs Q E hr h => ?_)
  · obtain ⟨_, _, _, _, rfl, _⟩ := h
    rfl
  · obtain ⟨x, z, ns, t, rfl, ⟨dx, tn, d, A, hx, ht, hd, hq⟩, k⟩ := h
    refine ⟨_, pss_one (ps_ret (pe_cmpR op_in_seq (pv 1) (pe_fld (pv 0) rfl) (by rfl))), ?_⟩
    refine ⟨_, rfl, _, rfl, x, _, dx, _, _, rfl, hx, B.cl_Keys, B.no_Keys__names, rfl, tn, _, rfl, .inr (SqT.of ht), rfl, fl_str, ?_⟩
    show Q (.bl (inV (.str z) (ns.map V.str))) H
    rw [inV_str]
    exact k
theorem sc_ln : FnScope ["self"] ["self"] (defScope s_Keys___len__) := ⟨rfl, rfl, rfl, by decide +kernel, rfl, by decide +kernel, by decide +kernel⟩
theorem ok_lenK (B : Bk K mg) : ∃ fd, FnOk P w K mg base CX0 1 (He.ma K (He.ga K "Keys") "__len__") fd ["self"] (spLenK K) ∧ Binds K fd ["self"] [] := by
  obtain ⟨fd, F⟩ := B.F_Keys___len
  refine ⟨fd, ?_, F.binds fun _ _ _ _ _ _ us hl => match us, hl with | [_], _ => rfl⟩
  refine F.ok sc_ln (fun vs H Q E h => ?_) (fun cdv A outer s H vs Q E hr h => ?_)
  · obtain ⟨_, _, _, rfl, _⟩ := h
    rfl
  · obtain ⟨x, ns, t, rfl, ⟨dx, tn, d, A, hx, ht, hd, hq⟩, k⟩ := h
    refine ⟨_, pss_one (ps_ret (pe_callB call_len_seq (by rfl) B.b_len (by decide +kernel) (pa_cons (pe_fld (pv 0) rfl) pa_nil))), ?_⟩
    refine ⟨_, rfl, x, _, dx, _, _, rfl, hx, B.cl_Keys, B.no_Keys__names, rfl, tn, _, rfl, .inr (SqT.of ht), ?_⟩
    show Q (.int ((ns.map V.str).length : Nat)) H
    rw [List.length_map]
    exact k
theorem sc_eq : FnScope ["self", "other"] ["self", "other"] (defScope s_Keys___eq__) := ⟨rfl, rfl, rfl, by decide +kernel, rfl, by decide +kernel, by decide +kernel⟩
theorem ok_eqK (B : Bk K mg) : ∃ fd, FnOk P w K mg base CX0 1 (He.ma K (He.ga K "Keys") "__eq__") fd ["self", "other"] (spEqK K) ∧ Binds K fd ["self", "other"] [] := by
  obtain ⟨fd, F⟩ := B.F_Keys___eq
  refine ⟨fd, ?_, F.binds fun _ _ _ _ _ _ us hl => match us, hl with | [_, _], _ => rfl⟩
  refine F.ok sc_eq (fun vs H Q E h => ?_) (fun cdv A outer s H vs Q E hr h => ?_)
  · obtain ⟨_, _, _, _, rfl, _⟩ := h
    rfl
  · obtain ⟨x, y, ns, t, rfl, ⟨dx, tn, d, A, hx, ht, hd, hq, g1, g2, g3, g4⟩, h⟩ := h
    refine ⟨_, pss_one (ps_ret (pe_and (pe_callB call_isi (by rfl) B.b_isinstance (by decide +kernel) (pa_cons (pv 1) (pa_cons (pe_glob (v := .ref (He.ga K "Keys")) rfl B.g_Keys rfl) pa_nil)))
      (pe_one (pe_cmpR (op_eqT hr.units) (pe_fld (pv 0) rfl) (pe_fld (pv 1) rfl) (nomark _))))), ?_⟩
    rcases h with ⟨ms, u, ⟨ey, tm, e, B', hy, hm, he, hq', f1, f2, f3, f4⟩, k⟩ | ⟨⟨xs, hy⟩, k⟩
    · obtain ⟨ha, hn, htk, hmo⟩ := B.ty_Keys
      refine ⟨_, rfl, _, _, _, _, _, rfl, .own _, .base (.ins hy B.cl_Keys ha hn htk hmo), B.kit_Keys_Keys, _, rfl, iteT ?_⟩
      refine ⟨_, rfl, x, _, dx, _, _, rfl, hx, B.cl_Keys, B.no_Keys__told, rfl, _, rfl, y, _, ey, _, _, rfl, hy, B.cl_Keys, B.no_Keys__told, rfl, ?_⟩
      exact ⟨d, e, ns, ms, A, B', t, u, rfl, rfl, hd, he, hq, hq', fun n hn z hz => g3 z ((g4 n hn).2 z hz), fun n hn z hz => f3 z ((f4 n hn).2 z hz), k⟩
    · exact ⟨_, rfl, _, _, _, _, _, rfl, .own _, .base (.tup hy), B.kit_tuple_Keys, _, rfl, iteF k⟩
theorem sc_pr : FnScope ["self", "one", "other"] ["self"] (defScope s_Keys_p_pairs) := ⟨rfl, rfl, rfl, by decide +kernel, rfl, by decide +kernel, by decide +kernel⟩
theorem ok_pairs (B : Bk K mg) : ∃ fd, FnOk P w K mg base CX0 1 (propG K "Keys" "pairs") fd ["self"] (spPairs K) ∧ Binds K fd ["self"] [] := by
  obtain ⟨fd, F⟩ := B.F_Keys_p_pairs
  refine ⟨fd, ?_, F.binds fun _ _ _ _ _ _ us hl => match us, hl with | [_], _ => rfl⟩
  refine F.ok sc_pr (fun vs H Q E h => ?_) (fun cdv A outer s H vs Q E hr h => ?_)
  · obtain ⟨_, _, _, rfl, _⟩ := h
    rfl
  · obtain ⟨x, ns, t, rfl, ⟨dx, tn, d, A, hx, ht, hd, hq, g1, g2, g3, g4⟩, k⟩ := h
    have hu := hu_of hr
    refine ⟨_, pss_one (ps_ret (pe_callTy call_tuple_of (by rfl) B.b_tuple (by decide +kernel) (pa_cons (pe_lc2 (own := [("one", 1), ("other", 2)]) (vs1 := [2]) (g := gName 1) (g1 := gName 2) (tt := tYes) (tt1 := tYes)
          (wi1 := iTup K (tDGet (tFld K (tVar 0) "_told") (tVar 1))) rfl sc_pr.nd (pi_tup (pe_fld (pv 0) rfl)) (blkOk_by (N := ["self", "one", "other"]) (sc := defScope s_Keys_p_pairs) (by decide +kernel)) (by decide)
          (fun _ _ _ _ _ => pg_name (i := 1) sc_pr.nd rfl (Or.inl rfl)) (fun _ _ _ _ _ => pts_nil)
          (fun _ _ _ _ _ => pi_tup (pe_dget hu (pe_fld (pv 0) rfl) (pv 1) (fun _ _ => rfl))) (fun _ _ _ _ _ => pg_name (i := 2) sc_pr.nd rfl (Or.inl rfl)) (fun _ _ _ _ _ => pts_nil) (fun _ _ _ _ _ => pe_tup (pa_cons (pv 1) (pa_cons (pv 2) pa_nil)))) pa_nil))), ?_⟩
    refine ⟨_, rfl, x, _, dx, _, _, rfl, hx, B.cl_Keys, B.no_Keys__names, rfl, tn, rfl, ⟨_, SqT.of ht⟩, fun D hD => ?_⟩
    refine walk_by (walk_tup (xs := ns.map V.str)) _ (fun i H' => Same H H' ∧ i ≤ ns.length ∧ ∃ qs : List Addr, H' D = some (.lst (qs.map V.ref)) ∧ PrAt H' qs (pairsOf (ns.take i) t))
      ⟨Same_new hD, Nat.zero_le _, [], upd_same, PrAt.nil⟩ (fun i H' p => sm_seqT p.1 (SqT.of ht)) (fun i v H1 H2 hi ⟨s1, li, qs, hD1, hp1⟩ y => ?_) (fun H1 ⟨s1, _, qs, hD1, hp1⟩ => ?_)
    · obtain ⟨rfl, hv⟩ := y
      obtain ⟨n, hn, rfl⟩ := at_str hv
      have hni : n ∈ ns := List.mem_of_getElem? hn
      have gd : ∀ H', Same H H' → DGet H' d (.str n) (some (.ref (A n))) := fun H' s' => by
        have q := DGet.k (k := Sum.inr n) (s' _ _ hd)
        rw [valV_kvT hni] at q
        exact q
      have hi' : i < ns.length := by rw [List.length_map] at hi; exact hi
      refine ⟨rfl, iteT (B := Same H H2 ∧ i + 1 ≤ ns.length ∧ ∃ qs : List Addr, H2 D = some (.lst (qs.map V.ref)) ∧ PrAt H2 qs (pairsOf (ns.take (i + 1)) t)) ?_⟩
      refine ⟨_, rfl, x, _, dx, _, _, rfl, s1 _ _ hx, B.cl_Keys, B.no_Keys__told, rfl, _, rfl, d, _, rfl, gd _ s1, _, rfl, ⟨_, SqT.of (s1 _ _ (hq n hni))⟩, ?_⟩
      refine walk_by (walk_tup (xs := (t n).map V.str)) _ (fun j H' => Same H H' ∧ j ≤ (t n).length ∧ ∃ qs : List Addr, H' D = some (.lst (qs.map V.ref)) ∧ PrAt H' qs (pairsOf (ns.take i) t ++ ((t n).take j).map fun o => (n, o)))
        ⟨s1, Nat.zero_le _, qs, hD1, by rw [List.take_zero, List.map_nil, List.append_nil]; exact hp1⟩ (fun j H' p => sm_seqT p.1 (SqT.of (hq n hni))) (fun j v H3 H4 hj ⟨s3, lj, qs3, hD3, hp3⟩ y => ?_) (fun H3 ⟨s3, _, qs3, hD3, hp3⟩ => ?_)
      · obtain ⟨rfl, hv⟩ := y
        obtain ⟨o, ho, rfl⟩ := at_str hv
        have hj' : j < (t n).length := by rw [List.length_map] at hj; exact hj
        refine ⟨rfl, iteT (B := ∃ z : Nat, z = 0) ?_⟩
        refine ⟨_, rfl, _, rfl, (by show 2 ≤ sizeLine; decide), fun q nq => ?_⟩
        have s4 := Same_new (o := HO.tup [.str n, .str o]) nq
        have hD4 := s4 _ _ hD3
        have lq : qs3.length < sizeLine := by
          have z := hp3.1
          rw [List.length_append, List.length_map, List.length_take] at z
          have z2 := pairs_len (ns := ns.take i) (t := t) fun m hm => (g4 m (List.mem_of_mem_take hm)).1
          rw [List.length_take] at z2
          have z3 := (g4 n hni).1
          have : (1000 : Nat) < sizeLine := by decide
          have z4 : min i ns.length ≤ 7 := Nat.le_trans (Nat.min_le_right _ _) g2
          have z5 : min j (t n).length ≤ 7 := Nat.le_trans (Nat.min_le_right _ _) z3
          omega
        refine ⟨_, hD4, by rw [List.length_map]; exact lq, fun b o' q' => ?_, hj', qs3 ++ [q], ?_, ?_⟩
        · rw [upd_ne (ne_of_none q' hD)]
          exact s4 _ _ (s3 _ _ q')
        · rw [upd_same, List.map_append]
          rfl
        · rw [List.take_add_one, ho, List.map_append, ← List.append_assoc]
          have nqD : q ≠ D := fun z => by rw [z, hD3] at nq; cases nq
          refine PrAt.snoc (pr := (n, o)) ⟨hp3.1, fun i' p hp => ?_⟩ (by rw [upd_ne nqD, upd_same])
          obtain ⟨pr, e1, e2⟩ := hp3.2 i' p hp
          refine ⟨pr, e1, ?_⟩
          have e3 := s4 _ _ e2
          rw [upd_ne (ne_of e3 hD4 (by intro z; cases z))]
          exact e3
      · refine ⟨s3, hi', qs3, hD3, ?_⟩
        rw [List.length_map, List.take_length, ← pairs_snoc, ← take_next hn] at hp3
        exact hp3
    · refine ⟨D, _, rfl, .inl ⟨SqL.of hD1, fun r nr => ?_⟩⟩
      rw [List.length_map, List.take_length] at hp1
      exact k _ r qs (Same_lay s1 nr) upd_same (hp1.same (Same_new nr))
end
end Jd
/-! isinstance of an error that is tracked -/
namespace Jd
open PySem PySem.Spec PySem.Calls PyProof.Rows PySem.W
section
variable {prog : Program} {w : World} {A : Around} {E : Value → Shared → Prop} {s : Shared} {K : Frag} {x D : Addr} {ox od : Obj}
theorem err_class {Q : Option Value → Shared → Prop} (C : L2.ExcC K D) (X : K.In s.heap) (I : InstAt s.heap x ox D (some od)) (h : Q (some (.ref D)) { s with toks := s.toks + 1 }) : wpAny (model prog w) A (getAttr? (.ref x) "__class__") Q E s := by
  have q0 : findObj K D (some od) "__class__" = some (.bind (.builtin "getset_descriptor.__get__") (.builtin "object.__class__")) :=
    findObj_data (by obtain ⟨cd, hc, _⟩ := any_some C.hd; rw [hc]; rfl) C.ha C.hn C.ht
  obtain ⟨hp, g, d, t, os⟩ := s
  have l0 := I.type (M := model prog w)
  have l1 := looks_findIn (M := model prog w) X C.hg
  have l2 := looks_findIn (M := model prog w) X C.hk
  have l3 := looks_find (M := model prog w) X I q0
  have l4 : Looks (model prog w) hp (isInstance (.ref x) (.type "BaseException")) true := l0.andThen (looks_subIn X C.hs)
  have n0 : (false && onTheHeap (Value.builtin "BaseException.__getattribute__")) = false := rfl
  have n2 : (Value.builtin "BaseException.__getattribute__" == Value.builtin "object.__getattribute__") = false := by decide +kernel
  have n1 : (onTheHeap (Value.ref D) && Value.builtin "BaseException.__getattribute__" == Value.builtin "object.__getattribute__") = false := by rw [n2]; rfl
  unfold getAttr? getAttrBy? getAttrBy
  refine wpAny_bind (wpAny_mkText (wpAny_bind (wpAny_attempt (wpAny_holding (wpAny_bind (l0.at (wpAny_bind (l1.at ?_))))))))
  show wpAny _ _ (if (onTheHeap (Value.ref D) && Value.builtin "BaseException.__getattribute__" == Value.builtin "object.__getattribute__") = true then _ else _) _ _ _
  rw [n1, if_neg Bool.false_ne_true]
  unfold getAttrByItsOwn hookBefore
  refine wpAny_bind ?_
  rw [if_pos (show onTheHeap (Value.ref D) = true from rfl)]
  refine l2.at ?_
  refine wpAny_bind (wpAny_attempt (wpAny_holding ?_))
  unfold callGetattribute
  rw [n0, if_neg Bool.false_ne_true]
  unfold boundAndCalled
  rw [PySem.F.excAttr_ValueError.ga.bind (.ref x)]
  refine wpAny_bind (wpAny_pure ?_)
  show wpAny _ _ (call (.builtin "BaseException.__getattribute__") [.ref x, .str "__class__" t]) _ _ _
  refine wpAny_call (codeAny_call_builtin PySem.F.excAttr_ValueError.ga.plain PySem.F.entry_bexc_ga ?_)
  refine @check_slot (model prog w) _ _ ⟨hp, g, d, t + 1, os⟩ "BaseException.__getattribute__" "BaseException" "__getattribute__" (.ref x) [.str "__class__" t] [] _ (by decide +kernel) (by decide +kernel) l4 (PySem.F.args_bexc_ga (.ref x) (.str "__class__" t)) ?_
  unfold Builtin.«object.__getattribute__»
  refine wpAny_bind (wpAny_of_eq (a := ((Value.ref x : Value), [Value.str "__class__" t])) (by first | rfl | (simp only [slotArgs]; rfl)) ?_)
  refine wpAny_bind (wpAny_pure (wpAny_bind (l0.at (wpAny_bind (l3.at ?_)))))
  show wpAny _ _ (holding [Value.builtin "object.__class__"] (call (.builtin "getset_descriptor.__get__") [.builtin "object.__class__", .ref x, .ref D]) >>= ret) _ _ _
  refine wpAny_bind (wpAny_holding (wpAny_call (class_get (s := ⟨hp, g, d, t + 1, os⟩) (ox := ox) (od := some od) X I C.hm ?_)))
  refine wpAny_pure ?_
  show wpAny _ _ (handedOut (.ref D)) _ _ _
  rw [handedOut_of (v := .ref D) rfl]
  first
    | exact wpAny_pure (wpAny_pure h)
    | exact wpAny_pure h
    | exact wpAny_pure (wpAny_bind (wpAny_pure (wpAny_pure h)))
theorem err_kit (C : L2.ExcC K D) : KitX K (.ref x) (.ref D) (fun h => InstAt h x ox D (some od)) where
  ty := fun _ _ _ I => I.type
  it := fun _ _ X _ => by
    obtain ⟨c0, h0, _⟩ := any_some C.hd
    unfold clsIn at h0
    split at h0
    · rename_i c' d' cd' sl' ho
      intro A' Q' E' s' k q
      unfold isType loadHead
      exact wpAny_bind (wpAny_loadPart (k _ _ (X _ _ ho)) (wpAny_pure q))
    · cases h0
  ne := fun h tp dd its n sl X htp => by
    obtain ⟨c0, h0, _⟩ := any_some C.hd
    refine Bool.eq_false_iff.mpr fun q => ?_
    have e : D = tp := Value.ref.inj (beq_iff_eq.mp q)
    subst e
    unfold clsIn at h0
    split at h0
    · rename_i c' d' cd' sl' ho
      have z := (X _ _ ho).symm.trans htp
      cases z
    · cases h0
  ca := fun X I k => err_class C X I k
end
end Jd
namespace Jd
open PySem PySem.Spec PyProof.Rows L2
def rIsEr (K : PySem.W.Frag) : List V → Hp → VK → Prop := fun xs H Q => ∃ (a D dd : Addr) (fs : List (Str × V)) (c : V) (cv : Value) (b : Bool), xs = [.ref a, c] ∧ H a = some (ErO (.ref D) (some dd) a) ∧ H dd = some (.xd fs) ∧ ExcC K D ∧
  (∀ u, RelV c u → u = cv) ∧ PySem.W.kitOne K (.ref D) cv = some b ∧ Q (.bl b) H
theorem call_isEr {X : Cx} : CallR X (.builtin "isinstance") (rIsEr X.K) := by
  intro pins s σ H xs us Q I r h
  obtain ⟨a, D, dd, fs, c, cv, b, rfl, ha, hd, C, hcv, e, q⟩ := h
  cases r with
  | cons rx rr =>
    cases rr with
    | cons rt rr =>
      cases rr
      cases rx
      have ec := hcv _ rt
      subst ec
      obtain ⟨oe, vs, r0, r1, r2⟩ := (I.hok a _ ha).1
      have hx : ObjOk X.prog X.w H s.heap dd (.xd fs) := I.hok dd _ hd
      obtain ⟨mA, hns, hr⟩ := hx
      obtain ⟨od, ho, hl⟩ := lookIn_ns hns
      have J : PySem.W.InstAt s.heap a oe D (some od) := ⟨r0, r1.1, by unfold PySem.W.notCls; rw [r2] <;> rfl, by rw [r1.2]; exact ho⟩
      exact PySem.W.kia_one (err_kit C) I.kIn J e (fun z => nomatch z) fun tk => ⟨.bl b, H, I.kept (t' := tk) fun _ _ z => z, rfl, q⟩
end Jd
namespace Jd
open PySem PySem.Spec PyProof.Rows L2
/-! ### heard; how Keys are called -/
theorem exm4 {K : PySem.W.Frag} {cls c1 c2 c3 c4 : Value} {b1 b2 b3 b4 : Bool} (h1 : PySem.W.exmOne K cls c1 = some b1) (h2 : PySem.W.exmOne K cls c2 = some b2) (h3 : PySem.W.exmOne K cls c3 = some b3) (h4 : PySem.W.exmOne K cls c4 = some b4) : PySem.W.exmAny K cls [c1, c2, c3, c4] = some (b1 || (b2 || (b3 || (b4 || false)))) := by
  simp only [PySem.W.exmAny, h1, h2, h3, h4]
theorem kit_self {K : PySem.W.Frag} {t : Value} : PySem.W.kitOne K t t = some true := by
  unfold PySem.W.kitOne
  rw [if_pos (by simp)]
abbrev PK3 : List Str := ["self", "names", "tells"]
/-- Keys(a, b) -/
theorem kb_two {K : PySem.W.Frag} {fd : FuncData} (F : FunD K "__init__" "Keys.__init__" (defArgs s_Keys___init__) (defBody s_Keys___init__) (defScope s_Keys___init__) (d_Keys___init__.dvs K) [] (He.ma K (He.ga K "Keys") "__init__") fd) : Binds K fd PK3 [] := by
  have hd : d_Keys___init__.dvs K = [.ref (dflA (fun K => He.ma K (He.ga K "Keys") "__init__") 0 K)] := rfl
  obtain ⟨ds, v, b⟩ := F.binds1 (ps := PK3) 3 1 (by rw [hd]; exact List.cons_ne_nil _ _) (by rw [hd]; rfl) (fun T kV doc pm an cdv ct us its hu hi => by
    rw [hd] at hi
    match us, its, hu, hi with
    | [_, _, _], [_], _, _ => exact ⟨_, rfl, rfl⟩)
  have e : ds = [] := by
    rw [hd] at v
    cases v
    rfl
  rw [e] at b
  exact b
/-- Keys(names=a, tells=b) -/
theorem kb_kw {K : PySem.W.Frag} {fd : FuncData} (F : FunD K "__init__" "Keys.__init__" (defArgs s_Keys___init__) (defBody s_Keys___init__) (defScope s_Keys___init__) (d_Keys___init__.dvs K) [] (He.ma K (He.ga K "Keys") "__init__") fd) : ∃ its : List Value, KBn K fd PK3 1 ["names", "tells"] (fun us ws => us ++ ws) (fun vs zs => vs ++ zs) := by
  have hd : d_Keys___init__.dvs K = [.ref (dflA (fun K => He.ma K (He.ga K "Keys") "__init__") 0 K)] := rfl
  obtain ⟨its, b⟩ := F.kbindsD (ps := PK3) 1 ["names", "tells"] (fun us _ ws => us ++ ws) (by rw [hd]; exact List.cons_ne_nil _ _) (fun r1 _ r3 => r1.append r3) (fun T kV doc pm an cdv ct us its ws l1 l2 l3 => by
    rw [hd] at l2
    match us, its, ws, l1, l2, l3 with
    | [_], [_], [_, _], _, _, _ => exact ⟨_, rfl, rfl⟩)
  exact ⟨its, b⟩
end Jd
namespace Jd
open PySem PySem.Spec PyProof.Rows L2
/-! ### of, mixed -/
theorem Keep_lay {u : Addr} {H H' : Hp} {a : Addr} {o : HO} (k : Keep u H H') (n : H a = none) : Keep u H (upd H' a o) := fun b q nb h => by
  rw [upd_ne (ne_of_none h n)]
  exact k b q nb h
theorem Keep.none {u : Addr} {H H' : Hp} (k : Keep u H H') {b : Addr} (h : H' b = Option.none) (n : b ≠ u) : H b = Option.none := by
  cases q : H b with
  | none => rfl
  | some o =>
    rw [k b o n q] at h
    cases h
theorem Keep.seq {K : PySem.W.Frag} {u : Addr} {H H' : Hp} (k : Keep u H H') {a : Addr} {xs : List V} (h : SqL K H a xs) (n : a ≠ u) : SqL K H' a xs := by
  rcases h with (h | ⟨o, h⟩) | h
  · exact .inl (.inl (k _ _ n h))
  · exact .inl (.inr ⟨o, k _ _ n h⟩)
  · exact .inr h
def spOf (K : PySem.W.Frag) : Sp := fun vs H Q _ => ∃ (u l : Addr) (xs : List V) (n : Nat), vs = [.ref u, .ref l] ∧ Urn H u n ∧ n < 100000 ∧ SqL K H l xs ∧ l ≠ u ∧ 0 < xs.length ∧ xs.length < 1000 ∧
  ∀ (r : Nat) x H', xs[r]? = some x → Urn H' u (n + 1) → Keep u H H' → Q x H'
def spMixed (K : PySem.W.Frag) : Sp := fun vs H Q _ => ∃ (u l : Addr) (xs : List V) (n : Nat), vs = [.ref u, .ref l] ∧ Urn H u n ∧ n + xs.length < 100000 ∧ (SqL K H l xs ∨ SqT K H l xs) ∧ xs.length < 1000 ∧
  ∀ (ys : List V) p H', ys.Perm xs → Urn H' u (n + xs.length) → Keep u H H' → H p = none → H' p = some (.tup ys) → Q (.ref p) H'
section
variable {P : Program} {w : World} {K : PySem.W.Frag} {mg : Str → Option Value} {base : Heap}
theorem sc_mixed : FnScope ["_law_urn", "_law_pool", "_law_left", "_law_found", "_law_turn"] ["_law_urn", "_law_pool"] (defScope s__law_mixed) := ⟨rfl, rfl, rfl, by decide +kernel, rfl, by decide +kernel, by decide +kernel⟩
theorem perm_move {α : Type} {fs ls : List α} {k : Nat} {y : α} (h : ls[k]? = some y) : ((fs ++ [y]) ++ ls.eraseIdx k).Perm (fs ++ ls) := by
  rw [List.append_assoc]
  exact List.Perm.append_left fs (erase_perm ls k y h)
theorem ok_law_mixed (B : Bk K mg) : Df P w K mg base CX0 2 "_law_mixed" ["_law_urn", "_law_pool"] (spMixed K) := by
  obtain ⟨fd, F⟩ := B.F_law_mixed
  obtain ⟨fdT, GT, bT⟩ := (ok_law_take (P := P) (w := w) (base := base) B).ex
  have kT := (ok_law_take (P := P) (w := w) (base := base) B).kp
  refine ⟨⟨fd, ?_, F.binds fun _ _ _ _ _ _ us hl => match us, hl with | [_, _], _ => rfl⟩, B.g_law_mixed, F.kp⟩
  refine F.ok sc_mixed (fun vs H Q E h => ?_) (fun cdv A outer s H vs Q E hr h => ?_)
  · obtain ⟨u, lo, xs, n, rfl, _⟩ := h
    rfl
  · obtain ⟨u, l, xs, n, rfl, hu, hn, hs, h1, k⟩ := h
    refine ⟨_, pss_cons (ps_par (i := 2) (j := 3) (by rfl) sc_mixed.nd rfl rfl (by decide) rfl rfl (pa_cons (pe_callTy call_list_of (by rfl) B.b_list (by decide +kernel) (pa_cons (pv 1) pa_nil)) (pa_cons (pe_lst pa_nil) pa_nil)) (by rfl))
      (pss_cons (ps_for PassesOwn.never rfl (pi_range1 rfl B.b_range (pa_cons (pe_callB call_len (by rfl) B.b_len (by decide +kernel) (pa_cons (pv 1) pa_nil)) pa_nil)) (pg_name (i := 4) sc_mixed.nd rfl (Or.inl rfl))
        (pss_one (ps_expr (pe_bm PySem.F.plainAttrs_list PySem.F.slot_list_append PySem.F.type_list_append mt_append (pv 3) (pa_cons
          (pe_bm PySem.F.plainAttrs_list PySem.F.slot_list_pop PySem.F.type_list_pop mt_popAt (pv 2) (pa_cons (pe_call GT hr rfl B.g_law_take kT bT .nil pass0 (pa_cons (pv 0) (pa_cons (pe_callB call_len (by rfl) B.b_len (by decide +kernel) (pa_cons (pv 2) pa_nil)) pa_nil))) pa_nil)) pa_nil)))))
      (pss_one (ps_ret (pe_callTy call_tuple_of (by rfl) B.b_tuple (by decide +kernel) (pa_cons (pv 3) pa_nil))))), ?_⟩
    refine ⟨_, rfl, l, xs, rfl, hs, fun L nL => ⟨Nat.zero_le _, fun Fo nF => ⟨_, _, rfl, ?_⟩⟩⟩
    have uo := hu.some
    have nLu : L ≠ u := fun e => by obtain ⟨o, h⟩ := uo; rw [← e, nL] at h; cases h
    have nF0 : H Fo = Option.none := (Same_new nL).free nF
    have nFu : Fo ≠ u := fun e => by obtain ⟨o, h⟩ := uo; rw [← e, nF0] at h; cases h
    have nFL : Fo ≠ L := fun e => by rw [e, upd_same] at nF; cases nF
    have s2 : Same H (upd (upd H L (.lst xs)) Fo (.lst [])) := Same_lay (Same_new nL) nF
    have hlen : LenV K (.ref l) (upd (upd H L (.lst xs)) Fo (.lst [])) xs.length := by
      rcases hs with hs | hs
      · exact .inl ⟨_, s2.seq hs, rfl⟩
      · exact .inr ⟨_, Same_seqT s2 hs, rfl⟩
    refine ⟨_, rfl, _, xs.length, rfl, hlen, (xs.length : Int), rfl, by omega, by omega, ?_⟩
    rw [show ((xs.length : Int)).toNat = xs.length by omega]
    refine for_it walk_range (fun i σ H' => ∃ (ls fs : List V) (v : Option V), σ = [some (.ref u), some (.ref l), some (.ref L), some (.ref Fo), v] ∧ H' L = some (.lst ls) ∧ H' Fo = some (.lst fs) ∧ (fs ++ ls).Perm xs ∧ fs.length = i ∧ Urn H' u (n + i) ∧ Keep u H H')
      ⟨xs, [], Option.none, rfl, by rw [upd_ne nFL.symm, upd_same], upd_same, List.Perm.refl _, rfl, hu.same s2, Same.keep s2⟩ (fun _ _ _ _ _ => trivial) (fun i x σ H1 H2 hi ⟨ls, fs, v, e, hL, hF, pm, fl, hu1, kp⟩ y => ?_) (fun σ H1 ⟨ls, fs, v, e, hL, hF, pm, fl, hu1, kp⟩ => ?_)
    · obtain ⟨rfl, rfl⟩ := y
      subst e
      have ll : ls.length = xs.length - i := by
        have q := pm.length_eq
        rw [List.length_append] at q
        omega
      refine ⟨_, rfl, .inl ⟨rfl, _, SqL.of hF⟩, _, rfl, .inl ⟨rfl, _, SqL.of hL⟩, _, rfl, _, rfl, _, ls.length, rfl, .inl ⟨_, SqL.of hL, rfl⟩, u, (ls.length : Int), n + i, rfl, hu1, by omega, by omega, by omega, fun r H3 r0 r1 hu3 kp3 => ?_⟩
      have hrl : r.toNat < ls.length := by omega
      have hy : ls[r.toNat]? = some ls[r.toNat] := List.getElem?_eq_getElem hrl
      have hL3 : H3 L = some (.lst ls) := kp3 _ _ nLu hL
      have hF3 : H3 Fo = some (.lst fs) := kp3 _ _ nFu hF
      refine ⟨L, ls, r, r.toNat, ls[r.toNat], rfl, rfl, hL3, by omega, by omega, ?_, hy, ?_⟩
      · have q : ixN ls.length r = some r.toNat := by
          unfold ixN
          rw [if_pos r0, if_pos r1]
        exact (ixN_seq q).1
      · refine ⟨Fo, fs, ls[r.toNat], rfl, rfl, by rw [upd_ne nFL]; exact hF3, by have : (1000 : Nat) < sizeLine := (by decide); omega, ?_⟩
        refine ⟨ls.eraseIdx r.toNat, fs ++ [ls[r.toNat]], _, rfl, by rw [upd_ne nFL.symm, upd_same], upd_same, (perm_move hy).trans pm, by rw [List.length_append, fl]; rfl, ?_, Keep_lay (Keep_lay (kp.trans kp3) nL) nF0⟩
        obtain ⟨a, b, c, h3, h4⟩ := hu3
        exact ⟨a, b, c, by rw [upd_ne nFu.symm, upd_ne nLu.symm]; exact h3, h4⟩
    · subst e
      have ll : ls = [] := by
        have q := pm.length_eq
        rw [List.length_append] at q
        exact List.eq_nil_of_length_eq_zero (by omega)
      subst ll
      rw [List.append_nil] at pm
      refine ⟨_, rfl, Fo, fs, rfl, .inl ⟨SqL.of hF, fun p hp => ?_⟩⟩
      have np : H p = Option.none := by
        by_cases e : p = u
        · rw [e] at hp
          obtain ⟨a, b, c, h3, _⟩ := hu1
          rw [h3] at hp
          cases hp
        · exact kp.none hp e
      refine k fs p _ pm ?_ (Keep_lay kp np) np upd_same
      obtain ⟨a, b, c, h3, h4⟩ := hu1
      exact ⟨a, b, c, by rw [upd_ne (ne_of_none h3 hp)]; exact h3, h4⟩
end
end Jd
namespace Jd
open PySem PySem.Spec PyProof.Rows L2 RZ
/-! ### same -/
/-- flat and the same -/
def FlatV : V → Prop
  | .non => True
  | .bl _ => True
  | .str _ => True
  | .int _ => True
  | _ => False
/-- the same, so many levels deep -/
def Sm (H : Hp) : Nat → V → V → Prop
  | 0, x, y => x = y ∧ FlatV y
  | n + 1, x, y => (x = y ∧ FlatV y) ∨ ∃ (a b : Addr) (xs ys : List V), x = .ref a ∧ y = .ref b ∧ xs.length = ys.length ∧ xs.length < 1000 ∧ (∀ (i : Nat) (u v : V), xs[i]? = some u → ys[i]? = some v → Sm H n u v) ∧
      ((H a = some (.lst xs) ∧ H b = some (.lst ys)) ∨ (H a = some (.tup xs) ∧ H b = some (.tup ys)))
theorem Sm_same {H H' : Hp} (s : Same H H') : ∀ (n : Nat) {x y : V}, Sm H n x y → Sm H' n x y
  | 0, _, _, h => h
  | n + 1, x, y, h => by
    rcases (show (x = y ∧ FlatV y) ∨ _ from h) with h | ⟨a, b, xs, ys, e1, e2, hl, h3, he, h | h⟩
    · exact .inl h
    · exact .inr ⟨a, b, xs, ys, e1, e2, hl, h3, fun i u v q1 q2 => Sm_same s n (he i u v q1 q2), .inl ⟨s _ _ h.1, s _ _ h.2⟩⟩
    · exact .inr ⟨a, b, xs, ys, e1, e2, hl, h3, fun i u v q1 q2 => Sm_same s n (he i u v q1 q2), .inr ⟨s _ _ h.1, s _ _ h.2⟩⟩
theorem Sm_flat {H : Hp} {n : Nat} {x : V} (h : FlatV x) : Sm H n x x := by
  cases n with
  | zero => exact ⟨rfl, h⟩
  | succ n => exact Or.inl ⟨rfl, h⟩
theorem walk_zipT {K : PySem.W.Frag} {a b : Addr} {xs ys : List V} {n : Nat} (hn : n = min xs.length ys.length) : Walk (ItzT K a b) n (fun H => SqT K H a xs ∧ SqT K H b ys) (YPair (fun i => xs[i]?) (fun i => ys[i]?)) := by
  subst hn
  refine ⟨fun i _ hi q => ?_, fun _ q => ⟨xs, ys, q.1, q.2, by omega⟩, fun i H v H' _ q y => ?_⟩
  · have h1 : i < xs.length := by omega
    have h2 : i < ys.length := by omega
    exact ⟨xs, ys, xs[i], ys[i], q.1, q.2, by simp [h1], by simp [h2]⟩
  · obtain ⟨T, x, z, h1, h2, h3, h4, h5⟩ := y
    exact ⟨T, x, z, h1, h2, h3, h4 xs q.1, h5 ys q.2⟩
def spSame (n : Nat) : Sp := fun vs H Q _ => ∃ x y : V, vs = [x, y] ∧ Sm H n x y ∧ ∀ H', Same H H' → Q (.bl true) H'
def spPrev : Nat → Sp
  | 0 => fun _ _ _ _ => False
  | n + 1 => spSame n
/-- the types of flat values -/
def tyN : V → String
  | .non => "NoneType"
  | .bl _ => "bool"
  | .str _ => "str"
  | _ => "int"
theorem ty_flat {K : PySem.W.Frag} {H : Hp} {x : V} (h : FlatV x) : TyX K H x (.type (tyN x)) := by
  cases x with
  | non => exact .base .non
  | bl b => exact .base (.bl b)
  | str z => exact .base (.str z)
  | int i => exact .base (.int i)
  | _ => exact h.elim
theorem kit2 {K : PySem.W.Frag} {a b c : String} {r s : Bool} (h1 : kitB a b = some r) (h2 : kitB a c = some s) : PySem.W.kitAny K (.type a) [.type b, .type c] = some (r || s) := by
  refine kitAny_cons (kit_ty h1) (fun e => ?_) (fun e => by rw [e]; rfl)
  rw [e, Bool.false_or]
  refine kitAny_cons (kit_ty h2) (fun e2 => by rw [e2]; rfl) (fun e2 => e2)
theorem cls2 (a b : String) : Paired ClsV [.ty a, .ty b] [.type a, .type b] := .cons (.ty a) (.cons (.ty b) .nil)
theorem ifd {p : Prop} [Decidable p] {A B : Prop} (hp : p) (h : A) : if decide p = true then A else B := by
  rw [decide_eq_true hp]
  exact iteT h
theorem ifdn {p : Prop} [Decidable p] {A B : Prop} (hp : ¬ p) (h : B) : if decide p = true then A else B := by
  rw [decide_eq_false hp]
  exact iteF h
theorem rep_true (n : Nat) : (List.range n).filterMap (fun _ => some (V.bl true)) = (List.replicate n true).map V.bl := by
  induction n with
  | zero => rfl
  | succ n ih =>
    rw [fm_step, ih, List.replicate_succ', List.map_append]
    rfl
theorem rep_all (n : Nat) : (List.replicate n true).all id = true := by
  rw [List.all_eq_true]
  intro x hx
  rw [(List.mem_replicate.mp hx).2]
  rfl
section
variable {P : Program} {w : World} {K : PySem.W.Frag} {mg : Str → Option Value} {base : Heap}
theorem sc_same : FnScope ["_law_got", "_law_goal", "_law_mine_so", "_law_own"] ["_law_got", "_law_goal"] (defScope s__law_same) := ⟨rfl, rfl, rfl, by decide +kernel, rfl, by decide +kernel, by decide +kernel⟩
theorem ok_same_step (B : Bk K mg) {fd : FuncData} (F : Fun K "_law_same" "_law_same" s__law_same (He.ga K "_law_same") fd) (n k : Nat) (G : FnOk P w K mg base CX0 k (He.ga K "_law_same") fd ["_law_got", "_law_goal"] (spPrev n)) (bG : Binds K fd ["_law_got", "_law_goal"] []) :
    FnOk P w K mg base CX0 (k + 1) (He.ga K "_law_same") fd ["_law_got", "_law_goal"] (spSame n) := by
  refine F.ok sc_same (fun vs H Q E h => ?_) (fun cdv A outer s H vs Q E hr h => ?_)
  · obtain ⟨x, y, rfl, _⟩ := h
    rfl
  · obtain ⟨x, y, rfl, hs, kq⟩ := h
    have isi := fun {X : Cx} => @call_isi X
    refine ⟨_, pss_cons (ps_if (pt_val (pe_callB call_isiT (by rfl) B.b_isinstance (by decide +kernel) (pa_cons (pv 1) (pa_cons (pe_tup (pa_cons (pe_bltn (by rfl) B.b_list (by decide +kernel) (show RelV (.ty "list") (.type "list") from rfl)) (pa_cons (pe_bltn (by rfl) B.b_tuple (by decide +kernel) (show RelV (.ty "tuple") (.type "tuple") from rfl)) pa_nil))) pa_nil))))
        (pss_cons (ps_if (PW.pt (pw_or (pt_cmpR op_ne (pe_callB call_isi (by rfl) B.b_isinstance (by decide +kernel) (pa_cons (pv 0) (pa_cons (pe_bltn (by rfl) B.b_list (by decide +kernel) (show RelV (.ty "list") (.type "list") from rfl)) pa_nil))) (pe_callB call_isi (by rfl) B.b_isinstance (by decide +kernel) (pa_cons (pv 1) (pa_cons (pe_bltn (by rfl) B.b_list (by decide +kernel) (show RelV (.ty "list") (.type "list") from rfl)) pa_nil))) (nomark _))
            (pw_or1 (pt_cmpR op_ne (pe_callB call_isi (by rfl) B.b_isinstance (by decide +kernel) (pa_cons (pv 0) (pa_cons (pe_bltn (by rfl) B.b_tuple (by decide +kernel) (show RelV (.ty "tuple") (.type "tuple") from rfl)) pa_nil))) (pe_callB call_isi (by rfl) B.b_isinstance (by decide +kernel) (pa_cons (pv 1) (pa_cons (pe_bltn (by rfl) B.b_tuple (by decide +kernel) (show RelV (.ty "tuple") (.type "tuple") from rfl)) pa_nil))) (nomark _))))) (pss_one (ps_ret pe_bl)) pss_nil)
        (pss_one (ps_ret (pe_and (pe_cmpR op_eq (pe_callB call_len (by rfl) B.b_len (by decide +kernel) (pa_cons (pv 0) pa_nil)) (pe_callB call_len (by rfl) B.b_len (by decide +kernel) (pa_cons (pv 1) pa_nil)) (nomark _))
          (pe_one (pe_callB (cr_all rfl) (by rfl) B.b_all (by decide +kernel) (pa_cons (pe_lc (own := [("_law_mine_so", 2), ("_law_own", 3)]) (g := gTup K 2 (gCons (gName 2) (gCons (gName 3) gNil))) (tt := tYes) rfl sc_same.nd (pi_zipA (by rfl) B.b_zip (pa_cons (pv 0) (pa_cons (pv 1) pa_nil))) (blkOk_by (N := ["_law_got", "_law_goal", "_law_mine_so", "_law_own"]) (sc := defScope s__law_same) (by decide +kernel))
            (fun _ _ _ _ _ => pg_tup rfl (pgs_cons (pg_name (i := 2) sc_same.nd rfl (Or.inl rfl)) (pgs_cons (pg_name (i := 3) sc_same.nd rfl (Or.inl rfl)) pgs_nil))) (fun _ _ _ _ _ => pts_nil)
            (fun _ _ _ _ _ => pe_call G hr rfl B.g_law_same F.kp bG .nil pass0 (pa_cons (pv 2) (pa_cons (pv 3) pa_nil)))) pa_nil))))))) pss_nil)
      (pss_cons (ps_if (PW.pt (pw_or (pt_cmp (pc_isN (pv 1))) (pw_or1 (pt_val (pe_callB call_isiT (by rfl) B.b_isinstance (by decide +kernel) (pa_cons (pv 1) (pa_cons (pe_tup (pa_cons (pe_bltn (by rfl) B.b_bool (by decide +kernel) (show RelV (.ty "bool") (.type "bool") from rfl)) (pa_cons (pe_bltn (by rfl) B.b_str (by decide +kernel) (show RelV (.ty "str") (.type "str") from rfl)) pa_nil))) pa_nil)))))))
        (pss_one (ps_ret (pe_and (pe_cmpR op_eq (pv 0) (pv 1) (nomark _)) (pe_and (pe_cmpR op_eq (pe_callB call_isi (by rfl) B.b_isinstance (by decide +kernel) (pa_cons (pv 0) (pa_cons (pe_bltn (by rfl) B.b_bool (by decide +kernel) (show RelV (.ty "bool") (.type "bool") from rfl)) pa_nil))) (pe_callB call_isi (by rfl) B.b_isinstance (by decide +kernel) (pa_cons (pv 1) (pa_cons (pe_bltn (by rfl) B.b_bool (by decide +kernel) (show RelV (.ty "bool") (.type "bool") from rfl)) pa_nil))) (nomark _))
          (pe_one (pe_cmpR op_eq (pe_cmp (pc_isN (pv 0)) rfl) (pe_cmp (pc_isN (pv 1)) rfl) (nomark _))))))) pss_nil)
      (pss_one (ps_ret (pe_and (pe_callB call_isi (by rfl) B.b_isinstance (by decide +kernel) (pa_cons (pv 0) (pa_cons (pe_bltn (by rfl) B.b_int (by decide +kernel) (show RelV (.ty "int") (.type "int") from rfl)) pa_nil))) (pe_and (pe_not (pe_callB call_isi (by rfl) B.b_isinstance (by decide +kernel) (pa_cons (pv 0) (pa_cons (pe_bltn (by rfl) B.b_bool (by decide +kernel) (show RelV (.ty "bool") (.type "bool") from rfl)) pa_nil)))) (pe_one (pe_cmpR op_eq (pv 0) (pv 1) (nomark _)))))))), ?_⟩
    have hc : (x = y ∧ FlatV y) ∨ ∃ (m : Nat) (a b : Addr) (xs ys : List V), n = m + 1 ∧ x = .ref a ∧ y = .ref b ∧ xs.length = ys.length ∧ xs.length < 1000 ∧ (∀ (i : Nat) (u v : V), xs[i]? = some u → ys[i]? = some v → Sm H m u v) ∧
        ((H a = some (.lst xs) ∧ H b = some (.lst ys)) ∨ (H a = some (.tup xs) ∧ H b = some (.tup ys))) := by
      cases n with
      | zero => exact .inl hs
      | succ m =>
        rcases (show (x = y ∧ FlatV y) ∨ _ from hs) with h | ⟨a, b, xs, ys, h1, h2, h3⟩
        · exact .inl h
        · exact .inr ⟨m, a, b, xs, ys, rfl, h1, h2, h3⟩
    rcases hc with ⟨rfl, hf⟩ | ⟨n, a, b, xs, ys, rfl, rfl, rfl, hl, h3, he, hab⟩
    · cases x with
      | non =>
        refine ⟨_, rfl, (by show 2 ≤ sizeLine; decide), fun p hp => ⟨_, p, _, _, _, _, rfl, upd_same, cls2 "list" "tuple", ty_flat hf, kit2 (a := "NoneType") (r := false) (s := false) (by decide +kernel) (by decide +kernel), _, rfl, iteF ?_⟩⟩
        refine ⟨_, rfl, _, rfl, ifd rfl ?_⟩
        refine ⟨_, rfl, _, rfl, rfl, _, rfl, ifd rfl ?_⟩
        refine ⟨_, rfl, _, _, _, _, _, rfl, .ty "bool", ty_flat hf, kit_ty (a := "NoneType") (r := false) (by decide +kernel), _, rfl, _, _, _, _, _, rfl, .ty "bool", ty_flat hf, kit_ty (a := "NoneType") (r := false) (by decide +kernel), rfl, _, rfl, ifd rfl ?_⟩
        refine ⟨_, rfl, _, rfl, rfl, ?_⟩
        have e : decide (V.bl (decide (V.non = V.non)) = V.bl (decide (V.non = V.non))) = true := decide_eq_true rfl
        show Q (V.bl (decide (V.bl (decide (V.non = V.non)) = V.bl (decide (V.non = V.non))))) _
        rw [e]
        exact kq _ (Same_new hp)
      | bl bb =>
        refine ⟨_, rfl, (by show 2 ≤ sizeLine; decide), fun p hp => ⟨_, p, _, _, _, _, rfl, upd_same, cls2 "list" "tuple", ty_flat hf, kit2 (a := "bool") (r := false) (s := false) (by decide +kernel) (by decide +kernel), _, rfl, iteF ?_⟩⟩
        refine ⟨_, rfl, _, rfl, ifdn (fun z => nomatch z) ?_⟩
        refine ⟨_, rfl, (by show 2 ≤ sizeLine; decide), fun p2 hp2 => ⟨_, p2, _, _, _, _, rfl, upd_same, cls2 "bool" "str", ty_flat hf, kit2 (a := "bool") (r := true) (s := false) (by decide +kernel) (by decide +kernel), _, rfl, iteT ?_⟩⟩
        refine ⟨_, rfl, _, rfl, rfl, _, rfl, ifd rfl ?_⟩
        refine ⟨_, rfl, _, _, _, _, _, rfl, .ty "bool", ty_flat hf, kit_ty (a := "bool") (r := true) (by decide +kernel), _, rfl, _, _, _, _, _, rfl, .ty "bool", ty_flat hf, kit_ty (a := "bool") (r := true) (by decide +kernel), rfl, _, rfl, ifd rfl ?_⟩
        refine ⟨_, rfl, _, rfl, rfl, ?_⟩
        have e : decide (V.bl (decide (V.bl bb = V.non)) = V.bl (decide (V.bl bb = V.non))) = true := decide_eq_true rfl
        show Q (V.bl (decide (V.bl (decide (V.bl bb = V.non)) = V.bl (decide (V.bl bb = V.non))))) _
        rw [e]
        exact kq _ (Same_lay (Same_new hp) hp2)
      | str z =>
        refine ⟨_, rfl, (by show 2 ≤ sizeLine; decide), fun p hp => ⟨_, p, _, _, _, _, rfl, upd_same, cls2 "list" "tuple", ty_flat hf, kit2 (a := "str") (r := false) (s := false) (by decide +kernel) (by decide +kernel), _, rfl, iteF ?_⟩⟩
        refine ⟨_, rfl, _, rfl, ifdn (fun z => nomatch z) ?_⟩
        refine ⟨_, rfl, (by show 2 ≤ sizeLine; decide), fun p2 hp2 => ⟨_, p2, _, _, _, _, rfl, upd_same, cls2 "bool" "str", ty_flat hf, kit2 (a := "str") (r := false) (s := true) (by decide +kernel) (by decide +kernel), _, rfl, iteT ?_⟩⟩
        refine ⟨_, rfl, _, rfl, rfl, _, rfl, ifd rfl ?_⟩
        refine ⟨_, rfl, _, _, _, _, _, rfl, .ty "bool", ty_flat hf, kit_ty (a := "str") (r := false) (by decide +kernel), _, rfl, _, _, _, _, _, rfl, .ty "bool", ty_flat hf, kit_ty (a := "str") (r := false) (by decide +kernel), rfl, _, rfl, ifd rfl ?_⟩
        refine ⟨_, rfl, _, rfl, rfl, ?_⟩
        have e : decide (V.bl (decide (V.str z = V.non)) = V.bl (decide (V.str z = V.non))) = true := decide_eq_true rfl
        show Q (V.bl (decide (V.bl (decide (V.str z = V.non)) = V.bl (decide (V.str z = V.non))))) _
        rw [e]
        exact kq _ (Same_lay (Same_new hp) hp2)
      | int i =>
        refine ⟨_, rfl, (by show 2 ≤ sizeLine; decide), fun p hp => ⟨_, p, _, _, _, _, rfl, upd_same, cls2 "list" "tuple", ty_flat hf, kit2 (a := "int") (r := false) (s := false) (by decide +kernel) (by decide +kernel), _, rfl, iteF ?_⟩⟩
        refine ⟨_, rfl, _, rfl, ifdn (fun z => nomatch z) ?_⟩
        refine ⟨_, rfl, (by show 2 ≤ sizeLine; decide), fun p2 hp2 => ⟨_, p2, _, _, _, _, rfl, upd_same, cls2 "bool" "str", ty_flat hf, kit2 (a := "int") (r := false) (s := false) (by decide +kernel) (by decide +kernel), _, rfl, iteF ?_⟩⟩
        refine ⟨_, rfl, _, _, _, _, _, rfl, .ty "int", ty_flat hf, kit_ty (a := "int") (r := true) (by decide +kernel), _, rfl, iteT ?_⟩
        refine ⟨_, rfl, _, _, _, _, _, rfl, .ty "bool", ty_flat hf, kit_ty (a := "int") (r := false) (by decide +kernel), _, rfl, _, rfl, iteT ?_⟩
        refine ⟨_, rfl, _, rfl, rfl, ?_⟩
        have e : decide (V.int i = V.int i) = true := decide_eq_true rfl
        show Q (V.bl (decide (V.int i = V.int i))) _
        rw [e]
        exact kq _ (Same_lay (Same_new hp) hp2)
      | _ => exact hf.elim
    · rcases hab with ⟨ha, hb⟩ | ⟨ha, hb⟩
      · have hk := he
        refine ⟨_, rfl, (by show 2 ≤ sizeLine; decide), fun p hp => ⟨_, p, _, _, _, _, rfl, upd_same, cls2 "list" "tuple", .base (.lst (Same_new hp _ _ hb)), kit2 (a := "list") (r := true) (s := false) (by decide +kernel) (by decide +kernel), _, rfl, iteT ?_⟩⟩
        have s1 : Same H (upd H p (.tup [.ty "list", .ty "tuple"])) := Same_new hp
        have ha1 := s1 _ _ ha
        have hb1 := s1 _ _ hb
        refine ⟨_, rfl, _, _, _, _, _, rfl, .ty "list", .base (.lst ha1), kit_ty (a := "list") (r := true) (by decide +kernel), _, rfl, _, _, _, _, _, rfl, .ty "list", .base (.lst hb1), kit_ty (a := "list") (r := true) (by decide +kernel), rfl, _, rfl, iteNS rfl ?_⟩
        refine ⟨_, rfl, _, _, _, _, _, rfl, .ty "tuple", .base (.lst ha1), kit_ty (a := "list") (r := false) (by decide +kernel), _, rfl, _, _, _, _, _, rfl, .ty "tuple", .base (.lst hb1), kit_ty (a := "list") (r := false) (by decide +kernel), rfl, _, rfl, iteNS rfl ?_⟩
        refine ⟨_, rfl, _, _, rfl, .inl ⟨_, SqL.of ha1, rfl⟩, _, rfl, _, _, rfl, .inl ⟨_, SqL.of hb1, rfl⟩, rfl, _, rfl, ifd (by rw [hl]) ?_⟩
        refine ⟨_, rfl, _, rfl, a, b, xs, ys, rfl, .inl ⟨SqL.of ha1, SqL.of hb1, fun D hD => ?_⟩⟩
        refine lc_fm (walk_zip (show xs.length = min xs.length ys.length by omega)) (fun _ => some (.bl true)) hD (by have : (1000 : Nat) < sizeLine := (by decide); omega) (fun H' s' => ⟨SqL.of (s' _ _ ha1), SqL.of (s' _ _ hb1)⟩) (fun i v H2 H3 Kt Kf hi s2 yy kt kf => ?_) (fun H2 s2 hD2 => ?_)
        · obtain ⟨T, u', v', rfl, nT, rfl, e1, e2⟩ := yy
          refine ⟨_, _, rfl, SqT.of upd_same, rfl, _, _, rfl, _, _, rfl, rfl, rfl, iteT (B := Kf (upd H2 T (.tup [u', v']))) ?_⟩
          exact ⟨_, rfl, _, rfl, u', v', rfl, Sm_same ((s1.trans s2).trans (Same_new nT)) n (he i u' v' e1 e2), fun H4 s4 => kt _ _ rfl ((Same_new nT).trans s4)⟩
        · refine ⟨D, List.replicate xs.length true, rfl, SqL.of (hD2.trans ?_), ?_⟩
          · rw [rep_true]
          · rw [rep_all]
            exact kq _ (s1.trans s2)
      · have hk := he
        refine ⟨_, rfl, (by show 2 ≤ sizeLine; decide), fun p hp => ⟨_, p, _, _, _, _, rfl, upd_same, cls2 "list" "tuple", .base (.tup (Same_new hp _ _ hb)), kit2 (a := "tuple") (r := false) (s := true) (by decide +kernel) (by decide +kernel), _, rfl, iteT ?_⟩⟩
        have s1 : Same H (upd H p (.tup [.ty "list", .ty "tuple"])) := Same_new hp
        have ha1 := s1 _ _ ha
        have hb1 := s1 _ _ hb
        refine ⟨_, rfl, _, _, _, _, _, rfl, .ty "list", .base (.tup ha1), kit_ty (a := "tuple") (r := false) (by decide +kernel), _, rfl, _, _, _, _, _, rfl, .ty "list", .base (.tup hb1), kit_ty (a := "tuple") (r := false) (by decide +kernel), rfl, _, rfl, iteNS rfl ?_⟩
        refine ⟨_, rfl, _, _, _, _, _, rfl, .ty "tuple", .base (.tup ha1), kit_ty (a := "tuple") (r := true) (by decide +kernel), _, rfl, _, _, _, _, _, rfl, .ty "tuple", .base (.tup hb1), kit_ty (a := "tuple") (r := true) (by decide +kernel), rfl, _, rfl, iteNS rfl ?_⟩
        refine ⟨_, rfl, _, _, rfl, .inr ⟨_, SqT.of ha1, rfl⟩, _, rfl, _, _, rfl, .inr ⟨_, SqT.of hb1, rfl⟩, rfl, _, rfl, ifd (by rw [hl]) ?_⟩
        refine ⟨_, rfl, _, rfl, a, b, xs, ys, rfl, .inr ⟨SqT.of ha1, SqT.of hb1, fun D hD => ?_⟩⟩
        refine lc_fm (walk_zipT (show xs.length = min xs.length ys.length by omega)) (fun _ => some (.bl true)) hD (by have : (1000 : Nat) < sizeLine := (by decide); omega) (fun H' s' => ⟨SqT.of (s' _ _ ha1), SqT.of (s' _ _ hb1)⟩) (fun i v H2 H3 Kt Kf hi s2 yy kt kf => ?_) (fun H2 s2 hD2 => ?_)
        · obtain ⟨T, u', v', rfl, nT, rfl, e1, e2⟩ := yy
          refine ⟨_, _, rfl, SqT.of upd_same, rfl, _, _, rfl, _, _, rfl, rfl, rfl, iteT (B := Kf (upd H2 T (.tup [u', v']))) ?_⟩
          exact ⟨_, rfl, _, rfl, u', v', rfl, Sm_same ((s1.trans s2).trans (Same_new nT)) n (he i u' v' e1 e2), fun H4 s4 => kt _ _ rfl ((Same_new nT).trans s4)⟩
        · refine ⟨D, List.replicate xs.length true, rfl, SqL.of (hD2.trans ?_), ?_⟩
          · rw [rep_true]
          · rw [rep_all]
            exact kq _ (s1.trans s2)

theorem ok_false {fd : FuncData} (F : Fun K "_law_same" "_law_same" s__law_same (He.ga K "_law_same") fd) : FnOk P w K mg base CX0 1 (He.ga K "_law_same") fd ["_law_got", "_law_goal"] (spPrev 0) :=
  F.ok sc_same (fun vs H Q E h => False.elim h) (fun cdv A outer s H vs Q E hr h => False.elim h)
theorem ok_same_all (B : Bk K mg) {fd : FuncData} (F : Fun K "_law_same" "_law_same" s__law_same (He.ga K "_law_same") fd) (b : Binds K fd ["_law_got", "_law_goal"] []) : ∀ n, FnOk P w K mg base CX0 (n + 2) (He.ga K "_law_same") fd ["_law_got", "_law_goal"] (spSame n)
  | 0 => ok_same_step B F 0 1 (ok_false F) b
  | n + 1 => ok_same_step B F (n + 1) (n + 2) (ok_same_all B F b n) b
theorem ok_law_same (B : Bk K mg) (n : Nat) : Df P w K mg base CX0 (n + 2) "_law_same" ["_law_got", "_law_goal"] (spSame n) := by
  obtain ⟨fd, F⟩ := B.F_law_same
  have b := F.binds (ps := ["_law_got", "_law_goal"]) fun _ _ _ _ _ _ us hl => match us, hl with | [_, _], _ => rfl
  exact ⟨⟨fd, ok_same_all B F b n, b⟩, B.g_law_same, F.kp⟩
end
end Jd
namespace Jd
open PySem PySem.Spec PyProof.Rows L2
/-! ### Keys.of -/
/-- lists of two texts -/
def LsAt (H : Hp) (qs : List Addr) (prs : List (Str × Str)) : Prop := qs.length = prs.length ∧ ∀ (i : Nat) (q : Addr), qs[i]? = some q → ∃ pr, prs[i]? = some pr ∧ H q = some (.lst [.str pr.1, .str pr.2])
theorem spl_short (S : List Nat) : ∀ (t : List Nat) (k : Nat) (acc : List Nat), ∀ l ∈ TL.spl S k acc t, l.length ≤ acc.length + t.length
  | [], k, acc, l, h => by
    have e : TL.spl S k acc [] = [acc] := by cases k <;> rfl
    rw [e] at h
    rw [List.mem_singleton.mp h]
    exact Nat.le_add_right _ _
  | c :: r, 0, acc, l, h => by
    have e : TL.spl S 0 acc (c :: r) = if TL.pre S (c :: r) = true then acc :: TL.spl S (S.length - 1) [] r else TL.spl S 0 (acc ++ [c]) r := rfl
    rw [e] at h
    by_cases q : TL.pre S (c :: r) = true
    · rw [if_pos q] at h
      rcases List.mem_cons.mp h with rfl | h
      · exact Nat.le_add_right _ _
      · have z := spl_short S r _ [] l h
        rw [List.length_cons]
        simp only [List.length_nil] at z
        omega
    · rw [if_neg q] at h
      have z := spl_short S r 0 _ l h
      rw [List.length_append] at z
      rw [List.length_cons]
      simp only [List.length_cons, List.length_nil] at z
      omega
  | c :: r, k + 1, acc, l, h => by
    have z := spl_short S r k acc l h
    rw [List.length_cons]
    omega
theorem split_short {z y : Str} {c : Nat} {S : List Nat} (ey : TL.tl y = c :: S) (hk : y.cps.all (· < 256) = true) {w : Str} (h : w ∈ Txt.split z y) : w.length ≤ z.length := by
  have q := TL.split_spl z y (by rw [ey]; simp) (TL.kind_ok hk)
  have hm : TL.tl w ∈ (Txt.split z y).map TL.tl := List.mem_map.mpr ⟨w, h, rfl⟩
  rw [q] at hm
  have k := spl_short _ _ _ _ _ hm
  have e1 : w.length = (TL.tl w).length := by show w.cps.size = w.cps.toList.length; rw [Array.length_toList]
  have e2 : z.length = (TL.tl z).length := by show z.cps.size = z.cps.toList.length; rw [Array.length_toList]
  rw [e1, e2]
  simpa using k
def prOf (l : List Str) : List (Str × Str) := match l with
  | [a, b] => [(a, b)]
  | _ => []
def stOf (r : Str) : Option (List Str) := statedOf (wordsOf r)
def namesOf (rows : List Str) : List Str := rows.flatMap fun r => (stOf r).getD []
def pairsR (rows : List Str) : List (Str × Str) := rows.flatMap fun r => prOf ((stOf r).getD [])
theorem stated_len {ws l : List Str} (h : statedOf ws = some l) : l.length ≤ 2 := by
  unfold statedOf pickOf at h
  split at h
  · rw [Option.bind_some] at h
    split at h
    · cases h; exact (by omega : 0 ≤ 2)
    · cases h
  · rw [Option.bind_some] at h
    split at h
    · cases h; exact (by omega : 1 ≤ 2)
    · cases h
  · split at h
    · rw [Option.bind_some] at h
      split at h
      · cases h; exact (by omega : 2 ≤ 2)
      · cases h
    · cases h
  · cases h
theorem flat_len {α β : Type} {f : α → List β} {k : Nat} (h : ∀ x, (f x).length ≤ k) : ∀ l : List α, (l.flatMap f).length ≤ k * l.length
  | [] => Nat.zero_le _
  | x :: l => by
    have e := flat_len h l
    have q := h x
    rw [List.flatMap_cons, List.length_append, List.length_cons, Nat.mul_add]
    omega
theorem names_le (rows : List Str) : (namesOf rows).length ≤ 2 * rows.length := flat_len (fun r => by
  cases q : stOf r with
  | none => exact Nat.zero_le _
  | some l => exact stated_len q) rows
theorem pairs_le (rows : List Str) : (pairsR rows).length ≤ rows.length := by
  have q := flat_len (k := 1) (f := fun r => prOf ((stOf r).getD [])) (fun r => by
    unfold prOf
    split
    · exact Nat.le_refl _
    · exact Nat.zero_le _) rows
  show (rows.flatMap fun r => prOf ((stOf r).getD [])).length ≤ _
  omega
def spKOf (K : PySem.W.Frag) : Sp := fun vs H Q E => ∃ (z : Str) (rows : List Str), vs = [.str z] ∧ z.length ≤ 100000 ∧ Txt.split z "\n" = rows ∧ rows.length ≤ 31 ∧
  (∀ (j : Nat) (r : Str), rows[j]? = some r → stOf r = none → (∀ (i' : Nat), i' < j → ∀ r', rows[i']? = some r' → stOf r' ≠ none) → ∀ H' d, Same H H' → H' d = some (.xd [("number", .int j)]) → E (.ref (He.ga K "BadLine")) (some d) H') ∧
  ((∀ r ∈ rows, stOf r ≠ none) → (txAll (namesOf rows)).length ≤ 7 ∧ (∀ z ∈ namesOf rows, PyData.strOk z = true) ∧ ∀ ns : List Str, ns.Perm (txAll (namesOf rows)) → sortedS ns = true → ns.Nodup → firstOut ns (pairsR rows) = none ∧
    (ringOf (pairsR rows) ns = [] → ∀ H' x, Same H H' → KeysO K H' x ns (toldOf (pairsR rows) ns) → Q (.ref x) H') ∧
    (ringOf (pairsR rows) ns ≠ [] → ∀ H' d r, Same H H' → H' d = some (.xd [("ring", .ref r)]) → H' r = some (.tup ((ringOf (pairsR rows) ns).map V.str)) → E (.ref (He.ga K "Ringed")) (some d) H'))
theorem ifdp {p : Prop} [Decidable p] {A B : Prop} (hp : p) (h : A) : if decide p = true then A else B := by
  rw [decide_eq_true hp]
  exact iteT h
theorem names_next {rows : List Str} {i : Nat} {r : Str} (h : rows[i]? = some r) : namesOf (rows.take (i + 1)) = namesOf (rows.take i) ++ (stOf r).getD [] := by
  unfold namesOf
  rw [List.take_add_one, h, List.flatMap_append]
  simp
theorem pairs_next {rows : List Str} {i : Nat} {r : Str} (h : rows[i]? = some r) : pairsR (rows.take (i + 1)) = pairsR (rows.take i) ++ prOf ((stOf r).getD []) := by
  unfold pairsR
  rw [List.take_add_one, h, List.flatMap_append]
  simp
theorem ok_next {rows : List Str} {i : Nat} {r : Str} (h : rows[i]? = some r) (hr : stOf r ≠ none) (k : ∀ x ∈ rows.take i, stOf x ≠ none) : ∀ x ∈ rows.take (i + 1), stOf x ≠ none := fun x hx => by
  rw [List.take_add_one, h] at hx
  rcases List.mem_append.mp hx with hx | hx
  · exact k x hx
  · have e : x = r := by simpa using hx
    rw [e]
    exact hr
theorem names_le_take (rows : List Str) (i : Nat) (h : rows.length ≤ 31) : (namesOf (rows.take i)).length ≤ 62 := by
  have q := names_le (rows.take i)
  rw [List.length_take] at q
  omega
theorem LsAt.snoc {H : Hp} {qs : List Addr} {prs : List (Str × Str)} {q : Addr} {pr : Str × Str} (h : LsAt H qs prs) (e : H q = some (.lst [.str pr.1, .str pr.2])) : LsAt H (qs ++ [q]) (prs ++ [pr]) := by
  refine ⟨by rw [List.length_append, List.length_append, h.1]; rfl, fun i a ha => ?_⟩
  by_cases hi : i < qs.length
  · rw [List.getElem?_append_left hi] at ha
    obtain ⟨p, e1, e2⟩ := h.2 i a ha
    exact ⟨p, by rw [List.getElem?_append_left (by rw [← h.1]; exact hi)]; exact e1, e2⟩
  · rw [List.getElem?_append_right (by omega)] at ha
    have e0 : i - qs.length = 0 := by
      by_cases z : i - qs.length = 0
      · exact z
      · rw [List.getElem?_eq_none (by simp; omega)] at ha
        cases ha
    rw [e0] at ha
    have ea : q = a := Option.some.inj ha
    subst ea
    exact ⟨pr, by rw [List.getElem?_append_right (by rw [← h.1]; omega), ← h.1, e0]; rfl, e⟩
theorem LsAt.put {H : Hp} {qs : List Addr} {prs : List (Str × Str)} {N : Addr} {o : HO} (h : LsAt H qs prs) (n : ∀ q ∈ qs, q ≠ N) : LsAt (upd H N o) qs prs := ⟨h.1, fun i q hq => let ⟨pr, a, b⟩ := h.2 i q hq; ⟨pr, a, by rw [upd_ne (n q (List.mem_of_getElem? hq))]; exact b⟩⟩
theorem LsAt.same {H H' : Hp} {qs : List Addr} {prs : List (Str × Str)} (h : LsAt H qs prs) (s : Same H H') : LsAt H' qs prs := ⟨h.1, fun i q hq => let ⟨pr, a, b⟩ := h.2 i q hq; ⟨pr, a, s _ _ b⟩⟩
theorem Same_mk {H : Hp} {x dx : Addr} {o1 o2 : HO} (n1 : H x = none) (n2 : H dx = none) : Same H (upd (upd H dx o1) x o2) := fun b o q => by
  rw [upd_ne (ne_of_none q n1), upd_ne (ne_of_none q n2)]
  exact q
theorem Same_made {H H' : Hp} {x dx : Addr} {o1 o2 : HO} (n1 : H x = none) (n2 : H dx = none) (k : KeepX x (upd (upd H dx o1) x o2) H') : Same H H' := fun b o q => k _ _ (ne_of_none q n1) (Same_mk n1 n2 _ _ q)
section
variable {P : Program} {w : World} {K : PySem.W.Frag} {mg : Str → Option Value} {base : Heap}
abbrev NO : List Str := ["text", "names", "pairs", "number", "line", "stated"]
theorem sc_of : FnScope NO ["text"] (defScope s_Keys_s_of) := ⟨rfl, rfl, rfl, by decide +kernel, rfl, by decide +kernel, by decide +kernel⟩
theorem ok_Keys_of (B : Bk K mg) : ∃ fd, FnOk P w K mg base (L2.CX P w) 5 (He5.wf K (He.ga K "Keys") "staticmethod" "of") fd ["text"] (spKOf K) ∧ Fun K "of" "Keys.of" s_Keys_s_of (He5.wf K (He.ga K "Keys") "staticmethod" "of") fd := by
  obtain ⟨fd, F⟩ := B.F_Keys_s_of
  obtain ⟨fdW, GW, bW⟩ := (ok_words_of (P := P) (w := w) (base := base) B).ex
  have kW := (ok_words_of (P := P) (w := w) (base := base) B).kp
  obtain ⟨fdS, GS, bS⟩ := (ok_stated (P := P) (w := w) (base := base) B).ex
  have kS := (ok_stated (P := P) (w := w) (base := base) B).kp
  obtain ⟨fdE, GE, bE⟩ := ok_bl (P := P) (w := w) (base := base) B
  obtain ⟨oxc, oi, ot⟩ := B.ox_BadLine
  obtain ⟨fdI, GI, _, FI⟩ := ok_Keys_init (P := P) (w := w) (base := base) B
  have bI := kb_two FI
  refine ⟨fd, ?_, F⟩
  refine F.okX sc_of (fun vs H Q E h => ?_) (fun cdv A outer s H vs Q E hr h => ?_)
  · obtain ⟨_, _, rfl, _⟩ := h
    rfl
  · obtain ⟨z, rows, rfl, hz, er, l31, kB, kG⟩ := h
    have hr1 : Room 1 _ := hr.mono (by decide)
    have hr2 : Room 2 _ := hr.mono (by decide)
    refine ⟨_, pss_cons (ps_set (i := 1) sc_of.nd rfl (Or.inl rfl) (pe_lst pa_nil))
      (pss_cons (ps_set (i := 2) sc_of.nd rfl (Or.inl rfl) (pe_lst pa_nil))
      (pss_cons (ps_for (passes_of rfl) rfl (pi_enum (by rfl) B.b_enumerate (pa_cons (pe_split (pv 0) pe_str) pa_nil)) (pg_tup rfl (pgs_cons (pg_name (i := 3) sc_of.nd rfl (.inl rfl)) (pgs_cons (pg_name (i := 4) sc_of.nd rfl (.inl rfl)) pgs_nil)))
        (pss_cons (ps_set (i := 5) sc_of.nd rfl (Or.inl rfl) (pe_call GS hr2 rfl B.g_stated kS bS .nil pass0 (pa_cons (pe_call GW hr1 rfl B.g_words_of kW bW .nil pass0 (pa_cons (pv 4) pa_nil)) pa_nil)))
        (pss_cons (ps_if (pt_cmp (pc_isN (pv 5))) (pss_one (ps_raise rfl (takes_of rfl rfl rfl rfl) (pmk_oex oxc oi ot GE hr2 bE .nil pass0 (by rfl) B.g_BadLine (pa_cons (pv 3) pa_nil)))) pss_nil)
        (pss_cons (ps_expr (pe_bm PySem.F.plainAttrs_list PySem.F.slot_list_extend PySem.F.type_list_extend mt_extend (pv 1) (pa_cons (pv 5) pa_nil)))
        (pss_one (ps_if (pt_cmpR op_eq (pe_callB call_len_seq (by rfl) B.b_len (by decide +kernel) (pa_cons (pv 5) pa_nil)) pe_int (nomark _)) (pss_one (ps_expr (pe_bm PySem.F.plainAttrs_list PySem.F.slot_list_append PySem.F.type_list_append mt_append (pv 2) (pa_cons (pv 5) pa_nil)))) pss_nil))))))
      (pss_one (ps_ret (pe_make (E := E) B.mk_Keys GI hr (by rfl) B.g_Keys bI .nil (passes_call (takes_of rfl rfl rfl rfl) (fun _ _ _ _ h => h)) (pa_cons (pv 1) (pa_cons (pv 2) pa_nil))))))), ?_⟩
    refine ⟨Nat.zero_le _, fun N nN => ⟨Nat.zero_le _, fun M nM => ?_⟩⟩
    have sN0 := Same_new (o := HO.lst []) nN
    have nMH : H M = none := sN0.free nM
    have nNH : H N = none := nN
    have nMN : M ≠ N := fun e => by rw [e, upd_same] at nM; cases nM
    have hN0 : (upd (upd H N (.lst [])) M (.lst [])) N = some (.lst []) := by rw [upd_ne nMN.symm, upd_same]
    have hM0 : (upd (upd H N (.lst [])) M (.lst [])) M = some (.lst []) := upd_same
    have s0 : Same H (upd (upd H N (.lst [])) M (.lst [])) := Same_lay sN0 nM
    dsimp only [cxOf, Cx.nox]
    generalize (upd (upd H N (.lst [])) M (.lst [])) = H0 at s0 hN0 hM0
    refine ⟨_, rfl, ⟨z, rfl⟩, z, "\n", rfl, rfl, rfl, Nat.le_trans (Nat.add_le_add_right hz 2) (by decide), fun L nL => ?_⟩
    rw [er]
    have sL := Same_new (o := HO.lst (rows.map V.str)) nL
    have hL : (upd H0 L (.lst (rows.map V.str))) L = some (.lst (rows.map V.str)) := upd_same
    have nLN : L ≠ N := fun e => by rw [e, hN0] at nL; cases nL
    have nLM : L ≠ M := fun e => by rw [e, hM0] at nL; cases nL
    refine ⟨L, _, rfl, SqL.of hL, ?_⟩
    have rsh : ∀ r ∈ rows, r.length ≤ 100000 := fun r hr => Nat.le_trans (split_short (c := 10) (S := []) (y := "\n") (by decide +kernel) (by decide +kernel) (by rw [er]; exact hr)) hz
    refine for_it (n := (rows.map V.str).length) walk_enum (fun i σ H' => ∃ (v3 v4 v5 : Option V) (qs : List Addr), σ = [some (.str z), some (.ref N), some (.ref M), v3, v4, v5] ∧ Same H H' ∧ H' N = some (.lst ((namesOf (rows.take i)).map V.str)) ∧ H' M = some (.lst (qs.map V.ref)) ∧
        LsAt H' qs (pairsR (rows.take i)) ∧ (∀ q ∈ qs, q ≠ N ∧ q ≠ M) ∧ H' L = some (.lst (rows.map V.str)) ∧ ∀ r ∈ rows.take i, stOf r ≠ none)
      ⟨_, _, _, [], rfl, s0.trans sL, sL _ _ hN0, sL _ _ hM0, ⟨rfl, fun i q h => by cases h⟩, (fun q h => by cases h), hL, fun r h => by cases h⟩ (fun i σ H' _ ⟨_, _, _, _, _, _, _, _, _, _, e, _⟩ => SqL.of e) (fun i x σ H7 H8 hi ⟨v3, v4, v5, qs, e, s7, hN7, hM7, hq7, qn7, hL7, ok7⟩ y => ?_) (fun σ H7 ⟨v3, v4, v5, qs, e, s7, hN7, hM7, hq7, qn7, hL7, ok7⟩ => ?_)
    · obtain ⟨T, x1, x2, rfl, nT, rfl, e1, e2⟩ := y
      cases e1
      subst e
      obtain ⟨r, hr', rfl⟩ := at_str (show (rows.map V.str)[i]? = some x2 from e2)
      have hri : r ∈ rows := List.mem_of_getElem? hr'
      have hlr := rsh r hri
      have sT := Same_new (o := HO.tup [V.int (i : Nat), V.str r]) nT
      refine ⟨_, _, rfl, SqT.of upd_same, rfl, _, _, rfl, _, _, rfl, rfl, ?_⟩
      replace hN7 := sT _ _ hN7
      replace hM7 := sT _ _ hM7
      replace hL7 := sT _ _ hL7
      replace s7 := s7.trans sT
      have hq7 : LsAt (upd H7 T (.tup [V.int (i : Nat), V.str r])) qs (pairsR (rows.take i)) := ⟨hq7.1, fun i q h => let ⟨pr, a, b⟩ := hq7.2 i q h; ⟨pr, a, sT _ _ b⟩⟩
      generalize (upd H7 T (.tup [V.int (i : Nat), V.str r])) = H8 at s7 hN7 hM7 hq7 hL7
      clear sT nT
      refine ⟨_, rfl, r, rfl, Nat.le_trans (Nat.add_le_add_right hlr 2) (by decide), fun H9 p s9 np hp => ⟨p, wordsOf r, rfl, hp, ?_, fun w' hw' => ?_, fun en H10 s10 => ?_, fun l el H10 q s10 hq hql => ?_⟩⟩
      · exact Nat.le_trans (List.length_filter_le _ _) (Nat.le_trans (PyProof.Rows.split_le r " ") (by omega))
      · exact Nat.le_trans (split_short (c := 32) (S := []) (by decide +kernel) (by decide +kernel) (List.mem_filter.mp hw').1) (Nat.le_trans hlr (by decide))
      · have s8 := (s7.trans s9).trans s10
        refine ⟨_, rfl, _, rfl, ifdp rfl ?_⟩
        refine ⟨_, rfl, (by show 1 ≤ 1000; decide), fun a na => ⟨a, _, rfl, upd_same, fun ex nd ne2 => ⟨rfl, ex, [("number", .int (i : Nat))], upd_same, ?_, ?_, ?_⟩⟩⟩
        · rw [upd_ne ne2, upd_same]
        · rw [upd_ne ne2] at nd
          exact nd
        · have nd' : H10 ex = none := by
            rw [upd_ne ne2] at nd
            exact nd
          refine kB i r hr' en (fun i' hi' r' hr2 => ok7 r' (List.mem_of_getElem? (by rw [List.getElem?_take_of_lt hi']; exact hr2))) _ ex (fun b o q => ?_) upd_same
          have q1 := s8 _ _ q
          have nb : b ≠ a := ne_of_none q1 na
          rw [upd_ne (ne_of_none q1 nd'), del_ne nb, upd_ne nb, upd_ne (ne_of_none q1 nd'), upd_ne nb]
          exact q1
      · have s8 := (s7.trans s9).trans s10
        have est : stOf r = some l := el
        have hN9 := s10 _ _ (s9 _ _ hN7)
        have hM9 := s10 _ _ (s9 _ _ hM7)
        have hL9 := s10 _ _ (s9 _ _ hL7)
        have hq9 := (hq7.same s9).same s10
        have nq8 : H8 q = none := by
          rcases hq with rfl | hq
          · exact np
          · exact s9.free hq
        have nqN : q ≠ N := fun e => by rw [e, hN7] at nq8; cases nq8
        have nqM : q ≠ M := fun e => by rw [e, hM7] at nq8; cases nq8
        have nqL : q ≠ L := fun e => by rw [e, hL7] at nq8; cases nq8
        have l2 := stated_len el
        have ok8 := ok_next hr' (by rw [est]; intro z; cases z) ok7
        have eN := names_next hr'
        have eP := pairs_next hr'
        rw [est] at eN eP
        replace eN : namesOf (rows.take (i + 1)) = namesOf (rows.take i) ++ l := eN
        replace eP : pairsR (rows.take (i + 1)) = pairsR (rows.take i) ++ prOf l := eP
        refine ⟨_, rfl, _, rfl, ifdn (fun z => nomatch z) ?_⟩
        refine ⟨_, rfl, .inl ⟨rfl, _, SqL.of hN9⟩, _, rfl, N, q, _, _, rfl, rfl, hN9, hql, ?_, ?_⟩
        · rw [List.length_map, List.length_map]
          have := names_le_take rows i l31
          have : (1000 : Nat) ≤ sizeLine := by decide
          omega
        have e1 : (namesOf (rows.take i)).map V.str ++ l.map V.str = (namesOf (rows.take (i + 1))).map V.str := by rw [eN, List.map_append]
        rw [e1]
        have s11 : Same H (upd H10 N (.lst ((namesOf (rows.take (i + 1))).map V.str))) := Same_upd s8 nNH
        have hN11 : (upd H10 N (.lst ((namesOf (rows.take (i + 1))).map V.str))) N = _ := upd_same
        have hM11 : (upd H10 N (.lst ((namesOf (rows.take (i + 1))).map V.str))) M = some (.lst (qs.map V.ref)) := by rw [upd_ne nMN]; exact hM9
        have hL11 : (upd H10 N (.lst ((namesOf (rows.take (i + 1))).map V.str))) L = some (.lst (rows.map V.str)) := by rw [upd_ne nLN]; exact hL9
        have hq11 : (upd H10 N (.lst ((namesOf (rows.take (i + 1))).map V.str))) q = some (.lst (l.map V.str)) := by rw [upd_ne nqN]; exact hql
        have hqs11 : LsAt (upd H10 N (.lst ((namesOf (rows.take (i + 1))).map V.str))) qs (pairsR (rows.take i)) := hq9.put fun q hq => (qn7 q hq).1
        generalize (upd H10 N (.lst ((namesOf (rows.take (i + 1))).map V.str))) = H11 at s11 hN11 hM11 hL11 hq11 hqs11
        refine ⟨_, rfl, q, _, rfl, .inl (SqL.of hq11), rfl, _, rfl, two (fun h1 => ?_) (fun h1 => ?_)⟩
        · have e2 : l.length = 2 := by
            have e := V.int.inj (of_decide_eq_true h1)
            rw [List.length_map] at e
            omega
          obtain ⟨a, b, rfl⟩ : ∃ a b, l = [a, b] := by
            match l, e2 with
            | [a, b], _ => exact ⟨a, b, rfl⟩
          refine ⟨_, rfl, .inl ⟨rfl, _, SqL.of hM11⟩, _, rfl, M, _, _, rfl, rfl, hM11, ?_, ?_⟩
          · rw [List.length_map, hqs11.1]
            have := pairs_le (rows.take i)
            rw [List.length_take] at this
            have : (1000 : Nat) ≤ sizeLine := by decide
            omega
          refine ⟨_, _, _, qs ++ [q], rfl, Same_upd s11 nMH, by rw [upd_ne nMN.symm]; exact hN11, by rw [upd_same, List.map_append]; rfl, ?_, fun q' hq' => ?_, by rw [upd_ne nLM]; exact hL11, ok8⟩
          · rw [eP]
            exact (hqs11.snoc (pr := (a, b)) hq11).put fun q' hq' => (List.mem_append.mp hq').elim (fun h => (qn7 q' h).2) fun h => by rw [List.mem_singleton.mp h]; exact nqM
          · rcases List.mem_append.mp hq' with h | h
            · exact qn7 q' h
            · rw [List.mem_singleton.mp h]
              exact ⟨nqN, nqM⟩
        · have e2 : l.length ≠ 2 := fun z => of_decide_eq_false h1 (by rw [List.length_map, z]; rfl)
          refine ⟨_, _, _, qs, rfl, s11, hN11, hM11, ?_, qn7, hL11, ok8⟩
          have e3 : prOf l = [] := by
            unfold prOf
            split
            · exact absurd rfl e2
            · rfl
          rw [eP, e3, List.append_nil]
          exact hqs11
    · subst e
      rw [List.length_map, List.take_length] at hN7 hq7 ok7
      obtain ⟨k7, kS, kk⟩ := kG ok7
      refine ⟨_, rfl, _, rfl, fun x dx nx ndx nex => ?_⟩
      have sm := Same_mk (o1 := HO.own x) (o2 := HO.ins (He.ga K "Keys") dx []) nx ndx
      refine ⟨x, N, M, dx, namesOf rows, pairsR rows, rfl, upd_same, .inl (SqL.of (sm _ _ hN7)), ?_, k7, kS, ⟨qs, .inl (SqL.of (sm _ _ hM7)), hq7.1, fun i q hq => let ⟨pr, a, b⟩ := hq7.2 i q hq; ⟨pr, a, .inl (SqL.of (sm _ _ b))⟩⟩, ?_, fun ns pm so nd => ?_⟩
      · have := names_le rows
        omega
      · have := pairs_le rows
        omega
      obtain ⟨kf, kr0, kr1⟩ := kk ns pm so nd
      refine ⟨fun _ => ⟨fun e H' ko kx => ⟨rfl, kr0 e _ x (s7.trans (Same_made nx ndx kx)) ko⟩, fun e H' d r kx hd hrr => kr1 e _ d r (s7.trans (Same_made nx ndx kx)) hd hrr⟩, fun z q => ?_⟩
      rw [kf] at q
      cases q
end
end Jd
namespace Jd
open PySem PySem.Spec PyProof.Rows L2
/-! ### text -/
def tellsRow (p : Str × Str) : Str := (p.1 ++ " tells ") ++ p.2
def textRows (ns : List Str) (t : Str → List Str) : List Str := ns ++ (pairsOf ns t).map tellsRow
def textOf (ns : List Str) (t : Str → List Str) : Str := Txt.join "\n" (textRows ns t)
theorem str_app_len (a b : Str) : (a ++ b).length = a.length + b.length := by
  rw [TL.len_tl, TL.tl_append, List.length_append, ← TL.len_tl, ← TL.len_tl]
theorem emp_app (a : Str) : (Str.empty ++ a : Str) = a := cd_ext (by show TL.tl (Str.empty ++ a) = TL.tl a; rw [TL.tl_append]; rfl)
def spText (K : PySem.W.Frag) : Sp := fun vs H Q _ => ∃ (x : Addr) (ns : List Str) (t : Str → List Str), vs = [.ref x] ∧ KeysO K H x ns t ∧ (∀ n ∈ ns, n.length ≤ 8) ∧ ∀ H', Same H H' → Q (.str (textOf ns t)) H'
theorem pairs_ok {ns : List Str} {t : Str → List Str} (h : ∀ n ∈ ns, (t n).length ≤ 7 ∧ ∀ z ∈ t n, z ∈ ns) {p : Str × Str} (hp : p ∈ pairsOf ns t) : p.1 ∈ ns ∧ p.2 ∈ ns := by
  unfold pairsOf at hp
  obtain ⟨n, hn, hp⟩ := List.mem_flatMap.mp hp
  obtain ⟨o, ho, rfl⟩ := List.mem_map.mp hp
  exact ⟨hn, (h n hn).2 o ho⟩
theorem pairs_len2 {ns : List Str} {t : Str → List Str} (h7 : ns.length ≤ 7) (h : ∀ n ∈ ns, (t n).length ≤ 7) : (pairsOf ns t).length ≤ 49 := by
  have q : ∀ l : List Str, (∀ n ∈ l, (t n).length ≤ 7) → (l.flatMap fun n => (t n).map fun o => (n, o)).length ≤ 7 * l.length := by
    intro l
    induction l with
    | nil => intro _; exact Nat.zero_le _
    | cons a l ih =>
      intro hl
      have q1 := ih fun n hn => hl n (List.mem_cons_of_mem _ hn)
      have q2 := hl a List.mem_cons_self
      rw [List.flatMap_cons, List.length_append, List.length_map, List.length_cons, Nat.mul_add]
      omega
  have := q ns h
  show (ns.flatMap fun n => (t n).map fun o => (n, o)).length ≤ 49
  omega
theorem sum_le {l : List Str} {k : Nat} (h : ∀ z ∈ l, z.length ≤ k) : (l.map (·.length)).sum ≤ k * l.length := by
  induction l with
  | nil => exact Nat.zero_le _
  | cons a l ih =>
    have q1 := ih fun z hz => h z (List.mem_cons_of_mem _ hz)
    have q2 := h a List.mem_cons_self
    rw [List.map_cons, List.sum_cons, List.length_cons, Nat.mul_add]
    omega
section
variable {P : Program} {w : World} {K : PySem.W.Frag} {mg : Str → Option Value} {base : Heap}
abbrev NX : List Str := ["self", "told", "one", "other"]
theorem sc_tx : FnScope NX ["self"] (defScope s_Keys_p_text) := ⟨rfl, rfl, rfl, by decide +kernel, rfl, by decide +kernel, by decide +kernel⟩
theorem ok_text (B : Bk K mg) : ∃ fd, FnOk P w K mg base CX0 3 (propG K "Keys" "text") fd ["self"] (spText K) ∧ Binds K fd ["self"] [] := by
  obtain ⟨fd, F⟩ := B.F_Keys_p_text
  obtain ⟨fdP, GP, bP⟩ := ok_pairs (P := P) (w := w) (base := base) B
  refine ⟨fd, ?_, F.binds fun _ _ _ _ _ _ us hl => match us, hl with | [_], _ => rfl⟩
  refine F.ok sc_tx (fun vs H Q E h => ?_) (fun cdv A outer s H vs Q E hr h => ?_)
  · obtain ⟨_, _, _, rfl, _⟩ := h
    rfl
  · obtain ⟨x, ns, t, rfl, ko, l8, k⟩ := h
    refine ⟨_, pss_cons (ps_setLc (i := 1) (own := [("one", 2), ("other", 3)]) (g := gTup K 2 (gCons (gName 2) (gCons (gName 3) gNil))) (tt := tYes) (te := fun σ H Q => tJs [tFmt (tVar 2), tC (.str " tells "), tFmt (tVar 3)] Str.empty σ H fun out H1 => Q (.str out) H1) rfl sc_tx.nd rfl rfl (sw_true rfl rfl rfl (by decide +kernel)) (pi_tup (pe_prop (pv 0) B.cl_Keys B.pr_Keys_pairs GP hr bP .nil pass0 rfl)) (blkOk_by (N := NX) (sc := defScope s_Keys_p_text) (by decide +kernel))
        (fun _ _ _ _ _ => pg_tup rfl (pgs_cons (pg_name (i := 2) sc_tx.nd rfl (Or.inl rfl)) (pgs_cons (pg_name (i := 3) sc_tx.nd rfl (Or.inl rfl)) pgs_nil))) (fun _ _ _ _ _ => pts_nil) (fun _ _ _ _ _ => pe_joined (.cons (pe_fmt (pv 2)) (.cons pe_str (.cons (pe_fmt (pv 3)) .nil)))))
      (pss_one (ps_ret (pe_join pe_str (pe_op op_cat (pe_callTy call_list_of (by rfl) B.b_list (by decide +kernel) (pa_cons (pe_fld (pv 0) rfl) pa_nil)) (pv 1))))), ?_⟩
    obtain ⟨dx, tn, d, A, hx, ht, hd, hq, g1, g2, g3, g4⟩ := id ko
    refine ⟨_, rfl, x, dx, _, rfl, hx, x, ns, t, rfl, ko, fun H1 p qs s1 hp pr => ?_⟩
    have lp := pairs_len2 g2 fun n hn => (g4 n hn).1
    refine ⟨p, rfl, ⟨_, SqT.of hp⟩, fun D hD => ?_⟩
    refine lc_fm (te := fun σ H Q => tJs [tFmt (tVar 2), tC (.str " tells "), tFmt (tVar 3)] Str.empty σ H fun out H1 => Q (.str out) H1) (walk_tup (xs := qs.map V.ref)) (fun i => ((pairsOf ns t)[i]?).map fun p => V.str (tellsRow p)) hD (by rw [List.length_map, pr.1]; exact Nat.le_trans lp (by decide)) (fun H' s' => sm_seqT s' (SqT.of hp)) (fun i v H5 H6 Kt Kf hi s5 y kt kf => ?_) (fun H5 s5 hD5 => ?_)
    · obtain ⟨rfl, hv⟩ := y
      obtain ⟨q, hqi, rfl⟩ := at_ref hv
      obtain ⟨pr1, e1, e2⟩ := pr.2 i q hqi
      have m1 := pairs_ok g4 (List.mem_of_getElem? e1)
      have z1 := l8 _ m1.1
      have z2 := l8 _ m1.2
      have big : (100 : Nat) ≤ sizeLine := by decide
      have e7 : (" tells " : Str).length = 7 := by decide
      refine ⟨q, _, rfl, SqT.of (s5 _ _ e2), rfl, _, _, rfl, _, _, rfl, rfl, ?_⟩
      refine ⟨rfl, iteT (B := Kf H6) ?_⟩
      have a0 := emp_app pr1.1
      refine ⟨_, rfl, .inl ⟨pr1.1, rfl, Nat.le_trans z1 (by decide), pr1.1, rfl, by rw [a0]; exact Nat.le_trans z1 (by decide), " tells ", rfl, ?_, _, rfl, .inl ⟨pr1.2, rfl, Nat.le_trans z2 (by decide), pr1.2, rfl, ?_, ?_⟩⟩⟩
      · rw [a0, str_app_len, e7]
        omega
      · rw [a0, str_app_len, str_app_len, e7]
        omega
      · rw [a0]
        exact kt _ _ (by rw [e1]; rfl) (Same.refl _)
    · rw [List.length_map, pr.1, fm_some (l := pairsOf ns t) (g := fun p => V.str (tellsRow p)) (fun i c hc => by rw [hc]; rfl)] at hD5
      have s0 := s1.trans s5
      refine ⟨⟨"\n", rfl⟩, _, rfl, x, _, dx, _, _, rfl, s0 _ _ hx, B.cl_Keys, B.no_Keys__names, rfl, tn, _, rfl, .inr (SqT.of (s0 _ _ ht)), fun l nl => ?_⟩
      have sl := Same_new (o := HO.lst (ns.map V.str)) nl
      refine ⟨_, rfl, _, _, _, _, rfl, rfl, upd_same, sl _ _ hD5, ?_, fun c nc => ?_⟩
      · rw [List.length_map, List.length_map]
        have : (1000 : Nat) ≤ sizeLine := by decide
        omega
      have sc := Same_new (o := HO.lst (ns.map V.str ++ (pairsOf ns t).map fun p => V.str (tellsRow p))) nc
      have ec : (ns.map V.str ++ (pairsOf ns t).map fun p => V.str (tellsRow p)) = (textRows ns t).map V.str := by
        unfold textRows
        rw [List.map_append, List.map_map]
        rfl
      refine ⟨"\n", c, textRows ns t, rfl, rfl, .inl (SqL.of (by rw [upd_same, ec])), ?_, k _ ((s0.trans sl).trans sc)⟩
      have l1 : (textRows ns t).length ≤ 56 := by
        unfold textRows
        rw [List.length_append, List.length_map]
        omega
      have l2 : ∀ z ∈ textRows ns t, z.length ≤ 23 := fun z hz => by
        rcases List.mem_append.mp hz with h | h
        · exact Nat.le_trans (l8 z h) (by decide)
        · obtain ⟨p, hp, rfl⟩ := List.mem_map.mp h
          have m1 := pairs_ok g4 hp
          have z1 := l8 _ m1.1
          have z2 := l8 _ m1.2
          unfold tellsRow
          rw [str_app_len, str_app_len, show (" tells " : Str).length = 7 by decide]
          omega
      have l3 := sum_le l2
      have l4 : ("\n" : Str).length = 1 := by decide
      rw [l4]
      omega
end
end Jd
namespace Jd
open PySem PySem.Spec PyProof.Rows L2
/-! ### words of a drawn line -/
/-- the words of a text's codes, cut at blanks -/
def wds : List Nat → List Nat → List (List Nat)
  | acc, [] => if acc = [] then [] else [acc]
  | acc, c :: l => if c = 32 then (if acc = [] then wds [] l else acc :: wds [] l) else wds (acc ++ [c]) l
theorem wds_spl : ∀ (l acc : List Nat), (TL.spl [32] 0 acc l).filter (fun w => decide (w ≠ [])) = wds acc l
  | [], acc => by
    have e : TL.spl [32] 0 acc [] = [acc] := rfl
    rw [e]
    unfold wds
    by_cases h : acc = []
    · subst h
      rfl
    · rw [if_neg h, List.filter_cons, if_pos (decide_eq_true h)]
      rfl
  | c :: l, acc => by
    have e : TL.spl [32] 0 acc (c :: l) = if TL.pre [32] (c :: l) = true then acc :: TL.spl [32] 0 [] l else TL.spl [32] 0 (acc ++ [c]) l := rfl
    have ep : TL.pre [32] (c :: l) = decide (c = 32) := by
      by_cases h : c = 32
      · subst h
        exact TL.pre_self [32] l
      · rw [decide_eq_false h]
        exact TL.pre_of_head [] l h
    rw [e, ep]
    unfold wds
    by_cases h : c = 32
    · rw [if_pos (decide_eq_true h), if_pos h, List.filter_cons]
      by_cases ha : acc = []
      · rw [if_neg (by simpa using ha), if_pos ha]
        exact wds_spl l []
      · rw [if_pos (decide_eq_true ha), if_neg ha, wds_spl l []]
    · rw [if_neg (by simpa using h), if_neg h]
      exact wds_spl l _
theorem emp_iff {w : Str} : w = "" ↔ TL.tl w = [] := ⟨fun h => by rw [h]; rfl, fun h => cd_ext (by show TL.tl w = _; rw [h]; rfl)⟩
theorem words_wds (z : Str) : (wordsOf z).map TL.tl = wds [] (TL.tl z) := by
  have q := TL.split_spl z " " (by decide +kernel) (TL.kind_ok (by decide +kernel))
  have e : TL.tl (" " : Str) = [32] := by decide +kernel
  rw [e] at q
  rw [← wds_spl, ← q, List.filter_map]
  unfold wordsOf
  congr 1
  refine List.filter_congr fun w _ => ?_
  show decide (w ≠ "") = decide (TL.tl w ≠ [])
  exact decide_eq_decide.mpr (not_congr emp_iff)
theorem wds_word : ∀ (w acc l : List Nat), (32 : Nat) ∉ w → wds acc (w ++ l) = wds (acc ++ w) l
  | [], acc, l, _ => by rw [List.append_nil]; rfl
  | c :: w, acc, l, h => by
    have hc : c ≠ 32 := fun e => h (e ▸ List.mem_cons_self)
    show wds acc (c :: (w ++ l)) = _
    conv => lhs; unfold wds
    rw [if_neg hc, wds_word w _ l (fun q => h (List.mem_cons_of_mem _ q)), List.append_assoc]
    rfl
theorem wds_gap : ∀ (k : Nat) (acc l : List Nat), acc ≠ [] → wds acc (List.replicate (k + 1) 32 ++ l) = acc :: wds [] (List.replicate k 32 ++ l)
  | k, acc, l, h => by
    rw [List.replicate_succ]
    show wds acc (32 :: (List.replicate k 32 ++ l)) = _
    conv => lhs; unfold wds
    rw [if_pos rfl, if_neg h]
theorem wds_lead : ∀ (k : Nat) (l : List Nat), wds [] (List.replicate k 32 ++ l) = wds [] l
  | 0, l => rfl
  | k + 1, l => by
    rw [List.replicate_succ]
    show wds [] (32 :: (List.replicate k 32 ++ l)) = _
    conv => lhs; unfold wds
    rw [if_pos rfl, if_pos rfl]
    exact wds_lead k l
theorem wds_tail (k : Nat) {acc : List Nat} (h : acc ≠ []) : wds acc (List.replicate k 32) = [acc] := by
  cases k with
  | zero =>
    show wds acc [] = _
    unfold wds
    rw [if_neg h]
  | succ k =>
    have e := wds_gap k acc [] h
    rw [List.append_nil, List.append_nil] at e
    have z := wds_lead k []
    rw [List.append_nil] at z
    rw [e, z]
    rfl
/-- so many blanks -/
def gapS (k : Nat) : Str := ⟨(List.replicate k 32).toArray⟩
theorem tl_gap (k : Nat) : TL.tl (gapS k) = List.replicate k 32 := rfl
def wordB (z : Str) : Prop := TL.tl z ≠ [] ∧ (32 : Nat) ∉ TL.tl z ∧ (10 : Nat) ∉ TL.tl z
theorem words_one {w : Str} (h : wordB w) (a b : Nat) : wordsOf ((gapS a ++ w) ++ gapS b) = [w] := by
  refine TL.map_tl_inj ?_
  rw [words_wds, TL.tl_append, TL.tl_append, tl_gap, tl_gap, List.append_assoc, wds_lead, wds_word _ _ _ h.2.1, List.nil_append, wds_tail b h.1]
  rfl
theorem words_three {u v w : Str} (hu : wordB u) (hv : wordB v) (hw : wordB w) (a b g k : Nat) : wordsOf ((gapS a ++ ((((u ++ gapS (g + 1)) ++ v) ++ gapS (k + 1)) ++ w)) ++ gapS b) = [u, v, w] := by
  refine TL.map_tl_inj ?_
  rw [words_wds]
  simp only [TL.tl_append, tl_gap, List.append_assoc]
  rw [wds_lead, wds_word _ _ _ hu.2.1, List.nil_append, wds_gap _ _ _ hu.1, wds_lead, wds_word _ _ _ hv.2.1, List.nil_append, wds_gap _ _ _ hv.1, wds_lead, wds_word _ _ _ hw.2.1, List.nil_append, wds_tail b hw.1]
  rfl
theorem words_bare (a : Nat) : wordsOf (gapS a) = [] := by
  refine TL.map_tl_inj ?_
  rw [words_wds, tl_gap]
  have z := wds_lead a []
  rw [List.append_nil] at z
  rw [z]
  rfl
theorem nl_gap (k : Nat) : (10 : Nat) ∉ TL.tl (gapS k) := fun h => by
  rw [tl_gap] at h
  exact absurd (List.eq_of_mem_replicate h) (by decide)
end Jd
namespace Jd
open PySem PySem.Spec PyProof.Rows L2
/-! ### lists, few -/
theorem Keep.seqT {K : PySem.W.Frag} {u : Addr} {H H' : Hp} (k : Keep u H H') {a : Addr} {xs ys : List V} (h : SqT K H a xs) (hu : H u = some (.lst ys)) : SqT K H' a xs := by
  rcases h with (h | ⟨o, h⟩) | h
  · exact .inl (.inl (k _ _ (ne_of h hu (by intro z; cases z)) h))
  · exact .inl (.inr ⟨o, k _ _ (ne_of h hu (by intro z; cases z)) h⟩)
  · exact .inr h
theorem at_last {α : Type} {l : List α} {x y : α} {j : Nat} (h : (l ++ [x])[j]? = some y) : l[j]? = some y ∨ (j = l.length ∧ y = x) := by
  by_cases hj : j < l.length
  · rw [List.getElem?_append_left hj] at h
    exact .inl h
  · rw [List.getElem?_append_right (by omega)] at h
    have j0 : j - l.length = 0 := by
      rcases Nat.eq_zero_or_pos (j - l.length) with z | z
      · exact z
      · rw [List.getElem?_eq_none (by show 1 ≤ _; omega)] at h
        cases h
    rw [j0] at h
    cases h
    exact .inr ⟨by omega, rfl⟩
end Jd
namespace Jd
open PySem PySem.Spec PyProof.Rows L2
/-! ### book -/
def pool7 : List Str := ["a", "city", "item", "lot", "shop", "user", "zzzzzzzz"]
theorem pool_nd : pool7.Nodup := by decide +kernel
theorem idx_at : ∀ {ns : List Str} {i : Nat} {z : Str}, ns.Nodup → ns[i]? = some z → ns.idxOf z = i
  | [], _, _, _, h => by cases h
  | x :: r, 0, z, _, h => by
    cases h
    exact List.idxOf_cons_self
  | x :: r, i + 1, z, nd, h => by
    obtain ⟨n1, n2⟩ := List.nodup_cons.mp nd
    have hz : z ∈ r := List.mem_of_getElem? (show r[i]? = some z from h)
    have ne : x ≠ z := fun e => n1 (e ▸ hz)
    have hb : (x == z) = false := by
      cases e : (x == z) with
      | false => rfl
      | true => exact absurd (eq_of_beq e) ne
    rw [List.idxOf_cons, hb, idx_at n2 (show r[i]? = some z from h)]
    rfl
structure Book (ns : List Str) (R : List (Str × Str)) : Prop where
  nd : ns.Nodup
  so : sortedS ns = true
  l1 : 1 ≤ ns.length
  l5 : ns.length ≤ 5
  pool : ∀ z ∈ ns, z ∈ pool7
  rnd : R.Nodup
  r1 : ∀ p ∈ R, p.1 ∈ ns
  r2 : ∀ p ∈ R, p.2 ∈ ns
  rk : ∃ rk : Str → Nat, (∀ p ∈ R, rk p.1 < rk p.2) ∧ ∀ p ∈ R, rk p.2 ≤ ns.length
  rl : R.length ≤ 20
def loP (st : Int) (p : Str × Str) : Str := if st = 1 then p.1 else p.2
def hiP (st : Int) (p : Str × Str) : Str := if st = 1 then p.2 else p.1
def mkP (st : Int) (a b : Str) : Str × Str := if st = 1 then (a, b) else (b, a)
theorem lo_mk (st : Int) (a b : Str) : loP st (mkP st a b) = a := by
  unfold loP mkP
  by_cases h : st = 1
  · rw [if_pos h, if_pos h]
  · rw [if_neg h, if_neg h]
theorem hi_mk (st : Int) (a b : Str) : hiP st (mkP st a b) = b := by
  unfold hiP mkP
  by_cases h : st = 1
  · rw [if_pos h, if_pos h]
  · rw [if_neg h, if_neg h]
structure PkI (ns : List Str) (st : Int) (R : List (Str × Str)) (i j : Nat) : Prop where
  nd : R.Nodup
  mem : ∀ p ∈ R, loP st p ∈ ns ∧ hiP st p ∈ ns ∧ ns.idxOf (loP st p) < ns.idxOf (hiP st p) ∧ (ns.idxOf (loP st p) < i ∨ (ns.idxOf (loP st p) = i ∧ ns.idxOf (hiP st p) < j))
  len : R.length ≤ 4 * i + (j - (i + 1))
theorem PkI.zero {ns : List Str} {st : Int} : PkI ns st [] 0 1 := ⟨List.nodup_nil, (fun p h => by cases h), Nat.zero_le _⟩
theorem PkI.add {ns : List Str} {st : Int} {R : List (Str × Str)} {i j : Nat} {a b : Str} (h : PkI ns st R i j) (nd : ns.Nodup) (ha : ns[i]? = some a) (hb : ns[j]? = some b) (hij : i < j) : PkI ns st (R ++ [mkP st a b]) i (j + 1) := by
  have ea := idx_at nd ha
  have eb := idx_at nd hb
  refine ⟨List.nodup_append.mpr ⟨h.nd, List.nodup_cons.mpr ⟨List.not_mem_nil, List.nodup_nil⟩, fun p hp q hq e => ?_⟩, fun p hp => ?_, ?_⟩
  · rw [List.mem_singleton.mp hq] at e
    subst e
    obtain ⟨_, _, _, z⟩ := h.mem _ hp
    rw [lo_mk, hi_mk, ea, eb] at z
    omega
  · rcases List.mem_append.mp hp with hp | hp
    · obtain ⟨h1, h2, h3, h4⟩ := h.mem p hp
      exact ⟨h1, h2, h3, by omega⟩
    · rw [List.mem_singleton.mp hp, lo_mk, hi_mk, ea, eb]
      exact ⟨List.mem_of_getElem? ha, List.mem_of_getElem? hb, hij, .inr ⟨rfl, Nat.lt_succ_self _⟩⟩
  · rw [List.length_append]
    have := h.len
    show R.length + 1 ≤ _
    omega
theorem PkI.skip {ns : List Str} {st : Int} {R : List (Str × Str)} {i j : Nat} (h : PkI ns st R i j) : PkI ns st R i (j + 1) := ⟨h.nd, fun p hp => by
  obtain ⟨h1, h2, h3, h4⟩ := h.mem p hp
  exact ⟨h1, h2, h3, by omega⟩, by have := h.len; omega⟩
theorem PkI.next {ns : List Str} {st : Int} {R : List (Str × Str)} {i : Nat} (h : PkI ns st R i ns.length) (l5 : ns.length ≤ 5) : PkI ns st R (i + 1) (i + 2) := ⟨h.nd, fun p hp => by
  obtain ⟨h1, h2, h3, h4⟩ := h.mem p hp
  exact ⟨h1, h2, h3, by omega⟩, by have := h.len; omega⟩
theorem PkI.book {ns : List Str} {st : Int} {R : List (Str × Str)} {i j : Nat} (h : PkI ns st R ns.length j) (hj : j ≤ ns.length + 1) (nd : ns.Nodup) (so : sortedS ns = true) (l1 : 1 ≤ ns.length) (l5 : ns.length ≤ 5) (pool : ∀ z ∈ ns, z ∈ pool7) : Book ns R := by
  have lt : ∀ z ∈ ns, ns.idxOf z < ns.length := fun z hz => List.idxOf_lt_length_of_mem hz
  refine ⟨nd, so, l1, l5, pool, h.nd, fun p hp => ?_, fun p hp => ?_, ?_, by have := h.len; omega⟩
  · obtain ⟨h1, h2, _⟩ := h.mem p hp
    unfold loP at h1
    unfold hiP at h2
    split at h1
    · exact h1
    · rename_i q
      rw [if_neg q] at h2
      exact h2
  · obtain ⟨h1, h2, _⟩ := h.mem p hp
    unfold loP at h1
    unfold hiP at h2
    split at h2
    · exact h2
    · rename_i q
      rw [if_neg q] at h1
      exact h1
  · by_cases e : st = 1
    · refine ⟨fun z => ns.idxOf z, fun p hp => ?_, fun p hp => ?_⟩
      · obtain ⟨_, _, h3, _⟩ := h.mem p hp
        unfold loP hiP at h3
        rw [if_pos e, if_pos e] at h3
        exact h3
      · obtain ⟨_, h2, _, _⟩ := h.mem p hp
        unfold hiP at h2
        rw [if_pos e] at h2
        exact Nat.le_of_lt (lt _ h2)
    · refine ⟨fun z => ns.length - ns.idxOf z, fun p hp => ?_, fun p hp => Nat.sub_le _ _⟩
      obtain ⟨h1, h2, h3, _⟩ := h.mem p hp
      unfold loP hiP at h3
      unfold hiP at h2
      rw [if_neg e] at h2
      rw [if_neg e, if_neg e] at h3
      have := lt _ h2
      show ns.length - ns.idxOf p.1 < ns.length - ns.idxOf p.2
      omega
theorem cut_from (xs : List V) (k : Nat) : cutV xs (some (k : Int)) none = xs.drop (min k xs.length) := by
  unfold cutV
  rw [HT.sIx_nat, HT.sIx_none]
  rw [List.take_of_length_le (by rw [List.length_drop]; exact Nat.le_refl _)]
theorem free_of {u b : Addr} {H H' : Hp} {o : HO} (k : Keep u H H') (hu : H' u = some o) (h : H' b = none) : H b = none := by
  by_cases e : b = u
  · rw [e, hu] at h
    cases h
  · exact k.none h e
def spBook : Sp := fun vs H Q _ => ∃ (u : Addr) (m : Int) (n : Nat), vs = [.ref u, .int m] ∧ Urn H u n ∧ n < 90000 ∧ 0 < m ∧ m ≤ 5 ∧
  ∀ (ns : List Str) (R : List (Str × Str)) (t f g : Addr) (qs : List Addr) (H' : Hp), Book ns R → Urn H' u (n + 40) → Keep u H H' → H t = none → H f = none → H g = none → (∀ q ∈ qs, H q = none) → H' t = some (.tup [.ref f, .ref g]) → H' f = some (.tup (ns.map V.str)) → H' g = some (.tup (qs.map V.ref)) → PrAt H' qs R → Q (.ref t) H'
section
variable {P : Program} {w : World} {K : PySem.W.Frag} {mg : Str → Option Value} {base : Heap}
abbrev NBk : List Str := ["_law_urn", "_law_most_so", "_law_pool", "_law_flats", "_law_pairs_so", "_law_style", "_law_k", "_law_own", "_law_far"]
theorem sc_bk : FnScope NBk ["_law_urn", "_law_most_so"] (defScope s__law_book) := ⟨rfl, rfl, rfl, by decide +kernel, rfl, by decide +kernel, by decide +kernel⟩
theorem ok_book (B : Bk K mg) : Df P w K mg base CX0 3 "_law_book" ["_law_urn", "_law_most_so"] spBook := by
  obtain ⟨fd, F⟩ := B.F_law_book
  obtain ⟨fdT, GT, bT⟩ := (ok_law_take (P := P) (w := w) (base := base) B).ex
  have kT := (ok_law_take (P := P) (w := w) (base := base) B).kp
  obtain ⟨fdM, GM, bM⟩ := (ok_law_mixed (P := P) (w := w) (base := base) B).ex
  have kM := (ok_law_mixed (P := P) (w := w) (base := base) B).kp
  refine ⟨⟨fd, ?_, F.binds fun _ _ _ _ _ _ us hl => match us, hl with | [_, _], _ => rfl⟩, B.g_law_book, F.kp⟩
  refine F.ok sc_bk (fun vs H Q E h => ?_) (fun cdv A outer s H vs Q E hr h => ?_)
  · obtain ⟨_, _, _, rfl, _⟩ := h
    rfl
  · obtain ⟨u, m, n, rfl, hu, hn, m0, m5, k⟩ := h
    have hr1 : Room 1 _ := hr.mono (by decide)
    refine ⟨_, pss_cons (ps_set (i := 2) sc_bk.nd rfl (Or.inl rfl) (pe_callTy call_list_of (by rfl) B.b_list (by decide +kernel) (pa_cons (pe_call GM hr rfl B.g_law_mixed kM bM .nil pass0 (pa_cons (pv 0) (pa_cons (pe_lst (pa_cons pe_str (pa_cons pe_str (pa_cons pe_str (pa_cons pe_str (pa_cons pe_str (pa_cons pe_str (pa_cons pe_str pa_nil)))))))) pa_nil))) pa_nil)))
      (pss_cons (ps_par3 (i := 3) (j := 4) (l := 5) (by rfl) sc_bk.nd rfl rfl rfl (by decide) (by decide) (by decide) rfl rfl rfl
        (pa_cons (pe_callB cr_sortedS (by rfl) B.b_sorted (by decide +kernel) (pa_cons (pe_lc (own := [("_law_own", 7)]) (g := gName 7) (tt := tYes) rfl sc_bk.nd (pi_list (pe_slice sl_list (pv 2) po_none (po_some (pe_op op_add pe_int (pe_call GT hr1 rfl B.g_law_take kT bT .nil pass0 (pa_cons (pv 0) (pa_cons (pv 1) pa_nil)))))))
            (blkOk_by (N := NBk) (sc := defScope s__law_book) (by decide +kernel)) (fun _ _ _ _ _ => pg_name (i := 7) sc_bk.nd rfl (Or.inl rfl)) (fun _ _ _ _ _ => pts_nil) (fun _ _ _ _ _ => pe_callTy SkE.call_str_str (by rfl) B.b_str (by decide +kernel) (pa_cons (pv 7) pa_nil))) pa_nil))
          (pa_cons (pe_lst pa_nil) (pa_cons (pe_call GT hr1 rfl B.g_law_take kT bT .nil pass0 (pa_cons (pv 0) (pa_cons pe_int pa_nil))) pa_nil))) (by rfl))
      (pss_cons (ps_for PassesOwn.never rfl (pi_enum (by rfl) B.b_enumerate (pa_cons (pv 3) pa_nil)) (pg_tup rfl (pgs_cons (pg_name (i := 6) sc_bk.nd rfl (.inl rfl)) (pgs_cons (pg_name (i := 7) sc_bk.nd rfl (.inl rfl)) pgs_nil)))
        (pss_one (ps_for PassesOwn.never rfl (pi_list (pe_slice sl_list (pv 3) (po_some (pe_op op_add (pv 6) pe_int)) po_none)) (pg_name (i := 8) sc_bk.nd rfl (.inl rfl))
          (pss_one (ps_if (PW.pt (pw_and (pt_cmpR op_gt (pv 5) pe_int (nomark _)) (pw_and1 (pt_cmpR op_eq (pe_call GT hr1 rfl B.g_law_take kT bT .nil pass0 (pa_cons (pv 0) (pa_cons pe_int pa_nil))) pe_int (nomark _)))))
            (pss_one (ps_expr (pe_bm PySem.F.plainAttrs_list PySem.F.slot_list_append PySem.F.type_list_append mt_append (pv 4) (pa_cons (pe_cut (pe_ifExp (pt_cmpR op_eq (pv 5) pe_int (nomark _)) (pe_tup (pa_cons (pv 7) (pa_cons (pv 8) pa_nil))) (pe_tup (pa_cons (pv 8) (pa_cons (pv 7) pa_nil))))) pa_nil)))) pss_nil)))))
      (pss_one (ps_ret (pe_tup (pa_cons (pe_callTy call_tuple_of (by rfl) B.b_tuple (by decide +kernel) (pa_cons (pv 3) pa_nil)) (pa_cons (pe_callTy call_tuple_of (by rfl) B.b_tuple (by decide +kernel) (pa_cons (pv 4) pa_nil)) pa_nil))))))), ?_⟩
    obtain ⟨ua, ub, uc, hu0, _⟩ := id hu
    refine ⟨_, rfl, (by show 7 ≤ sizeLine; decide), fun p hp => ⟨u, p, pool7.map V.str, n, rfl, hu.same (Same_new hp), (by show n + 7 < 100000; omega), .inl (SqL.of upd_same), (by decide), fun ys t H1 pm hu1 kp1 nt ht => ?_⟩⟩
    obtain ⟨zs, rfl, pz⟩ := nodup_perm_map pm
    have ndz : zs.Nodup := pz.nodup_iff.mpr pool_nd
    have kp0 : Keep u H H1 := (Same.keep (Same_new hp)).trans kp1
    refine ⟨t, _, rfl, .inr (SqT.of ht), fun L nL => ?_⟩
    have nLH : H L = none := by
      obtain ⟨a, b, c, h3, _⟩ := hu1
      exact free_of kp0 h3 nL
    have nLu : L ≠ u := fun e => by rw [e, hu0] at nLH; cases nLH
    have kp2 : Keep u H (upd H1 L (.lst (zs.map V.str))) := Keep_lay kp0 nLH
    have hu2 : Urn (upd H1 L (.lst (zs.map V.str))) u (n + 7) := hu1.same (Same_new nL)
    refine ⟨_, rfl, _, rfl, _, rfl, u, m, n + 7, rfl, hu2, by omega, m0, by omega, fun r H3 r0 r1 hu3 kp3 => ?_⟩
    have hL3 : H3 L = some (.lst (zs.map V.str)) := kp3 _ _ nLu upd_same
    refine ⟨_, _, rfl, rfl, _, rfl, L, _, rfl, SqL.of hL3, fun q hq => ⟨q, rfl, ⟨_, SqL.of upd_same⟩, fun D hD => ?_⟩⟩
    have ec : cutV (zs.map V.str) Option.none (some ((fun i j => i + j) (1 : Int) r)) = (zs.take (1 + r.toNat)).map V.str := by
      have e : ((fun i j => i + j) (1 : Int) r) = ((1 + r.toNat : Nat) : Int) := by
        show 1 + r = _
        omega
      rw [e, cut_to, List.map_take]
    have zl : 1 ≤ (zs.take (1 + r.toNat)).length ∧ (zs.take (1 + r.toNat)).length ≤ 5 := by
      rw [List.length_take, pz.length_eq]
      have : pool7.length = 7 := rfl
      omega
    have ndx : (zs.take (1 + r.toNat)).Nodup := ndz.sublist (List.take_sublist _ _)
    have xin : ∀ z ∈ zs.take (1 + r.toNat), z ∈ pool7 := fun z h => pz.mem_iff.mp (List.mem_of_mem_take h)
    rw [ec] at hD ⊢
    generalize zs.take (1 + r.toNat) = xs at zl ndx xin hD
    obtain ⟨a3, b3, c3, hu3', _⟩ := id hu3
    have kq : Keep u H H3 := kp2.trans kp3
    have nqH : H q = none := free_of kq hu3' hq
    have kq1 : Keep u H (upd H3 q (.lst (xs.map V.str))) := Keep_lay kq nqH
    have huq : Urn (upd H3 q (.lst (xs.map V.str))) u (n + 8) := hu3.same (Same_new hq)
    refine lc_fm (walk_list (xs := xs.map V.str)) (fun i => (xs[i]?).map V.str) hD (by rw [List.length_map]; exact Nat.le_trans zl.2 (by decide)) (fun H' s' => sm_seqL s' (SqL.of upd_same)) (fun i x H4 H5 Kt Kf hi s4 y kt kf => ?_) (fun H4 s4 hD4 => ?_)
    · obtain ⟨rfl, hx⟩ := y
      obtain ⟨z, hz, rfl⟩ := at_str hx
      exact ⟨rfl, iteT (B := Kf H5) ⟨_, rfl, z, rfl, kt _ _ (by rw [hz]; rfl) (Same.refl _)⟩⟩
    · have e : (List.range (xs.map V.str).length).filterMap (fun i => (xs[i]?).map V.str) = xs.map V.str := by
        rw [List.length_map]
        exact fm_some (fun i x hx => by rw [hx]; rfl)
      rw [e] at hD4
      refine ⟨D, xs, rfl, SqL.of hD4, Nat.lt_of_le_of_lt zl.2 (by decide), fun ns fl pn so nf => ?_⟩
      have kf4 : Keep u H H4 := kq1.trans (Same.keep s4)
      have huf : Urn H4 u (n + 8) := huq.same s4
      obtain ⟨a4, b4, c4, hu4', _⟩ := id huf
      have nfH : H fl = none := free_of kf4 hu4' nf
      have nfu : fl ≠ u := fun e => by rw [e, hu0] at nfH; cases nfH
      have nd : ns.Nodup := pn.nodup_iff.mpr ndx
      have l1 : 1 ≤ ns.length := by rw [pn.length_eq]; exact zl.1
      have l5 : ns.length ≤ 5 := by rw [pn.length_eq]; exact zl.2
      have pool : ∀ z ∈ ns, z ∈ pool7 := fun z hz => xin z (pn.mem_iff.mp hz)
      refine ⟨Nat.zero_le _, fun W nW => ?_⟩
      have kW : Keep u H (upd H4 fl (.lst (ns.map V.str))) := Keep_lay kf4 nfH
      have huW : Urn (upd H4 fl (.lst (ns.map V.str))) u (n + 8) := huf.same (Same_new nf)
      obtain ⟨a5, b5, c5, hu5', _⟩ := id huW
      have nWH : H W = none := free_of kW hu5' nW
      have nWu : W ≠ u := fun e => by rw [e, hu0] at nWH; cases nWH
      have nWf : W ≠ fl := fun e => by rw [e, upd_same] at nW; cases nW
      refine ⟨_, rfl, u, 3, n + 8, rfl, huW.same (Same_new nW), by omega, by decide, by decide, fun st H6 st0 st3 hu6 kp6 => ⟨_, _, _, rfl, ?_⟩⟩
      have kW6 : Keep u H H6 := (Keep_lay kW nWH).trans kp6
      have hf6 : H6 fl = some (.lst (ns.map V.str)) := kp6 _ _ nfu (by rw [upd_ne nWf.symm, upd_same])
      have hW6 : H6 W = some (.lst []) := kp6 _ _ nWu upd_same
      refine ⟨_, rfl, fl, _, rfl, SqL.of hf6, ?_⟩
      refine for_it (n := (ns.map V.str).length) walk_enum (fun i σ H' => ∃ (v6 v7 v8 : Option V) (qs : List Addr) (R : List (Str × Str)), σ = [some (.ref u), some (.int m), some (.ref L), some (.ref fl), some (.ref W), some (.int st), v6, v7, v8] ∧ Keep u H H' ∧ Urn H' u (n + 9 + 5 * i) ∧
          H' fl = some (.lst (ns.map V.str)) ∧ H' W = some (.lst (qs.map V.ref)) ∧ PrAt H' qs R ∧ (∀ q ∈ qs, H q = none) ∧ PkI ns st R i (i + 1))
        ⟨_, _, _, [], [], rfl, kW6, hu6, hf6, hW6, PrAt.nil, (fun q h => by cases h), PkI.zero⟩ (fun i σ H' _ ⟨_, _, _, _, _, _, _, _, e, _⟩ => SqL.of e) (fun i x σ H7 H8 hi ⟨v6, v7, v8, qs, R, e, k7, hu7, hf7, hW7, hp7, hq7, pk⟩ y => ?_) (fun σ H7 ⟨v6, v7, v8, qs, R, e, k7, hu7, hf7, hW7, hp7, hq7, pk⟩ => ?_)
      · obtain ⟨T, x1, x2, rfl, nT, rfl, e1, e2⟩ := y
        cases e1
        subst e
        obtain ⟨a, ha, rfl⟩ := at_str (show (ns.map V.str)[i]? = some x2 from e2)
        have hi' : i < ns.length := (List.getElem?_eq_some_iff.mp ha).1
        obtain ⟨a7, b7, c7, hu7', _⟩ := id hu7
        have nTH : H T = none := free_of k7 hu7' nT
        have sT := Same_new (o := HO.tup [V.int (i : Nat), V.str a]) nT
        refine ⟨_, _, rfl, SqT.of upd_same, rfl, _, _, rfl, _, _, rfl, rfl, ?_⟩
        have kT8 : Keep u H (upd H7 T (.tup [V.int (i : Nat), V.str a])) := Keep_lay k7 nTH
        have hu8 := hu7.same sT
        have hf8 := sT _ _ hf7
        have hW8 := sT _ _ hW7
        have hp8 := hp7.same sT
        generalize (upd H7 T (.tup [V.int (i : Nat), V.str a])) = H8 at kT8 hu8 hf8 hW8 hp8
        clear sT nT hu7 hf7 hW7 hp7 k7 hu7'
        refine ⟨_, rfl, _, rfl, _, _, rfl, rfl, _, rfl, fl, _, rfl, SqL.of hf8, fun sl nsl => ?_⟩
        have es : cutV (ns.map V.str) (some ((fun i j => i + j) (i : Int) (1 : Int))) Option.none = (ns.drop (i + 1)).map V.str := by
          have e : ((fun i j => i + j) (i : Int) (1 : Int)) = ((i + 1 : Nat) : Int) := by
            show (i : Int) + 1 = _
            omega
          rw [e, cut_from, List.map_drop, List.length_map, Nat.min_eq_left (by omega)]
        rw [es]
        obtain ⟨a8, b8, c8, hu8', _⟩ := id hu8
        have nsH : H sl = none := free_of kT8 hu8' nsl
        have nsu : sl ≠ u := fun e => by rw [e, hu0] at nsH; cases nsH
        have sS := Same_new (o := HO.lst ((ns.drop (i + 1)).map V.str)) nsl
        refine ⟨sl, rfl, ⟨_, SqL.of upd_same⟩, ?_⟩
        have nsf : sl ≠ fl := fun e => by rw [e, hf8] at nsl; cases nsl
        have nsW : sl ≠ W := fun e => by rw [e, hW8] at nsl; cases nsl
        refine for_it (n := ((ns.drop (i + 1)).map V.str).length) (walk_list (xs := (ns.drop (i + 1)).map V.str)) (fun j σ H' => ∃ (v8 : Option V) (qs : List Addr) (R : List (Str × Str)), σ = [some (.ref u), some (.int m), some (.ref L), some (.ref fl), some (.ref W), some (.int st), some (.int i), some (.str a), v8] ∧ Keep u H H' ∧ Urn H' u (n + 9 + 5 * i + j) ∧
            H' fl = some (.lst (ns.map V.str)) ∧ H' W = some (.lst (qs.map V.ref)) ∧ H' sl = some (.lst ((ns.drop (i + 1)).map V.str)) ∧ PrAt H' qs R ∧ (∀ q ∈ qs, H q = none) ∧ PkI ns st R i (i + 1 + j))
          ⟨_, qs, R, rfl, Keep_lay kT8 nsH, hu8.same sS, sS _ _ hf8, sS _ _ hW8, upd_same, hp8.same sS, hq7, pk⟩ (fun j σ H' _ ⟨_, _, _, _, _, _, _, _, e, _⟩ => SqL.of e) (fun j x σ H9 HA hj ⟨w8, qs, R, e, k9, hu9, hf9, hW9, hs9, hp9, hq9, pk9⟩ y => ?_) (fun σ H9 ⟨w8, qs, R, e, k9, hu9, hf9, hW9, hs9, hp9, hq9, pk9⟩ => ?_)
        · obtain ⟨rfl, hx⟩ := y
          subst e
          obtain ⟨b, hb, rfl⟩ := at_str hx
          rw [List.getElem?_drop] at hb
          have hj' : i + 1 + j < ns.length := (List.getElem?_eq_some_iff.mp hb).1
          refine ⟨_, rfl, _, _, rfl, rfl, _, rfl, two (fun h1 => ?_) (fun h1 => ?_)⟩
          · refine ⟨_, rfl, u, 4, n + 9 + 5 * i + j, rfl, hu9, by omega, by decide, by decide, fun r2 HB r20 r24 huB kB => ⟨rfl, _, rfl, ?_⟩⟩
            have kB1 : Keep u H HB := k9.trans kB
            have hfB := kB _ _ nfu hf9
            have hWB := kB _ _ nWu hW9
            have hsB := kB _ _ nsu hs9
            obtain ⟨a9, b9, c9, hu9', _⟩ := id hu9
            have hpB : PrAt HB qs R := ⟨hp9.1, fun i' q hq => let ⟨pr, e1, e2⟩ := hp9.2 i' q hq; ⟨pr, e1, kB _ _ (ne_of e2 hu9' (by intro z; cases z)) e2⟩⟩
            refine two (fun h2 => ?_) (fun h2 => ⟨_, qs, R, rfl, kB1, huB, hfB, hWB, hsB, hpB, hq9, pk9.skip⟩)
            obtain ⟨aB, bB, cB, huB', _⟩ := id huB
            refine ⟨_, rfl, .inl ⟨rfl, _, SqL.of hWB⟩, ?_⟩
            refine ⟨fun x H' => ∃ q, x = .ref q ∧ HB q = none ∧ H' = upd HB q (.tup [.str (mkP st a b).1, .str (mkP st a b).2]), ?_, ?_⟩
            · refine ⟨_, rfl, rfl, _, rfl, two (fun h3 => ?_) (fun h3 => ?_)⟩
              · have e3 : st = 1 := V.int.inj (of_decide_eq_true h3)
                refine ⟨_, rfl, _, rfl, (by show 2 ≤ sizeLine; decide), fun q nq => ⟨q, rfl, nq, ?_⟩⟩
                unfold mkP
                rw [if_pos e3]
              · have e3 : ¬ st = 1 := fun z => of_decide_eq_false h3 (by rw [z])
                refine ⟨_, rfl, _, rfl, (by show 2 ≤ sizeLine; decide), fun q nq => ⟨q, rfl, nq, ?_⟩⟩
                unfold mkP
                rw [if_neg e3]
            · rintro x H' ⟨q, rfl, nq, rfl⟩
              have sq := Same_new (o := HO.tup [V.str (mkP st a b).1, V.str (mkP st a b).2]) nq
              have nqH' : H q = none := free_of kB1 huB' nq
              have nqW : q ≠ W := fun z => by rw [z, hWB] at nq; cases nq
              have lq : qs.length < sizeLine := by
                have z := hp9.1
                have z2 := pk9.len
                have : (1000 : Nat) < sizeLine := by decide
                omega
              refine ⟨W, _, _, rfl, rfl, sq _ _ hWB, by rw [List.length_map]; exact lq, ?_⟩
              refine ⟨_, qs ++ [q], R ++ [mkP st a b], rfl, Keep_lay (Keep_lay kB1 nqH') nWH, ?_, ?_, ?_, ?_, ?_, ?_, ?_⟩
              · exact ⟨aB, bB, cB, by rw [upd_ne nWu.symm]; exact sq _ _ huB', by
                  obtain ⟨x1, x2, x3, y1, y2⟩ := huB
                  rw [huB'] at y1
                  cases y1
                  exact y2⟩
              · rw [upd_ne nWf.symm]
                exact sq _ _ hfB
              · rw [upd_same, List.map_append]
                rfl
              · rw [upd_ne nsW]
                exact sq _ _ hsB
              · refine PrAt.snoc ⟨hpB.1, fun i' q' hq' => ?_⟩ (by rw [upd_ne nqW, upd_same])
                obtain ⟨pr, e1, e2⟩ := hpB.2 i' q' hq'
                exact ⟨pr, e1, by rw [upd_ne (ne_of e2 hWB (by intro z; cases z))]; exact sq _ _ e2⟩
              · intro q' hq'
                rcases List.mem_append.mp hq' with hq' | hq'
                · exact hq9 q' hq'
                · rw [List.mem_singleton.mp hq']
                  exact nqH'
              · exact pk9.add nd ha hb (by omega)
          · refine iteF ⟨_, qs, R, rfl, k9, hu9.le (by omega), hf9, hW9, hs9, hp9, hq9, pk9.skip⟩
        · subst e
          have lj : ((ns.drop (i + 1)).map V.str).length ≤ 4 := by
            rw [List.length_map, List.length_drop]
            omega
          refine ⟨_, _, _, qs, R, rfl, k9, hu9.le (by omega), hf9, hW9, hp9, hq9, ?_⟩
          have el : i + 1 + ((ns.drop (i + 1)).map V.str).length = ns.length := by
            rw [List.length_map, List.length_drop]
            omega
          rw [el] at pk9
          exact pk9.next l5
      · subst e
        rw [List.length_map] at hu7 pk
        obtain ⟨a7, b7, c7, hu7', _⟩ := id hu7
        refine ⟨_, rfl, fl, _, rfl, .inl ⟨SqL.of hf7, fun f nf' => ?_⟩⟩
        have sf := Same_new (o := HO.tup (ns.map V.str)) nf'
        have nfH' : H f = none := free_of k7 hu7' nf'
        refine ⟨_, rfl, W, _, rfl, .inl ⟨SqL.of (sf _ _ hW7), fun g ng => ?_⟩⟩
        have sg := Same_new (o := HO.tup (qs.map V.ref)) ng
        have k8 := Keep_lay (o := HO.tup (ns.map V.str)) k7 nfH'
        have ngH : H g = none := free_of k8 (sf _ _ hu7') ng
        refine ⟨(by show 2 ≤ sizeLine; decide), fun t' nt' => ?_⟩
        have k9 := Keep_lay (o := HO.tup (qs.map V.ref)) k8 ngH
        have ntH : H t' = none := free_of k9 (sg _ _ (sf _ _ hu7')) nt'
        have st' := Same_new (o := HO.tup [V.ref f, V.ref g]) nt'
        exact k ns R t' f g qs _ (pk.book (i := 0) (Nat.le_refl _) nd so l1 l5 pool) (((hu7.same sf).same sg).same st' |>.le (by omega)) (Keep_lay k9 ntH) ntH nfH' ngH hq7 upd_same (st' _ _ (sg _ _ upd_same)) (st' _ _ upd_same) (((hp7.same sf).same sg).same st')
end
end Jd
namespace Jd
open PySem PySem.Spec PyProof.Rows L2
theorem fm_map {l : List Str} {f : Str → V} : (List.range l.length).filterMap (fun i => (l[i]?).map f) = l.map f := fm_some fun i x hx => by rw [hx]; rfl
end Jd
namespace Jd
/-! ### one telling more -/
section
variable {α : Type} [DecidableEq α]
theorem via_mem {R R' : List (α × α)} (h : ∀ p, p ∈ R → p ∈ R') {M : List α} {a b : α} (v : Via R M a b) : Via R' M a b := by
  induction v with
  | one q => exact .one (h _ q)
  | two _ m _ ih1 ih2 => exact .two ih1 m ih2
/-- there, or the same -/
def Upto (R : List (α × α)) (M : List α) (a b : α) : Prop := a = b ∨ Via R M a b
theorem upto_app {R : List (α × α)} {M : List α} {a m b : α} (hm : m ∈ M) (h : Upto R M a m) (g : Upto R M m b) : Upto R M a b := by
  rcases h with rfl | h
  · exact g
  · rcases g with rfl | g
    · exact .inr h
    · exact .inr (.two h hm g)
/-- what follows from one pair more -/
theorem via_more {R : List (α × α)} {M : List α} {o f : α} (ho : o ∈ M) (hf : f ∈ M) {a b : α} : Via (R ++ [(o, f)]) M a b ↔ Via R M a b ∨ (Upto R M a o ∧ Upto R M f b) := by
  constructor
  · intro v
    induction v with
    | one q =>
      rcases List.mem_append.mp q with q | q
      · exact .inl (.one q)
      · have e := List.mem_singleton.mp q
        cases e
        exact .inr ⟨.inl rfl, .inl rfl⟩
    | @two a m b _ hm _ ih1 ih2 =>
      rcases ih1 with l | ⟨l1, l2⟩
      · rcases ih2 with r | ⟨r1, r2⟩
        · exact .inl (.two l hm r)
        · exact .inr ⟨upto_app hm (.inr l) r1, r2⟩
      · rcases ih2 with r | ⟨r1, r2⟩
        · exact .inr ⟨l1, upto_app hm l2 (.inr r)⟩
        · exact .inr ⟨l1, r2⟩
  · have up : ∀ p, p ∈ R → p ∈ R ++ [(o, f)] := fun p h => List.mem_append.mpr (.inl h)
    have last : Via (R ++ [(o, f)]) M o f := .one (List.mem_append.mpr (.inr (List.mem_singleton.mpr rfl)))
    rintro (v | ⟨h, g⟩)
    · exact via_mem up v
    · have k : Via (R ++ [(o, f)]) M a f := by
        rcases h with rfl | h
        · exact last
        · exact .two (via_mem up h) ho last
      rcases g with rfl | g
      · exact k
      · exact .two k hf (via_mem up g)
theorem via_fst {R : List (α × α)} {ns M : List α} (h1 : ∀ p ∈ R, p.1 ∈ ns) {a b : α} (v : Via R M a b) : a ∈ ns := by
  induction v with
  | one q => exact h1 _ q
  | two _ _ _ ih _ => exact ih
/-- the ring that the law tells -/
def lawRing (ns : List α) (t : α → List α) (o f : α) : List α := (ns.filter fun n => decide (n = f ∨ n ∈ t f)).filter fun n => decide (n = o ∨ o ∈ t n)
theorem ring_more {R : List (α × α)} {ns : List α} {o f : α} (h2 : ∀ p ∈ R, p.2 ∈ ns) (ho : o ∈ ns) (hf : f ∈ ns) (nr : ∀ n ∈ ns, ¬ Via R ns n n) :
    (ns.filter fun n => decide (n ∈ toldOf (R ++ [(o, f)]) ns n)) = lawRing ns (toldOf R ns) o f := by
  unfold lawRing
  rw [List.filter_filter]
  refine List.filter_congr fun n hn => ?_
  rw [← Bool.decide_and]
  refine decide_eq_decide.mpr ?_
  rw [told_in, told_in, told_in, via_more ho hf]
  constructor
  · rintro ⟨_, v | ⟨g1, g2⟩⟩
    · exact absurd v (nr n hn)
    · refine ⟨?_, ?_⟩
      · rcases g1 with e | g1
        · exact .inl e
        · exact .inr ⟨ho, g1⟩
      · rcases g2 with e | g2
        · exact .inl e.symm
        · exact .inr ⟨hn, g2⟩
  · rintro ⟨h1, h2⟩
    refine ⟨hn, .inr ⟨?_, ?_⟩⟩
    · rcases h1 with e | ⟨_, h⟩
      · exact .inl e
      · exact .inr h
    · rcases h2 with e | ⟨_, h⟩
      · exact .inl e.symm
      · exact .inr h
theorem ring_bad {R : List (α × α)} {ns : List α} {o f : α} (ho : o ∈ ns) (hf : f ∈ ns) (hb : o = f ∨ o ∈ toldOf R ns f) : lawRing ns (toldOf R ns) o f ≠ [] := fun z => by
  have m : o ∈ lawRing ns (toldOf R ns) o f := by
    unfold lawRing
    refine List.mem_filter.mpr ⟨List.mem_filter.mpr ⟨ho, decide_eq_true ?_⟩, decide_eq_true (.inl rfl)⟩
    exact hb
  rw [z] at m
  cases m
theorem ring_fine {R : List (α × α)} {ns : List α} {o f : α} (h1 : ∀ p ∈ R, p.1 ∈ ns) (ho : o ∈ ns) (hf : f ∈ ns) (hb : ¬ (o = f ∨ o ∈ toldOf R ns f)) : lawRing ns (toldOf R ns) o f = [] := by
  cases e : lawRing ns (toldOf R ns) o f with
  | nil => rfl
  | cons n l =>
    exfalso
    have m : n ∈ lawRing ns (toldOf R ns) o f := by rw [e]; exact List.mem_cons_self
    unfold lawRing at m
    obtain ⟨m, k2⟩ := List.mem_filter.mp m
    obtain ⟨hn, k1⟩ := List.mem_filter.mp m
    have k1 := of_decide_eq_true k1
    have k2 := of_decide_eq_true k2
    rw [told_in] at k1 k2
    refine hb ?_
    rw [told_in]
    rcases k2 with rfl | ⟨_, k2⟩
    · rcases k1 with e | k1
      · exact .inl e
      · exact .inr k1
    · rcases k1 with rfl | ⟨_, k1⟩
      · exact .inr ⟨ho, k2⟩
      · exact .inr ⟨ho, .two k1 hn k2⟩
/-- without a ring the names have ranks -/
theorem rank_of {R : List (α × α)} {ns : List α} (h1 : ∀ p ∈ R, p.1 ∈ ns) (h2 : ∀ p ∈ R, p.2 ∈ ns) (nr : ∀ n ∈ ns, n ∉ toldOf R ns n) : ∃ rk : α → Nat, (∀ p ∈ R, rk p.1 < rk p.2) ∧ ∀ p ∈ R, rk p.2 ≤ ns.length := by
  have cnt : ∀ (p q : α → Bool) (l : List α) (x : α), x ∈ l → p x = false → q x = true → (∀ y, p y = true → q y = true) → (l.filter p).length < (l.filter q).length := by
    intro p q l x hx px qx h
    have le : ∀ l : List α, (l.filter p).length ≤ (l.filter q).length := by
      intro l
      induction l with
      | nil => exact Nat.le_refl _
      | cons y l ih =>
        rw [List.filter_cons, List.filter_cons]
        cases e : p y with
        | true =>
          rw [if_pos rfl, h y e, if_pos rfl]
          exact Nat.succ_le_succ ih
        | false =>
          rw [if_neg Bool.false_ne_true]
          split
          · exact Nat.le_succ_of_le ih
          · exact ih
    induction l with
    | nil => cases hx
    | cons y l ih =>
      rw [List.filter_cons, List.filter_cons]
      rcases List.mem_cons.mp hx with rfl | hx
      · rw [px, qx, if_neg Bool.false_ne_true, if_pos rfl]
        exact Nat.lt_succ_of_le (le l)
      · cases e : p y with
        | true =>
          rw [if_pos rfl, h y e, if_pos rfl]
          exact Nat.succ_lt_succ (ih hx)
        | false =>
          rw [if_neg Bool.false_ne_true]
          split
          · exact Nat.lt_succ_of_lt (ih hx)
          · exact ih hx
  refine ⟨fun b => (ns.filter fun a => decide (b ∈ toldOf R ns a)).length, fun p hp => ?_, fun p hp => List.length_filter_le _ _⟩
  refine cnt _ _ ns p.1 (h1 p hp) (decide_eq_false (nr _ (h1 p hp))) (decide_eq_true (told_in.mpr ⟨h2 p hp, .one hp⟩)) fun y hy => ?_
  have q := of_decide_eq_true hy
  rw [told_in] at q
  exact decide_eq_true (told_in.mpr ⟨h2 p hp, .two q.2 (h1 p hp) (.one hp)⟩)
/-- what follows from all that follows -/
theorem told_closed {R C : List (α × α)} {ns : List α} (h1 : ∀ p ∈ R, p.1 ∈ ns) (h2 : ∀ p ∈ R, p.2 ∈ ns) (hC : ∀ p, p ∈ C ↔ p.1 ∈ ns ∧ p.2 ∈ toldOf R ns p.1) : toldOf C ns = toldOf R ns := by
  funext a
  unfold toldOf
  refine List.filter_congr fun b hb => decide_eq_decide.mpr ?_
  rw [close_in, close_in]
  constructor
  · intro v
    induction v with
    | one q => exact (told_in.mp ((hC _).mp q).2).2
    | two v1 m v2 ih1 ih2 => exact .two (ih1 m) m (ih2 hb)
  · intro v
    exact .one ((hC (a, b)).mpr ⟨via_fst h1 v, told_in.mpr ⟨hb, v⟩⟩)
end
end Jd
namespace Jd
open PySem PySem.Spec PyProof.Rows L2
/-! ### rows of values, compared -/
inductive Item where
  | fl (v : V)
  | tf (xs : List Str)
  | tt (prs : List (Str × Str))
  | lt (xss : List (List Str))
def ItemAt (H : Hp) (v : V) : Item → Prop
  | .fl x => v = x ∧ FlatV x
  | .tf xs => ∃ a, v = .ref a ∧ H a = some (.tup (xs.map V.str)) ∧ xs.length < 1000
  | .tt prs => ∃ a qs, v = .ref a ∧ H a = some (.tup (qs.map V.ref)) ∧ PrAt H qs prs ∧ prs.length < 1000
  | .lt xss => ∃ (a : Addr) (qs : List Addr), v = .ref a ∧ H a = some (.lst (qs.map V.ref)) ∧ qs.length = xss.length ∧ xss.length < 1000 ∧ ∀ (i : Nat) (q : Addr), qs[i]? = some q → ∃ xs, xss[i]? = some xs ∧ H q = some (.tup (xs.map V.str)) ∧ xs.length < 1000
theorem ItemAt.same {H H' : Hp} {v : V} : ∀ {i : Item}, ItemAt H v i → Same H H' → ItemAt H' v i
  | .fl x, h, _ => h
  | .tf xs, ⟨a, e, h, l⟩, s => ⟨a, e, s _ _ h, l⟩
  | .tt prs, ⟨a, qs, e, h, p, l⟩, s => ⟨a, qs, e, s _ _ h, p.same s, l⟩
  | .lt xss, ⟨a, qs, e, h, l1, l2, p⟩, s => ⟨a, qs, e, s _ _ h, l1, l2, fun i q hq => let ⟨xs, e1, e2, e3⟩ := p i q hq; ⟨xs, e1, s _ _ e2, e3⟩⟩
abbrev ItemsAt (H : Hp) : List V → List Item → Prop := Paired (ItemAt H)
theorem items_same {H H' : Hp} (s : Same H H') : ∀ {vs : List V} {is : List Item}, ItemsAt H vs is → ItemsAt H' vs is
  | _, _, .nil => .nil
  | _, _, .cons q r => .cons (q.same s) (items_same s r)
theorem pr_app {α β : Type} {F : α → β → Prop} : ∀ {xs xs' : List α} {ys ys' : List β}, Paired F xs ys → Paired F xs' ys' → Paired F (xs ++ xs') (ys ++ ys')
  | _, _, _, _, .nil, h => h
  | _, _, _, _, .cons q r, h => .cons q (pr_app r h)
theorem pr_at {α β : Type} {F : α → β → Prop} : ∀ {xs : List α} {ys : List β} {i : Nat} {x : α}, Paired F xs ys → xs[i]? = some x → ∃ y, ys[i]? = some y ∧ F x y
  | _, _, 0, _, .cons q r, h => by
    cases h
    exact ⟨_, rfl, q⟩
  | _, _, i + 1, x, .cons q r, h => pr_at (i := i) r h
def ListAt (H : Hp) (a : Addr) (is : List Item) : Prop := ∃ vs, H a = some (.lst vs) ∧ ItemsAt H vs is
theorem ListAt.same {H H' : Hp} {a : Addr} {is : List Item} (h : ListAt H a is) (s : Same H H') : ListAt H' a is := by
  obtain ⟨vs, h1, h2⟩ := h
  exact ⟨vs, s _ _ h1, items_same s h2⟩
theorem sm_str {H : Hp} {n : Nat} {xs : List Str} {i : Nat} {u v : V} (h1 : (xs.map V.str)[i]? = some u) (h2 : (xs.map V.str)[i]? = some v) : Sm H n u v := by
  rw [h1] at h2
  cases h2
  obtain ⟨z, _, rfl⟩ := at_str h1
  exact Sm_flat trivial
theorem sm_tf {H : Hp} {n : Nat} {a b : Addr} {xs : List Str} (h1 : H a = some (.tup (xs.map V.str))) (h2 : H b = some (.tup (xs.map V.str))) (l : xs.length < 1000) : Sm H (n + 1) (.ref a) (.ref b) :=
  Or.inr ⟨a, b, _, _, rfl, rfl, rfl, by rw [List.length_map]; exact l, fun i u v e1 e2 => sm_str e1 e2, .inr ⟨h1, h2⟩⟩
theorem sm_item {H : Hp} {v w : V} : ∀ {i : Item}, ItemAt H v i → ItemAt H w i → Sm H 2 v w
  | .fl x, ⟨e1, f⟩, ⟨e2, _⟩ => by
    subst e1 e2
    exact Sm_flat f
  | .tf xs, ⟨a, e, h, l⟩, ⟨b, e', h', _⟩ => by
    subst e e'
    exact sm_tf h h' l
  | .tt prs, ⟨a, qs, e, h, p, l⟩, ⟨b, rs, e', h', p', _⟩ => by
    subst e e'
    refine Or.inr ⟨a, b, _, _, rfl, rfl, by rw [List.length_map, List.length_map, p.1, p'.1], by rw [List.length_map, p.1]; exact l, fun i u v e1 e2 => ?_, .inr ⟨h, h'⟩⟩
    obtain ⟨q, hq, rfl⟩ := at_ref e1
    obtain ⟨r, hr, rfl⟩ := at_ref e2
    obtain ⟨pr, k1, k2⟩ := p.2 i q hq
    obtain ⟨pr', k1', k2'⟩ := p'.2 i r hr
    rw [k1] at k1'
    cases k1'
    exact sm_tf (n := 0) (xs := [pr.1, pr.2]) k2 k2' (by show 2 < 1000; decide)
  | .lt xss, ⟨a, qs, e, h, l1, l2, p⟩, ⟨b, rs, e', h', l1', _, p'⟩ => by
    subst e e'
    refine Or.inr ⟨a, b, _, _, rfl, rfl, by rw [List.length_map, List.length_map, l1, l1'], by rw [List.length_map, l1]; exact l2, fun i u v e1 e2 => ?_, .inl ⟨h, h'⟩⟩
    obtain ⟨q, hq, rfl⟩ := at_ref e1
    obtain ⟨r, hr, rfl⟩ := at_ref e2
    obtain ⟨xs, k1, k2, k3⟩ := p i q hq
    obtain ⟨xs', k1', k2', k3'⟩ := p' i r hr
    rw [k1] at k1'
    cases k1'
    exact sm_tf (n := 0) k2 k2' k3
theorem sm_lists {H : Hp} {a b : Addr} {is : List Item} (h1 : ListAt H a is) (h2 : ListAt H b is) (l : is.length < 1000) : Sm H 3 (.ref a) (.ref b) := by
  obtain ⟨vs, e1, p1⟩ := h1
  obtain ⟨ws, e2, p2⟩ := h2
  refine Or.inr ⟨a, b, vs, ws, rfl, rfl, by rw [p1.length, p2.length], by rw [p1.length]; exact l, fun i u v k1 k2 => ?_, .inl ⟨e1, e2⟩⟩
  obtain ⟨x, q1, q2⟩ := pr_at p1 k1
  obtain ⟨y, q1', q2'⟩ := pr_at p2 k2
  rw [q1] at q1'
  cases q1'
  exact sm_item q2 q2'
end Jd
namespace Jd
open PySem PySem.Spec PyProof.Rows L2
/-! ### what right asks of Keys -/
theorem via_perm {R R' : List (Str × Str)} (h : ∀ p, p ∈ R' ↔ p ∈ R) {M : List Str} {a b : Str} (v : Via R' M a b) : Via R M a b := by
  induction v with
  | one q => exact .one ((h _).mp q)
  | two _ m _ ih1 ih2 => exact .two ih1 m ih2
theorem told_perm {R R' : List (Str × Str)} (h : R'.Perm R) (ns : List Str) : toldOf R' ns = toldOf R ns := by
  funext n
  unfold toldOf
  refine List.filter_congr fun b _ => decide_eq_decide.mpr ?_
  rw [close_in, close_in]
  exact ⟨via_perm fun p => h.mem_iff, via_perm fun p => h.mem_iff.symm⟩
theorem txAdd_nd {xs : List Str} {x : Str} (h : xs.Nodup) : (txAdd xs x).Nodup := by
  unfold txAdd
  split
  · exact h
  · rename_i q
    exact List.nodup_cons.mpr ⟨q, h⟩
theorem txAll_nd0 : ∀ (xs acc : List Str), acc.Nodup → (xs.foldl txAdd acc).Nodup
  | [], _, h => h
  | x :: r, acc, h => txAll_nd0 r _ (txAdd_nd h)
theorem perm_of_nd {l m : List Str} (hl : l.Nodup) (hm : m.Nodup) (h : ∀ z, z ∈ l ↔ z ∈ m) : l.Perm m := by
  rw [List.perm_iff_count]
  intro a
  rw [hl.count, hm.count]
  by_cases q : a ∈ l
  · rw [if_pos q, if_pos ((h a).mp q)]
  · rw [if_neg q, if_neg fun z => q ((h a).mpr z)]
theorem names_one {names ns : List Str} (nd : ns.Nodup) (so : sortedS ns = true) (h : ∀ z, z ∈ names ↔ z ∈ ns) : ∀ ns' : List Str, ns'.Perm (txAll names) → sortedS ns' = true → ns' = ns := fun ns' pm so' => by
  refine sorted_one (pm.trans (perm_of_nd (txAll_nd0 names [] List.nodup_nil) nd fun z => ?_)) so' so
  rw [← h z]
  have q := txAll_in names [] z
  exact ⟨fun e => (q.mp e).resolve_right List.not_mem_nil, fun e => q.mpr (.inl e)⟩
theorem names_len {names ns : List Str} (nd : ns.Nodup) (h : ∀ z, z ∈ names ↔ z ∈ ns) : (txAll names).length = ns.length := by
  refine (perm_of_nd (txAll_nd0 names [] List.nodup_nil) nd fun z => ?_).length_eq
  rw [← h z]
  have q := txAll_in names [] z
  exact ⟨fun e => (q.mp e).resolve_right List.not_mem_nil, fun e => q.mpr (.inl e)⟩
theorem pr_to {H : Hp} : ∀ {qs : List Addr} {prs : List (Str × Str)}, PrAt H qs prs → Paired (fun q (pr : Str × Str) => H q = some (.tup [.str pr.1, .str pr.2])) qs prs
  | [], [], _ => .nil
  | [], _ :: _, h => by
    have := h.1
    cases this
  | _ :: _, [], h => by
    have := h.1
    cases this
  | q :: qs, pr :: prs, h => by
    refine .cons ?_ (pr_to ⟨by have := h.1; simpa using this, fun i p hp => h.2 (i + 1) p hp⟩)
    obtain ⟨pr', e, z⟩ := h.2 0 q rfl
    cases e
    exact z
theorem paired_perm {α β : Type} {F : α → β → Prop} {zs qs : List α} (pm : zs.Perm qs) : ∀ {R : List β}, Paired F qs R → ∃ R' : List β, R'.Perm R ∧ Paired F zs R' := by
  induction pm with
  | nil => intro R h; cases h; exact ⟨[], .nil, .nil⟩
  | cons x _ ih =>
    intro R h
    cases h with
    | cons a b =>
      obtain ⟨R', p, q⟩ := ih b
      exact ⟨_ :: R', p.cons _, .cons a q⟩
  | swap x y l =>
    intro R h
    cases h with
    | cons a b =>
      cases b with
      | cons c d => exact ⟨_, List.Perm.swap _ _ _, .cons c (.cons a d)⟩
  | trans _ _ ih1 ih2 =>
    intro R h
    obtain ⟨R1, p1, q1⟩ := ih2 h
    obtain ⟨R2, p2, q2⟩ := ih1 q1
    exact ⟨R2, p2.trans p1, q2⟩
theorem KeysO.congr {K : PySem.W.Frag} {H : Hp} {x : Addr} {ns : List Str} {t t' : Str → List Str} (h : KeysO K H x ns t) (e : t = t') : KeysO K H x ns t' := e ▸ h
theorem pool_ok : ∀ z ∈ pool7, PyData.strOk z = true := by decide +kernel
theorem noq : ("q" : Str) ∉ pool7 := by decide +kernel
theorem noh : ("#" : Str) ∉ pool7 := by decide +kernel
theorem nob : ("b" : Str) ∉ pool7 := by decide +kernel
theorem told_nil (ns : List Str) (n : Str) : toldOf [] ns n = [] := by
  unfold toldOf
  rw [List.filter_eq_nil_iff]
  intro b _ h
  have v := close_in.mp (of_decide_eq_true h)
  have key : ∀ {a b : Str}, Via ([] : List (Str × Str)) ns a b → False := by
    intro a b v
    induction v with
    | one q => cases q
    | two _ _ _ ih1 _ => exact ih1
  exact key v
theorem noring_of {R : List (Str × Str)} {ns M : List Str} (h : ∃ rk : Str → Nat, (∀ p ∈ R, rk p.1 < rk p.2) ∧ ∀ p ∈ R, rk p.2 ≤ M.length) : ∀ n ∈ ns, n ∉ toldOf R ns n := fun n _ q => by
  obtain ⟨rk, h1, _⟩ := h
  exact no_ring h1 n (told_in.mp q).2
theorem atI_zero {x : V} {xs : List V} : atI (x :: xs) 0 = some x := by
  have e : ixN (x :: xs).length 0 = some 0 := by
    unfold ixN
    rw [if_pos (Int.le_refl 0), if_pos (by rw [List.length_cons]; omega)]
    rfl
  unfold atI
  rw [e]
  rfl
theorem pairs_mem {ns : List Str} {t : Str → List Str} {p : Str × Str} (h : p ∈ pairsOf ns t) : p.1 ∈ ns ∧ p.2 ∈ t p.1 := by
  unfold pairsOf at h
  obtain ⟨n, hn, h⟩ := List.mem_flatMap.mp h
  obtain ⟨o, ho, rfl⟩ := List.mem_map.mp h
  exact ⟨hn, ho⟩
end Jd
namespace Jd
open PySem PySem.Spec PyProof.Rows L2
/-! ### rows that write names and tellings -/
theorem name_word {z : Str} (h : isName (cd z) = true) : wordB z := by
  unfold isName at h
  rw [Bool.and_eq_true, Bool.and_eq_true] at h
  obtain ⟨h1, _, h3⟩ := h
  have h1 := of_decide_eq_true h1
  rw [List.all_eq_true] at h3
  refine ⟨fun e => ?_, fun m => ?_, fun m => ?_⟩
  · have e' : cd z = [] := e
    rw [e'] at h1
    cases h1
  · have q := h3 _ m
    revert q
    decide
  · have q := h3 _ m
    revert q
    decide
theorem name_len {z : Str} (h : isName (cd z) = true) : z.length ≤ 8 := by
  unfold isName at h
  rw [Bool.and_eq_true, Bool.and_eq_true] at h
  rw [len_cd]
  exact of_decide_eq_true h.2.1
theorem tells_word : wordB "tells" := name_word (by decide +kernel)
theorem st_one {w : Str} (h : isName (cd w) = true) (a b : Nat) : stOf ((gapS a ++ w) ++ gapS b) = some [w] := by
  unfold stOf
  rw [words_one (name_word h)]
  unfold statedOf
  show (if ([w].all fun w => isName (cd w)) = true then some [w] else none) = _
  rw [if_pos (by rw [List.all_cons, h]; rfl)]
def pairRow (u w : Str) (g k : Nat) : Str := (((u ++ gapS (g + 1)) ++ "tells") ++ gapS (k + 1)) ++ w
theorem st_pair {u w : Str} (hu : isName (cd u) = true) (hw : isName (cd w) = true) (a b g k : Nat) : stOf ((gapS a ++ pairRow u w g k) ++ gapS b) = some [u, w] := by
  unfold stOf pairRow
  rw [words_three (name_word hu) tells_word (name_word hw)]
  unfold statedOf
  have e : pickOf [u, "tells", w] = some [u, w] := by
    show (if ("tells" : Str) = "tells" then some [u, w] else none) = _
    rw [if_pos rfl]
  rw [e]
  show (if ([u, w].all fun w => isName (cd w)) = true then some [u, w] else none) = _
  rw [if_pos (by rw [List.all_cons, List.all_cons, hu, hw]; rfl)]
theorem st_bare (a : Nat) : stOf (gapS a) = some [] := by
  unfold stOf
  rw [words_bare]
  rfl
theorem gap0 (z : Str) : (gapS 0 ++ z) ++ gapS 0 = z := cd_ext (by
  show TL.tl _ = TL.tl z
  rw [TL.tl_append, TL.tl_append]
  show ([] ++ TL.tl z) ++ [] = TL.tl z
  simp)
theorem st_name {w : Str} (h : isName (cd w) = true) : stOf w = some [w] := by
  have q := st_one h 0 0
  rw [gap0] at q
  exact q
theorem tells_row (p : Str × Str) : tellsRow p = pairRow p.1 p.2 0 0 := cd_ext (by
  show TL.tl (tellsRow p) = TL.tl (pairRow p.1 p.2 0 0)
  unfold tellsRow pairRow
  simp only [TL.tl_append, tl_gap]
  have e : TL.tl (" tells " : Str) = List.replicate 1 32 ++ (TL.tl ("tells" : Str) ++ List.replicate 1 32) := by decide +kernel
  rw [e]
  simp [List.append_assoc])
theorem st_tells {p : Str × Str} (hu : isName (cd p.1) = true) (hw : isName (cd p.2) = true) : stOf (tellsRow p) = some [p.1, p.2] := by
  have q := st_pair hu hw 0 0 0 0
  rw [gap0, ← tells_row] at q
  exact q
theorem len_gap (k : Nat) : (gapS k).length = k := by rw [TL.len_tl, tl_gap, List.length_replicate]
theorem nl_app {a b : Str} (ha : (10 : Nat) ∉ TL.tl a) (hb : (10 : Nat) ∉ TL.tl b) : (10 : Nat) ∉ TL.tl (a ++ b) := fun h => by
  rw [TL.tl_append] at h
  exact (List.mem_append.mp h).elim ha hb
theorem nl_pair {u w : Str} (hu : isName (cd u) = true) (hw : isName (cd w) = true) (g k : Nat) : (10 : Nat) ∉ TL.tl (pairRow u w g k) := nl_app (nl_app (nl_app (nl_app (name_word hu).2.2 (nl_gap _)) tells_word.2.2) (nl_gap _)) (name_word hw).2.2
theorem len_pair {u w : Str} (hu : isName (cd u) = true) (hw : isName (cd w) = true) {g k : Nat} (hg : g ≤ 2) (hk : k ≤ 2) : (pairRow u w g k).length ≤ 27 := by
  have h1 := name_len hu
  have h2 := name_len hw
  unfold pairRow
  rw [str_app_len, str_app_len, str_app_len, str_app_len, len_gap, len_gap, show ("tells" : Str).length = 5 by decide]
  omega
/-- a row that is fine, and what it states -/
structure RowG (ns : List Str) (r : Str) : Prop where
  st : ∃ l, stOf r = some l ∧ ∀ z ∈ l, z ∈ ns
  len : r.length ≤ 40
  nl : (10 : Nat) ∉ TL.tl r
/-- rows that write these names and tellings -/
structure RowsG (ns : List Str) (R : List (Str × Str)) (rows : List Str) : Prop where
  good : ∀ r ∈ rows, RowG ns r
  prs : ∀ p, p ∈ pairsR rows ↔ p ∈ R
  nms : ∀ z, z ∈ namesOf rows ↔ z ∈ ns
theorem mem_names {rows : List Str} {z : Str} : z ∈ namesOf rows ↔ ∃ r ∈ rows, z ∈ (stOf r).getD [] := List.mem_flatMap
theorem mem_pairs {rows : List Str} {p : Str × Str} : p ∈ pairsR rows ↔ ∃ r ∈ rows, p ∈ prOf ((stOf r).getD []) := List.mem_flatMap
theorem RowsG.perm {ns : List Str} {R : List (Str × Str)} {rows rows' : List Str} (h : RowsG ns R rows) (pm : rows'.Perm rows) : RowsG ns R rows' := by
  refine ⟨fun r hr => h.good r (pm.mem_iff.mp hr), fun p => ?_, fun z => ?_⟩
  · rw [← h.prs, mem_pairs, mem_pairs]
    exact ⟨fun ⟨r, a, b⟩ => ⟨r, pm.mem_iff.mp a, b⟩, fun ⟨r, a, b⟩ => ⟨r, pm.mem_iff.mpr a, b⟩⟩
  · rw [← h.nms, mem_names, mem_names]
    exact ⟨fun ⟨r, a, b⟩ => ⟨r, pm.mem_iff.mp a, b⟩, fun ⟨r, a, b⟩ => ⟨r, pm.mem_iff.mpr a, b⟩⟩
theorem names_app (a b : List Str) : namesOf (a ++ b) = namesOf a ++ namesOf b := List.flatMap_append
theorem pairs_app (a b : List Str) : pairsR (a ++ b) = pairsR a ++ pairsR b := List.flatMap_append
/-- one row more -/
theorem RowsG.more {ns : List Str} {R : List (Str × Str)} {rows : List Str} (h : RowsG ns R rows) {p : Str × Str} (h1 : p.1 ∈ ns) (h2 : p.2 ∈ ns) (n1 : isName (cd p.1) = true) (n2 : isName (cd p.2) = true) : RowsG ns (R ++ [p]) (rows ++ [tellsRow p]) := by
  have e := st_tells n1 n2
  refine ⟨fun r hr => ?_, fun q => ?_, fun z => ?_⟩
  · rcases List.mem_append.mp hr with hr | hr
    · exact h.good r hr
    · rw [List.mem_singleton.mp hr]
      refine ⟨⟨_, e, fun z hz => ?_⟩, ?_, ?_⟩
      · rcases List.mem_cons.mp hz with rfl | hz
        · exact h1
        · rw [List.mem_singleton.mp hz]
          exact h2
      · rw [tells_row]
        exact Nat.le_trans (len_pair n1 n2 (Nat.zero_le _) (Nat.zero_le _)) (by decide)
      · rw [tells_row]
        exact nl_pair n1 n2 0 0
  · rw [pairs_app, List.mem_append, List.mem_append, h.prs]
    have e2 : pairsR [tellsRow p] = [p] := by
      show prOf ((stOf (tellsRow p)).getD []) ++ [] = [p]
      rw [e, List.append_nil]
      rfl
    rw [e2]
  · rw [names_app, List.mem_append, h.nms]
    have e2 : namesOf [tellsRow p] = [p.1, p.2] := by
      show (stOf (tellsRow p)).getD [] ++ [] = _
      rw [e, List.append_nil]
      rfl
    rw [e2]
    constructor
    · rintro (h | h)
      · exact h
      · rcases List.mem_cons.mp h with rfl | h
        · exact h1
        · rw [List.mem_singleton.mp h]
          exact h2
    · exact .inl
theorem RowsG.mores {ns : List Str} : ∀ (C : List (Str × Str)) {R : List (Str × Str)} {rows : List Str}, RowsG ns R rows → (∀ p ∈ C, p.1 ∈ ns ∧ p.2 ∈ ns ∧ isName (cd p.1) = true ∧ isName (cd p.2) = true) → RowsG ns (R ++ C) (rows ++ C.map tellsRow)
  | [], R, rows, h, _ => by
    rw [List.map_nil, List.append_nil, List.append_nil]
    exact h
  | p :: C, R, rows, h, hC => by
    have q := hC p List.mem_cons_self
    have z := RowsG.mores C (h.more q.1 q.2.1 q.2.2.1 q.2.2.2) fun p hp => hC p (List.mem_cons_of_mem _ hp)
    rw [List.append_assoc, List.append_assoc] at z
    exact z
theorem rows_split {rows : List Str} (ne : rows ≠ []) (nl : ∀ r ∈ rows, (10 : Nat) ∉ TL.tl r) : Txt.split (Txt.join "\n" rows) "\n" = rows := TL.split_join (s := 10) (S := []) (by decide +kernel) (by decide +kernel) ne nl
theorem joinL_len (S : List Nat) : ∀ l : List (List Nat), (TL.joinL S l).length ≤ (l.map fun p => p.length + S.length).sum
  | [] => Nat.zero_le _
  | [p] => by
    show p.length ≤ _
    simp
  | p :: q :: r => by
    have e := joinL_len S (q :: r)
    show (p ++ (S ++ TL.joinL S (q :: r))).length ≤ _
    rw [List.length_append, List.length_append, List.map_cons, List.sum_cons]
    omega
theorem join_len {rows : List Str} {k : Nat} (h : ∀ r ∈ rows, r.length ≤ k) : (Txt.join "\n" rows).length ≤ (k + 1) * rows.length := by
  have e1 : TL.tl ("\n" : Str) = [10] := by decide +kernel
  rw [TL.join_eq, TL.len_tl, TL.tl_join, e1]
  refine Nat.le_trans (joinL_len _ _) ?_
  rw [List.map_map]
  induction rows with
  | nil => exact Nat.zero_le _
  | cons r l ih =>
    have q := ih fun z hz => h z (List.mem_cons_of_mem _ hz)
    have q2 := h r List.mem_cons_self
    rw [TL.len_tl] at q2
    rw [List.map_cons, List.sum_cons]
    show (TL.tl r).length + 1 + (List.map ((fun p => p.length + [10].length) ∘ TL.tl) l).sum ≤ (k + 1) * (l.length + 1)
    rw [Nat.mul_add]
    omega
/-- what the rows of a text that Keys have state -/
theorem rows_text {ns : List Str} {t : Str → List Str} (hn : ∀ n ∈ ns, isName (cd n) = true) (ht : ∀ n ∈ ns, ∀ z ∈ t n, z ∈ ns) : RowsG ns (pairsOf ns t) (textRows ns t) := by
  have pin : ∀ p ∈ pairsOf ns t, p.1 ∈ ns ∧ p.2 ∈ ns := fun p hp => by
    have q := pairs_mem hp
    exact ⟨q.1, ht _ q.1 _ q.2⟩
  have z0 : RowsG ns [] ns := by
    refine ⟨fun r hr => ⟨⟨_, st_name (hn r hr), fun z hz => by rw [List.mem_singleton.mp hz]; exact hr⟩, Nat.le_trans (name_len (hn r hr)) (by decide), (name_word (hn r hr)).2.2⟩, fun p => ?_, fun z => ?_⟩
    · rw [mem_pairs]
      constructor
      · rintro ⟨r, hr, h⟩
        rw [st_name (hn r hr)] at h
        cases h
      · intro h
        cases h
    · rw [mem_names]
      constructor
      · rintro ⟨r, hr, h⟩
        rw [st_name (hn r hr)] at h
        rw [List.mem_singleton.mp h]
        exact hr
      · intro h
        exact ⟨z, h, by rw [st_name (hn z h)]; exact List.mem_singleton.mpr rfl⟩
  have q := z0.mores (pairsOf ns t) fun p hp => let h := pin p hp; ⟨h.1, h.2, hn _ h.1, hn _ h.2⟩
  rw [List.nil_append] at q
  exact q
theorem told_iff {R R' : List (Str × Str)} (h : ∀ p, p ∈ R' ↔ p ∈ R) (ns : List Str) : toldOf R' ns = toldOf R ns := by
  funext n
  unfold toldOf
  refine List.filter_congr fun b _ => decide_eq_decide.mpr ?_
  rw [close_in, close_in]
  exact ⟨via_mem fun p => (h p).mp, via_mem fun p => (h p).mpr⟩
theorem pool_name : ∀ z ∈ pool7, isName (cd z) = true := by decide +kernel
theorem bad_six : ∀ z ∈ (["a  b", "tells a", "B", "a tells b tells c", "a/2", "."] : List Str), stOf z = none ∧ (10 : Nat) ∉ TL.tl z ∧ z.length ≤ 40 := by decide +kernel
end Jd
/-! an except clause with a tuple of any number of classes -/
namespace Jd
open PySem PySem.Spec PySem.Calls PyProof.Rows PySem.W
section
variable {M : Model} {A : Around} {E : Value → Shared → Prop} {s : Shared}
theorem each_next {β : Type} {b0 : β} {f : Value → β → Sem (ForInStep β)} : ∀ {cs : List Value} {Q : β → Shared → Prop}, (∀ c ∈ cs, ∀ R : ForInStep β → Shared → Prop, R (.yield b0) s → wpAny M A (f c b0) R E s) → Q b0 s → wpAny M A (forIn cs b0 f) Q E s
  | [], Q, _, q => by
    rw [List.forIn_nil]
    exact wpAny_pure q
  | c :: cs, Q, hf, q => by
    rw [List.forIn_cons]
    exact wpAny_bind (hf c List.mem_cons_self _ (each_next (fun c hc => hf c (List.mem_cons_of_mem _ hc)) q))
theorem each_some {β : Type} {b0 b1 : β} {f : Value → β → Sem (ForInStep β)} {p : Value → Option Bool} : ∀ {cs : List Value} {b : Bool} {Q : β → Shared → Prop}, (∀ c ∈ cs, ∀ v, p c = some v → ∀ R : ForInStep β → Shared → Prop, R (if v = true then .done b1 else .yield b0) s → wpAny M A (f c b0) R E s) →
    (∀ c ∈ cs, ∃ v, p c = some v) → b = cs.any (fun c => p c == some true) → Q (if b = true then b1 else b0) s → wpAny M A (forIn cs b0 f) Q E s
  | [], b, Q, _, _, e, q => by
    subst e
    rw [List.forIn_nil]
    exact wpAny_pure q
  | c :: cs, b, Q, hf, hs, e, q => by
    rw [List.forIn_cons]
    obtain ⟨v, hv⟩ := hs c List.mem_cons_self
    refine wpAny_bind (hf c List.mem_cons_self v hv _ ?_)
    rw [List.any_cons, hv] at e
    cases v with
    | true =>
      subst e
      exact wpAny_pure q
    | false =>
      subst e
      exact each_some (fun c hc => hf c (List.mem_cons_of_mem _ hc)) (fun c hc => hs c (List.mem_cons_of_mem _ hc)) rfl q
end
theorem exm_each {K : Frag} {cls : Value} : ∀ {cs : List Value} {b : Bool}, exmAny K cls cs = some b → (∀ c ∈ cs, ∃ v, exmOne K cls c = some v) ∧ b = cs.any fun c => exmOne K cls c == some true
  | [], b, h => by
    cases h
    exact ⟨fun c h => absurd h List.not_mem_nil, rfl⟩
  | c :: cs, b, h => by
    obtain ⟨v, d, h1, h2, rfl⟩ := exmAny_cons h
    obtain ⟨i1, i2⟩ := exm_each h2
    refine ⟨fun x hx => ?_, ?_⟩
    · rcases List.mem_cons.mp hx with rfl | hx
      · exact ⟨v, h1⟩
      · exact i1 x hx
    · rw [List.any_cons, h1, ← i2]
      cases v <;> rfl
theorem exm_list {M : Model} {K : Frag} {cs : List Value} {cls : Value} {tp e : Addr} {b : Bool} {h : Heap} (X : K.In h) (ty : Looks M h (typeOf (.ref e)) cls) (hp : h.get? tp = some { cls := .type "tuple", data := .seq cs.toArray }) (hx : exmAny K cls cs = some b) : Looks M h (excMatches (.ref e) (.ref tp)) b := by
  intro A Q E s k q
  obtain ⟨all, eb⟩ := exm_each hx
  have isT : Looks M h (isInstance (.ref tp) (.type "tuple")) true := (Looks.andThen (Looks.andThen (Looks.ld hp) Looks.now) (Looks.of_pure isSubtype_tuple_tuple))
  unfold excMatches
  refine wpAny_bind ((isT.keeps k).here ?_)
  dsimp only
  rw [if_pos rfl]
  refine wpAny_bind (wpAny_seqItems (k _ _ hp) rfl ?_)
  dsimp only [Option.getD_some, Option.getD]
  refine wpAny_bind (wpAny_pure ?_)
  refine wpAny_bind (each_next (b0 := PUnit.unit) (fun c hc R r => ?_) ?_)
  · obtain ⟨v, hv⟩ := all c hc
    refine wpAny_bind (((exm_cls (M := M) X hv).1.keeps k).here ?_)
    simp only [Bool.not_true, Bool.false_eq_true, if_false]
    exact wpAny_pure r
  · refine wpAny_bind ((ty.keeps k).here ?_)
    refine wpAny_bind (each_some (b0 := ((none : Option Bool), ())) (b1 := (some true, ())) (p := fun c => exmOne K cls c) (b := b) (fun c hc v hv R r => ?_) all eb ?_)
    · refine wpAny_bind (((exm_cls (M := M) X hv).2.keeps k).here ?_)
      cases v with
      | true =>
        rw [if_pos rfl]
        exact wpAny_pure r
      | false =>
        rw [if_neg Bool.false_ne_true]
        exact wpAny_pure r
    · cases b with
      | true => exact wpAny_pure q
      | false => exact wpAny_pure q
end Jd
namespace Jd
open PySem PySem.Spec PyProof.Rows L2
theorem htest5 {X : Cx} {x1 x2 x3 x4 x5 : Str} {c1 c2 c3 c4 c5 : Value} {p1 p2 p3 p4 p5 tp : Pos} {kk : Nat} (n1 : Names X x1 c1) (n2 : Names X x2 c2) (n3 : Names X x3 c3) (n4 : Names X x4 c4) (n5 : Names X x5 c5) :
    HTest X (.Tuple [.Name x1 p1, .Name x2 p2, .Name x3 p3, .Name x4 p4, .Name x5 p5] kk tp) [c1, c2, c3, c4, c5] := by
  intro a oe pn pins σ H s b Q E I he hx q
  refine wpAny_Tuple (wpAny_items_cons (names_ev (pn := pn) (pins := pins) (σ := σ) (H := H) n1 I (wpAny_items_cons (names_ev (pn := pn) (pins := pins) (σ := σ) (H := H) n2 I (wpAny_items_cons (names_ev (pn := pn) (pins := pins) (σ := σ) (H := H) n3 I (wpAny_items_cons (names_ev (pn := pn) (pins := pins) (σ := σ) (H := H) n4 I (wpAny_items_cons (names_ev (pn := pn) (pins := pins) (σ := σ) (H := H) n5 I (wpAny_items_nil ⟨(by show 5 ≤ sizeLine; decide), ?_⟩)))))))))))
  have kp : ∀ q o, s.heap.get? q = some o → (s.heap.push { cls := .type "tuple", data := .seq [c1, c2, c3, c4, c5].toArray }).get? q = some o := fun _ _ z => Heap.get?_push_of_some _ z
  have ty : PySem.W.Looks (model X.prog X.w) s.heap (typeOf (.ref a)) oe.cls := fun A Q E s k q => wpAny_typeOf_ref (k _ _ he) q
  exact (exm_list (I.kIn.keeps kp) (ty.keeps kp) (Heap.get?_push_size s.heap rfl) hx).here (q _ kp)
section
variable {X : Cx} {CX : CXT} {k : Nat} {f C : Addr} {fd : FuncData} {ps : List Str} {sp : Sp} {E : L2.St → XK} {m : Str} {pos apos : Pos} {o e : Expr} {es : List Expr} {t : TA} {ta : TE}
/-- C.m(e, ..), what is raised wished for at the slots -/
def tSMethS (C : Addr) (sp : Sp) (E : L2.St → XK) (ta : TE) (t : TA) : TE := fun σ H Q => ta σ H fun x H1 => x = .ref C ∧ t σ H1 fun vs H2 => sp vs H2 Q (E σ)
theorem pe_smethS {pl : Sem Bool} (he : PE X o ta) (r : SMet X.K C m f) (F : FnOk X.prog X.w X.K X.mg X.base CX k f fd ps sp) (hr : Room k X.A) (hb : Binds X.K fd ps []) (hx : ∀ σ, PassesAt CX X σ (E σ)) (ha : PA X (e :: es) t)
    (hst : starEach (e :: es) X.env = (false, eval e X.env) :: starEach es X.env := by rfl) (hpl : (backTo pos (starEach es X.env)).any (·.1) = false := by rfl)
    (ht : eval (.Call (.Attribute o m apos) (e :: es) [] pos) X.env = (do
      let ov ← eval o X.env
      standAt apos.atName
      let (f, first) ← holding [ov] (getMethod ov m pl)
      callWith pos f first (backTo pos (starEach (e :: es) X.env)) (backToKw pos (keywordEach [] X.env))) := by rfl) :
    PE X (.Call (.Attribute o m apos) (e :: es) [] pos) (tSMethS C sp E ta t) := by
  refine ⟨fun pins s σ H Q I h => ?_⟩
  refine PySem.W.methodCall_KW (pl := pl) (thn (he.run pins s σ H _ I h) fun u s1 ⟨x, H1, I1, rx, ex, q⟩ => ?_) ht
  subst ex
  obtain rfl : u = Value.ref C := rx
  refine getmethsm_ok I1 r fun s2 I2 => ?_
  refine PySem.W.callWith_K (h₀ := X.base) I2.ok.mod.kin r.kp (thn (ha.run pos pins s2 σ H1 _ I2 q) fun us s3 ⟨vs, H2, I3, rv, q2⟩ => ⟨I3.kIn, ?_⟩) hst hpl
  exact run_fnSD (us := us) (vs := vs) (dvs := []) (ds := []) F hr hb .nil (hx σ) I3 rv (by rw [List.append_nil]; exact q2)
end
end Jd
namespace Jd
open PySem PySem.Spec PyProof.Rows L2
/-! ### more -/
theorem new_at {H : Hp} {a : Addr} (o : HO) (n : H a = none) : upd H a o a = some o := upd_same
theorem ring_nil {R : List (Str × Str)} {ns : List Str} (nr : ∀ n ∈ ns, n ∉ toldOf R ns n) : ringOf R ns = [] := by
  unfold ringOf
  rw [List.filter_eq_nil_iff]
  exact fun n hn h => nr n hn (of_decide_eq_true h)
def spMore (K : PySem.W.Frag) : Sp := fun vs H Q _ => ∃ (x : Addr) (o f : Str) (ns : List Str) (t : Str → List Str), vs = [.ref x, .str o, .str f] ∧ KeysO K H x ns t ∧ sortedS ns = true ∧ o ∈ ns ∧ f ∈ ns ∧
  (ringOf (pairsOf ns t ++ [(o, f)]) ns = [] → ∀ H' p qs, Same H H' → H' p = some (.tup (qs.map V.ref)) → PrAt H' qs (pairsOf ns (toldOf (pairsOf ns t ++ [(o, f)]) ns)) → Q (.ref p) H') ∧
  (ringOf (pairsOf ns t ++ [(o, f)]) ns ≠ [] → ∀ H' l, Same H H' → H' l = some (.lst ((ringOf (pairsOf ns t ++ [(o, f)]) ns).map V.str)) → Q (.ref l) H')
section
variable {P : Program} {w : World} {K : PySem.W.Frag} {mg : Str → Option Value} {base : Heap}
theorem sc_mo : FnScope ["_law_keyring", "_law_own", "_law_far", "_law_caught", "_law_found", "error"] ["_law_keyring", "_law_own", "_law_far"] (defScope s__law_more) := ⟨rfl, rfl, rfl, by decide +kernel, rfl, by decide +kernel, by decide +kernel⟩
theorem ok_more (B : Bk K mg) : Df P w K mg base CX0 5 "_law_more" ["_law_keyring", "_law_own", "_law_far"] (spMore K) := by
  obtain ⟨fd, F⟩ := B.F_law_more
  obtain ⟨fdI, GI, _, FI⟩ := ok_Keys_init (P := P) (w := w) (base := base) B
  have bI := kb_two FI
  obtain ⟨fdN, GN, bN⟩ := ok_names (P := P) (w := w) (base := base) B
  obtain ⟨fdP, GP, bP⟩ := ok_pairs (P := P) (w := w) (base := base) B
  refine ⟨⟨fd, ?_, F.binds fun _ _ _ _ _ _ us hl => match us, hl with | [_, _, _], _ => rfl⟩, B.g_law_more, F.kp⟩
  refine F.ok sc_mo (fun vs H Q E h => ?_) (fun cdv A outer s H vs Q E hr h => ?_)
  · obtain ⟨_, _, _, _, _, rfl, _⟩ := h
    rfl
  · obtain ⟨x, o, f, ns, t, rfl, ko, so, ho, hf, k1, k2⟩ := h
    have hr2 : Room 2 _ := hr.mono (by decide)
    have hr4 : Room 4 _ := hr.mono (by decide)
    refine ⟨_, pss_cons (ps_asg (pe_tup (pa_cons pe_non (pa_cons pe_non pa_nil))) (pg_tup (by rfl) (pgs_cons (pg_name (i := 3) sc_mo.nd rfl (.inl rfl)) (pgs_cons (pg_name (i := 4) sc_mo.nd rfl (.inl rfl)) pgs_nil))))
      (pss_cons (ps_cut (ps_try_err (i := 5) (tb := fun W => tAsg (tProp (He.ga K "Keys") (spPairs K) [] E0 (tMakeS (He.ga K "Keys") (spKI K) [] (WE W) (tCons (tProp (He.ga K "Keys") (spNames K) [] E0 (tVar 0)) (tCons (tOp (rCatA K) (tProp (He.ga K "Keys") (spPairs K) [] E0 (tVar 0)) (tTup (tCons (tTup (tCons (tVar 1) (tCons (tVar 2) tNil))) tNil))) tNil)))) (gName 4))
          (ts := fun _ _ _ => tAsg (tVar 5) (gName 3)) (Wout := fun _ _ _ _ => False)
          rfl rfl rfl sc_mo.nd rfl rfl (htest4 ⟨rfl, by decide, .inl B.g_BadField⟩ ⟨rfl, by decide, .inl B.g_BadLine⟩ ⟨rfl, by decide, .inl B.g_NoName⟩ ⟨rfl, by decide, .inl B.g_Ringed⟩) takes0
          (fun W pn xe tk _ => pss_one (ps_set (i := 4) sc_mo.nd rfl (Or.inl rfl)
            (pe_prop (pe_makeS B.mk_Keys GI hr4 (by rfl) B.g_Keys bI .nil (fun σ => passAt tk σ) (pa_cons (pe_prop (pv 0) B.cl_Keys B.pr_Keys_names GN hr2 bN .nil pass0 rfl) (pa_cons (pe_op op_catA (pe_prop (pv 0) B.cl_Keys B.pr_Keys_pairs GP hr2 bP .nil pass0 rfl) (pe_tup (pa_cons (pe_tup (pa_cons (pv 1) (pa_cons (pv 2) pa_nil))) pa_nil))) pa_nil))) B.cl_Keys B.pr_Keys_pairs GP hr2 bP .nil pass0 rfl)))
          (fun a oe cls d pn hz hf => pss_one (ps_set (i := 3) sc_mo.nd rfl (Or.inl rfl) (pv 5)))))
      (pss_cons (ps_if (pt_cmp (pc_isN (pv 3))) (pss_one (ps_ret (pv 4))) pss_nil)
      (pss_one (ps_ret (pe_ifExp (pt_val (pe_callB call_isEr (by rfl) B.b_isinstance (by decide +kernel) (pa_cons (pv 3) (pa_cons (pe_glob (v := .ref (He.ga K "Ringed")) rfl B.g_Ringed rfl) pa_nil))))
        (pe_callTy call_list_of (by rfl) B.b_list (by decide +kernel) (pa_cons (pe_erF (pv 3)) pa_nil)) pe_str))))), ?_⟩
    refine ⟨(by show 2 ≤ sizeLine; decide), fun t0 h0 => ⟨_, _, rfl, SqT.of upd_same, rfl, _, _, rfl, _, _, rfl, rfl, ?_⟩⟩
    have s0 : Same H (upd H t0 (.tup [.non, .non])) := Same_new h0
    dsimp only [cxOf, Cx.nox]
    generalize (upd H t0 (.tup [.non, .non])) = H0 at s0
    clear h0 t0
    refine ⟨fun σ' H' => Same H H' ∧ ((ringOf (pairsOf ns t ++ [(o, f)]) ns = [] ∧ ∃ p qs, σ' = [some (.ref x), some (.str o), some (.str f), some .non, some (.ref p), none] ∧ H' p = some (.tup (qs.map V.ref)) ∧ PrAt H' qs (pairsOf ns (toldOf (pairsOf ns t ++ [(o, f)]) ns))) ∨
      (ringOf (pairsOf ns t ++ [(o, f)]) ns ≠ [] ∧ ∃ a d r, σ' = [some (.ref x), some (.str o), some (.str f), some (.ref a), some .non, none] ∧ H' a = some (ErO (.ref (He.ga K "Ringed")) (some d) a) ∧ H' d = some (.xd [("ring", .ref r)]) ∧ H' r = some (.tup ((ringOf (pairsOf ns t ++ [(o, f)]) ns).map V.str)))), ?_, ?_⟩
    · have ko0 := ko.same s0
      obtain ⟨dx, tn, d0, A0, hx, htn, _, _, nd, l7, sok, t7⟩ := id ko0
      have lp := pairs_len2 l7 fun n hn => (t7 n hn).1
      refine ⟨_, rfl, x, dx, _, rfl, hx, x, ns, t, rfl, ko0, fun p1 hp1 => ?_⟩
      refine ⟨_, rfl, x, dx, _, rfl, hx, x, ns, t, rfl, ko0, fun H1 p2 qs s1 hp2 pr => ?_⟩
      refine ⟨_, rfl, _, rfl, (by show 2 ≤ sizeLine; decide), fun q nq => ⟨(by show 1 ≤ sizeLine; decide), fun tt ntt => ?_⟩⟩
      have s2 := Same_new (o := HO.tup [V.str o, V.str f]) nq
      have g1 := new_at (HO.tup [V.str o, V.str f]) nq
      have s3 := Same_new (o := HO.tup [V.ref q]) ntt
      have g2 := new_at (HO.tup [V.ref q]) ntt
      generalize (upd (upd H1 q (.tup [V.str o, V.str f])) tt (.tup [V.ref q])) = H2 at s3 g2
      have s4 := (s1.trans s2).trans s3
      -- the sum stands at m
      have key : ∀ (m : Addr) (rs : List Addr) (H3 : Hp), Same H2 H3 → H3 m = some (.tup (rs.map V.ref)) → PrAt H3 rs (pairsOf ns t ++ [(o, f)]) → ∀ x3 dx3, H3 x3 = none → H3 dx3 = none → ∀ (Q : VK) (E : XK),
          (ringOf (pairsOf ns t ++ [(o, f)]) ns = [] → ∀ H', Same H H' → KeysO K H' x3 ns (toldOf (pairsOf ns t ++ [(o, f)]) ns) → Q .non H') →
          (ringOf (pairsOf ns t ++ [(o, f)]) ns ≠ [] → ∀ H' d r, Same H H' → H' d = some (.xd [("ring", .ref r)]) → H' r = some (.tup ((ringOf (pairsOf ns t ++ [(o, f)]) ns).map V.str)) → E (.ref (He.ga K "Ringed")) (some d) H') →
          spKI K [.ref x3, .ref p1, .ref m] (upd (upd H3 dx3 (.own x3)) x3 (.ins (He.ga K "Keys") dx3 [])) Q E := by
        intro m rs H3 s5 hm prm x3 dx3 nx3 ndx3 Q E q1 q2
        have s05 := (s0.trans s4).trans s5
        have sm := Same_mk (o1 := HO.own x3) (o2 := HO.ins (He.ga K "Keys") dx3 []) nx3 ndx3
        have hz : ∀ z, z ∈ ns ↔ z ∈ ns := fun _ => Iff.rfl
        refine ⟨x3, p1, m, dx3, ns, _, rfl, upd_same, .inr (SqT.of (sm _ _ (s5 _ _ (s4 _ _ hp1)))), by omega, by rw [names_len nd hz]; exact l7, sok, ⟨rs, .inr (SqT.of (sm _ _ hm)), prm.1, fun i q hq => let ⟨pr, a, b⟩ := prm.2 i q hq; ⟨pr, a, .inr (SqT.of (sm _ _ b))⟩⟩, by rw [List.length_append]; show _ + 1 ≤ 64; omega, fun ns' pm so' nd' => ?_⟩
        have e := names_one nd so hz ns' pm so'
        subst e
        refine ⟨fun _ => ⟨fun e0 H' ko' kx => q1 e0 H' (s05.trans (Same_made nx3 ndx3 kx)) ko', fun e1 H' d r kx hd hr => q2 e1 H' d r (s05.trans (Same_made nx3 ndx3 kx)) hd hr⟩, fun z q => ?_⟩
        rw [out_none fun p hp => ?_] at q
        · cases q
        · rcases List.mem_append.mp hp with hp | hp
          · exact pairs_ok t7 hp
          · rw [List.mem_singleton.mp hp]
            exact ⟨ho, hf⟩
      have lq : (qs.map V.ref).length + ([V.ref q] : List V).length ≤ sizeLine := by
        rw [List.length_map, pr.1]
        have : (1000 : Nat) ≤ sizeLine := by decide
        show _ + 1 ≤ _
        omega
      refine ⟨_, _, _, _, rfl, rfl, SqT.of (s3 _ _ (s2 _ _ hp2)), SqT.of g2, lq, fun e => ?_, fun _ z => (by cases z), fun e _ m nm => ?_⟩
      · have q0 : qs = [] := List.map_eq_nil_iff.mp e
        have R0 : pairsOf ns t = [] := List.eq_nil_of_length_eq_zero (by rw [← pr.1, q0]; rfl)
        have pr1 : PrAt H2 [q] (pairsOf ns t ++ [(o, f)]) := by
          rw [R0]
          exact PrAt.snoc (qs := []) (prs := []) PrAt.nil (s3 _ _ g1)
        intro x3 dx3 nx3 ndx3 nex
        refine key tt [q] _ (Same.refl _) g2 pr1 x3 dx3 nx3 ndx3 _ _ (fun e0 H' s' ko' => ?_) (fun e1 H' d r s' hd hr => ?_)
        · obtain ⟨dx', tn', d', A', hx', _⟩ := id ko'
          exact ⟨rfl, x3, dx', _, rfl, hx', x3, ns, _, rfl, ko', fun H5 p5 qs5 s5 hp5 pr5 => ⟨s'.trans s5, .inl ⟨e0, p5, qs5, rfl, hp5, pr5⟩⟩⟩
        · refine ⟨_, exm4 B.exm_Ringed_BadField B.exm_Ringed_BadLine B.exm_Ringed_NoName B.exm_Ringed_Ringed, fun _ a na => ?_, fun q => nomatch q⟩
          refine ⟨_, rfl, fun na' => ?_⟩
          exact ⟨Same_upd s' (s'.free na'), .inr ⟨e1, a, d, r, rfl, upd_same, by rw [upd_ne (ne_of_none hd na')]; exact hd, by rw [upd_ne (ne_of_none hr na')]; exact hr⟩⟩
      · have s5 := Same_new (o := HO.tup (qs.map V.ref ++ [V.ref q])) nm
        have pr1 : PrAt (upd H2 m (.tup (qs.map V.ref ++ [V.ref q]))) (qs ++ [q]) (pairsOf ns t ++ [(o, f)]) := PrAt.snoc ((pr.same (s2.trans s3)).same s5) (s5 _ _ (s3 _ _ g1))
        intro x3 dx3 nx3 ndx3 nex
        refine key m (qs ++ [q]) _ s5 (by rw [upd_same, List.map_append]; rfl) pr1 x3 dx3 nx3 ndx3 _ _ (fun e0 H' s' ko' => ?_) (fun e1 H' d r s' hd hr => ?_)
        · obtain ⟨dx', tn', d', A', hx', _⟩ := id ko'
          exact ⟨rfl, x3, dx', _, rfl, hx', x3, ns, _, rfl, ko', fun H5 p5 qs5 s5 hp5 pr5 => ⟨s'.trans s5, .inl ⟨e0, p5, qs5, rfl, hp5, pr5⟩⟩⟩
        · refine ⟨_, exm4 B.exm_Ringed_BadField B.exm_Ringed_BadLine B.exm_Ringed_NoName B.exm_Ringed_Ringed, fun _ a na => ?_, fun q => nomatch q⟩
          refine ⟨_, rfl, fun na' => ?_⟩
          exact ⟨Same_upd s' (s'.free na'), .inr ⟨e1, a, d, r, rfl, upd_same, by rw [upd_ne (ne_of_none hd na')]; exact hd, by rw [upd_ne (ne_of_none hr na')]; exact hr⟩⟩
    rintro σ1 H1 ⟨s1, ⟨e, p, qs, rfl, hp, pr⟩ | ⟨e, a, d, r, rfl, ha, hd, hrr⟩⟩
    · refine ⟨_, rfl, _, rfl, ifdp rfl ?_⟩
      exact ⟨_, rfl, k1 e _ p qs s1 hp pr⟩
    · have c := B.xc_Ringed
      refine ⟨_, rfl, _, rfl, ifdn (fun z => nomatch z) ?_⟩
      refine ⟨_, rfl, a, _, d, _, _, _, true, rfl, ha, hd, c, (fun u r => r), kit_self, _, rfl, iteT ?_⟩
      refine ⟨_, rfl, a, _, d, _, .ref r, rfl, ha, ⟨c.hg, c.hk, c.hs, c.hd⟩, B.nf_Ringed_ring, hd, rfl, r, _, rfl, .inr (SqT.of hrr), fun l nl => ?_⟩
      exact k2 e _ l (Same_lay s1 nl) upd_same
end
end Jd
namespace Jd
open PySem PySem.Spec PyProof.Rows L2
/-! ### order -/
/-- x in t, a tuple of data of any depth -/
def rInT (K : PySem.W.Frag) : R2 := fun x y H Q => ∃ d ds, Dp K H x d ∧ Dp K H y (.tuple ds) ∧ SeqAt.shaped d = true ∧ SeqAt.shaped (.tuple ds) = true ∧ Q (.bl (ds.any fun z => PyData.eqv z d)) H
theorem op_inT {X : Cx} (hu : X.A.units + 65 < cLine) : OpR X (compareOp .In) (rInT X.K) := by
  intro pins s σ H x y v u Q I rx ry h
  obtain ⟨d, ds, hd, he, sd, se, q⟩ := h
  obtain ⟨as, r1⟩ := Dp.reads I d x v hd rx
  obtain ⟨bs, r2⟩ := Dp.reads I (.tuple ds) y u he ry
  exact SeqAt.in_tuple_reads r2 r1 (SeqAt.canLay_of_shaped se) (SeqAt.canLay_of_shaped sd) (room_in_shaped sd hu) ⟨.bl _, H, I, rfl, q⟩
def dPairs (prs : List (Str × Str)) : List PyData := prs.map fun pr => .tuple [.str pr.1, .str pr.2]
theorem dp_pairs {K : PySem.W.Frag} {H : Hp} : ∀ {qs : List Addr} {prs : List (Str × Str)}, PrAt H qs prs → DpAll K H (qs.map V.ref) (dPairs prs) := by
  intro qs prs h
  have p := pr_to h
  clear h
  induction p with
  | nil => exact .nil
  | cons a _ ih => exact .cons (.tup (SqT.of a) (.cons (.str _) (.cons (.str _) .nil))) ih
theorem lay_pairs : ∀ {prs : List (Str × Str)}, (∀ p ∈ prs, PyData.strOk p.1 = true ∧ PyData.strOk p.2 = true) → PyData.canLayAll0 (dPairs prs) = true
  | [], _ => by simp [dPairs, PyData.canLayAll0]
  | p :: r, h => by
    have q := lay_pairs (prs := r) fun p hp => h p (List.mem_cons_of_mem _ hp)
    have q2 := h p List.mem_cons_self
    unfold dPairs at q ⊢
    rw [List.map_cons]
    simp [PyData.canLayAll0, PyData.canLay0, q, q2]
theorem dep_pairs : ∀ prs : List (Str × Str), PyData.depthAll (dPairs prs) ≤ 1
  | [] => by simp [dPairs, PyData.depthAll]
  | p :: r => by
    have q := dep_pairs r
    unfold dPairs at q ⊢
    rw [List.map_cons]
    simp only [PyData.depthAll, PyData.depth]
    exact Nat.max_le.mpr ⟨by decide, q⟩
theorem shp_pairs {prs : List (Str × Str)} (h : ∀ p ∈ prs, PyData.strOk p.1 = true ∧ PyData.strOk p.2 = true) : SeqAt.shaped (.tuple (dPairs prs)) = true := by
  unfold SeqAt.shaped
  rw [Bool.and_eq_true]
  refine ⟨by simpa [PyData.canLay0] using lay_pairs h, decide_eq_true ?_⟩
  simp only [PyData.depth]
  have := dep_pairs prs
  omega
theorem shp_strs {xs : List Str} (h : ∀ x ∈ xs, PyData.strOk x = true) : SeqAt.shaped (.tuple (xs.map PyData.str)) = true := by
  unfold SeqAt.shaped
  rw [Bool.and_eq_true]
  refine ⟨by simpa [PyData.canLay0] using lay_strs xs h, decide_eq_true ?_⟩
  simp only [PyData.depth]
  have := dep_strs xs
  omega
theorem eqv_tups (xs ys : List Str) : PyData.eqv (.tuple (xs.map PyData.str)) (.tuple (ys.map PyData.str)) = decide (xs = ys) := by
  rw [PyData.eqv]
  exact eqv_strs xs ys
theorem any_pair (prs : List (Str × Str)) (a b : Str) : ((dPairs prs).any fun z => PyData.eqv z (.tuple [.str a, .str b])) = decide ((a, b) ∈ prs) := by
  induction prs with
  | nil => rfl
  | cons p r ih =>
    show (PyData.eqv (.tuple [.str p.1, .str p.2]) (.tuple [.str a, .str b]) || (dPairs r).any _) = _
    rw [ih]
    have e := eqv_tups [p.1, p.2] [a, b]
    rw [show PyData.eqv (.tuple [.str p.1, .str p.2]) (.tuple [.str a, .str b]) = decide ([p.1, p.2] = [a, b]) from e]
    rw [← Bool.decide_or]
    refine decide_eq_decide.mpr ?_
    rw [List.mem_cons]
    refine or_congr ?_ Iff.rfl
    constructor
    · intro z
      injection z with z1 z2
      injection z2 with z2
      rw [← z1, ← z2]
    · intro z
      rw [← z]
end Jd
namespace Jd
open PySem PySem.Spec PyProof.Rows L2
/-! ### the order -/
theorem bt_tuple : bootBuiltins "tuple" = some (.type "tuple") := by decide +kernel
/-- names that tell as an order does -/
structure OrdT (ns : List Str) (t : Str → List Str) : Prop where
  so : sortedS ns = true
  noh : ("#" : Str) ∉ ns
  row : ∀ n ∈ ns, t n = ns.filter fun z => decide (z ∈ t n)
  irr : ∀ n ∈ ns, n ∉ t n
  asy : ∀ a ∈ ns, ∀ b ∈ t a, a ∉ t b
  tra : ∀ a ∈ ns, ∀ b ∈ t a, ∀ c ∈ t b, c ∈ t a
theorem tells_no {ns : List Str} {z y : Str} {A : Str → Prop} (h1 : z = "#" ∨ z ∈ ns) (h2 : y = "#" ∨ y ∈ ns) : ∀ b : Str, (if (z = "#" ∨ z ∈ ns) then (¬ (y = "#" ∨ y ∈ ns) ∧ b = y) else b = z) → A b := fun b hb => by
  rw [if_pos h1] at hb
  exact absurd h2 hb.1
theorem pairs_sum (t : Str → List Str) : ∀ ns : List Str, ((pairsOf ns t).length : Int) = (ns.map fun z => ((t z).length : Int)).sum
  | [] => rfl
  | n :: r => by
    have q := pairs_sum t r
    have e : pairsOf (n :: r) t = ((t n).map fun o => (n, o)) ++ pairsOf r t := List.flatMap_cons
    rw [e, List.length_append, List.length_map, List.map_cons, List.sum_cons, ← q]
    rfl
def spOrd (K : PySem.W.Frag) : Sp := fun vs H Q _ => ∃ (x : Addr) (ns : List Str) (t : Str → List Str), vs = [.ref x] ∧ KeysO K H x ns t ∧ OrdT ns t ∧ ∀ H', Same H H' → Q (.bl true) H'
section
variable {P : Program} {w : World} {K : PySem.W.Frag} {mg : Str → Option Value} {base : Heap}
abbrev NOd : List Str := ["_law_keyring", "_law_flats", "_law_own", "_law_far", "_law_bit"]
theorem sc_od : FnScope NOd ["_law_keyring"] (defScope s__law_order_right) := ⟨rfl, rfl, rfl, by decide +kernel, rfl, by decide +kernel, by decide +kernel⟩
theorem ok_order (B : Bk K mg) : Df P w K mg base CX0 6 "_law_order_right" ["_law_keyring"] (spOrd K) := by
  obtain ⟨fd, F⟩ := B.F_law_order_right
  obtain ⟨fdN, GN, bN⟩ := ok_names (P := P) (w := w) (base := base) B
  obtain ⟨fdP, GP, bP⟩ := ok_pairs (P := P) (w := w) (base := base) B
  obtain ⟨fdT, GT, FT⟩ := ok_told (P := P) (w := w) (base := base) B
  have bT : Binds K fdT ["self", "name"] [] := FT.binds fun _ _ _ _ _ _ us hl => match us, hl with | [_, _], _ => rfl
  obtain ⟨fdS, GS, FS⟩ := ok_tells (P := P) (w := w) (base := base) B
  have bS : Binds K fdS ["self", "one", "other"] [] := FS.binds fun _ _ _ _ _ _ us hl => match us, hl with | [_, _, _], _ => rfl
  refine ⟨⟨fd, ?_, F.binds fun _ _ _ _ _ _ us hl => match us, hl with | [_], _ => rfl⟩, B.g_law_order_right, F.kp⟩
  refine F.ok sc_od (fun vs H Q E h => ?_) (fun cdv A outer s H vs Q E hr h => ?_)
  · obtain ⟨_, _, _, rfl, _⟩ := h
    rfl
  · obtain ⟨x, ns, t, rfl, ko, od, k⟩ := h
    have hr2 : Room 2 _ := hr.mono (by decide)
    have hr4 : Room 4 _ := hr.mono (by decide)
    have hr5 : Room 5 _ := hr
    have hu65 : (A.deeper (envOfC "_law_order_right" (defScope s__law_order_right) s.heap.objs.size (He.ga K "_law_order_right") cdv)).units + 65 < cLine := by
      have := hr.un
      omega
    refine ⟨_, 
pss_cons (ps_cut (ps_set (i := 1) sc_od.nd rfl (Or.inl rfl) (pe_callTy call_list_of (by rfl) B.b_list (by decide +kernel) (pa_cons (pe_prop (pv 0) B.cl_Keys B.pr_Keys_names GN hr2 bN .nil pass0 rfl) pa_nil))))
      (pss_cons (ps_cut (ps_for PassesOwn.never rfl (pi_list (pv 1)) (pg_name (i := 2) sc_od.nd rfl (Or.inr rfl)) (pss_cons (ps_cut (ps_if (PW.pt (pw_or (pt_val (pe_meth (E := fun _ _ _ => False) (pv 0) B.cl_Keys B.me_Keys_tells GS hr5 bS .nil passF (pa_cons (pv 2) (pa_cons (pv 2) pa_nil)))) (pw_or (pt_val (pe_meth (E := fun _ _ _ => False) (pv 0) B.cl_Keys B.me_Keys_tells GS hr5 bS .nil passF (pa_cons (pv 2) (pa_cons pe_str pa_nil)))) (pw_or1 (pt_not (pt_val (pe_meth (E := fun _ _ _ => False) (pv 0) B.cl_Keys B.me_Keys_tells GS hr5 bS .nil passF (pa_cons pe_str (pa_cons (pv 2) pa_nil))))))))) (pss_one (ps_ret pe_bl)) pss_nil)) (pss_cons (ps_cut (ps_if (pt_cmpR (op_neD hr.units) (pe_meth (E := fun _ _ _ => False) (pv 0) B.cl_Keys B.me_Keys_told GT hr4 bT .nil passF (pa_cons (pv 2) pa_nil)) (pe_callTy call_tuple_of (by rfl) B.b_tuple bt_tuple (pa_cons (pe_lc (own := [("_law_far", 3)]) (g := gName 3) (tt := tB (tMeth (He.ga K "Keys") "tells" (spTells K) [] (fun _ _ _ => False) (tVar 0) (tCons (tVar 2) (tCons (tVar 3) tNil)))) (te := tVar 3) rfl sc_od.nd (pi_list (pv 1)) (blkOk_by (N := NOd) (sc := defScope s__law_order_right) (by decide +kernel)) (fun _ _ _ _ _ => pg_name (i := 3) sc_od.nd rfl (Or.inl rfl)) (fun _ _ _ _ _ => pts_one (pt_val (pe_meth (E := fun _ _ _ => False) (pv 0) B.cl_Keys B.me_Keys_tells GS hr5 bS .nil passF (pa_cons (pv 2) (pa_cons (pv 3) pa_nil))))) (fun _ _ _ _ _ => pv 3)) pa_nil)) (nomark _)) (pss_one (ps_ret pe_bl)) pss_nil)) (pss_one (ps_for PassesOwn.never rfl (pi_list (pv 1)) (pg_name (i := 3) sc_od.nd rfl (Or.inl rfl)) (pss_cons (ps_cut (ps_if (pt_cmpR op_ne (pe_meth (E := fun _ _ _ => False) (pv 0) B.cl_Keys B.me_Keys_tells GS hr5 bS .nil passF (pa_cons (pv 2) (pa_cons (pv 3) pa_nil))) (pe_cmpR (op_inT hu65) (pe_tup (pa_cons (pv 2) (pa_cons (pv 3) pa_nil))) (pe_prop (pv 0) B.cl_Keys B.pr_Keys_pairs GP hr2 bP .nil pass0 rfl) (by rfl)) (nomark _)) (pss_one (ps_ret pe_bl)) pss_nil)) (pss_cons (ps_cut (ps_if (PW.pt (pw_and (pt_val (pe_meth (E := fun _ _ _ => False) (pv 0) B.cl_Keys B.me_Keys_tells GS hr5 bS .nil passF (pa_cons (pv 2) (pa_cons (pv 3) pa_nil)))) (pw_and1 (pt_val (pe_meth (E := fun _ _ _ => False) (pv 0) B.cl_Keys B.me_Keys_tells GS hr5 bS .nil passF (pa_cons (pv 3) (pa_cons (pv 2) pa_nil))))))) (pss_one (ps_ret pe_bl)) pss_nil)) (pss_one (ps_cut (ps_if (PW.pt (pw_and (pt_val (pe_meth (E := fun _ _ _ => False) (pv 0) B.cl_Keys B.me_Keys_tells GS hr5 bS .nil passF (pa_cons (pv 2) (pa_cons (pv 3) pa_nil)))) (pw_and1 (pt_not (pt_val (pe_callB (cr_all rfl) (by rfl) B.b_all (by decide +kernel) (pa_cons (pe_lc (own := [("_law_bit", 4)]) (g := gName 4) (tt := tYes) (te := tMeth (He.ga K "Keys") "tells" (spTells K) [] (fun _ _ _ => False) (tVar 0) (tCons (tVar 2) (tCons (tVar 4) tNil))) rfl sc_od.nd (pi_tup (pe_meth (E := fun _ _ _ => False) (pv 0) B.cl_Keys B.me_Keys_told GT hr4 bT .nil passF (pa_cons (pv 3) pa_nil))) (blkOk_by (N := NOd) (sc := defScope s__law_order_right) (by decide +kernel)) (fun _ _ _ _ _ => pg_name (i := 4) sc_od.nd rfl (Or.inl rfl)) (fun _ _ _ _ _ => pts_nil) (fun _ _ _ _ _ => (pe_meth (E := fun _ _ _ => False) (pv 0) B.cl_Keys B.me_Keys_tells GS hr5 bS .nil passF (pa_cons (pv 2) (pa_cons (pv 4) pa_nil))))) pa_nil))))))) (pss_one (ps_ret pe_bl)) pss_nil)))))))))))
      (pss_one (ps_ret (pe_cmpR op_eq (pe_callB call_len_seq (by rfl) B.b_len (by decide +kernel) (pa_cons (pe_prop (pv 0) B.cl_Keys B.pr_Keys_pairs GP hr2 bP .nil pass0 rfl) pa_nil)) (pe_callB (cr_sum rfl) (by rfl) B.b_sum (by decide +kernel) (pa_cons (pe_lc (own := [("_law_own", 2)]) (g := gName 2) (tt := tYes) (te := tCB (fun xs H Q => ∃ p ys, xs = [V.ref p] ∧ (SqL K H p ys ∨ SqT K H p ys) ∧ Q (.int ys.length) H) (tCons (tMeth (He.ga K "Keys") "told" (spTold K) [] (fun _ _ _ => False) (tVar 0) (tCons (tVar 2) tNil)) tNil)) rfl sc_od.nd (pi_list (pv 1)) (blkOk_by (N := NOd) (sc := defScope s__law_order_right) (by decide +kernel)) (fun _ _ _ _ _ => pg_name (i := 2) sc_od.nd rfl (Or.inl rfl)) (fun _ _ _ _ _ => pts_nil) (fun _ _ _ _ _ => (pe_callB call_len_seq (by rfl) B.b_len (by decide +kernel) (pa_cons (pe_meth (E := fun _ _ _ => False) (pv 0) B.cl_Keys B.me_Keys_told GT hr4 bT .nil passF (pa_cons (pv 2) pa_nil)) pa_nil)))) pa_nil)) (nomark _)))))
, ?_⟩
    obtain ⟨dx, tn, d0, A0, hx, htn, hd0, hA0, nd, l7, sok, t7⟩ := id ko
    have big : (1000 : Nat) ≤ sizeLine := by decide
    have tA : ∀ z ∈ ns, toldAt ns t z = t z := fun z hz => if_neg fun e : z = "#" => od.noh (e ▸ hz)
    have tsub : ∀ a ∈ ns, ∀ z ∈ t a, z ∈ ns := fun a ha => (t7 a ha).2
    have pok : ∀ p ∈ pairsOf ns t, PyData.strOk p.1 = true ∧ PyData.strOk p.2 = true := fun p hp => let h := pairs_ok t7 hp; ⟨sok _ h.1, sok _ h.2⟩
    refine ⟨fun σ' H' => ∃ f, σ' = [some (.ref x), some (.ref f), none, none, none] ∧ Same H H' ∧ H' f = some (.lst (ns.map V.str)), ?_, ?_⟩
    · refine ⟨_, rfl, x, dx, _, rfl, hx, x, ns, t, rfl, ko, fun p hp => ⟨p, _, rfl, .inr (SqT.of hp), fun f nf => ⟨f, rfl, Same_new nf, upd_same⟩⟩⟩
    rintro σ1 H1 ⟨f, rfl, s1, hf⟩
    replace ko := ko.same s1
    replace hx := s1 _ _ hx
    refine ⟨fun σ' H' => ∃ v2 v3 : Option V, σ' = [some (.ref x), some (.ref f), v2, v3, none] ∧ Same H1 H', ?_, ?_⟩
    · refine ⟨_, rfl, f, rfl, ⟨_, SqL.of hf⟩, ?_⟩
      refine for_it (walk_list (xs := ns.map V.str)) (fun i σ H' => ∃ v2 v3 : Option V, σ = [some (.ref x), some (.ref f), v2, v3, none] ∧ Same H1 H') ⟨none, none, rfl, Same.refl _⟩ (fun i σ H' _ ⟨_, _, _, s'⟩ => SqL.of (s' _ _ hf)) (fun i xx σ H2 H3 hi ⟨v2, v3, e, s2⟩ y => ?_) (fun σ H2 ⟨v2, v3, e, s2⟩ => ⟨v2, v3, e, s2⟩)
      obtain ⟨rfl, hxx⟩ := y
      subst e
      obtain ⟨a, ha, rfl⟩ := at_str hxx
      have hai : a ∈ ns := List.mem_of_getElem? ha
      have ko3 := ko.same s2
      have hx3 := s2 _ _ hx
      have hf3 := s2 _ _ hf
      refine ⟨fun σ' H' => σ' = [some (.ref x), some (.ref f), some (.str a), v3, none] ∧ H' = H3, ?_, ?_⟩
      · refine ⟨_, rfl, x, dx, _, rfl, hx3, rfl, _, rfl, _, rfl, x, a, a, ns, t, rfl, ko3, fun _ _ => ⟨_, rfl, ifdn (by rw [tA a hai]; exact od.irr a hai) ?_⟩, tells_no (.inr hai) (.inr hai)⟩
        refine ⟨_, rfl, x, dx, _, rfl, hx3, rfl, _, rfl, x, a, "#", ns, t, rfl, ko3, fun _ _ => ⟨_, rfl, ifdn (by rw [tA a hai]; exact fun h => od.noh (tsub a hai _ h)) ?_⟩, tells_no (.inr hai) (.inl rfl)⟩
        refine ⟨_, rfl, x, dx, _, rfl, hx3, rfl, _, rfl, x, "#", a, ns, t, rfl, ko3, fun _ _ => ⟨_, rfl, ?_⟩, tells_no (.inl rfl) (.inr hai)⟩
        rw [decide_eq_true (show a ∈ toldAt ns t "#" from hai)]
        exact iteF ⟨rfl, rfl⟩
      rintro σ3 H3' ⟨rfl, rfl⟩
      refine ⟨fun σ' H' => σ' = [some (.ref x), some (.ref f), some (.str a), v3, none] ∧ Same H3' H', ?_, ?_⟩
      · refine ⟨_, rfl, x, dx, _, rfl, hx3, rfl, _, rfl, x, a, ns, t, rfl, ko3, fun _ p hp => ?_, fun h => absurd (.inr hai) h⟩
        refine ⟨_, rfl, f, rfl, ⟨_, SqL.of hf3⟩, fun D hD => ?_⟩
        refine lc_fm (walk_list (xs := ns.map V.str)) (fun j => (ns[j]?).bind fun z => if decide (z ∈ t a) = true then some (V.str z) else Option.none) hD (by rw [List.length_map]; omega) (fun H' s' => sm_seqL s' (SqL.of hf3)) (fun j v H5 H6 Kt Kf hj s5 y kt kf => ?_) (fun H5 s5 hD5 => ?_)
        · obtain ⟨rfl, hv⟩ := y
          obtain ⟨z, hz, rfl⟩ := at_str hv
          have hzi : z ∈ ns := List.mem_of_getElem? hz
          refine ⟨rfl, _, rfl, x, dx, _, rfl, s5 _ _ hx3, rfl, _, rfl, _, rfl, x, a, z, ns, t, rfl, ko3.same s5, fun _ _ => ⟨_, rfl, ?_⟩, tells_no (.inr hai) (.inr hzi)⟩
          rw [tA a hai]
          refine two (fun h1 => ?_) (fun h1 => ?_)
          · exact ⟨_, rfl, kt _ _ (by rw [hz]; show (if decide (z ∈ t a) = true then _ else _) = _; rw [if_pos h1]) (Same.refl _)⟩
          · exact kf _ (by rw [hz]; show (if decide (z ∈ t a) = true then _ else _) = _; rw [if_neg (by rw [h1]; exact Bool.false_ne_true)]) (Same.refl _)
        · rw [List.length_map, fm_bind, fm_filter] at hD5
          refine ⟨D, _, rfl, .inl ⟨SqL.of hD5, fun q nq => ?_⟩⟩
          have sq := Same_new (o := HO.tup ((ns.filter fun z => decide (z ∈ t a)).map V.str)) nq
          have so : ∀ z ∈ t a, PyData.strOk z = true := fun z hz => sok z (tsub a hai z hz)
          rw [tA a hai] at hp
          refine ⟨_, _, .tup (SqT.of (sq _ _ (s5 _ _ hp))) (dp_strs _), .tup (SqT.of upd_same) (dp_strs _), shp_strs so, shp_strs (fun z hz => sok z (List.mem_filter.mp hz).1), _, rfl, ?_⟩
          have ee : PyData.eqv (.tuple ((t a).map PyData.str)) (.tuple ((ns.filter fun z => decide (z ∈ t a)).map PyData.str)) = true := by
            rw [eqv_tups, ← od.row a hai]
            exact decide_eq_true rfl
          rw [ee]
          exact iteF ⟨rfl, s5.trans sq⟩
      rintro σ4 H4 ⟨rfl, s4⟩
      have ko4 := ko3.same s4
      have hx4 := s4 _ _ hx3
      have hf4 := s4 _ _ hf3
      refine ⟨_, rfl, f, rfl, ⟨_, SqL.of hf4⟩, ?_⟩
      refine for_it (walk_list (xs := ns.map V.str)) (fun i σ H' => ∃ v3 : Option V, σ = [some (.ref x), some (.ref f), some (.str a), v3, none] ∧ Same H4 H') ⟨v3, rfl, Same.refl _⟩ (fun i σ H' _ ⟨_, _, s'⟩ => SqL.of (s' _ _ hf4)) (fun i xx σ H5 H6 hi ⟨v3, e, s5⟩ y => ?_) (fun σ H5 ⟨v3, e, s5⟩ => ⟨_, _, e, (s2.trans s4).trans s5⟩)
      obtain ⟨rfl, hbb⟩ := y
      subst e
      obtain ⟨b, hb, rfl⟩ := at_str hbb
      have hbi : b ∈ ns := List.mem_of_getElem? hb
      have ko6 := ko4.same s5
      have hx6 := s5 _ _ hx4
      refine ⟨fun σ' H' => σ' = [some (.ref x), some (.ref f), some (.str a), some (.str b), none] ∧ Same H6 H', ?_, ?_⟩
      · refine ⟨_, rfl, x, dx, _, rfl, hx6, rfl, _, rfl, _, rfl, x, a, b, ns, t, rfl, ko6, fun _ _ => ?_, tells_no (.inr hai) (.inr hbi)⟩
        rw [tA a hai]
        refine ⟨_, rfl, _, rfl, (by show 2 ≤ sizeLine; decide), fun q nq => ?_⟩
        have sq := Same_new (o := HO.tup [V.str a, V.str b]) nq
        have gq := new_at (HO.tup [V.str a, V.str b]) nq
        refine ⟨_, rfl, x, dx, _, rfl, sq _ _ hx6, x, ns, t, rfl, ko6.same sq, fun H7 p qs s7 hp pr => ?_⟩
        have so2 : ∀ z ∈ [a, b], PyData.strOk z = true := fun z hz => by
          simp only [List.mem_cons, List.not_mem_nil, or_false] at hz
          rcases hz with rfl | rfl
          · exact sok _ hai
          · exact sok _ hbi
        refine ⟨_, _, .tup (SqT.of (s7 _ _ gq)) (dp_strs [a, b]), .tup (SqT.of hp) (dp_pairs pr), shp_strs so2, shp_pairs pok, ?_⟩
        have ea : ((dPairs (pairsOf ns t)).any fun z => PyData.eqv z (.tuple ([a, b].map PyData.str))) = decide (b ∈ t a) := by
          rw [show (PyData.tuple ([a, b].map PyData.str)) = .tuple [.str a, .str b] from rfl, any_pair]
          refine decide_eq_decide.mpr ⟨fun h => (pairs_mem h).2, fun h => List.mem_flatMap.mpr ⟨a, hai, List.mem_map.mpr ⟨b, h, rfl⟩⟩⟩
        rw [ea]
        refine ⟨rfl, _, rfl, ?_⟩
        rw [decide_eq_true (show V.bl (decide (b ∈ t a)) = V.bl (decide (b ∈ t a)) from rfl)]
        exact iteF ⟨rfl, sq.trans s7⟩
      rintro σ7 H7 ⟨rfl, s7⟩
      have ko7 := ko6.same s7
      have hx7 := s7 _ _ hx6
      refine ⟨fun σ' H' => σ' = [some (.ref x), some (.ref f), some (.str a), some (.str b), none] ∧ H' = H7, ?_, ?_⟩
      · refine ⟨_, rfl, x, dx, _, rfl, hx7, rfl, _, rfl, _, rfl, x, a, b, ns, t, rfl, ko7, fun _ _ => ⟨_, rfl, ?_⟩, tells_no (.inr hai) (.inr hbi)⟩
        rw [tA a hai]
        refine two (fun h1 => ?_) (fun h1 => iteF ⟨rfl, rfl⟩)
        have h1 := of_decide_eq_true h1
        refine ⟨_, rfl, x, dx, _, rfl, hx7, rfl, _, rfl, _, rfl, x, b, a, ns, t, rfl, ko7, fun _ _ => ⟨_, rfl, ?_⟩, tells_no (.inr hbi) (.inr hai)⟩
        rw [tA b hbi, decide_eq_false (od.asy a hai b h1)]
        exact iteF ⟨rfl, rfl⟩
      rintro σ8 H8 ⟨rfl, rfl⟩
      refine ⟨fun σ' H' => σ' = [some (.ref x), some (.ref f), some (.str a), some (.str b), none] ∧ Same H8 H', ?_, fun σ' H' ⟨e, s'⟩ => ⟨_, e, (s5.trans s7).trans s'⟩⟩
      refine ⟨_, rfl, x, dx, _, rfl, hx7, rfl, _, rfl, _, rfl, x, a, b, ns, t, rfl, ko7, fun _ _ => ⟨_, rfl, ?_⟩, tells_no (.inr hai) (.inr hbi)⟩
      rw [tA a hai]
      refine two (fun h1 => ?_) (fun h1 => iteF ⟨rfl, Same.refl _⟩)
      have h1 := of_decide_eq_true h1
      refine ⟨_, rfl, x, dx, _, rfl, hx7, rfl, _, rfl, x, b, ns, t, rfl, ko7, fun _ p hp => ?_, fun h => absurd (.inr hbi) h⟩
      rw [tA b hbi] at hp
      refine ⟨p, rfl, ⟨_, SqT.of hp⟩, fun D hD => ?_⟩
      refine lc_fm (walk_tup (xs := (t b).map V.str)) (fun _ => some (.bl true)) hD (by rw [List.length_map]; have := (t7 b hbi).1; omega) (fun H' s' => sm_seqT s' (SqT.of hp)) (fun j v H9 HA Kt Kf hj s9 y kt kf => ?_) (fun H9 s9 hD9 => ?_)
      · obtain ⟨rfl, hv⟩ := y
        obtain ⟨c, hc, rfl⟩ := at_str hv
        have hc := List.mem_of_getElem? hc
        have hci := tsub b hbi c hc
        refine ⟨rfl, iteT (B := Kf HA) ?_⟩
        refine ⟨_, rfl, x, dx, _, rfl, s9 _ _ hx7, rfl, _, rfl, _, rfl, x, a, c, ns, t, rfl, ko7.same s9, fun _ _ => ?_, tells_no (.inr hai) (.inr hci)⟩
        rw [tA a hai, decide_eq_true (od.tra a hai b h1 c hc)]
        exact kt _ _ rfl (Same.refl _)
      · refine ⟨D, List.replicate ((t b).map V.str).length true, rfl, SqL.of (hD9.trans (by rw [rep_true])), _, rfl, ?_⟩
        rw [rep_all]
        exact iteF ⟨rfl, s9⟩
    rintro σ9 H9 ⟨v2, v3, rfl, s9⟩
    have ko9 := ko.same s9
    have hx9 := s9 _ _ hx
    have hf9 := s9 _ _ hf
    refine ⟨_, rfl, x, dx, _, rfl, hx9, x, ns, t, rfl, ko9, fun HA p qs sA hp pr => ?_⟩
    refine ⟨p, _, rfl, .inr (SqT.of hp), ?_⟩
    refine ⟨_, rfl, f, rfl, ⟨_, SqL.of (sA _ _ hf9)⟩, fun D hD => ?_⟩
    refine lc_fm (walk_list (xs := ns.map V.str)) (fun i => (ns[i]?).map fun z => V.int ((t z).length : Nat)) hD (by rw [List.length_map]; omega) (fun H' s' => sm_seqL s' (SqL.of (sA _ _ hf9))) (fun j v HB HC Kt Kf hj sB y kt kf => ?_) (fun HB sB hDB => ?_)
    · obtain ⟨rfl, hv⟩ := y
      obtain ⟨z, hz, rfl⟩ := at_str hv
      have hzi : z ∈ ns := List.mem_of_getElem? hz
      refine ⟨rfl, iteT (B := Kf HC) ?_⟩
      refine ⟨_, rfl, x, dx, _, rfl, sB _ _ (sA _ _ hx9), rfl, _, rfl, x, z, ns, t, rfl, (ko9.same sA).same sB, fun _ p2 hp2 => ?_, fun h => absurd (.inr hzi) h⟩
      rw [tA z hzi] at hp2
      refine ⟨p2, _, rfl, .inr (SqT.of hp2), kt _ _ ?_ (Same.refl _)⟩
      rw [hz, List.length_map]
      rfl
    · have eD : (List.range (ns.map V.str).length).filterMap (fun i => (ns[i]?).map fun z => V.int ((t z).length : Nat)) = (ns.map fun z => ((t z).length : Int)).map V.int := by
        rw [List.length_map, List.map_map]
        exact fm_some fun i z hz => by rw [hz]; rfl
      rw [eD] at hDB
      refine ⟨D, _, rfl, SqL.of hDB, rfl, ?_⟩
      have el : ((qs.map V.ref).length : Int) = (ns.map fun z => ((t z).length : Int)).sum := by
        rw [List.length_map, pr.1]
        exact pairs_sum t ns
      rw [decide_eq_true (congrArg V.int el)]
      exact k _ ((s1.trans s9).trans (sA.trans sB))
end
end Jd
namespace Jd
open PySem PySem.Spec PyProof.Rows L2
/-! ### the ring -/
theorem via_ord {ns : List Str} {t : Str → List Str} (od : OrdT ns t) (ts : ∀ a ∈ ns, ∀ z ∈ t a, z ∈ ns) {a b : Str} : Via (pairsOf ns t) ns a b ↔ a ∈ ns ∧ b ∈ t a := by
  constructor
  · intro v
    induction v with
    | one q => exact pairs_mem q
    | two _ m _ ih1 ih2 => exact ⟨ih1.1, od.tra _ ih1.1 _ ih1.2 _ ih2.2⟩
  · rintro ⟨h1, h2⟩
    exact .one (List.mem_flatMap.mpr ⟨a, h1, List.mem_map.mpr ⟨b, h2, rfl⟩⟩)
def hiB (t : Str → List Str) (o : Str) (b : Str) : Bool := decide (b = o ∨ o ∈ t b)
def loB (t : Str → List Str) (f : Str) (b : Str) : Bool := decide (b = f ∨ b ∈ t f)
def meetOf (ns : List Str) (t : Str → List Str) (o f : Str) : List Str := (ns.filter (hiB t o)).filter fun b => decide (b ∈ ns.filter (loB t f))
theorem ring_meet {ns : List Str} {t : Str → List Str} (od : OrdT ns t) (ts : ∀ a ∈ ns, ∀ z ∈ t a, z ∈ ns) {o f : Str} (ho : o ∈ ns) (hf : f ∈ ns) : ringOf (pairsOf ns t ++ [(o, f)]) ns = meetOf ns t o f := by
  unfold ringOf meetOf
  rw [List.filter_filter]
  refine List.filter_congr fun n hn => ?_
  unfold hiB
  rw [← Bool.decide_and]
  refine decide_eq_decide.mpr ?_
  rw [told_in, via_more ho hf, via_ord od ts, List.mem_filter]
  unfold Upto loB
  rw [via_ord od ts, via_ord od ts, decide_eq_true_iff]
  constructor
  · rintro ⟨_, h | ⟨h1, h2⟩⟩
    · exact absurd h.2 (od.irr n hn)
    · refine ⟨⟨hn, ?_⟩, h1.imp id And.right⟩
      rcases h2 with e | h2
      · exact .inl e.symm
      · exact .inr h2.2
  · rintro ⟨⟨_, h2⟩, h1⟩
    refine ⟨hn, .inr ⟨h1.imp id fun h => ⟨hn, h⟩, ?_⟩⟩
    rcases h2 with e | h2
    · exact .inl e.symm
    · exact .inr ⟨hf, h2⟩
def goalB (ns : List Str) (t : Str → List Str) (o f b l : Str) : Bool := decide ((b, l) ∈ pairsOf ns t) || (decide (b ∈ ns.filter (hiB t o)) && decide (l ∈ ns.filter (loB t f)))
def goalOf (ns : List Str) (t : Str → List Str) (o f : Str) : Str → List Str := fun b => ns.filter (goalB ns t o f b)
theorem told_goal {ns : List Str} {t : Str → List Str} (od : OrdT ns t) (ts : ∀ a ∈ ns, ∀ z ∈ t a, z ∈ ns) {o f : Str} (ho : o ∈ ns) (hf : f ∈ ns) : pairsOf ns (toldOf (pairsOf ns t ++ [(o, f)]) ns) = pairsOf ns (goalOf ns t o f) := by
  have key : ∀ b ∈ ns, toldOf (pairsOf ns t ++ [(o, f)]) ns b = goalOf ns t o f b := fun b hb => by
    unfold toldOf goalOf
    refine List.filter_congr fun l hl => ?_
    unfold goalB
    rw [← Bool.decide_and, ← Bool.decide_or]
    refine decide_eq_decide.mpr ?_
    rw [close_in, via_more ho hf, List.mem_filter, List.mem_filter]
    unfold Upto loB hiB
    rw [decide_eq_true_iff, decide_eq_true_iff]
    refine or_congr ?_ (and_congr ?_ ?_)
    · rw [via_ord od ts]
      exact ⟨fun h => List.mem_flatMap.mpr ⟨b, h.1, List.mem_map.mpr ⟨l, h.2, rfl⟩⟩, fun h => pairs_mem h⟩
    · rw [via_ord od ts]
      exact ⟨fun h => ⟨hb, h.imp id And.right⟩, fun h => h.2.imp id fun z => ⟨hb, z⟩⟩
    · rw [via_ord od ts]
      exact ⟨fun h => ⟨hl, h.elim (fun e => .inl e.symm) fun z => .inr z.2⟩, fun h => h.2.elim (fun e => .inl e.symm) fun z => .inr ⟨hf, z⟩⟩
  have go : ∀ l : List Str, (∀ b ∈ l, b ∈ ns) → (l.flatMap fun n => (toldOf (pairsOf ns t ++ [(o, f)]) ns n).map fun z => (n, z)) = l.flatMap fun n => (goalOf ns t o f n).map fun z => (n, z) := by
    intro l
    induction l with
    | nil => intro _; rfl
    | cons b l ih =>
      intro h
      rw [List.flatMap_cons, List.flatMap_cons, ih fun z hz => h z (List.mem_cons_of_mem _ hz), key b (h b List.mem_cons_self)]
  exact go ns fun _ h => h
theorem sm_lf {H : Hp} {n : Nat} {a b : Addr} {xs : List Str} (h1 : H a = some (.lst (xs.map V.str))) (h2 : H b = some (.lst (xs.map V.str))) (l : xs.length < 1000) : Sm H (n + 1) (.ref a) (.ref b) :=
  Or.inr ⟨a, b, _, _, rfl, rfl, rfl, by rw [List.length_map]; exact l, fun i u v e1 e2 => sm_str e1 e2, .inl ⟨h1, h2⟩⟩
theorem eqv_lnil (xs : List Str) : PyData.eqv (.list (xs.map PyData.str)) (.list []) = decide (xs = []) := by
  cases xs with
  | nil => simp [PyData.eqv, PyData.eqvAll]
  | cons p r => simp [PyData.eqv, PyData.eqvAll]
theorem shp_strsL {xs : List Str} (h : ∀ x ∈ xs, PyData.strOk x = true) : SeqAt.shaped (.list (xs.map PyData.str)) = true := by
  unfold SeqAt.shaped
  rw [Bool.and_eq_true]
  refine ⟨by simpa [PyData.canLay0] using lay_strs xs h, decide_eq_true ?_⟩
  simp only [PyData.depth]
  have := dep_strs xs
  omega
theorem pr_of {H : Hp} {qs : List Addr} {prs : List (Str × Str)} (p : Paired (fun q (pr : Str × Str) => H q = some (.tup [.str pr.1, .str pr.2])) qs prs) : PrAt H qs prs := ⟨p.length, fun i q h => pr_at p h⟩
def spRing (K : PySem.W.Frag) : Sp := fun vs H Q _ => ∃ (x : Addr) (o f : Str) (ns : List Str) (t : Str → List Str), vs = [.ref x, .str o, .str f] ∧ KeysO K H x ns t ∧ OrdT ns t ∧ o ∈ ns ∧ f ∈ ns ∧ ∀ H', Same H H' → Q (.bl true) H'
section
variable {P : Program} {w : World} {K : PySem.W.Frag} {mg : Str → Option Value} {base : Heap}
abbrev NRr : List Str := ["_law_keyring", "_law_own", "_law_far", "_law_flats", "_law_high", "_law_bit", "_law_low", "_law_meet", "_law_got", "_law_goal", "_law_lot"]
theorem sc_rr : FnScope NRr ["_law_keyring", "_law_own", "_law_far"] (defScope s__law_ring_right) := ⟨rfl, rfl, rfl, by decide +kernel, rfl, by decide +kernel, by decide +kernel⟩
theorem ok_ring (B : Bk K mg) : Df P w K mg base CX0 6 "_law_ring_right" ["_law_keyring", "_law_own", "_law_far"] (spRing K) := by
  obtain ⟨fd, F⟩ := B.F_law_ring_right
  obtain ⟨fdN, GN, bN⟩ := ok_names (P := P) (w := w) (base := base) B
  obtain ⟨fdP, GP, bP⟩ := ok_pairs (P := P) (w := w) (base := base) B
  obtain ⟨fdS, GS, FS⟩ := ok_tells (P := P) (w := w) (base := base) B
  have bS : Binds K fdS ["self", "one", "other"] [] := FS.binds fun _ _ _ _ _ _ us hl => match us, hl with | [_, _, _], _ => rfl
  obtain ⟨fdM, GM, bM⟩ := (ok_more (P := P) (w := w) (base := base) B).ex
  have kM := (ok_more (P := P) (w := w) (base := base) B).kp
  obtain ⟨fdQ, GQ, bQ⟩ := (ok_law_same (P := P) (w := w) (base := base) B 2).ex
  have kQ := (ok_law_same (P := P) (w := w) (base := base) B 2).kp
  refine ⟨⟨fd, ?_, F.binds fun _ _ _ _ _ _ us hl => match us, hl with | [_, _, _], _ => rfl⟩, B.g_law_ring_right, F.kp⟩
  refine F.ok sc_rr (fun vs H Q E h => ?_) (fun cdv A outer s H vs Q E hr h => ?_)
  · obtain ⟨_, _, _, _, _, rfl, _⟩ := h
    rfl
  · obtain ⟨x, o, f, ns, t, rfl, ko, od, ho, hf, k⟩ := h
    have hr2 : Room 2 _ := hr.mono (by decide)
    have hr4 : Room 4 _ := hr.mono (by decide)
    have hr5 : Room 5 _ := hr
    have hu65 : (A.deeper (envOfC "_law_ring_right" (defScope s__law_ring_right) s.heap.objs.size (He.ga K "_law_ring_right") cdv)).units + 65 < cLine := by
      have := hr.un
      omega
    refine ⟨_, 
pss_cons (ps_cut (ps_set (i := 3) sc_rr.nd rfl (Or.inl rfl) (pe_prop (pv 0) B.cl_Keys B.pr_Keys_names GN hr2 bN .nil pass0 rfl)))
      (pss_cons (ps_cut (ps_set (i := 4) sc_rr.nd rfl (Or.inr rfl) (pe_lc (own := [("_law_bit", 5)]) (g := gName 5) (tt := tOr (tTest (tOp rEq (tVar 5) (tVar 1))) (tB (tMeth (He.ga K "Keys") "tells" (spTells K) [] (fun _ _ _ => False) (tVar 0) (tCons (tVar 5) (tCons (tVar 1) tNil))))) (te := tVar 5) rfl sc_rr.nd (pi_tup (pv 3)) (blkOk_by (N := NRr) (sc := defScope s__law_ring_right) (by decide +kernel)) (fun _ _ _ _ _ => pg_name (i := 5) sc_rr.nd rfl (Or.inl rfl)) (fun _ _ _ _ _ => pts_one (PW.pt (pw_or (pt_cmpR op_eq (pv 5) (pv 1) (nomark _)) (pw_or1 (pt_val (pe_meth (E := fun _ _ _ => False) (pv 0) B.cl_Keys B.me_Keys_tells GS hr5 bS .nil passF (pa_cons (pv 5) (pa_cons (pv 1) pa_nil)))))))) (fun _ _ _ _ _ => pv 5))))
      (pss_cons (ps_cut (ps_set (i := 6) sc_rr.nd rfl (Or.inr rfl) (pe_lc (own := [("_law_bit", 5)]) (g := gName 5) (tt := tOr (tTest (tOp rEq (tVar 5) (tVar 2))) (tB (tMeth (He.ga K "Keys") "tells" (spTells K) [] (fun _ _ _ => False) (tVar 0) (tCons (tVar 2) (tCons (tVar 5) tNil))))) (te := tVar 5) rfl sc_rr.nd (pi_tup (pv 3)) (blkOk_by (N := NRr) (sc := defScope s__law_ring_right) (by decide +kernel)) (fun _ _ _ _ _ => pg_name (i := 5) sc_rr.nd rfl (Or.inl rfl)) (fun _ _ _ _ _ => pts_one (PW.pt (pw_or (pt_cmpR op_eq (pv 5) (pv 2) (nomark _)) (pw_or1 (pt_val (pe_meth (E := fun _ _ _ => False) (pv 0) B.cl_Keys B.me_Keys_tells GS hr5 bS .nil passF (pa_cons (pv 2) (pa_cons (pv 5) pa_nil)))))))) (fun _ _ _ _ _ => pv 5))))
      (pss_cons (ps_cut (ps_setLc (i := 7) (own := [("_law_bit", 5)]) (g := gName 5) (tt := tTest (tOp (rIn K false) (tVar 5) (tVar 6))) (te := tVar 5) rfl sc_rr.nd rfl rfl (sw_true rfl rfl rfl (by decide +kernel)) (pi_list (pv 4)) (blkOk_by (N := NRr) (sc := defScope s__law_ring_right) (by decide +kernel)) (fun _ _ _ _ _ => pg_name (i := 5) sc_rr.nd rfl (Or.inl rfl)) (fun _ _ _ _ _ => pts_one (pt_cmpR op_in_seq (pv 5) (pv 6) (by rfl))) (fun _ _ _ _ _ => pv 5)))
      (pss_cons (ps_cut (ps_set (i := 8) sc_rr.nd rfl (Or.inl rfl) (pe_call GM hr rfl B.g_law_more kM bM .nil pass0 (pa_cons (pv 0) (pa_cons (pv 1) (pa_cons (pv 2) pa_nil))))))
      (pss_cons (ps_cut (ps_if (pt_cmpR (op_neD hr.units) (pv 7) (pe_lst pa_nil) (nomark _)) (pss_one (ps_ret (pe_call GQ hr4 rfl B.g_law_same kQ bQ .nil pass0 (pa_cons (pv 8) (pa_cons (pv 7) pa_nil))))) pss_nil))
      (pss_cons (ps_cut (ps_set (i := 9) sc_rr.nd rfl (Or.inl rfl) (pe_lst pa_nil)))
      (pss_cons (ps_cut (ps_for PassesOwn.never rfl (pi_tup (pv 3)) (pg_name (i := 5) sc_rr.nd rfl (Or.inr rfl)) (pss_one (ps_set (i := 9) sc_rr.nd rfl (Or.inl rfl) (pe_op op_cat (pv 9) (pe_lc (own := [("_law_lot", 10)]) (g := gName 10) (tt := tOr (tTest (tOp (rInT K) (tTup (tCons (tVar 5) (tCons (tVar 10) tNil))) (tProp (He.ga K "Keys") (spPairs K) [] E0 (tVar 0)))) (tAnd (tTest (tOp (rIn K false) (tVar 5) (tVar 4))) (tTest (tOp (rIn K false) (tVar 10) (tVar 6))))) (te := tTup (tCons (tVar 5) (tCons (tVar 10) tNil))) rfl sc_rr.nd (pi_tup (pv 3)) (blkOk_by (N := NRr) (sc := defScope s__law_ring_right) (by decide +kernel)) (fun _ _ _ _ _ => pg_name (i := 10) sc_rr.nd rfl (Or.inl rfl)) (fun _ _ _ _ _ => pts_one (PW.pt (pw_or (pt_cmpR (op_inT hu65) (pe_tup (pa_cons (pv 5) (pa_cons (pv 10) pa_nil))) (pe_prop (pv 0) B.cl_Keys B.pr_Keys_pairs GP hr2 bP .nil pass0 rfl) (by rfl)) (pw_or1 (PW.pt (pw_and (pt_cmpR op_in_seq (pv 5) (pv 4) (by rfl)) (pw_and1 (pt_cmpR op_in_seq (pv 10) (pv 6) (by rfl))))))))) (fun _ _ _ _ _ => (pe_tup (pa_cons (pv 5) (pa_cons (pv 10) pa_nil))))))))))
      (pss_one (ps_ret (pe_call GQ hr4 rfl B.g_law_same kQ bQ .nil pass0 (pa_cons (pv 8) (pa_cons (pe_callTy call_tuple_of (by rfl) B.b_tuple bt_tuple (pa_cons (pv 9) pa_nil)) pa_nil))))))))))))
, ?_⟩
    obtain ⟨dx, tn, d0, A0, hx, htn, hd0, hA0, nd, l7, sok, t7⟩ := id ko
    have big : (1000 : Nat) ≤ sizeLine := by decide
    have tA : ∀ z ∈ ns, toldAt ns t z = t z := fun z hz => if_neg fun e : z = "#" => od.noh (e ▸ hz)
    have tsub : ∀ a ∈ ns, ∀ z ∈ t a, z ∈ ns := fun a ha => (t7 a ha).2
    have pok : ∀ p ∈ pairsOf ns t, PyData.strOk p.1 = true ∧ PyData.strOk p.2 = true := fun p hp => let h := pairs_ok t7 hp; ⟨sok _ h.1, sok _ h.2⟩
    refine ⟨fun σ' H' => ∃ fl, σ' = [some (.ref x), some (.str o), some (.str f), some (.ref fl), none, none, none, none, none, none, none] ∧ H' = H ∧ H' fl = some (.tup (ns.map V.str)), ?_, ?_⟩
    · exact ⟨_, rfl, x, dx, _, rfl, hx, x, ns, t, rfl, ko, fun p hp => ⟨p, rfl, rfl, hp⟩⟩
    rintro σ1 H1 ⟨fl, rfl, rfl, hfl⟩
    refine ⟨fun σ' H' => ∃ hi, σ' = [some (.ref x), some (.str o), some (.str f), some (.ref fl), some (.ref hi), none, none, none, none, none, none] ∧ Same H1 H' ∧ H' hi = some (.lst ((ns.filter (hiB t o)).map V.str)), ?_, ?_⟩
    · refine ⟨_, rfl, fl, rfl, ⟨_, SqT.of hfl⟩, fun D hD => ?_⟩
      refine lc_fm (walk_tup (xs := ns.map V.str)) (fun j => (ns[j]?).bind fun z => if hiB t o z = true then some (V.str z) else Option.none) hD (by rw [List.length_map]; omega) (fun H' s' => sm_seqT s' (SqT.of hfl)) (fun j v H5 H6 Kt Kf hj s5 y kt kf => ?_) (fun H5 s5 hD5 => ?_)
      · obtain ⟨rfl, hv⟩ := y
        obtain ⟨z, hz, rfl⟩ := at_str hv
        have hzi : z ∈ ns := List.mem_of_getElem? hz
        have yes : hiB t o z = true → ∀ G, Same H6 G → Kt (V.str z) G := fun h G sG => kt _ _ (by rw [hz]; show (if hiB t o z = true then _ else _) = _; rw [if_pos h]) sG
        have no : hiB t o z = false → ∀ G, Same H6 G → Kf G := fun h G sG => kf _ (by rw [hz]; show (if hiB t o z = true then _ else _) = _; rw [if_neg (by rw [h]; exact Bool.false_ne_true)]) sG
        refine ⟨rfl, _, rfl, _, rfl, rfl, _, rfl, two (fun h1 => iteT (B := ∃ z : Nat, z = 0) ?_) (fun h1 => ?_)⟩
        · exact ⟨_, rfl, yes (decide_eq_true (.inl (V.str.inj (of_decide_eq_true h1)))) _ (Same.refl _)⟩
        · have ne : z ≠ o := fun e => of_decide_eq_false h1 (by rw [e])
          refine ⟨_, rfl, x, dx, _, rfl, s5 _ _ hx, rfl, _, rfl, _, rfl, x, z, o, ns, t, rfl, ko.same s5, fun _ _ => ⟨_, rfl, ?_⟩, tells_no (.inr hzi) (.inr ho)⟩
          rw [tA z hzi]
          refine two (fun h2 => ?_) (fun h2 => ?_)
          · exact ⟨_, rfl, yes (decide_eq_true (.inr (of_decide_eq_true h2))) _ (Same.refl _)⟩
          · exact no (decide_eq_false fun h => h.elim ne (of_decide_eq_false h2)) _ (Same.refl _)
      · rw [List.length_map, fm_bind, fm_filter] at hD5
        exact ⟨D, rfl, s5, hD5⟩
    rintro σ2 H2 ⟨hi, rfl, s2, hhi⟩
    replace ko := ko.same s2
    replace hx := s2 _ _ hx
    replace hfl := s2 _ _ hfl
    refine ⟨fun σ' H' => ∃ lo, σ' = [some (.ref x), some (.str o), some (.str f), some (.ref fl), some (.ref hi), none, some (.ref lo), none, none, none, none] ∧ Same H2 H' ∧ H' lo = some (.lst ((ns.filter (loB t f)).map V.str)), ?_, ?_⟩
    · refine ⟨_, rfl, fl, rfl, ⟨_, SqT.of hfl⟩, fun D hD => ?_⟩
      refine lc_fm (walk_tup (xs := ns.map V.str)) (fun j => (ns[j]?).bind fun z => if loB t f z = true then some (V.str z) else Option.none) hD (by rw [List.length_map]; omega) (fun H' s' => sm_seqT s' (SqT.of hfl)) (fun j v H5 H6 Kt Kf hj s5 y kt kf => ?_) (fun H5 s5 hD5 => ?_)
      · obtain ⟨rfl, hv⟩ := y
        obtain ⟨z, hz, rfl⟩ := at_str hv
        have hzi : z ∈ ns := List.mem_of_getElem? hz
        have yes : loB t f z = true → ∀ G, Same H6 G → Kt (V.str z) G := fun h G sG => kt _ _ (by rw [hz]; show (if loB t f z = true then _ else _) = _; rw [if_pos h]) sG
        have no : loB t f z = false → ∀ G, Same H6 G → Kf G := fun h G sG => kf _ (by rw [hz]; show (if loB t f z = true then _ else _) = _; rw [if_neg (by rw [h]; exact Bool.false_ne_true)]) sG
        refine ⟨rfl, _, rfl, _, rfl, rfl, _, rfl, two (fun h1 => iteT (B := ∃ z : Nat, z = 0) ?_) (fun h1 => ?_)⟩
        · exact ⟨_, rfl, yes (decide_eq_true (.inl (V.str.inj (of_decide_eq_true h1)))) _ (Same.refl _)⟩
        · have ne : z ≠ f := fun e => of_decide_eq_false h1 (by rw [e])
          refine ⟨_, rfl, x, dx, _, rfl, s5 _ _ hx, rfl, _, rfl, _, rfl, x, f, z, ns, t, rfl, ko.same s5, fun _ _ => ⟨_, rfl, ?_⟩, tells_no (.inr hf) (.inr hzi)⟩
          rw [tA f hf]
          refine two (fun h2 => ?_) (fun h2 => ?_)
          · exact ⟨_, rfl, yes (decide_eq_true (.inr (of_decide_eq_true h2))) _ (Same.refl _)⟩
          · exact no (decide_eq_false fun h => h.elim ne (of_decide_eq_false h2)) _ (Same.refl _)
      · rw [List.length_map, fm_bind, fm_filter] at hD5
        exact ⟨D, rfl, s5, hD5⟩
    rintro σ3 H3 ⟨lo, rfl, s3, hlo⟩
    replace ko := ko.same s3
    replace hx := s3 _ _ hx
    replace hfl := s3 _ _ hfl
    replace hhi := s3 _ _ hhi
    have lhi : (ns.filter (hiB t o)).length ≤ 7 := Nat.le_trans (List.length_filter_le _ _) l7
    refine ⟨fun σ' H' => ∃ me, σ' = [some (.ref x), some (.str o), some (.str f), some (.ref fl), some (.ref hi), none, some (.ref lo), some (.ref me), none, none, none] ∧ Same H3 H' ∧ H' me = some (.lst ((meetOf ns t o f).map V.str)), ?_, ?_⟩
    · refine ⟨_, rfl, hi, rfl, ⟨_, SqL.of hhi⟩, fun D hD => ?_⟩
      refine lc_fm (walk_list (xs := (ns.filter (hiB t o)).map V.str)) (fun j => ((ns.filter (hiB t o))[j]?).bind fun z => if decide (z ∈ ns.filter (loB t f)) = true then some (V.str z) else Option.none) hD (by rw [List.length_map]; omega) (fun H' s' => sm_seqL s' (SqL.of hhi)) (fun j v H5 H6 Kt Kf hj s5 y kt kf => ?_) (fun H5 s5 hD5 => ?_)
      · obtain ⟨rfl, hv⟩ := y
        obtain ⟨z, hz, rfl⟩ := at_str hv
        refine ⟨rfl, _, rfl, _, rfl, lo, _, rfl, .inl (SqL.of (s5 _ _ hlo)), rfl, fl_str, _, rfl, ?_⟩
        refine two (fun h2 => ?_) (fun h2 => ?_)
        · have h2' : inV (.str z) ((ns.filter (loB t f)).map V.str) = true := h2
          rw [inV_str] at h2'
          exact ⟨_, rfl, kt _ _ (by rw [hz]; show (if decide (z ∈ ns.filter (loB t f)) = true then _ else _) = _; rw [if_pos h2']) (Same.refl _)⟩
        · have h2' : inV (.str z) ((ns.filter (loB t f)).map V.str) = false := h2
          rw [inV_str] at h2'
          exact kf _ (by rw [hz]; show (if decide (z ∈ ns.filter (loB t f)) = true then _ else _) = _; rw [if_neg (by rw [h2']; exact Bool.false_ne_true)]) (Same.refl _)
      · rw [List.length_map, fm_bind, fm_filter] at hD5
        exact ⟨D, rfl, s5, hD5⟩
    rintro σ4 H4 ⟨me, rfl, s4, hme⟩
    replace ko := ko.same s4
    replace hx := s4 _ _ hx
    replace hfl := s4 _ _ hfl
    replace hhi := s4 _ _ hhi
    replace hlo := s4 _ _ hlo
    have s04 := (s2.trans s3).trans s4
    have erm := ring_meet od tsub ho hf
    have lme : (meetOf ns t o f).length ≤ 7 := Nat.le_trans (List.length_filter_le _ _) lhi
    have mok : ∀ z ∈ meetOf ns t o f, PyData.strOk z = true := fun z hz => sok z (List.mem_filter.mp (List.mem_filter.mp hz).1).1
    refine ⟨fun σ' H' => ∃ got, σ' = [some (.ref x), some (.str o), some (.str f), some (.ref fl), some (.ref hi), none, some (.ref lo), some (.ref me), some (.ref got), none, none] ∧ Same H4 H' ∧ ((meetOf ns t o f ≠ [] ∧ H' got = some (.lst ((meetOf ns t o f).map V.str))) ∨ (meetOf ns t o f = [] ∧ ∃ qs, H' got = some (.tup (qs.map V.ref)) ∧ PrAt H' qs (pairsOf ns (goalOf ns t o f)))), ?_, ?_⟩
    · refine ⟨_, rfl, _, rfl, _, rfl, x, o, f, ns, t, rfl, ko, od.so, ho, hf, fun e H' p qs s' hp pr => ?_, fun e H' l s' hl => ?_⟩
      · rw [erm] at e
        rw [told_goal od tsub ho hf] at pr
        exact ⟨p, rfl, s', .inr ⟨e, qs, hp, pr⟩⟩
      · rw [erm] at e hl
        exact ⟨l, rfl, s', .inl ⟨e, hl⟩⟩
    rintro σ5 H5 ⟨got, rfl, s5, hgot⟩
    replace ko := ko.same s5
    replace hx := s5 _ _ hx
    replace hfl := s5 _ _ hfl
    replace hhi := s5 _ _ hhi
    replace hlo := s5 _ _ hlo
    replace hme := s5 _ _ hme
    replace s04 := s04.trans s5
    refine ⟨fun σ' H' => σ' = [some (.ref x), some (.str o), some (.str f), some (.ref fl), some (.ref hi), none, some (.ref lo), some (.ref me), some (.ref got), none, none] ∧ Same H5 H' ∧ meetOf ns t o f = [], ?_, ?_⟩
    · refine ⟨_, rfl, Nat.zero_le _, fun e ne => ?_⟩
      have se := Same_new (o := HO.lst []) ne
      refine ⟨_, _, .lst (SqL.of (se _ _ hme)) (dp_strs _), .lst (SqL.of upd_same) .nil, shp_strsL mok, by decide +kernel, _, rfl, ?_⟩
      rw [eqv_lnil]
      rcases hgot with ⟨m1, hg⟩ | ⟨m0, _⟩
      · rw [decide_eq_false m1]
        refine iteT ⟨_, rfl, _, rfl, _, _, rfl, sm_lf (n := 1) (se _ _ hg) (se _ _ hme) (by omega), fun H' s' => k _ ((s04.trans se).trans s')⟩
      · rw [decide_eq_true m0]
        exact iteF ⟨rfl, se, m0⟩
    rintro σ6 H6 ⟨rfl, s6, m0⟩
    obtain ⟨gqs, hgot, gpr⟩ : ∃ qs, H5 got = some (.tup (qs.map V.ref)) ∧ PrAt H5 qs (pairsOf ns (goalOf ns t o f)) := by
      rcases hgot with ⟨m1, _⟩ | ⟨_, h⟩
      · exact absurd m0 m1
      · exact h
    replace ko := ko.same s6
    replace hx := s6 _ _ hx
    replace hfl := s6 _ _ hfl
    replace hhi := s6 _ _ hhi
    replace hlo := s6 _ _ hlo
    replace hgot := s6 _ _ hgot
    replace gpr := gpr.same s6
    replace s04 := s04.trans s6
    have glen : ∀ b, (goalOf ns t o f b).length ≤ 7 := fun b => Nat.le_trans (List.length_filter_le _ _) l7
    refine ⟨fun σ' H' => ∃ g, σ' = [some (.ref x), some (.str o), some (.str f), some (.ref fl), some (.ref hi), none, some (.ref lo), some (.ref me), some (.ref got), some (.ref g), none] ∧ Same H6 H' ∧ H' g = some (.lst []), ?_, ?_⟩
    · exact ⟨Nat.zero_le _, fun g ng => ⟨g, rfl, Same_new ng, upd_same⟩⟩
    rintro σ7 H7 ⟨g0, rfl, s7, hg0⟩
    refine ⟨fun σ' H' => ∃ (g : Addr) (v5 : Option V) (qs : List Addr), σ' = [some (.ref x), some (.str o), some (.str f), some (.ref fl), some (.ref hi), v5, some (.ref lo), some (.ref me), some (.ref got), some (.ref g), none] ∧ Same H6 H' ∧ H' g = some (.lst (qs.map V.ref)) ∧ PrAt H' qs (pairsOf ns (goalOf ns t o f)), ?_, ?_⟩
    · refine ⟨_, rfl, fl, rfl, ⟨_, SqT.of (s7 _ _ hfl)⟩, ?_⟩
      refine for_it (walk_tup (xs := ns.map V.str)) (fun i σ H' => ∃ (g : Addr) (v5 : Option V) (qs : List Addr), σ = [some (.ref x), some (.str o), some (.str f), some (.ref fl), some (.ref hi), v5, some (.ref lo), some (.ref me), some (.ref got), some (.ref g), none] ∧ Same H6 H' ∧ H' g = some (.lst (qs.map V.ref)) ∧ PrAt H' qs (pairsOf (ns.take i) (goalOf ns t o f)))
        ⟨g0, none, [], rfl, s7, hg0, PrAt.nil⟩ (fun i σ H' _ ⟨_, _, _, _, s', _⟩ => sm_seqT s' (SqT.of hfl)) (fun i xx σ H8 H9 hi' ⟨g, v5, qs, e, s8, hg, pr⟩ y => ?_) (fun σ H8 ⟨g, v5, qs, e, s8, hg, pr⟩ => ?_)
      · obtain ⟨rfl, hxx⟩ := y
        subst e
        obtain ⟨b, hb, rfl⟩ := at_str hxx
        have hbi : b ∈ ns := List.mem_of_getElem? hb
        refine ⟨_, rfl, ?_⟩
        refine ⟨_, rfl, fl, rfl, ⟨_, SqT.of (s8 _ _ hfl)⟩, fun D hD => ?_⟩
        refine lc_it (walk_tup (xs := ns.map V.str)) (fun j H' => Same H9 H' ∧ ∃ rs : List Addr, H' D = some (.lst (rs.map V.ref)) ∧ PrAt H' rs (((ns.take j).filter (goalB ns t o f b)).map fun l => (b, l)) ∧ rs.length ≤ j)
          ⟨Same_new hD, [], upd_same, PrAt.nil, Nat.zero_le _⟩ (fun j H' _ ⟨s', _⟩ => sm_seqT (s8.trans s') (SqT.of hfl)) (fun j v HA HB hj ⟨sA, rs, hDA, prA, lA⟩ y => ?_) (fun HA ⟨sA, rs, hDA, prA, lA⟩ => ?_)
        · obtain ⟨rfl, hv⟩ := y
          obtain ⟨l, hl, rfl⟩ := at_str hv
          have hli : l ∈ ns := List.mem_of_getElem? hl
          have hj7 : j < 7 := by
            have := (List.getElem?_eq_some_iff.mp hl).1
            omega
          have sB := s8.trans sA
          have add : ∀ (G : Hp) (q : Addr), goalB ns t o f b l = true → Same HB G → G q = none → ∃ acc, (upd G q (.tup [V.str b, V.str l])) D = some (.lst acc) ∧ acc.length < sizeLine ∧
              (Same H9 (upd (upd G q (.tup [V.str b, V.str l])) D (.lst (acc ++ [V.ref q]))) ∧ ∃ rs : List Addr, (upd (upd G q (.tup [V.str b, V.str l])) D (.lst (acc ++ [V.ref q]))) D = some (.lst (rs.map V.ref)) ∧ PrAt (upd (upd G q (.tup [V.str b, V.str l])) D (.lst (acc ++ [V.ref q]))) rs (((ns.take (j + 1)).filter (goalB ns t o f b)).map fun l => (b, l)) ∧ rs.length ≤ j + 1) := by
            intro G q yes sG nq
            have sq := Same_new (o := HO.tup [V.str b, V.str l]) nq
            have hDq := sq _ _ (sG _ _ hDA)
            have nqD : q ≠ D := fun z => by rw [z, sG _ _ hDA] at nq; cases nq
            refine ⟨_, hDq, by rw [List.length_map]; omega, Same_upd ((sA.trans sG).trans sq) hD, rs ++ [q], by rw [upd_same, List.map_append]; rfl, ?_, by rw [List.length_append]; show rs.length + 1 ≤ _; omega⟩
            rw [take_next hl, List.filter_append, List.map_append, List.filter_cons, if_pos yes]
            refine PrAt.snoc ⟨prA.1, fun i q' hq' => ?_⟩ (pr := (b, l)) (by rw [upd_ne nqD, upd_same])
            obtain ⟨pr', e1, e2⟩ := prA.2 i q' hq'
            exact ⟨pr', e1, by rw [upd_ne (ne_of (sq _ _ (sG _ _ e2)) hDq (by intro z; cases z))]; exact sq _ _ (sG _ _ e2)⟩
          have skip : ∀ G : Hp, goalB ns t o f b l = false → Same HB G → Same H9 G ∧ ∃ rs : List Addr, G D = some (.lst (rs.map V.ref)) ∧ PrAt G rs (((ns.take (j + 1)).filter (goalB ns t o f b)).map fun l => (b, l)) ∧ rs.length ≤ j + 1 := by
            intro G no sG
            refine ⟨sA.trans sG, rs, sG _ _ hDA, ?_, Nat.le_succ_of_le lA⟩
            rw [take_next hl, List.filter_append, List.map_append, List.filter_cons, if_neg (by rw [no]; exact Bool.false_ne_true)]
            show PrAt G rs (_ ++ [])
            rw [List.append_nil]
            exact prA.same sG
          refine ⟨rfl, _, rfl, _, rfl, (by show 2 ≤ sizeLine; decide), fun q nq => ?_⟩
          have sq := Same_new (o := HO.tup [V.str b, V.str l]) nq
          have gq := new_at (HO.tup [V.str b, V.str l]) nq
          refine ⟨_, rfl, x, dx, _, rfl, sq _ _ (sB _ _ hx), x, ns, t, rfl, (ko.same sB).same sq, fun HC p ps sC hp pr2 => ?_⟩
          have so2 : ∀ z ∈ [b, l], PyData.strOk z = true := fun z hz => by
            simp only [List.mem_cons, List.not_mem_nil, or_false] at hz
            rcases hz with rfl | rfl
            · exact sok _ hbi
            · exact sok _ hli
          refine ⟨_, _, .tup (SqT.of (sC _ _ gq)) (dp_strs [b, l]), .tup (SqT.of hp) (dp_pairs pr2), shp_strs so2, shp_pairs pok, _, rfl, ?_⟩
          have ea : ((dPairs (pairsOf ns t)).any fun z => PyData.eqv z (.tuple ([b, l].map PyData.str))) = decide ((b, l) ∈ pairsOf ns t) := by
            rw [show (PyData.tuple ([b, l].map PyData.str)) = .tuple [.str b, .str l] from rfl, any_pair]
          rw [ea]
          have sBC := sq.trans sC
          refine two (fun h1 => iteT (B := ∃ z : Nat, z = 0) ?_) (fun h1 => ?_)
          · have yes : goalB ns t o f b l = true := by
              unfold goalB
              rw [h1]
              rfl
            refine ⟨_, rfl, _, rfl, (by show 2 ≤ sizeLine; decide), fun q2 nq2 => add HC q2 yes sBC nq2⟩
          · have sHC := sB.trans sBC
            refine ⟨_, rfl, _, rfl, hi, _, rfl, .inl (SqL.of (sHC _ _ hhi)), rfl, fl_str, _, rfl, two (fun h2 => ?_) (fun h2 => ?_)⟩
            · have h2' : inV (.str b) ((ns.filter (hiB t o)).map V.str) = true := h2
              rw [inV_str] at h2'
              refine ⟨_, rfl, _, rfl, lo, _, rfl, .inl (SqL.of (sHC _ _ hlo)), rfl, fl_str, _, rfl, two (fun h3 => ?_) (fun h3 => ?_)⟩
              · have h3' : inV (.str l) ((ns.filter (loB t f)).map V.str) = true := h3
                rw [inV_str] at h3'
                have yes : goalB ns t o f b l = true := by
                  unfold goalB
                  rw [h2', h3']
                  exact Bool.or_true _
                exact ⟨_, rfl, _, rfl, (by show 2 ≤ sizeLine; decide), fun q2 nq2 => add HC q2 yes sBC nq2⟩
              · have h3' : inV (.str l) ((ns.filter (loB t f)).map V.str) = false := h3
                rw [inV_str] at h3'
                have no : goalB ns t o f b l = false := by
                  unfold goalB
                  rw [h1, h2', h3']
                  rfl
                exact skip HC no sBC
            · have h2' : inV (.str b) ((ns.filter (hiB t o)).map V.str) = false := h2
              rw [inV_str] at h2'
              have no : goalB ns t o f b l = false := by
                unfold goalB
                rw [h1, h2']
                rfl
              exact iteF (skip HC no sBC)
        · rw [List.length_map, List.take_length] at prA
          rw [List.length_map] at lA
          have lq : qs.length ≤ 49 := by
            rw [pr.1]
            have q := flat_len (k := 7) (f := fun n => (goalOf ns t o f n).map fun z => (n, z)) (fun n => by rw [List.length_map]; exact glen n) (ns.take i)
            have : (ns.take i).length ≤ 7 := by rw [List.length_take]; omega
            show ((ns.take i).flatMap fun n => (goalOf ns t o f n).map fun z => (n, z)).length ≤ 49
            omega
          refine ⟨_, _, _, _, rfl, rfl, sA _ _ hg, hDA, ?_, fun p np => ?_⟩
          · rw [List.length_map, List.length_map]
            omega
          · have sp := Same_new (o := HO.lst (qs.map V.ref ++ rs.map V.ref)) np
            refine ⟨p, _, qs ++ rs, rfl, (s8.trans sA).trans sp, by rw [upd_same, List.map_append], ?_⟩
            rw [take_next hb, pairs_snoc]
            exact pr_of (pr_app (pr_to ((pr.same sA).same sp)) (pr_to (prA.same sp)))
      · subst e
        rw [List.length_map, List.take_length] at pr
        exact ⟨g, v5, qs, rfl, s8, hg, pr⟩
    rintro σ8 H8 ⟨g, v5, qs, rfl, s8, hg, pr⟩
    have lq : qs.length ≤ 49 := by
      rw [pr.1]
      have q := flat_len (k := 7) (f := fun n => (goalOf ns t o f n).map fun z => (n, z)) (fun n => by rw [List.length_map]; exact glen n) ns
      show (ns.flatMap fun n => (goalOf ns t o f n).map fun z => (n, z)).length ≤ 49
      omega
    have lg : (pairsOf ns (goalOf ns t o f)).length < 1000 := by
      rw [← pr.1]
      omega
    refine ⟨_, rfl, _, rfl, g, _, rfl, .inl ⟨SqL.of hg, fun p np => ?_⟩⟩
    have sp := Same_new (o := HO.tup (qs.map V.ref)) np
    have it1 : ItemAt (upd H8 p (.tup (qs.map V.ref))) (.ref got) (.tt (pairsOf ns (goalOf ns t o f))) := ⟨got, gqs, rfl, sp _ _ (s8 _ _ hgot), (gpr.same s8).same sp, lg⟩
    have it2 : ItemAt (upd H8 p (.tup (qs.map V.ref))) (.ref p) (.tt (pairsOf ns (goalOf ns t o f))) := ⟨p, qs, rfl, upd_same, pr.same sp, lg⟩
    exact ⟨_, _, rfl, sm_item it1 it2, fun H' s' => k _ (((s04.trans s8).trans sp).trans s')⟩
end
end Jd
namespace Jd
open PySem PySem.Spec PyProof.Rows L2
/-! ### by hand -/
theorem ord_told {R : List (Str × Str)} {ns : List Str} (so : sortedS ns = true) (n0 : ("#" : Str) ∉ ns) (nr : ∀ n ∈ ns, n ∉ toldOf R ns n) : OrdT ns (toldOf R ns) := by
  refine ⟨so, n0, fun n hn => ?_, nr, fun a ha b hb h => ?_, fun a ha b hb c hc => ?_⟩
  · show (ns.filter fun b => decide (b ∈ closeT R ns n)) = _
    refine List.filter_congr fun z hz => decide_eq_decide.mpr ?_
    rw [told_in, close_in]
    exact ⟨fun v => ⟨hz, v⟩, And.right⟩
  · exact nr a ha (told_in.mpr ⟨ha, .two (told_in.mp hb).2 (told_in.mp hb).1 (told_in.mp h).2⟩)
  · exact told_in.mpr ⟨(told_in.mp hc).1, .two (told_in.mp hb).2 (told_in.mp hb).1 (told_in.mp hc).2⟩
/-- Keys of names in any order, of tellings in any order -/
theorem ki_of {K : PySem.W.Frag} {H : Hp} {nm te x dx : Addr} {names ns : List Str} {R R' : List (Str × Str)} (nx : H x = none) (ndx : H dx = none) (hnm : Sq K H nm (names.map V.str)) (hl : names.length < 64) (nms : ∀ z, z ∈ names ↔ z ∈ ns) (hte : Tells K H te R') (prs : ∀ p, p ∈ R' ↔ p ∈ R) (h64 : R'.length ≤ 64)
    (nd : ns.Nodup) (so : sortedS ns = true) (l7 : ns.length ≤ 7) (g : ∀ z ∈ ns, PyData.strOk z = true) (hin : ∀ p ∈ R, p.1 ∈ ns ∧ p.2 ∈ ns) (nr : ∀ n ∈ ns, n ∉ toldOf R ns n) {Q : VK} {E : XK} (k : ∀ H', Same H H' → KeysO K H' x ns (toldOf R ns) → Q .non H') :
    spKI K [.ref x, .ref nm, .ref te] (upd (upd H dx (.own x)) x (.ins (He.ga K "Keys") dx [])) Q E := by
  have sm := Same_mk (o1 := HO.own x) (o2 := HO.ins (He.ga K "Keys") dx []) nx ndx
  have et := told_iff prs ns
  refine ⟨x, nm, te, dx, names, R', rfl, upd_same, hnm.same sm, hl, by rw [names_len nd nms]; exact l7, fun z hz => g z ((nms z).mp hz), hte.same sm, h64, fun ns' pm so' nd' => ?_⟩
  have e := names_one nd so nms ns' pm so'
  subst e
  have er : ringOf R' ns' = [] := by
    unfold ringOf
    rw [et]
    exact ring_nil nr
  refine ⟨fun _ => ⟨fun _ H' ko kx => k H' (Same_made nx ndx kx) (by rw [et] at ko; exact ko), fun z => absurd er z⟩, fun z q => ?_⟩
  rw [out_none fun p hp => hin p ((prs p).mp hp)] at q
  cases q
def ns5 : List Str := ["a", "b", "c", "d", "e"]
def R4 : List (Str × Str) := [("d", "e"), ("a", "b"), ("c", "d"), ("b", "c")]
def spBH : Sp := fun vs H Q _ => vs = [] ∧ ∀ H', Same H H' → Q (.bl true) H'
theorem sm_at {H : Hp} {n : Nat} : ∀ {us vs : List V}, Paired (fun u v => Sm H n u v) us vs → ∀ (i : Nat) (u v : V), us[i]? = some u → vs[i]? = some v → Sm H n u v
  | _, _, .nil, i, u, v, h, _ => by cases h
  | _, _, .cons a _, 0, u, v, h1, h2 => by
    cases h1
    cases h2
    exact a
  | _, _, .cons _ b, i + 1, u, v, h1, h2 => sm_at b i u v h1 h2
section
variable {P : Program} {w : World} {K : PySem.W.Frag} {mg : Str → Option Value} {base : Heap}
abbrev NH : List Str := ["_law_keyring", "_law_got", "_law_goal"]
theorem sc_bh : FnScope NH [] (defScope s__law_by_hand_right) := ⟨rfl, rfl, rfl, by decide +kernel, rfl, by decide +kernel, by decide +kernel⟩
theorem ok_by_hand (B : Bk K mg) : Df P w K mg base CX0 7 "_law_by_hand_right" [] spBH := by
  obtain ⟨fd, F⟩ := B.F_law_by_hand_right
  obtain ⟨fdI, GI, _, FI⟩ := ok_Keys_init (P := P) (w := w) (base := base) B
  have bI := kb_two FI
  obtain ⟨fdP, GP, bP⟩ := ok_pairs (P := P) (w := w) (base := base) B
  obtain ⟨fdT, GT, FT⟩ := ok_told (P := P) (w := w) (base := base) B
  have bT : Binds K fdT ["self", "name"] [] := FT.binds fun _ _ _ _ _ _ us hl => match us, hl with | [_, _], _ => rfl
  obtain ⟨fdM, GM, bM⟩ := (ok_more (P := P) (w := w) (base := base) B).ex
  have kM := (ok_more (P := P) (w := w) (base := base) B).kp
  obtain ⟨fdO, GO, bO⟩ := (ok_order (P := P) (w := w) (base := base) B).ex
  have kO := (ok_order (P := P) (w := w) (base := base) B).kp
  obtain ⟨fdQ, GQ, bQ⟩ := (ok_law_same (P := P) (w := w) (base := base) B 3).ex
  have kQ := (ok_law_same (P := P) (w := w) (base := base) B 3).kp
  refine ⟨⟨fd, ?_, F.binds fun _ _ _ _ _ _ us hl => match us, hl with | [], _ => rfl⟩, B.g_law_by_hand_right, F.kp⟩
  refine F.ok sc_bh (fun vs H Q E h => ?_) (fun cdv A outer s H vs Q E hr h => ?_)
  · obtain ⟨rfl, _⟩ := h
    rfl
  · obtain ⟨rfl, k⟩ := h
    have hr2 : Room 2 _ := hr.mono (by decide)
    have hr4 : Room 4 _ := hr.mono (by decide)
    have hr5 : Room 5 _ := hr.mono (by decide)
    refine ⟨_, pss_cons (ps_cut (ps_set (i := 0) sc_bh.nd rfl (Or.inl rfl) (pe_make (E := fun _ _ _ => False) B.mk_Keys GI hr4 (by rfl) B.g_Keys bI .nil passF (pa_cons (pe_tup (pa_cons pe_str (pa_cons pe_str (pa_cons pe_str (pa_cons pe_str (pa_cons pe_str pa_nil)))))) (pa_cons (pe_tup (pa_cons (pe_tup (pa_cons pe_str (pa_cons pe_str pa_nil))) (pa_cons (pe_tup (pa_cons pe_str (pa_cons pe_str pa_nil))) (pa_cons (pe_tup (pa_cons pe_str (pa_cons pe_str pa_nil))) (pa_cons (pe_tup (pa_cons pe_str (pa_cons pe_str pa_nil))) pa_nil))))) pa_nil)))))
      (pss_cons (ps_cut (ps_set (i := 1) sc_bh.nd rfl (Or.inl rfl) (pe_lst (pa_cons (pe_callB call_len_seq (by rfl) B.b_len (by decide +kernel) (pa_cons (pe_prop (pv 0) B.cl_Keys B.pr_Keys_pairs GP hr2 bP .nil pass0 rfl) pa_nil)) (pa_cons (pe_meth (E := fun _ _ _ => False) (pv 0) B.cl_Keys B.me_Keys_told GT hr4 bT .nil passF (pa_cons pe_str pa_nil))
          (pa_cons (pe_call GM hr5 rfl B.g_law_more kM bM .nil pass0 (pa_cons (pv 0) (pa_cons pe_str (pa_cons pe_str pa_nil)))) (pa_cons (pe_call GM hr5 rfl B.g_law_more kM bM .nil pass0 (pa_cons (pv 0) (pa_cons pe_str (pa_cons pe_str pa_nil)))) pa_nil)))))))
      (pss_cons (ps_cut (ps_set (i := 2) sc_bh.nd rfl (Or.inl rfl) (pe_lst (pa_cons pe_int (pa_cons (pe_tup (pa_cons pe_str (pa_cons pe_str (pa_cons pe_str (pa_cons pe_str pa_nil))))) (pa_cons (pe_lst (pa_cons pe_str (pa_cons pe_str (pa_cons pe_str (pa_cons pe_str pa_nil))))) (pa_cons (pe_prop (pv 0) B.cl_Keys B.pr_Keys_pairs GP hr2 bP .nil pass0 rfl) pa_nil)))))))
      (pss_one (ps_ret (pe_and (pe_call GQ hr5 rfl B.g_law_same kQ bQ .nil pass0 (pa_cons (pv 1) (pa_cons (pv 2) pa_nil))) (pe_one (pe_call GO hr rfl B.g_law_order_right kO bO .nil pass0 (pa_cons (pv 0) pa_nil)))))))), ?_⟩
    have nr : ∀ n ∈ ns5, n ∉ toldOf R4 ns5 n := by decide +kernel
    refine ⟨fun σ' H' => ∃ x, σ' = [some (.ref x), none, none] ∧ Same H H' ∧ KeysO K H' x ns5 (toldOf R4 ns5), ?_, ?_⟩
    · refine ⟨(by show 5 ≤ sizeLine; decide), fun a na => ⟨(by show 2 ≤ sizeLine; decide), fun b1 nb1 => ⟨(by show 2 ≤ sizeLine; decide), fun b2 nb2 => ⟨(by show 2 ≤ sizeLine; decide), fun b3 nb3 => ⟨(by show 2 ≤ sizeLine; decide), fun b4 nb4 => ⟨(by show 4 ≤ sizeLine; decide), fun te nte => fun x dx nx ndx nex => ?_⟩⟩⟩⟩⟩⟩
      have sa := Same_new (o := HO.tup (ns5.map V.str)) na
      have ha := new_at (HO.tup (ns5.map V.str)) na
      have sb1 := Same_new (o := HO.tup [V.str "d", V.str "e"]) nb1
      have hb1 := new_at (HO.tup [V.str "d", V.str "e"]) nb1
      have sb2 := Same_new (o := HO.tup [V.str "a", V.str "b"]) nb2
      have hb2 := new_at (HO.tup [V.str "a", V.str "b"]) nb2
      have sb3 := Same_new (o := HO.tup [V.str "c", V.str "d"]) nb3
      have hb3 := new_at (HO.tup [V.str "c", V.str "d"]) nb3
      have sb4 := Same_new (o := HO.tup [V.str "b", V.str "c"]) nb4
      have hb4 := new_at (HO.tup [V.str "b", V.str "c"]) nb4
      have ste := Same_new (o := HO.tup [V.ref b1, V.ref b2, V.ref b3, V.ref b4]) nte
      have hte := new_at (HO.tup [V.ref b1, V.ref b2, V.ref b3, V.ref b4]) nte
      have ss := ((((sa.trans sb1).trans sb2).trans sb3).trans sb4).trans ste
      have pp : PrAt _ [b1, b2, b3, b4] R4 := pr_of (.cons (ste _ _ (sb4 _ _ (sb3 _ _ (sb2 _ _ hb1)))) (.cons (ste _ _ (sb4 _ _ (sb3 _ _ hb2))) (.cons (ste _ _ (sb4 _ _ hb3)) (.cons (ste _ _ hb4) .nil))))
      refine ki_of (names := ns5) (R := R4) (R' := R4) nx ndx (.inr (SqT.of (ste _ _ (sb4 _ _ (sb3 _ _ (sb2 _ _ (sb1 _ _ ha))))))) (by decide) (fun _ => Iff.rfl) ⟨[b1, b2, b3, b4], .inr (SqT.of hte), rfl, fun i q hq => let ⟨pr, a, b⟩ := pp.2 i q hq; ⟨pr, a, .inr (SqT.of b)⟩⟩ (fun _ => Iff.rfl) (by decide) (by decide +kernel) (by decide +kernel) (by decide) (by decide +kernel) (by decide +kernel) nr fun H' s' ko => ?_
      exact ⟨rfl, x, rfl, ss.trans s', ko⟩
    rintro σ1 H1 ⟨x, rfl, s1, ko⟩
    obtain ⟨dx, tn, d0, A0, hx, _⟩ := id ko
    have od : OrdT ns5 (toldOf R4 ns5) := ord_told (by decide +kernel) (by decide +kernel) nr
    have e1 : ringOf (pairsOf ns5 (toldOf R4 ns5) ++ [(("e" : Str), ("b" : Str))]) ns5 = (["b", "c", "d", "e"] : List Str) := by decide +kernel
    have e2 : ringOf (pairsOf ns5 (toldOf R4 ns5) ++ [(("a" : Str), ("e" : Str))]) ns5 = [] := by decide +kernel
    have e3 : pairsOf ns5 (toldOf (pairsOf ns5 (toldOf R4 ns5) ++ [(("a" : Str), ("e" : Str))]) ns5) = pairsOf ns5 (toldOf R4 ns5) := by decide +kernel
    have e4 : toldAt ns5 (toldOf R4 ns5) "a" = (["b", "c", "d", "e"] : List Str) := by decide +kernel
    have e5 : (pairsOf ns5 (toldOf R4 ns5)).length = 10 := by decide +kernel
    refine ⟨fun σ' H' => ∃ (got p l q : Addr) (qs : List Addr), σ' = [some (.ref x), some (.ref got), none] ∧ Same H1 H' ∧ H' got = some (.lst [.int 10, .ref p, .ref l, .ref q]) ∧ H' p = some (.tup ((["b", "c", "d", "e"] : List Str).map V.str)) ∧ H' l = some (.lst ((["b", "c", "d", "e"] : List Str).map V.str)) ∧ H' q = some (.tup (qs.map V.ref)) ∧ PrAt H' qs (pairsOf ns5 (toldOf R4 ns5)), ?_, ?_⟩
    · refine ⟨_, rfl, x, dx, _, rfl, hx, x, ns5, _, rfl, ko, fun H2 p2 qs2 s2 hp2 pr2 => ?_⟩
      refine ⟨p2, _, rfl, .inr (SqT.of hp2), ?_⟩
      have ko2 := ko.same s2
      refine ⟨_, rfl, x, dx, _, rfl, s2 _ _ hx, rfl, x, "a", ns5, _, rfl, ko2, fun _ p hp => ?_, fun h => absurd (Or.inr (by decide +kernel)) h⟩
      rw [e4] at hp
      refine ⟨_, rfl, x, "e", "b", ns5, _, rfl, ko2, od.so, (by decide +kernel), (by decide +kernel), fun e => (by rw [e1] at e; cases e), fun _ H3 l s3 hl => ?_⟩
      rw [e1] at hl
      have ko3 := ko2.same s3
      refine ⟨_, rfl, x, "a", "e", ns5, _, rfl, ko3, od.so, (by decide +kernel), (by decide +kernel), fun _ H4 q qs s4 hq pr => ?_, fun e => absurd e2 e⟩
      rw [e3] at pr
      refine ⟨(by show 4 ≤ sizeLine; decide), fun got ng => ?_⟩
      have sg : Same H4 (upd H4 got (.lst [.int ((qs2.map V.ref).length : Nat), .ref p, .ref l, .ref q])) := Same_new ng
      refine ⟨got, p, l, q, qs, rfl, ((s2.trans s3).trans s4).trans sg, ?_, sg _ _ (s4 _ _ (s3 _ _ hp)), sg _ _ (s4 _ _ hl), sg _ _ hq, pr.same sg⟩
      rw [upd_same, List.length_map, pr2.1, e5]
      rfl
    rintro σ2 H2 ⟨got, p, l, q, qs, rfl, s2, hgot, hp, hl, hq, pr⟩
    replace ko := ko.same s2
    replace hx := s2 _ _ hx
    refine ⟨fun σ' H' => ∃ (goal p2 l2 q2 : Addr) (rs : List Addr), σ' = [some (.ref x), some (.ref got), some (.ref goal)] ∧ Same H2 H' ∧ H' goal = some (.lst [.int 10, .ref p2, .ref l2, .ref q2]) ∧ H' p2 = some (.tup ((["b", "c", "d", "e"] : List Str).map V.str)) ∧ H' l2 = some (.lst ((["b", "c", "d", "e"] : List Str).map V.str)) ∧ H' q2 = some (.tup (rs.map V.ref)) ∧ PrAt H' rs (pairsOf ns5 (toldOf R4 ns5)), ?_, ?_⟩
    · refine ⟨(by show 4 ≤ sizeLine; decide), fun p2 np2 => ⟨(by show 4 ≤ sizeLine; decide), fun l2 nl2 => ?_⟩⟩
      have sp := Same_new (o := HO.tup ((["b", "c", "d", "e"] : List Str).map V.str)) np2
      have hp2 := new_at (HO.tup ((["b", "c", "d", "e"] : List Str).map V.str)) np2
      have sl := Same_new (o := HO.lst ((["b", "c", "d", "e"] : List Str).map V.str)) nl2
      have hl2 := new_at (HO.lst ((["b", "c", "d", "e"] : List Str).map V.str)) nl2
      refine ⟨_, rfl, x, dx, _, rfl, sl _ _ (sp _ _ hx), x, ns5, _, rfl, (ko.same sp).same sl, fun H3 q2 rs s3 hq2 pr2 => ?_⟩
      refine ⟨(by show 4 ≤ sizeLine; decide), fun goal ng => ?_⟩
      have sg := Same_new (o := HO.lst [.int 10, .ref p2, .ref l2, .ref q2]) ng
      exact ⟨goal, p2, l2, q2, rs, rfl, ((sp.trans sl).trans s3).trans sg, upd_same, sg _ _ (s3 _ _ (sl _ _ hp2)), sg _ _ (s3 _ _ hl2), sg _ _ hq2, pr2.same sg⟩
    rintro σ3 H3 ⟨goal, p2, l2, q2, rs, rfl, s3, hgoal, hp2, hl2, hq2, pr2⟩
    have it1 : ItemAt H3 (.ref q) (.tt (pairsOf ns5 (toldOf R4 ns5))) := ⟨q, qs, rfl, s3 _ _ hq, pr.same s3, by rw [e5]; decide⟩
    have it2 : ItemAt H3 (.ref q2) (.tt (pairsOf ns5 (toldOf R4 ns5))) := ⟨q2, rs, rfl, hq2, pr2, by rw [e5]; decide⟩
    refine ⟨_, rfl, _, rfl, _, _, rfl, Or.inr ⟨got, goal, [.int 10, .ref p, .ref l, .ref q], [.int 10, .ref p2, .ref l2, .ref q2], rfl, rfl, rfl, (by show 4 < 1000; decide), sm_at (.cons (Sm_flat (x := .int 10) trivial) (.cons (sm_tf (n := 1) (s3 _ _ hp) hp2 (by decide)) (.cons (sm_lf (n := 1) (s3 _ _ hl) hl2 (by decide)) (.cons (sm_item it1 it2) .nil)))), .inl ⟨s3 _ _ hgot, hgoal⟩⟩, fun H4 s4 => ⟨_, rfl, iteT ?_⟩⟩
    exact ⟨_, rfl, x, ns5, _, rfl, (ko.same s3).same s4, od, fun H5 s5 => k _ ((((s1.trans s2).trans s3).trans s4).trans s5)⟩
end
end Jd
namespace Jd
open PySem PySem.Spec PyProof.Rows L2
/-! ### right -/
theorem nf_self {K : PySem.W.Frag} {C : Addr} : PySem.W.notFirst K C (.ref C) = true := by
  unfold PySem.W.notFirst
  simp
theorem KeysO.keepU {K : PySem.W.Frag} {H H' : Hp} {x u : Addr} {ns : List Str} {t : Str → List Str} {n : Nat} (h : KeysO K H x ns t) (hu : Urn H u n) (k : Keep u H H') : KeysO K H' x ns t := by
  obtain ⟨i, j, q, h', _⟩ := id hu
  exact h.keep h' k
theorem Keep.pr {u : Addr} {H H' : Hp} (k : Keep u H H') {xs : List V} (hu : H u = some (.lst xs)) {qs : List Addr} {prs : List (Str × Str)} (p : PrAt H qs prs) : PrAt H' qs prs :=
  ⟨p.1, fun i q hq => let ⟨pr, e1, e2⟩ := p.2 i q hq; ⟨pr, e1, k _ _ (ne_of e2 hu (by intro z; cases z)) e2⟩⟩
structure Nms (ns : List Str) : Prop where
  nd : ns.Nodup
  so : sortedS ns = true
  l1 : 1 ≤ ns.length
  l5 : ns.length ≤ 5
  nm : ∀ z ∈ ns, isName (cd z) = true
  ok : ∀ z ∈ ns, PyData.strOk z = true
theorem Book.nms {ns : List Str} {R : List (Str × Str)} (b : Book ns R) : Nms ns := ⟨b.nd, b.so, b.l1, b.l5, fun z hz => pool_name z (b.pool z hz), fun z hz => pool_ok z (b.pool z hz)⟩
theorem Nms.ne {ns : List Str} (N : Nms ns) {R : List (Str × Str)} {rows : List Str} (G : RowsG ns R rows) : rows ≠ [] := fun e => by
  obtain ⟨z, hz⟩ : ∃ z, z ∈ ns := by
    cases q : ns with
    | nil => have := N.l1; rw [q] at this; cases this
    | cons z l => exact ⟨z, List.mem_cons_self⟩
  have h := (G.nms z).mpr hz
  rw [e] at h
  cases h
theorem RowsG.st {ns : List Str} {R : List (Str × Str)} {rows : List Str} (G : RowsG ns R rows) : ∀ r ∈ rows, stOf r ≠ none := fun r hr e => by
  obtain ⟨⟨l, h, _⟩, _, _⟩ := G.good r hr
  rw [e] at h
  cases h
theorem RowsG.join {ns : List Str} {R : List (Str × Str)} {rows : List Str} (G : RowsG ns R rows) (l : rows.length ≤ 31) : (Txt.join "\n" rows).length ≤ 100000 := by
  have q := join_len (k := 40) fun r hr => (G.good r hr).len
  have : 41 * rows.length ≤ 41 * 31 := Nat.mul_le_mul_left _ l
  omega
theorem kof_fine {K : PySem.W.Frag} {H : Hp} {ns : List Str} {R : List (Str × Str)} {rows : List Str} {Q : VK} {E : XK} (N : Nms ns) (G : RowsG ns R rows) (l : rows.length ≤ 31) (hin : ∀ p ∈ R, p.1 ∈ ns ∧ p.2 ∈ ns) (nr : ∀ n ∈ ns, n ∉ toldOf R ns n)
    (k : ∀ H' x, Same H H' → KeysO K H' x ns (toldOf R ns) → Q (.ref x) H') : spKOf K [.str (Txt.join "\n" rows)] H Q E := by
  have et := told_iff G.prs ns
  refine ⟨_, rows, rfl, G.join l, rows_split (N.ne G) (fun r hr => (G.good r hr).nl), l, fun j r hj hn => absurd hn (G.st r (List.mem_of_getElem? hj)), fun _ => ⟨by rw [names_len N.nd G.nms]; exact Nat.le_trans N.l5 (by decide), fun z hz => N.ok z ((G.nms z).mp hz), fun ns' pm so nd => ?_⟩⟩
  have e := names_one N.nd N.so G.nms ns' pm so
  subst e
  have er : ringOf (pairsR rows) ns' = [] := by
    unfold ringOf
    rw [et]
    exact ring_nil nr
  refine ⟨out_none fun p hp => hin p ((G.prs p).mp hp), fun _ H' x s ko => ?_, fun z => absurd er z⟩
  rw [et] at ko
  exact k H' x s ko
theorem Book.nr {ns : List Str} {R : List (Str × Str)} (b : Book ns R) : ∀ n ∈ ns, n ∉ toldOf R ns n := noring_of b.rk
def spRt : Sp := fun vs H Q _ => ∃ (u : Addr) (n : Nat), vs = [.ref u] ∧ Urn H u n ∧ n < 10000 ∧ ∀ H', Keep u H H' → Q (.bl true) H'
section
variable {P : Program} {w : World} {K : PySem.W.Frag} {mg : Str → Option Value} {base : Heap}
abbrev NR : List Str := ["_law_urn", "_law_turn", "_law_book_here", "_law_keyring", "_law_kin", "_law_own", "_law_pair", "_law_far"]
theorem sc_rt : FnScope NR ["_law_urn"] (defScope s__law_right) := ⟨rfl, rfl, rfl, by decide +kernel, rfl, by decide +kernel, by decide +kernel⟩
theorem ok_right (B : Bk K mg) : Df P w K mg base CX0 8 "_law_right" ["_law_urn"] spRt := by
  obtain ⟨fd, F⟩ := B.F_law_right
  obtain ⟨fdI, GI, _, FI⟩ := ok_Keys_init (P := P) (w := w) (base := base) B
  have bI := kb_two FI
  obtain ⟨fdN, GN, bN⟩ := ok_names (P := P) (w := w) (base := base) B
  obtain ⟨fdP, GP, bP⟩ := ok_pairs (P := P) (w := w) (base := base) B
  obtain ⟨fdX, GX, bX⟩ := ok_text (P := P) (w := w) (base := base) B
  obtain ⟨fdO5, GO5, FO5⟩ := ok_Keys_of (P := P) (w := w) (base := base) B
  have bO5 : Binds K fdO5 ["text"] [] := FO5.binds fun _ _ _ _ _ _ us hl => match us, hl with | [_], _ => rfl
  obtain ⟨fdE, GE, bE⟩ := ok_eqK (P := P) (w := w) (base := base) B
  obtain ⟨fdH, GH, bH⟩ := (ok_by_hand (P := P) (w := w) (base := base) B).ex
  have kH := (ok_by_hand (P := P) (w := w) (base := base) B).kp
  obtain ⟨fdB, GB, bB⟩ := (ok_book (P := P) (w := w) (base := base) B).ex
  have kB := (ok_book (P := P) (w := w) (base := base) B).kp
  obtain ⟨fdM, GM, bM⟩ := (ok_law_mixed (P := P) (w := w) (base := base) B).ex
  have kM := (ok_law_mixed (P := P) (w := w) (base := base) B).kp
  obtain ⟨fdO, GO, bO⟩ := (ok_order (P := P) (w := w) (base := base) B).ex
  have kO := (ok_order (P := P) (w := w) (base := base) B).kp
  obtain ⟨fdR, GR, bR⟩ := (ok_ring (P := P) (w := w) (base := base) B).ex
  have kR := (ok_ring (P := P) (w := w) (base := base) B).kp
  refine ⟨⟨fd, ?_, F.binds fun _ _ _ _ _ _ us hl => match us, hl with | [_], _ => rfl⟩, B.g_law_right, F.kp⟩
  refine F.ok sc_rt (fun vs H Q E h => ?_) (fun cdv A outer s H vs Q E hr h => ?_)
  · obtain ⟨_, _, rfl, _⟩ := h
    rfl
  · obtain ⟨u, n, rfl, hu0, hn, k⟩ := h
    have hr1 : Room 1 _ := hr.mono (by decide)
    have hr2 : Room 2 _ := hr.mono (by decide)
    have hr3 : Room 3 _ := hr.mono (by decide)
    have hr4 : Room 4 _ := hr.mono (by decide)
    have hr5 : Room 5 _ := hr.mono (by decide)
    have hr6 : Room 6 _ := hr.mono (by decide)
    have hu65 : (A.deeper (envOfC "_law_right" (defScope s__law_right) s.heap.objs.size (He.ga K "_law_right") cdv)).units + 65 < cLine := by
      have := hr.un
      omega
    refine ⟨_, 
pss_cons (ps_if (pt_not (pt_val (pe_call0 GH hr rfl B.g_law_by_hand_right kH bH .nil pass0))) (pss_one (ps_ret pe_bl)) pss_nil)
      (pss_cons (ps_for PassesOwn.never rfl (pi_range1 rfl B.b_range (pa_cons pe_int pa_nil)) (pg_name (i := 1) sc_rt.nd rfl (Or.inl rfl)) (pss_cons (ps_cut (ps_set (i := 2) sc_rt.nd rfl (Or.inl rfl) (pe_call GB hr3 rfl B.g_law_book kB bB .nil pass0 (pa_cons (pv 0) (pa_cons pe_int pa_nil)))))
          (pss_cons (ps_cut (ps_set (i := 3) sc_rt.nd rfl (Or.inr rfl) (pe_make (E := fun _ _ _ => False) B.mk_Keys GI hr4 (by rfl) B.g_Keys bI .nil passF (pa_cons (pe_call GM hr2 rfl B.g_law_mixed kM bM .nil pass0 (pa_cons (pv 0) (pa_cons (pe_ix ix_tup (pv 2) pe_int (fun _ _ => rfl)) pa_nil))) (pa_cons (pe_ix ix_tup (pv 2) pe_int (fun _ _ => rfl)) pa_nil)))))
          (pss_cons (ps_cut (ps_set (i := 4) sc_rt.nd rfl (Or.inl rfl) (pe_lst (pa_cons (pe_make (E := fun _ _ _ => False) B.mk_Keys GI hr4 (by rfl) B.g_Keys bI .nil passF (pa_cons (pe_prop (pv 3) B.cl_Keys B.pr_Keys_names GN hr2 bN .nil pass0 rfl) (pa_cons (pe_prop (pv 3) B.cl_Keys B.pr_Keys_pairs GP hr2 bP .nil pass0 rfl) pa_nil))) (pa_cons (pe_smeth (E := fun _ _ _ => False) (pe_glob (v := .ref (He.ga K "Keys")) rfl B.g_Keys rfl) B.sm_Keys_of GO5 hr5 bO5 .nil passF (pa_cons (pe_prop (pv 3) B.cl_Keys B.pr_Keys_text GX hr4 bX .nil pass0 rfl) pa_nil)) pa_nil)))))
          (pss_cons (ps_cut (ps_expr (pe_bm PySem.F.plainAttrs_list PySem.F.slot_list_append PySem.F.type_list_append mt_append (pv 4) (pa_cons (pe_make (E := fun _ _ _ => False) B.mk_Keys GI hr4 (by rfl) B.g_Keys bI .nil passF (pa_cons (pe_prop (pv 3) B.cl_Keys B.pr_Keys_names GN hr2 bN .nil pass0 rfl) (pa_cons (pe_call GM hr2 rfl B.g_law_mixed kM bM .nil pass0 (pa_cons (pv 0) (pa_cons (pe_prop (pv 3) B.cl_Keys B.pr_Keys_pairs GP hr2 bP .nil pass0 rfl) pa_nil))) pa_nil))) pa_nil))))
          (pss_cons (ps_cut (ps_if (pt_not (pt_val (pe_callB (cr_all rfl) (by rfl) B.b_all (by decide +kernel) (pa_cons (pe_lc (own := [("_law_own", 5)]) (g := gName 5) (tt := tYes) (te := tAndV (tOp (rEqOwn K (He.ga K "Keys") (spEqK K) E0) (tVar 5) (tVar 3)) (tOp rEq (tProp (He.ga K "Keys") (spText K) [] E0 (tVar 5)) (tProp (He.ga K "Keys") (spText K) [] E0 (tVar 3)))) rfl sc_rt.nd (pi_list (pv 4)) (blkOk_by (N := NR) (sc := defScope s__law_right) (by decide +kernel)) (fun _ _ _ _ _ => pg_name (i := 5) sc_rt.nd rfl (Or.inl rfl)) (fun _ _ _ _ _ => pts_nil) (fun _ _ _ _ _ => pe_and (pe_cmpR (op_eqOwn (E := E0) GE hr1 B.sp_Keys_eq.1 B.sp_Keys_eq.2 bE pass0) (pv 5) (pv 3) (nomark _)) (pe_one (pe_cmpR op_eq (pe_prop (pv 5) B.cl_Keys B.pr_Keys_text GX hr4 bX .nil pass0 rfl) (pe_prop (pv 3) B.cl_Keys B.pr_Keys_text GX hr4 bX .nil pass0 rfl) (nomark _))))) pa_nil)))) (pss_one (ps_ret pe_bl)) pss_nil))
          (pss_cons (ps_cut (ps_if (pt_not (pt_val (pe_callB (cr_all rfl) (by rfl) B.b_all (by decide +kernel) (pa_cons (pe_lc (own := [("_law_own", 5)]) (g := gName 5) (tt := tYes) (te := tCall (spOrd K) [] E0 (tCons (tVar 5) tNil)) rfl sc_rt.nd (pi_list (pv 4)) (blkOk_by (N := NR) (sc := defScope s__law_right) (by decide +kernel)) (fun _ _ _ _ _ => pg_name (i := 5) sc_rt.nd rfl (Or.inl rfl)) (fun _ _ _ _ _ => pts_nil) (fun _ _ _ _ _ => (pe_call GO hr6 rfl B.g_law_order_right kO bO .nil pass0 (pa_cons (pv 5) pa_nil)))) pa_nil)))) (pss_one (ps_ret pe_bl)) pss_nil))
          (pss_cons (ps_cut (ps_if (pt_not (pt_val (pe_callB (cr_all rfl) (by rfl) B.b_all (by decide +kernel) (pa_cons (pe_lc (own := [("_law_pair", 6)]) (g := gName 6) (tt := tYes) (te := tOp (rInT K) (tVar 6) (tProp (He.ga K "Keys") (spPairs K) [] E0 (tVar 3))) rfl sc_rt.nd (pi_tup (pe_ix ix_tup (pv 2) pe_int (fun _ _ => rfl))) (blkOk_by (N := NR) (sc := defScope s__law_right) (by decide +kernel)) (fun _ _ _ _ _ => pg_name (i := 6) sc_rt.nd rfl (Or.inl rfl)) (fun _ _ _ _ _ => pts_nil) (fun _ _ _ _ _ => pe_cmpR (op_inT hu65) (pv 6) (pe_prop (pv 3) B.cl_Keys B.pr_Keys_pairs GP hr2 bP .nil pass0 rfl) (by rfl))) pa_nil)))) (pss_one (ps_ret pe_bl)) pss_nil))
          (pss_one (ps_for PassesOwn.never rfl (pi_tup (pe_prop (pv 3) B.cl_Keys B.pr_Keys_names GN hr2 bN .nil pass0 rfl)) (pg_name (i := 5) sc_rt.nd rfl (Or.inr rfl)) (pss_one (ps_if (pt_not (pt_val (pe_callB (cr_all rfl) (by rfl) B.b_all (by decide +kernel) (pa_cons (pe_lc (own := [("_law_far", 7)]) (g := gName 7) (tt := tYes) (te := tCall (spRing K) [] E0 (tCons (tVar 3) (tCons (tVar 5) (tCons (tVar 7) tNil)))) rfl sc_rt.nd (pi_tup (pe_prop (pv 3) B.cl_Keys B.pr_Keys_names GN hr2 bN .nil pass0 rfl)) (blkOk_by (N := NR) (sc := defScope s__law_right) (by decide +kernel)) (fun _ _ _ _ _ => pg_name (i := 7) sc_rt.nd rfl (Or.inl rfl)) (fun _ _ _ _ _ => pts_nil) (fun _ _ _ _ _ => (pe_call GR hr6 rfl B.g_law_ring_right kR bR .nil pass0 (pa_cons (pv 3) (pa_cons (pv 5) (pa_cons (pv 7) pa_nil)))))) pa_nil)))) (pss_one (ps_ret pe_bl)) pss_nil))))))))))))
      (pss_one (ps_ret pe_bl)))
, ?_⟩
    refine ⟨rfl, fun H1 s1 => ⟨_, rfl, iteF ?_⟩⟩
    refine ⟨_, rfl, by decide, by decide, ?_⟩
    refine for_it (n := 5) walk_range (fun i σ H' => ∃ v1 v2 v3 v4 v5 v6 v7 : Option V, σ = [some (.ref u), v1, v2, v3, v4, v5, v6, v7] ∧ Urn H' u (n + 200 * i) ∧ Keep u H H')
      ⟨_, _, _, _, _, _, _, rfl, hu0.same s1, Same.keep s1⟩ (fun _ _ _ _ _ => trivial) (fun i xx σ H2 H3 hi ⟨v1, v2, v3, v4, v5, v6, v7, e, huT, kT⟩ y => ?_) (fun σ H2 ⟨v1, v2, v3, v4, v5, v6, v7, e, huT, kT⟩ => ?_)
    rotate_left
    · subst e
      exact k _ kT
    obtain ⟨rfl, rfl⟩ := y
    subst e
    have hi5 : i < 5 := hi
    refine ⟨fun σ' H' => ∃ (ns : List Str) (R : List (Str × Str)) (bt f g : Addr) (qs : List Addr), σ' = [some (.ref u), some (.int (0 + (i : Int))), some (.ref bt), v3, v4, v5, v6, v7] ∧ Keep u H3 H' ∧ Urn H' u (n + 200 * i + 40) ∧ Book ns R ∧ H' bt = some (.tup [.ref f, .ref g]) ∧ H' f = some (.tup (ns.map V.str)) ∧ H' g = some (.tup (qs.map V.ref)) ∧ PrAt H' qs R, ?_, ?_⟩
    · refine ⟨_, rfl, u, 5, n + 200 * i, rfl, huT, by omega, by decide, by decide, fun ns R t f g qs H' bk hu' kp nt nf ng nq ht hf hg pr => ?_⟩
      exact ⟨ns, R, t, f, g, qs, rfl, kp, hu', bk, ht, hf, hg, pr⟩
    rintro σ1 Ha ⟨ns, R, bt, f, g, qs, rfl, ka, hua, bk, ht, hf, hg, pr⟩
    replace ka := kT.trans ka
    clear kT huT
    have N := bk.nms
    have l5 := N.l5
    have rl := bk.rl
    have rin : ∀ p ∈ R, p.1 ∈ ns ∧ p.2 ∈ ns := fun p hp => ⟨bk.r1 p hp, bk.r2 p hp⟩
    have n0 : ("#" : Str) ∉ ns := fun h => noh (bk.pool _ h)
    have l8 : ∀ n ∈ ns, n.length ≤ 8 := fun n hn => name_len (N.nm n hn)
    have t5 : ∀ n, (toldOf R ns n).length ≤ 5 := fun n => Nat.le_trans (told_len R ns n) l5
    have tin : ∀ n ∈ ns, ∀ z ∈ toldOf R ns n, z ∈ ns := fun n _ z hz => (told_in.mp hz).1
    have od := ord_told N.so n0 bk.nr
    have big : (2000 : Nat) ≤ sizeLine := by decide
    have tc : toldOf (pairsOf ns (toldOf R ns)) ns = toldOf R ns := told_closed bk.r1 bk.r2 fun p => ⟨fun h => pairs_mem h, fun h => List.mem_flatMap.mpr ⟨p.1, h.1, List.mem_map.mpr ⟨p.2, h.2, rfl⟩⟩⟩
    have lpa : (pairsOf ns (toldOf R ns)).length ≤ 25 := by
      have q := flat_len (k := 5) (f := fun n => (toldOf R ns n).map fun o => (n, o)) (fun n => by rw [List.length_map]; exact t5 n) ns
      show (ns.flatMap fun n => (toldOf R ns n).map fun o => (n, o)).length ≤ 25
      omega
    have pin : ∀ p ∈ pairsOf ns (toldOf R ns), p.1 ∈ ns ∧ p.2 ∈ ns := fun p hp => ⟨(pairs_mem hp).1, tin _ (pairs_mem hp).1 _ (pairs_mem hp).2⟩
    have nr2 : ∀ n ∈ ns, n ∉ toldOf (pairsOf ns (toldOf R ns)) ns n := fun n hn => by rw [tc]; exact bk.nr n hn
    have pok : ∀ p ∈ pairsOf ns (toldOf R ns), PyData.strOk p.1 = true ∧ PyData.strOk p.2 = true := fun p hp => ⟨N.ok _ (pin p hp).1, N.ok _ (pin p hp).2⟩
    refine ⟨fun σ' H' => ∃ (x : Addr), σ' = [some (.ref u), some (.int (0 + (i : Int))), some (.ref bt), some (.ref x), v4, v5, v6, v7] ∧ Keep u Ha H' ∧ Urn H' u (n + 200 * i + 45) ∧ KeysO K H' x ns (toldOf R ns), ?_, ?_⟩
    · obtain ⟨ua, ub, uc, hu0', _⟩ := id hua
      refine ⟨_, rfl, _, rfl, bt, _, _, _, rfl, rfl, SqT.of ht, rfl, u, f, ns.map V.str, n + 200 * i + 40, rfl, hua, by rw [List.length_map]; omega, .inr (SqT.of hf), by rw [List.length_map]; omega, fun ys p H' pm hu' k' np hp => ?_⟩
      obtain ⟨zs, rfl, pz⟩ := nodup_perm_map pm
      rw [List.length_map] at hu'
      have ht' : H' bt = some (.tup [.ref f, .ref g]) := k' _ _ (ne_of ht hu0' (by intro z; cases z)) ht
      have hg' : H' g = some (.tup (qs.map V.ref)) := k' _ _ (ne_of hg hu0' (by intro z; cases z)) hg
      have pr' := k'.pr hu0' pr
      refine ⟨_, rfl, bt, _, _, _, rfl, rfl, SqT.of ht', rfl, fun x dx nx ndx nex => ?_⟩
      refine ki_of (names := zs) (ns := ns) (R := R) nx ndx (.inr (SqT.of hp)) (by rw [pz.length_eq]; omega) (fun z => pz.mem_iff) ⟨qs, .inr (SqT.of hg'), pr'.1, fun i q hq => let ⟨pr, a, b⟩ := pr'.2 i q hq; ⟨pr, a, .inr (SqT.of b)⟩⟩ (fun _ => Iff.rfl) (by omega) N.nd N.so (by omega) N.ok rin bk.nr fun H4 s4 ko => ?_
      exact ⟨rfl, x, rfl, k'.trans (Same.keep s4), (hu'.same s4).le (by omega), ko⟩
    rintro σ2 Hb ⟨x, rfl, kb, hub, ko⟩
    obtain ⟨ua, ub, uc, hu0', _⟩ := id hua
    replace ht := kb _ _ (ne_of ht hu0' (by intro z; cases z)) ht
    replace hg := kb _ _ (ne_of hg hu0' (by intro z; cases z)) hg
    replace pr := kb.pr hu0' pr
    replace ka := ka.trans kb
    clear kb hua hf hu0'
    obtain ⟨ua, ub, uc, hu0', _⟩ := id hub
    have key : ∀ {H' : Hp} {p1 p2 : Addr} {rs : List Addr} {C : List (Str × Str)}, H' p1 = some (.tup (ns.map V.str)) → H' p2 = some (.tup (rs.map V.ref)) → PrAt H' rs C → C.Perm (pairsOf ns (toldOf R ns)) → ∀ x1 dx1, H' x1 = none → H' dx1 = none → ∀ (Q : VK) (E : XK), (∀ H2, Same H' H2 → KeysO K H2 x1 ns (toldOf R ns) → Q .non H2) →
        spKI K [.ref x1, .ref p1, .ref p2] (upd (upd H' dx1 (.own x1)) x1 (.ins (He.ga K "Keys") dx1 [])) Q E := by
      intro H' p1 p2 rs C hp1 hp2 pr2 pm x1 dx1 nx1 ndx1 Q E q
      refine ki_of (names := ns) (ns := ns) (R := pairsOf ns (toldOf R ns)) (R' := C) nx1 ndx1 (.inr (SqT.of hp1)) (by omega) (fun _ => Iff.rfl) ⟨rs, .inr (SqT.of hp2), pr2.1, fun i q hq => let ⟨pr, a, b⟩ := pr2.2 i q hq; ⟨pr, a, .inr (SqT.of b)⟩⟩ (fun p => pm.mem_iff) (by rw [pm.length_eq]; omega) N.nd N.so (by omega) N.ok pin nr2 fun H2 s2 ko1 => ?_
      rw [tc] at ko1
      exact q H2 s2 ko1
    refine ⟨fun σ' H' => ∃ (kin x1 x2 : Addr), σ' = [some (.ref u), some (.int (0 + (i : Int))), some (.ref bt), some (.ref x), some (.ref kin), v5, v6, v7] ∧ Same Hb H' ∧ Hb kin = none ∧ H' kin = some (.lst [.ref x1, .ref x2]) ∧ KeysO K H' x1 ns (toldOf R ns) ∧ KeysO K H' x2 ns (toldOf R ns), ?_, ?_⟩
    · obtain ⟨dx, tn, d0, A0, hx, _⟩ := id ko
      refine ⟨_, rfl, x, dx, _, rfl, hx, x, ns, _, rfl, ko, fun p1 hp1 => ?_⟩
      refine ⟨_, rfl, x, dx, _, rfl, hx, x, ns, _, rfl, ko, fun H1 p2 rs s1 hp2 pr2 => fun x1 dx1 nx1 ndx1 nex => ?_⟩
      refine key (s1 _ _ hp1) hp2 pr2 (List.Perm.refl _) x1 dx1 nx1 ndx1 _ _ fun H2 s2 ko1 => ?_
      have s12 := s1.trans s2
      refine ⟨rfl, rfl, _, rfl, x, dx, _, rfl, s12 _ _ hx, x, ns, _, rfl, ko.same s12, l8, fun H3 s3 => ?_⟩
      dsimp only [tNil, List.cons_append, List.nil_append]
      refine kof_fine (rows := textRows ns (toldOf R ns)) N (rows_text N.nm tin) ?_ pin nr2 fun H4 x2 s4 ko2 => ?_
      · show (ns ++ (pairsOf ns (toldOf R ns)).map tellsRow).length ≤ 31
        rw [List.length_append, List.length_map]
        omega
      rw [tc] at ko2
      refine ⟨(by show 2 ≤ sizeLine; decide), fun kin nk => ?_⟩
      have sk := Same_new (o := HO.lst [V.ref x1, V.ref x2]) nk
      have sS := (s12.trans s3).trans s4
      exact ⟨kin, x1, x2, rfl, sS.trans sk, sS.free nk, upd_same, ((ko1.same s3).same s4).same sk, ko2.same sk⟩
    rintro σ3 Hc ⟨kin, x1, x2, rfl, sc, nkin, hkin, ko1, ko2⟩
    obtain ⟨wa, wb, wc, hu1', _⟩ := id (hub.same sc)
    have nku : kin ≠ u := fun z => by rw [z, hu0'] at nkin; cases nkin
    replace ko := ko.same sc
    replace hub := hub.same sc
    replace ht := sc _ _ ht
    replace hg := sc _ _ hg
    replace pr := pr.same sc
    refine ⟨fun σ' H' => ∃ (x3 : Addr), σ' = [some (.ref u), some (.int (0 + (i : Int))), some (.ref bt), some (.ref x), some (.ref kin), v5, v6, v7] ∧ Keep u Hb H' ∧ Urn H' u (n + 200 * i + 100) ∧ H' kin = some (.lst [.ref x1, .ref x2, .ref x3]) ∧ (∀ y ∈ [x1, x2, x3], KeysO K H' y ns (toldOf R ns)) ∧ KeysO K H' x ns (toldOf R ns) ∧ H' bt = some (.tup [.ref f, .ref g]) ∧ H' g = some (.tup (qs.map V.ref)) ∧ PrAt H' qs R, ?_, ?_⟩
    · obtain ⟨dx, tn, d0, A0, hx, _⟩ := id ko
      refine ⟨_, rfl, .inl ⟨rfl, _, SqL.of hkin⟩, ?_⟩
      refine ⟨_, rfl, x, dx, _, rfl, hx, x, ns, _, rfl, ko, fun p1 hp1 => ?_⟩
      refine ⟨_, rfl, _, rfl, x, dx, _, rfl, hx, x, ns, _, rfl, ko, fun H1 p2 rs s1 hp2 pr2 => ?_⟩
      have hub1 := hub.same s1
      have lrs : rs.length ≤ 25 := by rw [pr2.1]; exact lpa
      refine ⟨u, p2, rs.map V.ref, n + 200 * i + 45, rfl, hub1, by rw [List.length_map]; omega, .inr (SqT.of hp2), by rw [List.length_map]; omega, fun ys p H' pm hu' k' np hp => ?_⟩
      obtain ⟨zs, rfl, pz⟩ := nodup_perm_map pm
      rw [List.length_map] at hu'
      obtain ⟨wa', wb', wc', hu1'', _⟩ := id hub1
      have pr3 : PrAt H' rs (pairsOf ns (toldOf R ns)) := k'.pr hu1'' pr2
      obtain ⟨C, pC, qC⟩ := paired_perm pz (pr_to pr3)
      have kS : Keep u Hc H' := (Same.keep s1).trans k'
      have lift : ∀ {a : Addr} {l : List V}, Hc a = some (.tup l) → H' a = some (.tup l) := fun {a l} q => kS _ _ (ne_of q hu1' (by intro z; cases z)) q
      intro x3 dx3 nx3 ndx3 nex
      refine key (lift hp1) hp (pr_of qC) pC x3 dx3 nx3 ndx3 _ _ fun H5 s5 ko3 => ?_
      have kS5 := kS.trans (Same.keep s5)
      have hkin5 : H5 kin = some (.lst [.ref x1, .ref x2]) := kS5 _ _ nku hkin
      refine ⟨rfl, kin, _, _, rfl, rfl, hkin5, by show 2 < sizeLine; decide, ?_⟩
      have up : ∀ {y : Addr}, KeysO K H5 y ns (toldOf R ns) → KeysO K (upd H5 kin (.lst ([.ref x1, .ref x2] ++ [.ref x3]))) y ns (toldOf R ns) := fun h => h.keep hkin5 fun b o nb q => by rw [upd_ne nb]; exact q
      have upt : ∀ {a : Addr} {l : List V}, H5 a = some (.tup l) → (upd H5 kin (.lst ([.ref x1, .ref x2] ++ [.ref x3]))) a = some (.tup l) := fun {a l} q => by rw [upd_ne (ne_of q hkin5 (by intro z; cases z))]; exact q
      refine ⟨x3, rfl, ?_, ?_, upd_same, fun y hy => ?_, up ((ko.keepU hub kS).same s5), upt (s5 _ _ (lift ht)), upt (s5 _ _ (lift hg)), ?_⟩
      · exact Keep_lay ((Same.keep sc).trans kS5) nkin
      · obtain ⟨a, b, c, h3, h4, h5⟩ := hu'
        exact ⟨a, b, c, by rw [upd_ne nku.symm]; exact s5 _ _ h3, by omega, by omega⟩
      · simp only [List.mem_cons, List.not_mem_nil, or_false] at hy
        rcases hy with rfl | rfl | rfl
        · exact up ((ko1.keepU hub kS).same s5)
        · exact up ((ko2.keepU hub kS).same s5)
        · exact up ko3
      · have q := (kS.pr hu1' pr).same s5
        exact ⟨q.1, fun i q' hq' => let ⟨pr', a, b⟩ := q.2 i q' hq'; ⟨pr', a, upt b⟩⟩
    rintro σ4 Hd ⟨x3, rfl, kd, hud, hkin3, kos, koD, htD, hgD, prD⟩
    replace ka := ka.trans kd
    clear kd ko hub ht hg pr hkin ko1 ko2 sc hu0' hu1'
    obtain ⟨dx, tn, d0, A0, hx, _⟩ := id koD
    obtain ⟨ha, hnn, htk, hmo⟩ := B.ty_Keys
    refine ⟨fun σ' H' => σ' = [some (.ref u), some (.int (0 + (i : Int))), some (.ref bt), some (.ref x), some (.ref kin), v5, v6, v7] ∧ Same Hd H', ?_, ?_⟩
    · refine ⟨_, rfl, kin, rfl, ⟨_, SqL.of hkin3⟩, fun D hD => ?_⟩
      refine lc_fm (walk_list (xs := [x1, x2, x3].map V.ref)) (fun _ => some (.bl true)) hD (by show 3 ≤ sizeLine; decide) (fun H' s' => sm_seqL s' (SqL.of hkin3)) (fun j v H5 H6 Kt Kf hj s5 y kt kf => ?_) (fun H5 s5 hD5 => ?_)
      · obtain ⟨rfl, hv⟩ := y
        obtain ⟨y, hy, rfl⟩ := at_ref hv
        have koy := (kos y (List.mem_of_getElem? hy)).same s5
        obtain ⟨dy, _, _, _, hy', _⟩ := id koy
        have kox := koD.same s5
        have hx6 := s5 _ _ hx
        refine ⟨rfl, iteT (B := Kf H6) ?_⟩
        refine ⟨_, rfl, _, rfl, y, dy, _, _, rfl, hy', .base (.ins hx6 B.cl_Keys ha hnn htk hmo), nf_self, y, x, ns, _, rfl, koy, .inl ⟨ns, _, kox, _, rfl, ?_⟩⟩
        rw [decide_eq_true (show ns.length = ns.length ∧ ∀ n ∈ ns, n ∈ ns ∧ toldOf R ns n = toldOf R ns n from ⟨rfl, fun n hn => ⟨hn, rfl⟩⟩)]
        refine ⟨_, rfl, iteT ?_⟩
        refine ⟨_, rfl, y, dy, _, rfl, hy', y, ns, _, rfl, koy, l8, fun H7 s7 => ?_⟩
        refine ⟨_, rfl, x, dx, _, rfl, s7 _ _ hx6, x, ns, _, rfl, kox.same s7, l8, fun H8 s8 => ⟨rfl, ?_⟩⟩
        rw [decide_eq_true (show V.str (textOf ns (toldOf R ns)) = V.str (textOf ns (toldOf R ns)) from rfl)]
        exact kt _ _ rfl (s7.trans s8)
      · refine ⟨D, List.replicate 3 true, rfl, SqL.of (hD5.trans (by rw [show ([x1, x2, x3].map V.ref).length = 3 from rfl, rep_true])), _, rfl, ?_⟩
        rw [rep_all]
        exact iteF ⟨rfl, s5⟩
    rintro σ5 He ⟨rfl, se⟩
    replace koD := koD.same se
    replace hx := se _ _ hx
    replace hkin3 := se _ _ hkin3
    replace kos : ∀ y ∈ [x1, x2, x3], KeysO K He y ns (toldOf R ns) := fun y hy => (kos y hy).same se
    replace htD := se _ _ htD
    replace hgD := se _ _ hgD
    replace prD := prD.same se
    refine ⟨fun σ' H' => σ' = [some (.ref u), some (.int (0 + (i : Int))), some (.ref bt), some (.ref x), some (.ref kin), v5, v6, v7] ∧ Same He H', ?_, ?_⟩
    · refine ⟨_, rfl, kin, rfl, ⟨_, SqL.of hkin3⟩, fun D hD => ?_⟩
      refine lc_fm (walk_list (xs := [x1, x2, x3].map V.ref)) (fun _ => some (.bl true)) hD (by show 3 ≤ sizeLine; decide) (fun H' s' => sm_seqL s' (SqL.of hkin3)) (fun j v H5 H6 Kt Kf hj s5 y kt kf => ?_) (fun H5 s5 hD5 => ?_)
      · obtain ⟨rfl, hv⟩ := y
        obtain ⟨y, hy, rfl⟩ := at_ref hv
        have koy := (kos y (List.mem_of_getElem? hy)).same s5
        refine ⟨rfl, iteT (B := Kf H6) ?_⟩
        exact ⟨_, rfl, y, ns, _, rfl, koy, od, fun H7 s7 => kt _ _ rfl s7⟩
      · refine ⟨D, List.replicate 3 true, rfl, SqL.of (hD5.trans (by rw [show ([x1, x2, x3].map V.ref).length = 3 from rfl, rep_true])), _, rfl, ?_⟩
        rw [rep_all]
        exact iteF ⟨rfl, s5⟩
    rintro σ6 Hf ⟨rfl, sf⟩
    replace koD := koD.same sf
    replace hx := sf _ _ hx
    replace htD := sf _ _ htD
    replace hgD := sf _ _ hgD
    replace prD := prD.same sf
    refine ⟨fun σ' H' => σ' = [some (.ref u), some (.int (0 + (i : Int))), some (.ref bt), some (.ref x), some (.ref kin), v5, v6, v7] ∧ Same Hf H', ?_, ?_⟩
    · refine ⟨_, rfl, bt, _, _, _, rfl, rfl, SqT.of htD, rfl, g, rfl, ⟨_, SqT.of hgD⟩, fun D hD => ?_⟩
      refine lc_fm (walk_tup (xs := qs.map V.ref)) (fun _ => some (.bl true)) hD (by rw [List.length_map, prD.1]; omega) (fun H' s' => sm_seqT s' (SqT.of hgD)) (fun j v H5 H6 Kt Kf hj s5 y kt kf => ?_) (fun H5 s5 hD5 => ?_)
      · obtain ⟨rfl, hv⟩ := y
        obtain ⟨q, hq, rfl⟩ := at_ref hv
        obtain ⟨pp, e1, e2⟩ := prD.2 j q hq
        have hpR : pp ∈ R := List.mem_of_getElem? e1
        refine ⟨rfl, iteT (B := Kf H6) ?_⟩
        refine ⟨_, rfl, _, rfl, x, dx, _, rfl, s5 _ _ hx, x, ns, _, rfl, koD.same s5, fun H7 p2 rs s7 hp2 pr2 => ?_⟩
        have so2 : ∀ z ∈ [pp.1, pp.2], PyData.strOk z = true := fun z hz => by
          simp only [List.mem_cons, List.not_mem_nil, or_false] at hz
          rcases hz with rfl | rfl
          · exact N.ok _ (rin pp hpR).1
          · exact N.ok _ (rin pp hpR).2
        refine ⟨_, _, .tup (SqT.of (s7 _ _ (s5 _ _ e2))) (dp_strs [pp.1, pp.2]), .tup (SqT.of hp2) (dp_pairs pr2), shp_strs so2, shp_pairs pok, ?_⟩
        have ea : ((dPairs (pairsOf ns (toldOf R ns))).any fun z => PyData.eqv z (.tuple ([pp.1, pp.2].map PyData.str))) = true := by
          rw [show (PyData.tuple ([pp.1, pp.2].map PyData.str)) = .tuple [.str pp.1, .str pp.2] from rfl, any_pair]
          exact decide_eq_true (List.mem_flatMap.mpr ⟨pp.1, (rin pp hpR).1, List.mem_map.mpr ⟨pp.2, told_in.mpr ⟨(rin pp hpR).2, .one hpR⟩, rfl⟩⟩)
        rw [ea]
        exact kt _ _ rfl s7
      · refine ⟨D, List.replicate (qs.map V.ref).length true, rfl, SqL.of (hD5.trans (by rw [rep_true])), _, rfl, ?_⟩
        rw [rep_all]
        exact iteF ⟨rfl, s5⟩
    rintro σ7 Hg ⟨rfl, sg⟩
    replace koD := koD.same sg
    replace hx := sg _ _ hx
    have sAll := (se.trans sf).trans sg
    refine ⟨_, rfl, x, dx, _, rfl, hx, x, ns, _, rfl, koD, fun p hp => ?_⟩
    refine ⟨p, rfl, ⟨_, SqT.of hp⟩, ?_⟩
    have hudG := hud.same sAll
    have kaG := ka.trans (Same.keep sAll)
    refine for_it (walk_tup (xs := ns.map V.str)) (fun j σ H' => ∃ v5 v6 v7 : Option V, σ = [some (.ref u), some (.int (0 + (i : Int))), some (.ref bt), some (.ref x), some (.ref kin), v5, v6, v7] ∧ Same Hg H') ⟨v5, v6, v7, rfl, Same.refl _⟩ (fun j σ H' _ ⟨_, _, _, _, s'⟩ => sm_seqT s' (SqT.of hp)) (fun j yy σ H5 H6 hj ⟨w5, w6, w7, e, s5⟩ y => ?_) (fun σ H5 ⟨w5, w6, w7, e, s5⟩ => ?_)
    · obtain ⟨rfl, hy⟩ := y
      subst e
      obtain ⟨o, ho, rfl⟩ := at_str hy
      have hoi : o ∈ ns := List.mem_of_getElem? ho
      refine ⟨_, rfl, x, dx, _, rfl, s5 _ _ hx, x, ns, _, rfl, koD.same s5, fun p2 hp2 => ?_⟩
      refine ⟨p2, rfl, ⟨_, SqT.of hp2⟩, fun D hD => ?_⟩
      refine lc_fm (walk_tup (xs := ns.map V.str)) (fun _ => some (.bl true)) hD (by rw [List.length_map]; omega) (fun H' s' => sm_seqT s' (SqT.of hp2)) (fun j v H7 H8 Kt Kf hj s7 y kt kf => ?_) (fun H7 s7 hD7 => ?_)
      · obtain ⟨rfl, hv⟩ := y
        obtain ⟨r, hr', rfl⟩ := at_str hv
        refine ⟨rfl, iteT (B := Kf H8) ?_⟩
        exact ⟨_, rfl, _, rfl, _, rfl, x, o, r, ns, _, rfl, (koD.same s5).same s7, od, hoi, List.mem_of_getElem? hr', fun H9 s9 => kt _ _ rfl s9⟩
      · refine ⟨D, List.replicate (ns.map V.str).length true, rfl, SqL.of (hD7.trans (by rw [rep_true])), _, rfl, ?_⟩
        rw [rep_all]
        exact iteF ⟨_, _, _, rfl, s5.trans s7⟩
    · subst e
      exact ⟨_, _, _, _, _, _, _, rfl, (hudG.same s5).le (by omega), kaG.trans (Same.keep s5)⟩
end
end Jd
namespace Jd
open PySem PySem.Spec PyProof.Rows L2
/-! ### the law -/
def spLaw (K : PySem.W.Frag) : Sp := fun vs H Q _ => ∃ (a : Addr) (ns : List Int), vs = [.ref a] ∧ SqL K H a (ns.map V.int) ∧ ns.length ≤ 63 ∧ ∀ H', Same H H' → Q (.bl true) H'
section
variable {P : Program} {w : World} {K : PySem.W.Frag} {mg : Str → Option Value} {base : Heap}
abbrev NW : List Str := ["_law_script", "_law_cells_here", "_law_k"]
theorem sc_law : FnScope NW ["_law_script"] (defScope s_law) := ⟨rfl, rfl, rfl, by decide +kernel, rfl, by decide +kernel, by decide +kernel⟩
theorem ok_law (B : Bk K mg) {fd : FuncData} (F : Fun K "law" "law" s_law (He.ga K "law") fd) : FnOk P w K mg base CX0 9 (He.ga K "law") fd ["_law_script"] (spLaw K) := by
  obtain ⟨fdC, GC, bC⟩ := (ok_law_cells (P := P) (w := w) (base := base) B).ex
  have kC := (ok_law_cells (P := P) (w := w) (base := base) B).kp
  obtain ⟨fdX, GX, bX⟩ := (ok_law_box (P := P) (w := w) (base := base) B).ex
  have kX := (ok_law_box (P := P) (w := w) (base := base) B).kp
  obtain ⟨fdR, GR, bR⟩ := (ok_right (P := P) (w := w) (base := base) B).ex
  have kR := (ok_right (P := P) (w := w) (base := base) B).kp
  refine F.ok sc_law (fun vs H Q E h => ?_) (fun cdv A outer s H vs Q E hr h => ?_)
  · obtain ⟨_, _, rfl, _⟩ := h
    rfl
  · obtain ⟨a, ns, rfl, hs, hn, k⟩ := h
    have hr1 : Room 1 _ := hr.mono (by decide)
    refine ⟨_, pss_cons (ps_set (i := 1) sc_law.nd rfl (Or.inr rfl) (pe_call GC hr1 rfl B.g_law_cells kC bC .nil pass0 (pa_cons (pv 0) (pa_cons pe_int pa_nil))))
      (pss_one (ps_ret (pe_callB (cr_all rfl) (by rfl) B.b_all (by decide +kernel) (pa_cons (pe_lc (own := [("_law_k", 2)]) (g := gName 2) (tt := tYes) rfl sc_law.nd (pi_range1 rfl B.b_range (pa_cons (pe_callB call_len (by rfl) B.b_len (by decide +kernel) (pa_cons (pv 1) pa_nil)) pa_nil)) (blkOk_by (N := NW) (sc := defScope s_law) (by decide +kernel))
          (fun _ _ _ _ _ => pg_name (i := 2) sc_law.nd rfl (Or.inl rfl)) (fun _ _ _ _ _ => pts_nil) (fun _ _ _ _ _ => pe_call GR hr rfl B.g_law_right kR bR .nil pass0 (pa_cons (pe_call GX hr1 rfl B.g_law_box kX bX .nil pass0 (pa_cons (pv 1) (pa_cons (pv 2) pa_nil))) pa_nil))) pa_nil)))), ?_⟩
    refine ⟨_, rfl, a, ns, rfl, hs, hn, fun H1 p ms s1 np hp h1 h3 => ?_⟩
    refine ⟨_, rfl, _, _, rfl, .inl ⟨_, SqL.of hp, rfl⟩, _, rfl, by rw [List.length_map]; omega, by rw [List.length_map]; omega, fun D nD => ?_⟩
    refine lc_fm (n := ms.length) (by rw [List.length_map]; exact walk_range) (fun _ => some (.bl true)) nD (Nat.le_trans h3 (by decide)) (fun _ _ => trivial) (fun i x H2 H3 Kt Kf hi s2 y kt kf => ?_) (fun H2 s2 hD2 => ?_)
    · obtain ⟨rfl, rfl⟩ := y
      refine ⟨rfl, iteT (B := Kf H3) ?_⟩
      refine ⟨_, rfl, _, rfl, p, ms, i, by show [V.ref p, V.int (0 + (i : Int))] = _; rw [Int.zero_add], SqL.of (s2 _ _ hp), hi, by omega, fun H4 u s4 nu hu => ?_⟩
      refine ⟨u, _, rfl, hu, by decide, fun H5 kp => kt _ _ rfl fun b o q => kp _ _ (ne_of_none q nu) (s4 _ _ q)⟩
    · refine ⟨D, List.replicate ms.length true, rfl, SqL.of (hD2.trans (by rw [rep_true])), ?_⟩
      rw [rep_all]
      exact k _ (s1.trans s2)
theorem one_arg {fd : FuncData} (F : Fun K "law" "law" s_law (He.ga K "law") fd) (s : Shared) (u : Value) : BindsTo s fd ⟨[u], []⟩ [("_law_script", u)] := by
  obtain ⟨oc, od, kV, doc, pm, an, cdv, ct, osl, rfl, lk, hcd⟩ := F.ex
  exact .of_eq rfl
end
end Jd
namespace Jd
open PySem PySem.W PySem.Calls PyProof.Rows
/-! ### the end -/
abbrev lawDef := HandSHeadRun.topDef R.prog 24
theorem e_def : defOf qv R.name = some (lawDef, []) := by kernel_rfl
theorem e_the : R.prog.theDef R.name = some (lawDef.params, lawDef.body, lawDef.scope) := by kernel_rfl
theorem e_kw : kwWritten? lawDef.params.kwonlyargs lawDef.params.kw_defaults = some [] := by kernel_rfl
theorem e_wr : (!R.writes || R.records.isEmpty) = true := by rfl
theorem e_ok : (chainsOk qv && opensWell R.prog && (frees R.toRowW && R.within.isEmpty)) = true := by decide +kernel
theorem e_bare : R.prog.bare := ⟨rfl, rfl, rfl, rfl, rfl, by decide +kernel⟩
theorem e_name : lawDef.name = ("law" : PySem.Str) := by kernel_rfl
theorem e_nodf : lawDef.params.defaults = [] := by kernel_rfl
theorem e_prom : R.toRowW.promised := by w_witness2
theorem e_open : opening R.prog = plainProg R.prog.main.scope.names := by kernel_rfl
theorem e_fen : ∀ s, fenceModules? R.prog s = some s := fun s => by kernel_rfl
theorem e_walk : WalkO qv loose (XL qv []) hk.says R.toRowW lawDef [] fun f vs => PySem.call f vs := by
  refine L2.walk_ofE (l := PySem.Challenge.rw_keyspans_k03_whole_telling_is_an_order) (n := 63) (k := 9) (x := "_law_script") (CX := L2.CX0) rfl (by decide) e_nodf ⟨rfl, by decide, by decide⟩ ?F (fun _ _ _ _ z => z)
  intro w mg fa h Y G hmg0
  obtain ⟨K, KX, c⟩ := Y
  have hmg : mg ("law" : PySem.Str) = some (.ref fa) := by
    rw [← e_name]
    exact hmg0
  have B : Bk K mg := ⟨c, h, KX, G⟩
  have ef : fa = He.ga K "law" := by
    have q := B.g_law
    rw [hmg] at q
    injection q with q
    injection q
  subst ef
  obtain ⟨fd, F⟩ := B.F_law
  exact ⟨K, fd, spLaw K, KX, fun s u => one_arg F s u, fun H a ns hl _ hS => ⟨a, ns, rfl, hS, hl, fun _ _ => rfl⟩, fun base _ _ => ok_law B F⟩
theorem e_all (said : R.wellSaid = true) : R.Holds :=
  HandSHeadRun.head_any (r := R) (q := qv) (H := hk) (ob := ob) (M := 4000) (loose := loose) (d := lawDef) (kwd := []) ob_eq e_open e_fen run e_def e_the e_kw e_wr said e_ok e_bare e_prom e_walk
end Jd
open PySem PySem.W PySem.Calls PyProof.Rows
theorem PySem.Challenge.cw_keyspans_k03_whole_telling_is_an_order_holds : PySem.Challenge.rw_keyspans_k03_whole_telling_is_an_order.Holds := by
  w_on; o_law
  exact Jd.e_all (by assumption)
