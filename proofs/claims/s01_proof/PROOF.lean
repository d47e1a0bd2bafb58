import PyProof.Rows.All
import Wide.All
import OpenK.AllK
import Wide.FinOn
import HandS.ForSpec
import HandS.SortKw
import PyProof.MinMaxWalk
import KE.KMinKey
import HandS.CallLocal
import HandS.TryMany
import HandS.Codes
import HandS.Comp
import HandS.Flow
import HandS.Small
import HandS.TupLe
import KE.LtSeq
import HandS.Iter
import HandS.DictTup
import HandS.Dict
import HandS.Zip
import HandS.Conv
import PyProof.Rows.SortShell
import HandS.Nested
import HandS.TupAny
import Open.SpecLaws
import KE.OsGo
import KE.KLam
import HandS.Lambda
import HandS.Ends
import KE.KNestM
import PySem.Challenge.RW_keepslots_s01_answers
set_option Elab.async false
set_option maxRecDepth 100000
set_option maxHeartbeats 4000000
set_option linter.all false
/-! min and max with an own def as key, over the layer of the hand. -/
namespace Lab
open PySem PySem.Spec PyProof.Rows L2

/-- the context a call deeper, nothing raised -/
def nest (X : Cx) : Cx := { X with A := X.A.in1, xe := fun _ _ => False }
section
variable {X : Cx} {pins : List (Addr × Obj)} {σ : L2.St} {H : Hp} {s : Shared}
theorem nest_in (I : Inv X pins σ H s) : Inv (nest X) pins σ H s :=
  ⟨⟨I.ok.mod, I.ok.kind, I.ok.glob, I.ok.blt, I.ok.above, I.ok.inj, I.ok.has, I.ok.cab, I.ok.hd, I.ok.frames, I.ok.stk, I.ok.exf, I.ok.bs, I.ok.bsz, I.ok.noex, I.ok.exfs, I.ok.funs, I.ok.frf⟩,
    I.os, I.bare, I.base, I.loc, I.cell, I.free, I.freeC, I.pin, I.hok, I.len⟩
theorem nest_out (ok : X.Ok) (I : Inv (nest X) pins σ H s) : Inv X pins σ H s :=
  ⟨ok, I.os, I.bare, I.base, I.loc, I.cell, I.free, I.freeC, I.pin, I.hok, I.len⟩
/-- an address of ours: no cell, no pin, younger than the entry -/
structure Young (X : Cx) (pins : List (Addr × Obj)) (b : Addr) : Prop where
  yg : X.s_0.heap.objs.size ≤ b
  cl : ∀ x c, X.env.cells.lookup x = some c → c ≠ b
  pn : ∀ p ∈ X.pn ++ pins, p.1 ≠ b
theorem young_of (I : Inv X pins σ H s) {b : Addr} (h : s.heap.objs.size ≤ b) : Young X pins b := by
  refine ⟨Nat.le_trans I.sz h, fun x c e z => ?_, fun p hp z => ?_⟩
  · obtain ⟨v, o, ho, _⟩ := I.cell x c e
    exact absurd (Nat.lt_of_lt_of_le (Heap.lt_size ho) h) (by rw [z]; exact Nat.lt_irrefl _)
  · obtain ⟨e, _⟩ := I.pin p hp
    exact absurd (Nat.lt_of_lt_of_le (Heap.lt_size e) h) (by rw [z]; exact Nat.lt_irrefl _)
/-- a pinned record of ours has become another -/
theorem repin {it : Addr} {ob ob' : Obj} {h' : Heap} {t' : Nat} (I : Inv X ((it, ob) :: pins) σ H s) (y : Young X pins it)
    (k : ∀ b o, b ≠ it → s.heap.get? b = some o → h'.get? b = some o) (e : h'.get? it = some ob') (nd : ∀ v, ob'.data ≠ .cell v) :
    Inv X ((it, ob') :: pins) σ H { s with heap := h', toks := t' } := by
  obtain ⟨_, n, nl, nf, _⟩ := I.pin (it, ob) (List.mem_append_right _ (List.mem_cons_self))
  have I1 : Inv X pins σ H s := I.pins_of fun p hp => I.pin p (List.mem_append_right _ (List.mem_cons_of_mem _ hp))
  have I2 := I1.turned (t' := t') k n nl (.inr y.yg) y.cl y.pn
  refine I2.pins_of fun p hp => ?_
  rcases List.mem_cons.mp hp with rfl | hp
  · exact ⟨e, n, nl, nf, nd⟩
  · exact I2.pin p (List.mem_append_right _ hp)
theorem swap_pins {p q : Addr × Obj} (I : Inv X (p :: q :: pins) σ H s) : Inv X (q :: p :: pins) σ H s := by
  refine I.pins_of fun r hr => I.pin r (List.mem_append_right _ ?_)
  rcases List.mem_cons.mp hr with rfl | hr
  · exact List.mem_cons_of_mem _ List.mem_cons_self
  · rcases List.mem_cons.mp hr with rfl | hr
    · exact List.mem_cons_self
    · exact List.mem_cons_of_mem _ (List.mem_cons_of_mem _ hr)
theorem drop_pin {p : Addr × Obj} (I : Inv X (p :: pins) σ H s) : Inv X pins σ H s :=
  I.pins_of fun r hr => I.pin r (List.mem_append_right _ (List.mem_cons_of_mem _ hr))
end

/-- what is kept between two turns: i items seen, the best one b, its key kb -/
structure BestOf (K : PySem.W.Frag) (sp : Sp) (rC : R2) (a : Addr) (xs : List V) (J : Nat → V → V → Hp → Prop) : Prop where
  stays : ∀ i b kb H, J i b kb H → SqL K H a xs
  turn : ∀ i x b kb H, xs[i]? = some x → J i b kb H → sp [x] H (fun k H2 => rC k kb H2 fun y H3 => ∃ c, y = .bl c ∧ J (i + 1) (if c = true then x else b) (if c = true then k else kb) H3) (fun _ _ _ => False)

section
variable {X : Cx} {pins : List (Addr × Obj)} {σ : L2.St} {k : Nat} {f : Addr} {fd : FuncData} {ps : List Str} {sp : Sp} {rC : R2} {a : Addr} {xs : List V} {J : Nat → V → V → Hp → Prop}

theorem it_ne {s : Shared} {H : Hp} {It : Addr} {oI : Obj} (I : Inv (nest X) pins σ H s) (h : SqL X.K H a xs) (e : s.heap.get? It = some oI) (hc : oI.cls = .type "list_iterator") : a ≠ It := by
  obtain ⟨its, _, ⟨o, n, ho, hl, _⟩, _⟩ := I.list h
  rintro rfl
  have z : o = oI := Option.some.inj (ho.symm.trans e)
  rw [← z, hl] at hc
  injection hc with hc
  exact absurd hc (by decide)

theorem min_turns {It S : Addr} {R : Result → Shared → Prop} (ok : X.Ok) (F : FnOk X.prog X.w X.K X.mg X.base CX0 k f fd ps sp) (hr : Room k X.A.in1) (hb : Binds X.K fd ps []) (hC : OpR (nest X) (compareOp .Lt) rC) (B : BestOf X.K sp rC a xs J)
    (yI : Young X pins It) (yS : Young X pins S) (ne : S ≠ It)
    (hR : ∀ b kb ub H s, J xs.length b kb H → Inv X pins σ H s → RelV b ub → R (.ok (.ret ub)) s) :
    ∀ (r i : Nat) (s : Shared) (H : Hp) (vb kb : V) (ub uk : Value) (c : Nat) (oI : Obj), xs.length - i = r → i ≤ xs.length →
      Inv (nest X) ((S, seqObj "list" #[ub, uk] c) :: (It, oI) :: pins) σ H s → oI.cls = .type "list_iterator" → oI.data = .fields #[.ref a, .int i 0] →
      RelV vb ub → RelV kb uk → J i vb kb H → codeAny (model X.prog X.w) X.A (.builtin "min.loop" ⟨[.ref It, .ref f, .ref S], []⟩) R s := by
  have nm : (toString "min" ++ toString ".loop" : String) = "min.loop" := by decide
  have hh : X.A.in1.handled = none := hr.hd
  have yS' : Young (nest X) pins S := ⟨yS.yg, yS.cl, yS.pn⟩
  have yI' : Young (nest X) pins It := ⟨yI.yg, yI.cl, yI.pn⟩
  have addPin : ∀ {b : Addr} {p : Addr × Obj}, Young (nest X) pins b → p.1 ≠ b → Young (nest X) (p :: pins) b := fun {b p} y n => ⟨y.yg, y.cl, fun q hq => by
    rcases List.mem_append.mp hq with hq | hq
    · exact y.pn q (List.mem_append_left _ hq)
    · rcases List.mem_cons.mp hq with rfl | hq
      · exact n
      · exact y.pn q (List.mem_append_right _ hq)⟩
  intro r
  induction r with
  | zero =>
    intro i s H vb kb ub uk c oI hr0 hi I hc hd rb rk j
    have hin : i = xs.length := by omega
    subst hin
    obtain ⟨gS, nS, lS, fS, _⟩ := I.pin (S, seqObj "list" #[ub, uk] c) (List.mem_append_right _ List.mem_cons_self)
    obtain ⟨gI, nI, lI, fI, _⟩ := I.pin (It, oI) (List.mem_append_right _ (List.mem_cons_of_mem _ List.mem_cons_self))
    have hl := B.stays _ _ _ _ j
    have na := it_ne I hl gI hc
    obtain ⟨its, rv, pl, _⟩ := I.list hl
    have hsz : its.toArray.size = xs.length := by rw [List.size_toArray]; exact rv.length.symm
    have W := Walks.list (prog := X.prog) (w := X.w) (A := X.A.in1) hh It a na its.toArray
    refine codeAny_builtin PySem.F.entry_min_loop (by
      rw [Around.under_plainId PySem.F.plain_min_loop _]
      show wpAny _ X.A.in1 (seqItems? (.ref S) >>= _) _ _ s
      refine wpAny_bind (wpAny_seqItems gS rfl ?_)
      show wpAny _ X.A.in1 (tryCatch (pyNext (.ref It)) _ >>= _) _ _ s
      refine wpAny_bind (wpAny_tryCatch (W.done s _ _ ⟨⟨oI, gI, hc, by rw [hsz]; exact hd⟩, pl.isList⟩ fun h1 t1 keep1 => ?_))
      have gS1 := keep1 S _ (by simpa using ne) gS
      show wpAny _ X.A.in1 (updateSeq S (fun _ => #[]) >>= _) _ _ _
      refine wpAny_bind (wpAny_updateSeq gS1 rfl (wpAny_bind (wpAny_letGo (wpAny_pure ?_))))
      refine hR vb kb ub H _ j ?_ rb
      have I1 : Inv (nest X) pins σ H s := drop_pin (drop_pin I)
      have I2 := I1.turned (t' := t1) (it := It) (h' := h1) (fun b o hb e => keep1 b o (by simpa using hb) e) nI lI (.inr yI'.yg) yI'.cl yI'.pn
      have sb := Heap.SameBut.update h1 S (Obj.mapSeq fun _ => (#[] : Array Value))
      exact nest_out ok (I2.turned (it := S) (t' := t1) (fun b o hb e => (sb.2 b hb).trans e) nS lS (.inr yS'.yg) yS'.cl yS'.pn))
  | succ r ih =>
    intro i s H vb kb ub uk c oI hr0 hi I hc hd rb rk j
    have hlt : i < xs.length := by omega
    obtain ⟨gS, nS, lS, fS, _⟩ := I.pin (S, seqObj "list" #[ub, uk] c) (List.mem_append_right _ List.mem_cons_self)
    obtain ⟨gI, nI, lI, fI, _⟩ := I.pin (It, oI) (List.mem_append_right _ (List.mem_cons_of_mem _ List.mem_cons_self))
    have hl := B.stays _ _ _ _ j
    have na := it_ne I hl gI hc
    obtain ⟨its, rv, pl, _⟩ := I.list hl
    have hsz : its.toArray.size = xs.length := by rw [List.size_toArray]; exact rv.length.symm
    have W := Walks.list (prog := X.prog) (w := X.w) (A := X.A.in1) hh It a na its.toArray
    refine codeAny_builtin PySem.F.entry_min_loop (by
      rw [Around.under_plainId PySem.F.plain_min_loop _]
      show wpAny _ X.A.in1 (seqItems? (.ref S) >>= _) _ _ s
      refine wpAny_bind (wpAny_seqItems gS rfl ?_)
      show wpAny _ X.A.in1 (tryCatch (pyNext (.ref It)) _ >>= _) _ _ s
      refine wpAny_bind (wpAny_tryCatch (W.item i s _ _ (by rw [hsz]; exact hlt) ⟨⟨oI, gI, hc, hd⟩, pl.isList⟩ fun v h1 t1 hv st1 keep1 => ?_))
      have hv' : its[i]? = some v := by simpa using hv
      obtain ⟨u1, hu1, rx⟩ := rv.get (i := i) (x := xs[i]'hlt) (List.getElem?_eq_getElem hlt)
      obtain rfl : u1 = v := Option.some.inj (hu1.symm.trans hv')
      obtain ⟨oI1, gI1, hc1, hd1⟩ := st1.1
      have I1 : Inv (nest X) ((It, oI1) :: (S, seqObj "list" #[ub, uk] c) :: pins) σ H { s with heap := h1, toks := t1 } :=
        repin (swap_pins I) (addPin yI' ne) (fun b o hb e => keep1 b o (by simpa using hb) e) gI1 (by rw [hd1]; intro v z; cases z)
      show wpAny _ X.A.in1 (tryCatch (holding [u1] (call (.ref f) [u1])) _ >>= _) _ _ _
      have step := B.turn i (xs[i]'hlt) vb kb H (List.getElem?_eq_getElem hlt) j
      refine wpAny_bind (wpAny_tryCatch (wpAny_holding (wpAny_mono (run_fn (X := nest X) (ds := []) (dvs := []) F hr hb .nil pass0 I1 (vs := [xs[i]'hlt]) (us := [u1]) (.cons rx .nil) step) (fun uk2 s2 he => ?_) fun _ _ z => z.elim)))
      obtain ⟨k2, H2, I2, rk2, hcmp⟩ := he
      show wpAny _ X.A.in1 (tryCatch (holding [u1, uk2] (richCompare .Lt uk2 uk >>= _)) _ >>= _) _ _ _
      refine wpAny_bind (wpAny_tryCatch (wpAny_holding (wpAny_bind (wpAny_mono (hC _ s2 σ H2 k2 kb uk2 uk _ I2 rk2 rk hcmp) (fun uc s3 he => ?_) fun _ _ z => z.elim))))
      obtain ⟨y, H3, I3, ry, cc, rfl, j3⟩ := he
      obtain rfl : uc = Value.bool cc := ry
      refine wpAny_bind (wpAny_holding (wpAny_truthy_bool (wpAny_bind (wpAny_letGo (wpAny_pure ?_)))))
      have I3' := swap_pins I3
      obtain ⟨gS3, _, _, _, _⟩ := I3.pin (S, seqObj "list" #[ub, uk] c) (List.mem_append_right _ (List.mem_cons_of_mem _ List.mem_cons_self))
      cases cc with
      | true =>
        simp only [if_true] at j3 ⊢
        have sb := Heap.SameBut.update s3.heap S (Obj.mapSeq fun _ => #[u1, uk2])
        have gS4 := get?_update_seq gS3 fun _ => #[u1, uk2]
        refine wpAny_bind (wpAny_updateSeq gS3 rfl (wpAny_bind (wpAny_letGo ?_)))
        rw [nm]
        refine wpAny_pure ⟨plainId_quiet PySem.F.plain_min_loop _, ih (i + 1) _ H3 (xs[i]'hlt) k2 u1 uk2 _ oI1 (by omega) hlt (repin (t' := s3.toks) I3' (addPin yS' (Ne.symm ne)) (fun b o hb e => (sb.2 b hb).trans e) gS4 (fun v z => by cases z)) hc1 hd1 rx rk2 j3⟩
      | false =>
        simp only [Bool.false_eq_true, if_false] at j3 ⊢
        refine wpAny_bind (wpAny_letGo ?_)
        rw [nm]
        exact wpAny_pure ⟨plainId_quiet PySem.F.plain_min_loop _, ih (i + 1) s3 H3 vb kb ub uk c oI1 (by omega) hlt I3' hc1 hd1 rb rk j3⟩)

/-- min(xs, key=f): from the first item on -/
def rMinKey (K : PySem.W.Frag) (f : Addr) (sp : Sp) (rC : R2) : List V → List V → Hp → VK → Prop := fun vs zs H Q => ∃ (a : Addr) (xs : List V) (x0 : V) (J : Nat → V → V → Hp → Prop), vs = [.ref a] ∧ zs = [.ref f] ∧ SqL K H a xs ∧ xs[0]? = some x0 ∧
  sp [x0] H (fun k H1 => J 1 x0 k H1) (fun _ _ _ => False) ∧ BestOf K sp rC a xs J ∧ ∀ b kb H1, J xs.length b kb H1 → Q b H1

theorem cr_minKey (F : FnOk X.prog X.w X.K X.mg X.base CX0 k f fd ps sp) (hr : Room (k + 1) X.A) (hb : Binds X.K fd ps []) (hC : OpR (nest X) (compareOp .Lt) rC) :
    CallRK X (.builtin "min") [Str.ofString "key"] (rMinKey X.K f sp rC) := by
  intro pins s σ H vs zs us ws Q I r rz h
  obtain ⟨a, xs, x0, J, rfl, rfl, hs, h0, st, B, q⟩ := h
  obtain rfl := Vals.ref1 r
  obtain rfl := Vals.ref1 rz
  have nm : (toString "min" ++ toString ".loop" : String) = "min.loop" := by decide
  have hh : X.A.in1.handled = none := hr.hd
  obtain ⟨its, rv, pl, _⟩ := I.list hs
  have hlt : 0 < xs.length := (List.getElem?_eq_some_iff.mp h0).1
  have hsz : its.toArray.size = xs.length := by rw [List.size_toArray]; exact rv.length.symm
  have y1 := young_of I (b := s.heap.objs.size) (Nat.le_refl _)
  have y2 := young_of I (b := s.heap.objs.size + 1) (Nat.le_succ _)
  have ne21 : s.heap.objs.size + 1 ≠ s.heap.objs.size := Nat.succ_ne_self _
  have sz : (s.heap.push { cls := .type "list_iterator", data := .fields #[.ref a, .int 0 0] }).objs.size = s.heap.objs.size + 1 := size_push' ..
  have keep : ∀ b o, s.heap.get? b = some o → ((s.heap.push { cls := .type "list_iterator", data := .fields #[.ref a, .int 0 0] }).push { cls := .type "list", data := .seq (List.toArray []) }).get? b = some o := fun b o e => Heap.get?_push_of_some _ (Heap.get?_push_of_some _ e)
  have gI : ((s.heap.push { cls := .type "list_iterator", data := .fields #[.ref a, .int 0 0] }).push { cls := .type "list", data := .seq (List.toArray []) }).get? s.heap.objs.size = some { cls := .type "list_iterator", data := .fields #[.ref a, .int 0 0] } :=
    Heap.get?_push_of_some _ (Heap.get?_push_size _ rfl)
  have gS : ((s.heap.push { cls := .type "list_iterator", data := .fields #[.ref a, .int 0 0] }).push { cls := .type "list", data := .seq (List.toArray []) }).get? (s.heap.objs.size + 1) = some (seqObj "list" #[] 0) := by
    have e := Heap.get?_push_size (s.heap.push { cls := .type "list_iterator", data := .fields #[.ref a, .int 0 0] }) (o := seqObj "list" #[] 0) rfl
    rw [sz] at e
    exact e
  have I0 := I.kept (t' := s.toks) keep
  have fr0 : H s.heap.objs.size = none := I.hok.fresh (Nat.le_refl _)
  have fr1 : H (s.heap.objs.size + 1) = none := I.hok.fresh (Nat.le_succ _)
  have lt0 := I.lt
  have I1 : Inv (nest X) ((s.heap.objs.size, ({ cls := .type "list_iterator", data := .fields #[.ref a, .int 0 0] } : Obj)) :: (s.heap.objs.size + 1, seqObj "list" #[] 0) :: pins) σ H { s with heap := (s.heap.push { cls := .type "list_iterator", data := .fields #[.ref a, .int 0 0] }).push { cls := .type "list", data := .seq (List.toArray []) } } := by
    refine (nest_in I0).pins_of fun p hp => ?_
    rcases List.mem_cons.mp hp with rfl | hp
    · exact ⟨gI, fr0, Nat.ne_of_gt lt0, I.nofs (Nat.le_refl _), fun v z => by cases z⟩
    · rcases List.mem_cons.mp hp with rfl | hp
      · exact ⟨gS, fr1, Nat.ne_of_gt (Nat.lt_succ_of_lt lt0), I.nofs (Nat.le_succ _), fun v z => by cases z⟩
      · exact (nest_in I0).pin p (List.mem_append_right _ hp)
  have na := it_ne I1 hs gI rfl
  have W := Walks.list (prog := X.prog) (w := X.w) (A := X.A.in1) hh s.heap.objs.size a na its.toArray
  have pin1 : ∀ (b : Addr) (p : Addr × Obj), Young X pins b → p.1 ≠ b → Young (nest X) (p :: pins) b := fun b p y n => ⟨y.yg, y.cl, fun q hq => by
    rcases List.mem_append.mp hq with hq | hq
    · exact y.pn q (List.mem_append_left _ hq)
    · rcases List.mem_cons.mp hq with rfl | hq
      · exact n
      · exact y.pn q (List.mem_append_right _ hq)⟩
  refine kmk_tree PySem.F.kind_min PySem.F.plain_min PySem.F.entry_min (kmk_min_key _ _) ?_
  show wpAny _ X.A.in1 (Builtin.Builtins.bindParams "min" ["key", "default"] 0 ⟨[], [(Str.ofString "key", .ref f)]⟩ >>= _) _ _ s
  refine wpAny_bind (wpAny_of_eq (show Builtin.Builtins.bindParams "min" ["key", "default"] 0 ⟨[], [(Str.ofString "key", .ref f)]⟩ = pure [some (.ref f), none] from rfl) (wpAny_bind (wpAny_pure ?_)))
  refine wpAny_bind (wpAny_pyIter_list pl.isList (wpAny_bind (wpAny_newList ?_ (Nat.zero_le _))))
  rw [nm]
  rw [sz]
  refine wpAny_pure ⟨plainId_quiet PySem.F.plain_min_loop _, codeAny_builtin PySem.F.entry_min_loop ?_⟩
  rw [Around.under_plainId PySem.F.plain_min_loop _]
  show wpAny _ X.A.in1 (seqItems? (.ref (s.heap.objs.size + 1)) >>= _) _ _ _
  refine wpAny_bind (wpAny_seqItems gS rfl ?_)
  show wpAny _ X.A.in1 (tryCatch (pyNext (.ref s.heap.objs.size)) _ >>= _) _ _ _
  refine wpAny_bind (wpAny_tryCatch (W.item 0 _ _ _ (by rw [hsz]; exact hlt) ⟨⟨_, gI, rfl, rfl⟩, pl.isList.at (keep a)⟩ fun v h1 t1 hv st1 keep1 => ?_))
  have hv' : its[0]? = some v := by simpa using hv
  obtain ⟨u1, hu1, rx⟩ := rv.get (i := 0) (x := x0) h0
  obtain rfl : u1 = v := Option.some.inj (hu1.symm.trans hv')
  obtain ⟨oI1, gI1, hc1, hd1⟩ := st1.1
  have I2 := repin (t' := t1) I1 (pin1 _ (s.heap.objs.size + 1, seqObj "list" #[] 0) y1 ne21) (fun b o hb e => keep1 b o (by simpa using hb) e) gI1 (by rw [hd1]; intro v z; cases z)
  show wpAny _ X.A.in1 (tryCatch (holding [u1] (call (.ref f) [u1])) _ >>= _) _ _ _
  refine wpAny_bind (wpAny_tryCatch (wpAny_holding (wpAny_mono (run_fn (X := nest X) (ds := []) (dvs := []) F hr.in1 hb .nil pass0 I2 (vs := [x0]) (us := [u1]) (.cons rx .nil) st) (fun uk2 s2 he => ?_) fun _ _ z => z.elim)))
  obtain ⟨k2, H2, I3, rk2, j3⟩ := he
  obtain ⟨gS3, _, _, _, _⟩ := I3.pin (s.heap.objs.size + 1, seqObj "list" #[] 0) (List.mem_append_right _ (List.mem_cons_of_mem _ List.mem_cons_self))
  have sb := Heap.SameBut.update s2.heap (s.heap.objs.size + 1) (Obj.mapSeq fun _ => #[u1, uk2])
  have gS4 := get?_update_seq gS3 fun _ => #[u1, uk2]
  refine wpAny_bind (wpAny_updateSeq gS3 rfl ?_)
  rw [nm]
  refine wpAny_pure ⟨plainId_quiet PySem.F.plain_min_loop _, min_turns I.ok F hr.in1 hb hC B y1 y2 ne21 (fun b kb ub H' s' j' I' rb => ⟨b, H', I', rb, q b kb H' j'⟩) _ 1 _ H2 x0 k2 u1 uk2 _ oI1 rfl hlt
    (repin (t' := s2.toks) (swap_pins I3) (pin1 _ _ y2 (Ne.symm ne21)) (fun b o hb e => (sb.2 b hb).trans e) gS4 (fun v z => by cases z)) hc1 hd1 rx rk2 j3⟩
theorem max_key_ok (a v : Value) : argsOk "max" ⟨[a], [(Str.ofString "key", v)]⟩ := by unfold argsOk; kernel_rfl
theorem max_turns {It S : Addr} {R : Result → Shared → Prop} (ok : X.Ok) (F : FnOk X.prog X.w X.K X.mg X.base CX0 k f fd ps sp) (hr : Room k X.A.in1) (hb : Binds X.K fd ps []) (hC : OpR (nest X) (compareOp .Gt) rC) (B : BestOf X.K sp rC a xs J)
    (yI : Young X pins It) (yS : Young X pins S) (ne : S ≠ It)
    (hR : ∀ b kb ub H s, J xs.length b kb H → Inv X pins σ H s → RelV b ub → R (.ok (.ret ub)) s) :
    ∀ (r i : Nat) (s : Shared) (H : Hp) (vb kb : V) (ub uk : Value) (c : Nat) (oI : Obj), xs.length - i = r → i ≤ xs.length →
      Inv (nest X) ((S, seqObj "list" #[ub, uk] c) :: (It, oI) :: pins) σ H s → oI.cls = .type "list_iterator" → oI.data = .fields #[.ref a, .int i 0] →
      RelV vb ub → RelV kb uk → J i vb kb H → codeAny (model X.prog X.w) X.A (.builtin "max.loop" ⟨[.ref It, .ref f, .ref S], []⟩) R s := by
  have nm : (toString "max" ++ toString ".loop" : String) = "max.loop" := by decide
  have hh : X.A.in1.handled = none := hr.hd
  have yS' : Young (nest X) pins S := ⟨yS.yg, yS.cl, yS.pn⟩
  have yI' : Young (nest X) pins It := ⟨yI.yg, yI.cl, yI.pn⟩
  have addPin : ∀ {b : Addr} {p : Addr × Obj}, Young (nest X) pins b → p.1 ≠ b → Young (nest X) (p :: pins) b := fun {b p} y n => ⟨y.yg, y.cl, fun q hq => by
    rcases List.mem_append.mp hq with hq | hq
    · exact y.pn q (List.mem_append_left _ hq)
    · rcases List.mem_cons.mp hq with rfl | hq
      · exact n
      · exact y.pn q (List.mem_append_right _ hq)⟩
  intro r
  induction r with
  | zero =>
    intro i s H vb kb ub uk c oI hr0 hi I hc hd rb rk j
    have hin : i = xs.length := by omega
    subst hin
    obtain ⟨gS, nS, lS, fS, _⟩ := I.pin (S, seqObj "list" #[ub, uk] c) (List.mem_append_right _ List.mem_cons_self)
    obtain ⟨gI, nI, lI, fI, _⟩ := I.pin (It, oI) (List.mem_append_right _ (List.mem_cons_of_mem _ List.mem_cons_self))
    have hl := B.stays _ _ _ _ j
    have na := it_ne I hl gI hc
    obtain ⟨its, rv, pl, _⟩ := I.list hl
    have hsz : its.toArray.size = xs.length := by rw [List.size_toArray]; exact rv.length.symm
    have W := Walks.list (prog := X.prog) (w := X.w) (A := X.A.in1) hh It a na its.toArray
    refine codeAny_builtin PySem.F.entry_max_loop (by
      rw [Around.under_plainId PySem.F.plain_max_loop _]
      show wpAny _ X.A.in1 (seqItems? (.ref S) >>= _) _ _ s
      refine wpAny_bind (wpAny_seqItems gS rfl ?_)
      show wpAny _ X.A.in1 (tryCatch (pyNext (.ref It)) _ >>= _) _ _ s
      refine wpAny_bind (wpAny_tryCatch (W.done s _ _ ⟨⟨oI, gI, hc, by rw [hsz]; exact hd⟩, pl.isList⟩ fun h1 t1 keep1 => ?_))
      have gS1 := keep1 S _ (by simpa using ne) gS
      show wpAny _ X.A.in1 (updateSeq S (fun _ => #[]) >>= _) _ _ _
      refine wpAny_bind (wpAny_updateSeq gS1 rfl (wpAny_bind (wpAny_letGo (wpAny_pure ?_))))
      refine hR vb kb ub H _ j ?_ rb
      have I1 : Inv (nest X) pins σ H s := drop_pin (drop_pin I)
      have I2 := I1.turned (t' := t1) (it := It) (h' := h1) (fun b o hb e => keep1 b o (by simpa using hb) e) nI lI (.inr yI'.yg) yI'.cl yI'.pn
      have sb := Heap.SameBut.update h1 S (Obj.mapSeq fun _ => (#[] : Array Value))
      exact nest_out ok (I2.turned (it := S) (t' := t1) (fun b o hb e => (sb.2 b hb).trans e) nS lS (.inr yS'.yg) yS'.cl yS'.pn))
  | succ r ih =>
    intro i s H vb kb ub uk c oI hr0 hi I hc hd rb rk j
    have hlt : i < xs.length := by omega
    obtain ⟨gS, nS, lS, fS, _⟩ := I.pin (S, seqObj "list" #[ub, uk] c) (List.mem_append_right _ List.mem_cons_self)
    obtain ⟨gI, nI, lI, fI, _⟩ := I.pin (It, oI) (List.mem_append_right _ (List.mem_cons_of_mem _ List.mem_cons_self))
    have hl := B.stays _ _ _ _ j
    have na := it_ne I hl gI hc
    obtain ⟨its, rv, pl, _⟩ := I.list hl
    have hsz : its.toArray.size = xs.length := by rw [List.size_toArray]; exact rv.length.symm
    have W := Walks.list (prog := X.prog) (w := X.w) (A := X.A.in1) hh It a na its.toArray
    refine codeAny_builtin PySem.F.entry_max_loop (by
      rw [Around.under_plainId PySem.F.plain_max_loop _]
      show wpAny _ X.A.in1 (seqItems? (.ref S) >>= _) _ _ s
      refine wpAny_bind (wpAny_seqItems gS rfl ?_)
      show wpAny _ X.A.in1 (tryCatch (pyNext (.ref It)) _ >>= _) _ _ s
      refine wpAny_bind (wpAny_tryCatch (W.item i s _ _ (by rw [hsz]; exact hlt) ⟨⟨oI, gI, hc, hd⟩, pl.isList⟩ fun v h1 t1 hv st1 keep1 => ?_))
      have hv' : its[i]? = some v := by simpa using hv
      obtain ⟨u1, hu1, rx⟩ := rv.get (i := i) (x := xs[i]'hlt) (List.getElem?_eq_getElem hlt)
      obtain rfl : u1 = v := Option.some.inj (hu1.symm.trans hv')
      obtain ⟨oI1, gI1, hc1, hd1⟩ := st1.1
      have I1 : Inv (nest X) ((It, oI1) :: (S, seqObj "list" #[ub, uk] c) :: pins) σ H { s with heap := h1, toks := t1 } :=
        repin (swap_pins I) (addPin yI' ne) (fun b o hb e => keep1 b o (by simpa using hb) e) gI1 (by rw [hd1]; intro v z; cases z)
      show wpAny _ X.A.in1 (tryCatch (holding [u1] (call (.ref f) [u1])) _ >>= _) _ _ _
      have step := B.turn i (xs[i]'hlt) vb kb H (List.getElem?_eq_getElem hlt) j
      refine wpAny_bind (wpAny_tryCatch (wpAny_holding (wpAny_mono (run_fn (X := nest X) (ds := []) (dvs := []) F hr hb .nil pass0 I1 (vs := [xs[i]'hlt]) (us := [u1]) (.cons rx .nil) step) (fun uk2 s2 he => ?_) fun _ _ z => z.elim)))
      obtain ⟨k2, H2, I2, rk2, hcmp⟩ := he
      show wpAny _ X.A.in1 (tryCatch (holding [u1, uk2] (richCompare .Gt uk2 uk >>= _)) _ >>= _) _ _ _
      refine wpAny_bind (wpAny_tryCatch (wpAny_holding (wpAny_bind (wpAny_mono (hC _ s2 σ H2 k2 kb uk2 uk _ I2 rk2 rk hcmp) (fun uc s3 he => ?_) fun _ _ z => z.elim))))
      obtain ⟨y, H3, I3, ry, cc, rfl, j3⟩ := he
      obtain rfl : uc = Value.bool cc := ry
      refine wpAny_bind (wpAny_holding (wpAny_truthy_bool (wpAny_bind (wpAny_letGo (wpAny_pure ?_)))))
      have I3' := swap_pins I3
      obtain ⟨gS3, _, _, _, _⟩ := I3.pin (S, seqObj "list" #[ub, uk] c) (List.mem_append_right _ (List.mem_cons_of_mem _ List.mem_cons_self))
      cases cc with
      | true =>
        simp only [if_true] at j3 ⊢
        have sb := Heap.SameBut.update s3.heap S (Obj.mapSeq fun _ => #[u1, uk2])
        have gS4 := get?_update_seq gS3 fun _ => #[u1, uk2]
        refine wpAny_bind (wpAny_updateSeq gS3 rfl (wpAny_bind (wpAny_letGo ?_)))
        rw [nm]
        refine wpAny_pure ⟨plainId_quiet PySem.F.plain_max_loop _, ih (i + 1) _ H3 (xs[i]'hlt) k2 u1 uk2 _ oI1 (by omega) hlt (repin (t' := s3.toks) I3' (addPin yS' (Ne.symm ne)) (fun b o hb e => (sb.2 b hb).trans e) gS4 (fun v z => by cases z)) hc1 hd1 rx rk2 j3⟩
      | false =>
        simp only [Bool.false_eq_true, if_false] at j3 ⊢
        refine wpAny_bind (wpAny_letGo ?_)
        rw [nm]
        exact wpAny_pure ⟨plainId_quiet PySem.F.plain_max_loop _, ih (i + 1) s3 H3 vb kb ub uk c oI1 (by omega) hlt I3' hc1 hd1 rb rk j3⟩)

theorem cr_maxKey (F : FnOk X.prog X.w X.K X.mg X.base CX0 k f fd ps sp) (hr : Room (k + 1) X.A) (hb : Binds X.K fd ps []) (hC : OpR (nest X) (compareOp .Gt) rC) :
    CallRK X (.builtin "max") [Str.ofString "key"] (rMinKey X.K f sp rC) := by
  intro pins s σ H vs zs us ws Q I r rz h
  obtain ⟨a, xs, x0, J, rfl, rfl, hs, h0, st, B, q⟩ := h
  obtain rfl := Vals.ref1 r
  obtain rfl := Vals.ref1 rz
  have nm : (toString "max" ++ toString ".loop" : String) = "max.loop" := by decide
  have hh : X.A.in1.handled = none := hr.hd
  obtain ⟨its, rv, pl, _⟩ := I.list hs
  have hlt : 0 < xs.length := (List.getElem?_eq_some_iff.mp h0).1
  have hsz : its.toArray.size = xs.length := by rw [List.size_toArray]; exact rv.length.symm
  have y1 := young_of I (b := s.heap.objs.size) (Nat.le_refl _)
  have y2 := young_of I (b := s.heap.objs.size + 1) (Nat.le_succ _)
  have ne21 : s.heap.objs.size + 1 ≠ s.heap.objs.size := Nat.succ_ne_self _
  have sz : (s.heap.push { cls := .type "list_iterator", data := .fields #[.ref a, .int 0 0] }).objs.size = s.heap.objs.size + 1 := size_push' ..
  have keep : ∀ b o, s.heap.get? b = some o → ((s.heap.push { cls := .type "list_iterator", data := .fields #[.ref a, .int 0 0] }).push { cls := .type "list", data := .seq (List.toArray []) }).get? b = some o := fun b o e => Heap.get?_push_of_some _ (Heap.get?_push_of_some _ e)
  have gI : ((s.heap.push { cls := .type "list_iterator", data := .fields #[.ref a, .int 0 0] }).push { cls := .type "list", data := .seq (List.toArray []) }).get? s.heap.objs.size = some { cls := .type "list_iterator", data := .fields #[.ref a, .int 0 0] } :=
    Heap.get?_push_of_some _ (Heap.get?_push_size _ rfl)
  have gS : ((s.heap.push { cls := .type "list_iterator", data := .fields #[.ref a, .int 0 0] }).push { cls := .type "list", data := .seq (List.toArray []) }).get? (s.heap.objs.size + 1) = some (seqObj "list" #[] 0) := by
    have e := Heap.get?_push_size (s.heap.push { cls := .type "list_iterator", data := .fields #[.ref a, .int 0 0] }) (o := seqObj "list" #[] 0) rfl
    rw [sz] at e
    exact e
  have I0 := I.kept (t' := s.toks) keep
  have fr0 : H s.heap.objs.size = none := I.hok.fresh (Nat.le_refl _)
  have fr1 : H (s.heap.objs.size + 1) = none := I.hok.fresh (Nat.le_succ _)
  have lt0 := I.lt
  have I1 : Inv (nest X) ((s.heap.objs.size, ({ cls := .type "list_iterator", data := .fields #[.ref a, .int 0 0] } : Obj)) :: (s.heap.objs.size + 1, seqObj "list" #[] 0) :: pins) σ H { s with heap := (s.heap.push { cls := .type "list_iterator", data := .fields #[.ref a, .int 0 0] }).push { cls := .type "list", data := .seq (List.toArray []) } } := by
    refine (nest_in I0).pins_of fun p hp => ?_
    rcases List.mem_cons.mp hp with rfl | hp
    · exact ⟨gI, fr0, Nat.ne_of_gt lt0, I.nofs (Nat.le_refl _), fun v z => by cases z⟩
    · rcases List.mem_cons.mp hp with rfl | hp
      · exact ⟨gS, fr1, Nat.ne_of_gt (Nat.lt_succ_of_lt lt0), I.nofs (Nat.le_succ _), fun v z => by cases z⟩
      · exact (nest_in I0).pin p (List.mem_append_right _ hp)
  have na := it_ne I1 hs gI rfl
  have W := Walks.list (prog := X.prog) (w := X.w) (A := X.A.in1) hh s.heap.objs.size a na its.toArray
  have pin1 : ∀ (b : Addr) (p : Addr × Obj), Young X pins b → p.1 ≠ b → Young (nest X) (p :: pins) b := fun b p y n => ⟨y.yg, y.cl, fun q hq => by
    rcases List.mem_append.mp hq with hq | hq
    · exact y.pn q (List.mem_append_left _ hq)
    · rcases List.mem_cons.mp hq with rfl | hq
      · exact n
      · exact y.pn q (List.mem_append_right _ hq)⟩
  refine kmk_tree PySem.F.kind_max PySem.F.plain_max PySem.F.entry_max (max_key_ok _ _) ?_
  show wpAny _ X.A.in1 (Builtin.Builtins.bindParams "max" ["key", "default"] 0 ⟨[], [(Str.ofString "key", .ref f)]⟩ >>= _) _ _ s
  refine wpAny_bind (wpAny_of_eq (show Builtin.Builtins.bindParams "max" ["key", "default"] 0 ⟨[], [(Str.ofString "key", .ref f)]⟩ = pure [some (.ref f), none] from rfl) (wpAny_bind (wpAny_pure ?_)))
  refine wpAny_bind (wpAny_pyIter_list pl.isList (wpAny_bind (wpAny_newList ?_ (Nat.zero_le _))))
  rw [nm]
  rw [sz]
  refine wpAny_pure ⟨plainId_quiet PySem.F.plain_max_loop _, codeAny_builtin PySem.F.entry_max_loop ?_⟩
  rw [Around.under_plainId PySem.F.plain_max_loop _]
  show wpAny _ X.A.in1 (seqItems? (.ref (s.heap.objs.size + 1)) >>= _) _ _ _
  refine wpAny_bind (wpAny_seqItems gS rfl ?_)
  show wpAny _ X.A.in1 (tryCatch (pyNext (.ref s.heap.objs.size)) _ >>= _) _ _ _
  refine wpAny_bind (wpAny_tryCatch (W.item 0 _ _ _ (by rw [hsz]; exact hlt) ⟨⟨_, gI, rfl, rfl⟩, pl.isList.at (keep a)⟩ fun v h1 t1 hv st1 keep1 => ?_))
  have hv' : its[0]? = some v := by simpa using hv
  obtain ⟨u1, hu1, rx⟩ := rv.get (i := 0) (x := x0) h0
  obtain rfl : u1 = v := Option.some.inj (hu1.symm.trans hv')
  obtain ⟨oI1, gI1, hc1, hd1⟩ := st1.1
  have I2 := repin (t' := t1) I1 (pin1 _ (s.heap.objs.size + 1, seqObj "list" #[] 0) y1 ne21) (fun b o hb e => keep1 b o (by simpa using hb) e) gI1 (by rw [hd1]; intro v z; cases z)
  show wpAny _ X.A.in1 (tryCatch (holding [u1] (call (.ref f) [u1])) _ >>= _) _ _ _
  refine wpAny_bind (wpAny_tryCatch (wpAny_holding (wpAny_mono (run_fn (X := nest X) (ds := []) (dvs := []) F hr.in1 hb .nil pass0 I2 (vs := [x0]) (us := [u1]) (.cons rx .nil) st) (fun uk2 s2 he => ?_) fun _ _ z => z.elim)))
  obtain ⟨k2, H2, I3, rk2, j3⟩ := he
  obtain ⟨gS3, _, _, _, _⟩ := I3.pin (s.heap.objs.size + 1, seqObj "list" #[] 0) (List.mem_append_right _ (List.mem_cons_of_mem _ List.mem_cons_self))
  have sb := Heap.SameBut.update s2.heap (s.heap.objs.size + 1) (Obj.mapSeq fun _ => #[u1, uk2])
  have gS4 := get?_update_seq gS3 fun _ => #[u1, uk2]
  refine wpAny_bind (wpAny_updateSeq gS3 rfl ?_)
  rw [nm]
  refine wpAny_pure ⟨plainId_quiet PySem.F.plain_max_loop _, max_turns I.ok F hr.in1 hb hC B y1 y2 ne21 (fun b kb ub H' s' j' I' rb => ⟨b, H', I', rb, q b kb H' j'⟩) _ 1 _ H2 x0 k2 u1 uk2 _ oI1 rfl hlt
    (repin (t' := s2.toks) (swap_pins I3) (pin1 _ _ y2 (Ne.symm ne21)) (fun b o hb e => (sb.2 b hb).trans e) gS4 (fun v z => by cases z)) hc1 hd1 rx rk2 j3⟩
end
end Lab

/-! A dict of the module's top whose keys are whole numbers and whose values are defs. -/
namespace Lab
open PySem PySem.Spec PyProof.Rows L2

/-- the dict at d is written out as l: number, the def's address -/
def IDict (K : PySem.W.Frag) (d : Addr) (l : List (Int × Addr)) : Prop :=
  ∃ (es : Array DictEntry) (n : Nat), K.lookup d = some ⟨.type "dict", none, .dict es n, #[]⟩ ∧
    Paired (fun (e : DictEntry) (p : Int × Addr) => e.hash = hashInt p.1 ∧ (∃ t, e.key = .int p.1 t) ∧ e.val = .ref p.2) es.toList l
theorem idict_find : ∀ {es : List DictEntry} {l : List (Int × Addr)} {k : Int} {f : Addr},
    Paired (fun (e : DictEntry) (p : Int × Addr) => e.hash = hashInt p.1 ∧ (∃ t, e.key = .int p.1 t) ∧ e.val = .ref p.2) es l → l.lookup k = some f →
    (es.find? fun e => Value.isInt k e.key).map (·.val) = some (.ref f)
  | _, _, k, f, .nil, h => by cases h
  | e :: es, p :: l, k, f, .cons ⟨_, ⟨t, ek⟩, ev⟩ r, h => by
    obtain ⟨i, a⟩ := p
    have c : Value.isInt k e.key = (i == k) := by rw [ek]; rfl
    by_cases q : i = k
    · subst q
      have h' : (List.lookup i ((i, a) :: l)) = some a := by simp [List.lookup]
      rw [h'] at h
      cases h
      rw [List.find?_cons, c]
      simp [ev]
    · have n1 : (k == i) = false := by simpa using fun z => q z.symm
      have n2 : (i == k) = false := by simpa using q
      have h' : (List.lookup k ((i, a) :: l)) = List.lookup k l := by simp [List.lookup, n1]
      rw [h'] at h
      rw [List.find?_cons, c, n2]
      exact idict_find r h
theorem IDict.map {prog : Program} {w : World} {K : PySem.W.Frag} {h : Heap} {d : Addr} {l : List (Int × Addr)} (D : IDict K d l) (X : K.In h) :
    ∃ g : Int → Option Value, h.MapOf (PySem.intKind prog w) d g ∧ ∀ k f, l.lookup k = some f → g k = some (.ref f) := by
  obtain ⟨es, n, hl, r⟩ := D
  refine ⟨fun k => findBy Value.isInt es k, ⟨_, es, n, X _ _ hl, ⟨rfl, rfl, rfl⟩, rfl, fun e he => ?_, fun _ => rfl⟩, fun k f e => ?_⟩
  · have he' : e ∈ es.toList := Array.mem_toList_iff.mpr he
    have all : ∀ {es : List DictEntry} {l : List (Int × Addr)}, Paired (fun (e : DictEntry) (p : Int × Addr) => e.hash = hashInt p.1 ∧ (∃ t, e.key = .int p.1 t) ∧ e.val = .ref p.2) es l → ∀ e ∈ es, ∃ p : Int × Addr, e.hash = hashInt p.1 ∧ ∃ t, e.key = .int p.1 t := by
      intro es l r
      induction r with
      | nil => intro e he; cases he
      | cons x t ih =>
        intro e he
        rcases List.mem_cons.mp he with rfl | he
        · exact ⟨_, x.1, x.2.1⟩
        · exact ih e he
    obtain ⟨p, e1, t, e2⟩ := all r e he'
    refine ⟨p.1, ?_, e1⟩
    show Value.isInt p.1 e.key = true
    rw [e2]
    exact beq_self_eq_true _
  · show (es.find? fun e => Value.isInt k e.key).map (·.val) = some (.ref f)
    rw [← Array.find?_toList]
    exact idict_find r e
def rIxI (K : PySem.W.Frag) : R2 := fun x y H Q => ∃ p k l f, x = .ref p ∧ y = .int k ∧ IDict K p l ∧ l.lookup k = some f ∧ Q (.ref f) H
theorem ix_idict {X : Cx} : IxR X (rIxI X.K) := by
  intro value slice pins s σ H x y v u Q I rx ry h hs
  obtain ⟨p, k, l, f, rfl, rfl, D, e, q⟩ := h
  obtain rfl : v = Value.ref p := rx
  obtain ⟨t, rfl⟩ := ry
  obtain ⟨g, hm, hg⟩ := D.map (prog := X.prog) (w := X.w) I.kIn
  exact tail_any hm.typeIs PySem.F.slot_dict_getitem.lookup (wpAny_getItem_of (by show Value.isInt k (.int k t) = true; exact beq_self_eq_true _) hm (hg k f e) ⟨.ref f, H, I.tok _, rfl, q⟩) hs
end Lab

/-! Rules of my own: an error without arguments, a def of a table called where it may raise, calls without arguments. -/
namespace Lab
open PySem PySem.Spec PyProof.Rows L2
section
variable {X : Cx} {C : Addr} {bmB : List Value} {B newId initId : String}
/-- X(), X an own exception class without own __init__ -/
theorem pmk_own0 {x : Str} {p pos : Pos} (F : ExcBaseFacts B newId initId bmB) (q : PySem.W.excIn X.K C bmB newId = true) (gC : X.mg x = some (.ref C)) (kC : PySem.W.keepIn X.K (.ref C) = true) (r : Raises X (.ref C)) (hg : Gl X x)
    (hdb : (x == ("__debug__" : Str)) = false := by decide) : PMk X (.Call (.Name x p) [] [] pos) (fun _ H Q => Q (.ref C) none H) := by
  intro pins s σ H Q I h
  refine wpAny_Call_Name_kw (ld_glob I hg gC ?_ hdb)
  refine PySem.W.callWith_K0 I.kIn kC ?_
  show wpAny _ _ (call (.ref C) []) _ _ _
  obtain ⟨bm, N, nm, qn, bs, hdct, sn, sub, ab, col, dd, k0, k1, k2, k3, k5, mN, hC, hN, hni, T⟩ := exc_obj I.kIn q
  refine wpAny_call_exc_subT F T hC hN hni (fun h' e hm => ?_) (Nat.zero_le _)
  exact mk_of I hm r h (I.hok.gone hm.new)
end

section
variable {X : Cx} {CX : CXT} {k j i : Nat} {C : Addr} {x m : Str} {sp : Sp} {dvs : List V} {p pos apos : Pos} {e o : Expr} {es : List Expr} {ta : TE} {t : TA}
theorem pe_c0 (c : C8.Cal X.prog X.w X.K X.mg X.base k x sp dvs) (hr : Room j X.A) (hk : k ≤ j) (hg : Gl X x) (hdb : (x == ("__debug__" : Str)) = false := by decide) :
    PE X (.Call (.Name x p) [] [] pos) (tCall sp dvs E0 tNil) := by
  obtain ⟨f, fd, ps, ds, F, hm, kp, b, d⟩ := c.ex
  exact pe_call0 F (hr.mono hk) hg hm kp b d pass0 hdb
theorem pe_mk0 (c : C8.Mak X.prog X.w X.K X.mg X.base k x C sp dvs) (hr : Room j X.A) (hk : k + 1 ≤ j) (hg : Gl X x) (hdb : (x == ("__debug__" : Str)) = false := by decide) :
    PE X (.Call (.Name x p) [] [] pos) (tMake C sp dvs E0 tNil) := by
  obtain ⟨f, fd, ps, ds, M, F, hm, b, d⟩ := c.ex
  exact pe_make0 M F (hr.mono hk) hg hm b d pass0 hdb
/-- a def that may raise, under its name -/
structure CalX (P : Program) (w : World) (K : PySem.W.Frag) (mg : Str → Option Value) (base : Heap) (k : Nat) (x : Str) (sp : Sp) : Prop where
  ex : ∃ (f : Addr) (fd : FuncData) (ps : List Str), FnOk P w K mg base (L2.CX P w) k f fd ps sp ∧ mg x = some (.ref f) ∧ PySem.W.keepIn K (.ref f) = true ∧ Binds K fd ps []
theorem pe_cX {W : WX} (c : CalX X.prog X.w X.K X.mg X.base k x sp) (hr : Room j X.A) (hk : k ≤ j) (hg : Gl X x) (tk : Takes X W) (ha : PA X (e :: es) t)
    (nodbg : (x == ("__debug__" : Str)) = false := by decide) (he : starEach (e :: es) X.env = (false, eval e X.env) :: starEach es X.env := by rfl) (hpl : (backTo pos (starEach es X.env)).any (·.1) = false := by rfl) :
    PE X (.Call (.Name x p) (e :: es) [] pos) (tCallS sp (WE W) t) := by
  obtain ⟨f, fd, ps, F, hm, kp, b⟩ := c.ex
  exact pe_callS F (hr.mono hk) hg hm kp b (fun σ => passAt tk σ) ha nodbg he hpl
/-- a def that may raise, by its address -/
structure HeldX (P : Program) (w : World) (K : PySem.W.Frag) (mg : Str → Option Value) (base : Heap) (k : Nat) (f : Addr) (sp : Sp) : Prop where
  ex : ∃ (fd : FuncData) (ps : List Str), FnOk P w K mg base (L2.CX P w) k f fd ps sp ∧ PySem.W.keepIn K (.ref f) = true ∧ Binds K fd ps []
/-- a local name that holds a def of a table, called; it may raise -/
def tCallT (i : Nat) (S : Addr → Sp → Prop) (E : L2.St → XK) (t : TA) : TE := fun σ H Q => ∃ f sp, σ[i]? = some (some (.ref f)) ∧ S f sp ∧ t σ H fun vs H1 => sp vs H1 Q (E σ)
theorem pe_callT {W : WX} {S : Addr → Sp → Prop} (A : ∀ f sp, S f sp → HeldX X.prog X.w X.K X.mg X.base k f sp) (hr : Room k X.A) (tk : Takes X W) (hN : X.N[i]? = some x) (hv : Vis X.env.scope x) (ha : PA X (e :: es) t)
    (nodbg : (x == ("__debug__" : Str)) = false := by decide) (hcd : (x == ("__classdict__" : Str)) = false := by decide)
    (he : starEach (e :: es) X.env = (false, eval e X.env) :: starEach es X.env := by rfl) (hpl : (backTo pos (starEach es X.env)).any (·.1) = false := by rfl) : PE X (.Call (.Name x p) (e :: es) [] pos) (tCallT i S (WE W) t) := by
  constructor
  intro pins s σ H Q I x
  rcases x with ⟨f, sp, here, inS, rest⟩
  rcases (A f sp inS).ex with ⟨fd, ps, F, keeps, bi⟩
  have name := (pe_var (pos := p) hN hv nodbg hcd).run pins s σ H (fun v H1 => H1 = H ∧ v = .ref f) I ⟨_, here, rfl, rfl⟩
  refine wpAny_Call_Name_kw (thn name fun u s1 ⟨v, H1, I1, rel, eh, ev⟩ => ?_)
  subst eh ev
  cases rel
  have args := ha.run pos pins s1 σ _ _ I1 rest
  refine PySem.W.callWith_K (h₀ := X.base) I.ok.mod.kin keeps (thn args ?_) he hpl
  exact fun us s2 ⟨vs, H2, I2, r, q⟩ => ⟨I2.kIn, run_fnS F hr bi (passAt tk σ) I2 r q⟩
end
end Lab

/-! The mathematics of the simulated cache: which entry goes, what is left; plain lists. -/
namespace Lab
open Vakptc (Entry Cache firstIndexBy rotateReferenced selectVictim insertKey recordUse access contains cachedKeys accessAll emptyCache missCount)

theorem firstIx_of {prec : Entry → Entry → Bool} {es : List Entry} {j : Nat} {e : Entry} (h : es[j]? = some e) (h1 : ∀ (m : Nat) (b : Entry), es[m]? = some b → prec b e = false) (h2 : ∀ (m : Nat) (b : Entry), m < j → es[m]? = some b → prec e b = true) :
    firstIndexBy prec es = j := by
  unfold firstIndexBy
  have hj : j < es.length := (List.getElem?_eq_some_iff.mp h).1
  have he : es[j] = e := (List.getElem?_eq_some_iff.mp h).2
  have q : (es.findIdx? fun a => es.all fun b => !prec b a) = some j := by
    rw [List.findIdx?_eq_some_iff_getElem]
    refine ⟨hj, ?_, fun m hm => ?_⟩
    · rw [he, List.all_eq_true]
      intro b hb
      obtain ⟨m, hm⟩ := List.getElem?_of_mem hb
      rw [h1 m b hm]
      rfl
    · have hm' : m < es.length := by omega
      have z := h2 m es[m] hm (List.getElem?_eq_getElem hm')
      intro hall
      rw [List.all_eq_true] at hall
      have := hall e (he ▸ List.getElem_mem hj)
      rw [z] at this
      cases this
  rw [q]
  rfl

/-- the bit cleared -/
def clr (e : Entry) : Entry := { e with referenced := false }
theorem clr_key (e : Entry) : (clr e).key = e.key := rfl
theorem rot_pre : ∀ (pre : List Entry), (∀ e ∈ pre, e.referenced = true) → ∀ (m : Nat) (post : List Entry), rotateReferenced (pre.length + m) (pre ++ post) = rotateReferenced m (post ++ pre.map clr)
  | [], _, m, post => by simp
  | p :: pre, h, m, post => by
    have hp : p.referenced = true := h p List.mem_cons_self
    have e1 : (p :: pre).length + m = (pre.length + m) + 1 := by simp only [List.length_cons]; omega
    rw [e1]
    show (if p.referenced = true then rotateReferenced (pre.length + m) ((pre ++ post) ++ [clr p]) else p :: (pre ++ post)) = _
    rw [if_pos hp, List.append_assoc, rot_pre pre (fun e he => h e (List.mem_cons_of_mem _ he)) m (post ++ [clr p])]
    simp
theorem rot_stop {m : Nat} {e : Entry} {r : List Entry} (h : e.referenced = false) : rotateReferenced m (e :: r) = e :: r := by
  cases m with
  | zero => rfl
  | succ m =>
    show (if e.referenced = true then _ else e :: r) = _
    rw [h]
    rfl
theorem rot_go {m : Nat} {e : Entry} {r : List Entry} (h : e.referenced = true) : rotateReferenced (m + 1) (e :: r) = rotateReferenced m (r ++ [clr e]) := by
  show (if e.referenced = true then rotateReferenced m (r ++ [clr e]) else e :: r) = _
  rw [h]
  rfl
def refs (es : List Entry) : Nat := (es.filter fun e => e.referenced).length
theorem refs_le (es : List Entry) : refs es ≤ es.length := List.length_filter_le _ _
theorem refs_go {e : Entry} {r : List Entry} (h : e.referenced = true) : refs (r ++ [clr e]) + 1 = refs (e :: r) := by
  unfold refs
  simp [clr, h]
/-- the place of the entry that goes -/
def victimIx (p : Nat) (es : List Entry) : Nat :=
  if p = 1 then firstIndexBy (fun a b => decide (a.lastUse < b.lastUse)) es
  else if p = 2 then firstIndexBy (fun a b => decide (b.lastUse < a.lastUse)) es
  else if p = 3 then firstIndexBy (fun a b => decide (a.useCount < b.useCount ∨ (a.useCount = b.useCount ∧ a.lastUse < b.lastUse))) es
  else if p = 4 then (es.findIdx? fun e => !e.referenced).getD 0
  else 0
/-- the order in which they stand when one goes -/
def ordered (p : Nat) (es : List Entry) : List Entry := if p = 4 then rotateReferenced es.length es else es
theorem split_at : ∀ (es : List Entry) (i : Nat), (es.findIdx? fun e => !e.referenced) = some i → ∃ pre e post, es = pre ++ e :: post ∧ pre.length = i ∧ (∀ x ∈ pre, x.referenced = true) ∧ e.referenced = false := by
  intro es i h
  rw [List.findIdx?_eq_some_iff_getElem] at h
  obtain ⟨hi, h1, h2⟩ := h
  refine ⟨es.take i, es[i], es.drop (i + 1), ?_, by simp; omega, fun x hx => ?_, by simpa using h1⟩
  · rw [List.getElem_cons_drop, List.take_append_drop]
  · obtain ⟨m, hm⟩ := List.getElem?_of_mem hx
    have hm2 := (List.getElem?_eq_some_iff.mp hm).1
    rw [List.length_take] at hm2
    have := h2 m (by omega)
    rw [List.getElem?_take_of_lt (by omega), List.getElem?_eq_getElem (by omega)] at hm
    cases hm
    simpa using this
theorem rotated (es : List Entry) (hne : es ≠ []) : ∃ (f : Entry) (r : List Entry) (g : Entry), rotateReferenced es.length es = f :: r ∧ es[victimIx 4 es]? = some g ∧ g.key = f.key ∧ ((rotateReferenced es.length es).map (·.key)).Perm (es.map (·.key)) := by
  have vx : victimIx 4 es = (es.findIdx? fun e => !e.referenced).getD 0 := rfl
  cases q : es.findIdx? fun e => !e.referenced with
  | some i =>
    obtain ⟨pre, e, post, rfl, hl, hp, he⟩ := split_at es i q
    have e1 : (pre ++ e :: post).length = pre.length + (post.length + 1) := by simp
    have e2 : rotateReferenced (pre ++ e :: post).length (pre ++ e :: post) = e :: (post ++ pre.map clr) := by
      rw [e1, rot_pre pre hp]
      exact rot_stop he
    refine ⟨e, _, e, e2, ?_, rfl, ?_⟩
    · rw [vx, q]
      show (pre ++ e :: post)[i]? = some e
      rw [← hl, List.getElem?_append_right (Nat.le_refl _)]
      simp
    · rw [e2]
      have : (pre.map clr).map (·.key) = pre.map (·.key) := by rw [List.map_map]; rfl
      rw [List.map_cons, List.map_append, this, List.map_append, List.map_cons]
      refine List.Perm.trans ?_ List.perm_middle.symm
      exact List.Perm.cons _ List.perm_append_comm
  | none =>
    have hall : ∀ x ∈ es, x.referenced = true := fun x hx => by
      have := (List.findIdx?_eq_none_iff.mp q) x hx
      simpa using this
    have e2 : rotateReferenced es.length es = es.map clr := by
      have := rot_pre es hall 0 []
      rw [Nat.add_zero, List.append_nil] at this
      rw [this]
      rfl
    cases es with
    | nil => exact absurd rfl hne
    | cons a r =>
      refine ⟨clr a, r.map clr, a, e2, ?_, rfl, ?_⟩
      · rw [vx, q]
        rfl
      · rw [e2, List.map_map]
        exact List.Perm.refl _

/-- what is asked of a cache -/
structure WF (c : Cache) : Prop where
  nd : (c.entries.map (·.key)).Nodup
  le : c.entries.length ≤ c.capacity
  po : c.policy ≤ 4
theorem wf_new {a p : Nat} (h : p ≤ 4) : WF (emptyCache a p) := ⟨List.nodup_nil, Nat.zero_le _, h⟩
theorem contains_iff {c : Cache} {k : Nat} : contains c k = true ↔ ∃ e ∈ c.entries, e.key = k := by
  unfold contains cachedKeys
  rw [List.contains_iff_mem, List.mem_map]
theorem key_uniq {es : List Entry} (nd : (es.map (·.key)).Nodup) {i j : Nat} {a b : Entry} (ha : es[i]? = some a) (hb : es[j]? = some b) (e : a.key = b.key) : i = j := by
  obtain ⟨h1, e1⟩ := List.getElem?_eq_some_iff.mp ha
  obtain ⟨h2, e2⟩ := List.getElem?_eq_some_iff.mp hb
  have q : (es.map (·.key))[i]'(by simpa using h1) = (es.map (·.key))[j]'(by simpa using h2) := by
    rw [List.getElem_map, List.getElem_map, e1, e2, e]
  exact (List.getElem_inj nd).mp q
/-- an entry used again -/
def used (now : Nat) (e : Entry) : Entry := { e with lastUse := now, useCount := e.useCount + 1, referenced := true }
theorem recordUse_set {es : List Entry} (nd : (es.map (·.key)).Nodup) {j now k : Nat} {e : Entry} (h : es[j]? = some e) (hk : e.key = k) : recordUse now k es = es.set j (used now e) := by
  unfold recordUse
  apply List.ext_getElem?
  intro i
  rw [List.getElem?_map, List.getElem?_set]
  have hj : j < es.length := (List.getElem?_eq_some_iff.mp h).1
  by_cases hi : j = i
  · subst hi
    rw [if_pos rfl, if_pos hj, h]
    show some (if e.key = k then _ else e) = _
    rw [if_pos hk]
    rfl
  · rw [if_neg hi]
    cases q : es[i]? with
    | none => rfl
    | some b =>
      show some (if b.key = k then _ else b) = _
      rw [if_neg (fun z => hi (key_uniq nd h q (hk.trans z.symm)))]
/-- the first entry taken away by its key -/
theorem filter_ix {es : List Entry} (nd : (es.map (·.key)).Nodup) {j : Nat} {e : Entry} (h : es[j]? = some e) : es.filter (fun x => x.key != e.key) = es.eraseIdx j := by
  induction es generalizing j with
  | nil => simp at h
  | cons a r ih =>
    rw [List.map_cons, List.nodup_cons] at nd
    cases j with
    | zero =>
      have q : a = e := by simpa using h
      subst q
      have z : (a.key != a.key) = false := by simp
      rw [List.filter_cons, if_neg (by rw [z]; decide)]
      show _ = r
      rw [List.filter_eq_self]
      intro x hx
      have : x.key ≠ a.key := fun y => nd.1 (by rw [← y]; exact List.mem_map_of_mem hx)
      simpa using this
    | succ j =>
      have h' : r[j]? = some e := by simpa using h
      have hm : e ∈ r := List.mem_of_getElem? h'
      have : a.key ≠ e.key := fun y => nd.1 (by rw [y]; exact List.mem_map_of_mem hm)
      rw [List.filter_cons, if_pos (by simpa using this), ih nd.2 h']
      rfl
/-- what selectVictim says, by place and order -/
theorem select_eq {p : Nat} (hp : p ≤ 4) (es : List Entry) : selectVictim p es = (ordered p es, if p = 4 then 0 else victimIx p es) := by
  have cases5 : p = 0 ∨ p = 1 ∨ p = 2 ∨ p = 3 ∨ p = 4 := by omega
  rcases cases5 with rfl | rfl | rfl | rfl | rfl <;> rfl
theorem ix_lt (prec : Entry → Entry → Bool) {es : List Entry} (hne : es ≠ []) : firstIndexBy prec es < es.length := by
  unfold firstIndexBy
  cases q : es.findIdx? fun a => es.all fun b => !prec b a with
  | none =>
    show 0 < es.length
    exact List.length_pos_iff.mpr hne
  | some i =>
    rw [List.findIdx?_eq_some_iff_getElem] at q
    exact q.1
theorem victim_lt {p : Nat} {es : List Entry} (hne : es ≠ []) : victimIx p es < es.length := by
  have h0 : 0 < es.length := List.length_pos_iff.mpr hne
  unfold victimIx
  split
  · exact ix_lt _ hne
  · split
    · exact ix_lt _ hne
    · split
      · exact ix_lt _ hne
      · split
        · cases q : es.findIdx? fun e => !e.referenced with
          | none => exact h0
          | some i =>
            rw [List.findIdx?_eq_some_iff_getElem] at q
            exact q.1
        · exact h0
/-- the one that goes: its key, and what is left -/
theorem evicted {p : Nat} (hp : p ≤ 4) {es : List Entry} (hne : es ≠ []) (nd : (es.map (·.key)).Nodup) {g : Entry} (hg : es[victimIx p es]? = some g) :
    ((selectVictim p es).1[(selectVictim p es).2]?).map (·.key) = some g.key ∧ (selectVictim p es).1.eraseIdx (selectVictim p es).2 = (ordered p es).filter (fun x => x.key != g.key) ∧ ((ordered p es).map (·.key)).Perm (es.map (·.key)) := by
  rw [select_eq hp]
  by_cases h4 : p = 4
  · subst h4
    obtain ⟨f, r, g', e1, e2, e3, e4⟩ := rotated es hne
    rw [hg] at e2
    cases e2
    have o : ordered 4 es = f :: r := e1
    have nd' : ((f :: r).map (·.key)).Nodup := by
      rw [← e1]
      exact (List.Perm.nodup_iff e4).mpr nd
    refine ⟨?_, ?_, ?_⟩
    · show ((ordered 4 es)[0]?).map (·.key) = some g.key
      rw [o, e3]
      rfl
    · show (ordered 4 es).eraseIdx 0 = _
      rw [o, e3]
      exact (filter_ix nd' (j := 0) rfl).symm
    · rw [o, ← e1]
      exact e4
  · have o : ordered p es = es := if_neg h4
    rw [o, if_neg h4]
    refine ⟨?_, (filter_ix nd hg).symm, List.Perm.refl _⟩
    show (es[victimIx p es]?).map (·.key) = some g.key
    rw [hg]
    rfl
theorem ordered_len {p : Nat} {es : List Entry} (hne : es ≠ []) : (ordered p es).length = es.length := by
  unfold ordered
  split
  · obtain ⟨f, r, g', e1, e2, e3, e4⟩ := rotated es hne
    have := e4.length_eq
    simpa using this
  · rfl
/-- a miss in a full cache -/
theorem access_full {c : Cache} (w : WF c) {k : Nat} (hm : contains c k = false) (h0 : c.capacity ≠ 0) (hf : ¬ c.entries.length < c.capacity) {g : Entry} (hg : c.entries[victimIx c.policy c.entries]? = some g) :
    access c k = ({ c with entries := (ordered c.policy c.entries).filter (fun x => x.key != g.key) ++ [{ key := k, lastUse := c.hits + c.misses + 1, useCount := 1, referenced := false }], misses := c.misses + 1 }, some g.key) := by
  have hne : c.entries ≠ [] := fun z => by
    have := w.le
    rw [z] at hf
    simp at hf
    omega
  obtain ⟨e1, e2, _⟩ := evicted w.po hne w.nd hg
  unfold access
  rw [hm, if_neg Bool.false_ne_true]
  unfold insertKey
  rw [if_neg h0, if_neg hf]
  show (({ c with entries := (selectVictim c.policy c.entries).1.eraseIdx (selectVictim c.policy c.entries).2 ++ [_], misses := c.misses + 1 } : Cache), ((selectVictim c.policy c.entries).1[(selectVictim c.policy c.entries).2]?).map (·.key)) = _
  rw [e1, e2]
theorem access_room {c : Cache} {k : Nat} (hm : contains c k = false) (h0 : c.capacity ≠ 0) (hf : c.entries.length < c.capacity) :
    access c k = ({ c with entries := c.entries ++ [{ key := k, lastUse := c.hits + c.misses + 1, useCount := 1, referenced := false }], misses := c.misses + 1 }, none) := by
  unfold access
  rw [hm, if_neg Bool.false_ne_true]
  unfold insertKey
  rw [if_neg h0, if_pos hf]
theorem access_zero {c : Cache} (w : WF c) {k : Nat} (hm : contains c k = false) (h0 : c.capacity = 0) : access c k = ({ c with misses := c.misses + 1 }, none) := by
  have he : c.entries = [] := List.length_eq_zero_iff.mp (by have := w.le; omega)
  unfold access
  rw [hm, if_neg Bool.false_ne_true]
  unfold insertKey
  rw [if_pos h0, he]
theorem access_hit {c : Cache} (w : WF c) {k j : Nat} {e : Entry} (h : c.entries[j]? = some e) (hk : e.key = k) :
    access c k = ({ c with entries := c.entries.set j (used (c.hits + c.misses + 1) e), hits := c.hits + 1 }, none) := by
  have hm : contains c k = true := contains_iff.mpr ⟨e, List.mem_of_getElem? h, hk⟩
  unfold access
  rw [if_pos hm, recordUse_set w.nd h hk]
theorem filter_perm_nodup {l m : List Entry} {k : Nat} (p : (l.map (·.key)).Perm (m.map (·.key))) (nd : (m.map (·.key)).Nodup) : ((l.filter fun x => x.key != k).map (·.key)).Nodup := by
  have h1 : (l.map (·.key)).Nodup := (List.Perm.nodup_iff p).mpr nd
  exact h1.sublist (List.Sublist.map _ List.filter_sublist)
/-- an access keeps it -/
theorem wf_access {c : Cache} (w : WF c) (k : Nat) : WF (access c k).1 := by
  cases hm : contains c k with
  | true =>
    obtain ⟨e, he, hk⟩ := contains_iff.mp hm
    obtain ⟨j, hj⟩ := List.getElem?_of_mem he
    rw [access_hit w hj hk]
    refine ⟨?_, by simpa using w.le, w.po⟩
    have : (c.entries.set j (used (c.hits + c.misses + 1) e)).map (·.key) = c.entries.map (·.key) := by
      apply List.ext_getElem?
      intro i
      rw [List.getElem?_map, List.getElem?_map, List.getElem?_set]
      by_cases hi : j = i
      · subst hi
        rw [if_pos rfl, if_pos (List.getElem?_eq_some_iff.mp hj).1, hj]
        rfl
      · rw [if_neg hi]
    show ((c.entries.set j _).map (fun (x : Entry) => x.key)).Nodup
    rw [this]
    exact w.nd
  | false =>
    have nk : ∀ e ∈ c.entries, e.key ≠ k := fun e he z => by
      have := contains_iff.mpr ⟨e, he, z⟩
      rw [hm] at this
      cases this
    by_cases h0 : c.capacity = 0
    · rw [access_zero w hm h0]
      exact ⟨w.nd, w.le, w.po⟩
    · by_cases hf : c.entries.length < c.capacity
      · rw [access_room hm h0 hf]
        refine ⟨?_, by simp; omega, w.po⟩
        show ((c.entries ++ [_]).map (fun (x : Entry) => x.key)).Nodup
        rw [List.map_append, List.nodup_append]
        refine ⟨w.nd, by simp, fun a ha b hb => ?_⟩
        obtain ⟨e, he, rfl⟩ := List.mem_map.mp ha
        have : b = k := by simpa using hb
        rw [this]
        exact nk e he
      · have hne : c.entries ≠ [] := fun z => by
          rw [z] at hf
          simp at hf
          omega
        have hv := victim_lt (p := c.policy) hne
        have hg := List.getElem?_eq_getElem hv
        rw [access_full w hm h0 hf hg]
        obtain ⟨_, e2, e3⟩ := evicted w.po hne w.nd hg
        have hlen : ((ordered c.policy c.entries).filter (fun (x : Entry) => x.key != (c.entries[victimIx c.policy c.entries]).key)).length + 1 ≤ c.capacity := by
          have hmem : (c.entries[victimIx c.policy c.entries]).key ∈ (ordered c.policy c.entries).map (·.key) := by
            rw [e3.mem_iff]
            exact List.mem_map_of_mem (List.getElem_mem hv)
          obtain ⟨x, hx, hxk⟩ := List.mem_map.mp hmem
          have : ((ordered c.policy c.entries).filter (fun x => x.key != (c.entries[victimIx c.policy c.entries]).key)).length < (ordered c.policy c.entries).length := by
            refine List.length_filter_lt_length_iff_exists.mpr ⟨x, hx, by simp [hxk]⟩
          rw [ordered_len hne] at this
          have := w.le
          omega
        refine ⟨?_, by simpa using hlen, w.po⟩
        show (((ordered c.policy c.entries).filter (fun (x : Entry) => x.key != _) ++ [_]).map (fun (x : Entry) => x.key)).Nodup
        rw [List.map_append, List.nodup_append]
        refine ⟨filter_perm_nodup e3 w.nd, by simp, fun a ha b hb => ?_⟩
        obtain ⟨e, he, rfl⟩ := List.mem_map.mp ha
        have hb' : b = k := by simpa using hb
        rw [hb']
        have : e.key ∈ c.entries.map (·.key) := by
          rw [← e3.mem_iff]
          exact List.mem_map_of_mem (List.mem_filter.mp he).1
        obtain ⟨y, hy, hyk⟩ := List.mem_map.mp this
        rw [← hyk]
        exact nk y hy
theorem access_cap (c : Cache) (k : Nat) : (access c k).1.capacity = c.capacity ∧ (access c k).1.policy = c.policy := by
  unfold access
  split <;> exact ⟨rfl, rfl⟩
theorem accessAll_snoc (c : Cache) (l : List Nat) (k : Nat) : accessAll c (l ++ [k]) = (access (accessAll c l) k).1 := by
  unfold accessAll
  rw [List.foldl_append]
  rfl
theorem wf_all {c : Cache} (w : WF c) : ∀ (l : List Nat), WF (accessAll c l) := by
  intro l
  induction l generalizing c with
  | nil => exact w
  | cons k r ih => exact ih (wf_access w k)
theorem all_cap {c : Cache} : ∀ (l : List Nat), (accessAll c l).capacity = c.capacity ∧ (accessAll c l).policy = c.policy := by
  intro l
  induction l generalizing c with
  | nil => exact ⟨rfl, rfl⟩
  | cons k r ih =>
    have h := ih (c := (access c k).1)
    have h2 := access_cap c k
    exact ⟨h.1.trans h2.1, h.2.trans h2.2⟩
end Lab

/-! How a cache, its entries and the reader lie in the heap; the defs of the text as they stand behind the top. -/
namespace Lab
open PySem PySem.Spec PyProof.Rows L2
open Vakptc (Cache)
abbrev Ent := Vakptc.Entry

/-! ### the defs, as the end finds them -/
structure FnAt (K : PySem.W.Frag) (mg : Str → Option Value) (x : Str) (st : Stmt) (ps : List Str) : Prop where
  ex : ∃ f fd, mg x = some (.ref f) ∧ L2.Fun K x x st f fd ∧ L2.Binds K fd ps []
structure MtAt (K : PySem.W.Frag) (C : Addr) (m qual : Str) (st : Stmt) (ps : List Str) : Prop where
  ex : ∃ f fd, Meth K C m f ∧ L2.Fun K m qual st f fd ∧ L2.Binds K fd ps []
structure MkAt (K : PySem.W.Frag) (mg : Str → Option Value) (x : Str) (C : Addr) (qual : Str) (st : Stmt) (ps : List Str) : Prop where
  ex : ∃ f fd, Mk K C f ∧ mg x = some (.ref C) ∧ L2.Fun K "__init__" qual st f fd ∧ L2.Binds K fd ps []
section
variable {P : Program} {w : World} {K : PySem.W.Frag} {mg : Str → Option Value} {base : Heap}
/-- what a body's proof gives -/
abbrev Body0 (P : Program) (w : World) (K : PySem.W.Frag) (mg : Str → Option Value) (base : Heap) (N : List Str) (qual : Str) (st : Stmt) (k : Nat) (sp : Sp) : Prop :=
  ∀ (f : Addr) (cdv : Value) (A : Around) (outer : List Env) (s : Shared) (H : Hp) (vs : List V) (Q : VK) (E : XK), Room k (A.deeper (envOfC qual (defScope st) s.heap.objs.size f cdv)) → sp vs H Q E →
      ∃ t, PSs (cxOf L2.CX0 P w K mg base N qual (defScope st) f cdv A outer s H E).nox (defBody st) t ∧ t { nx := fun _ H' => Q .non H', rt := Q } (start N vs) H
abbrev BodyX (P : Program) (w : World) (K : PySem.W.Frag) (mg : Str → Option Value) (base : Heap) (N : List Str) (qual : Str) (st : Stmt) (k : Nat) (sp : Sp) : Prop :=
  ∀ (f : Addr) (cdv : Value) (A : Around) (outer : List Env) (s : Shared) (H : Hp) (vs : List V) (Q : VK) (E : XK), Room k (A.deeper (envOfC qual (defScope st) s.heap.objs.size f cdv)) → sp vs H Q E →
      ∃ t, PSs (cxOf (L2.CX P w) P w K mg base N qual (defScope st) f cdv A outer s H E) (defBody st) t ∧ t { nx := fun _ H' => Q .non H', rt := Q } (start N vs) H
theorem cal_of {x : Str} {st : Stmt} {N ps : List Str} {k : Nat} {sp : Sp} (D : FnAt K mg x st ps) (S : FnScope N ps (defScope st)) (len : ∀ vs H Q E, sp vs H Q E → vs.length = ps.length)
    (b : Body0 P w K mg base N x st k sp) : C8.Cal P w K mg base (k + 1) x sp [] := by
  obtain ⟨f, fd, hm, F, hb⟩ := D.ex
  exact ⟨f, fd, ps, [], F.ok S len (b f), hm, F.kp, hb, .nil⟩
theorem calX_of {x : Str} {st : Stmt} {N ps : List Str} {k : Nat} {sp : Sp} (D : FnAt K mg x st ps) (S : FnScope N ps (defScope st)) (len : ∀ vs H Q E, sp vs H Q E → vs.length = ps.length)
    (b : BodyX P w K mg base N x st k sp) : CalX P w K mg base (k + 1) x sp := by
  obtain ⟨f, fd, hm, F, hb⟩ := D.ex
  exact ⟨f, fd, ps, F.okX S len (b f), hm, F.kp, hb⟩
theorem met_of {m qual : Str} {C : Addr} {st : Stmt} {N ps : List Str} {k : Nat} {sp : Sp} (D : MtAt K C m qual st ps) (cl : Cls K C) (S : FnScope N ps (defScope st)) (len : ∀ vs H Q E, sp vs H Q E → vs.length = ps.length)
    (b : Body0 P w K mg base N qual st k sp) : C8.Met P w K mg base (k + 1) C m sp [] := by
  obtain ⟨f, fd, hm, F, hb⟩ := D.ex
  exact ⟨f, fd, ps, [], cl, hm, F.ok S len (b f), hb, .nil⟩
theorem mak_of {x qual : Str} {C : Addr} {st : Stmt} {N ps : List Str} {k : Nat} {sp : Sp} (D : MkAt K mg x C qual st ps) (S : FnScope N ps (defScope st)) (len : ∀ vs H Q E, sp vs H Q E → vs.length = ps.length)
    (b : Body0 P w K mg base N qual st k sp) : C8.Mak P w K mg base (k + 1) x C sp [] := by
  obtain ⟨f, fd, hM, hm, F, hb⟩ := D.ex
  exact ⟨f, fd, ps, [], hM, F.ok S len (b f), hm, hb, .nil⟩
/-- a def by its address -/
structure Held0 (P : Program) (w : World) (K : PySem.W.Frag) (mg : Str → Option Value) (base : Heap) (k : Nat) (f : Addr) (sp : Sp) : Prop where
  ex : ∃ (fd : FuncData) (ps : List Str), FnOk P w K mg base L2.CX0 k f fd ps sp ∧ PySem.W.keepIn K (.ref f) = true ∧ L2.Binds K fd ps []
theorem held0_of {x : Str} {st : Stmt} {N ps : List Str} {k : Nat} {sp : Sp} {f : Addr} (D : FnAt K mg x st ps) (hf : mg x = some (.ref f)) (S : FnScope N ps (defScope st)) (len : ∀ vs H Q E, sp vs H Q E → vs.length = ps.length)
    (b : Body0 P w K mg base N x st k sp) : Held0 P w K mg base (k + 1) f sp := by
  obtain ⟨f', fd, hm, F, hb⟩ := D.ex
  have e : f = f' := by
    rw [hm] at hf
    exact Value.ref.inj (Option.some.inj hf.symm)
  subst e
  exact ⟨fd, ps, F.ok S len (b f), F.kp, hb⟩
theorem heldX_of {x : Str} {k : Nat} {sp : Sp} {f : Addr} (c : CalX P w K mg base k x sp) (hf : mg x = some (.ref f)) : HeldX P w K mg base k f sp := by
  obtain ⟨f', fd, ps, F, hm, kp, hb⟩ := c.ex
  have e : f = f' := by
    rw [hm] at hf
    exact Value.ref.inj (Option.some.inj hf.symm)
  subst e
  exact ⟨fd, ps, F, kp, hb⟩
end
section
variable {X : Cx} {k i : Nat} {x : Str} {p pos : Pos} {e : Expr} {es : List Expr} {t : TA}
/-- a local name that holds a def of a table, called; it raises nothing -/
def tCallH (i : Nat) (S : Addr → Sp → Prop) (t : TA) : TE := fun σ H Q => ∃ f sp, σ[i]? = some (some (.ref f)) ∧ S f sp ∧ t σ H fun vs H1 => sp vs H1 Q E0
theorem pe_callH {S : Addr → Sp → Prop} (A : ∀ f sp, S f sp → Held0 X.prog X.w X.K X.mg X.base k f sp) (hr : Room k X.A) (hN : X.N[i]? = some x) (hv : Vis X.env.scope x) (ha : PA X (e :: es) t)
    (nodbg : (x == ("__debug__" : Str)) = false := by decide) (hcd : (x == ("__classdict__" : Str)) = false := by decide)
    (he : starEach (e :: es) X.env = (false, eval e X.env) :: starEach es X.env := by rfl) (hpl : (backTo pos (starEach es X.env)).any (·.1) = false := by rfl) : PE X (.Call (.Name x p) (e :: es) [] pos) (tCallH i S t) := by
  constructor
  intro pins s σ H Q I x
  rcases x with ⟨f, sp, here, inS, rest⟩
  rcases (A f sp inS).ex with ⟨fd, ps, F, keeps, bi⟩
  have go := pe_callL (p := p) (i := i) (sp := sp) (dvs := []) (E := E0) F hr hN hv keeps bi .nil pass0 ha nodbg hcd he hpl
  exact go.run pins s σ H Q I ⟨here, by simpa only [List.append_nil] using rest⟩
end

/-! ### readings of common forms -/
theorem r_var {i : Nat} {v : V} {σ : L2.St} {H : Hp} {Q : VK} (s : σ[i]? = some (some v)) (q : Q v H) : tVar i σ H Q := ⟨v, s, q⟩
theorem r_fld {K : PySem.W.Frag} {i : Nat} {a C dx : Addr} {fs : List (Str × V)} {f : Str} {v : V} {σ : L2.St} {H : Hp} {Q : VK} (s : σ[i]? = some (some (.ref a))) (h : H a = some (.ins C dx fs)) (c : Cls K C) (n : NoAttr K C f) (l : fs.lookup f = some v) (q : Q v H) :
    tFld K (tVar i) f σ H Q := ⟨_, s, a, C, dx, fs, v, rfl, h, c, n, l, q⟩

/-! ### fields -/
section
variable {k g0 g1 g2 g3 : Str} {v x0 x1 x2 x3 y : V} {r : List (Str × V)}
theorem lk0 : List.lookup k ((k, v) :: r) = some v := by
  have e : (k == k) = true := beq_self_eq_true k
  simp only [List.lookup, e]
theorem lkS {g : Str} {x : V} {o : Option V} (h : (k == g) = false) (e : List.lookup k r = o) : List.lookup k ((g, x) :: r) = o := by
  simp only [List.lookup, h]
  exact e
theorem lkN : List.lookup k ([] : List (Str × V)) = none := rfl
theorem pt0 : putF k y ((k, v) :: r) = (k, y) :: r := if_pos rfl
theorem ptS {g : Str} {x : V} {r' : List (Str × V)} (h : ¬ g = k) (e : putF k y r = r') : putF k y ((g, x) :: r) = (g, x) :: r' := by
  rw [← e]
  exact if_neg h
theorem ptN : putF k y [] = [(k, y)] := rfl
end

/-! ### the entries, the cache -/
def bitV (b : Bool) : V := .int (if b then 1 else 0)
def eF (e : Ent) : List (Str × V) := [("key", .int e.key), ("last_use", .int e.lastUse), ("use_count", .int e.useCount), ("reference_bit", bitV e.referenced)]
def cF (c : Cache) (l : Addr) : List (Str × V) := [("capacity", .int c.capacity), ("policy", .int c.policy), ("entries", .ref l), ("hits", .int c.hits), ("misses", .int c.misses)]
theorem eF_key (e : Ent) : (eF e).lookup ("key" : Str) = some (.int e.key) := lk0
theorem eF_last (e : Ent) : (eF e).lookup ("last_use" : Str) = some (.int e.lastUse) := lkS (by decide +kernel) lk0
theorem eF_use (e : Ent) : (eF e).lookup ("use_count" : Str) = some (.int e.useCount) := lkS (by decide +kernel) (lkS (by decide +kernel) lk0)
theorem eF_bit (e : Ent) : (eF e).lookup ("reference_bit" : Str) = some (bitV e.referenced) := lkS (by decide +kernel) (lkS (by decide +kernel) (lkS (by decide +kernel) lk0))
theorem eF_new (k n : Int) (k' n' : Nat) (hk : k = k') (hn : n = n') : putF "reference_bit" (.int 0) (putF "use_count" (.int 1) (putF "last_use" (.int n) (putF "key" (.int k) []))) = eF { key := k', lastUse := n', useCount := 1, referenced := false } := by
  subst hk hn
  rw [ptN, ptS (by decide +kernel) ptN, ptS (by decide +kernel) (ptS (by decide +kernel) ptN), ptS (by decide +kernel) (ptS (by decide +kernel) (ptS (by decide +kernel) ptN))]
  rfl
theorem eF_putLast (e : Ent) (n : Nat) : putF "last_use" (.int n) (eF e) = eF { e with lastUse := n } := ptS (by decide +kernel) pt0
theorem eF_putUse (e : Ent) : putF "use_count" (.int ((e.useCount : Int) + 1)) (eF e) = eF { e with useCount := e.useCount + 1 } := ptS (by decide +kernel) (ptS (by decide +kernel) pt0)
theorem eF_putBit (e : Ent) (b : Bool) : putF "reference_bit" (bitV b) (eF e) = eF { e with referenced := b } := ptS (by decide +kernel) (ptS (by decide +kernel) (ptS (by decide +kernel) pt0))
theorem cF_cap (c : Cache) (l : Addr) : (cF c l).lookup ("capacity" : Str) = some (.int c.capacity) := lk0
theorem cF_pol (c : Cache) (l : Addr) : (cF c l).lookup ("policy" : Str) = some (.int c.policy) := lkS (by decide +kernel) lk0
theorem cF_ent (c : Cache) (l : Addr) : (cF c l).lookup ("entries" : Str) = some (.ref l) := lkS (by decide +kernel) (lkS (by decide +kernel) lk0)
theorem cF_hit (c : Cache) (l : Addr) : (cF c l).lookup ("hits" : Str) = some (.int c.hits) := lkS (by decide +kernel) (lkS (by decide +kernel) (lkS (by decide +kernel) lk0))
theorem cF_mis (c : Cache) (l : Addr) : (cF c l).lookup ("misses" : Str) = some (.int c.misses) := lkS (by decide +kernel) (lkS (by decide +kernel) (lkS (by decide +kernel) (lkS (by decide +kernel) lk0)))
theorem cF_none (c : Cache) (l : Addr) (m : Str) (h0 : (m == ("capacity" : Str)) = false) (h1 : (m == ("policy" : Str)) = false) (h2 : (m == ("entries" : Str)) = false) (h3 : (m == ("hits" : Str)) = false) (h4 : (m == ("misses" : Str)) = false) : (cF c l).lookup m = none :=
  lkS h0 (lkS h1 (lkS h2 (lkS h3 (lkS h4 lkN))))
theorem cF_putEnt (c : Cache) (l l' : Addr) : putF "entries" (.ref l') (cF c l) = cF c l' := ptS (by decide +kernel) (ptS (by decide +kernel) pt0)
theorem cF_putHit (c : Cache) (l : Addr) : putF "hits" (.int ((c.hits : Int) + 1)) (cF c l) = cF { c with hits := c.hits + 1 } l := ptS (by decide +kernel) (ptS (by decide +kernel) (ptS (by decide +kernel) pt0))
theorem cF_putMis (c : Cache) (l : Addr) : putF "misses" (.int ((c.misses : Int) + 1)) (cF c l) = cF { c with misses := c.misses + 1 } l := ptS (by decide +kernel) (ptS (by decide +kernel) (ptS (by decide +kernel) (ptS (by decide +kernel) pt0)))
theorem cF_len (c : Cache) (l : Addr) : (cF c l).length < 1000 := by show 5 < 1000; decide
theorem eF_len (e : Ent) : (eF e).length < 1000 := by show 4 < 1000; decide
theorem cF_new (a p : Int) (l : Addr) (a' p' : Nat) (ha : a = a') (hp : p = p') : putF "misses" (.int 0) (putF "hits" (.int 0) (putF "entries" (.ref l) (putF "policy" (.int p) (putF "capacity" (.int a) [])))) = cF (Vakptc.emptyCache a' p') l := by
  subst ha hp
  rw [ptN, ptS (by decide +kernel) ptN, ptS (by decide +kernel) (ptS (by decide +kernel) ptN), ptS (by decide +kernel) (ptS (by decide +kernel) (ptS (by decide +kernel) ptN)), ptS (by decide +kernel) (ptS (by decide +kernel) (ptS (by decide +kernel) (ptS (by decide +kernel) ptN)))]
  rfl

def EntAt (C : Addr) (H : Hp) (b : Addr) (e : Ent) : Prop := ∃ dx, H b = some (.ins C dx (eF e))
structure CaAt (CC CE : Addr) (H : Hp) (a l : Addr) (bs : List Addr) (c : Cache) : Prop where
  ob : ∃ dx, H a = some (.ins CC dx (cF c l))
  ls : H l = some (.lst (bs.map V.ref))
  en : Paired (EntAt CE H) bs c.entries
  nd : bs.Nodup
def foot (a l : Addr) (bs : List Addr) : List Addr := a :: l :: bs

section
variable {CC CE : Addr} {H H' : Hp} {a l : Addr} {bs : List Addr} {c : Cache}
theorem pair_get {α β : Type} {F : α → β → Prop} : ∀ {l : List α} {m : List β} {i : Nat} {y : β}, Paired F l m → m[i]? = some y → ∃ x, l[i]? = some x ∧ F x y
  | _, _, _, _, .nil, e => by simp at e
  | _, _, 0, y, .cons (a := a) f r, e => by
    have q : _ = y := Option.some.inj e
    subst q
    exact ⟨a, rfl, f⟩
  | _, _, i + 1, y, .cons f r, e => pair_get (i := i) r e
theorem pair_get' {α β : Type} {F : α → β → Prop} : ∀ {l : List α} {m : List β} {i : Nat} {x : α}, Paired F l m → l[i]? = some x → ∃ y, m[i]? = some y ∧ F x y
  | _, _, _, _, .nil, e => by simp at e
  | _, _, 0, x, .cons (b := b) f r, e => by
    have q : _ = x := Option.some.inj e
    subst q
    exact ⟨b, rfl, f⟩
  | _, _, i + 1, x, .cons f r, e => pair_get' (i := i) r e
theorem pair_len {α β : Type} {F : α → β → Prop} : ∀ {l : List α} {m : List β}, Paired F l m → l.length = m.length
  | _, _, .nil => rfl
  | _, _, .cons _ r => congrArg (· + 1) (pair_len r)
theorem pair_imp {α β : Type} {F G : α → β → Prop} : ∀ {l : List α} {m : List β}, Paired F l m → (∀ x ∈ l, ∀ y, F x y → G x y) → Paired G l m
  | _, _, .nil, _ => .nil
  | _, _, .cons f r, h => .cons (h _ List.mem_cons_self _ f) (pair_imp r fun x hx y q => h x (List.mem_cons_of_mem _ hx) y q)
theorem CaAt.len (x : CaAt CC CE H a l bs c) : bs.length = c.entries.length := pair_len x.en
/-- where the footprint stands, the cache stands -/
theorem CaAt.keep (x : CaAt CC CE H a l bs c) (k : ∀ b ∈ foot a l bs, ∀ o, H b = some o → H' b = some o) : CaAt CC CE H' a l bs c :=
  ⟨let ⟨dx, e⟩ := x.ob; ⟨dx, k a List.mem_cons_self _ e⟩, k l (List.mem_cons_of_mem _ List.mem_cons_self) _ x.ls,
    pair_imp x.en fun b hb e ⟨dx, q⟩ => ⟨dx, k b (List.mem_cons_of_mem _ (List.mem_cons_of_mem _ hb)) _ q⟩, x.nd⟩
theorem CaAt.same (x : CaAt CC CE H a l bs c) (s : Same H H') : CaAt CC CE H' a l bs c := x.keep fun b _ o e => s b o e
theorem CaAt.al (x : CaAt CC CE H a l bs c) : a ≠ l := by
  obtain ⟨dx, e⟩ := x.ob
  exact ne_of e x.ls (fun z => by cases z)
theorem CaAt.ab (x : CaAt CC CE H a l bs c) : a ∉ bs := fun h => by
  obtain ⟨dx, e⟩ := x.ob
  obtain ⟨i, hi⟩ := List.getElem?_of_mem h
  obtain ⟨y, _, dy, q⟩ := pair_get' x.en hi
  rw [e] at q
  have z : cF c l = eF y := by injection q with q; injection q
  have := congrArg List.length z
  exact absurd (show 5 = 4 from this) (by decide)
theorem CaAt.lb (x : CaAt CC CE H a l bs c) : l ∉ bs := fun h => by
  obtain ⟨i, hi⟩ := List.getElem?_of_mem h
  obtain ⟨y, _, dy, q⟩ := pair_get' x.en hi
  rw [x.ls] at q
  cases q
theorem CaAt.tracked (x : CaAt CC CE H a l bs c) : ∀ b ∈ foot a l bs, ∃ o, H b = some o := fun b hb => by
  rcases List.mem_cons.mp hb with rfl | hb
  · obtain ⟨dx, e⟩ := x.ob
    exact ⟨_, e⟩
  · rcases List.mem_cons.mp hb with rfl | hb
    · exact ⟨_, x.ls⟩
    · obtain ⟨i, hi⟩ := List.getElem?_of_mem hb
      obtain ⟨y, _, dy, q⟩ := pair_get' x.en hi
      exact ⟨_, q⟩
theorem CaAt.not_new (x : CaAt CC CE H a l bs c) {p : Addr} (n : H p = none) : p ∉ foot a l bs := fun h => by
  obtain ⟨o, e⟩ := x.tracked p h
  rw [n] at e
  cases e
theorem CaAt.at_ (x : CaAt CC CE H a l bs c) {i : Nat} {b : Addr} {e : Ent} (hb : bs[i]? = some b) (he : c.entries[i]? = some e) : EntAt CE H b e := by
  obtain ⟨y, hy, q⟩ := pair_get' x.en hb
  rw [he] at hy
  cases hy
  exact q
end
theorem nd_at {α : Type} {l : List α} (hN : l.Nodup) {i j : Nat} {x : α} (a : l[i]? = some x) (b : l[j]? = some x) : i = j := nd_ix hN a b
/-- what was tracked and stands outside F is as it was; what is tracked stays so -/
def Out (F : List Addr) (H H' : Hp) : Prop := (∀ b o, H b = some o → b ∉ F → H' b = some o) ∧ ∀ b, H' b = none → H b = none
theorem Out.trans {F F' : List Addr} {H H1 H2 : Hp} (x : Out F H H1) (y : Out F' H1 H2) (h : ∀ b ∈ F', b ∈ F ∨ H b = none) : Out F H H2 := by
  refine ⟨fun b o e n => y.1 b o (x.1 b o e n) fun hb => ?_, fun b n => x.2 b (y.2 b n)⟩
  rcases h b hb with z | z
  · exact n z
  · rw [e] at z
    cases z
theorem Out.of_same {F : List Addr} {H H' : Hp} (s : Same H H') : Out F H H' := ⟨fun b o e _ => s b o e, fun b n => s.free n⟩
theorem upd_live {H : Hp} {a b : Addr} {o : HO} (n : upd H a o b = none) : H b = none := by
  by_cases h : b = a
  · subst h
    rw [upd_same] at n
    cases n
  · rw [upd_ne h] at n
    exact n
theorem out_upd {F : List Addr} {H : Hp} {a : Addr} {o : HO} (h : a ∈ F) : Out F H (upd H a o) := ⟨fun b u e n => by
  have ne : b ≠ a := fun z => n (by rw [z]; exact h)
  rw [upd_ne ne]
  exact e, fun b n => upd_live n⟩
theorem same_new {H : Hp} {p : Addr} {o : HO} (n : H p = none) : Same H (upd H p o) := fun b u e => by
  rw [upd_ne (ne_of_none e n)]
  exact e
end Lab

/-! The defs of the text by their places (printed by gen.py). -/
namespace Lab
open PySem PySem.Spec PyProof.Rows L2
def topS (i : Nat) : Stmt := PySem.Challenge.pw_keepslots_s01_answers.main.body.getD i (.Pass ⟨0, 0, 0, 0⟩)

abbrev s_must_evict : Stmt := topS 3
abbrev N_must_evict : List Str := ["capacity", "cached", "key"]
theorem sc_must_evict : FnScope N_must_evict ["capacity", "cached", "key"] (defScope s_must_evict) := ⟨rfl, rfl, rfl, by decide +kernel, rfl, by decide +kernel, by decide +kernel⟩
abbrev s_without_key : Stmt := topS 4
abbrev N_without_key : List Str := ["cached", "victim", "key"]
theorem sc_without_key : FnScope N_without_key ["cached", "victim"] (defScope s_without_key) := ⟨rfl, rfl, rfl, by decide +kernel, rfl, by decide +kernel, by decide +kernel⟩
abbrev s_with_key : Stmt := topS 5
abbrev N_with_key : List Str := ["capacity", "cached", "key"]
theorem sc_with_key : FnScope N_with_key ["capacity", "cached", "key"] (defScope s_with_key) := ⟨rfl, rfl, rfl, by decide +kernel, rfl, by decide +kernel, by decide +kernel⟩
abbrev s_missed : Stmt := topS 6
abbrev N_missed : List Str := ["cached", "key"]
theorem sc_missed : FnScope N_missed ["cached", "key"] (defScope s_missed) := ⟨rfl, rfl, rfl, by decide +kernel, rfl, by decide +kernel, by decide +kernel⟩
abbrev s_replayed : Stmt := topS 7
abbrev N_replayed : List Str := ["capacity", "sequence", "evictions", "cached", "misses", "used", "position", "key"]
theorem sc_replayed : FnScope N_replayed ["capacity", "sequence", "evictions"] (defScope s_replayed) := ⟨rfl, rfl, rfl, by decide +kernel, rfl, by decide +kernel, by decide +kernel⟩
abbrev s_accesses_until : Stmt := topS 8
abbrev N_accesses_until : List Str := ["key", "upcoming"]
theorem sc_accesses_until : FnScope N_accesses_until ["key", "upcoming"] (defScope s_accesses_until) := ⟨rfl, rfl, rfl, by decide +kernel, rfl, by decide +kernel, by decide +kernel⟩
abbrev s_farthest_key : Stmt := topS 9
abbrev N_farthest_key : List Str := ["cached", "upcoming"]
theorem sc_farthest_key : FnScope N_farthest_key ["cached", "upcoming"] (defScope s_farthest_key) := ⟨rfl, rfl, rfl, by decide +kernel, rfl, by decide +kernel, by decide +kernel⟩
abbrev s_belady_evictions : Stmt := topS 10
abbrev N_belady_evictions : List Str := ["capacity", "sequence", "cached", "misses", "evictions", "position", "key", "victim"]
theorem sc_belady_evictions : FnScope N_belady_evictions ["capacity", "sequence"] (defScope s_belady_evictions) := ⟨rfl, rfl, rfl, by decide +kernel, rfl, by decide +kernel, by decide +kernel⟩
abbrev s_keep_better : Stmt := topS 11
abbrev N_keep_better : List Str := ["ways", "cached", "way"]
theorem sc_keep_better : FnScope N_keep_better ["ways", "cached", "way"] (defScope s_keep_better) := ⟨rfl, rfl, rfl, by decide +kernel, rfl, by decide +kernel, by decide +kernel⟩
abbrev s_ways_after : Stmt := topS 12
abbrev N_ways_after : List Str := ["ways", "capacity", "key", "found", "cached", "way", "misses", "victim", "kept"]
theorem sc_ways_after : FnScope N_ways_after ["ways", "capacity", "key"] (defScope s_ways_after) := ⟨rfl, rfl, rfl, by decide +kernel, rfl, by decide +kernel, by decide +kernel⟩
abbrev s_optimal_evictions : Stmt := topS 13
abbrev N_optimal_evictions : List Str := ["capacity", "sequence", "ways", "key"]
theorem sc_optimal_evictions : FnScope N_optimal_evictions ["capacity", "sequence"] (defScope s_optimal_evictions) := ⟨rfl, rfl, rfl, by decide +kernel, rfl, by decide +kernel, by decide +kernel⟩
abbrev s_phase_starts : Stmt := topS 14
abbrev N_phase_starts : List Str := ["capacity", "sequence", "starts", "seen", "position", "key"]
theorem sc_phase_starts : FnScope N_phase_starts ["capacity", "sequence"] (defScope s_phase_starts) := ⟨rfl, rfl, rfl, by decide +kernel, rfl, by decide +kernel, by decide +kernel⟩
abbrev s_last_use_of : Stmt := topS 18
abbrev N_last_use_of : List Str := ["entry"]
theorem sc_last_use_of : FnScope N_last_use_of ["entry"] (defScope s_last_use_of) := ⟨rfl, rfl, rfl, by decide +kernel, rfl, by decide +kernel, by decide +kernel⟩
abbrev s_use_count_and_last_use_of : Stmt := topS 19
abbrev N_use_count_and_last_use_of : List Str := ["entry"]
theorem sc_use_count_and_last_use_of : FnScope N_use_count_and_last_use_of ["entry"] (defScope s_use_count_and_last_use_of) := ⟨rfl, rfl, rfl, by decide +kernel, rfl, by decide +kernel, by decide +kernel⟩
abbrev s_first_listed : Stmt := topS 20
abbrev N_first_listed : List Str := ["entries"]
theorem sc_first_listed : FnScope N_first_listed ["entries"] (defScope s_first_listed) := ⟨rfl, rfl, rfl, by decide +kernel, rfl, by decide +kernel, by decide +kernel⟩
abbrev s_least_recently_used : Stmt := topS 21
abbrev N_least_recently_used : List Str := ["entries"]
theorem sc_least_recently_used : FnScope N_least_recently_used ["entries"] (defScope s_least_recently_used) := ⟨rfl, rfl, rfl, by decide +kernel, rfl, by decide +kernel, by decide +kernel⟩
abbrev s_most_recently_used : Stmt := topS 22
abbrev N_most_recently_used : List Str := ["entries"]
theorem sc_most_recently_used : FnScope N_most_recently_used ["entries"] (defScope s_most_recently_used) := ⟨rfl, rfl, rfl, by decide +kernel, rfl, by decide +kernel, by decide +kernel⟩
abbrev s_least_frequently_used : Stmt := topS 23
abbrev N_least_frequently_used : List Str := ["entries"]
theorem sc_least_frequently_used : FnScope N_least_frequently_used ["entries"] (defScope s_least_frequently_used) := ⟨rfl, rfl, rfl, by decide +kernel, rfl, by decide +kernel, by decide +kernel⟩
abbrev s_first_without_bit : Stmt := topS 24
abbrev N_first_without_bit : List Str := ["entries", "entry"]
theorem sc_first_without_bit : FnScope N_first_without_bit ["entries"] (defScope s_first_without_bit) := ⟨rfl, rfl, rfl, by decide +kernel, rfl, by decide +kernel, by decide +kernel⟩
abbrev s_cache_after : Stmt := topS 27
abbrev N_cache_after : List Str := ["capacity", "policy", "sequence", "cache", "key"]
theorem sc_cache_after : FnScope N_cache_after ["capacity", "policy", "sequence"] (defScope s_cache_after) := ⟨rfl, rfl, rfl, by decide +kernel, rfl, by decide +kernel, by decide +kernel⟩
abbrev s_renamed_sequences : Stmt := topS 29
abbrev N_renamed_sequences : List Str := ["key_bound", "length", "sequences", "place", "longer", "sequence", "used", "key"]
theorem sc_renamed_sequences : FnScope N_renamed_sequences ["key_bound", "length"] (defScope s_renamed_sequences) := ⟨rfl, rfl, rfl, by decide +kernel, rfl, by decide +kernel, by decide +kernel⟩
abbrev s_misses_of : Stmt := topS 30
abbrev N_misses_of : List Str := ["policy", "capacity", "sequence"]
theorem sc_misses_of : FnScope N_misses_of ["policy", "capacity", "sequence"] (defScope s_misses_of) := ⟨rfl, rfl, rfl, by decide +kernel, rfl, by decide +kernel, by decide +kernel⟩
abbrev s_minimum_misses : Stmt := topS 31
abbrev N_minimum_misses : List Str := ["capacity", "sequence"]
theorem sc_minimum_misses : FnScope N_minimum_misses ["capacity", "sequence"] (defScope s_minimum_misses) := ⟨rfl, rfl, rfl, by decide +kernel, rfl, by decide +kernel, by decide +kernel⟩
abbrev s_lead_of : Stmt := topS 32
abbrev N_lead_of : List Str := ["outcome"]
theorem sc_lead_of : FnScope N_lead_of ["outcome"] (defScope s_lead_of) := ⟨rfl, rfl, rfl, by decide +kernel, rfl, by decide +kernel, by decide +kernel⟩
abbrev s_first_greatest : Stmt := topS 33
abbrev N_first_greatest : List Str := ["outcomes"]
theorem sc_first_greatest : FnScope N_first_greatest ["outcomes"] (defScope s_first_greatest) := ⟨rfl, rfl, rfl, by decide +kernel, rfl, by decide +kernel, by decide +kernel⟩
abbrev s_most_different : Stmt := topS 34
abbrev N_most_different : List Str := ["first", "second", "capacity", "key_bound", "length", "outcomes", "sequence", "first_misses", "second_misses"]
theorem sc_most_different : FnScope N_most_different ["first", "second", "capacity", "key_bound", "length"] (defScope s_most_different) := ⟨rfl, rfl, rfl, by decide +kernel, rfl, by decide +kernel, by decide +kernel⟩
abbrev s_farthest_from_minimum : Stmt := topS 35
abbrev N_farthest_from_minimum : List Str := ["policy", "capacity", "key_bound", "length", "outcomes", "sequence", "misses", "minimum"]
theorem sc_farthest_from_minimum : FnScope N_farthest_from_minimum ["policy", "capacity", "key_bound", "length"] (defScope s_farthest_from_minimum) := ⟨rfl, rfl, rfl, by decide +kernel, rfl, by decide +kernel, by decide +kernel⟩
abbrev s_shortest_anomaly : Stmt := topS 36
abbrev N_shortest_anomaly : List Str := ["policy", "capacity", "sequence", "smaller", "larger", "position", "key"]
theorem sc_shortest_anomaly : FnScope N_shortest_anomaly ["policy", "capacity", "sequence"] (defScope s_shortest_anomaly) := ⟨rfl, rfl, rfl, by decide +kernel, rfl, by decide +kernel, by decide +kernel⟩
abbrev s_check_capacity : Stmt := topS 51
abbrev N_check_capacity : List Str := ["capacity"]
theorem sc_check_capacity : FnScope N_check_capacity ["capacity"] (defScope s_check_capacity) := ⟨rfl, rfl, rfl, by decide +kernel, rfl, by decide +kernel, by decide +kernel⟩
abbrev s_check_policy : Stmt := topS 52
abbrev N_check_policy : List Str := ["policy"]
theorem sc_check_policy : FnScope N_check_policy ["policy"] (defScope s_check_policy) := ⟨rfl, rfl, rfl, by decide +kernel, rfl, by decide +kernel, by decide +kernel⟩
abbrev s_is_key : Stmt := topS 53
abbrev N_is_key : List Str := ["number"]
theorem sc_is_key : FnScope N_is_key ["number"] (defScope s_is_key) := ⟨rfl, rfl, rfl, by decide +kernel, rfl, by decide +kernel, by decide +kernel⟩
abbrev s_check_key : Stmt := topS 54
abbrev N_check_key : List Str := ["key"]
theorem sc_check_key : FnScope N_check_key ["key"] (defScope s_check_key) := ⟨rfl, rfl, rfl, by decide +kernel, rfl, by decide +kernel, by decide +kernel⟩
abbrev s_check_sequence : Stmt := topS 55
abbrev N_check_sequence : List Str := ["sequence", "element"]
theorem sc_check_sequence : FnScope N_check_sequence ["sequence"] (defScope s_check_sequence) := ⟨rfl, rfl, rfl, by decide +kernel, rfl, by decide +kernel, by decide +kernel⟩
abbrev s_check_some_capacity : Stmt := topS 56
abbrev N_check_some_capacity : List Str := ["capacity"]
theorem sc_check_some_capacity : FnScope N_check_some_capacity ["capacity"] (defScope s_check_some_capacity) := ⟨rfl, rfl, rfl, by decide +kernel, rfl, by decide +kernel, by decide +kernel⟩
abbrev s_check_search : Stmt := topS 57
abbrev N_check_search : List Str := ["key_bound", "max_bound", "length"]
theorem sc_check_search : FnScope N_check_search ["key_bound", "max_bound", "length"] (defScope s_check_search) := ⟨rfl, rfl, rfl, by decide +kernel, rfl, by decide +kernel, by decide +kernel⟩
abbrev s_listed : Stmt := topS 60
abbrev N_listed : List Str := ["numbers"]
theorem sc_listed : FnScope N_listed ["numbers"] (defScope s_listed) := ⟨rfl, rfl, rfl, by decide +kernel, rfl, by decide +kernel, by decide +kernel⟩
abbrev s_answer_configure : Stmt := topS 61
abbrev N_answer_configure : List Str := ["laboratory", "reader", "capacity", "policy"]
theorem sc_answer_configure : FnScope N_answer_configure ["laboratory", "reader"] (defScope s_answer_configure) := ⟨rfl, rfl, rfl, by decide +kernel, rfl, by decide +kernel, by decide +kernel⟩
abbrev s_answer_access : Stmt := topS 62
abbrev N_answer_access : List Str := ["laboratory", "reader", "key", "hit", "evicted"]
theorem sc_answer_access : FnScope N_answer_access ["laboratory", "reader"] (defScope s_answer_access) := ⟨rfl, rfl, rfl, by decide +kernel, rfl, by decide +kernel, by decide +kernel⟩
abbrev s_answer_remove : Stmt := topS 63
abbrev N_answer_remove : List Str := ["laboratory", "reader", "key"]
theorem sc_answer_remove : FnScope N_answer_remove ["laboratory", "reader"] (defScope s_answer_remove) := ⟨rfl, rfl, rfl, by decide +kernel, rfl, by decide +kernel, by decide +kernel⟩
abbrev s_answer_contents : Stmt := topS 64
abbrev N_answer_contents : List Str := ["laboratory", "reader", "answer", "entry"]
theorem sc_answer_contents : FnScope N_answer_contents ["laboratory", "reader"] (defScope s_answer_contents) := ⟨rfl, rfl, rfl, by decide +kernel, rfl, by decide +kernel, by decide +kernel⟩
abbrev s_answer_next_victim : Stmt := topS 65
abbrev N_answer_next_victim : List Str := ["laboratory", "reader", "victim"]
theorem sc_answer_next_victim : FnScope N_answer_next_victim ["laboratory", "reader"] (defScope s_answer_next_victim) := ⟨rfl, rfl, rfl, by decide +kernel, rfl, by decide +kernel, by decide +kernel⟩
abbrev s_answer_counters : Stmt := topS 66
abbrev N_answer_counters : List Str := ["laboratory", "reader"]
theorem sc_answer_counters : FnScope N_answer_counters ["laboratory", "reader"] (defScope s_answer_counters) := ⟨rfl, rfl, rfl, by decide +kernel, rfl, by decide +kernel, by decide +kernel⟩
abbrev s_answer_simulate : Stmt := topS 67
abbrev N_answer_simulate : List Str := ["laboratory", "reader", "capacity", "policy", "sequence", "cache"]
theorem sc_answer_simulate : FnScope N_answer_simulate ["laboratory", "reader"] (defScope s_answer_simulate) := ⟨rfl, rfl, rfl, by decide +kernel, rfl, by decide +kernel, by decide +kernel⟩
abbrev s_answer_optimal : Stmt := topS 68
abbrev N_answer_optimal : List Str := ["laboratory", "reader", "capacity", "sequence", "outcome"]
theorem sc_answer_optimal : FnScope N_answer_optimal ["laboratory", "reader"] (defScope s_answer_optimal) := ⟨rfl, rfl, rfl, by decide +kernel, rfl, by decide +kernel, by decide +kernel⟩
abbrev s_answer_farthest : Stmt := topS 69
abbrev N_answer_farthest : List Str := ["laboratory", "reader", "capacity", "sequence", "outcome"]
theorem sc_answer_farthest : FnScope N_answer_farthest ["laboratory", "reader"] (defScope s_answer_farthest) := ⟨rfl, rfl, rfl, by decide +kernel, rfl, by decide +kernel, by decide +kernel⟩
abbrev s_answer_replay : Stmt := topS 70
abbrev N_answer_replay : List Str := ["laboratory", "reader", "capacity", "sequence", "evictions"]
theorem sc_answer_replay : FnScope N_answer_replay ["laboratory", "reader"] (defScope s_answer_replay) := ⟨rfl, rfl, rfl, by decide +kernel, rfl, by decide +kernel, by decide +kernel⟩
abbrev s_answer_phases : Stmt := topS 71
abbrev N_answer_phases : List Str := ["laboratory", "reader", "capacity", "sequence"]
theorem sc_answer_phases : FnScope N_answer_phases ["laboratory", "reader"] (defScope s_answer_phases) := ⟨rfl, rfl, rfl, by decide +kernel, rfl, by decide +kernel, by decide +kernel⟩
abbrev s_answer_separate : Stmt := topS 72
abbrev N_answer_separate : List Str := ["laboratory", "reader", "first", "second", "capacity", "key_bound", "length", "outcome"]
theorem sc_answer_separate : FnScope N_answer_separate ["laboratory", "reader"] (defScope s_answer_separate) := ⟨rfl, rfl, rfl, by decide +kernel, rfl, by decide +kernel, by decide +kernel⟩
abbrev s_answer_worst : Stmt := topS 73
abbrev N_answer_worst : List Str := ["laboratory", "reader", "policy", "capacity", "key_bound", "length", "outcome"]
theorem sc_answer_worst : FnScope N_answer_worst ["laboratory", "reader"] (defScope s_answer_worst) := ⟨rfl, rfl, rfl, by decide +kernel, rfl, by decide +kernel, by decide +kernel⟩
abbrev s_answer_anomaly : Stmt := topS 74
abbrev N_answer_anomaly : List Str := ["laboratory", "reader", "policy", "capacity", "sequence"]
theorem sc_answer_anomaly : FnScope N_answer_anomaly ["laboratory", "reader"] (defScope s_answer_anomaly) := ⟨rfl, rfl, rfl, by decide +kernel, rfl, by decide +kernel, by decide +kernel⟩
abbrev s_answer_call : Stmt := topS 76
abbrev N_answer_call : List Str := ["laboratory", "reader", "operation"]
theorem sc_answer_call : FnScope N_answer_call ["laboratory", "reader"] (defScope s_answer_call) := ⟨rfl, rfl, rfl, by decide +kernel, rfl, by decide +kernel, by decide +kernel⟩
abbrev s_answers : Stmt := topS 77
abbrev N_answers : List Str := ["calls", "laboratory", "reader", "answered"]
theorem sc_answers : FnScope N_answers ["calls"] (defScope s_answers) := ⟨rfl, rfl, rfl, by decide +kernel, rfl, by decide +kernel, by decide +kernel⟩
abbrev s_CallReader_init : Stmt := inClass (topS 1) 0
abbrev N_CallReader_init : List Str := ["self", "calls"]
theorem sc_CallReader_init : FnScope N_CallReader_init ["self", "calls"] (defScope s_CallReader_init) := ⟨rfl, rfl, rfl, by decide +kernel, rfl, by decide +kernel, by decide +kernel⟩
abbrev s_CallReader_has_more : Stmt := inClass (topS 1) 1
abbrev N_CallReader_has_more : List Str := ["self"]
theorem sc_CallReader_has_more : FnScope N_CallReader_has_more ["self"] (defScope s_CallReader_has_more) := ⟨rfl, rfl, rfl, by decide +kernel, rfl, by decide +kernel, by decide +kernel⟩
abbrev s_CallReader_take_number : Stmt := inClass (topS 1) 2
abbrev N_CallReader_take_number : List Str := ["self", "number"]
theorem sc_CallReader_take_number : FnScope N_CallReader_take_number ["self"] (defScope s_CallReader_take_number) := ⟨rfl, rfl, rfl, by decide +kernel, rfl, by decide +kernel, by decide +kernel⟩
abbrev s_CallReader_take_row : Stmt := inClass (topS 1) 3
abbrev N_CallReader_take_row : List Str := ["self", "length", "start"]
theorem sc_CallReader_take_row : FnScope N_CallReader_take_row ["self"] (defScope s_CallReader_take_row) := ⟨rfl, rfl, rfl, by decide +kernel, rfl, by decide +kernel, by decide +kernel⟩
abbrev s_Entry_init : Stmt := inClass (topS 17) 0
abbrev N_Entry_init : List Str := ["self", "key", "last_use"]
theorem sc_Entry_init : FnScope N_Entry_init ["self", "key", "last_use"] (defScope s_Entry_init) := ⟨rfl, rfl, rfl, by decide +kernel, rfl, by decide +kernel, by decide +kernel⟩
abbrev s_Cache_init : Stmt := inClass (topS 26) 0
abbrev N_Cache_init : List Str := ["self", "capacity", "policy"]
theorem sc_Cache_init : FnScope N_Cache_init ["self", "capacity", "policy"] (defScope s_Cache_init) := ⟨rfl, rfl, rfl, by decide +kernel, rfl, by decide +kernel, by decide +kernel⟩
abbrev s_Cache_entry_of : Stmt := inClass (topS 26) 1
abbrev N_Cache_entry_of : List Str := ["self", "key", "entry"]
theorem sc_Cache_entry_of : FnScope N_Cache_entry_of ["self", "key"] (defScope s_Cache_entry_of) := ⟨rfl, rfl, rfl, by decide +kernel, rfl, by decide +kernel, by decide +kernel⟩
abbrev s_Cache_holds : Stmt := inClass (topS 26) 2
abbrev N_Cache_holds : List Str := ["self", "key"]
theorem sc_Cache_holds : FnScope N_Cache_holds ["self", "key"] (defScope s_Cache_holds) := ⟨rfl, rfl, rfl, by decide +kernel, rfl, by decide +kernel, by decide +kernel⟩
abbrev s_Cache_cached_keys : Stmt := inClass (topS 26) 3
abbrev N_Cache_cached_keys : List Str := ["self", "entry"]
theorem sc_Cache_cached_keys : FnScope N_Cache_cached_keys ["self"] (defScope s_Cache_cached_keys) := ⟨rfl, rfl, rfl, by decide +kernel, rfl, by decide +kernel, by decide +kernel⟩
abbrev s_Cache_access_number : Stmt := inClass (topS 26) 4
abbrev N_Cache_access_number : List Str := ["self"]
theorem sc_Cache_access_number : FnScope N_Cache_access_number ["self"] (defScope s_Cache_access_number) := ⟨rfl, rfl, rfl, by decide +kernel, rfl, by decide +kernel, by decide +kernel⟩
abbrev s_Cache_access : Stmt := inClass (topS 26) 5
abbrev N_Cache_access : List Str := ["self", "key", "entry"]
theorem sc_Cache_access : FnScope N_Cache_access ["self", "key"] (defScope s_Cache_access) := ⟨rfl, rfl, rfl, by decide +kernel, rfl, by decide +kernel, by decide +kernel⟩
abbrev s_Cache_take_in : Stmt := inClass (topS 26) 6
abbrev N_Cache_take_in : List Str := ["self", "key", "evicted"]
theorem sc_Cache_take_in : FnScope N_Cache_take_in ["self", "key"] (defScope s_Cache_take_in) := ⟨rfl, rfl, rfl, by decide +kernel, rfl, by decide +kernel, by decide +kernel⟩
abbrev s_Cache_make_room : Stmt := inClass (topS 26) 7
abbrev N_Cache_make_room : List Str := ["self", "victim"]
theorem sc_Cache_make_room : FnScope N_Cache_make_room ["self"] (defScope s_Cache_make_room) := ⟨rfl, rfl, rfl, by decide +kernel, rfl, by decide +kernel, by decide +kernel⟩
abbrev s_Cache_next_victim : Stmt := inClass (topS 26) 8
abbrev N_Cache_next_victim : List Str := ["self", "choose"]
theorem sc_Cache_next_victim : FnScope N_Cache_next_victim ["self"] (defScope s_Cache_next_victim) := ⟨rfl, rfl, rfl, by decide +kernel, rfl, by decide +kernel, by decide +kernel⟩
abbrev s_Cache_give_second_chances : Stmt := inClass (topS 26) 9
abbrev N_Cache_give_second_chances : List Str := ["self", "entry"]
theorem sc_Cache_give_second_chances : FnScope N_Cache_give_second_chances ["self"] (defScope s_Cache_give_second_chances) := ⟨rfl, rfl, rfl, by decide +kernel, rfl, by decide +kernel, by decide +kernel⟩
abbrev s_Cache_remove_key : Stmt := inClass (topS 26) 10
abbrev N_Cache_remove_key : List Str := ["self", "key", "kept", "entry", "removed"]
theorem sc_Cache_remove_key : FnScope N_Cache_remove_key ["self", "key"] (defScope s_Cache_remove_key) := ⟨rfl, rfl, rfl, by decide +kernel, rfl, by decide +kernel, by decide +kernel⟩
abbrev s_Laboratory_init : Stmt := inClass (topS 59) 0
abbrev N_Laboratory_init : List Str := ["self"]
theorem sc_Laboratory_init : FnScope N_Laboratory_init ["self"] (defScope s_Laboratory_init) := ⟨rfl, rfl, rfl, by decide +kernel, rfl, by decide +kernel, by decide +kernel⟩
end Lab

/-! The simulated cache, def by def: 1. entries, what is only read. -/
namespace Lab
open PySem PySem.Spec PyProof.Rows L2
open Vakptc (Cache contains cachedKeys emptyCache)

structure TxtS (K : PySem.W.Frag) (mg : Str → Option Value) (CC CE dV f0 f1 f2 f3 f4 : Addr) : Prop where
  clC : Cls K CC
  nCap : NoAttr K CC "capacity"
  nPol : NoAttr K CC "policy"
  nEnt : NoAttr K CC "entries"
  nHit : NoAttr K CC "hits"
  nMis : NoAttr K CC "misses"
  clE : Cls K CE
  nKey : NoAttr K CE "key"
  nLast : NoAttr K CE "last_use"
  nUse : NoAttr K CE "use_count"
  nBit : NoAttr K CE "reference_bit"
  g_VICTIM_CHOICES : mg "VICTIM_CHOICES" = some (.ref dV)
  vict : IDict K dV [(0, f0), (1, f1), (2, f2), (3, f3), (4, f4)]
  g_first_listed : mg "first_listed" = some (.ref f0)
  g_least_recently_used : mg "least_recently_used" = some (.ref f1)
  g_most_recently_used : mg "most_recently_used" = some (.ref f2)
  g_least_frequently_used : mg "least_frequently_used" = some (.ref f3)
  g_first_without_bit : mg "first_without_bit" = some (.ref f4)
  g_SECOND_CHANCE : ∃ u, mg "SECOND_CHANCE" = some u ∧ RelV (.int 4) u
  n_len : mg "len" = none
  n_min : mg "min" = none
  n_max : mg "max" = none

section
variable {P : Program} {w : World} {K : PySem.W.Frag} {mg : Str → Option Value} {base : Heap} {CC CE dV f0 f1 f2 f3 f4 : Addr}

/-! ### Entry.__init__ -/
def spEntInit (CE : Addr) : Sp := fun vs H Q _ => ∃ (p dx : Addr) (k n : Nat), vs = [.ref p, .int k, .int n] ∧ H p = some (.ins CE dx []) ∧
  Q .non (upd H p (.ins CE dx (eF { key := k, lastUse := n, useCount := 1, referenced := false })))
theorem b_Entry_init (T : TxtS K mg CC CE dV f0 f1 f2 f3 f4) : Body0 P w K mg base N_Entry_init "Entry.__init__" s_Entry_init 0 (spEntInit CE) := by
  intro f cdv A outer s H vs Q E hr ⟨p, dx, k, n, ev, hp, q⟩
  subst ev
  have nd := sc_Entry_init.nd
  refine ⟨_, (pss_cons (ps_fld (pv 0) (pv 1) rfl)
    (pss_cons (ps_fld (pv 0) (pv 2) rfl)
    (pss_cons (ps_fld (pv 0) pe_int rfl)
    (pss_one (ps_fld (pv 0) pe_int rfl))))), ?_⟩
  refine ⟨_, rfl, _, rfl, p, CE, dx, [], rfl, hp, T.clE, T.nKey, (by show 0 < 1000; decide), ?_⟩
  refine ⟨_, rfl, _, rfl, p, CE, dx, _, rfl, upd_same, T.clE, T.nLast, (by show 1 < 1000; decide), ?_⟩
  refine ⟨_, rfl, p, CE, dx, _, rfl, upd_same, T.clE, T.nUse, (by show 2 < 1000; decide), ?_⟩
  refine ⟨_, rfl, p, CE, dx, _, rfl, upd_same, T.clE, T.nBit, (by show 3 < 1000; decide), ?_⟩
  show Q .non _
  rw [upd_upd, upd_upd, upd_upd, eF_new _ _ k n rfl rfl]
  exact q

/-! ### Cache.__init__ -/
def spCacheInit (CC CE : Addr) : Sp := fun vs H Q _ => ∃ (p dx : Addr) (a o : Nat), vs = [.ref p, .int a, .int o] ∧ H p = some (.ins CC dx []) ∧
  ∀ (H' : Hp) (l : Addr), CaAt CC CE H' p l [] (emptyCache a o) → H l = none → Out [p] H H' → Q .non H'
theorem b_Cache_init (T : TxtS K mg CC CE dV f0 f1 f2 f3 f4) : Body0 P w K mg base N_Cache_init "Cache.__init__" s_Cache_init 0 (spCacheInit CC CE) := by
  intro f cdv A outer s H vs Q E hr ⟨p, dx, a, o, ev, hp, q⟩
  subst ev
  have nd := sc_Cache_init.nd
  refine ⟨_, (pss_cons (ps_fld (pv 0) (pv 1) rfl)
    (pss_cons (ps_fld (pv 0) (pv 2) rfl)
    (pss_cons (ps_fld (pv 0) (pe_lst pa_nil) rfl)
    (pss_cons (ps_fld (pv 0) pe_int rfl)
    (pss_one (ps_fld (pv 0) pe_int rfl)))))), ?_⟩
  refine ⟨_, rfl, _, rfl, p, CC, dx, [], rfl, hp, T.clC, T.nCap, (by show 0 < 1000; decide), ?_⟩
  refine ⟨_, rfl, _, rfl, p, CC, dx, _, rfl, upd_same, T.clC, T.nPol, (by show 1 < 1000; decide), ?_⟩
  refine ⟨Nat.zero_le _, fun l hl => ?_⟩
  rw [upd_upd] at hl ⊢
  have lp : l ≠ p := fun z => by
    subst z
    rw [upd_same] at hl
    cases hl
  rw [upd_ne lp] at hl
  have hp1 : upd (upd H p (.ins CC dx (putF "policy" (.int o) (putF "capacity" (.int a) [])))) l (.lst []) p = some (.ins CC dx (putF "policy" (.int o) (putF "capacity" (.int a) []))) := by
    rw [upd_ne (Ne.symm lp)]
    exact upd_same
  refine ⟨_, rfl, p, CC, dx, _, rfl, hp1, T.clC, T.nEnt, (by show 2 < 1000; decide), ?_⟩
  refine ⟨_, rfl, p, CC, dx, _, rfl, upd_same, T.clC, T.nHit, (by show 3 < 1000; decide), ?_⟩
  refine ⟨_, rfl, p, CC, dx, _, rfl, upd_same, T.clC, T.nMis, (by show 4 < 1000; decide), ?_⟩
  show Q .non _
  rw [upd_upd, upd_upd]
  refine q _ l ⟨⟨dx, ?_⟩, ?_, .nil, List.nodup_nil⟩ hl ?_
  · rw [upd_same, cF_new _ _ l a o rfl rfl]
  · rw [upd_ne lp]
    exact upd_same
  · refine ⟨fun b u e n => ?_, fun b n => upd_live (upd_live (upd_live n))⟩
    have bp : b ≠ p := fun z => n (by rw [z]; exact List.mem_cons_self)
    rw [upd_ne bp, upd_ne (fun z => by subst z; rw [hl] at e; cases e), upd_ne bp]
    exact e

/-! ### what is only read -/
/-- the entry of a key: its address, or None -/
def spEntryOf (CC CE : Addr) : Sp := fun vs H Q _ => ∃ (a l : Addr) (bs : List Addr) (c : Cache) (k : Nat), vs = [.ref a, .int k] ∧ CaAt CC CE H a l bs c ∧
  (contains c k = false → Q .non H) ∧ ∀ (j : Nat) (b : Addr) (e : Ent), bs[j]? = some b → c.entries[j]? = some e → e.key = k → Q (.ref b) H
theorem map_ref_get {bs : List Addr} {i : Nat} {x : V} (h : (bs.map V.ref)[i]? = some x) : ∃ b, bs[i]? = some b ∧ x = .ref b := by
  rw [List.getElem?_map] at h
  cases q : bs[i]? with
  | none => rw [q] at h; cases h
  | some b => rw [q] at h; exact ⟨b, rfl, (Option.some.inj h).symm⟩
theorem cast_eq {m n : Nat} : decide (V.int (m : Int) = V.int (n : Int)) = decide (m = n) := by
  by_cases h : m = n
  · subst h; simp
  · have : ¬ V.int (m : Int) = V.int (n : Int) := fun z => h (by injection z with z; exact Int.ofNat.inj z)
    rw [decide_eq_false this, decide_eq_false h]
theorem b_entry_of (T : TxtS K mg CC CE dV f0 f1 f2 f3 f4) : Body0 P w K mg base N_Cache_entry_of "Cache.entry_of" s_Cache_entry_of 0 (spEntryOf CC CE) := by
  intro f cdv A outer s H vs Q E hr ⟨a, l, bs, c, k, ev, h, qN, qS⟩
  subst ev
  have nd := sc_Cache_entry_of.nd
  obtain ⟨dx, ho⟩ := h.ob
  refine ⟨_, (pss_cons (ps_for PassesOwn.never rfl (pi_list (pe_fld (pv 0) rfl)) (pg_name (i := 2) nd rfl (Or.inl rfl))
    (pss_one (ps_if (pt_cmpR op_eq (pe_fld (pv 2) rfl) (pv 1) (nomark _))
      (pss_one (ps_ret (pv 2)))
      pss_nil)))
    (pss_one (ps_ret pe_non))), ?_⟩
  refine ⟨_, rfl, a, CC, dx, _, _, rfl, ho, T.clC, T.nEnt, cF_ent c l, l, rfl, ⟨_, .inl (.inl h.ls)⟩, for_list (K := K) (a := l) (xs := bs.map V.ref)
    (fun i σ H' => (∃ v, σ = [some (.ref a), some (.int k), v]) ∧ H' = H ∧ ∀ (m : Nat) (e : Ent), m < i → c.entries[m]? = some e → e.key ≠ k) ⟨⟨none, rfl⟩, rfl, fun m _ hm => absurd hm (Nat.not_lt_zero _)⟩ ?_ ?_ ?_⟩
  · rintro i σ H' _ ⟨_, rfl, _⟩
    exact .inl (.inl h.ls)
  · rintro i x σ H' hx ⟨⟨v, rfl⟩, rfl, no⟩
    obtain ⟨b, hb, rfl⟩ := map_ref_get hx
    obtain ⟨e, he, d, hbe⟩ := pair_get' h.en hb
    refine ⟨_, rfl, b, CE, d, _, _, rfl, hbe, T.clE, T.nKey, eF_key e, _, rfl, ?_⟩
    refine ⟨rfl, _, rfl, ?_⟩
    rw [cast_eq]
    by_cases hk : e.key = k
    · rw [decide_eq_true hk]
      exact iteT ⟨_, rfl, qS i b e hb he hk⟩
    · rw [decide_eq_false hk]
      refine iteF ⟨⟨_, rfl⟩, rfl, fun m e' hm he' => ?_⟩
      by_cases hmi : m = i
      · subst hmi
        rw [he] at he'
        cases he'
        exact hk
      · exact no m e' (by omega) he'
  · rintro σ H' ⟨⟨v, rfl⟩, rfl, no⟩
    show Q .non H'
    refine qN ?_
    cases q : contains c k with
    | false => rfl
    | true =>
      obtain ⟨e, he, hk⟩ := contains_iff.mp q
      obtain ⟨m, hm⟩ := List.getElem?_of_mem he
      have hlt := (List.getElem?_eq_some_iff.mp hm).1
      exact absurd hk (no m e (by rw [List.length_map, h.len]; exact hlt) hm)

def spHolds (CC CE : Addr) : Sp := fun vs H Q _ => ∃ (a l : Addr) (bs : List Addr) (c : Cache) (k : Nat), vs = [.ref a, .int k] ∧ CaAt CC CE H a l bs c ∧ Q (.bl (contains c k)) H
theorem b_holds (m_entry_of : C8.Met P w K mg base 1 CC "entry_of" (spEntryOf CC CE) []) : Body0 P w K mg base N_Cache_holds "Cache.holds" s_Cache_holds 1 (spHolds CC CE) := by
  intro f cdv A outer s H vs Q E hr ⟨a, l, bs, c, k, ev, h, q⟩
  subst ev
  have nd := sc_Cache_holds.nd
  obtain ⟨dx, ho⟩ := h.ob
  refine ⟨_, (pss_one (ps_ret (pe_cmpR op_notN (C8.pe_mt m_entry_of hr (by decide) (pv 0) (pa_cons (pv 1) pa_nil)) pe_non (nomark _)))), ?_⟩
  refine ⟨_, rfl, a, dx, _, rfl, ho, cF_none c l _ (by decide +kernel) (by decide +kernel) (by decide +kernel) (by decide +kernel) (by decide +kernel), _, rfl, a, l, bs, c, k, rfl, h, fun hn => ?_, fun j b e hb he hk => ?_⟩
  · refine ⟨rfl, ?_⟩
    rw [hn] at q
    exact q
  · refine ⟨rfl, ?_⟩
    have hc : contains c k = true := contains_iff.mpr ⟨e, List.mem_of_getElem? he, hk⟩
    rw [hc] at q
    exact q

def spAccNum (CC CE : Addr) : Sp := fun vs H Q _ => ∃ (a l dx : Addr) (c : Cache), vs = [.ref a] ∧ H a = some (.ins CC dx (cF c l)) ∧ Q (.int ((c.hits + c.misses : Nat) : Int)) H
theorem b_access_number (T : TxtS K mg CC CE dV f0 f1 f2 f3 f4) : Body0 P w K mg base N_Cache_access_number "Cache.access_number" s_Cache_access_number 0 (spAccNum CC CE) := by
  intro f cdv A outer s H vs Q E hr ⟨a, l, dx, c, ev, ho, q⟩
  subst ev
  have nd := sc_Cache_access_number.nd
  refine ⟨_, (pss_one (ps_ret (pe_op op_add (pe_fld (pv 0) rfl) (pe_fld (pv 0) rfl)))), ?_⟩
  refine ⟨_, rfl, a, CC, dx, _, _, rfl, ho, T.clC, T.nHit, cF_hit c l, _, rfl, a, CC, dx, _, _, rfl, ho, T.clC, T.nMis, cF_mis c l, _, _, rfl, rfl, ?_⟩
  exact q

/-- the keys, a new list -/
def spKeys (CC CE : Addr) : Sp := fun vs H Q _ => ∃ (a l : Addr) (bs : List Addr) (c : Cache), vs = [.ref a] ∧ CaAt CC CE H a l bs c ∧ c.entries.length ≤ 1000 ∧
  ∀ p, H p = none → Q (.ref p) (upd H p (.lst ((cachedKeys c).map fun n : Nat => V.int (n : Int))))
theorem take_snoc {α : Type} {l : List α} {i : Nat} {x : α} (h : l[i]? = some x) : l.take (i + 1) = l.take i ++ [x] := by
  rw [List.take_succ, h]
  rfl
theorem b_cached_keys (T : TxtS K mg CC CE dV f0 f1 f2 f3 f4) : Body0 P w K mg base N_Cache_cached_keys "Cache.cached_keys" s_Cache_cached_keys 0 (spKeys CC CE) := by
  intro f cdv A outer s H vs Q E hr ⟨a, l, bs, c, ev, h, hlen, q⟩
  subst ev
  have nd := sc_Cache_cached_keys.nd
  obtain ⟨dx, ho⟩ := h.ob
  refine ⟨_, (pss_one (ps_ret (pe_lc (own := [("entry", 1)]) (g := gName 1) (tt := tYes) (te := tFld K (tVar 1) "key") rfl nd (pi_list (pe_fld (pv 0) rfl)) (blkOk_by (own := [("entry", 1)]) (N := N_Cache_cached_keys) (sc := defScope s_Cache_cached_keys) (by decide +kernel)) (fun _ _ _ _ _ => by exact pg_name (i := 1) nd rfl (Or.inl rfl)) (fun _ _ _ _ _ => pts_nil) (fun _ _ _ _ _ => by exact pe_fld (pv 1) rfl)))), ?_⟩
  refine ⟨_, rfl, a, CC, dx, _, _, rfl, ho, T.clC, T.nEnt, cF_ent c l, l, rfl, ⟨_, .inl (.inl h.ls)⟩, fun D hD => lc_list (K := K) (a := l) (xs := bs.map V.ref)
    (fun i H' => H' = upd H D (.lst ((c.entries.take i).map fun e => V.int (e.key : Int)))) rfl ?_ ?_ ?_⟩
  · rintro i H' _ rfl
    refine .inl (.inl ?_)
    rw [upd_ne (ne_of_none h.ls hD)]
    exact h.ls
  · rintro i x H' hx rfl
    obtain ⟨b, hb, rfl⟩ := map_ref_get hx
    obtain ⟨e, he, d, hbe⟩ := pair_get' h.en hb
    refine ⟨rfl, ?_⟩
    dsimp only [tYes]
    rw [if_pos rfl]
    refine ⟨_, rfl, b, CE, d, _, _, rfl, (by rw [upd_ne (ne_of_none hbe hD)]; exact hbe), T.clE, T.nKey, eF_key e, _, upd_same, ?_, ?_⟩
    · have hl := (List.getElem?_eq_some_iff.mp he).1
      rw [List.length_map, List.length_take]
      exact Nat.lt_of_le_of_lt (Nat.min_le_right _ _) (small1000 hlen)
    · rw [upd_upd, take_snoc he, List.map_append]
      rfl
  · rintro H' rfl
    rw [List.length_map, h.len, List.take_length]
    have e : c.entries.map (fun e => V.int (e.key : Int)) = (cachedKeys c).map fun n : Nat => V.int (n : Int) := by
      unfold cachedKeys
      rw [List.map_map]
      rfl
    rw [e]
    exact q D hD
end
end Lab

/-! The simulated cache, def by def: 2. which entry goes. -/
namespace Lab
open PySem PySem.Spec PyProof.Rows L2
open Vakptc (Cache contains cachedKeys emptyCache firstIndexBy)

/-! ### the best of a list by a key -/
structure Swk (lt : Ent → Ent → Bool) : Prop where
  ir : ∀ a, lt a a = false
  tr : ∀ a b c, lt a b = true → lt b c = true → lt a c = true
  nt : ∀ a b c, lt a c = true → lt a b = true ∨ lt b c = true
theorem swk_lru : Swk fun a b => decide (a.lastUse < b.lastUse) :=
  ⟨fun a => by simp, fun a b c h1 h2 => by simp at *; omega, fun a b c h => by simp at *; omega⟩
theorem swk_mru : Swk fun a b => decide (b.lastUse < a.lastUse) :=
  ⟨fun a => by simp, fun a b c h1 h2 => by simp at *; omega, fun a b c h => by simp at *; omega⟩
theorem swk_lfu : Swk fun a b => decide (a.useCount < b.useCount ∨ (a.useCount = b.useCount ∧ a.lastUse < b.lastUse)) :=
  ⟨fun a => by simp, fun a b c h1 h2 => by simp at *; omega, fun a b c h => by simp at *; omega⟩

section
variable {K : PySem.W.Frag} {CE l f : Addr} {bs : List Addr} {es : List Ent} {sp : Sp} {rC : R2} {lt : Ent → Ent → Bool} {KeyV : Ent → V → Hp → Prop}
/-- behind i items: the best one stands at j -/
def BestJ (CE l : Addr) (bs : List Addr) (es : List Ent) (lt : Ent → Ent → Bool) (KeyV : Ent → V → Hp → Prop) (H : Hp) (i : Nat) (vb kb : V) (H' : Hp) : Prop :=
  Same H H' ∧ ∃ (j : Nat) (b : Addr) (e : Ent), j < i ∧ vb = .ref b ∧ bs[j]? = some b ∧ es[j]? = some e ∧ KeyV e kb H' ∧ (∀ (m : Nat) (e' : Ent), m < i → es[m]? = some e' → lt e' e = false) ∧ ∀ (m : Nat) (e' : Ent), m < j → es[m]? = some e' → lt e e' = true
theorem best_of {H : Hp} {Q : VK} (W : Swk lt) (hl : H l = some (.lst (bs.map V.ref))) (hp : Paired (EntAt CE H) bs es) (hne : es ≠ [])
    (hsp : ∀ (H' : Hp) (b : Addr) (e : Ent) (Q : VK), Same H H' → EntAt CE H' b e → (∀ k H'', Same H' H'' → KeyV e k H'' → Q k H'') → sp [.ref b] H' Q (fun _ _ _ => False))
    (hC : ∀ (e e' : Ent) (k k' : V) (H' : Hp) (Q : VK), KeyV e k H' → KeyV e' k' H' → Q (.bl (lt e e')) H' → rC k k' H' Q)
    (hK : ∀ (e : Ent) (k : V) (H' H'' : Hp), Same H' H'' → KeyV e k H' → KeyV e k H'')
    (q : ∀ (b : Addr) (H' : Hp), bs[firstIndexBy lt es]? = some b → Same H H' → Q (.ref b) H') : rMinKey K f sp rC [.ref l] [.ref f] H Q := by
  have entS : ∀ {H' : Hp} {i : Nat} {b : Addr} {e : Ent}, Same H H' → bs[i]? = some b → es[i]? = some e → EntAt CE H' b e := fun {H' i b e} s hb he => by
    obtain ⟨y, hy, d, z⟩ := pair_get' hp hb
    rw [he] at hy
    cases hy
    exact ⟨d, s _ _ z⟩
  cases es with
  | nil => exact absurd rfl hne
  | cons e0 r =>
    obtain ⟨b0, hb0, _⟩ := pair_get hp (i := 0) (y := e0) rfl
    refine ⟨l, bs.map V.ref, .ref b0, BestJ CE l bs (e0 :: r) lt KeyV H, rfl, rfl, .inl (.inl hl), by rw [List.getElem?_map, hb0]; rfl, ?_, ⟨fun i b kb H' h => .inl (.inl (h.1 _ _ hl)), ?_⟩, ?_⟩
    · refine hsp H b0 e0 _ (Same.refl H) (entS (Same.refl H) hb0 rfl) fun k H'' s kv => ?_
      refine ⟨s, 0, b0, e0, Nat.lt_succ_self 0, rfl, hb0, rfl, kv, fun m e' hm he' => ?_, fun m e' hm _ => absurd hm (Nat.not_lt_zero _)⟩
      have : m = 0 := by omega
      subst this
      cases he'
      exact W.ir _
    · rintro i x vb kb H' hx ⟨s, j, b, e, hj, rfl, hb, he, kv, all, fst⟩
      obtain ⟨b', hb', rfl⟩ := map_ref_get hx
      obtain ⟨e', he', _⟩ := pair_get' hp hb'
      refine hsp H' b' e' _ s (entS s hb' he') fun k H'' s2 kv2 => ?_
      refine hC e' e k kb H'' _ kv2 (hK _ _ _ _ s2 kv) ⟨lt e' e, rfl, s.trans s2, ?_⟩
      cases c : lt e' e with
      | true =>
        refine ⟨i, b', e', Nat.lt_succ_self i, rfl, hb', he', kv2, fun m e2 hm h2 => ?_, fun m e2 hm h2 => ?_⟩
        · by_cases hmi : m = i
          · subst hmi
            rw [he'] at h2
            cases h2
            exact W.ir _
          · have z := all m e2 (by omega) h2
            cases q2 : lt e2 e' with
            | false => rfl
            | true =>
              rw [W.tr _ _ _ q2 c] at z
              cases z
        · have z := all m e2 hm h2
          rcases W.nt e' e2 e c with y | y
          · exact y
          · rw [y] at z
            cases z
      | false =>
        refine ⟨j, b, e, by omega, rfl, hb, he, hK _ _ _ _ s2 kv, fun m e2 hm h2 => ?_, fst⟩
        by_cases hmi : m = i
        · subst hmi
          rw [he'] at h2
          cases h2
          exact c
        · exact all m e2 (by omega) h2
    · rintro vb kb H' ⟨s, j, b, e, hj, rfl, hb, he, kv, all, fst⟩
      have hlen : (bs.map V.ref).length = (e0 :: r).length := by rw [List.length_map]; exact pair_len hp
      refine q b H' ?_ s
      have fi : firstIndexBy lt (e0 :: r) = j := firstIx_of he (fun m e2 h2 => all m e2 (by rw [hlen]; exact (List.getElem?_eq_some_iff.mp h2).1) h2) fst
      rw [fi]
      exact hb
end

section
variable {P : Program} {w : World} {K : PySem.W.Frag} {mg : Str → Option Value} {base : Heap} {CC CE dV f0 f1 f2 f3 f4 : Addr}
def spLast (CE : Addr) : Sp := fun vs H Q _ => ∃ (b : Addr) (e : Ent), vs = [.ref b] ∧ EntAt CE H b e ∧ Q (.int e.lastUse) H
theorem b_last_use_of (T : TxtS K mg CC CE dV f0 f1 f2 f3 f4) : Body0 P w K mg base N_last_use_of "last_use_of" s_last_use_of 0 (spLast CE) := by
  intro f cdv A outer s H vs Q E hr ⟨b, e, ev, ⟨d, h⟩, q⟩
  subst ev
  refine ⟨_, (pss_one (ps_ret (pe_fld (pv 0) rfl))), ?_⟩
  exact ⟨_, rfl, b, CE, d, _, _, rfl, h, T.clE, T.nLast, eF_last e, q⟩
def spUse (CE : Addr) : Sp := fun vs H Q _ => ∃ (b : Addr) (e : Ent), vs = [.ref b] ∧ EntAt CE H b e ∧ ∀ p, H p = none → Q (.ref p) (upd H p (.tup [.int e.useCount, .int e.lastUse]))
theorem b_use_count (T : TxtS K mg CC CE dV f0 f1 f2 f3 f4) : Body0 P w K mg base N_use_count_and_last_use_of "use_count_and_last_use_of" s_use_count_and_last_use_of 0 (spUse CE) := by
  intro f cdv A outer s H vs Q E hr ⟨b, e, ev, ⟨d, h⟩, q⟩
  subst ev
  refine ⟨_, (pss_one (ps_ret (pe_tup (pa_cons (pe_fld (pv 0) rfl) (pa_cons (pe_fld (pv 0) rfl) pa_nil))))), ?_⟩
  exact ⟨_, rfl, b, CE, d, _, _, rfl, h, T.clE, T.nUse, eF_use e, _, rfl, b, CE, d, _, _, rfl, h, T.clE, T.nLast, eF_last e, (by show 2 ≤ sizeLine; decide), fun p hp => q p hp⟩

/-- one of the five choices -/
def spChoose (CE : Addr) (pol : Nat) : Sp := fun vs H Q _ => ∃ (l : Addr) (bs : List Addr) (es : List Ent), vs = [.ref l] ∧ H l = some (.lst (bs.map V.ref)) ∧ Paired (EntAt CE H) bs es ∧ es ≠ [] ∧
  ∀ (b : Addr) (H' : Hp), bs[victimIx pol es]? = some b → Same H H' → Q (.ref b) H'
theorem first_get {bs : List Addr} {es : List Ent} {F : Addr → Ent → Prop} (hp : Paired F bs es) (hne : es ≠ []) : ∃ b, bs[0]? = some b := by
  cases es with
  | nil => exact absurd rfl hne
  | cons e r =>
    obtain ⟨b, hb, _⟩ := pair_get hp (i := 0) (y := e) rfl
    exact ⟨b, hb⟩
theorem atI_zero {bs : List Addr} {b : Addr} (h : bs[0]? = some b) : atI (bs.map V.ref) 0 = some (.ref b) := at_of (j := 0) rfl (by rw [List.getElem?_map, h]; rfl)
theorem b_first_listed : Body0 P w K mg base N_first_listed "first_listed" s_first_listed 0 (spChoose CE 0) := by
  intro f cdv A outer s H vs Q E hr ⟨l, bs, es, ev, hl, hp, hne, q⟩
  subst ev
  obtain ⟨b, hb⟩ := first_get hp hne
  refine ⟨_, (pss_one (ps_ret (pe_ix ix_list (pv 0) pe_int (fun _ _ => rfl)))), ?_⟩
  exact ⟨_, rfl, l, _, 0, _, rfl, rfl, .inl (.inl hl), atI_zero hb, q b H hb (Same.refl H)⟩
theorem b_lru (T : TxtS K mg CC CE dV f0 f1 f2 f3 f4) (c_last : C8.Cal P w K mg base 1 "last_use_of" (spLast CE) []) : Body0 P w K mg base N_least_recently_used "least_recently_used" s_least_recently_used 2 (spChoose CE 1) := by
  intro f cdv A outer s H vs Q E hr ⟨l, bs, es, ev, hl, hp, hne, q⟩
  subst ev
  obtain ⟨fk, fd, ps, ds, F, hm, kp, hb, hd⟩ := c_last.ex
  cases hd
  refine ⟨_, (pss_one (ps_ret (pe_callBK (cr_minKey F hr hb op_lt) (by rfl) T.n_min (by decide +kernel) (pa_cons (pv 0) pa_nil) (pk_cons (pe_glob (v := .ref fk) rfl hm rfl) pk_nil)))), ?_⟩
  refine ⟨_, rfl, best_of (KeyV := fun e k _ => k = .int e.lastUse) swk_lru hl hp hne (fun H' b e Q' s he k => ⟨b, e, rfl, he, k _ _ (Same.refl _) rfl⟩) (fun e e' k k' H' Q' h1 h2 q' => ?_) (fun _ _ _ _ _ h => h) fun b H' hb s => q b H' hb s⟩
  subst h1 h2
  refine ⟨_, _, rfl, rfl, ?_⟩
  have e1 : decide ((e.lastUse : Int) < (e'.lastUse : Int)) = decide (e.lastUse < e'.lastUse) := by simp only [Int.ofNat_lt]
  dsimp only
  rw [e1]
  exact q'
theorem b_mru (T : TxtS K mg CC CE dV f0 f1 f2 f3 f4) (c_last : C8.Cal P w K mg base 1 "last_use_of" (spLast CE) []) : Body0 P w K mg base N_most_recently_used "most_recently_used" s_most_recently_used 2 (spChoose CE 2) := by
  intro f cdv A outer s H vs Q E hr ⟨l, bs, es, ev, hl, hp, hne, q⟩
  subst ev
  obtain ⟨fk, fd, ps, ds, F, hm, kp, hb, hd⟩ := c_last.ex
  cases hd
  refine ⟨_, (pss_one (ps_ret (pe_callBK (cr_maxKey F hr hb op_gt) (by rfl) T.n_max (by decide +kernel) (pa_cons (pv 0) pa_nil) (pk_cons (pe_glob (v := .ref fk) rfl hm rfl) pk_nil)))), ?_⟩
  refine ⟨_, rfl, best_of (KeyV := fun e k _ => k = .int e.lastUse) swk_mru hl hp hne (fun H' b e Q' s he k => ⟨b, e, rfl, he, k _ _ (Same.refl _) rfl⟩) (fun e e' k k' H' Q' h1 h2 q' => ?_) (fun _ _ _ _ _ h => h) fun b H' hb s => q b H' hb s⟩
  subst h1 h2
  refine ⟨_, _, rfl, rfl, ?_⟩
  have e1 : decide ((e'.lastUse : Int) < (e.lastUse : Int)) = decide (e'.lastUse < e.lastUse) := by simp only [Int.ofNat_lt]
  dsimp only
  rw [e1]
  exact q'
theorem b_lfu (T : TxtS K mg CC CE dV f0 f1 f2 f3 f4) (c_use : C8.Cal P w K mg base 1 "use_count_and_last_use_of" (spUse CE) []) : Body0 P w K mg base N_least_frequently_used "least_frequently_used" s_least_frequently_used 2 (spChoose CE 3) := by
  intro f cdv A outer s H vs Q E hr ⟨l, bs, es, ev, hl, hp, hne, q⟩
  subst ev
  obtain ⟨fk, fd, ps, ds, F, hm, kp, hb, hd⟩ := c_use.ex
  cases hd
  refine ⟨_, (pss_one (ps_ret (pe_callBK (cr_minKey F hr hb (op_ltT (hr.in1).units0)) (by rfl) T.n_min (by decide +kernel) (pa_cons (pv 0) pa_nil) (pk_cons (pe_glob (v := .ref fk) rfl hm rfl) pk_nil)))), ?_⟩
  refine ⟨_, rfl, best_of (KeyV := fun e k H => ∃ t, k = .ref t ∧ H t = some (.tup [.int e.useCount, .int e.lastUse])) swk_lfu hl hp hne (fun H' b e Q' s he k => ⟨b, e, rfl, he, fun p hp => k _ _ (same_new hp) ⟨p, rfl, upd_same⟩⟩) (fun e e' k k' H' Q' h1 h2 q' => ?_)
    (fun e k H' H'' s ⟨t, e1, e2⟩ => ⟨t, e1, s _ _ e2⟩) fun b H' hb s => q b H' hb s⟩
  obtain ⟨t, rfl, ht⟩ := h1
  obtain ⟨t', rfl, ht'⟩ := h2
  refine ⟨t, t', [e.useCount, e.lastUse], [e'.useCount, e'.lastUse], rfl, rfl, .inl (.inl ht), .inl (.inl ht'), ?_⟩
  have e1 : HT.lexLt [(e.useCount : Int), (e.lastUse : Int)] [(e'.useCount : Int), (e'.lastUse : Int)] = decide (e.useCount < e'.useCount ∨ (e.useCount = e'.useCount ∧ e.lastUse < e'.lastUse)) := by
    rw [HT.lexLt_cons, HT.lexLt_cons, HT.lexLt_nil_nil]
    by_cases h1 : e.useCount = e'.useCount
    · rw [if_pos (by rw [h1])]
      by_cases h2 : e.lastUse = e'.lastUse
      · rw [if_pos (by rw [h2])]
        simp [h1, h2]
      · rw [if_neg (by omega)]
        simp [h1]
    · rw [if_neg (by omega)]
      simp [h1]
  rw [e1]
  exact q'
theorem b_second (T : TxtS K mg CC CE dV f0 f1 f2 f3 f4) : Body0 P w K mg base N_first_without_bit "first_without_bit" s_first_without_bit 0 (spChoose CE 4) := by
  intro f cdv A outer s H vs Q E hr ⟨l, bs, es, ev, hl, hp, hne, q⟩
  subst ev
  have nd := sc_first_without_bit.nd
  obtain ⟨b0, hb0⟩ := first_get hp hne
  have vx : victimIx 4 es = (es.findIdx? fun e => !e.referenced).getD 0 := rfl
  refine ⟨_, (pss_cons (ps_for PassesOwn.never rfl (pi_list (pv 0)) (pg_name (i := 1) nd rfl (Or.inl rfl))
    (pss_one (ps_if (pt_cmpR op_eq (pe_fld (pv 1) rfl) pe_int (nomark _))
      (pss_one (ps_ret (pv 1)))
      pss_nil)))
    (pss_one (ps_ret (pe_ix ix_list (pv 0) pe_int (fun _ _ => rfl))))), ?_⟩
  refine ⟨_, rfl, l, rfl, ⟨_, .inl (.inl hl)⟩, for_list (K := K) (a := l) (xs := bs.map V.ref)
    (fun i σ H' => (∃ v, σ = [some (.ref l), v]) ∧ H' = H ∧ ∀ (m : Nat) (e : Ent), m < i → es[m]? = some e → e.referenced = true) ⟨⟨none, rfl⟩, rfl, fun m _ hm => absurd hm (Nat.not_lt_zero _)⟩ ?_ ?_ ?_⟩
  · rintro i σ H' _ ⟨_, rfl, _⟩
    exact .inl (.inl hl)
  · rintro i x σ H' hx ⟨⟨v, rfl⟩, rfl, no⟩
    obtain ⟨b, hb, rfl⟩ := map_ref_get hx
    obtain ⟨e, he, d, hbe⟩ := pair_get' hp hb
    refine ⟨_, rfl, b, CE, d, _, _, rfl, hbe, T.clE, T.nBit, eF_bit e, rfl, _, rfl, ?_⟩
    cases hr : e.referenced with
    | false =>
      refine iteT ⟨_, rfl, q b H' ?_ (Same.refl _)⟩
      have fi : es.findIdx? (fun e => !e.referenced) = some i := by
        rw [List.findIdx?_eq_some_iff_getElem]
        have hi := (List.getElem?_eq_some_iff.mp he).1
        refine ⟨hi, ?_, fun m hm => ?_⟩
        · rw [(List.getElem?_eq_some_iff.mp he).2, hr]
          rfl
        · rw [no m es[m] hm (List.getElem?_eq_getElem (by omega))]
          decide
      rw [vx, fi]
      exact hb
    | true =>
      refine iteF ⟨⟨_, rfl⟩, rfl, fun m e' hm he' => ?_⟩
      by_cases hmi : m = i
      · subst hmi
        rw [he] at he'
        cases he'
        exact hr
      · exact no m e' (by omega) he'
  · rintro σ H' ⟨⟨v, rfl⟩, rfl, no⟩
    refine ⟨_, rfl, l, _, 0, _, rfl, rfl, .inl (.inl hl), atI_zero hb0, q b0 H' ?_ (Same.refl _)⟩
    have fi : es.findIdx? (fun e => !e.referenced) = none := by
      rw [List.findIdx?_eq_none_iff]
      intro e he
      obtain ⟨m, hm⟩ := List.getElem?_of_mem he
      rw [no m e (by rw [List.length_map, pair_len hp]; exact (List.getElem?_eq_some_iff.mp hm).1) hm]
      rfl
    rw [vx, fi]
    exact hb0

/-! ### next_victim -/
def spNext (CC CE : Addr) : Sp := fun vs H Q _ => ∃ (a l : Addr) (bs : List Addr) (c : Cache), vs = [.ref a] ∧ CaAt CC CE H a l bs c ∧ c.policy ≤ 4 ∧
  (c.capacity = 0 ∨ c.entries.length < c.capacity → Q .non H) ∧
  (¬ (c.capacity = 0 ∨ c.entries.length < c.capacity) → ∀ (b : Addr) (H' : Hp), bs[victimIx c.policy c.entries]? = some b → Same H H' → Q (.ref b) H')
/-- the table of the choices -/
def TblV (CE f0 f1 f2 f3 f4 : Addr) (f : Addr) (sp : Sp) : Prop := (f = f0 ∧ sp = spChoose CE 0) ∨ (f = f1 ∧ sp = spChoose CE 1) ∨ (f = f2 ∧ sp = spChoose CE 2) ∨ (f = f3 ∧ sp = spChoose CE 3) ∨ (f = f4 ∧ sp = spChoose CE 4)
theorem b_next_victim (T : TxtS K mg CC CE dV f0 f1 f2 f3 f4) (tb : ∀ f sp, TblV CE f0 f1 f2 f3 f4 f sp → Held0 P w K mg base 3 f sp) : Body0 P w K mg base N_Cache_next_victim "Cache.next_victim" s_Cache_next_victim 3 (spNext CC CE) := by
  intro f cdv A outer s H vs Q E hr ⟨a, l, bs, c, ev, h, hpol, qN, qS⟩
  subst ev
  have nd := sc_Cache_next_victim.nd
  obtain ⟨dx, ho⟩ := h.ob
  refine ⟨_, (pss_cons (ps_if (PW.pt (pw_or (pt_cmpR op_eq (pe_fld (pv 0) rfl) pe_int (nomark _)) (pw_or1 (pt_cmpR op_lt (pe_callB call_len_seq (by rfl) T.n_len PySem.boot_len (pa_cons (pe_fld (pv 0) rfl) pa_nil)) (pe_fld (pv 0) rfl) (nomark _)))))
      (pss_one (ps_ret pe_non))
      pss_nil)
    (pss_cons (ps_set (i := 1) nd rfl (Or.inl rfl) (pe_ix ix_idict (pe_glob (v := .ref dV) rfl T.g_VICTIM_CHOICES rfl) (pe_fld (pv 0) rfl) (fun _ _ => rfl)))
    (pss_one (ps_ret (pe_callH (i := 1) tb hr rfl (.inl rfl) (pa_cons (pe_fld (pv 0) rfl) pa_nil)))))), ?_⟩
  refine ⟨_, rfl, a, CC, dx, _, _, rfl, ho, T.clC, T.nCap, cF_cap c l, rfl, _, rfl, ?_⟩
  have z0 : decide (V.int (c.capacity : Int) = V.int 0) = decide (c.capacity = 0) := cast_eq (n := 0)
  rw [z0]
  have rest : ¬ (c.capacity = 0 ∨ c.entries.length < c.capacity) → ∀ {D : Ends}, D.rt = Q → tSeq (tAsg (tOp (rIxI K) (tC (.ref dV)) (tFld K (tVar 0) "policy")) (gName 1)) (tRet (tCallH 1 (TblV CE f0 f1 f2 f3 f4) (tCons (tFld K (tVar 0) "entries") tNil))) D [some (.ref a), none] H := by
    intro hn D hD
    have hne : c.entries ≠ [] := fun z => by
      rw [z] at hn
      simp at hn
    have go : ∀ (k : Nat) (g : Addr), c.policy = k → [(0, f0), (1, f1), (2, f2), (3, f3), ((4 : Int), f4)].lookup (k : Int) = some g → TblV CE f0 f1 f2 f3 f4 g (spChoose CE k) →
        tSeq (tAsg (tOp (rIxI K) (tC (.ref dV)) (tFld K (tVar 0) "policy")) (gName 1)) (tRet (tCallH 1 (TblV CE f0 f1 f2 f3 f4) (tCons (tFld K (tVar 0) "entries") tNil))) D [some (.ref a), none] H := by
      intro k g hk hg ht
      refine ⟨_, rfl, a, CC, dx, _, _, rfl, ho, T.clC, T.nPol, cF_pol c l, dV, (c.policy : Int), _, g, rfl, rfl, T.vict, (by rw [hk]; exact hg), ?_⟩
      refine ⟨g, _, rfl, ht, _, rfl, a, CC, dx, _, _, rfl, ho, T.clC, T.nEnt, cF_ent c l, l, bs, c.entries, rfl, h.ls, h.en, hne, fun b H' hb s => ?_⟩
      rw [hD]
      rw [← hk] at hb
      exact qS hn b H' hb s
    have cases5 : c.policy = 0 ∨ c.policy = 1 ∨ c.policy = 2 ∨ c.policy = 3 ∨ c.policy = 4 := by omega
    rcases cases5 with k | k | k | k | k
    · exact go 0 f0 k rfl (.inl ⟨rfl, rfl⟩)
    · exact go 1 f1 k rfl (.inr (.inl ⟨rfl, rfl⟩))
    · exact go 2 f2 k rfl (.inr (.inr (.inl ⟨rfl, rfl⟩)))
    · exact go 3 f3 k rfl (.inr (.inr (.inr (.inl ⟨rfl, rfl⟩))))
    · exact go 4 f4 k rfl (.inr (.inr (.inr (.inr ⟨rfl, rfl⟩))))
  by_cases h0 : c.capacity = 0
  · rw [decide_eq_true h0]
    exact iteT (iteT (qN (.inl h0)))
  · rw [decide_eq_false h0]
    refine iteF ⟨_, rfl, a, CC, dx, _, _, rfl, ho, T.clC, T.nEnt, cF_ent c l, l, _, rfl, .inl (.inl (.inl h.ls)), _, rfl, a, CC, dx, _, _, rfl, ho, T.clC, T.nCap, cF_cap c l, _, _, rfl, rfl, _, rfl, ?_⟩
    have z1 : decide ((((bs.map V.ref).length : Nat) : Int) < (c.capacity : Int)) = decide (c.entries.length < c.capacity) := by
      rw [List.length_map, h.len]
      simp only [Int.ofNat_lt]
    rw [z1]
    by_cases h1 : c.entries.length < c.capacity
    · rw [decide_eq_true h1]
      exact iteT (qN (.inr h1))
    · rw [decide_eq_false h1]
      exact iteF (rest (fun z => z.elim h0 h1) rfl)
end
end Lab

/-! The simulated cache, def by def: 3. what changes. -/
namespace Lab
open PySem PySem.Spec PyProof.Rows L2
open Vakptc (Cache contains cachedKeys emptyCache firstIndexBy rotateReferenced)

theorem pair_perm_take {F : Addr → Ent → Prop} {b : Addr} {bs : List Addr} {e : Ent} {es : List Ent} (h : Paired F (b :: bs) (e :: es)) : F b e ∧ Paired F bs es := by
  cases h with
  | cons f r => exact ⟨f, r⟩
theorem seq0 {n : Nat} (h : 0 < n) : seqIndex? 0 n = some 0 := by
  unfold seqIndex?
  simp
  omega
theorem pair_snoc {F : Addr → Ent → Prop} {b : Addr} {bs : List Addr} {e : Ent} {es : List Ent} (h : Paired F bs es) (f : F b e) : Paired F (bs ++ [b]) (es ++ [e]) := Paired.snoc h f
section
variable {P : Program} {w : World} {K : PySem.W.Frag} {mg : Str → Option Value} {base : Heap} {CC CE dV f0 f1 f2 f3 f4 : Addr}
abbrev withE (c : Cache) (es : List Ent) : Cache := { c with entries := es }

/-! ### give_second_chances -/
def spGive (CC CE : Addr) : Sp := fun vs H Q _ => ∃ (a l : Addr) (bs : List Addr) (c : Cache), vs = [.ref a] ∧ CaAt CC CE H a l bs c ∧ c.entries ≠ [] ∧ c.entries.length ≤ 1000 ∧
  ∀ (H' : Hp) (bs' : List Addr), CaAt CC CE H' a l bs' (withE c (rotateReferenced c.entries.length c.entries)) → bs'.Perm bs → Out (l :: bs) H H' → (∀ b ∈ bs, ∀ e, EntAt CE H b e → ∃ e', EntAt CE H' b e' ∧ e'.key = e.key) → Q .non H'
theorem b_give (T : TxtS K mg CC CE dV f0 f1 f2 f3 f4) : Body0 P w K mg base N_Cache_give_second_chances "Cache.give_second_chances" s_Cache_give_second_chances 0 (spGive CC CE) := by
  intro f cdv A outer s H vs Q E hr ⟨a, l, bs, c, ev, h, hne, hlen, q⟩
  subst ev
  have nd := sc_Cache_give_second_chances.nd
  refine ⟨_, (pss_one (ps_while PassesOwn.never (pt_cmpR op_eq (pe_fld (pe_ix ix_list (pe_fld (pv 0) rfl) pe_int (fun _ _ => rfl)) rfl) pe_int (nomark _))
    (pss_cons (ps_set (i := 1) nd rfl (Or.inl rfl) (pe_bm PySem.F.plainAttrs_list PySem.F.slot_list_pop PySem.F.type_list_pop mt_popAt (pe_fld (pv 0) rfl) (pa_cons pe_int pa_nil)))
    (pss_cons (ps_fld (pv 1) pe_int rfl)
    (pss_one (ps_expr (pe_bm PySem.F.plainAttrs_list PySem.F.slot_list_append PySem.F.type_list_append mt_append (pe_fld (pv 0) rfl) (pa_cons (pv 1) pa_nil)))))))), ?_⟩
  refine ⟨fun m σ H' => (∃ v, σ = [some (.ref a), v]) ∧ ∃ (bs' : List Addr) (es' : List Ent), CaAt CC CE H' a l bs' (withE c es') ∧ bs'.Perm bs ∧ Out (l :: bs) H H' ∧ es' ≠ [] ∧ es'.length = c.entries.length ∧
    (∀ b ∈ bs, ∀ e, EntAt CE H b e → ∃ e', EntAt CE H' b e' ∧ e'.key = e.key) ∧ m = refs es' ∧ ∃ fuel, rotateReferenced c.entries.length c.entries = rotateReferenced fuel es' ∧ refs es' ≤ fuel,
    ⟨refs c.entries, ⟨none, rfl⟩, bs, c.entries, h, List.Perm.refl _, Out.of_same (Same.refl H), hne, rfl, fun _ _ e he => ⟨e, he, rfl⟩, rfl, c.entries.length, rfl, refs_le _⟩, ?_⟩
  rintro m σ H' ⟨⟨v, rfl⟩, bs', es', h', pm, ou, hne', hl', hk', rfl, fuel, hrot, hfuel⟩
  obtain ⟨dx, ho⟩ := h'.ob
  cases es' with
  | nil => exact absurd rfl hne'
  | cons e r =>
    obtain ⟨b, hb, hbe⟩ := pair_get h'.en (i := 0) (y := e) rfl
    cases bs' with
    | nil => cases hb
    | cons b0 rb =>
      have : b0 = b := Option.some.inj hb
      subst this
      obtain ⟨de, hde⟩ := hbe
      have hls : H' l = some (.lst (V.ref b0 :: rb.map V.ref)) := h'.ls
      have hnd : (b0 :: rb).Nodup := h'.nd
      rw [List.nodup_cons] at hnd
      have hen := pair_perm_take h'.en
      refine ⟨_, rfl, a, CC, dx, _, _, rfl, ho, T.clC, T.nEnt, cF_ent _ l, l, _, 0, _, rfl, rfl, .inl (.inl hls), at_of (j := 0) rfl rfl, b0, CE, de, _, _, rfl, hde, T.clE, T.nBit, eF_bit e, rfl, _, rfl, ?_⟩
      cases hb : e.referenced with
      | false =>
        refine iteF ?_
        refine q H' (b0 :: rb) ?_ pm ou hk'
        rw [hrot, rot_stop hb]
        exact h'
      | true =>
        refine iteT ?_
        refine ⟨fun σ' H'' => ∃ m', m' < refs (e :: r) ∧ ((∃ v, σ' = [some (.ref a), v]) ∧ ∃ (bs' : List Addr) (es' : List Ent), CaAt CC CE H'' a l bs' (withE c es') ∧ bs'.Perm bs ∧ Out (l :: bs) H H'' ∧ es' ≠ [] ∧ es'.length = c.entries.length ∧
          (∀ b ∈ bs, ∀ e, EntAt CE H b e → ∃ e', EntAt CE H'' b e' ∧ e'.key = e.key) ∧ m' = refs es' ∧ ∃ fuel, rotateReferenced c.entries.length c.entries = rotateReferenced fuel es' ∧ refs es' ≤ fuel), fun σ' H'' z => z, ?_⟩
        have bl : b0 ≠ l := fun z => h'.lb (by rw [← z]; exact List.mem_cons_self)
        have ba : b0 ≠ a := fun z => h'.ab (by rw [← z]; exact List.mem_cons_self)
        have al := h'.al
        refine ⟨_, rfl, a, CC, dx, _, _, rfl, ho, T.clC, T.nEnt, cF_ent _ l, .inl ⟨rfl, _, .inl (.inl hls)⟩, l, _, 0, 0, _, rfl, rfl, hls, by decide, by decide, seq0 (Nat.succ_pos _), rfl, ?_⟩
        have e1 : (V.ref b0 :: rb.map V.ref).eraseIdx 0 = rb.map V.ref := rfl
        rw [e1]
        refine ⟨_, rfl, b0, CE, de, _, rfl, (by rw [upd_ne bl]; exact hde), T.clE, T.nBit, eF_len e, ?_⟩
        have hl2 : upd (upd H' l (.lst (rb.map V.ref))) b0 (.ins CE de (putF "reference_bit" (.int 0) (eF e))) l = some (.lst (rb.map V.ref)) := by
          rw [upd_ne (Ne.symm bl)]
          exact upd_same
        refine ⟨_, rfl, a, CC, dx, _, _, rfl, (by rw [upd_ne (Ne.symm ba), upd_ne al]; exact ho), T.clC, T.nEnt, cF_ent _ l, .inl ⟨rfl, _, .inl (.inl hl2)⟩, _, rfl, l, _, _, rfl, rfl, hl2, ?_, ?_⟩
        · have z1 := pair_len hen.2
          have z2 : (e :: r).length = c.entries.length := hl'
          rw [List.length_map]
          rw [List.length_cons] at z2
          exact small1000 (by omega)
        · have rg := refs_go (r := r) hb
          refine ⟨refs (r ++ [clr e]), by omega, ⟨_, rfl⟩, rb ++ [b0], r ++ [clr e], ⟨⟨dx, ?_⟩, ?_, ?_, ?_⟩, ?_, ?_, by simp, by simpa using hl', ?_, rfl, ?_⟩
          · rw [upd_ne al, upd_ne (Ne.symm ba), upd_ne al]
            exact ho
          · rw [upd_same, List.map_append]
            rfl
          · refine pair_snoc (pair_imp hen.2 fun x hx y ⟨d, hy⟩ => ⟨d, ?_⟩) ⟨de, ?_⟩
            · have xl : x ≠ l := fun z => h'.lb (by rw [← z]; exact List.mem_cons_of_mem _ hx)
              have xb : x ≠ b0 := fun z => hnd.1 (by rw [← z]; exact hx)
              rw [upd_ne xl, upd_ne xb, upd_ne xl]
              exact hy
            · rw [upd_ne bl, upd_same]
              exact congrArg (fun z => some (HO.ins CE de z)) (eF_putBit e false)
          · rw [List.nodup_append]
            refine ⟨hnd.2, by simp, fun x hx y hy => ?_⟩
            have : y = b0 := by simpa using hy
            rw [this]
            exact fun z => hnd.1 (by rw [← z]; exact hx)
          · have p1 : (rb ++ [b0]).Perm (b0 :: rb) := List.perm_append_comm
            exact p1.trans pm
          · refine ⟨fun x o hx nx => ?_, fun x n => ou.2 x (upd_live (upd_live (upd_live n)))⟩
            have xl : x ≠ l := fun z => nx (by rw [z]; exact List.mem_cons_self)
            have xb : x ≠ b0 := fun z => nx (by
              rw [z]
              exact List.mem_cons_of_mem _ (pm.mem_iff.mp List.mem_cons_self))
            rw [upd_ne xl, upd_ne xb, upd_ne xl]
            exact ou.1 x o hx nx
          · intro x hx y hy
            obtain ⟨y', ⟨d, hy'⟩, hkk⟩ := hk' x hx y hy
            by_cases xb : x = b0
            · subst xb
              rw [hde] at hy'
              have ey : eF e = eF y' := by injection hy' with hy'; injection hy'
              have ek : (e.key : Int) = (y'.key : Int) := by
                injection ey with z1 z2
                injection z1 with z3 z4
                injection z4
              refine ⟨clr e, ⟨de, ?_⟩, ?_⟩
              · rw [upd_ne bl, upd_same]
                exact congrArg (fun z => some (HO.ins CE de z)) (eF_putBit e false)
              · rw [← hkk]
                exact Int.ofNat.inj ek
            · have xl : x ≠ l := fun z => by
                rw [z, hls] at hy'
                cases hy'
              exact ⟨y', ⟨d, by rw [upd_ne xl, upd_ne xb, upd_ne xl]; exact hy'⟩, hkk⟩
          · cases fuel with
            | zero => omega
            | succ fuel => exact ⟨fuel, hrot.trans (rot_go hb), by omega⟩

/-! ### remove_key -/
/-- the addresses of the entries of another key -/
def keepB (k : Nat) (bs : List Addr) (es : List Ent) : List Addr := ((bs.zip es).filter fun x => x.2.key != k).map (·.1)
theorem keepB_pair {F : Addr → Ent → Prop} {k : Nat} : ∀ {bs : List Addr} {es : List Ent}, Paired F bs es → Paired F (keepB k bs es) (es.filter fun e => e.key != k)
  | _, _, .nil => .nil
  | b :: bs, e :: es, .cons f r => by
    unfold keepB
    rw [List.zip_cons_cons, List.filter_cons, List.filter_cons]
    by_cases h : (e.key != k) = true
    · rw [if_pos h, if_pos h]
      exact .cons f (keepB_pair r)
    · rw [if_neg h, if_neg h]
      exact keepB_pair r
theorem keepB_sub {k : Nat} : ∀ {bs : List Addr} {es : List Ent}, (keepB k bs es).Sublist bs
  | [], _ => List.Sublist.refl _
  | b :: bs, [] => List.nil_sublist _
  | b :: bs, e :: es => by
    unfold keepB
    rw [List.zip_cons_cons, List.filter_cons]
    by_cases h : (e.key != k) = true
    · rw [if_pos h]
      exact (keepB_sub (bs := bs) (es := es)).cons_cons b
    · rw [if_neg h]
      exact (keepB_sub (bs := bs) (es := es)).cons b
theorem keepB_take {k i : Nat} {bs : List Addr} {es : List Ent} {b : Addr} {e : Ent} (hb : bs[i]? = some b) (he : es[i]? = some e) :
    keepB k (bs.take (i + 1)) (es.take (i + 1)) = keepB k (bs.take i) (es.take i) ++ (if e.key != k then [b] else []) := by
  have hlen : (bs.take i).length = (es.take i).length := by
    rw [List.length_take, List.length_take]
    have := (List.getElem?_eq_some_iff.mp hb).1
    have := (List.getElem?_eq_some_iff.mp he).1
    omega
  unfold keepB
  rw [take_snoc hb, take_snoc he, List.zip_append hlen, List.filter_append, List.map_append]
  congr 1
  by_cases h : (e.key != k) = true
  · rw [if_pos h]
    simp [h]
  · rw [if_neg h]
    simp [h]
def spRemove (CC CE : Addr) : Sp := fun vs H Q _ => ∃ (a l : Addr) (bs : List Addr) (c : Cache) (k : Nat), vs = [.ref a, .int k] ∧ CaAt CC CE H a l bs c ∧ c.entries.length ≤ 1000 ∧
  ∀ (H' : Hp) (l' : Addr), CaAt CC CE H' a l' (keepB k bs c.entries) (withE c (c.entries.filter fun e => e.key != k)) → H l' = none → Out [a] H H' →
    Q (.int ((c.entries.length : Int) - ((c.entries.filter fun e => e.key != k).length : Int))) H'
theorem b_remove (T : TxtS K mg CC CE dV f0 f1 f2 f3 f4) : Body0 P w K mg base N_Cache_remove_key "Cache.remove_key" s_Cache_remove_key 0 (spRemove CC CE) := by
  intro f cdv A outer s H vs Q E hr ⟨a, l, bs, c, k, ev, h, hlen, q⟩
  subst ev
  have nd := sc_Cache_remove_key.nd
  obtain ⟨dx, ho⟩ := h.ob
  refine ⟨_, (pss_cons (ps_setLc (i := 2) (own := [("entry", 3)]) (g := gName 3) (tt := tTest (tOp rNe (tFld K (tVar 3) "key") (tVar 1))) (te := tVar 3) rfl nd rfl rfl (sw_true rfl rfl rfl (by decide +kernel)) (pi_list (pe_fld (pv 0) rfl)) (blkOk_by (own := [("entry", 3)]) (N := N_Cache_remove_key) (sc := defScope s_Cache_remove_key) (by decide +kernel)) (fun _ _ _ _ _ => by exact pg_name (i := 3) nd rfl (Or.inl rfl)) (fun _ _ _ _ _ => by exact pts_one (pt_cmpR op_ne (pe_fld (pv 3) rfl) (pv 1) (nomark _))) (fun _ _ _ _ _ => by exact pv 3))
    (pss_cons (ps_set (i := 4) nd rfl (Or.inl rfl) (pe_op op_sub (pe_callB call_len_seq (by rfl) T.n_len PySem.boot_len (pa_cons (pe_fld (pv 0) rfl) pa_nil)) (pe_callB call_len_seq (by rfl) T.n_len PySem.boot_len (pa_cons (pv 2) pa_nil))))
    (pss_cons (ps_fld (pv 0) (pv 2) rfl)
    (pss_one (ps_ret (pv 4)))))), ?_⟩
  refine ⟨_, rfl, a, CC, dx, _, _, rfl, ho, T.clC, T.nEnt, cF_ent c l, l, rfl, ⟨_, .inl (.inl h.ls)⟩, fun D hD => lc_list (K := K) (a := l) (xs := bs.map V.ref)
    (fun i H' => H' = upd H D (.lst ((keepB k (bs.take i) (c.entries.take i)).map V.ref))) rfl ?_ ?_ ?_⟩
  · rintro i H' _ rfl
    refine .inl (.inl ?_)
    rw [upd_ne (ne_of_none h.ls hD)]
    exact h.ls
  · rintro i x H' hx rfl
    obtain ⟨b, hb, rfl⟩ := map_ref_get hx
    obtain ⟨e, he, d, hbe⟩ := pair_get' h.en hb
    refine ⟨rfl, _, rfl, b, CE, d, _, _, rfl, (by rw [upd_ne (ne_of_none hbe hD)]; exact hbe), T.clE, T.nKey, eF_key e, _, rfl, rfl, _, rfl, ?_⟩
    rw [cast_eq]
    have kt := keepB_take (k := k) hb he
    by_cases hk : e.key = k
    · rw [decide_eq_true hk]
      have z : (e.key != k) = false := by simpa using hk
      rw [if_neg (by rw [z]; decide), List.append_nil] at kt
      dsimp only
      rw [if_neg (by decide), kt]
    · rw [decide_eq_false hk]
      have z : (e.key != k) = true := by simpa using hk
      rw [if_pos z] at kt
      dsimp only
      rw [if_pos (by decide)]
      refine ⟨_, rfl, _, upd_same, ?_, ?_⟩
      · rw [List.length_map]
        have s1 := (keepB_sub (k := k) (bs := bs.take i) (es := c.entries.take i)).length_le
        have s2 : (bs.take i).length ≤ bs.length := List.length_take_le' ..
        have s3 := h.len
        exact small1000 (by omega)
      · rw [upd_upd, kt, List.map_append]
        rfl
  · rintro H' rfl
    rw [List.length_map, List.take_length, h.len, List.take_length]
    have hal : a ≠ D := ne_of_none ho hD
    have hll : l ≠ D := ne_of_none h.ls hD
    have hp := keepB_pair (k := k) h.en
    refine ⟨_, rfl, a, CC, dx, _, _, rfl, (by rw [upd_ne hal]; exact ho), T.clC, T.nEnt, cF_ent c l, l, _, rfl, .inl (.inl (.inl (by rw [upd_ne hll]; exact h.ls))), _, rfl, D, _, rfl, .inl (.inl (.inl upd_same)), _, _, rfl, rfl, ?_⟩
    refine ⟨_, rfl, _, rfl, a, CC, dx, _, rfl, (by rw [upd_ne hal]; exact ho), T.clC, T.nEnt, cF_len c l, _, rfl, ?_⟩
    rw [List.length_map, List.length_map, h.len, pair_len hp]
    refine q _ D ⟨⟨dx, ?_⟩, ?_, ?_, ?_⟩ hD ?_
    · rw [upd_same, cF_putEnt]
      rfl
    · rw [upd_ne (Ne.symm hal)]
      exact upd_same
    · refine pair_imp hp fun x hx y ⟨d, hy⟩ => ⟨d, ?_⟩
      have hxb := keepB_sub.subset hx
      rw [upd_ne (fun z => h.ab (by rw [← z]; exact hxb)), upd_ne (ne_of_none hy hD)]
      exact hy
    · exact h.nd.sublist keepB_sub
    · refine ⟨fun b u e n => ?_, fun b n => upd_live (upd_live n)⟩
      rw [upd_ne (fun z => n (by rw [z]; exact List.mem_cons_self)), upd_ne (ne_of_none e hD)]
      exact e
end
end Lab

/-! The simulated cache, def by def: 4. an access; a whole sequence. -/
namespace Lab
open PySem PySem.Spec PyProof.Rows L2
open Vakptc (Cache contains cachedKeys emptyCache firstIndexBy rotateReferenced access accessAll)
section
variable {P : Program} {w : World} {K : PySem.W.Frag} {mg : Str → Option Value} {base : Heap} {CC CE dV f0 f1 f2 f3 f4 : Addr}
theorem m_none (c : Cache) (l : Addr) {m : Str} (h0 : (m == ("capacity" : Str)) = false := by decide +kernel) (h1 : (m == ("policy" : Str)) = false := by decide +kernel) (h2 : (m == ("entries" : Str)) = false := by decide +kernel) (h3 : (m == ("hits" : Str)) = false := by decide +kernel) (h4 : (m == ("misses" : Str)) = false := by decide +kernel) :
    (cF c l).lookup m = none := cF_none c l m h0 h1 h2 h3 h4
/-- the footprint has grown by new objects alone -/
def Grown (F F' : List Addr) (H : Hp) : Prop := ∀ b ∈ F', b ∈ F ∨ H b = none

/-! ### make_room -/
def spRoom (CC CE : Addr) : Sp := fun vs H Q _ => ∃ (a l : Addr) (bs : List Addr) (c : Cache), vs = [.ref a] ∧ CaAt CC CE H a l bs c ∧ WF c ∧ c.capacity ≤ 1000 ∧
  (c.capacity = 0 ∨ c.entries.length < c.capacity → ∀ p, H p = none → Q (.ref p) (upd H p (.lst []))) ∧
  (¬ (c.capacity = 0 ∨ c.entries.length < c.capacity) → ∀ (g : Ent) (H' : Hp) (l' : Addr) (bs' : List Addr) (p : Addr), c.entries[victimIx c.policy c.entries]? = some g →
    CaAt CC CE H' a l' bs' (withE c ((ordered c.policy c.entries).filter fun e => e.key != g.key)) → Grown (foot a l bs) (foot a l' bs') H → Out (foot a l bs) H H' → H p = none → p ∉ foot a l' bs' → H' p = some (.lst [.int g.key]) → Q (.ref p) H')
theorem b_make_room (T : TxtS K mg CC CE dV f0 f1 f2 f3 f4) (m_next_victim : C8.Met P w K mg base 4 CC "next_victim" (spNext CC CE) []) (m_give : C8.Met P w K mg base 1 CC "give_second_chances" (spGive CC CE) []) (m_remove : C8.Met P w K mg base 1 CC "remove_key" (spRemove CC CE) []) :
    Body0 P w K mg base N_Cache_make_room "Cache.make_room" s_Cache_make_room 4 (spRoom CC CE) := by
  intro f cdv A outer s H vs Q E hr ⟨a, l, bs, c, ev, h, wf, hcap, qN, qS⟩
  subst ev
  have nd := sc_Cache_make_room.nd
  obtain ⟨dx, ho⟩ := h.ob
  have hlen : c.entries.length ≤ 1000 := Nat.le_trans wf.le hcap
  refine ⟨_, (pss_cons (ps_set (i := 1) nd rfl (Or.inl rfl) (C8.pe_mt0 m_next_victim hr (by decide) (pv 0)))
    (pss_cons (ps_if (pt_cmpR op_isN (pv 1) pe_non (nomark _))
      (pss_one (ps_ret (pe_lst pa_nil)))
      pss_nil)
    (pss_cons (ps_if (pt_cmpR op_eq (pe_fld (pv 0) rfl) (C8.pe_gc rfl T.g_SECOND_CHANCE) (nomark _))
      (pss_one (ps_expr (C8.pe_mt0 m_give hr (by decide) (pv 0))))
      pss_nil)
    (pss_cons (ps_expr (C8.pe_mt m_remove hr (by decide) (pv 0) (pa_cons (pe_fld (pv 1) rfl) pa_nil)))
    (pss_one (ps_ret (pe_lst (pa_cons (pe_fld (pv 1) rfl) pa_nil)))))))), ?_⟩
  refine ⟨_, rfl, a, dx, _, rfl, ho, m_none c l, a, l, bs, c, rfl, h, wf.po, fun hn => ?_, fun hf b H1 hb s1 => ?_⟩
  · exact ⟨_, rfl, rfl, _, rfl, iteT ⟨Nat.zero_le _, fun p hp => qN hn p hp⟩⟩
  · refine ⟨_, rfl, rfl, _, rfl, iteF ?_⟩
    have hne : c.entries ≠ [] := fun z => by
      rw [z] at hf
      simp at hf
    obtain ⟨g, hg, dg, hbg⟩ := pair_get' h.en hb
    have h1 : CaAt CC CE H1 a l bs c := h.same s1
    -- behind the second chances: the list in its order
    have tail : ∀ (H2 : Hp) (bs2 : List Addr), CaAt CC CE H2 a l bs2 (withE c (ordered c.policy c.entries)) → bs2.Perm bs → Out (l :: bs) H1 H2 → (∀ b ∈ bs, ∀ e, EntAt CE H1 b e → ∃ e', EntAt CE H2 b e' ∧ e'.key = e.key) →
        ∀ {D : Ends}, D.rt = Q → tSeq (tDrop (tMeth CC "remove_key" (spRemove CC CE) [] C8.E0 (tVar 0) (tCons (tFld K (tVar 1) "key") tNil))) (tRet (tLst (tCons (tFld K (tVar 1) "key") tNil))) D [some (.ref a), some (.ref b)] H2 := by
      intro H2 bs2 h2 pm o2 keys D hD
      obtain ⟨dx2, ho2⟩ := h2.ob
      have hbm : b ∈ bs := List.mem_of_getElem? hb
      obtain ⟨g2, ⟨d2, hb2⟩, hk2⟩ := keys b hbm g ⟨dg, s1 _ _ hbg⟩
      have ol := ordered_len (p := c.policy) hne
      have e2 := congrArg (fun n : Nat => V.int (n : Int)) hk2
      refine ⟨_, rfl, a, dx2, _, rfl, ho2, m_none _ l, _, rfl, b, CE, d2, _, _, rfl, hb2, T.clE, T.nKey, eF_key g2, a, l, bs2, withE c (ordered c.policy c.entries), g2.key, rfl, h2, by show (ordered c.policy c.entries).length ≤ 1000; omega, fun H3 l3 h3 hl3 o3 => ?_⟩
      have hba : b ≠ a := fun z => h.ab (by rw [← z]; exact hbm)
      have hb3 : H3 b = some (.ins CE d2 (eF g2)) := o3.1 b _ hb2 (fun z => hba (List.mem_singleton.mp z))
      refine ⟨_, rfl, b, CE, d2, _, _, rfl, hb3, T.clE, T.nKey, eF_key g2, (by show 1 ≤ sizeLine; decide), fun p hp => ?_⟩
      rw [hD]
      rw [hk2] at h3 ⊢
      have sub3 : ∀ x ∈ keepB g2.key bs2 (ordered c.policy c.entries), x ∈ bs := fun x hx => pm.mem_iff.mp (keepB_sub.subset hx)
      have nH1 : ∀ x, H2 x = none → H1 x = none := o2.2
      have nH2 : ∀ x, H3 x = none → H2 x = none := o3.2
      have hpH : H p = none := s1.free (nH1 p (nH2 p hp))
      have hp3 : p ∉ foot a l3 (keepB g2.key bs2 (ordered c.policy c.entries)) := by
        rw [hk2]
        exact h3.not_new hp
      rw [hk2] at hp3
      refine qS hf g _ l3 _ p (by
        obtain ⟨y, hy, z⟩ := pair_get' h.en hb
        rw [hg] at hy
        exact hg) (h3.keep (fun x hx o e => by rw [upd_ne (fun z => hp3 (by rw [← z]; exact hx))]; exact e)) ?_ ?_ hpH hp3 upd_same
      · intro x hx
        rcases List.mem_cons.mp hx with rfl | hx
        · exact .inl List.mem_cons_self
        · rcases List.mem_cons.mp hx with rfl | hx
          · exact .inr (s1.free (nH1 _ hl3))
          · rw [← hk2] at hx
            exact .inl (List.mem_cons_of_mem _ (List.mem_cons_of_mem _ (sub3 x hx)))
      · refine ⟨fun x o e n => ?_, fun x n => s1.free (nH1 x (nH2 x (upd_live n)))⟩
        have nx : x ∉ l :: bs := fun z => n (List.mem_cons_of_mem _ z)
        have na : x ≠ a := fun z => n (by rw [z]; exact List.mem_cons_self)
        rw [upd_ne (ne_of_none e hpH)]
        exact o3.1 x o (o2.1 x o (s1 x o e) nx) (fun z => na (List.mem_singleton.mp z))
    obtain ⟨dx1, ho1⟩ := h1.ob
    refine ⟨_, rfl, a, CC, dx1, _, _, rfl, ho1, T.clC, T.nPol, cF_pol c l, rfl, _, rfl, ?_⟩
    have z4 : decide (V.int (c.policy : Int) = V.int 4) = decide (c.policy = 4) := cast_eq (n := 4)
    rw [z4]
    by_cases h4 : c.policy = 4
    · rw [decide_eq_true h4]
      refine iteT ⟨_, rfl, a, dx1, _, rfl, ho1, m_none c l, a, l, bs, c, rfl, h1, hne, hlen, fun H2 bs2 h2 pm o2 keys => ?_⟩
      refine tail H2 bs2 ?_ pm o2 keys rfl
      have e4 : ordered c.policy c.entries = rotateReferenced c.entries.length c.entries := if_pos h4
      rw [e4]
      exact h2
    · rw [decide_eq_false h4]
      refine iteF ?_
      have e4 : ordered c.policy c.entries = c.entries := if_neg h4
      refine tail H1 bs ?_ (List.Perm.refl _) (Out.of_same (Same.refl H1)) (fun _ _ e he => ⟨e, he, rfl⟩) rfl
      rw [e4]
      exact h1

/-! ### take_in -/
def newE (k n : Nat) : Ent := { key := k, lastUse := n, useCount := 1, referenced := false }
def optL : Option Nat → List V
  | some v => [.int (v : Int)]
  | none => []
/-- c: its misses are counted already -/
def spTake (CC CE : Addr) : Sp := fun vs H Q _ => ∃ (a l : Addr) (bs : List Addr) (c : Cache) (k : Nat), vs = [.ref a, .int k] ∧ CaAt CC CE H a l bs (withE { c with misses := c.misses + 1 } c.entries) ∧ WF c ∧ c.capacity ≤ 1000 ∧ contains c k = false ∧
  ∀ (H' : Hp) (l' : Addr) (bs' : List Addr) (p : Addr), CaAt CC CE H' a l' bs' (access c k).1 → Grown (foot a l bs) (foot a l' bs') H → Out (foot a l bs) H H' → H p = none → p ∉ foot a l' bs' → H' p = some (.lst (optL (access c k).2)) → Q (.ref p) H'
theorem b_take_in (T : TxtS K mg CC CE dV f0 f1 f2 f3 f4) (m_make_room : C8.Met P w K mg base 5 CC "make_room" (spRoom CC CE) []) (m_access_number : C8.Met P w K mg base 1 CC "access_number" (spAccNum CC CE) []) (c_Entry : C8.Mak P w K mg base 1 "Entry" CE (spEntInit CE) []) :
    Body0 P w K mg base N_Cache_take_in "Cache.take_in" s_Cache_take_in 5 (spTake CC CE) := by
  intro f cdv A outer s H vs Q E hr ⟨a, l, bs, c, k, ev, h, wf, hcap, hm, q⟩
  subst ev
  have nd := sc_Cache_take_in.nd
  obtain ⟨dx, ho⟩ := h.ob
  have wf' : WF { c with misses := c.misses + 1 } := ⟨wf.nd, wf.le, wf.po⟩
  refine ⟨_, (pss_cons (ps_if (pt_cmpR op_eq (pe_fld (pv 0) rfl) pe_int (nomark _))
      (pss_one (ps_ret (pe_lst pa_nil)))
      pss_nil)
    (pss_cons (ps_set (i := 2) nd rfl (Or.inl rfl) (C8.pe_mt0 m_make_room hr (by decide) (pv 0)))
    (pss_cons (ps_expr (pe_bm PySem.F.plainAttrs_list PySem.F.slot_list_append PySem.F.type_list_append mt_append (pe_fld (pv 0) rfl) (pa_cons (C8.pe_mk c_Entry hr (by decide) rfl (pa_cons (pv 1) (pa_cons (C8.pe_mt0 m_access_number hr (by decide) (pv 0)) pa_nil))) pa_nil)))
    (pss_one (ps_ret (pv 2)))))), ?_⟩
  refine ⟨_, rfl, a, CC, dx, _, _, rfl, ho, T.clC, T.nCap, cF_cap _ l, rfl, _, rfl, ?_⟩
  have z0 : decide (V.int (c.capacity : Int) = V.int 0) = decide (c.capacity = 0) := cast_eq (n := 0)
  have z0' : decide (V.int (((withE { c with misses := c.misses + 1 } c.entries).capacity : Nat) : Int) = V.int 0) = decide (c.capacity = 0) := z0
  rw [z0']
  by_cases h0 : c.capacity = 0
  · rw [decide_eq_true h0]
    refine iteT ⟨Nat.zero_le _, fun p hp => ?_⟩
    refine q _ l bs p ?_ (fun x hx => .inl hx) (Out.of_same (same_new hp)) hp (h.not_new hp) ?_
    · rw [access_zero wf hm h0]
      exact h.same (same_new hp)
    · rw [access_zero wf hm h0]
      exact upd_same
  · rw [decide_eq_false h0]
    refine iteF ?_
    -- behind make_room: the list with room
    have tail : ∀ (H1 : Hp) (l1 : Addr) (bs1 : List Addr) (es1 : List Ent) (p : Addr) (o : Option Nat), CaAt CC CE H1 a l1 bs1 (withE { c with misses := c.misses + 1 } es1) → es1.length < 1000 → Grown (foot a l bs) (foot a l1 bs1) H → Out (foot a l bs) H H1 → H p = none → p ∉ foot a l1 bs1 → H1 p = some (.lst (optL o)) →
        access c k = (withE { c with misses := c.misses + 1 } (es1 ++ [newE k (c.hits + c.misses + 1)]), o) →
        ∀ {D : Ends}, D.rt = Q → tSeq (tDrop (tBM K "list" rAppend (tFld K (tVar 0) "entries") (tCons (tMake CE (spEntInit CE) [] C8.E0 (tCons (tVar 1) (tCons (tMeth CC "access_number" (spAccNum CC CE) [] C8.E0 (tVar 0) tNil) tNil))) tNil))) (tRet (tVar 2)) D [some (.ref a), some (.int k), some (.ref p)] H1 := by
      intro H1 l1 bs1 es1 p o h1 hlen g1 o1 hp np hp1 ac D hD
      obtain ⟨dx1, ho1⟩ := h1.ob
      refine ⟨_, rfl, a, CC, dx1, _, _, rfl, ho1, T.clC, T.nEnt, cF_ent _ l1, .inl ⟨rfl, _, .inl (.inl h1.ls)⟩, _, rfl, _, rfl, a, dx1, _, rfl, ho1, m_none _ l1, a, l1, dx1, _, rfl, ho1, ?_⟩
      intro x dxx nx ndx ne
      refine ⟨x, dxx, k, c.hits + (c.misses + 1), rfl, upd_same, rfl, ?_⟩
      rw [upd_upd]
      have sm : Same H1 (upd (upd H1 dxx (.own x)) x (.ins CE dxx (eF { key := k, lastUse := c.hits + (c.misses + 1), useCount := 1, referenced := false }))) := fun b u e => by
        rw [upd_ne (ne_of_none e nx), upd_ne (ne_of_none e ndx)]
        exact e
      have h2 := h1.same sm
      refine ⟨l1, _, _, rfl, rfl, h2.ls, by rw [List.length_map, h2.len]; exact small1000 (Nat.le_of_lt hlen), _, rfl, ?_⟩
      rw [hD]
      have xl : x ≠ l1 := fun z => by rw [z, h1.ls] at nx; cases nx
      have xf : x ∉ foot a l1 bs1 := h1.not_new nx
      have al := h1.al
      have pl : p ≠ l1 := fun z => np (by rw [z]; exact List.mem_cons_of_mem _ List.mem_cons_self)
      have nH : ∀ b, H1 b = none → H b = none := o1.2
      refine q _ l1 (bs1 ++ [x]) p ?_ ?_ ?_ hp ?_ ?_
      · rw [ac]
        obtain ⟨dx2, ho2⟩ := h2.ob
        refine ⟨⟨dx2, ?_⟩, ?_, ?_, ?_⟩
        · rw [upd_ne al]
          exact ho2
        · rw [upd_same, List.map_append]
          rfl
        · refine pair_snoc (pair_imp h2.en fun b hb y ⟨d, hy⟩ => ⟨d, ?_⟩) ⟨dxx, ?_⟩
          · rw [upd_ne (fun z => h1.lb (by rw [← z]; exact hb))]
            exact hy
          · rw [upd_ne xl, upd_same]
            rfl
        · rw [List.nodup_append]
          refine ⟨h1.nd, by simp, fun b hb y hy => ?_⟩
          have : y = x := by simpa using hy
          rw [this]
          exact fun z => xf (List.mem_cons_of_mem _ (List.mem_cons_of_mem _ (by rw [← z]; exact hb)))
      · intro b hb
        rcases List.mem_cons.mp hb with rfl | hb
        · exact g1 _ List.mem_cons_self
        · rcases List.mem_cons.mp hb with rfl | hb
          · exact g1 _ (List.mem_cons_of_mem _ List.mem_cons_self)
          · rcases List.mem_append.mp hb with hb | hb
            · exact g1 _ (List.mem_cons_of_mem _ (List.mem_cons_of_mem _ hb))
            · have : b = x := by simpa using hb
              rw [this]
              exact .inr (nH x nx)
      · refine ⟨fun b u e n => ?_, fun b n => o1.2 b (sm.free (upd_live n))⟩
        have bl : b ≠ l1 := fun z => by
          rcases g1 l1 (List.mem_cons_of_mem _ List.mem_cons_self) with y | y
          · exact n (by rw [z]; exact y)
          · rw [z, y] at e
            cases e
        rw [upd_ne bl]
        exact sm b u (o1.1 b u e n)
      · intro hb
        rcases List.mem_cons.mp hb with e | hb
        · exact np (by rw [e]; exact List.mem_cons_self)
        · rcases List.mem_cons.mp hb with e | hb
          · exact pl e
          · rcases List.mem_append.mp hb with hb | hb
            · exact np (List.mem_cons_of_mem _ (List.mem_cons_of_mem _ hb))
            · have e : p = x := by simpa using hb
              rw [← e, hp1] at nx
              cases nx
      · rw [ac, upd_ne pl]
        exact sm p _ hp1
    refine ⟨_, rfl, a, dx, _, rfl, ho, m_none _ l, a, l, bs, withE { c with misses := c.misses + 1 } c.entries, rfl, h, wf', hcap, fun hn p hp => ?_, fun hf g H1 l1 bs1 p hg h1 g1 o1 hp np hp1 => ?_⟩
    · have hf : c.entries.length < c.capacity := hn.resolve_left h0
      exact tail _ l bs c.entries p none (h.same (same_new hp)) (by omega) (fun x hx => .inl hx) (Out.of_same (same_new hp)) hp (h.not_new hp) upd_same (access_room hm h0 hf) rfl
    · have hf' : ¬ c.entries.length < c.capacity := fun z => hf (.inr z)
      have hne : c.entries ≠ [] := fun z => by
        rw [z] at hf'
        simp at hf'
        omega
      refine tail H1 l1 bs1 _ p (some g.key) h1 ?_ g1 o1 hp np hp1 (access_full wf hm h0 hf' hg) rfl
      have w3 := (wf_access wf k).le
      rw [(access_cap c k).1, access_full wf hm h0 hf' hg] at w3
      have w4 : ((ordered c.policy c.entries).filter fun e => e.key != g.key).length + 1 ≤ c.capacity := by simpa using w3
      show ((ordered c.policy c.entries).filter fun e => e.key != g.key).length < 1000
      omega
end
end Lab

/-! The simulated cache, def by def: 5. access, cache_after. -/
namespace Lab
open PySem PySem.Spec PyProof.Rows L2
open Vakptc (Cache contains cachedKeys emptyCache access accessAll)
section
variable {P : Program} {w : World} {K : PySem.W.Frag} {mg : Str → Option Value} {base : Heap} {CC CE dV f0 f1 f2 f3 f4 : Addr}
def spAccess (CC CE : Addr) : Sp := fun vs H Q _ => ∃ (a l : Addr) (bs : List Addr) (c : Cache) (k : Nat), vs = [.ref a, .int k] ∧ CaAt CC CE H a l bs c ∧ WF c ∧ c.capacity ≤ 1000 ∧
  ∀ (H' : Hp) (l' : Addr) (bs' : List Addr) (p : Addr), CaAt CC CE H' a l' bs' (access c k).1 → Grown (foot a l bs) (foot a l' bs') H → Out (foot a l bs) H H' → H p = none → p ∉ foot a l' bs' → H' p = some (.lst (optL (access c k).2)) → Q (.ref p) H'
theorem b_access (T : TxtS K mg CC CE dV f0 f1 f2 f3 f4) (m_entry_of : C8.Met P w K mg base 1 CC "entry_of" (spEntryOf CC CE) []) (m_access_number : C8.Met P w K mg base 1 CC "access_number" (spAccNum CC CE) []) (m_take_in : C8.Met P w K mg base 6 CC "take_in" (spTake CC CE) []) :
    Body0 P w K mg base N_Cache_access "Cache.access" s_Cache_access 6 (spAccess CC CE) := by
  intro f cdv A outer s H vs Q E hr ⟨a, l, bs, c, k, ev, h, wf, hcap, q⟩
  subst ev
  have nd := sc_Cache_access.nd
  obtain ⟨dx, ho⟩ := h.ob
  refine ⟨_, (pss_cons (ps_set (i := 2) nd rfl (Or.inl rfl) (C8.pe_mt m_entry_of hr (by decide) (pv 0) (pa_cons (pv 1) pa_nil)))
    (pss_cons (ps_if (pt_cmpR op_isN (pv 2) pe_non (nomark _))
      (pss_cons (ps_fldaug (pv 0) pe_int in_add)
      (pss_one (ps_ret (C8.pe_mt m_take_in hr (by decide) (pv 0) (pa_cons (pv 1) pa_nil)))))
      pss_nil)
    (pss_cons (ps_fldaug (pv 0) pe_int in_add)
    (pss_cons (ps_fld (pv 2) (C8.pe_mt0 m_access_number hr (by decide) (pv 0)) rfl)
    (pss_cons (ps_fldaug (pv 2) pe_int in_add)
    (pss_cons (ps_fld (pv 2) pe_int rfl)
    (pss_one (ps_ret (pe_lst pa_nil))))))))), ?_⟩
  refine ⟨_, rfl, a, dx, _, rfl, ho, m_none c l, _, rfl, a, l, bs, c, k, rfl, h, fun hm => ?_, fun j b e hb he hk => ?_⟩
  · refine ⟨_, rfl, rfl, _, rfl, iteT ?_⟩
    refine ⟨_, rfl, a, CC, dx, _, _, rfl, ho, T.clC, T.nMis, cF_mis c l, _, _, rfl, rfl, dx, _, ho, cF_len c l, ?_⟩
    rw [cF_putMis]
    have h1 : CaAt CC CE (upd H a (.ins CC dx (cF { c with misses := c.misses + 1 } l))) a l bs (withE { c with misses := c.misses + 1 } c.entries) := by
      refine ⟨⟨dx, upd_same⟩, ?_, pair_imp h.en fun b hb y ⟨d, hy⟩ => ⟨d, ?_⟩, h.nd⟩
      · rw [upd_ne (Ne.symm h.al)]
        exact h.ls
      · rw [upd_ne (fun z => h.ab (by rw [← z]; exact hb))]
        exact hy
    have o1 : Out (foot a l bs) H (upd H a (.ins CC dx (cF { c with misses := c.misses + 1 } l))) := out_upd List.mem_cons_self
    refine ⟨_, rfl, a, dx, _, rfl, upd_same, m_none _ l, _, rfl, a, l, bs, c, k, rfl, h1, wf, hcap, hm, fun H' l' bs' p h' g' o' hp np hp' => ?_⟩
    exact q H' l' bs' p h' (fun x hx => (g' x hx).elim .inl fun z => .inr (upd_live z)) (o1.trans o' fun x hx => .inl hx) (upd_live hp) np hp'
  · refine ⟨_, rfl, rfl, _, rfl, iteF ?_⟩
    obtain ⟨de, hbe⟩ := h.at_ hb he
    have hba : b ≠ a := fun z => h.ab (by rw [← z]; exact List.mem_of_getElem? hb)
    have hbl : b ≠ l := fun z => h.lb (by rw [← z]; exact List.mem_of_getElem? hb)
    refine ⟨_, rfl, a, CC, dx, _, _, rfl, ho, T.clC, T.nHit, cF_hit c l, _, _, rfl, rfl, dx, _, ho, cF_len c l, ?_⟩
    rw [cF_putHit]
    refine ⟨_, rfl, a, dx, _, rfl, upd_same, m_none _ l, a, l, dx, _, rfl, upd_same, ?_⟩
    refine ⟨_, rfl, b, CE, de, _, rfl, (by rw [upd_ne hba]; exact hbe), T.clE, T.nLast, eF_len e, ?_⟩
    rw [eF_putLast]
    refine ⟨_, rfl, b, CE, de, _, _, rfl, upd_same, T.clE, T.nUse, eF_use _, _, _, rfl, rfl, de, _, upd_same, eF_len _, ?_⟩
    rw [upd_upd, eF_putUse]
    refine ⟨_, rfl, b, CE, de, _, rfl, upd_same, T.clE, T.nBit, eF_len _, ?_⟩
    rw [upd_upd]
    refine ⟨Nat.zero_le _, fun p hp => ?_⟩
    have ac := access_hit wf he hk
    have eB : putF "reference_bit" (.int 1) (eF { key := e.key, lastUse := c.hits + 1 + c.misses, useCount := e.useCount + 1, referenced := e.referenced }) = eF (used (c.hits + c.misses + 1) e) := by
      have z : c.hits + 1 + c.misses = c.hits + c.misses + 1 := by omega
      rw [z]
      exact eF_putBit _ true
    have eB' : putF "reference_bit" (.int 1) (eF { key := ({ e with lastUse := ({ c with hits := c.hits + 1 } : Cache).hits + ({ c with hits := c.hits + 1 } : Cache).misses } : Ent).key, lastUse := ({ e with lastUse := ({ c with hits := c.hits + 1 } : Cache).hits + ({ c with hits := c.hits + 1 } : Cache).misses } : Ent).lastUse, useCount := ({ e with lastUse := ({ c with hits := c.hits + 1 } : Cache).hits + ({ c with hits := c.hits + 1 } : Cache).misses } : Ent).useCount + 1, referenced := ({ e with lastUse := ({ c with hits := c.hits + 1 } : Cache).hits + ({ c with hits := c.hits + 1 } : Cache).misses } : Ent).referenced }) = eF (used (c.hits + c.misses + 1) e) := eB
    have hpH : H p = none := upd_live (upd_live hp)
    have pb : p ≠ b := fun z => by rw [z, upd_same] at hp; cases hp
    have pa : p ≠ a := fun z => by rw [z, upd_ne (Ne.symm hba), upd_same] at hp; cases hp
    have np : p ∉ foot a l bs := h.not_new hpH
    refine q _ l bs p ?_ (fun x hx => .inl hx) ⟨fun x o ex n => ?_, fun x n => upd_live (upd_live (upd_live n))⟩ hpH np ?_
    · rw [ac]
      refine ⟨⟨dx, ?_⟩, ?_, ?_, h.nd⟩
      · rw [upd_ne (Ne.symm pa), upd_ne (Ne.symm hba), upd_same]
        rfl
      · rw [upd_ne (fun z => np (by rw [← z]; exact List.mem_cons_of_mem _ List.mem_cons_self)), upd_ne (Ne.symm hbl), upd_ne (Ne.symm h.al)]
        exact h.ls
      · have setP : ∀ {bs : List Addr} {es : List Ent} {i : Nat} {F G : Addr → Ent → Prop} {y : Ent}, Paired F bs es → bs.Nodup → bs[i]? = some b → G b y → (∀ x ∈ bs, x ≠ b → ∀ z, F x z → G x z) → Paired G bs (es.set i y) := by
          intro bs es i F G y hp
          induction hp generalizing i with
          | nil => intro _ h; simp at h
          | @cons x z bs es f r ih =>
            intro nd hi g hx
            rw [List.nodup_cons] at nd
            cases i with
            | zero =>
              have : x = b := Option.some.inj hi
              subst this
              exact .cons g (pair_imp r fun v hv u fu => hx v (List.mem_cons_of_mem _ hv) (fun z => nd.1 (by rw [← z]; exact hv)) u fu)
            | succ i =>
              have hi' : bs[i]? = some b := by simpa using hi
              have hm := List.mem_of_getElem? hi'
              exact .cons (hx x List.mem_cons_self (fun z => nd.1 (by rw [z]; exact hm)) z f) (ih nd.2 hi' g fun v hv => hx v (List.mem_cons_of_mem _ hv))
        refine setP h.en h.nd hb ⟨de, ?_⟩ fun x hx xb z ⟨d, hz⟩ => ⟨d, ?_⟩
        · rw [upd_ne (Ne.symm pb), upd_same]
          exact congrArg (fun z => some (HO.ins CE de z)) eB'
        · rw [upd_ne (fun z => np (by rw [← z]; exact List.mem_cons_of_mem _ (List.mem_cons_of_mem _ hx))), upd_ne xb, upd_ne (fun z => h.ab (by rw [← z]; exact hx))]
          exact hz
    · have xb : x ≠ b := fun z => n (by rw [z]; exact List.mem_cons_of_mem _ (List.mem_cons_of_mem _ (List.mem_of_getElem? hb)))
      have xa : x ≠ a := fun z => n (by rw [z]; exact List.mem_cons_self)
      rw [upd_ne (ne_of_none ex hpH), upd_ne xb, upd_ne xa]
      exact ex
    · rw [ac]
      exact upd_same

/-! ### a whole sequence -/
def intsN (l : List Nat) : List V := l.map fun n : Nat => V.int (n : Int)
def spAfter (K : PySem.W.Frag) (CC CE : Addr) : Sp := fun vs H Q _ => ∃ (cap pol : Nat) (q : Addr) (seq : List Nat), vs = [.int cap, .int pol, .ref q] ∧ SqL K H q (intsN seq) ∧ cap ≤ 1000 ∧ pol ≤ 4 ∧
  ∀ (H' : Hp) (a l : Addr) (bs : List Addr), CaAt CC CE H' a l bs (accessAll (emptyCache cap pol) seq) → (∀ b ∈ foot a l bs, H b = none) → Same H H' → Q (.ref a) H'
theorem out_same {F : List Addr} {H0 H H' : Hp} (s : Same H0 H) (o : Out F H H') (f : ∀ b ∈ F, H0 b = none) : Same H0 H' := fun b u e => o.1 b u (s b u e) fun hb => by
  rw [f b hb] at e
  cases e
theorem b_cache_after (m_access : C8.Met P w K mg base 7 CC "access" (spAccess CC CE) []) (c_Cache : C8.Mak P w K mg base 1 "Cache" CC (spCacheInit CC CE) []) :
    Body0 P w K mg base N_cache_after "cache_after" s_cache_after 7 (spAfter K CC CE) := by
  intro f cdv A outer s H vs Q E hr ⟨cap, pol, q, seq, ev, hs, hcap, hpol, k⟩
  subst ev
  have nd := sc_cache_after.nd
  refine ⟨_, (pss_cons (ps_set (i := 3) nd rfl (Or.inl rfl) (C8.pe_mk c_Cache hr (by decide) rfl (pa_cons (pv 0) (pa_cons (pv 1) pa_nil))))
    (pss_cons (ps_for PassesOwn.never rfl (pi_list (pv 2)) (pg_name (i := 4) nd rfl (Or.inl rfl))
      (pss_one (ps_expr (C8.pe_mt m_access hr (by decide) (pv 3) (pa_cons (pv 4) pa_nil)))))
    (pss_one (ps_ret (pv 3))))), ?_⟩
  refine ⟨_, rfl, _, rfl, ?_⟩
  intro x dx nx ndx ne
  refine ⟨x, dx, cap, pol, rfl, upd_same, fun H1 l h1 hl o1 => ⟨rfl, ?_⟩⟩
  have s1 : Same H H1 := fun b u e => o1.1 b u (by rw [upd_ne (ne_of_none e nx), upd_ne (ne_of_none e ndx)]; exact e) (fun z => by rw [List.mem_singleton.mp z, nx] at e; cases e)
  have f1 : ∀ b ∈ foot x l [], H b = none := fun b hb => by
    rcases List.mem_cons.mp hb with rfl | hb
    · exact nx
    · rcases List.mem_cons.mp hb with rfl | hb
      · exact upd_live (upd_live hl)
      · cases hb
  refine ⟨_, rfl, q, rfl, ⟨_, s1.seq hs⟩, for_list (K := K) (a := q) (xs := intsN seq)
    (fun i σ H' => (∃ v, σ = [some (.int cap), some (.int pol), some (.ref q), some (.ref x), v]) ∧ Same H H' ∧ ∃ l bs, CaAt CC CE H' x l bs (accessAll (emptyCache cap pol) (seq.take i)) ∧ ∀ b ∈ foot x l bs, H b = none)
    ⟨⟨none, rfl⟩, s1, l, [], h1, f1⟩ (fun i σ H' _ h => h.2.1.seq hs) ?_ ?_⟩
  · rintro i y σ H' hi ⟨⟨v, rfl⟩, s2, l2, bs2, h2, f2⟩
    obtain ⟨n, hn, rfl⟩ : ∃ n, seq[i]? = some n ∧ y = V.int (n : Int) := by
      unfold intsN at hi
      rw [List.getElem?_map] at hi
      cases e : seq[i]? with
      | none => rw [e] at hi; cases hi
      | some z => rw [e] at hi; exact ⟨z, rfl, (Option.some.inj hi).symm⟩
    obtain ⟨d2, ho2⟩ := h2.ob
    have ac := all_cap (c := emptyCache cap pol) (seq.take i)
    refine ⟨_, rfl, x, d2, _, rfl, ho2, m_none _ l2, _, rfl, x, l2, bs2, _, n, rfl, h2, wf_all (wf_new hpol) _, by rw [ac.1]; exact hcap, fun H3 l3 bs3 p h3 g3 o3 hp np hp3 => ?_⟩
    have s3 := out_same s2 o3 f2
    refine ⟨⟨_, rfl⟩, s3, l3, bs3, ?_, fun b hb => (g3 b hb).elim (f2 b) fun z => s2.free z⟩
    rw [take_snoc hn, accessAll_snoc]
    exact h3
  · rintro σ H' ⟨⟨v, rfl⟩, s2, l2, bs2, h2, f2⟩
    have e : (intsN seq).length = seq.length := by unfold intsN; rw [List.length_map]
    rw [e, List.take_length] at h2
    exact ⟨_, rfl, k H' x l2 bs2 h2 f2 s2⟩
end
end Lab

/-! The reader of the calls, and the checks of the ranges. -/
namespace Lab
open PySem PySem.Spec PyProof.Rows L2

structure TxtR (K : PySem.W.Frag) (mg : Str → Option Value) (CR : Addr) : Prop where
  cl : Cls K CR
  nCalls : NoAttr K CR "calls"
  nPos : NoAttr K CR "position"
  n_len : mg "len" = none
def rF (src : Addr) (i : Nat) : List (Str × V) := [("calls", .ref src), ("position", .int (i : Int))]
theorem rF_calls (src : Addr) (i : Nat) : (rF src i).lookup ("calls" : Str) = some (.ref src) := lk0
theorem rF_pos (src : Addr) (i : Nat) : (rF src i).lookup ("position" : Str) = some (.int (i : Int)) := lkS (by decide +kernel) lk0
theorem rF_none (src : Addr) (i : Nat) {m : Str} (h0 : (m == ("calls" : Str)) = false := by decide +kernel) (h1 : (m == ("position" : Str)) = false := by decide +kernel) : (rF src i).lookup m = none := lkS h0 (lkS h1 lkN)
theorem rF_put (src : Addr) (i : Nat) (z : Int) (j : Nat) (h : z = j) : putF "position" (.int z) (rF src i) = rF src j := by
  subst h
  exact ptS (by decide +kernel) pt0
theorem rF_new (src : Addr) : putF "position" (.int 0) (putF "calls" (.ref src) []) = rF src 0 := by
  rw [ptN, ptS (by decide +kernel) ptN]
  rfl
/-- the calls as they were handed in: read, never written -/
def Src (K : PySem.W.Frag) (H : Hp) (src : Addr) (ns : List Int) : Prop := (∃ ob, H src = some (.frz ob (.lst (ns.map V.int)))) ∨ ∀ H, SqL K H src (ns.map V.int)
theorem Src.sq {K : PySem.W.Frag} {H : Hp} {src : Addr} {ns : List Int} (x : Src K H src ns) : SqL K H src (ns.map V.int) := by
  rcases x with ⟨ob, h⟩ | h
  · exact .inl (.inr ⟨ob, h⟩)
  · exact h H
theorem Src.keep {K : PySem.W.Frag} {H H' : Hp} {src : Addr} {ns : List Int} (x : Src K H src ns) (k : ∀ ob u, H src = some (.frz ob u) → H' src = some (.frz ob u)) : Src K H' src ns := by
  rcases x with ⟨ob, h⟩ | h
  · exact .inl ⟨ob, k _ _ h⟩
  · exact .inr h
theorem Src.same {K : PySem.W.Frag} {H H' : Hp} {src : Addr} {ns : List Int} (x : Src K H src ns) (s : Same H H') : Src K H' src ns := x.keep fun _ _ e => s _ _ e
theorem Src.out {K : PySem.W.Frag} {H H' : Hp} {src : Addr} {ns : List Int} {F : List Addr} (x : Src K H src ns) (o : Out F H H') (n : ∀ ob u, H src = some (.frz ob u) → src ∉ F) : Src K H' src ns :=
  x.keep fun ob u e => o.1 src _ e (n ob u e)
def RdAt (CR : Addr) (H : Hp) (r src : Addr) (i : Nat) : Prop := ∃ dx, H r = some (.ins CR dx (rF src i))
section
variable {P : Program} {w : World} {K : PySem.W.Frag} {mg : Str → Option Value} {base : Heap} {CR : Addr}
def spRdInit (CR : Addr) : Sp := fun vs H Q _ => ∃ (p dx src : Addr), vs = [.ref p, .ref src] ∧ H p = some (.ins CR dx []) ∧ Q .non (upd H p (.ins CR dx (rF src 0)))
theorem b_Reader_init (T : TxtR K mg CR) : Body0 P w K mg base N_CallReader_init "CallReader.__init__" s_CallReader_init 0 (spRdInit CR) := by
  intro f cdv A outer s H vs Q E hr ⟨p, dx, src, ev, hp, q⟩
  subst ev
  have nd := sc_CallReader_init.nd
  refine ⟨_, (pss_cons (ps_fld (pv 0) (pv 1) rfl)
    (pss_one (ps_fld (pv 0) pe_int rfl))), ?_⟩
  refine ⟨_, rfl, _, rfl, p, CR, dx, [], rfl, hp, T.cl, T.nCalls, (by show 0 < 1000; decide), ?_⟩
  refine ⟨_, rfl, p, CR, dx, _, rfl, upd_same, T.cl, T.nPos, (by show 1 < 1000; decide), ?_⟩
  show Q .non _
  rw [upd_upd, rF_new]
  exact q
def spHasMore (K : PySem.W.Frag) (CR : Addr) : Sp := fun vs H Q _ => ∃ (r src : Addr) (i : Nat) (ns : List Int), vs = [.ref r] ∧ RdAt CR H r src i ∧ SqL K H src (ns.map V.int) ∧ Q (.bl (decide (i < ns.length))) H
theorem b_has_more (T : TxtR K mg CR) : Body0 P w K mg base N_CallReader_has_more "CallReader.has_more" s_CallReader_has_more 0 (spHasMore K CR) := by
  intro f cdv A outer s H vs Q E hr ⟨r, src, i, ns, ev, ⟨dx, hr1⟩, hs, q⟩
  subst ev
  refine ⟨_, (pss_one (ps_ret (pe_cmpR op_lt (pe_fld (pv 0) rfl) (pe_callB call_len_seq (by rfl) T.n_len PySem.boot_len (pa_cons (pe_fld (pv 0) rfl) pa_nil)) (nomark _)))), ?_⟩
  refine ⟨_, rfl, r, CR, dx, _, _, rfl, hr1, T.cl, T.nPos, rF_pos src i, _, rfl, r, CR, dx, _, _, rfl, hr1, T.cl, T.nCalls, rF_calls src i, src, _, rfl, .inl hs, _, _, rfl, rfl, ?_⟩
  have e : decide ((i : Int) < (((ns.map V.int).length : Nat) : Int)) = decide (i < ns.length) := by
    rw [List.length_map]
    simp only [Int.ofNat_lt]
  dsimp only
  rw [e]
  exact q
def spTakeN (K : PySem.W.Frag) (CR : Addr) : Sp := fun vs H Q _ => ∃ (r src dx : Addr) (i : Nat) (ns : List Int) (z : Int), vs = [.ref r] ∧ H r = some (.ins CR dx (rF src i)) ∧ SqL K H src (ns.map V.int) ∧ ns[i]? = some z ∧ Q (.int z) (upd H r (.ins CR dx (rF src (i + 1))))
theorem b_take_number (T : TxtR K mg CR) : Body0 P w K mg base N_CallReader_take_number "CallReader.take_number" s_CallReader_take_number 0 (spTakeN K CR) := by
  intro f cdv A outer s H vs Q E hr ⟨r, src, dx, i, ns, z, ev, hr1, hs, hz, q⟩
  subst ev
  have nd := sc_CallReader_take_number.nd
  refine ⟨_, (pss_cons (ps_set (i := 1) nd rfl (Or.inl rfl) (pe_ix ix_list (pe_fld (pv 0) rfl) (pe_fld (pv 0) rfl) (fun _ _ => rfl)))
    (pss_cons (ps_fldaug (pv 0) pe_int in_add)
    (pss_one (ps_ret (pv 1))))), ?_⟩
  refine ⟨_, rfl, r, CR, dx, _, _, rfl, hr1, T.cl, T.nCalls, rF_calls src i, _, rfl, r, CR, dx, _, _, rfl, hr1, T.cl, T.nPos, rF_pos src i, src, _, _, _, rfl, rfl, hs, at_of (j := i) rfl (by rw [List.getElem?_map, hz]; rfl), ?_⟩
  refine ⟨_, rfl, r, CR, dx, _, _, rfl, hr1, T.cl, T.nPos, rF_pos src i, _, _, rfl, rfl, dx, _, hr1, (by show 2 < 1000; decide), _, rfl, ?_⟩
  rw [rF_put src i ((i : Int) + 1) (i + 1) rfl]
  exact q
def spTakeR (K : PySem.W.Frag) (CR : Addr) : Sp := fun vs H Q _ => ∃ (r src dx : Addr) (i n : Nat) (ns : List Int), vs = [.ref r] ∧ H r = some (.ins CR dx (rF src i)) ∧ Src K H src ns ∧ ns[i]? = some (n : Int) ∧ i + 1 + n ≤ ns.length ∧
  ∀ p, H p = none → Q (.ref p) (upd (upd H r (.ins CR dx (rF src (i + 1 + n)))) p (.lst (((ns.drop (i + 1)).take n).map V.int)))
theorem Src.upd {H : Hp} {src r : Addr} {ns : List Int} {C dx : Addr} {fs fs' : List (Str × V)} (x : Src K H src ns) (h : H r = some (.ins C dx fs)) : Src K (L2.upd H r (.ins C dx fs')) src ns :=
  x.keep fun ob u e => by
    rw [upd_ne (ne_of e h (fun z => by cases z))]
    exact e
theorem b_take_row (T : TxtR K mg CR) (m_take_number : C8.Met P w K mg base 1 CR "take_number" (spTakeN K CR) []) : Body0 P w K mg base N_CallReader_take_row "CallReader.take_row" s_CallReader_take_row 1 (spTakeR K CR) := by
  intro f cdv A outer s H vs Q E hr ⟨r, src, dx, i, n, ns, ev, hr1, hs, hz, hle, q⟩
  subst ev
  have nd := sc_CallReader_take_row.nd
  refine ⟨_, (pss_cons (ps_set (i := 1) nd rfl (Or.inl rfl) (C8.pe_mt0 m_take_number hr (by decide) (pv 0)))
    (pss_cons (ps_set (i := 2) nd rfl (Or.inl rfl) (pe_fld (pv 0) rfl))
    (pss_cons (ps_fldaug (pv 0) (pv 1) in_add)
    (pss_one (ps_ret (pe_slice sl_list (pe_fld (pv 0) rfl) (po_some (pv 2)) (po_some (pe_fld (pv 0) rfl)))))))), ?_⟩
  refine ⟨_, rfl, r, dx, _, rfl, hr1, rF_none src i, r, src, dx, i, ns, _, rfl, hr1, hs.sq, hz, ?_⟩
  refine ⟨_, rfl, r, CR, dx, _, _, rfl, upd_same, T.cl, T.nPos, rF_pos src (i + 1), ?_⟩
  refine ⟨_, rfl, r, CR, dx, _, _, rfl, upd_same, T.cl, T.nPos, rF_pos src (i + 1), _, rfl, _, _, rfl, rfl, dx, _, upd_same, (by show 2 < 1000; decide), ?_⟩
  rw [rF_put src (i + 1) (((i + 1 : Nat) : Int) + (n : Int)) (i + 1 + n) (by simp), upd_upd]
  have hs2 := hs.upd (fs' := rF src (i + 1 + n)) hr1
  refine ⟨_, rfl, r, CR, dx, _, _, rfl, upd_same, T.cl, T.nCalls, rF_calls src _, _, rfl, _, rfl, _, rfl, r, CR, dx, _, _, rfl, upd_same, T.cl, T.nPos, rF_pos src _, _, rfl, src, _, rfl, hs2.sq, fun p hp => ?_⟩
  have e : cutV (ns.map V.int) (some ((i + 1 : Nat) : Int)) (some ((i + 1 + n : Nat) : Int)) = ((ns.drop (i + 1)).take n).map V.int := by
    unfold cutV
    have m1 : min (i + 1) ns.length = i + 1 := Nat.min_eq_left (by omega)
    have m2 : min (i + 1 + n) ns.length = i + 1 + n := Nat.min_eq_left hle
    rw [HT.sIx_nat, HT.sIx_nat, List.length_map, m1, m2, List.map_take, List.map_drop]
    congr 1
    omega
  rw [e]
  exact q p (upd_live hp)

/-! ### the checks -/
structure TxtX (K : PySem.W.Frag) (mg : Str → Option Value) (nm : Str) (X : Addr) : Prop where
  x : PySem.W.excIn K X [.type "Exception", .type "BaseException", .type "object"] "Exception.__new__" = true
  g : mg nm = some (.ref X)
  k : PySem.W.keepIn K (.ref X) = true
  b : PySem.W.subIn K (.ref X) (.type "BaseException") = some true
  t : PySem.W.typeIn K (.ref X) = some (.type "type")
def rng (lo hi z : Int) : Bool := decide (lo ≤ z) && decide (z ≤ hi)
/-- a number out of its range is refused by X -/
def spChk (lo hi : Int) (X : Addr) : Sp := fun vs H Q E => ∃ z : Int, vs = [.int z] ∧ (rng lo hi z = true → Q .non H) ∧ (rng lo hi z = false → E (.ref X) none H)
theorem r_chain {lo hi z : Int} {H : Hp} {Q : V → Hp → Prop} (h : Q (.bl (rng lo hi z)) H) : if decide (lo ≤ z) = true then rI0 (fun i j => .bl (decide (i ≤ j))) (.int z) (.int hi) H Q else Q (.bl false) H := by
  unfold rng at h
  by_cases c : lo ≤ z
  · rw [decide_eq_true c] at h ⊢
    exact iteT ⟨z, hi, rfl, rfl, h⟩
  · rw [decide_eq_false c] at h ⊢
    exact iteF h
theorem r_chain_t {lo hi z : Int} {H : Hp} {Q : Bool → Hp → Prop} (h : Q (rng lo hi z) H) : if decide (lo ≤ z) = true then rI0 (fun i j => .bl (decide (i ≤ j))) (.int z) (.int hi) H (fun x H' => ∃ k, x = .bl k ∧ Q k H') else ∃ k, V.bl false = .bl k ∧ Q k H :=
  r_chain (Q := fun x H' => ∃ k, x = .bl k ∧ Q k H') ⟨_, rfl, h⟩
theorem b_check_capacity {X : Addr} (T : TxtX K mg "CapacityRefused" X) (g : ∃ u, mg "MAX_CAPACITY" = some u ∧ RelV (.int 6) u) : BodyX P w K mg base N_check_capacity "check_capacity" s_check_capacity 0 (spChk 0 6 X) := by
  intro f cdv A outer s H vs Q E hr ⟨z, ev, q1, q2⟩
  subst ev
  refine ⟨_, (pss_one (ps_if (pt_not (pt_chain op_le op_le pe_int (pv 0) (C8.pe_gc rfl g)))
    (pss_one (ps_raise rfl (takes_of rfl rfl rfl rfl) (pmk_own0 PySem.F.excBase_Exception T.x T.g T.k (raises_own T.b T.t) rfl)))
    pss_nil)), ?_⟩
  refine ⟨_, rfl, _, _, rfl, rfl, _, rfl, r_chain_t ?_⟩
  cases c : rng 0 6 z with
  | true => exact iteF (q1 c)
  | false => exact iteT (q2 c)
theorem b_check_policy {X : Addr} (T : TxtX K mg "PolicyRefused" X) (g : ∃ u, mg "MAX_POLICY" = some u ∧ RelV (.int 4) u) : BodyX P w K mg base N_check_policy "check_policy" s_check_policy 0 (spChk 0 4 X) := by
  intro f cdv A outer s H vs Q E hr ⟨z, ev, q1, q2⟩
  subst ev
  refine ⟨_, (pss_one (ps_if (pt_not (pt_chain op_le op_le pe_int (pv 0) (C8.pe_gc rfl g)))
    (pss_one (ps_raise rfl (takes_of rfl rfl rfl rfl) (pmk_own0 PySem.F.excBase_Exception T.x T.g T.k (raises_own T.b T.t) rfl)))
    pss_nil)), ?_⟩
  refine ⟨_, rfl, _, _, rfl, rfl, _, rfl, r_chain_t ?_⟩
  cases c : rng 0 4 z with
  | true => exact iteF (q1 c)
  | false => exact iteT (q2 c)
def spIsKey : Sp := fun vs H Q _ => ∃ z : Int, vs = [.int z] ∧ Q (.bl (rng 0 9 z)) H
theorem b_is_key (g : ∃ u, mg "MAX_KEY" = some u ∧ RelV (.int 9) u) : Body0 P w K mg base N_is_key "is_key" s_is_key 0 spIsKey := by
  intro f cdv A outer s H vs Q E hr ⟨z, ev, q⟩
  subst ev
  refine ⟨_, (pss_one (ps_ret (pe_chain op_le op_le pe_int (pv 0) (C8.pe_gc rfl g)))), ?_⟩
  exact ⟨_, rfl, _, _, rfl, rfl, _, rfl, r_chain q⟩
theorem b_check_key {X : Addr} (T : TxtX K mg "KeyRefused" X) (c_is_key : C8.Cal P w K mg base 1 "is_key" spIsKey []) : BodyX P w K mg base N_check_key "check_key" s_check_key 1 (spChk 0 9 X) := by
  intro f cdv A outer s H vs Q E hr ⟨z, ev, q1, q2⟩
  subst ev
  refine ⟨_, (pss_one (ps_if (pt_not (pt_val (C8.pe_c c_is_key hr (by decide) rfl (pa_cons (pv 0) pa_nil))))
    (pss_one (ps_raise rfl (takes_of rfl rfl rfl rfl) (pmk_own0 PySem.F.excBase_Exception T.x T.g T.k (raises_own T.b T.t) rfl)))
    pss_nil)), ?_⟩
  refine ⟨_, rfl, z, rfl, _, rfl, ?_⟩
  cases c : rng 0 9 z with
  | true => exact iteF (q1 c)
  | false => exact iteT (q2 c)
/-- a sequence of at most 30 keys -/
def seqOk (zs : List Int) : Bool := decide (zs.length ≤ 30) && zs.all (rng 0 9)
def spChkS (K : PySem.W.Frag) (X : Addr) : Sp := fun vs H Q E => ∃ (q : Addr) (zs : List Int), vs = [.ref q] ∧ SqL K H q (zs.map V.int) ∧ (seqOk zs = true → Q .non H) ∧ (seqOk zs = false → E (.ref X) none H)
theorem b_check_sequence {X : Addr} (T : TxtX K mg "SequenceRefused" X) (n_len : mg "len" = none) (g : ∃ u, mg "MAX_LENGTH" = some u ∧ RelV (.int 30) u) (c_is_key : C8.Cal P w K mg base 1 "is_key" spIsKey []) :
    BodyX P w K mg base N_check_sequence "check_sequence" s_check_sequence 1 (spChkS K X) := by
  intro f cdv A outer s H vs Q E hr ⟨q, zs, ev, hs, q1, q2⟩
  subst ev
  have nd := sc_check_sequence.nd
  refine ⟨_, (pss_cons (ps_if (pt_cmpR op_gt (pe_callB call_len_seq (by rfl) n_len PySem.boot_len (pa_cons (pv 0) pa_nil)) (C8.pe_gc rfl g) (nomark _))
      (pss_one (ps_raise rfl (takes_of rfl rfl rfl rfl) (pmk_own0 PySem.F.excBase_Exception T.x T.g T.k (raises_own T.b T.t) rfl)))
      pss_nil)
    (pss_one (ps_for PassesOwn.leaving rfl (pi_list (pv 0)) (pg_name (i := 1) nd rfl (Or.inl rfl))
      (pss_one (ps_if (pt_not (pt_val (C8.pe_c c_is_key hr (by decide) rfl (pa_cons (pv 1) pa_nil))))
        (pss_one (ps_raise rfl (takes_of rfl rfl rfl rfl) (pmk_own0 PySem.F.excBase_Exception T.x T.g T.k (raises_own T.b T.t) rfl)))
        pss_nil))))), ?_⟩
  refine ⟨_, rfl, q, _, rfl, .inl hs, _, _, rfl, rfl, _, rfl, ?_⟩
  rw [List.length_map]
  by_cases c : (30 : Int) < (zs.length : Int)
  · rw [decide_eq_true c]
    refine iteT (q2 ?_)
    unfold seqOk
    rw [decide_eq_false (by omega)]
    rfl
  · rw [decide_eq_false c]
    refine iteF ⟨_, rfl, q, rfl, ⟨_, hs⟩, for_list (K := K) (a := q) (xs := zs.map V.int)
      (fun i σ H' => (∃ v, σ = [some (.ref q), v]) ∧ H' = H ∧ (zs.take i).all (rng 0 9) = true) ⟨⟨none, rfl⟩, rfl, rfl⟩ ?_ ?_ ?_⟩
    · rintro i σ H' _ ⟨_, rfl, _⟩
      exact hs
    · rintro i x σ H' hx ⟨⟨v, rfl⟩, rfl, al⟩
      obtain ⟨z, hz, rfl⟩ : ∃ z, zs[i]? = some z ∧ x = V.int z := by
        rw [List.getElem?_map] at hx
        cases e : zs[i]? with
        | none => rw [e] at hx; cases hx
        | some z => rw [e] at hx; exact ⟨z, rfl, (Option.some.inj hx).symm⟩
      refine ⟨_, rfl, z, rfl, _, rfl, ?_⟩
      cases c2 : rng 0 9 z with
      | true =>
        refine iteF ⟨⟨_, rfl⟩, rfl, ?_⟩
        rw [List.take_succ, hz, List.all_append, al]
        simp [c2]
      | false =>
        refine iteT (q2 ?_)
        unfold seqOk
        have : zs.all (rng 0 9) = false := by
          cases q3 : zs.all (rng 0 9) with
          | false => rfl
          | true =>
            rw [List.all_eq_true] at q3
            rw [q3 z (List.mem_of_getElem? hz)] at c2
            cases c2
        rw [this, Bool.and_false]
    · rintro σ H' ⟨⟨v, rfl⟩, rfl, al⟩
      rw [List.length_map, List.take_length] at al
      refine q1 ?_
      unfold seqOk
      rw [al, decide_eq_true (by omega)]
      rfl
end
end Lab

/-! How the calls stand in the one list that is handed in; what is due, call by call. Plain lists. -/
namespace Lab
open Vakptc (Call Answer)

/-- a row stands at i: its length, then its items; it ends ahead of j -/
def RowAt (ns : List Int) (i : Nat) (zs : List Int) (j : Nat) : Prop :=
  ∃ n : Nat, ns[i]? = some (n : Int) ∧ i + 1 + n ≤ ns.length ∧ zs = (ns.drop (i + 1)).take n ∧ j = i + 1 + n ∧ n ≤ 100 ∧ ∀ z ∈ zs, 0 ≤ z ∧ z ≤ 1023
/-- the arguments of the call stand from i on and end ahead of j -/
def ArgsAt (ns : List Int) (i : Nat) (k : Call) (j : Nat) : Prop := match k with
  | .configure a b => ns[i]? = some a ∧ ns[i + 1]? = some b ∧ j = i + 2
  | .access z => ns[i]? = some z ∧ j = i + 1
  | .remove z => ns[i]? = some z ∧ j = i + 1
  | .contents => j = i
  | .nextVictim => j = i
  | .counters => j = i
  | .simulate a b l => ns[i]? = some a ∧ ns[i + 1]? = some b ∧ ∃ zs, RowAt ns (i + 2) zs j ∧ l = zs.map Int.toNat
  | .optimal a l => ns[i]? = some a ∧ ∃ zs, RowAt ns (i + 1) zs j ∧ l = zs.map Int.toNat
  | .farthest a l => ns[i]? = some a ∧ ∃ zs, RowAt ns (i + 1) zs j ∧ l = zs.map Int.toNat
  | .replay a l e => ns[i]? = some a ∧ ∃ zs es m, RowAt ns (i + 1) zs m ∧ RowAt ns m es j ∧ l = zs.map Int.toNat ∧ e = es.map Int.toNat
  | .phases a l => ns[i]? = some a ∧ ∃ zs, RowAt ns (i + 1) zs j ∧ l = zs.map Int.toNat
  | .separate p q a m n => ns[i]? = some p ∧ ns[i + 1]? = some q ∧ ns[i + 2]? = some a ∧ ns[i + 3]? = some m ∧ ns[i + 4]? = some n ∧ j = i + 5
  | .worst p a m n => ns[i]? = some p ∧ ns[i + 1]? = some a ∧ ns[i + 2]? = some m ∧ ns[i + 3]? = some n ∧ j = i + 4
  | .anomaly p a l => ns[i]? = some p ∧ ns[i + 1]? = some a ∧ ∃ zs, RowAt ns (i + 2) zs j ∧ l = zs.map Int.toNat
def opNo : Call → Int
  | .configure .. => 0 | .access .. => 1 | .remove .. => 2 | .contents => 3 | .nextVictim => 4 | .counters => 5 | .simulate .. => 6 | .optimal .. => 7
  | .farthest .. => 8 | .replay .. => 9 | .phases .. => 10 | .separate .. => 11 | .worst .. => 12 | .anomaly .. => 13

theorem drop_cons {ns : List Int} {i : Nat} {p : Int} {r : List Int} (h : ns.drop i = p :: r) : ns[i]? = some p ∧ ns.drop (i + 1) = r := by
  have hi : i < ns.length := by
    by_cases c : i < ns.length
    · exact c
    · rw [List.drop_eq_nil_of_le (by omega)] at h
      cases h
  rw [List.drop_eq_getElem_cons hi] at h
  injection h with h1 h2
  exact ⟨by rw [List.getElem?_eq_getElem hi, h1], h2⟩
theorem take_drop {ns : List Int} {i m : Nat} (h : m ≤ (ns.drop i).length) (j : Nat) (hj : j < m) : ns[i + j]? = ((ns.drop i).take m)[j]? := by
  rw [List.getElem?_take_of_lt hj, List.getElem?_drop]
theorem row_at {ns : List Int} {i : Nat} {x s : List Int} (h : PyFlat.row (ns.drop i) = some (x, s)) : ∃ n : Nat, ns[i]? = some (n : Int) ∧ i + 1 + n ≤ ns.length ∧ x = (ns.drop (i + 1)).take n ∧ s = ns.drop (i + 1 + n) := by
  cases q : ns.drop i with
  | nil => rw [q] at h; cases h
  | cons p r =>
    rw [q] at h
    obtain ⟨h1, h2⟩ := drop_cons q
    unfold PyFlat.row at h
    dsimp only at h
    by_cases c : 0 ≤ p ∧ p.toNat ≤ r.length
    · rw [if_pos c] at h
      obtain ⟨e1, e2⟩ := Prod.mk.inj (Option.some.inj h)
      refine ⟨p.toNat, by rw [h1, Int.toNat_of_nonneg c.1], ?_, by rw [h2]; exact e1.symm, ?_⟩
      · have hi : i < ns.length := (List.getElem?_eq_some_iff.mp h1).1
        have := c.2
        rw [← h2, List.length_drop] at this
        omega
      · rw [← e2, ← h2, List.drop_drop]
    · rw [if_neg c] at h
      cases h
theorem within_iff {lo hi z : Int} : PyInside.within lo hi z = true ↔ lo ≤ z ∧ z ≤ hi := by
  unfold PyInside.within
  rw [Bool.and_eq_true, decide_eq_true_iff, decide_eq_true_iff]
/-- a row within the bounds of the document -/
theorem row_in {ns : List Int} {i : Nat} {x s : List Int} (h : PyFlat.row (ns.drop i) = some (x, s)) {b : List (Int × Int × Nat × Nat)} {rs : List (List Int)} (hb : PyInside.lists ((0, 1023, 0, 100) :: b) (x :: rs) = true) :
    ∃ j, RowAt ns i x j ∧ s = ns.drop j ∧ i < j ∧ PyInside.lists b rs = true := by
  obtain ⟨n, h1, h2, h3, h4⟩ := row_at h
  have hb' : (decide (0 ≤ x.length) && decide (x.length ≤ 100) && x.all (PyInside.within 0 1023) && PyInside.lists b rs) = true := hb
  simp only [Bool.and_eq_true, decide_eq_true_eq, List.all_eq_true] at hb'
  obtain ⟨⟨⟨_, b1⟩, b2⟩, b3⟩ := hb'
  refine ⟨i + 1 + n, ⟨n, h1, h2, h3, rfl, ?_, fun z hz => within_iff.mp (b2 z hz)⟩, h4, by omega, b3⟩
  rw [h3, List.length_take, List.length_drop] at b1
  omega
theorem rows_one {l : List Int} {xs : List (List Int)} {t : List Int} (h : PyFlat.rows 1 l = some (xs, t)) : ∃ x, xs = [x] ∧ PyFlat.row l = some (x, t) := by
  unfold PyFlat.rows at h
  cases q : PyFlat.row l with
  | none => rw [q] at h; cases h
  | some xs1 =>
    obtain ⟨x, s⟩ := xs1
    rw [q] at h
    simp only [PyFlat.rows] at h
    obtain ⟨e1, e2⟩ := Prod.mk.inj (Option.some.inj h)
    exact ⟨x, e1.symm, by rw [e2]⟩
theorem rows_two {l : List Int} {xs : List (List Int)} {t : List Int} (h : PyFlat.rows 2 l = some (xs, t)) : ∃ x y s, xs = [x, y] ∧ PyFlat.row l = some (x, s) ∧ PyFlat.row s = some (y, t) := by
  unfold PyFlat.rows at h
  cases q : PyFlat.row l with
  | none => rw [q] at h; cases h
  | some xs1 =>
    obtain ⟨x, s⟩ := xs1
    rw [q] at h
    dsimp only at h
    cases q2 : PyFlat.rows 1 s with
    | none => rw [q2] at h; cases h
    | some ys =>
      obtain ⟨ys, t'⟩ := ys
      rw [q2] at h
      obtain ⟨y, e3, e4⟩ := rows_one q2
      obtain ⟨e1, e2⟩ := Prod.mk.inj (Option.some.inj h)
      subst e2
      exact ⟨x, y, s, by rw [← e1, e3], rfl, e4⟩
theorem head_split {ns : List Int} {i m : Nat} (h : ¬ (ns.drop i).length < m) : (ns.drop i).drop m = ns.drop (i + m) := by
  rw [List.drop_drop]
theorem five : ∀ (l : List Int), l.length = 5 → ∃ a b c d e, l = [a, b, c, d, e]
  | [a, b, c, d, e], _ => ⟨a, b, c, d, e, rfl⟩
theorem four : ∀ (l : List Int), l.length = 4 → ∃ a b c d, l = [a, b, c, d]
  | [a, b, c, d], _ => ⟨a, b, c, d, rfl⟩
theorem two : ∀ (l : List Int), l.length = 2 → ∃ a b, l = [a, b]
  | [a, b], _ => ⟨a, b, rfl⟩
theorem one : ∀ (l : List Int), l.length = 1 → ∃ a, l = [a]
  | [a], _ => ⟨a, rfl⟩
/-- one call of the list: what it is, where its arguments stand -/
theorem parse_one {ns : List Int} {i : Nat} {c : List (List Int)} {t : List Int} (h : PyFlat.call PyVakptc.shape (ns.drop i) = some (c, t)) (hb : PyInside.call PyVakptc.bound c = true) :
    ∃ k j, VakptcNeutral.callOf (PyVakptc.whole c) = some k ∧ ns[i]? = some (opNo k) ∧ ArgsAt ns (i + 1) k j ∧ t = ns.drop j ∧ i < j := by
  cases q : ns.drop i with
  | nil => rw [q] at h; cases h
  | cons p r =>
    rw [q] at h
    obtain ⟨h1, h2⟩ := drop_cons q
    unfold PyFlat.call at h
    dsimp only at h
    cases hs : PyVakptc.shape p with
    | none => rw [hs] at h; cases h
    | some nk =>
      obtain ⟨n, k⟩ := nk
      rw [hs] at h
      dsimp only at h
      by_cases c1 : r.length < n
      · rw [if_pos c1] at h
        cases h
      · rw [if_neg c1] at h
        cases hr : PyFlat.rows k (r.drop n) with
        | none => rw [hr] at h; cases h
        | some xt =>
          obtain ⟨xs, t'⟩ := xt
          rw [hr] at h
          obtain ⟨e1, e2⟩ := Prod.mk.inj (Option.some.inj h)
          subst e1 e2
          have tl : (r.take n).length = n := by rw [List.length_take]; omega
          have at_ : ∀ j, j < n → ns[i + 1 + j]? = (r.take n)[j]? := fun j hj => by
            rw [← h2]
            exact take_drop (by rw [h2]; omega) j hj
          have dr : r.drop n = ns.drop (i + 1 + n) := by rw [← h2, List.drop_drop]
          rw [dr] at hr
          unfold PyVakptc.shape at hs
          by_cases p0 : p = 0
          · subst p0
            simp at hs
            obtain ⟨rfl, rfl⟩ := hs
            obtain ⟨a, b, ht⟩ := two _ tl
            have a0 := at_ 0 (by omega); have a1 := at_ 1 (by omega)
            rw [ht] at a0 a1 ⊢
            cases hr
            exact ⟨.configure a b, i + 3, rfl, h1, ⟨a0, a1, rfl⟩, rfl, by omega⟩
          rw [if_neg p0] at hs
          by_cases p1 : p = 1
          · subst p1
            simp at hs
            obtain ⟨rfl, rfl⟩ := hs
            obtain ⟨a, ht⟩ := one _ tl
            have a0 := at_ 0 (by omega)
            rw [ht] at a0 ⊢
            cases hr
            exact ⟨.access a, i + 2, rfl, h1, ⟨a0, rfl⟩, rfl, by omega⟩
          rw [if_neg p1] at hs
          by_cases p2 : p = 2
          · subst p2
            simp at hs
            obtain ⟨rfl, rfl⟩ := hs
            obtain ⟨a, ht⟩ := one _ tl
            have a0 := at_ 0 (by omega)
            rw [ht] at a0 ⊢
            cases hr
            exact ⟨.remove a, i + 2, rfl, h1, ⟨a0, rfl⟩, rfl, by omega⟩
          rw [if_neg p2] at hs
          by_cases p3 : p = 3
          · subst p3
            simp at hs
            obtain ⟨rfl, rfl⟩ := hs
            cases hr
            exact ⟨.contents, i + 1, rfl, h1, rfl, rfl, by omega⟩
          rw [if_neg p3] at hs
          by_cases p4 : p = 4
          · subst p4
            simp at hs
            obtain ⟨rfl, rfl⟩ := hs
            cases hr
            exact ⟨.nextVictim, i + 1, rfl, h1, rfl, rfl, by omega⟩
          rw [if_neg p4] at hs
          by_cases p5 : p = 5
          · subst p5
            simp at hs
            obtain ⟨rfl, rfl⟩ := hs
            cases hr
            exact ⟨.counters, i + 1, rfl, h1, rfl, rfl, by omega⟩
          rw [if_neg p5] at hs
          by_cases p6 : p = 6
          · subst p6
            simp at hs
            obtain ⟨rfl, rfl⟩ := hs
            obtain ⟨a, b, ht⟩ := two _ tl
            have a0 := at_ 0 (by omega); have a1 := at_ 1 (by omega)
            rw [ht] at a0 a1 hb ⊢
            obtain ⟨x, rfl, hx⟩ := rows_one hr
            have hb2 : (PyInside.each _ [a, b] && PyInside.lists [(0, 1023, 0, 100)] [x]) = true := hb
            rw [Bool.and_eq_true] at hb2
            obtain ⟨j, rj, ej, lj, _⟩ := row_in hx hb2.2
            exact ⟨.simulate a b (x.map Int.toNat), j, rfl, h1, ⟨a0, a1, x, rj, rfl⟩, ej, by omega⟩
          rw [if_neg p6] at hs
          by_cases p7 : p = 7
          · subst p7
            simp at hs
            obtain ⟨rfl, rfl⟩ := hs
            obtain ⟨a, ht⟩ := one _ tl
            have a0 := at_ 0 (by omega)
            rw [ht] at a0 hb ⊢
            obtain ⟨x, rfl, hx⟩ := rows_one hr
            have hb2 : (PyInside.each _ [a] && PyInside.lists [(0, 1023, 0, 100)] [x]) = true := hb
            rw [Bool.and_eq_true] at hb2
            obtain ⟨j, rj, ej, lj, _⟩ := row_in hx hb2.2
            exact ⟨.optimal a (x.map Int.toNat), j, rfl, h1, ⟨a0, x, rj, rfl⟩, ej, by omega⟩
          rw [if_neg p7] at hs
          by_cases p8 : p = 8
          · subst p8
            simp at hs
            obtain ⟨rfl, rfl⟩ := hs
            obtain ⟨a, ht⟩ := one _ tl
            have a0 := at_ 0 (by omega)
            rw [ht] at a0 hb ⊢
            obtain ⟨x, rfl, hx⟩ := rows_one hr
            have hb2 : (PyInside.each _ [a] && PyInside.lists [(0, 1023, 0, 100)] [x]) = true := hb
            rw [Bool.and_eq_true] at hb2
            obtain ⟨j, rj, ej, lj, _⟩ := row_in hx hb2.2
            exact ⟨.farthest a (x.map Int.toNat), j, rfl, h1, ⟨a0, x, rj, rfl⟩, ej, by omega⟩
          rw [if_neg p8] at hs
          by_cases p9 : p = 9
          · subst p9
            simp at hs
            obtain ⟨rfl, rfl⟩ := hs
            obtain ⟨a, ht⟩ := one _ tl
            have a0 := at_ 0 (by omega)
            rw [ht] at a0 hb ⊢
            obtain ⟨x, y, s, rfl, hx, hy⟩ := rows_two hr
            have hb2 : (PyInside.each _ [a] && PyInside.lists [(0, 1023, 0, 100), (0, 1023, 0, 100)] [x, y]) = true := hb
            rw [Bool.and_eq_true] at hb2
            obtain ⟨m, rm, em, lm, hb3⟩ := row_in hx hb2.2
            rw [em] at hy
            obtain ⟨j, rj, ej, lj, _⟩ := row_in hy hb3
            exact ⟨.replay a (x.map Int.toNat) (y.map Int.toNat), j, rfl, h1, ⟨a0, x, y, m, rm, rj, rfl, rfl⟩, ej, by omega⟩
          rw [if_neg p9] at hs
          by_cases p10 : p = 10
          · subst p10
            simp at hs
            obtain ⟨rfl, rfl⟩ := hs
            obtain ⟨a, ht⟩ := one _ tl
            have a0 := at_ 0 (by omega)
            rw [ht] at a0 hb ⊢
            obtain ⟨x, rfl, hx⟩ := rows_one hr
            have hb2 : (PyInside.each _ [a] && PyInside.lists [(0, 1023, 0, 100)] [x]) = true := hb
            rw [Bool.and_eq_true] at hb2
            obtain ⟨j, rj, ej, lj, _⟩ := row_in hx hb2.2
            exact ⟨.phases a (x.map Int.toNat), j, rfl, h1, ⟨a0, x, rj, rfl⟩, ej, by omega⟩
          rw [if_neg p10] at hs
          by_cases p11 : p = 11
          · subst p11
            simp at hs
            obtain ⟨rfl, rfl⟩ := hs
            obtain ⟨a, b, c, d, e, ht⟩ := five _ tl
            have a0 := at_ 0 (by omega); have a1 := at_ 1 (by omega); have a2 := at_ 2 (by omega); have a3 := at_ 3 (by omega); have a4 := at_ 4 (by omega)
            rw [ht] at a0 a1 a2 a3 a4 ⊢
            cases hr
            exact ⟨.separate a b c d e, i + 6, rfl, h1, ⟨a0, a1, a2, a3, a4, rfl⟩, rfl, by omega⟩
          rw [if_neg p11] at hs
          by_cases p12 : p = 12
          · subst p12
            simp at hs
            obtain ⟨rfl, rfl⟩ := hs
            obtain ⟨a, b, c, d, ht⟩ := four _ tl
            have a0 := at_ 0 (by omega); have a1 := at_ 1 (by omega); have a2 := at_ 2 (by omega); have a3 := at_ 3 (by omega)
            rw [ht] at a0 a1 a2 a3 ⊢
            cases hr
            exact ⟨.worst a b c d, i + 5, rfl, h1, ⟨a0, a1, a2, a3, rfl⟩, rfl, by omega⟩
          rw [if_neg p12] at hs
          by_cases p13 : p = 13
          · subst p13
            simp at hs
            obtain ⟨rfl, rfl⟩ := hs
            obtain ⟨a, b, ht⟩ := two _ tl
            have a0 := at_ 0 (by omega); have a1 := at_ 1 (by omega)
            rw [ht] at a0 a1 hb ⊢
            obtain ⟨x, rfl, hx⟩ := rows_one hr
            have hb2 : (PyInside.each _ [a, b] && PyInside.lists [(0, 1023, 0, 100)] [x]) = true := hb
            rw [Bool.and_eq_true] at hb2
            obtain ⟨j, rj, ej, lj, _⟩ := row_in hx hb2.2
            exact ⟨.anomaly a b (x.map Int.toNat), j, rfl, h1, ⟨a0, a1, x, rj, rfl⟩, ej, by omega⟩
          rw [if_neg p13] at hs
          cases hs
/-- the rest of the list from i on is the calls ks, and nothing else -/
inductive Rest (ns : List Int) : Nat → List Call → Prop where
  | nil {i : Nat} : ns.length ≤ i → Rest ns i []
  | cons {i j : Nat} {k : Call} {ks : List Call} : ns[i]? = some (opNo k) → ArgsAt ns (i + 1) k j → i < j → Rest ns j ks → Rest ns i (k :: ks)
/-- the answers of the calls, one behind another -/
def due : Vakptc.State → List Call → List Int
  | _, [] => []
  | s, k :: ks => let a := VakptcNeutral.encode (Vakptc.step s k).2
    (a.length : Int) :: a ++ due (Vakptc.step s k).1 ks
theorem rest_of {ns : List Int} : ∀ (f i : Nat) (cs : List (List (List Int))), PyFlat.calls PyVakptc.shape f (ns.drop i) = some cs → PyInside.calls PyVakptc.bound cs = true →
    ∃ ks, Rest ns i ks ∧ ks.length = cs.length ∧ ∀ s, PyFlat.told (PyFlat.played VakptcNeutral.step s (cs.map PyVakptc.whole)) = due s ks := by
  intro f
  induction f with
  | zero =>
    intro i cs h hb
    cases q : ns.drop i with
    | nil =>
      rw [q] at h
      cases h
      refine ⟨[], .nil (by simpa using q), rfl, fun s => rfl⟩
    | cons p r => rw [q] at h; cases h
  | succ f ih =>
    intro i cs h hb
    cases q : ns.drop i with
    | nil =>
      rw [q] at h
      cases h
      exact ⟨[], .nil (by simpa using q), rfl, fun s => rfl⟩
    | cons p r =>
      rw [q] at h
      unfold PyFlat.calls at h
      cases hc : PyFlat.call PyVakptc.shape (p :: r) with
      | none => rw [hc] at h; cases h
      | some ct =>
        obtain ⟨c, t⟩ := ct
        rw [hc] at h
        dsimp only at h
        cases hr : PyFlat.calls PyVakptc.shape f t with
        | none => rw [hr] at h; cases h
        | some cs' =>
          rw [hr] at h
          cases h
          have hb' : (PyInside.call PyVakptc.bound c && cs'.all (PyInside.call PyVakptc.bound)) = true := hb
          rw [Bool.and_eq_true] at hb'
          rw [← q] at hc
          obtain ⟨k, j, e1, e2, e3, e4, e5⟩ := parse_one hc hb'.1
          subst e4
          obtain ⟨ks, r1, r2, r3⟩ := ih j cs' hr hb'.2
          refine ⟨k :: ks, .cons e2 e3 e5 r1, by simp [r2], fun s => ?_⟩
          have st : VakptcNeutral.step s (PyVakptc.whole c) = ((Vakptc.step s k).1, VakptcNeutral.encode (Vakptc.step s k).2) := by
            unfold VakptcNeutral.step
            rw [e1]
          show PyFlat.told ((VakptcNeutral.step s (PyVakptc.whole c)).2 :: PyFlat.played VakptcNeutral.step (VakptcNeutral.step s (PyVakptc.whole c)).1 (cs'.map PyVakptc.whole)) = _
          rw [st]
          show ((VakptcNeutral.encode (Vakptc.step s k).2).length : Int) :: VakptcNeutral.encode (Vakptc.step s k).2 ++ PyFlat.told _ = _
          rw [r3]
          rfl
/-- what is handed in, read: the calls, and what is due -/
theorem asked_read {ns : List Int} (h : PyVakptc.answers_asked ns = true) : ∃ ks, Rest ns 0 ks ∧ ks.length ≤ 60 ∧ PyVakptc.answers ns = due Vakptc.start ks := by
  unfold PyVakptc.answers_asked at h
  cases q : PyFlat.calls PyVakptc.shape ns.length ns with
  | none => rw [q] at h; cases h
  | some raw =>
    rw [q] at h
    simp only [Bool.and_eq_true] at h
    obtain ⟨⟨⟨⟨_, h2⟩, h3⟩, _⟩, _⟩ := h
    obtain ⟨ks, r1, r2, r3⟩ := rest_of ns.length 0 raw (by rw [List.drop_zero]; exact q) h3
    refine ⟨ks, r1, ?_, ?_⟩
    · have : decide (raw.length ≤ 60) = true := h2
      rw [r2]
      simpa using this
    · have e : PyVakptc.answers ns = PyFlat.told (PyFlat.played VakptcNeutral.step VakptcNeutral.start (raw.map PyVakptc.whole)) := by
        unfold PyVakptc.answers PyVakptc.calls
        rw [q]
      rw [e]
      exact r3 _
end Lab

/-! The mathematics of what is analysed offline: plans step by step, as the program makes them. Plain lists. -/
namespace Lab
open Vakptc (Plan emptyPlan insertSorted isLess isBetter evict extend addPlan extendAll bestPlan optimalPlan nextUse farthestKey farthestPlan replayFrom replay phaseStartsFrom phaseStarts)

/-! ### keys in order -/
theorem insS_perm (x : Nat) : ∀ l : List Nat, (insertSorted x l).Perm (x :: l)
  | [] => List.Perm.refl _
  | y :: r => by
    show (if x ≤ y then x :: y :: r else y :: insertSorted x r).Perm _
    by_cases h : x ≤ y
    · rw [if_pos h]
    · rw [if_neg h]
      exact (List.Perm.cons y (insS_perm x r)).trans (List.Perm.swap x y r)
theorem insS_mem {x y : Nat} {l : List Nat} : y ∈ insertSorted x l ↔ y = x ∨ y ∈ l := by
  rw [(insS_perm x l).mem_iff, List.mem_cons]
theorem insS_len (x : Nat) (l : List Nat) : (insertSorted x l).length = l.length + 1 := by
  rw [(insS_perm x l).length_eq, List.length_cons]
theorem insS_up {x : Nat} : ∀ {l : List Nat}, l.Pairwise (· < ·) → x ∉ l → (insertSorted x l).Pairwise (· < ·)
  | [], _, _ => by
    show [x].Pairwise _
    simp
  | y :: r, h, n => by
    rw [List.pairwise_cons] at h
    have nxy : x ≠ y := fun z => n (by rw [z]; exact List.mem_cons_self)
    show (if x ≤ y then x :: y :: r else y :: insertSorted x r).Pairwise _
    by_cases c : x ≤ y
    · rw [if_pos c, List.pairwise_cons, List.pairwise_cons]
      refine ⟨fun z hz => ?_, h.1, h.2⟩
      rcases List.mem_cons.mp hz with rfl | hz
      · omega
      · have := h.1 z hz
        omega
    · rw [if_neg c, List.pairwise_cons]
      refine ⟨fun z hz => ?_, insS_up h.2 fun z => n (List.mem_cons_of_mem _ z)⟩
      rcases insS_mem.mp hz with rfl | hz
      · omega
      · exact h.1 z hz
theorem sorted_one : ∀ {l m : List Nat}, l.Perm m → l.Pairwise (· ≤ ·) → m.Pairwise (· ≤ ·) → l = m
  | [], m, p, _, _ => (List.Perm.nil_eq p)
  | a :: l, [], p, _, _ => by have := p.length_eq; simp at this
  | a :: l, b :: m, p, hl, hm => by
    rw [List.pairwise_cons] at hl hm
    have h1 : a ∈ b :: m := p.mem_iff.mp List.mem_cons_self
    have h2 : b ∈ a :: l := p.mem_iff.mpr List.mem_cons_self
    have e : a = b := by
      rcases List.mem_cons.mp h1 with h | h
      · exact h
      · rcases List.mem_cons.mp h2 with h' | h'
        · exact h'.symm
        · have := hm.1 a h
          have := hl.1 b h'
          omega
    subst e
    rw [sorted_one ((List.perm_cons a).mp p) hl.2 hm.2]
theorem lt_le {l : List Nat} (h : l.Pairwise (· < ·)) : l.Pairwise (· ≤ ·) := h.imp fun h => Nat.le_of_lt h
/-- what sorted(keys + (key,)) gives -/
theorem sorted_is {x : Nat} {l ns : List Nat} (h : l.Pairwise (· < ·)) (n : x ∉ l) (p : ns.Perm (l ++ [x])) (s : ns.Pairwise (· ≤ ·)) : ns = insertSorted x l := by
  refine sorted_one (p.trans ?_) s (lt_le (insS_up h n))
  exact (List.perm_append_comm (l₁ := l) (l₂ := [x])).trans (insS_perm x l).symm

/-! ### a plan's step -/
def must (cap : Nat) (ks : List Nat) (key : Nat) : Bool := decide (0 < cap) && (decide (ks.length = cap) && !ks.contains key)
def grow (cap : Nat) (ks : List Nat) (key : Nat) : List Nat := if cap = 0 ∨ key ∈ ks then ks else insertSorted key ks
def without (ks : List Nat) (v : Nat) : List Nat := ks.filter fun y => y != v
def miss1 (ks : List Nat) (key : Nat) : Nat := if ks.contains key then 0 else 1
structure KeysOk (cap : Nat) (ks : List Nat) : Prop where
  up : ks.Pairwise (· < ·)
  le : ks.length ≤ cap
  small : ∀ k ∈ ks, k ≤ 9
theorem keys_nil {cap : Nat} : KeysOk cap [] := ⟨.nil, Nat.zero_le _, fun k h => by cases h⟩
theorem mem_without {ks : List Nat} {v k : Nat} : k ∈ without ks v ↔ k ∈ ks ∧ k ≠ v := by
  unfold without
  rw [List.mem_filter]
  simp
theorem contains_t {ks : List Nat} {k : Nat} (h : k ∈ ks) : ks.contains k = true := List.contains_iff_mem.mpr h
theorem contains_f {ks : List Nat} {k : Nat} (h : k ∉ ks) : ks.contains k = false := by
  cases q : ks.contains k with
  | false => rfl
  | true => exact absurd (List.contains_iff_mem.mp q) h
theorem not_mem {ks : List Nat} {k : Nat} (h : ks.contains k = false) : k ∉ ks := fun m => by
  rw [contains_t m] at h
  cases h
theorem must_iff {cap : Nat} {ks : List Nat} {key : Nat} : must cap ks key = true ↔ 0 < cap ∧ ks.length = cap ∧ key ∉ ks := by
  unfold must
  rw [Bool.and_eq_true, Bool.and_eq_true, decide_eq_true_eq, decide_eq_true_eq, Bool.not_eq_true']
  constructor
  · rintro ⟨h1, h2, h3⟩
    exact ⟨h1, h2, not_mem h3⟩
  · rintro ⟨h1, h2, h3⟩
    exact ⟨h1, h2, contains_f h3⟩
/-- the keys when one is taken in, with room -/
theorem keys_grow {cap key : Nat} {ks : List Nat} (h : KeysOk cap ks) (hk : key ≤ 9) (hm : must cap ks key = false) : KeysOk cap (grow cap ks key) := by
  unfold grow
  by_cases c : cap = 0 ∨ key ∈ ks
  · rw [if_pos c]
    exact h
  · rw [if_neg c]
    have c1 : ¬ cap = 0 := fun z => c (.inl z)
    have c2 : key ∉ ks := fun z => c (.inr z)
    refine ⟨insS_up h.up c2, ?_, fun k m => (insS_mem.mp m).elim (fun z => by omega) (h.small k)⟩
    rw [insS_len]
    have := h.le
    by_cases e : ks.length = cap
    · have q := must_iff.mpr ⟨(by omega : 0 < cap), e, c2⟩
      rw [hm] at q
      cases q
    · omega
theorem without_lt {ks : List Nat} {v : Nat} (h : v ∈ ks) : (without ks v).length < ks.length := by
  unfold without
  exact List.length_filter_lt_length_iff_exists.mpr ⟨v, h, by simp⟩
/-- .. behind an eviction -/
theorem keys_evict {cap key v : Nat} {ks : List Nat} (h : KeysOk cap ks) (hk : key ≤ 9) (hm : must cap ks key = true) (hv : v ∈ ks) :
    KeysOk cap (grow cap (without ks v) key) ∧ grow cap (without ks v) key = insertSorted key (ks.filter fun y => y != v) := by
  obtain ⟨h0, hl, hn⟩ := must_iff.mp hm
  have n2 : key ∉ without ks v := fun z => hn (mem_without.mp z).1
  have e : grow cap (without ks v) key = insertSorted key (ks.filter fun y => y != v) := by
    unfold grow
    rw [if_neg (fun z => z.elim (fun z => by omega) n2)]
    rfl
  refine ⟨?_, e⟩
  rw [e]
  have hw := without_lt hv
  have up : (without ks v).Pairwise (· < ·) := h.up.sublist List.filter_sublist
  refine ⟨insS_up up n2, ?_, fun k m => (insS_mem.mp m).elim (fun z => by omega) fun z => h.small k (mem_without.mp z).1⟩
  rw [insS_len]
  have : (without ks v).length = (ks.filter fun y => y != v).length := rfl
  omega
/-- the plans behind an access, as the program makes them -/
def steps (cap key : Nat) (p : Plan) : List Plan :=
  if must cap p.keys key = true then p.keys.map fun v => { keys := grow cap (without p.keys v) key, misses := p.misses + miss1 p.keys key, evictions := p.evictions ++ [v] }
  else [{ keys := grow cap p.keys key, misses := p.misses + miss1 p.keys key, evictions := p.evictions }]
theorem miss_in {ks : List Nat} {key : Nat} (h : key ∈ ks) : miss1 ks key = 0 := by
  unfold miss1
  rw [contains_t h, if_pos rfl]
theorem miss_out {ks : List Nat} {key : Nat} (h : key ∉ ks) : miss1 ks key = 1 := by
  unfold miss1
  rw [contains_f h]
  rfl
theorem miss_le {ks : List Nat} {key : Nat} : miss1 ks key ≤ 1 := by
  unfold miss1
  split <;> omega
theorem grow_in {cap key : Nat} {ks : List Nat} (h : cap = 0 ∨ key ∈ ks) : grow cap ks key = ks := if_pos h
theorem grow_out {cap key : Nat} {ks : List Nat} (h : ¬ (cap = 0 ∨ key ∈ ks)) : grow cap ks key = insertSorted key ks := if_neg h
theorem must_f {cap key : Nat} {ks : List Nat} (h : ¬ (0 < cap ∧ ks.length = cap ∧ key ∉ ks)) : must cap ks key = false := by
  cases q : must cap ks key with
  | false => rfl
  | true => exact absurd (must_iff.mp q) h
/-- the four ways of an access -/
theorem ways4 {cap key : Nat} {ks : List Nat} (hl : ks.length ≤ cap) :
    (key ∈ ks ∧ must cap ks key = false ∧ grow cap ks key = ks ∧ miss1 ks key = 0) ∨
    (key ∉ ks ∧ cap = 0 ∧ must cap ks key = false ∧ grow cap ks key = ks ∧ miss1 ks key = 1) ∨
    (key ∉ ks ∧ cap ≠ 0 ∧ ks.length < cap ∧ must cap ks key = false ∧ grow cap ks key = insertSorted key ks ∧ miss1 ks key = 1) ∨
    (key ∉ ks ∧ cap ≠ 0 ∧ ¬ ks.length < cap ∧ must cap ks key = true ∧ miss1 ks key = 1) := by
  by_cases h1 : key ∈ ks
  · exact .inl ⟨h1, must_f fun z => z.2.2 h1, grow_in (.inr h1), miss_in h1⟩
  · refine .inr ?_
    by_cases h2 : cap = 0
    · exact .inl ⟨h1, h2, must_f fun z => by omega, grow_in (.inl h2), miss_out h1⟩
    · refine .inr ?_
      have no : ¬ (cap = 0 ∨ key ∈ ks) := fun z => z.elim h2 h1
      by_cases h3 : ks.length < cap
      · exact .inl ⟨h1, h2, h3, must_f fun z => by omega, grow_out no, miss_out h1⟩
      · exact .inr ⟨h1, h2, h3, must_iff.mpr ⟨by omega, by omega, h1⟩, miss_out h1⟩
theorem extend_is {cap key : Nat} {p : Plan} (hp : KeysOk cap p.keys) (hk : key ≤ 9) : extend cap key p = steps cap key p := by
  obtain ⟨ks, m, ev⟩ := p
  unfold extend steps
  dsimp only at hp ⊢
  rcases ways4 (key := key) hp.le with ⟨h1, h2, h3, h4⟩ | ⟨h1, h0, h2, h3, h4⟩ | ⟨h1, h0, hl, h2, h3, h4⟩ | ⟨h1, h0, hl, h2, h4⟩
  · rw [if_pos (contains_t h1), h2, if_neg (by decide), h3, h4]
    rfl
  · rw [if_neg (by rw [contains_f h1]; decide), if_pos h0, h2, if_neg (by decide), h3, h4]
  · rw [if_neg (by rw [contains_f h1]; decide), if_neg h0, if_pos hl, h2, if_neg (by decide), h3, h4]
  · rw [if_neg (by rw [contains_f h1]; decide), if_neg h0, if_neg hl, h2, if_pos rfl, h4]
    refine List.map_congr_left fun v hv => ?_
    rw [(keys_evict hp hk h2 hv).2]
    rfl
/-- what holds of a plan behind n accesses -/
structure PlanOk (cap n : Nat) (p : Plan) : Prop where
  ks : KeysOk cap p.keys
  ms : p.misses ≤ n
  ev : p.evictions.length ≤ p.misses
theorem plan_empty {cap : Nat} : PlanOk cap 0 emptyPlan := ⟨keys_nil, Nat.le_refl _, Nat.le_refl _⟩
theorem steps_ok {cap key n : Nat} {p q : Plan} (hp : PlanOk cap n p) (hk : key ≤ 9) (hq : q ∈ steps cap key p) : PlanOk cap (n + 1) q := by
  have m1 := miss_le (ks := p.keys) (key := key)
  have m2 := hp.ms
  have m3 := hp.ev
  unfold steps at hq
  cases c : must cap p.keys key with
  | true =>
    rw [c, if_pos rfl] at hq
    obtain ⟨v, hv, rfl⟩ := List.mem_map.mp hq
    have e := miss_out (must_iff.mp c).2.2
    refine ⟨(keys_evict hp.ks hk c hv).1, ?_, ?_⟩
    · show p.misses + miss1 p.keys key ≤ n + 1
      omega
    · show (p.evictions ++ [v]).length ≤ p.misses + miss1 p.keys key
      rw [List.length_append, e]
      simp
      omega
  | false =>
    rw [c, if_neg (by decide)] at hq
    have : q = { keys := grow cap p.keys key, misses := p.misses + miss1 p.keys key, evictions := p.evictions } := by simpa using hq
    subst this
    refine ⟨keys_grow hp.ks hk c, ?_, ?_⟩
    · show p.misses + miss1 p.keys key ≤ n + 1
      omega
    · show p.evictions.length ≤ p.misses + miss1 p.keys key
      omega

/-! ### the plans kept -/
theorem addPlan_mem {q : Plan} : ∀ {l : List Plan} {new : Plan}, q ∈ addPlan l new → q = new ∨ q ∈ l
  | [], new, h => by
    have h : q ∈ [new] := h
    exact .inl (by simpa using h)
  | old :: r, new, h => by
    have h : q ∈ (if old.keys = new.keys then (if isBetter new old then new else old) :: r else old :: addPlan r new) := h
    by_cases c : old.keys = new.keys
    · rw [if_pos c] at h
      rcases List.mem_cons.mp h with h | h
      · by_cases b : isBetter new old = true
        · rw [if_pos b] at h
          exact .inl h
        · rw [if_neg b] at h
          exact .inr (by rw [h]; exact List.mem_cons_self)
      · exact .inr (List.mem_cons_of_mem _ h)
    · rw [if_neg c] at h
      rcases List.mem_cons.mp h with h | h
      · exact .inr (by rw [h]; exact List.mem_cons_self)
      · exact (addPlan_mem h).elim .inl fun z => .inr (List.mem_cons_of_mem _ z)
/-- the keys of the plans kept: the new one's at the end, if they are new -/
theorem addPlan_keys : ∀ (l : List Plan) (new : Plan), (addPlan l new).map (·.keys) = if new.keys ∈ l.map (·.keys) then l.map (·.keys) else l.map (·.keys) ++ [new.keys]
  | [], new => by
    rw [if_neg (by simp)]
    rfl
  | old :: r, new => by
    show (if old.keys = new.keys then (if isBetter new old then new else old) :: r else old :: addPlan r new).map (·.keys) = _
    by_cases c : old.keys = new.keys
    · have m : new.keys ∈ (old :: r).map (·.keys) := by
        rw [List.map_cons, c]
        exact List.mem_cons_self
      rw [if_pos c, if_pos m, List.map_cons, List.map_cons]
      have e : (if isBetter new old = true then new else old).keys = old.keys := by
        split
        · exact c.symm
        · rfl
      rw [e]
    · rw [if_neg c, List.map_cons, addPlan_keys r new, List.map_cons]
      by_cases m : new.keys ∈ r.map (·.keys)
      · rw [if_pos m, if_pos (List.mem_cons_of_mem _ m)]
      · rw [if_neg m, if_neg (fun z => (List.mem_cons.mp z).elim (fun z => c z.symm) m)]
        rfl
theorem addPlan_nd {l : List Plan} {new : Plan} (h : (l.map (·.keys)).Nodup) : ((addPlan l new).map (·.keys)).Nodup := by
  rw [addPlan_keys]
  by_cases m : new.keys ∈ l.map (·.keys)
  · rw [if_pos m]
    exact h
  · rw [if_neg m, List.nodup_append]
    exact ⟨h, by simp, fun a ha b hb z => m (by rw [List.mem_singleton.mp hb] at z; rw [← z]; exact ha)⟩
theorem kept_nd {l : List Plan} : ∀ {acc : List Plan}, (acc.map (·.keys)).Nodup → ((l.foldl addPlan acc).map (·.keys)).Nodup := by
  induction l with
  | nil => exact fun h => h
  | cons p r ih => exact fun h => ih (addPlan_nd h)
theorem kept_mem {q : Plan} {l : List Plan} : ∀ {acc : List Plan}, q ∈ l.foldl addPlan acc → q ∈ acc ∨ q ∈ l := by
  induction l with
  | nil => exact fun h => .inl h
  | cons p r ih =>
    intro acc h
    rcases ih h with h | h
    · exact (addPlan_mem h).elim (fun z => .inr (by rw [z]; exact List.mem_cons_self)) .inl
    · exact .inr (List.mem_cons_of_mem _ h)
/-- what holds of the plans kept behind n accesses -/
structure PlansOk (cap n : Nat) (l : List Plan) : Prop where
  nd : (l.map (·.keys)).Nodup
  ok : ∀ p ∈ l, PlanOk cap n p
theorem plans_first {cap : Nat} : PlansOk cap 0 [emptyPlan] := ⟨by simp, fun p h => by rw [List.mem_singleton.mp h]; exact plan_empty⟩
/-- the plans made from the kept ones -/
def made (cap key : Nat) (l : List Plan) : List Plan := l.flatMap (steps cap key)
theorem extendAll_is {cap key n : Nat} {l : List Plan} (h : PlansOk cap n l) (hk : key ≤ 9) : extendAll cap l key = (made cap key l).foldl addPlan [] := by
  unfold extendAll made
  have e : l.flatMap (extend cap key) = l.flatMap (steps cap key) := by
    have : ∀ m : List Plan, (∀ p ∈ m, p ∈ l) → m.flatMap (extend cap key) = m.flatMap (steps cap key) := by
      intro m
      induction m with
      | nil => intro _; rfl
      | cons p r ih =>
        intro hm
        rw [List.flatMap_cons, List.flatMap_cons, extend_is (h.ok p (hm p List.mem_cons_self)).ks hk, ih fun q hq => hm q (List.mem_cons_of_mem _ hq)]
    exact this l fun p hp => hp
  rw [e]
theorem made_ok {cap key n : Nat} {l : List Plan} (h : PlansOk cap n l) (hk : key ≤ 9) {q : Plan} (hq : q ∈ made cap key l) : PlanOk cap (n + 1) q := by
  obtain ⟨p, hp, hq⟩ := List.mem_flatMap.mp hq
  exact steps_ok (h.ok p hp) hk hq
theorem kept_ok {cap n : Nat} {m : List Plan} (h : ∀ q ∈ m, PlanOk cap n q) : PlansOk cap n (m.foldl addPlan []) :=
  ⟨kept_nd (by simp), fun p hp => (kept_mem hp).elim (fun z => by cases z) (h p)⟩
theorem plans_step {cap key n : Nat} {l : List Plan} (h : PlansOk cap n l) (hk : key ≤ 9) : PlansOk cap (n + 1) (extendAll cap l key) := by
  rw [extendAll_is h hk]
  exact kept_ok fun q hq => made_ok h hk hq

/-! ### how many there can be -/
theorem nodup_le {α : Type} [DecidableEq α] : ∀ {l m : List α}, l.Nodup → (∀ a ∈ l, a ∈ m) → l.length ≤ m.length
  | [], _, _, _ => Nat.zero_le _
  | a :: l, m, h, s => by
    rw [List.nodup_cons] at h
    have ha : a ∈ m := s a List.mem_cons_self
    have h2 : l.length ≤ (m.erase a).length := nodup_le h.2 fun b hb => by
      have : b ≠ a := fun z => h.1 (by rw [← z]; exact hb)
      exact (List.mem_erase_of_ne this).mpr (s b (List.mem_cons_of_mem _ hb))
    rw [List.length_erase_of_mem ha] at h2
    have : 0 < m.length := List.length_pos_of_mem ha
    rw [List.length_cons]
    omega
/-- all rising lists of numbers from lo on, n places -/
def subs : Nat → Nat → List (List Nat)
  | _, 0 => [[]]
  | lo, n + 1 => subs (lo + 1) n ++ (subs (lo + 1) n).map (lo :: ·)
theorem subs_len : ∀ (n lo : Nat), (subs lo n).length = 2 ^ n
  | 0, _ => rfl
  | n + 1, lo => by
    show (subs (lo + 1) n ++ (subs (lo + 1) n).map (lo :: ·)).length = _
    rw [List.length_append, List.length_map, subs_len n (lo + 1), Nat.pow_succ]
    omega
theorem subs_mem : ∀ (n lo : Nat) (l : List Nat), l.Pairwise (· < ·) → (∀ k ∈ l, lo ≤ k ∧ k < lo + n) → l ∈ subs lo n
  | 0, lo, l, _, h => by
    cases l with
    | nil => exact List.mem_singleton.mpr rfl
    | cons a r =>
      have := h a List.mem_cons_self
      omega
  | n + 1, lo, l, hp, h => by
    show l ∈ subs (lo + 1) n ++ (subs (lo + 1) n).map (lo :: ·)
    rw [List.mem_append]
    cases l with
    | nil => exact .inl (subs_mem n (lo + 1) [] .nil fun k hk => by cases hk)
    | cons a r =>
      rw [List.pairwise_cons] at hp
      by_cases e : a = lo
      · refine .inr (List.mem_map.mpr ⟨r, subs_mem n (lo + 1) r hp.2 fun k hk => ?_, by rw [e]⟩)
        have := h k (List.mem_cons_of_mem _ hk)
        have := hp.1 k hk
        omega
      · refine .inl (subs_mem n (lo + 1) (a :: r) (List.pairwise_cons.mpr hp) fun k hk => ?_)
        have h1 := h k hk
        have h2 := h a List.mem_cons_self
        rcases List.mem_cons.mp hk with rfl | hk
        · omega
        · have := hp.1 k hk
          omega
theorem plans_few {cap n : Nat} {l : List Plan} (h : PlansOk cap n l) : l.length ≤ 1024 := by
  have := nodup_le h.nd (m := subs 0 10) fun ks hks => by
    obtain ⟨p, hp, rfl⟩ := List.mem_map.mp hks
    have k := (h.ok p hp).ks
    exact subs_mem 10 0 p.keys k.up fun x hx => ⟨Nat.zero_le _, by have := k.small x hx; omega⟩
  rw [subs_len, List.length_map] at this
  exact this
theorem keys_few {cap : Nat} {ks : List Nat} (h : KeysOk cap ks) : ks.length ≤ 10 := by
  have := nodup_le (l := ks) (m := List.range 10) (h.up.imp fun h => Nat.ne_of_lt h) fun k hk => by
    have := h.small k hk
    exact List.mem_range.mpr (by omega)
  rwa [List.length_range] at this
/-- the plans are never none -/
theorem addPlan_ne {l : List Plan} {new : Plan} : addPlan l new ≠ [] := by
  cases l with
  | nil => exact fun z => by cases z
  | cons old r =>
    show (if old.keys = new.keys then _ else _) ≠ []
    split
    · exact fun z => by cases z
    · exact fun z => by cases z
theorem kept_ne {l : List Plan} : ∀ {acc : List Plan}, l ≠ [] ∨ acc ≠ [] → l.foldl addPlan acc ≠ [] := by
  induction l with
  | nil => exact fun h => h.elim (fun z => absurd rfl z) fun z => z
  | cons p r ih => exact fun h => ih (.inr addPlan_ne)
theorem steps_ne {cap key : Nat} {p : Plan} : steps cap key p ≠ [] := by
  unfold steps
  by_cases c : must cap p.keys key = true
  · rw [if_pos c]
    obtain ⟨h0, h1, _⟩ := must_iff.mp c
    intro z
    have : p.keys = [] := List.map_eq_nil_iff.mp z
    rw [this] at h1
    simp at h1
    omega
  · rw [if_neg c]
    exact fun z => by cases z
theorem extendAll_ne {cap key n : Nat} {l : List Plan} (h : PlansOk cap n l) (hk : key ≤ 9) (hne : l ≠ []) : extendAll cap l key ≠ [] := by
  rw [extendAll_is h hk]
  refine kept_ne (.inl ?_)
  cases l with
  | nil => exact absurd rfl hne
  | cons p r =>
    unfold made
    rw [List.flatMap_cons]
    intro z
    exact steps_ne (List.append_eq_nil_iff.mp z).1
theorem plans_all {cap : Nat} {seq : List Nat} (hs : ∀ k ∈ seq, k ≤ 9) : ∀ i, i ≤ seq.length → PlansOk cap i ((seq.take i).foldl (extendAll cap) [emptyPlan]) ∧ (seq.take i).foldl (extendAll cap) [emptyPlan] ≠ []
  | 0, _ => ⟨plans_first, fun z => by cases z⟩
  | i + 1, hi => by
    have ih := plans_all (cap := cap) hs i (by omega)
    have e : seq.take (i + 1) = seq.take i ++ [seq[i]] := by
      rw [List.take_succ, List.getElem?_eq_getElem (by omega)]
      rfl
    rw [e, List.foldl_append]
    have hk := hs seq[i] (List.getElem_mem _)
    exact ⟨plans_step ih.1 hk, extendAll_ne ih.1 hk ih.2⟩

/-! ### Belady's algorithm -/
def bNext (cap : Nat) (p : Plan) (key : Nat) (rest : List Nat) : Plan :=
  if must cap p.keys key = true then { keys := grow cap (without p.keys ((farthestKey rest p.keys).getD 0)) key, misses := p.misses + miss1 p.keys key, evictions := p.evictions ++ [(farthestKey rest p.keys).getD 0] }
  else { keys := grow cap p.keys key, misses := p.misses + miss1 p.keys key, evictions := p.evictions }
theorem far_fold_mem {rest : List Nat} : ∀ (l : List Nat) (a : Nat), l.foldl (fun a b => if nextUse rest a < nextUse rest b then b else a) a ∈ a :: l
  | [], a => List.mem_cons_self
  | b :: l, a => by
    rw [List.foldl_cons]
    have ih := far_fold_mem (rest := rest) l (if nextUse rest a < nextUse rest b then b else a)
    rcases List.mem_cons.mp ih with h | h
    · rw [h]
      by_cases c : nextUse rest a < nextUse rest b
      · rw [if_pos c]
        exact List.mem_cons_of_mem _ List.mem_cons_self
      · rw [if_neg c]
        exact List.mem_cons_self
    · exact List.mem_cons_of_mem _ (List.mem_cons_of_mem _ h)
theorem far_mem {rest ks : List Nat} {v : Nat} (h : farthestKey rest ks = some v) : v ∈ ks := by
  cases ks with
  | nil => cases h
  | cons a l =>
    have h : some (l.foldl (fun a b => if nextUse rest a < nextUse rest b then b else a) a) = some v := h
    cases h
    exact far_fold_mem l a
theorem far_some {rest ks : List Nat} (h : ks ≠ []) : ∃ v, farthestKey rest ks = some v := by
  cases ks with
  | nil => exact absurd rfl h
  | cons a l => exact ⟨_, rfl⟩
theorem must_ne {cap key : Nat} {ks : List Nat} (h : must cap ks key = true) : ks ≠ [] := fun z => by
  obtain ⟨h1, h2, _⟩ := must_iff.mp h
  rw [z] at h2
  simp at h2
  omega
theorem far_step {cap key : Nat} {p : Plan} {rest : List Nat} (hp : KeysOk cap p.keys) (hk : key ≤ 9) : farthestPlan cap p (key :: rest) = farthestPlan cap (bNext cap p key rest) rest := by
  obtain ⟨ks, m, ev⟩ := p
  unfold bNext
  rw [farthestPlan]
  dsimp only at hp ⊢
  rcases ways4 (key := key) hp.le with ⟨h1, h2, h3, h4⟩ | ⟨h1, h0, h2, h3, h4⟩ | ⟨h1, h0, hl, h2, h3, h4⟩ | ⟨h1, h0, hl, h2, h4⟩
  · rw [if_pos (contains_t h1), h2, if_neg (by decide), h3, h4]
    rfl
  · rw [if_neg (by rw [contains_f h1]; decide), if_pos h0, h2, if_neg (by decide), h3, h4]
  · rw [if_neg (by rw [contains_f h1]; decide), if_neg h0, if_pos hl, h2, if_neg (by decide), h3, h4]
  · rw [if_neg (by rw [contains_f h1]; decide), if_neg h0, if_neg hl, h2, if_pos rfl, h4]
    obtain ⟨v, hv⟩ := far_some (rest := rest) (must_ne h2)
    rw [hv]
    dsimp only [Option.getD]
    rw [(keys_evict hp hk h2 (far_mem hv)).2]
    rfl
theorem bNext_ok {cap key n : Nat} {p : Plan} {rest : List Nat} (hp : PlanOk cap n p) (hk : key ≤ 9) : PlanOk cap (n + 1) (bNext cap p key rest) := by
  refine steps_ok hp hk ?_
  unfold bNext steps
  cases c : must cap p.keys key with
  | true =>
    rw [if_pos rfl, if_pos rfl]
    obtain ⟨v, hv⟩ := far_some (rest := rest) (must_ne c)
    rw [hv]
    exact List.mem_map.mpr ⟨v, far_mem hv, rfl⟩
  | false =>
    rw [if_neg (by decide), if_neg (by decide)]
    exact List.mem_singleton.mpr rfl

/-! ### a replay -/
theorem rep_step {cap i key : Nat} {p : Plan} {rest ev : List Nat} (hp : KeysOk cap p.keys) (hk : key ≤ 9) :
    replayFrom cap i p (key :: rest) ev = if must cap p.keys key = true then (match ev with
        | [] => .error i
        | v :: more => if p.keys.contains v = true then replayFrom cap (i + 1) { keys := grow cap (without p.keys v) key, misses := p.misses + miss1 p.keys key, evictions := p.evictions ++ [v] } rest more else .error i)
      else replayFrom cap (i + 1) { keys := grow cap p.keys key, misses := p.misses + miss1 p.keys key, evictions := p.evictions } rest ev := by
  obtain ⟨ks, m, evs⟩ := p
  have e0 : replayFrom cap i { keys := ks, misses := m, evictions := evs } (key :: rest) ev = if ks.contains key = true then replayFrom cap (i + 1) { keys := ks, misses := m, evictions := evs } rest ev
      else if cap = 0 then replayFrom cap (i + 1) { keys := ks, misses := m + 1, evictions := evs } rest ev
      else if ks.length < cap then replayFrom cap (i + 1) { keys := insertSorted key ks, misses := m + 1, evictions := evs } rest ev
      else (match ev with
        | [] => .error i
        | v :: more => if ks.contains v = true then replayFrom cap (i + 1) (evict { keys := ks, misses := m, evictions := evs } key v) rest more else .error i) := by
    cases ev <;> rfl
  rw [e0]
  dsimp only at hp ⊢
  rcases ways4 (key := key) hp.le with ⟨h1, h2, h3, h4⟩ | ⟨h1, h0, h2, h3, h4⟩ | ⟨h1, h0, hl, h2, h3, h4⟩ | ⟨h1, h0, hl, h2, h4⟩
  · rw [if_pos (contains_t h1), h2, if_neg (by decide), h3, h4]
    rfl
  · rw [if_neg (by rw [contains_f h1]; decide), if_pos h0, h2, if_neg (by decide), h3, h4]
  · rw [if_neg (by rw [contains_f h1]; decide), if_neg h0, if_pos hl, h2, if_neg (by decide), h3, h4]
  · rw [if_neg (by rw [contains_f h1]; decide), if_neg h0, if_neg hl, h2, if_pos rfl, h4]
    cases ev with
    | nil => rfl
    | cons v more =>
      dsimp only
      by_cases c : ks.contains v = true
      · rw [if_pos c, if_pos c, (keys_evict hp hk h2 (List.contains_iff_mem.mp c)).2]
        rfl
      · rw [if_neg c, if_neg c]

/-! ### phases -/
theorem phase_more {cap key : Nat} {rest : List Nat} : ∀ {i : Nat} {seen seen' : List Nat}, seen.Perm seen' → phaseStartsFrom cap i seen rest = phaseStartsFrom cap i seen' rest := by
  induction rest with
  | nil =>
    intro i s s' p
    rw [phaseStartsFrom, phaseStartsFrom]
  | cons k r ih =>
    intro i s s' p
    rw [phaseStartsFrom, phaseStartsFrom]
    have e1 : s.contains k = s'.contains k := by
      rw [Bool.eq_iff_iff, List.contains_iff_mem, List.contains_iff_mem, p.mem_iff]
    rw [e1, p.length_eq, ih (i := i + 1) p, ih (i := i + 1) (p.cons k)]
/-- a turn of the program's loop -/
def phNext (cap i : Nat) (seen : List Nat) (key : Nat) : List Nat × List Nat :=
  if key ∈ seen then ([], seen) else if i = 0 ∨ seen.length = cap then ([i], [key]) else ([], seen ++ [key])
theorem ph_step {cap i key : Nat} {seen rest : List Nat} (hc : 1 ≤ cap) (hl : seen.length ≤ cap) (h0 : i = 0 → seen = []) :
    phaseStartsFrom cap i seen (key :: rest) = (phNext cap i seen key).1 ++ phaseStartsFrom cap (i + 1) (phNext cap i seen key).2 rest ∧ (phNext cap i seen key).2.length ≤ cap := by
  rw [phaseStartsFrom]
  unfold phNext
  by_cases hi : i = 0
  · subst hi
    rw [h0 rfl, if_pos rfl, if_neg (by simp), if_pos (.inl rfl)]
    exact ⟨rfl, hc⟩
  · rw [if_neg hi]
    by_cases hm : key ∈ seen
    · rw [if_pos (contains_t hm), if_pos hm]
      exact ⟨rfl, hl⟩
    · rw [if_neg (by rw [contains_f hm]; decide), if_neg hm]
      by_cases h2 : seen.length < cap
      · rw [if_pos h2, if_neg (fun z => z.elim hi fun z => by omega)]
        refine ⟨?_, by simp; omega⟩
        show _ = phaseStartsFrom cap (i + 1) (seen ++ [key]) rest
        exact phase_more (key := 0) (List.perm_append_comm (l₁ := [key]) (l₂ := seen))
      · rw [if_neg h2, if_pos (.inr (by omega))]
        exact ⟨rfl, hc⟩
theorem ph_len {cap : Nat} : ∀ (rest : List Nat) (i : Nat) (seen : List Nat), (phaseStartsFrom cap i seen rest).length ≤ rest.length
  | [], i, seen => by rw [phaseStartsFrom]; exact Nat.le_refl _
  | k :: r, i, seen => by
    rw [phaseStartsFrom]
    split
    · have := ph_len (cap := cap) r 1 [k]
      simp
      omega
    · split
      · have := ph_len (cap := cap) r (i + 1) seen
        simp
        omega
      · split
        · have := ph_len (cap := cap) r (i + 1) (k :: seen)
          simp
          omega
        · have := ph_len (cap := cap) r (i + 1) [k]
          simp
          omega
end Lab

/-! The mathematics of the extremal sequences: renamed keys change no misses; the first extremal sequence uses its keys from 0 on. Plain lists. -/
namespace Lab
open Vakptc (Entry Cache firstIndexBy rotateReferenced selectVictim insertKey recordUse access contains cachedKeys accessAll emptyCache missCount)
open Vakptc (Plan emptyPlan insertSorted isLess isBetter evict extend addPlan extendAll bestPlan optimalPlan allSequences firstMaximum separatingSequence worstSequence anomalyLength)

/-! ### keys renamed in a cache -/
def mapE (f : Nat → Nat) (e : Entry) : Entry := { e with key := f e.key }
def mapC (f : Nat → Nat) (c : Cache) : Cache := { c with entries := c.entries.map (mapE f) }
section
variable {f : Nat → Nat} (inj : ∀ x y, f x = f y → x = y)
include inj
theorem ren_contains (c : Cache) (k : Nat) : contains (mapC f c) (f k) = contains c k := by
  rw [Bool.eq_iff_iff, contains_iff, contains_iff]
  constructor
  · rintro ⟨e, he, h⟩
    obtain ⟨x, hx, rfl⟩ := List.mem_map.mp he
    exact ⟨x, hx, inj _ _ h⟩
  · rintro ⟨e, he, h⟩
    exact ⟨mapE f e, List.mem_map_of_mem he, congrArg f h⟩
theorem ren_record (now k : Nat) (es : List Entry) : recordUse now (f k) (es.map (mapE f)) = (recordUse now k es).map (mapE f) := by
  unfold recordUse
  rw [List.map_map, List.map_map]
  refine List.map_congr_left fun e he => ?_
  show (if f e.key = f k then _ else mapE f e) = mapE f (if e.key = k then _ else e)
  by_cases h : e.key = k
  · rw [if_pos h, if_pos (congrArg f h)]
    rfl
  · rw [if_neg h, if_neg (fun z => h (inj _ _ z))]
omit inj in
theorem ren_first (prec : Entry → Entry → Bool) (hp : ∀ a b, prec (mapE f a) (mapE f b) = prec a b) (es : List Entry) : firstIndexBy prec (es.map (mapE f)) = firstIndexBy prec es := by
  unfold firstIndexBy
  rw [List.findIdx?_map]
  congr 2
  funext a
  show ((es.map (mapE f)).all fun b => !prec b (mapE f a)) = _
  rw [List.all_map]
  congr 1
  funext b
  show (!prec (mapE f b) (mapE f a)) = _
  rw [hp]
omit inj in
theorem ren_rotate : ∀ (n : Nat) (es : List Entry), rotateReferenced n (es.map (mapE f)) = (rotateReferenced n es).map (mapE f)
  | 0, es => rfl
  | n + 1, [] => rfl
  | n + 1, e :: r => by
    show (if e.referenced = true then rotateReferenced n (r.map (mapE f) ++ [clr (mapE f e)]) else mapE f e :: r.map (mapE f)) = (if e.referenced = true then rotateReferenced n (r ++ [clr e]) else e :: r).map (mapE f)
    by_cases h : e.referenced = true
    · rw [if_pos h, if_pos h, ← ren_rotate n (r ++ [clr e]), List.map_append]
      rfl
    · rw [if_neg h, if_neg h]
      rfl
omit inj in
theorem ren_select (p : Nat) (es : List Entry) : selectVictim p (es.map (mapE f)) = ((selectVictim p es).1.map (mapE f), (selectVictim p es).2) := by
  unfold selectVictim
  split
  · rw [ren_first]
    exact fun a b => rfl
  · split
    · rw [ren_first]
      exact fun a b => rfl
    · split
      · rw [ren_first]
        exact fun a b => rfl
      · split
        · rw [ren_rotate, List.length_map]
        · rfl
omit inj in
theorem ren_insert (c : Cache) (now k : Nat) : (insertKey (mapC f c) now (f k)).1 = (insertKey c now k).1.map (mapE f) := by
  unfold insertKey
  show (if c.capacity = 0 then ([], none) else if (c.entries.map (mapE f)).length < c.capacity then _ else _ : List Entry × Option Nat).1 = _
  rw [List.length_map]
  split
  · rfl
  · split
    · show c.entries.map (mapE f) ++ [_] = (c.entries ++ [_]).map (mapE f)
      rw [List.map_append]
      rfl
    · show (selectVictim c.policy (c.entries.map (mapE f))).1.eraseIdx (selectVictim c.policy (c.entries.map (mapE f))).2 ++ [_] = ((selectVictim c.policy c.entries).1.eraseIdx (selectVictim c.policy c.entries).2 ++ [_]).map (mapE f)
      rw [ren_select, List.map_append]
      congr 1
      have er : ∀ (l : List Entry) (i : Nat), (l.map (mapE f)).eraseIdx i = (l.eraseIdx i).map (mapE f) := by
        intro l
        induction l with
        | nil => exact fun i => rfl
        | cons a r ih =>
          intro i
          cases i with
          | zero => rfl
          | succ i =>
            show mapE f a :: (r.map (mapE f)).eraseIdx i = mapE f a :: (r.eraseIdx i).map (mapE f)
            rw [ih i]
      exact er _ _
theorem ren_access (c : Cache) (k : Nat) : (access (mapC f c) (f k)).1 = mapC f (access c k).1 := by
  unfold access
  rw [ren_contains inj]
  cases h : contains c k with
  | true =>
    rw [if_pos rfl, if_pos rfl]
    show ({ mapC f c with entries := recordUse (c.hits + c.misses + 1) (f k) (c.entries.map (mapE f)), hits := c.hits + 1 } : Cache) = _
    rw [ren_record inj]
    rfl
  | false =>
    rw [if_neg (by decide), if_neg (by decide)]
    show ({ mapC f c with entries := (insertKey (mapC f c) (c.hits + c.misses + 1) (f k)).1, misses := c.misses + 1 } : Cache) = _
    rw [ren_insert]
    rfl
theorem ren_all (l : List Nat) : ∀ c : Cache, accessAll (mapC f c) (l.map f) = mapC f (accessAll c l) := by
  induction l with
  | nil => exact fun c => rfl
  | cons k r ih =>
    intro c
    show accessAll (access (mapC f c) (f k)).1 (r.map f) = mapC f (accessAll (access c k).1 r)
    rw [ren_access inj]
    exact ih _
/-- the misses of a policy don't hang on the keys' names -/
theorem ren_misses (p cap : Nat) (s : List Nat) : missCount p cap (s.map f) = missCount p cap s := by
  unfold missCount
  have := ren_all inj s (emptyCache cap p)
  have e : mapC f (emptyCache cap p) = emptyCache cap p := rfl
  rw [e] at this
  rw [this]
  rfl
end

/-! ### keys renamed in plans -/
def Dom (f : Nat → Nat) (A B : List Plan) : Prop := ∀ p ∈ A, ∃ q ∈ B, q.keys.Perm (p.keys.map f) ∧ q.misses ≤ p.misses
theorem better_le {a b : Plan} (h : isBetter a b = true) : a.misses ≤ b.misses := by
  unfold isBetter at h
  rw [Bool.or_eq_true, Bool.and_eq_true, decide_eq_true_eq, beq_iff_eq] at h
  omega
theorem worse_le {a b : Plan} (h : ¬ isBetter a b = true) : b.misses ≤ a.misses := by
  unfold isBetter at h
  rw [Bool.or_eq_true, decide_eq_true_eq] at h
  have : ¬ a.misses < b.misses := fun z => h (.inl z)
  omega
theorem addPlan_old {p : Plan} : ∀ {l : List Plan} {new : Plan}, p ∈ l → ∃ q ∈ addPlan l new, q.keys = p.keys ∧ q.misses ≤ p.misses
  | old :: r, new, h => by
    show ∃ q ∈ (if old.keys = new.keys then (if isBetter new old then new else old) :: r else old :: addPlan r new), _
    by_cases c : old.keys = new.keys
    · rw [if_pos c]
      rcases List.mem_cons.mp h with rfl | h
      · refine ⟨_, List.mem_cons_self, ?_⟩
        by_cases b : isBetter new p = true
        · rw [if_pos b]
          exact ⟨c.symm, better_le b⟩
        · rw [if_neg b]
          exact ⟨rfl, Nat.le_refl _⟩
      · exact ⟨p, List.mem_cons_of_mem _ h, rfl, Nat.le_refl _⟩
    · rw [if_neg c]
      rcases List.mem_cons.mp h with rfl | h
      · exact ⟨_, List.mem_cons_self, rfl, Nat.le_refl _⟩
      · obtain ⟨q, hq, e⟩ := addPlan_old (new := new) h
        exact ⟨q, List.mem_cons_of_mem _ hq, e⟩
theorem addPlan_new : ∀ {l : List Plan} {new : Plan}, ∃ q ∈ addPlan l new, q.keys = new.keys ∧ q.misses ≤ new.misses
  | [], new => ⟨new, List.mem_singleton.mpr rfl, rfl, Nat.le_refl _⟩
  | old :: r, new => by
    show ∃ q ∈ (if old.keys = new.keys then (if isBetter new old then new else old) :: r else old :: addPlan r new), _
    by_cases c : old.keys = new.keys
    · rw [if_pos c]
      refine ⟨_, List.mem_cons_self, ?_⟩
      by_cases b : isBetter new old = true
      · rw [if_pos b]
        exact ⟨rfl, Nat.le_refl _⟩
      · rw [if_neg b]
        exact ⟨c, worse_le b⟩
    · rw [if_neg c]
      obtain ⟨q, hq, e⟩ := addPlan_new (l := r) (new := new)
      exact ⟨q, List.mem_cons_of_mem _ hq, e⟩
theorem kept_dom {p : Plan} (l : List Plan) : ∀ (acc : List Plan), p ∈ l ∨ (∃ q ∈ acc, q.keys = p.keys ∧ q.misses ≤ p.misses) → ∃ q ∈ l.foldl addPlan acc, q.keys = p.keys ∧ q.misses ≤ p.misses := by
  induction l with
  | nil => exact fun acc h => h.elim (fun z => by cases z) fun z => z
  | cons a r ih =>
    intro acc h
    refine ih _ ?_
    rcases h with h | ⟨q, hq, e1, e2⟩
    · rcases List.mem_cons.mp h with rfl | h
      · exact .inr addPlan_new
      · exact .inl h
    · obtain ⟨q', h1, h2, h3⟩ := addPlan_old (new := a) hq
      exact .inr ⟨q', h1, h2.trans e1, Nat.le_trans h3 e2⟩
section
variable {f : Nat → Nat} (inj : ∀ x y, f x = f y → x = y)
include inj
theorem map_has {ks : List Nat} {k : Nat} : f k ∈ ks.map f ↔ k ∈ ks := by
  constructor
  · intro h
    obtain ⟨x, hx, e⟩ := List.mem_map.mp h
    rw [← inj _ _ e]
    exact hx
  · exact List.mem_map_of_mem
theorem ren_extend {cap k : Nat} {p q p' : Plan} (hk : q.keys.Perm (p.keys.map f)) (hm : q.misses ≤ p.misses) (h : p' ∈ extend cap k p) : ∃ q' ∈ extend cap (f k) q, q'.keys.Perm (p'.keys.map f) ∧ q'.misses ≤ p'.misses := by
  have hc : q.keys.contains (f k) = p.keys.contains k := by
    rw [Bool.eq_iff_iff, List.contains_iff_mem, List.contains_iff_mem, hk.mem_iff]
    exact map_has inj
  have hl : q.keys.length = p.keys.length := by rw [hk.length_eq, List.length_map]
  unfold extend at h ⊢
  rw [hc, hl]
  by_cases c1 : p.keys.contains k = true
  · rw [if_pos c1] at h ⊢
    rw [List.mem_singleton.mp h]
    exact ⟨q, List.mem_singleton.mpr rfl, hk, hm⟩
  · rw [if_neg c1] at h ⊢
    by_cases c2 : cap = 0
    · rw [if_pos c2] at h ⊢
      rw [List.mem_singleton.mp h]
      exact ⟨_, List.mem_singleton.mpr rfl, hk, Nat.succ_le_succ hm⟩
    · rw [if_neg c2] at h ⊢
      by_cases c3 : p.keys.length < cap
      · rw [if_pos c3] at h ⊢
        rw [List.mem_singleton.mp h]
        refine ⟨_, List.mem_singleton.mpr rfl, ?_, Nat.succ_le_succ hm⟩
        show (insertSorted (f k) q.keys).Perm ((insertSorted k p.keys).map f)
        refine (insS_perm _ _).trans (((List.Perm.cons _ hk)).trans ?_)
        exact ((insS_perm k p.keys).map f).symm
      · rw [if_neg c3] at h ⊢
        obtain ⟨v, hv, rfl⟩ := List.mem_map.mp h
        have hv2 : f v ∈ q.keys := hk.mem_iff.mpr (List.mem_map_of_mem hv)
        refine ⟨_, List.mem_map.mpr ⟨f v, hv2, rfl⟩, ?_, Nat.succ_le_succ hm⟩
        show (insertSorted (f k) (q.keys.filter fun y => y != f v)).Perm ((insertSorted k (p.keys.filter fun y => y != v)).map f)
        refine (insS_perm _ _).trans ((List.Perm.cons _ ((hk.filter fun y => y != f v).trans ?_)).trans ((insS_perm k _).map f).symm)
        have e : ∀ l : List Nat, (l.map f).filter (fun y => y != f v) = (l.filter fun y => y != v).map f := by
          intro l
          induction l with
          | nil => rfl
          | cons x r ih =>
            rw [List.map_cons, List.filter_cons, List.filter_cons, ih]
            by_cases z : x = v
            · rw [if_neg (by simp [z]), if_neg (by simp [z])]
            · have z2 : f x ≠ f v := fun y => z (inj _ _ y)
              rw [if_pos (by simpa using z2), if_pos (by simpa using z), List.map_cons]
        rw [e]
theorem dom_step {cap k : Nat} {A B : List Plan} (h : Dom f A B) : Dom f (extendAll cap A k) (extendAll cap B (f k)) := by
  intro p' hp'
  unfold extendAll at hp'
  rcases kept_mem hp' with z | z
  · cases z
  · obtain ⟨p, hp, h1⟩ := List.mem_flatMap.mp z
    obtain ⟨q, hq, e1, e2⟩ := h p hp
    obtain ⟨q', hq', e3, e4⟩ := ren_extend inj e1 e2 h1
    obtain ⟨r, hr, e5, e6⟩ := kept_dom (B.flatMap (extend cap (f k))) [] (.inl (List.mem_flatMap.mpr ⟨q, hq, hq'⟩))
    exact ⟨r, hr, by rw [e5]; exact e3, Nat.le_trans e6 e4⟩
theorem dom_all {cap : Nat} (s : List Nat) : ∀ {A B : List Plan}, Dom f A B → Dom f (s.foldl (extendAll cap) A) ((s.map f).foldl (extendAll cap) B) := by
  induction s with
  | nil => exact fun h => h
  | cons k r ih => exact fun h => ih (dom_step inj h)
end
theorem extend_ne {cap k : Nat} {p : Plan} : extend cap k p ≠ [] := by
  unfold extend
  split
  · exact fun z => by cases z
  · split
    · exact fun z => by cases z
    · split
      · exact fun z => by cases z
      · rename_i h1 h2 h3
        intro z
        rw [List.map_eq_nil_iff.mp z] at h3
        simp at h3
        omega
theorem all_ne {cap : Nat} (s : List Nat) : ∀ {A : List Plan}, A ≠ [] → s.foldl (extendAll cap) A ≠ [] := by
  induction s with
  | nil => exact fun h => h
  | cons k r ih =>
    intro A h
    refine ih ?_
    unfold extendAll
    refine kept_ne (.inl ?_)
    cases A with
    | nil => exact absurd rfl h
    | cons p A =>
      rw [List.flatMap_cons]
      exact fun z => extend_ne (List.append_eq_nil_iff.mp z).1
theorem best_fold (l : List Plan) : ∀ (a : Plan), l.foldl (fun a b => if isBetter b a then b else a) a ∈ a :: l ∧ ∀ p ∈ a :: l, (l.foldl (fun a b => if isBetter b a then b else a) a).misses ≤ p.misses := by
  induction l with
  | nil => exact fun a => ⟨List.mem_singleton.mpr rfl, fun p hp => by rw [List.mem_singleton.mp hp]; exact Nat.le_refl _⟩
  | cons b r ih =>
    intro a
    rw [List.foldl_cons]
    obtain ⟨h1, h2⟩ := ih (if isBetter b a = true then b else a)
    have hm : (if isBetter b a = true then b else a) ∈ a :: b :: r := by
      split
      · exact List.mem_cons_of_mem _ List.mem_cons_self
      · exact List.mem_cons_self
    have hle : (if isBetter b a = true then b else a).misses ≤ a.misses ∧ (if isBetter b a = true then b else a).misses ≤ b.misses := by
      by_cases c : isBetter b a = true
      · rw [if_pos c]
        exact ⟨better_le c, Nat.le_refl _⟩
      · rw [if_neg c]
        exact ⟨Nat.le_refl _, worse_le c⟩
    refine ⟨?_, fun p hp => ?_⟩
    · rcases List.mem_cons.mp h1 with h | h
      · rw [h]
        exact hm
      · exact List.mem_cons_of_mem _ (List.mem_cons_of_mem _ h)
    · have h0 := h2 _ List.mem_cons_self
      rcases List.mem_cons.mp hp with rfl | hp
      · omega
      · rcases List.mem_cons.mp hp with rfl | hp
        · omega
        · exact h2 p (List.mem_cons_of_mem _ hp)
theorem best_of_plans {l : List Plan} (h : l ≠ []) : bestPlan l ∈ l ∧ ∀ p ∈ l, (bestPlan l).misses ≤ p.misses := by
  cases l with
  | nil => exact absurd rfl h
  | cons a r => exact best_fold r a
theorem ren_best {f : Nat → Nat} (inj : ∀ x y, f x = f y → x = y) (cap : Nat) (s : List Nat) : (optimalPlan cap (s.map f)).misses ≤ (optimalPlan cap s).misses := by
  have ne : ([emptyPlan] : List Plan) ≠ [] := fun z => by cases z
  obtain ⟨h1, _⟩ := best_of_plans (all_ne (cap := cap) s ne)
  obtain ⟨_, h2⟩ := best_of_plans (all_ne (cap := cap) (s.map f) ne)
  have d : Dom f [emptyPlan] [emptyPlan] := fun p hp => ⟨emptyPlan, List.mem_singleton.mpr rfl, by rw [List.mem_singleton.mp hp]; exact List.Perm.refl _, by rw [List.mem_singleton.mp hp]; exact Nat.le_refl _⟩
  obtain ⟨q, hq, _, e⟩ := dom_all inj (cap := cap) s d _ h1
  exact Nat.le_trans (h2 q hq) e
/-! ### two names exchanged -/
def swp (a b x : Nat) : Nat := if x = a then b else if x = b then a else x
theorem swp_swp (a b x : Nat) : swp a b (swp a b x) = x := by
  unfold swp
  split
  · split
    · omega
    · split
      · omega
      · omega
  · split
    · split
      · omega
      · omega
    · rfl
theorem swp_inj (a b x y : Nat) (h : swp a b x = swp a b y) : x = y := by
  rw [← swp_swp a b x, h, swp_swp]
theorem ren_optimal (a b cap : Nat) (s : List Nat) : (optimalPlan cap (s.map (swp a b))).misses = (optimalPlan cap s).misses := by
  have h1 := ren_best (swp_inj a b) cap s
  have h2 := ren_best (swp_inj a b) cap (s.map (swp a b))
  rw [List.map_map] at h2
  have e : s.map (swp a b ∘ swp a b) = s := by
    have e2 : s.map (swp a b ∘ swp a b) = s.map id := List.map_congr_left fun x _ => swp_swp a b x
    rw [e2, List.map_id]
  rw [e] at h2
  omega

/-! ### the first of the greatest -/
def First {α : Type} (v : α → Int) (L : List α) (m : α) : Prop := ∃ i : Nat, L[i]? = some m ∧ (∀ (j : Nat) (x : α), j < i → L[j]? = some x → v x < v m) ∧ ∀ (j : Nat) (x : α), L[j]? = some x → v x ≤ v m
theorem First.one {α : Type} {v : α → Int} {L : List α} {m m' : α} (h : First v L m) (h' : First v L m') : m = m' := by
  obtain ⟨i, a1, a2, a3⟩ := h
  obtain ⟨j, b1, b2, b3⟩ := h'
  rcases Nat.lt_trichotomy i j with c | c | c
  · have := b2 i m c a1
    have := a3 j m' b1
    omega
  · subst c
    rw [a1] at b1
    exact Option.some.inj b1
  · have := a2 j m' c b1
    have := b3 i m a1
    omega
theorem First.filter {α : Type} {v : α → Int} {L : List α} {m : α} (h : First v L m) (p : α → Bool) (hp : p m = true) : First v (L.filter p) m := by
  obtain ⟨i, a1, a2, a3⟩ := h
  obtain ⟨hi, e⟩ := List.getElem?_eq_some_iff.mp a1
  have es : L = L.take i ++ m :: L.drop (i + 1) := by
    rw [← e, List.getElem_cons_drop, List.take_append_drop]
  have ef : L.filter p = (L.take i).filter p ++ m :: (L.drop (i + 1)).filter p := by
    conv => lhs; rw [es]
    rw [List.filter_append, List.filter_cons, if_pos hp]
  refine ⟨((L.take i).filter p).length, ?_, fun j x hj hx => ?_, fun j x hx => ?_⟩
  · rw [ef, List.getElem?_append_right (Nat.le_refl _)]
    simp
  · rw [ef, List.getElem?_append_left hj] at hx
    have hx2 := (List.mem_filter.mp (List.mem_of_getElem? hx)).1
    obtain ⟨n, hn⟩ := List.getElem?_of_mem hx2
    have hn2 := (List.getElem?_eq_some_iff.mp hn).1
    rw [List.length_take] at hn2
    rw [List.getElem?_take_of_lt (by omega)] at hn
    exact a2 n x (by omega) hn
  · have hx2 := (List.mem_filter.mp (List.mem_of_getElem? hx)).1
    obtain ⟨n, hn⟩ := List.getElem?_of_mem hx2
    exact a3 n x hn
theorem first_fold (v : List Nat → Int) (rest : List (List Nat)) : ∀ (pre : List (List Nat)) (b : List Nat), First v pre b → First v (pre ++ rest) (rest.foldl (fun (best : List Nat × Int) c => let x := v c
    if best.2 < x then (c, x) else best) (b, v b)).1 := by
  induction rest with
  | nil =>
    intro pre b h
    rw [List.append_nil]
    exact h
  | cons c r ih =>
    intro pre b h
    have e : pre ++ c :: r = (pre ++ [c]) ++ r := by simp
    rw [e, List.foldl_cons]
    obtain ⟨i, a1, a2, a3⟩ := h
    have hi := (List.getElem?_eq_some_iff.mp a1).1
    by_cases q : v b < v c
    · have e2 : (let x := v c
          if (b, v b).2 < x then (c, x) else (b, v b)) = (c, v c) := if_pos q
      rw [e2]
      refine ih _ c ⟨pre.length, by simp, fun j x hj hx => ?_, fun j x hx => ?_⟩
      · rw [List.getElem?_append_left hj] at hx
        have := a3 j x hx
        omega
      · by_cases hj : j < pre.length
        · rw [List.getElem?_append_left hj] at hx
          have := a3 j x hx
          omega
        · have hm := List.mem_of_getElem? hx
          rw [List.getElem?_append_right (by omega)] at hx
          have : x = c := by
            have := List.mem_of_getElem? hx
            simpa using this
          rw [this]
          exact Int.le_refl _
    · have e2 : (let x := v c
          if (b, v b).2 < x then (c, x) else (b, v b)) = (b, v b) := if_neg q
      rw [e2]
      refine ih _ b ⟨i, by rw [List.getElem?_append_left hi]; exact a1, fun j x hj hx => ?_, fun j x hx => ?_⟩
      · rw [List.getElem?_append_left (by omega)] at hx
        exact a2 j x hj hx
      · by_cases hj : j < pre.length
        · rw [List.getElem?_append_left hj] at hx
          exact a3 j x hx
        · rw [List.getElem?_append_right (by omega)] at hx
          have : x = c := by
            have := List.mem_of_getElem? hx
            simpa using this
          rw [this]
          omega
theorem firstMax_first (v : List Nat → Int) {L : List (List Nat)} (h : L ≠ []) : First v L (firstMaximum v L) := by
  cases L with
  | nil => exact absurd rfl h
  | cons a r =>
    have := first_fold v r [a] a ⟨0, rfl, fun j x hj => by omega, fun j x hx => by
      have := List.mem_of_getElem? hx
      rw [List.mem_singleton.mp this]
      exact Int.le_refl _⟩
    exact this

/-! ### all sequences in their order -/
def Lx : List Nat → List Nat → Prop
  | a :: l, b :: r => a < b ∨ (a = b ∧ Lx l r)
  | _, _ => False
theorem lx_no : ∀ {l r : List Nat}, Lx l r → ¬ Lx r l
  | a :: l, b :: r, h, h' => by
    rcases h with h | ⟨rfl, h⟩
    · rcases h' with h' | ⟨rfl, _⟩ <;> omega
    · rcases h' with h' | ⟨_, h'⟩
      · omega
      · exact lx_no h h'
theorem lx_at {c d : Nat} (h : c < d) : ∀ (A l r : List Nat), Lx (A ++ c :: l) (A ++ d :: r)
  | [], l, r => .inl h
  | a :: A, l, r => .inr ⟨rfl, lx_at h A l r⟩
theorem all_mem {b : Nat} : ∀ {n : Nat} {s : List Nat}, s ∈ allSequences b n ↔ s.length = n ∧ ∀ x ∈ s, x < b
  | 0, s => by
    show s ∈ [[]] ↔ _
    rw [List.mem_singleton]
    constructor
    · rintro rfl
      exact ⟨rfl, fun x h => by cases h⟩
    · rintro ⟨h, _⟩
      exact List.length_eq_zero_iff.mp h
  | n + 1, s => by
    show s ∈ (List.range b).flatMap (fun x => (allSequences b n).map fun r => x :: r) ↔ _
    rw [List.mem_flatMap]
    constructor
    · rintro ⟨x, hx, h⟩
      obtain ⟨r, hr, rfl⟩ := List.mem_map.mp h
      obtain ⟨h1, h2⟩ := all_mem.mp hr
      refine ⟨by rw [List.length_cons, h1], fun y hy => ?_⟩
      rcases List.mem_cons.mp hy with rfl | hy
      · exact List.mem_range.mp hx
      · exact h2 y hy
    · rintro ⟨h1, h2⟩
      cases s with
      | nil => simp at h1
      | cons x r =>
        refine ⟨x, List.mem_range.mpr (h2 x List.mem_cons_self), List.mem_map.mpr ⟨r, all_mem.mpr ⟨by simpa using h1, fun y hy => h2 y (List.mem_cons_of_mem _ hy)⟩, rfl⟩⟩
theorem all_sorted {b : Nat} : ∀ n : Nat, (allSequences b n).Pairwise Lx
  | 0 => List.pairwise_singleton _ _
  | n + 1 => by
    show ((List.range b).flatMap (fun x => (allSequences b n).map fun r => x :: r)).Pairwise Lx
    rw [List.pairwise_flatMap]
    refine ⟨fun x _ => ?_, List.pairwise_lt_range.imp fun {x y} h => fun s hs t ht => ?_⟩
    · rw [List.pairwise_map]
      exact (all_sorted n).imp fun h => .inr ⟨rfl, h⟩
    · obtain ⟨s, _, rfl⟩ := List.mem_map.mp hs
      obtain ⟨t, _, rfl⟩ := List.mem_map.mp ht
      exact .inl h
theorem all_len {b : Nat} : ∀ n : Nat, (allSequences b n).length = b ^ n
  | 0 => rfl
  | n + 1 => by
    show ((List.range b).flatMap (fun x => (allSequences b n).map fun r => x :: r)).length = _
    have : ∀ l : List Nat, (l.flatMap (fun x => (allSequences b n).map fun r => x :: r)).length = l.length * b ^ n := by
      intro l
      induction l with
      | nil => simp
      | cons x r ih => rw [List.flatMap_cons, List.length_append, ih, List.length_map, all_len n, List.length_cons, Nat.add_mul, Nat.one_mul, Nat.add_comm]
    rw [this, List.length_range, Nat.pow_succ, Nat.mul_comm]
theorem all_snoc {b : Nat} : ∀ n : Nat, allSequences b (n + 1) = (allSequences b n).flatMap fun s => (List.range b).map fun x => s ++ [x]
  | 0 => by
    show (List.range b).flatMap (fun x => [[]].map fun r => x :: r) = [[]].flatMap fun s => (List.range b).map fun x => s ++ [x]
    have : ∀ l : List Nat, l.flatMap (fun x => [([] : List Nat)].map fun r => x :: r) = l.map fun x => [x] := by
      intro l
      induction l with
      | nil => rfl
      | cons x r ih => rw [List.flatMap_cons, ih]; rfl
    rw [this, List.flatMap_cons, List.flatMap_nil, List.append_nil]
    rfl
  | n + 1 => by
    have ih := all_snoc (b := b) n
    have e : allSequences b (n + 1 + 1) = (List.range b).flatMap fun x => (allSequences b (n + 1)).map fun r => x :: r := rfl
    have e2 : allSequences b (n + 1) = (List.range b).flatMap fun x => (allSequences b n).map fun r => x :: r := rfl
    rw [e]
    conv => rhs; rw [e2]
    rw [List.flatMap_assoc]
    congr 1
    funext x
    rw [ih, List.map_flatMap, List.flatMap_map]
    congr 1
    funext s
    rw [List.map_map]
    rfl

/-! ### keys first used from 0 on -/
/-- how many keys are used; none if one was left out -/
def rg : Nat → List Nat → Option Nat
  | u, [] => some u
  | u, x :: r => if x ≤ u then rg (max u (x + 1)) r else none
theorem rg_snoc {x : Nat} : ∀ (s : List Nat) (u : Nat), rg u (s ++ [x]) = (rg u s).bind fun v => if x ≤ v then some (max v (x + 1)) else none
  | [], u => by
    show (if x ≤ u then rg (max u (x + 1)) [] else none) = _
    rfl
  | y :: s, u => by
    show (if y ≤ u then rg (max u (y + 1)) (s ++ [x]) else none) = (if y ≤ u then rg (max u (y + 1)) s else none).bind _
    by_cases h : y ≤ u
    · rw [if_pos h, if_pos h]
      exact rg_snoc s _
    · rw [if_neg h, if_neg h]
      rfl
theorem rg_mem : ∀ {s : List Nat} {u v : Nat}, rg u s = some v → ∀ x, x < v ↔ x < u ∨ x ∈ s
  | [], u, v, h, x => by
    cases h
    simp
  | y :: s, u, v, h, x => by
    have h : (if y ≤ u then rg (max u (y + 1)) s else none) = some v := h
    by_cases c : y ≤ u
    · rw [if_pos c] at h
      rw [rg_mem h x, List.mem_cons]
      constructor
      · rintro (h1 | h1)
        · by_cases e : x = y
          · exact .inr (.inl e)
          · exact .inl (by omega)
        · exact .inr (.inr h1)
      · rintro (h1 | h1 | h1)
        · exact .inl (by omega)
        · exact .inl (by omega)
        · exact .inr h1
    · rw [if_neg c] at h
      cases h
theorem rg_none : ∀ {s : List Nat} {u : Nat}, rg u s = none → ∃ A x B v, s = A ++ x :: B ∧ rg u A = some v ∧ v < x
  | [], u, h => by cases h
  | y :: s, u, h => by
    have h : (if y ≤ u then rg (max u (y + 1)) s else none) = none := h
    by_cases c : y ≤ u
    · rw [if_pos c] at h
      obtain ⟨A, x, B, v, rfl, e1, e2⟩ := rg_none h
      refine ⟨y :: A, x, B, v, rfl, ?_, e2⟩
      show (if y ≤ u then rg (max u (y + 1)) A else none) = some v
      rw [if_pos c]
      exact e1
    · exact ⟨[], y, s, u, rfl, rfl, by omega⟩
def isR (s : List Nat) : Bool := (rg 0 s).isSome
/-- a first greatest sequence uses its keys from 0 on -/
theorem first_isR {b n : Nat} {v : List Nat → Int} (hv : ∀ (x y : Nat) (s : List Nat), v (s.map (swp x y)) = v s) {m : List Nat} (h : First v (allSequences b n) m) : isR m = true := by
  unfold isR
  cases q : rg 0 m with
  | some w => rfl
  | none =>
    exfalso
    obtain ⟨A, x, B, u, rfl, e1, e2⟩ := rg_none q
    obtain ⟨i, a1, a2, a3⟩ := h
    obtain ⟨hlen, hb⟩ := all_mem.mp (List.mem_of_getElem? a1)
    have hA : A.map (swp x u) = A := by
      conv => rhs; rw [← List.map_id A]
      refine List.map_congr_left fun y hy => ?_
      have : y < u := (rg_mem e1 y).mpr (.inr hy)
      show swp x u y = y
      unfold swp
      rw [if_neg (by omega), if_neg (by omega)]
    have hx : swp x u x = u := if_pos rfl
    have em : (A ++ x :: B).map (swp x u) = A ++ u :: B.map (swp x u) := by
      rw [List.map_append, List.map_cons, hA, hx]
    have hxb : x < b := hb x (List.mem_append.mpr (.inr List.mem_cons_self))
    have hin : (A ++ x :: B).map (swp x u) ∈ allSequences b n := by
      refine all_mem.mpr ⟨by rw [List.length_map]; exact hlen, fun y hy => ?_⟩
      obtain ⟨z, hz, rfl⟩ := List.mem_map.mp hy
      have := hb z hz
      unfold swp
      split
      · omega
      · split
        · omega
        · exact this
    obtain ⟨j, hj⟩ := List.getElem?_of_mem hin
    have hvv := hv x u (A ++ x :: B)
    have hlx : Lx ((A ++ x :: B).map (swp x u)) (A ++ x :: B) := by
      rw [em]
      exact lx_at e2 A _ _
    obtain ⟨ji, je⟩ := List.getElem?_eq_some_iff.mp hj
    obtain ⟨ii, ie⟩ := List.getElem?_eq_some_iff.mp a1
    rcases Nat.lt_trichotomy i j with c | c | c
    · have := List.pairwise_iff_getElem.mp (all_sorted (b := b) n) i j ii ji c
      rw [ie, je] at this
      exact lx_no hlx this
    · subst c
      rw [a1] at hj
      have := Option.some.inj hj
      rw [← this] at hlx
      exact lx_no hlx hlx
    · have := a2 j _ c hj
      omega
/-- the greatest among the renamed ones is the greatest of all -/
theorem first_all {b n : Nat} (hb : 1 ≤ b) {v : List Nat → Int} (hv : ∀ (x y : Nat) (s : List Nat), v (s.map (swp x y)) = v s) {m : List Nat} (h : First v ((allSequences b n).filter isR) m) : firstMaximum v (allSequences b n) = m := by
  have ne : allSequences b n ≠ [] := fun z => by
    have := all_len (b := b) n
    rw [z] at this
    have : 0 < b ^ n := Nat.pow_pos (by omega)
    simp at *
    omega
  have h1 := firstMax_first v ne
  exact (h1.filter isR (first_isR hv h1)).one h

/-! ### the renamed sequences, level by level -/
def seqsOf (b : Nat) : Nat → List (List Nat)
  | 0 => [[]]
  | n + 1 => (allSequences b (n + 1)).filter isR
theorem seqs_eq {b : Nat} : ∀ n, seqsOf b n = (allSequences b n).filter isR
  | 0 => rfl
  | n + 1 => rfl
theorem range_cut (m : Nat) : ∀ b, (List.range b).filter (fun x => decide (x < m)) = List.range (min m b)
  | 0 => by simp
  | b + 1 => by
    rw [List.range_succ, List.filter_append, range_cut m b]
    by_cases h : b < m
    · have e1 : min m (b + 1) = b + 1 := by omega
      have e2 : min m b = b := by omega
      rw [e1, e2, List.range_succ, List.filter_cons, if_pos (by simpa using h)]
      rfl
    · have e1 : min m (b + 1) = min m b := by omega
      rw [e1, List.filter_cons, if_neg (by simpa using h)]
      simp
/-- how many keys a sequence of ours uses -/
theorem used_is {s : List Nat} {v : Nat} (h : rg 0 s = some v) {d : List Nat} (nd : d.Nodup) (hd : ∀ x, x ∈ d ↔ x ∈ s) : d.length = v := by
  have h1 : d.length ≤ (List.range v).length := nodup_le nd fun x hx => List.mem_range.mpr ((rg_mem h x).mpr (.inr ((hd x).mp hx)))
  have h2 : (List.range v).length ≤ d.length := nodup_le List.nodup_range fun x hx => (hd x).mpr (by
    rcases (rg_mem h x).mp (List.mem_range.mp hx) with z | z
    · omega
    · exact z)
  rw [List.length_range] at h1 h2
  omega
def usedOf (s : List Nat) : Nat := (rg 0 s).getD 0
theorem seqs_step {b : Nat} (n : Nat) : seqsOf b (n + 1) = (seqsOf b n).flatMap fun s => (List.range (min (usedOf s + 1) b)).map fun x => s ++ [x] := by
  rw [seqs_eq, seqs_eq, all_snoc, List.filter_flatMap]
  have : ∀ l : List (List Nat), (l.flatMap fun s => ((List.range b).map fun x => s ++ [x]).filter isR) = (l.filter isR).flatMap fun s => (List.range (min (usedOf s + 1) b)).map fun x => s ++ [x] := by
    intro l
    induction l with
    | nil => rfl
    | cons s r ih =>
      rw [List.flatMap_cons, ih, List.filter_cons]
      cases q : rg 0 s with
      | none =>
        have e : isR s = false := by unfold isR; rw [q]; rfl
        rw [e, if_neg (by decide)]
        have e2 : ((List.range b).map fun x => s ++ [x]).filter isR = [] := by
          rw [List.filter_eq_nil_iff]
          intro t ht
          obtain ⟨x, _, rfl⟩ := List.mem_map.mp ht
          unfold isR
          rw [rg_snoc, q]
          exact Bool.false_ne_true
        rw [e2, List.nil_append]
      | some v =>
        have e : isR s = true := by unfold isR; rw [q]; rfl
        rw [e, if_pos rfl, List.flatMap_cons]
        congr 1
        rw [List.filter_map]
        congr 1
        have e3 : usedOf s = v := by unfold usedOf; rw [q]; rfl
        rw [e3, ← range_cut]
        refine List.filter_congr fun x hx => ?_
        show (rg 0 (s ++ [x])).isSome = _
        rw [rg_snoc, q]
        show (if x ≤ v then some (max v (x + 1)) else none).isSome = _
        by_cases c : x ≤ v
        · rw [if_pos c, decide_eq_true (by omega)]
          rfl
        · rw [if_neg c, decide_eq_false (by omega)]
          rfl
  exact this _
theorem seqs_len {b n : Nat} : (seqsOf b n).length ≤ b ^ n := by
  rw [seqs_eq, ← all_len]
  exact List.length_filter_le _ _
theorem seqs_mem {b n : Nat} {s : List Nat} (h : s ∈ seqsOf b n) : s.length = n ∧ (∀ x ∈ s, x < b) ∧ isR s = true := by
  rw [seqs_eq] at h
  obtain ⟨h1, h2⟩ := List.mem_filter.mp h
  obtain ⟨h3, h4⟩ := all_mem.mp h1
  exact ⟨h3, h4, h2⟩
theorem seqs_ne {b n : Nat} (hb : 1 ≤ b) : seqsOf b n ≠ [] := by
  induction n with
  | zero => exact fun z => by cases z
  | succ n ih =>
    rw [seqs_step]
    cases q : seqsOf b n with
    | nil => exact absurd q ih
    | cons s r =>
      rw [List.flatMap_cons]
      intro z
      have := (List.append_eq_nil_iff.mp z).1
      rw [List.map_eq_nil_iff, List.range_eq_nil] at this
      omega
theorem sep_of {p q cap b n : Nat} (hb : 1 ≤ b) {m : List Nat} (h : First (fun s => (missCount p cap s : Int) - (missCount q cap s : Int)) (seqsOf b n) m) : separatingSequence p q cap b n = m := by
  rw [seqs_eq] at h
  exact first_all hb (fun x y s => by
    show (missCount p cap (s.map (swp x y)) : Int) - (missCount q cap (s.map (swp x y)) : Int) = _
    rw [ren_misses (swp_inj x y), ren_misses (swp_inj x y)]) h
theorem worst_of {p cap b n : Nat} (hb : 1 ≤ b) {m : List Nat} (h : First (fun s => (missCount p cap s : Int) - ((optimalPlan cap s).misses : Int)) (seqsOf b n) m) : worstSequence p cap b n = m := by
  rw [seqs_eq] at h
  exact first_all hb (fun x y s => by
    show (missCount p cap (s.map (swp x y)) : Int) - ((optimalPlan cap (s.map (swp x y))).misses : Int) = _
    rw [ren_misses (swp_inj x y), ren_optimal]) h
/-! ### the anomaly -/
theorem anomaly_none {p cap : Nat} {s : List Nat} (h : ∀ n, n ≤ s.length → ¬ missCount p cap (s.take n) < missCount p (cap + 1) (s.take n)) : anomalyLength p cap s = none := by
  unfold anomalyLength
  rw [List.find?_eq_none]
  intro n hn
  have := h n (by have := List.mem_range.mp hn; omega)
  simpa using this
theorem anomaly_some {p cap n : Nat} {s : List Nat} (hn : n ≤ s.length) (h : missCount p cap (s.take n) < missCount p (cap + 1) (s.take n)) (h0 : ∀ m, m < n → ¬ missCount p cap (s.take m) < missCount p (cap + 1) (s.take m)) : anomalyLength p cap s = some n := by
  unfold anomalyLength
  have : ∀ k, n ≤ k → (List.range (k + 1)).find? (fun n => decide (missCount p cap (s.take n) < missCount p (cap + 1) (s.take n))) = some n := by
    intro k hk
    induction k with
    | zero =>
      have : n = 0 := by omega
      subst this
      have h' : missCount p cap [] < missCount p (cap + 1) [] := by simpa using h
      simp [List.range_succ, h']
    | succ k ih =>
      rw [List.range_succ, List.find?_append]
      by_cases c : n ≤ k
      · rw [ih c]
        rfl
      · have e : n = k + 1 := by omega
        subst e
        have : (List.range (k + 1)).find? (fun n => decide (missCount p cap (s.take n) < missCount p (cap + 1) (s.take n))) = none := by
          rw [List.find?_eq_none]
          intro m hm
          have := h0 m (by have := List.mem_range.mp hm; omega)
          simpa using this
        rw [this]
        simp [h]
  exact this _ hn
end Lab

/-! (misses, evictions) < (misses, evictions): a rule of my own. -/
namespace Lab
open PySem PySem.Spec PyProof.Rows L2
/-- lists of whole numbers by their first unlike place -/
def lessI : List Int → List Int → Bool
  | [], _ :: _ => true
  | a :: l, b :: r => if a = b then lessI l r else decide (a < b)
  | _, [] => false
theorem lessI_less : ∀ (l r : List Nat), lessI (l.map fun n : Nat => (n : Int)) (r.map fun n : Nat => (n : Int)) = Vakptc.isLess l r
  | [], [] => rfl
  | [], _ :: _ => rfl
  | _ :: _, [] => rfl
  | a :: l, b :: r => by
    show (if (a : Int) = (b : Int) then lessI (l.map _) (r.map _) else decide ((a : Int) < (b : Int))) = (decide (a < b) || (a == b && Vakptc.isLess l r))
    by_cases h : a = b
    · subst h
      rw [if_pos rfl, lessI_less l r]
      simp
    · have h0 : ¬ ((a : Int) = (b : Int)) := fun z => h (by omega)
      rw [if_neg h0]
      have h2 : (a == b) = false := by simpa using h
      rw [h2]
      simp
/-- the first unlike place, by places -/
theorem lessI_first (l r : List Int) (F : Nat → Bool) (G : Nat → Bool) : ∀ (k i : Nat), (min l.length r.length) - i = k → (∀ j, j < l.length → j < r.length → F j = decide (l.getD j 0 = r.getD j 0)) → (∀ j, j < l.length → j < r.length → G j = decide (l.getD j 0 < r.getD j 0)) → i ≤ min l.length r.length →
    Ob.lexAt F G (decide (l.length < r.length)) i k = lessI (l.drop i) (r.drop i)
  | 0, i, hk, hF, hG, hi => by
    have e : i = min l.length r.length := by omega
    rw [Ob.lexAt_zero]
    by_cases h : l.length < r.length
    · have : i = l.length := by omega
      rw [this, List.drop_length, decide_eq_true h]
      cases q : r.drop l.length with
      | nil =>
        have := congrArg List.length q
        rw [List.length_drop] at this
        simp at this
        omega
      | cons a t => rfl
    · have : i = r.length := by omega
      rw [this, List.drop_length, decide_eq_false h]
      cases q : l.drop r.length with
      | nil => rfl
      | cons a t => rfl
  | k + 1, i, hk, hF, hG, hi => by
    have h1 : i < l.length := by omega
    have h2 : i < r.length := by omega
    rw [Ob.lexAt_succ, hF i h1 h2, hG i h1 h2, List.drop_eq_getElem_cons h1, List.drop_eq_getElem_cons h2]
    have e1 : l.getD i 0 = l[i] := by simp [List.getD_eq_getElem?_getD, h1]
    have e2 : r.getD i 0 = r[i] := by simp [List.getD_eq_getElem?_getD, h2]
    rw [e1, e2]
    show _ = (if l[i] = r[i] then lessI (l.drop (i + 1)) (r.drop (i + 1)) else decide (l[i] < r[i]))
    by_cases h : l[i] = r[i]
    · rw [if_pos h, if_pos (by simpa using h)]
      exact lessI_first l r F G k (i + 1) (by omega) hF hG (by omega)
    · rw [if_neg h, if_neg (by simpa using h)]
theorem first_is (e r : Nat → Bool) (z : Bool) : ∀ (k i : Nat), SeqAt.firstLt e r z ((List.range k).map (· + i)) = Ob.lexAt e r z i k
  | 0, i => rfl
  | k + 1, i => by
    have e1 : (List.range (k + 1)).map (· + i) = i :: (List.range k).map (· + (i + 1)) := by
      rw [List.range_succ_eq_map, List.map_cons, List.map_map]
      congr 1
      · omega
      · refine List.map_congr_left fun a _ => ?_
        show (a + 1) + i = a + (i + 1)
        omega
    rw [e1, Ob.lexAt_succ, ← first_is e r z k (i + 1)]
    cases h : e i with
    | true => rw [SeqAt.firstLt_yes h, if_pos rfl]
    | false => rw [SeqAt.firstLt_no h, if_neg (by decide)]
section
variable {A : Around} {s : Shared} {la lb : Addr} {us ws : List Value} {ms ns : List Int}
/-- two lists of whole numbers, == -/
theorem eq_listI (hl : s.heap.IsList la us.toArray) (hb : s.heap.IsList lb ws.toArray) (h1 : IntsAre us ms) (h2 : IntsAre ws ns) (hu : A.units < cLine) : SeqAt.EqAt A s (.ref la) (.ref lb) (decide (ms = ns)) := by
  have l1 : us.toArray.size = ms.length := by rw [List.size_toArray]; exact h1.length
  have l2 : ws.toArray.size = ns.length := by rw [List.size_toArray]; exact h2.length
  have at1 : ∀ j (j1 : j < us.toArray.size), ∃ t, us.toArray[j] = .int (ms.getD j 0) t := fun j j1 => IntsAre.int_at h1 _ _ (by simp at j1; simp [j1])
  have at2 : ∀ j (j1 : j < ws.toArray.size), ∃ t, ws.toArray[j] = .int (ns.getD j 0) t := fun j j1 => IntsAre.int_at h2 _ _ (by simp at j1; simp [j1])
  by_cases hab : la = lb
  · clear at1 at2
    subst hab
    have e : us = ws := by
      obtain ⟨o, ho, hc, n, hd⟩ := hl
      obtain ⟨o', ho', hc', n', hd'⟩ := hb
      rw [ho] at ho'
      cases ho'
      rw [hd] at hd'
      injection hd' with hd'
      have := congrArg Array.toList hd'
      simpa using this
    subst e
    have e2 : ms = ns := by
      clear hl hb l1 l2 hu
      induction h1 generalizing ns with
      | nil => cases h2; rfl
      | cons a t r ih =>
        cases h2 with
        | cons b t' r' =>
          rw [ih r']
    rw [decide_eq_true e2]
    exact SeqAt.EqAt.same _
  · by_cases hlen : ms.length = ns.length
    · have hsz : us.toArray.size = ws.toArray.size := by rw [l1, l2, hlen]
      have R := SeqAt.RcAt.lists (A := A) (s := s) (e := fun j => decide (ms.getD j 0 = ns.getD j 0)) hl hb hsz hu fun j j1 j2 => by
        obtain ⟨t, et⟩ := at1 j j1
        obtain ⟨t', et'⟩ := at2 j j2
        rw [et, et']
        have z : (ms.getD j 0 == ns.getD j 0) = decide (ms.getD j 0 = ns.getD j 0) := rfl
        rw [← z]
        exact SeqAt.EqAt.int_int _ _ _ _
      have e : ((List.range us.toArray.size).all fun j => decide (ms.getD j 0 = ns.getD j 0)) = decide (ms = ns) := by
        rw [l1, Bool.eq_iff_iff, List.all_eq_true, decide_eq_true_eq]
        constructor
        · intro h
          apply List.ext_getElem hlen
          intro j j1 j2
          have := h j (List.mem_range.mpr j1)
          simpa [List.getD_eq_getElem?_getD, j1, j2] using this
        · rintro rfl j _
          simp
      rw [e] at R
      exact SeqAt.EqAt.of_refs hab R
    · rw [decide_eq_false (fun z => hlen (by rw [z]))]
      exact SeqAt.EqAt.of_refs hab (SeqAt.RcAt.lists_lengths hl hb (by rw [l1, l2]; simpa using hlen) hu)
/-- .. < -/
theorem lt_listI (hl : s.heap.IsList la us.toArray) (hb : s.heap.IsList lb ws.toArray) (h1 : IntsAre us ms) (h2 : IntsAre ws ns) (hu : A.units < cLine) : SeqAt.RcLt A s (.ref la) (.ref lb) (lessI ms ns) := by
  have l1 : us.toArray.size = ms.length := by rw [List.size_toArray]; exact h1.length
  have l2 : ws.toArray.size = ns.length := by rw [List.size_toArray]; exact h2.length
  have at1 : ∀ j (j1 : j < us.toArray.size), ∃ t, us.toArray[j] = .int (ms.getD j 0) t := fun j j1 => IntsAre.int_at h1 _ _ (by simp at j1; simp [j1])
  have at2 : ∀ j (j1 : j < ws.toArray.size), ∃ t, ws.toArray[j] = .int (ns.getD j 0) t := fun j j1 => IntsAre.int_at h2 _ _ (by simp at j1; simp [j1])
  have R := SeqAt.RcLt.lists (A := A) (s := s) (e := fun j => decide (ms.getD j 0 = ns.getD j 0)) (r := fun j => decide (ms.getD j 0 < ns.getD j 0)) hl hb hu (fun j j1 j2 => by
    obtain ⟨t, et⟩ := at1 j j1
    obtain ⟨t', et'⟩ := at2 j j2
    rw [et, et']
    have z : (ms.getD j 0 == ns.getD j 0) = decide (ms.getD j 0 = ns.getD j 0) := rfl
    rw [← z]
    exact SeqAt.EqAt.int_int _ _ _ _) (fun j j1 j2 _ => by
    obtain ⟨t, et⟩ := at1 j j1
    obtain ⟨t', et'⟩ := at2 j j2
    rw [et, et']
    exact fun _ _ _ _ h => PyProof.Rows.lt_int h)
  rw [l1, l2] at R
  have e : SeqAt.firstLt (fun j => decide (ms.getD j 0 = ns.getD j 0)) (fun j => decide (ms.getD j 0 < ns.getD j 0)) (decide (ms.length < ns.length)) (List.range (min ms.length ns.length)) = lessI ms ns := by
    have q := first_is (fun j => decide (ms.getD j 0 = ns.getD j 0)) (fun j => decide (ms.getD j 0 < ns.getD j 0)) (decide (ms.length < ns.length)) (min ms.length ns.length) 0
    have q2 : (List.range (min ms.length ns.length)).map (· + 0) = List.range (min ms.length ns.length) := by simp
    rw [q2] at q
    rw [q]
    have := lessI_first ms ns (fun j => decide (ms.getD j 0 = ns.getD j 0)) (fun j => decide (ms.getD j 0 < ns.getD j 0)) (min ms.length ns.length) 0 rfl (fun _ _ _ => rfl) (fun _ _ _ => rfl) (Nat.zero_le _)
    simpa using this
  rw [e] at R
  exact R
end
/-- a way: misses, evictions -/
def WayAt (H : Hp) (a : Addr) (m : Int) (ms : List Int) : Prop := ∃ l, H a = some (.tup [.int m, .ref l]) ∧ H l = some (.lst (ms.map V.int))
def wayLt (m : Int) (ms : List Int) (n : Int) (ns : List Int) : Bool := if m = n then lessI ms ns else decide (m < n)
def rLtW : R2 := fun x y H Q => ∃ (a b : Addr) (m n : Int) (ms ns : List Int), x = .ref a ∧ y = .ref b ∧ WayAt H a m ms ∧ WayAt H b n ns ∧ Q (.bl (wayLt m ms n ns)) H
theorem op_ltW {X : Cx} {k : Nat} (hr : Room (k + 2) X.A) : OpR X (compareOp .Lt) rLtW := by
  intro pins s σ H x y v u Q I rx ry h
  obtain ⟨a, b, m, n, ms, ns, rfl, rfl, ⟨la, ha, hla⟩, ⟨lb, hb, hlb⟩, q⟩ := h
  cases rx
  cases ry
  obtain ⟨its, r1, p1, _⟩ := I.tuple (.inl (.inl ha))
  obtain ⟨its2, r2, p2, _⟩ := I.tuple (.inl (.inl hb))
  obtain ⟨us, ru, pl1, _⟩ := I.list (.inl (.inl hla))
  obtain ⟨ws, rw2, pl2, _⟩ := I.list (.inl (.inl hlb))
  cases r1 with
  | cons r11 r12 =>
    cases r12 with
    | cons r13 r14 =>
      cases r14
      cases r2 with
      | cons r21 r22 =>
        cases r22 with
        | cons r23 r24 =>
          cases r24
          obtain ⟨t, rfl⟩ := r11
          obtain ⟨t', rfl⟩ := r21
          cases r13
          cases r23
          have i1 : IntsAre us ms := ru.ints
          have i2 : IntsAre ws ns := rw2.ints
          have hu1 := (hr.in1).units0
          have R := Ob.RcOp.tuples_lt (A := X.A) (s := s) (e := fun j => if j = 0 then decide (m = n) else decide (ms = ns)) (r := fun j => if j = 0 then decide (m < n) else lessI ms ns) p1 p2 hr.units0 (fun j j1 j2 => by
            have : j = 0 ∨ j = 1 := by simp at j1; omega
            rcases this with rfl | rfl
            · have z : (m == n) = decide (m = n) := rfl
              show SeqAt.EqAt X.A.in1 s (.int m t) (.int n t') (decide (m = n))
              rw [← z]
              exact SeqAt.EqAt.int_int _ _ _ _
            · exact eq_listI pl1.isList pl2.isList i1 i2 hu1) (fun j j1 j2 _ => by
            have : j = 0 ∨ j = 1 := by simp at j1; omega
            rcases this with rfl | rfl
            · exact Ob.RcOp.lt_int _ _ _ _
            · exact lt_listI pl1.isList pl2.isList i1 i2 hu1)
          have e : Ob.lexAt (fun j => if j = 0 then decide (m = n) else decide (ms = ns)) (fun j => if j = 0 then decide (m < n) else lessI ms ns) (decide (2 < 2)) 0 2 = wayLt m ms n ns := by
            rw [Ob.lexAt_succ, Ob.lexAt_succ, Ob.lexAt_zero]
            unfold wayLt
            by_cases h1 : m = n
            · rw [if_pos h1, if_pos (by simpa using h1)]
              by_cases h2 : ms = ns
              · have e2 : lessI ns ns = false := by
                  have : ∀ l : List Int, lessI l l = false := by
                    intro l
                    induction l with
                    | nil => rfl
                    | cons a r ih =>
                      show (if a = a then lessI r r else _) = false
                      rw [if_pos rfl]
                      exact ih
                  exact this ns
                rw [if_pos (by simpa using h2), h2, e2]
                rfl
              · rw [if_neg (by simpa using h2)]
                rfl
            · rw [if_neg h1, if_neg (by simpa using h1)]
              rfl
          have z : wpAny (model X.prog X.w) X.A (compareOp .Lt (.ref a) (.ref b)) (EP X pins σ Q) X.xe s := R X.prog X.w X.xe (EP X pins σ Q) ⟨.bl _, H, I, rfl, by
            have e' : Ob.lexAt (fun j => if j = 0 then decide (m = n) else decide (ms = ns)) (fun j => if j = 0 then decide (m < n) else lessI ms ns) (decide ([Value.int m t, Value.ref la].toArray.size < [Value.int n t', Value.ref lb].toArray.size)) 0 (min [Value.int m t, Value.ref la].toArray.size [Value.int n t', Value.ref lb].toArray.size) = wayLt m ms n ns := e
            rw [e']
            exact q⟩
          exact z
end Lab

/-! for k, v in d.items(), d a dict whose keys are tuples: a rule of my own. -/
namespace Lab
open PySem PySem.Spec PyProof.Rows L2
section
variable {X : Cx} {pins : List (Addr × Obj)} {σ : L2.St} {H : Hp} {s : Shared} {d : Addr} {o : Obj}
theorem frzT_vals {kvs : List (List Key × V)} (J : Inv X pins σ H s) (hD : H d = some (.frz o (.dT kvs))) :
    (d == sysModules) = false ∧ s.heap.get? d = some o ∧
      o.ExactDict ∧ ∃ (es : Array DictEntry) (ep : Nat), o.data = .dict es ep ∧ es.size = kvs.length ∧
      ∀ (n : Nat) (ky : List Key) (x : V), kvs[n]? = some (ky, x) → ∃ (e : DictEntry) (t : Addr), es[n]? = some e ∧ e.key = .ref t ∧ H t = some (.tup (ky.map kV)) ∧ RelV x e.val := by
  obtain ⟨g, _, ns, l, pr, o2, es, ep, g2, ex, dt, en, _⟩ := J.hok d _ hD
  have eo : o2 = o := Option.some.inj (g2.symm.trans g)
  subst eo
  have z1 : kvs.length = l.length := Paired.length pr
  refine ⟨ns, g, ex, es, ep, dt, (size_of_entries en).trans z1.symm, fun n ky x q => ?_⟩
  obtain ⟨b, hb, _, e2, e3⟩ := paired_get pr q
  have at_ := entry_at en n
  rw [hb] at at_
  exact ⟨_, b.2.1, at_, rfl, e2, e3⟩
end
/-- the pairs of the locked dict, each a new tuple of the key's own tuple and the value -/
def Itp (d : Addr) (o : Obj) (kvs : List (List Key × V)) : It where
  go i H := H d = some (.frz o (.dT kvs)) ∧ i < kvs.length
  yld i H x H' := ∃ (T : Addr) (ky : List Key) (v : V) (q : Addr), kvs[i]? = some (ky, v) ∧ x = .ref T ∧ H T = none ∧ H q = some (.tup (ky.map kV)) ∧ H' = upd H T (.tup [.ref q, v])
  stop i H := H d = some (.frz o (.dT kvs)) ∧ kvs.length ≤ i
section
variable {P : Program} {w : World} {K : PySem.W.Frag} {d : Addr} {o : Obj} {es : Array DictEntry} {ep : Nat}
theorem turn_itemsT {kvs : List (List Key × V)} {elts : List Expr} {kk : Nat} {tpos : Pos} (it : Addr) (hod : o.data = .dict es ep) :
    Turn P w K (.Tuple elts kk tpos) (Itp d o kvs) [it] it (fun i h => ∃ a b, IsItemIter h it d i kvs.length ep a b) where
  mem := List.mem_singleton.mpr rfl
  obj := fun i h st c hc => by
    obtain ⟨a, b, z⟩ := st
    rw [List.mem_singleton.mp hc]
    exact ⟨_, z, fun v q => by cases q⟩
  keep := fun i h h' ⟨a, b, z⟩ k => ⟨a, b, k it (List.mem_singleton.mpr rfl) _ z⟩
  item := by
    intro X hP hw hK hc i pins s σ H E J hf ⟨a, b, st⟩ ⟨hD, hi⟩
    subst hP hw hK
    have lt := Heap.lt_size st
    obtain ⟨_, g, ex, es', ep', dt, sz, ent⟩ := frzT_vals J hD
    obtain ⟨rfl, rfl⟩ := dict_ep hod dt
    obtain ⟨⟨ky, v⟩, hkv⟩ : ∃ p, kvs[i]? = some p := ⟨_, List.getElem?_eq_getElem hi⟩
    obtain ⟨e, q, he, hkey, hq, hval⟩ := ent i ky v hkv
    have hi' : i < es'.size := by omega
    obtain ⟨_, he2⟩ := Array.getElem?_eq_some_iff.mp he
    rw [← sz] at st
    refine DT.nextI st ⟨o, g, ex, dt⟩ hi' fun h1 o1 t1 z1 k1 => ?_
    rw [he2] at o1 t1
    refine ⟨_, rfl, wpAny_letOwnedTupleGo_items (s := { s with heap := h1 }) o1 fun h2 o2 sb => ?_⟩
    have t2 := (sb.2 _ (Nat.ne_of_gt lt)).trans t1
    have nw : ObjOk X.prog X.w (upd H s.heap.objs.size (.tup [.ref q, v])) h2 s.heap.objs.size (.tup [.ref q, v]) :=
      ⟨by show 2 ≤ sizeLine; decide, [e.key, e.val], .cons (by rw [hkey]; rfl) (.cons hval .nil), ⟨_, t2, rfl, _, rfl⟩⟩
    have J1 := J.turnedNew (t' := s.toks) (ch := [it]) (h' := h2) (fun c oc hc' q' => (sb.2 c (fun z => hc' (List.mem_singleton.mpr z))).trans (k1 c oc (fun z => hc' (List.mem_singleton.mpr z)) q')) hf (Nat.le_refl _) nw
    refine ⟨.ref s.heap.objs.size, _, J1, rfl, ⟨_, ky, v, q, hkv, rfl, J.hok.fresh (Nat.le_refl _), hq, rfl⟩, ⟨e.key, e.val, by rw [← sz]; exact o2⟩, fun c hc' => ?_⟩
    rw [List.mem_singleton.mp hc', upd_ne (Nat.ne_of_lt lt)]
    exact (hf it (List.mem_singleton.mpr rfl)).1
  done := by
    intro X hP hw hK hc i pins s σ H E J hf ⟨a, b, st⟩ ⟨hD, hi⟩
    subst hP hw hK
    obtain ⟨f0, f1, _, f3, f4, f5⟩ := hf it (List.mem_singleton.mpr rfl)
    obtain ⟨_, g, ex, es', ep', dt, sz, _⟩ := frzT_vals J hD
    obtain ⟨rfl, rfl⟩ := dict_ep hod dt
    rw [← sz] at st hi
    exact DT.endI (J.ok.hd hc) st ⟨o, g, ex, dt⟩ hi fun h' kp => ⟨rfl, J.turned (t' := s.toks) (fun c oc hc' q => kp c oc hc' q) f0 f1 f3 f4 f5⟩
  self := fun A i s Q E ⟨_, _, z⟩ h => PySem.W.kcp_self z h
end
def iItemsT (td : TE) : TI := fun σ H R => td σ H fun x H1 => ∃ d o kvs, x = .ref d ∧ H1 d = some (.frz o (.dT kvs)) ∧ R (Itp d o kvs) H1
theorem pi_itemsT {X : Cx} {e : Expr} {td : TE} {apos cpos tpos : Pos} {elts : List Expr} {kk : Nat} (he : PE X e td) (hbase : attributeBase e "items" X.env (eval e X.env) = eval e X.env := by rfl) (hline : (apos.endLine == cpos.line) = true := by rfl) :
    PI X (.Tuple elts kk tpos) (.Call (.Attribute e "items" apos) [] [] cpos) (iItemsT td) := by
  refine ⟨fun pins s σ H R J h => ?_⟩
  refine wpAny_Call_method (T := "dict") (id := "dict.items") hbase rfl hline PySem.F.plainAttrs_dict PySem.F.slot_dict_items PySem.F.type_dict_items (thn (he.run pins s σ H _ J h) fun u s1 ⟨x, H1, J1, rx, d, o, kvs, ex, hD, q⟩ => ?_)
  subst ex
  obtain rfl : u = Value.ref d := rx
  obtain ⟨ns, g, xd, es, ep, dt, sz, _⟩ := frzT_vals J1 hD
  have ty : s1.TypeIs (.ref d) "dict" := ⟨o, g, xd.1⟩
  have raw : DT.Raw s1.heap d es ep := ⟨o, g, xd, dt⟩
  refine ⟨ty, ?_, ?_⟩
  · exact fun a' z => by cases z; exact ⟨o, g, xd.2.1⟩
  have J2 : Inv X pins σ H1 { s1 with heap := s1.heap.push { cls := .type "dict_items", data := .fields #[.ref d] } } := J1.kept (t' := s1.toks) fun b ob z => Heap.get?_push_of_some _ z
  have walk : wpAny (model X.prog X.w) X.A (pyIter (.ref s1.heap.objs.size)) (PIE X pins σ (.Tuple elts kk tpos) R) X.xe { s1 with heap := s1.heap.push { cls := .type "dict_items", data := .fields #[.ref d] } } := by
    refine DT.iterI (d := d) ⟨_, Heap.get?_push_size _ rfl, rfl, rfl⟩ (raw.push _) (pi_one (tk := s1.toks) J2 _ (turn_itemsT _ dt) ⟨.none, .none, ?_⟩ q)
    rw [← sz]
    exact Heap.get?_push_size _ rfl
  show wpAny _ _ (callWith cpos (.builtin "dict.items") [.ref d] [] []) _ _ s1
  exact method_meetsIn PySem.F.slot_dict_items PySem.F.entry_dict_items rfl (PySem.evalArgs_none ⟨rfl, ty, PySem.F.args_dict_items_1 _, _, DT.meetsItems (es := es) (ep := ep) ns, raw, walk⟩)
end Lab

/-! {t: v} with a tuple for its key; len(set(xs)) of any whole numbers; sorted(t) of a tuple: rules of my own. -/
namespace Lab
open PySem PySem.Spec PyProof.Rows L2
/-- {k: v}, k a tuple -/
def tDisp1 (tk tv : TE) : TE := fun σ H Q => ∀ p, H p = none → tk σ (upd H p (.dT [])) fun x H1 => tv σ H1 fun y H2 => ∃ (ky : List Key) (t : Addr) (z : V), [(x, y)] = [(V.ref t, z)] ∧ H2 t = some (.tup (ky.map kV)) ∧ H2 p = some (.dT []) ∧ Q (.ref p) (upd H2 p (.dT [(ky, z)]))
theorem pe_disp1 {X : Cx} {pos : Pos} {k v : Expr} {tk tv : TE} (hu : X.A.units < cLine) (hk : PE X k tk) (hv : PE X v tv) : PE X (.Dict [some k] [v] pos) (tDisp1 tk tv) := by
  refine ⟨fun pins s σ H Q J q => ?_⟩
  have hn := J.hok.fresh (Nat.le_refl s.heap.objs.size)
  have J1 := J.laid (a := s.heap.objs.size) (o := .dT []) (h' := s.heap.push { cls := .type "dict", data := .dict #[] }) (t' := s.toks) (fun _ _ z => Heap.get?_push_of_some _ z) (Nat.le_refl _) (dt_empty s.heap J.big)
  rw [arm_eval_Dict, zip_pairTrees [some k] [v] X.env pos rfl rfl, dictDisplay_pairs _ (fun z => by cases z) (by show 1 < 17; decide)]
  refine wpAny_bind (wpAny_standAt (wpAny_bind ?_))
  unfold subDict
  refine wpAny_bind (wpAny_alloc (wpAny_bind (wpAny_holding ?_)))
  have hlen := pairTrees_length [some k] [v] X.env pos rfl rfl
  rw [if_pos (show (pairTrees [some k] [v] X.env pos).length ≤ 15 by rw [hlen]; show 1 ≤ 15; decide)]
  refine wpAny_bind (thn ((pps_cons hk hv pps_nil).run pins _ σ _ (fun ps H2 => ∃ (ky : List Key) (t : Addr) (z : V), ps = [(V.ref t, z)] ∧ H2 t = some (.tup (ky.map kV)) ∧ H2 s.heap.objs.size = some (.dT []) ∧ Q (.ref s.heap.objs.size) (upd H2 s.heap.objs.size (.dT [(ky, z)]))) J1 (q _ hn)) fun ws s2 ⟨ps, H2, J2, rel, ky, t, y, e, ht, hp, q2⟩ => ?_)
  subst e
  cases rel with
  | @cons _ w0 _ _ r0 r1 =>
    cases r1
    obtain ⟨u0, u1⟩ := w0
    obtain ⟨ra, rb⟩ := r0
    obtain rfl : u0 = Value.ref t := ra
    obtain ⟨z, hd, xs, rl, dd⟩ := dt_of J2.hok hp
    cases rl
    refine wpAny_holding (wpAny_bind ?_)
    rw [List.forIn_cons]
    refine wpAny_bind (wpAny_bind (wpAny_dictSet_heap (knd := tupleKind (mixKind X.prog X.w)) (hsz := Nat.zero_le _) hu (key_of J2.hok ht) dd fun h' dd' hs => wpAny_pure ?_))
    dsimp only
    rw [List.forIn_nil]
    refine wpAny_pure (wpAny_pure (wpAny_pure (wpAny_pure ⟨.ref s.heap.objs.size, _, ?_, rfl, q2⟩)))
    obtain ⟨qo, es, ep, hq, h2, h3, h4, _, h5⟩ := dd'
    refine d_write J2 (by rw [hp]; exact True.intro) hs ⟨qo, hq⟩ ⟨by show 1 ≤ sizeLine; decide, hd, [(ky, t, u1)], .cons ⟨rfl, ?_, rb⟩ .nil, qo, es, ep, hq, h2, h3, h4, h5⟩
    show upd H2 s.heap.objs.size (.dT [(ky, y)]) t = _
    rw [upd_ne (ne_of ht hp (fun z => nomatch z))]
    exact ht
/-! ### len(set(xs)) -/
theorem firstMet_mem (val : Nat → Int) : ∀ (n : Nat) (x : Int), x ∈ PyProof.Rows.firstMet val n ↔ ∃ i, i < n ∧ val i = x
  | 0, x => by
    rw [PyProof.Rows.firstMet_zero]
    simp
  | n + 1, x => by
    have ih := firstMet_mem val n
    rw [PyProof.Rows.firstMet_succ]
    show x ∈ (if (PyProof.Rows.firstMet val n).any (· == val n) then PyProof.Rows.firstMet val n else PyProof.Rows.firstMet val n ++ [val n]) ↔ _
    cases q : (PyProof.Rows.firstMet val n).any (· == val n) with
    | true =>
      rw [if_pos rfl, ih]
      obtain ⟨y, hy, e⟩ := List.any_eq_true.mp q
      have e : y = val n := eq_of_beq e
      rw [e] at hy
      obtain ⟨j, hj, ej⟩ := (ih _).mp hy
      constructor
      · rintro ⟨i, h1, h2⟩
        exact ⟨i, by omega, h2⟩
      · rintro ⟨i, h1, h2⟩
        by_cases c : i < n
        · exact ⟨i, c, h2⟩
        · have : i = n := by omega
          subst this
          exact ⟨j, hj, ej.trans h2⟩
    | false =>
      rw [if_neg (by decide), List.mem_append, ih, List.mem_singleton]
      constructor
      · rintro (⟨i, h1, h2⟩ | h)
        · exact ⟨i, by omega, h2⟩
        · exact ⟨n, by omega, h.symm⟩
      · rintro ⟨i, h1, h2⟩
        by_cases c : i < n
        · exact .inl ⟨i, c, h2⟩
        · have : i = n := by omega
          subst this
          exact .inr h2.symm
theorem firstMet_once (val : Nat → Int) : ∀ n, (PyProof.Rows.firstMet val n).Nodup
  | 0 => List.nodup_nil
  | n + 1 => by
    have ih := firstMet_once val n
    rw [PyProof.Rows.firstMet_succ]
    show (if (PyProof.Rows.firstMet val n).any (· == val n) then PyProof.Rows.firstMet val n else PyProof.Rows.firstMet val n ++ [val n]).Nodup
    cases q : (PyProof.Rows.firstMet val n).any (· == val n) with
    | true =>
      rw [if_pos rfl]
      exact ih
    | false =>
      rw [if_neg (by decide), List.nodup_append]
      refine ⟨ih, by simp, fun a ha b hb z => ?_⟩
      rw [List.mem_singleton.mp hb] at z
      have : (PyProof.Rows.firstMet val n).any (· == val n) = true := List.any_eq_true.mpr ⟨a, ha, by rw [z]; exact beq_self_eq_true _⟩
      rw [q] at this
      cases this
/-- how many distinct numbers -/
def tLenSetM (K : PySem.W.Frag) (ta : TE) : TE := fun σ H Q => ta σ H fun x H1 => ∃ (l : Addr) (ns : List Int), x = .ref l ∧ SqL K H1 l (ns.map V.int) ∧ ns.length ≤ 4000 ∧ ∀ m : List Int, m.Nodup → (∀ z, z ∈ m ↔ z ∈ ns) → Q (.int (m.length : Nat)) H1
theorem pe_lenSetM {X : Cx} {a : Expr} {ta : TE} {p p2 q pos : Pos} (hg : Gl X "len") (hm : X.mg "len" = none) (hg2 : Gl X "set") (hm2 : X.mg "set" = none) (ha : PE X a ta) (hc : X.calm = true := by rfl)
    (na : starEach [a] X.env = (false, eval a X.env) :: starEach [] X.env := by rfl) : PE X (.Call (.Name "len" p) [.Call (.Name "set" p2) [a] [] q] [] pos) (tLenSetM X.K ta) := by
  refine ⟨fun pins s σ H Q J h => ?_⟩
  refine Call_ (ld_blt J hg hm boot_len (PyProof.Rows.callWith_builtin1 (PyProof.Rows.args_cons ?_ rfl) rfl rfl))
  refine Call_ (ld_blt J hg2 hm2 PyProof.Rows.boot_set (PyProof.Rows.callWith_type1 (PyProof.Rows.args_cons (thn (ha.run pins s σ H _ J h) fun v s1 ⟨x, H1, J1, r1, q1⟩ => PyProof.Rows.args_nil ?_) na) na rfl))
  obtain ⟨l, ns, rfl, hq, hl, q1⟩ := q1
  cases r1
  obtain ⟨its, r, pl, _⟩ := J1.list hq
  have n1 : its.toArray.size = ns.length := by rw [List.size_toArray, ← r.length, List.length_map]
  refine call_set_list (J1.ok.hd hc) pl.isList (by simpa using r.ints) (by rw [n1]; unfold scanBound; omega) fun h' tk hS hk => PyProof.Rows.args_nil ?_
  have n2 := PyProof.Rows.firstMet_length_le (fun i => ns.getD i 0) its.toArray.size
  have me := firstMet_mem (fun i => ns.getD i 0) its.toArray.size
  have nd := firstMet_once (fun i => ns.getD i 0) its.toArray.size
  obtain ⟨o, es, ep, t, ho, hex, hd, _, _, _, hf, hn⟩ := hS
  have J2 : Inv X pins σ H1 { s1 with heap := h', toks := tk } := J1.kept fun b o e => hk b o (Heap.lt_size e) e
  refine call_len_set ho hex hd hf (by rw [hn]; omega) ⟨.int _, H1, J2.tok _, ⟨_, by rw [hn]⟩, q1 _ nd fun z => ?_⟩
  rw [me, n1]
  constructor
  · rintro ⟨i, h1, h2⟩
    have e : ns.getD i 0 = ns[i] := by simp [List.getD_eq_getElem?_getD, h1]
    rw [← h2]
    show ns.getD i 0 ∈ ns
    rw [e]
    exact List.getElem_mem h1
  · intro hz
    obtain ⟨i, h1, h2⟩ := List.mem_iff_getElem.mp hz
    refine ⟨i, h1, ?_⟩
    show ns.getD i 0 = z
    simp [List.getD_eq_getElem?_getD, h1, h2]
/-! ### sorted(t), t a tuple of whole numbers -/
section
variable {prog : Program} {w : World} {A : Around} {E : Value → Shared → Prop} {s : Shared}
theorem collect_tup {l : Addr} {vs : List Value} {Q : List Value → Shared → Prop} (ht : IsTup s.heap l vs.toArray) (hz : vs.length ≤ sizeLine)
    (h : Q vs { s with heap := (s.heap.push (seqObj "list" #[] 0)).update s.heap.objs.size (Obj.mapSeq (· ++ vs.toArray)) }) : wpAny (model prog w) A (collect (.ref l)) Q E s := by
  obtain ⟨o, g, ec, n, ed⟩ := id ht
  unfold collect
  refine wpAny_bind <| wpAny_runValue <| codeAny_builtin entry_proto_collect' ?_
  show wpAny _ _ (do
    again (.builtin "list.__iadd__" ⟨[← newList [], .ref l], []⟩)) _ _ s
  refine wpAny_bind <| wpAny_newList <| wpAny_pure ⟨Code.quiet_builtin _ (by decide +kernel), codeAny_builtin entry_list_iadd' ?_⟩
  show wpAny _ _ (Builtin.List.listExtendWith (.ref s.heap.objs.size)
    (.ref l) (.ref s.heap.objs.size)) _ _ { s with heap := s.heap.push (seqObj "list" #[] 0) }
  unfold Builtin.List.listExtendWith
  have g' : (s.heap.push (seqObj "list" #[] 0)).get? l = some o := Heap.get?_push_of_some _ g
  refine wpAny_bind (wpAny_typeOf (T := "tuple") ⟨o, g', ec⟩ ?_)
  have yes : (Value.type "tuple" == Value.type "tuple") = true := by rfl
  rw [if_pos (by rw [yes, Bool.or_true])]
  refine wpAny_bind (listItems_at g' ed (wpAny_bind (listItems_at (xs := #[]) (n := 0) (Heap.get?_push_size _ rfl) rfl ?_)))
  rw [if_neg (by simp)]
  refine wpAny_bind (listUpdate_at (xs := #[]) (n := 0) (Heap.get?_push_size _ rfl) rfl (wpAny_pure ?_) (Nat.zero_le _) (by
    show (#[] ++ vs.toArray).size ≤ _
    simp only [Array.size_append, List.size_toArray, List.length_nil]
    omega))
  show wpAny (model prog w) A (do
    let o ← load s.heap.objs.size
    match o.data with
    | .seq xs _ => pure xs.toList
    | _ => unsupported "internal:collect") Q E
    { s with heap := (s.heap.push (seqObj "list" #[] 0)).update s.heap.objs.size (Obj.mapSeq (· ++ vs.toArray)) }
  refine wpAny_bind <| wpAny_load (get?_update_seq (Heap.get?_push_size _ rfl) _) ?_
  have e : ((#[] : Array Value) ++ vs.toArray).toList = vs := by simp
  show wpAny _ _ (pure ((#[] : Array Value) ++ vs.toArray).toList) _ _ _
  rw [e]
  exact wpAny_pure h
theorem sorted_tupI {l : Addr} {vs : List Value} {ns : List Int} {Q : Value → Shared → Prop} (ht : IsTup s.heap l vs.toArray) (hI : IntsAre vs ns) (h64 : vs.length < 64)
    (h : ∀ (srt : Array Value) (ms : List Int), IntsAre srt.toList ms → ms.Perm ns → ms.Pairwise (· ≤ ·) → Q (.ref (s.heap.objs.size + 1)) { s with heap := sortedAll s.heap vs srt }) : wpAny (model prog w) A (call (.builtin "sorted") [.ref l]) Q E s := by
  refine PySem.Calls.call_function_entry kind_sorted plain_sorted entry_sorted (args_sorted1 _) ?_
  unfold Builtin.«sorted»
  refine wpAny_bind (m := checkCount "sorted" 1 1 _) (wpAny_pure (wpAny_bind (collect_tup ht (small64 h64) (wpAny_bind (wpAny_newList ?_)))))
  have z : ((s.heap.push (seqObj "list" #[] 0)).update s.heap.objs.size (Obj.mapSeq (· ++ vs.toArray))).objs.size = s.heap.objs.size + 1 := by rw [Heap.size_update, size_push']
  have g : (((s.heap.push (seqObj "list" #[] 0)).update s.heap.objs.size (Obj.mapSeq (· ++ vs.toArray))).push (seqObj "list" vs.toArray 0)).get? (s.heap.objs.size + 1) = some (seqObj "list" vs.toArray 0) := by
    rw [← z]
    exact Heap.get?_push_size _ rfl
  show wpAny _ _ _ _ _ { s with
    heap := ((s.heap.push (seqObj "list" #[] 0)).update s.heap.objs.size (Obj.mapSeq (· ++ vs.toArray))).push (seqObj "list" vs.toArray 0) }
  rw [z]
  refine wpAny_bind (wpAny_holding (wpAny_call_entry slot_list_sort ⟨_, g, rfl⟩ entry_list_sort (list_sort_tree g hI h64 fun out ns' a1 a2 a3 => ⟨_, rfl, wpAny_pure ⟨_, rfl, h out ns' a1 a2 a3⟩⟩) (args_list_sort _)))
end
def rSortTup (K : PySem.W.Frag) : List V → Hp → VK → Prop := fun vs H Q => ∃ (a : Addr) (ns : List Int), vs = [V.ref a] ∧ SqT K H a (ns.map V.int) ∧ ns.length < 64 ∧
  ∀ (ms : List Int) (p : Addr), ms.Perm ns → ms.Pairwise (· ≤ ·) → H p = none → Q (.ref p) (upd H p (.lst (ms.map V.int)))
theorem cr_sortTup {X : Cx} : CallR X (.builtin "sorted") (rSortTup X.K) := by
  intro pins s σ H vs us Q J r h
  obtain ⟨a, ns, rfl, hs, h64, q⟩ := h
  obtain ⟨its, rv, ht, _⟩ := J.tuple hs
  rw [Vals.ref1 r]
  refine sorted_tupI ht rv.ints (by rw [rv.ints.length]; exact h64) fun out ns' h1 h2 h3 => ?_
  obtain ⟨ep, he⟩ := PyProof.Rows.sortedAll_at s.heap its out
  refine ⟨.ref _, upd H (s.heap.objs.size + 1) (.lst (ns'.map V.int)), J.laid (t' := s.toks) (fun _ _ => PyProof.Rows.sortedAll_old) (Nat.le_succ _) ⟨?_, out.toList, ep, vals_of_ints h1, he⟩, rfl, q ns' _ h2 h3 (J.hok.fresh (Nat.le_succ _))⟩
  rw [List.length_map, h2.length_eq]
  exact small64 h64
end Lab

/-! min(d.values()), d a dict whose keys are tuples: a rule of my own. -/
namespace Lab
open PySem PySem.Spec PyProof.Rows L2
section
variable {prog : Program} {w : World} {A : Around} {E : Value → Shared → Prop} {s : Shared} {d : Addr} {es : Array DictEntry} {ep : Nat}
theorem meetsVals (hd : (d == sysModules) = false) :
    MeetsIn prog w (Builtin.«dict.values» ⟨[.ref d], []⟩) (fun _ R s => DT.Raw s.heap d es ep ∧
      R (.ok (.ret (.ref s.heap.objs.size)))
        { s with heap := s.heap.push { cls := .type "dict_values", data := .fields #[.ref d] } }) :=
  .of_wp fun A R s ⟨raw, h⟩ => by
    refine wpAny_bind ?_
    unfold Builtin.Dict.noArgs
    refine (wpAny_bind (wpAny_notOrdered_dict raw.typeIs ?_))
    show wpAny _ _ (pure d) _ _ s
    refine wpAny_pure ?_
    show wpAny _ _ (Builtin.Dict.showsAll d >>= _) _ _ s
    unfold Builtin.Dict.showsAll
    rw [if_neg (by rw [hd]; decide)]
    exact wpAny_bind (wpAny_pure (wpAny_bind (wpAny_newObj_type (wpAny_pure ⟨_, rfl, h⟩))))
theorem iterV {v : Addr} {Q : Value → Shared → Prop} (hv : s.heap.IsValuesView v d) (raw : DT.Raw s.heap d es ep)
    (hQ : Q (.ref s.heap.objs.size)
      { s with heap := s.heap.push { cls := .type "dict_valueiterator", data := .fields #[.ref d, .int 0 0, .int es.size 0, .int ep 0] } }) : wpAny (model prog w) A (pyIter (.ref v)) Q E s := by
  obtain ⟨ov, g1, g2, g3⟩ := id hv
  obtain ⟨o, g, xc, dt⟩ := id raw
  refine wpAny_pyIter_slot hv.typeIs PySem.F.slot_dict_values_iter (wpAny_call_entry PySem.F.slot_dict_values_iter hv.typeIs PySem.F.entry_dict_values_iter ?_ (PySem.F.args_dict_values_iter_1 _))
  unfold Builtin.«dict_values.__iter__»
  refine wpAny_bind (wpAny_pure (wpAny_bind ?_))
  unfold Builtin.Dict_items.dictOf
  refine wpAny_bind (wpAny_field g1 g3 (x := .ref d) rfl (wpAny_pure (wpAny_bind ?_)))
  unfold Builtin.Dict_items.newIterator
  refine wpAny_bind (wpAny_dictEntries g dt (wpAny_bind (wpAny_dictEpoch g dt ?_)))
  have own : Builtin.Dict_items.ownsTuple "dict_valueiterator" = false := by decide
  simp only [own, Bool.false_eq_true, if_false]
  refine wpAny_newObj_type <| wpAny_pure ⟨_, rfl, "dict_valueiterator", _, ⟨_, Heap.get?_push_size _ rfl, rfl⟩, PySem.F.slot_dict_valueiterator_next.lookup, ?_⟩
  simpa [rawInt] using hQ
theorem nextV {it : Addr} {i : Nat} {Q : Option Value → Shared → Prop} (hit : s.heap.IsValIter it d i es.size ep) (raw : DT.Raw s.heap d es ep) (hi : i < es.size)
    (hQ : ∀ h', h'.IsValIter it d (i + 1) es.size ep → Heap.SameBut it s.heap h' → Q (some es[i].val) { s with heap := h' }) : wpAny (model prog w) A (pyNext (.ref it)) Q E s := by
  obtain ⟨o, g1, g2, g3⟩ := id hit
  obtain ⟨od, g, xc, dt⟩ := id raw
  unfold pyNext
  refine wpAny_bind (wpAny_attempt (wpAny_callSpecial?_slot (name := Str.ofString "__next__") hit.typeIs PySem.F.slot_dict_valueiterator_next
    (wpAny_call_entry PySem.F.slot_dict_valueiterator_next hit.typeIs PySem.F.entry_dict_valueiterator_next (wpAny_bind (wpAny_pure (wpAny_bind (wpAny_bind ?_)))) (PySem.F.args_dict_valueiterator_next_1 _))))
  first
    | refine wpAny_bind (wpAny_typeNameOfWhole_valiter hit.typeIs (wpAny_pure ?_))
    | refine wpAny_bind (wpAny_typeNameOf_valiter hit.typeIs (wpAny_pure ?_))
  refine wpAny_bind (wpAny_fieldsOf g1 g3 ?_)
  have own : Builtin.Dict_items.ownsTuple "dict_valueiterator" = false := by decide
  simp only [own, Bool.false_eq_true, if_false]
  show wpAny _ _ (if (Value.ref d == Value.none) = true
    then _ else _) _ _ s
  rw [if_neg (show ¬ (Value.ref d == Value.none) = true from Bool.false_ne_true)]
  refine wpAny_bind (wpAny_pure (wpAny_bind (wpAny_dictEntries g dt ?_)))
  rw [if_neg (by simp)]
  refine wpAny_bind (wpAny_pure (wpAny_bind (wpAny_dictEpoch g dt ?_)))
  rw [if_neg (by simp)]
  refine wpAny_pure ?_
  simp only [show ¬ ((i : Int) < 0) by omega, if_false, Int.toNat_natCast, Array.getElem?_eq_getElem hi]
  refine wpAny_bind ?_
  first
    | refine wpAny_bind (wpAny_typeNameOfWhole_valiter hit.typeIs (wpAny_pure ?_))
    | refine wpAny_bind (wpAny_typeNameOf_valiter hit.typeIs (wpAny_pure ?_))
  refine wpAny_bind (wpAny_isOneOf_valiter hit.typeIs ?_)
  show wpAny _ _ (setField (.ref it) 1
    (rawInt ((i : Int) + 1)) >>= _) _ _ s
  refine wpAny_bind (wpAny_setField g1 g3 (by simp) ?_)
  have st : (s.heap.update it (Obj.mapFields (·.setIfInBounds 1 (rawInt ((i : Int) + 1))))).IsValIter it d (i + 1) es.size ep :=
    ⟨_, Heap.get?_update_self _ g1 (Obj.isFreed_of_fields (Obj.data_mapFields g3 _)), (Obj.cls_mapFields ..).trans g2, by
      rw [Obj.data_mapFields g3]
      simp [rawInt]⟩
  refine wpAny_bind (wpAny_holding (wpAny_bind (wpAny_isOneOf_valiter (s := { s with
    heap := s.heap.update it (Obj.mapFields (·.setIfInBounds 1 (rawInt ((i : Int) + 1)))) }) st.typeIs ?_)))
  rw [if_neg (by decide)]
  refine wpAny_bind (wpAny_isOneOf_valiter (s := { s with
    heap := s.heap.update it (Obj.mapFields (·.setIfInBounds 1 (rawInt ((i : Int) + 1)))) }) st.typeIs ?_)
  rw [if_pos (by decide)]
  exact wpAny_pure (wpAny_pure ⟨_, rfl, wpAny_pure (hQ _ st (Heap.SameBut.update ..))⟩)
theorem endV {it : Addr} {i : Nat} {Q : Option Value → Shared → Prop} (hh : A.handled = none) (hit : s.heap.IsValIter it d i es.size ep) (raw : DT.Raw s.heap d es ep) (hi : es.size ≤ i)
    (hQ : ∀ h2, Heap.ExtBut it s.heap h2 → Q none { s with heap := h2 }) : wpAny (model prog w) A (pyNext (.ref it)) Q E s := by
  obtain ⟨o, g1, g2, g3⟩ := id hit
  obtain ⟨od, g, xc, dt⟩ := id raw
  unfold pyNext
  refine wpAny_bind (wpAny_attempt (wpAny_callSpecial?_slot (name := Str.ofString "__next__") hit.typeIs PySem.F.slot_dict_valueiterator_next
    (wpAny_call_entry PySem.F.slot_dict_valueiterator_next hit.typeIs PySem.F.entry_dict_valueiterator_next (wpAny_bind (wpAny_pure (wpAny_bind (wpAny_bind ?_)))) (PySem.F.args_dict_valueiterator_next_1 _))))
  first
    | refine wpAny_bind (wpAny_typeNameOfWhole_valiter hit.typeIs (wpAny_pure ?_))
    | refine wpAny_bind (wpAny_typeNameOf_valiter hit.typeIs (wpAny_pure ?_))
  refine wpAny_bind (wpAny_fieldsOf g1 g3 ?_)
  have own : Builtin.Dict_items.ownsTuple "dict_valueiterator" = false := by decide
  simp only [own, Bool.false_eq_true, if_false]
  show wpAny _ _ (if (Value.ref d == Value.none) = true
    then _ else _) _ _ s
  rw [if_neg (show ¬ (Value.ref d == Value.none) = true from Bool.false_ne_true)]
  refine wpAny_bind (wpAny_pure (wpAny_bind (wpAny_dictEntries g dt ?_)))
  rw [if_neg (by simp)]
  refine wpAny_bind (wpAny_pure (wpAny_bind (wpAny_dictEpoch g dt ?_)))
  rw [if_neg (by simp)]
  refine wpAny_pure ?_
  simp only [show ¬ ((i : Int) < 0) by omega, if_false, Int.toNat_natCast, Array.getElem?_eq_none hi]
  refine wpAny_bind ?_
  first
    | refine wpAny_bind (wpAny_typeNameOfWhole_valiter hit.typeIs (wpAny_pure ?_))
    | refine wpAny_bind (wpAny_typeNameOf_valiter hit.typeIs (wpAny_pure ?_))
  show wpAny _ _ (setField (.ref it) 0
    .none >>= _) _ _ s
  refine wpAny_bind (wpAny_setField g1 g3 (by simp) ?_)
  show wpAny _ _ (newExc (.type "StopIteration")
    [] >>= _) _ _ _
  refine wpAny_bind ?_
  simp only [newExc, newTuple]
  refine wpAny_bind (wpAny_newObj_type (wpAny_bind (m := firstArgMember _ _) (wpAny_of_eq (a := Value.none) (by first | rfl | (simp only [firstArgMember]; rfl)) (wpAny_newObj_type ?_ (by size_fits)))) (by size_fits))
  simp only [raiseNew]
  refine wpAny_bind (wpAny_handled ?_)
  rw [show A.in1.handled = none from hh]
  refine wpAny_bind (wpAny_pure ?_)
  refine wpAny_throw ?_
  refine wpAny_bind (wpAny_isInstance (b := true) (T := "StopIteration") ⟨_, Heap.get?_push_size _ rfl, rfl⟩ isSubtype_stop ?_)
  refine wpAny_pure <| hQ _ ?_
  exact ((Heap.SameBut.update ..).extBut.push _).push _
end
/-! ### min of the view -/
def valsO (p d : Addr) : HO := .ext fun h => h.IsValuesView p d
section
variable {X : Cx} {pins : List (Addr × Obj)} {σ : L2.St} {H : Hp} {s : Shared}
def rValsT : V → List V → Hp → VK → Prop := fun x xs H Q => ∃ (d : Addr) (kvs : List (List Key × V)), x = .ref d ∧ xs = [] ∧ H d = some (.dT kvs) ∧ ∀ p, H p = none → Q (.ref p) (upd H p (valsO p d))
theorem mt_valsT : MtR X "dict.values" rValsT := by
  intro pins s σ H x xs v us Q J rx rxs h
  obtain ⟨d, kvs, rfl, rfl, hd, q⟩ := h
  cases rx
  cases rxs
  obtain ⟨_, ns, l, pr, o, es, ep, g, xc, dt, en, _⟩ := J.hok d _ hd
  have raw : DT.Raw s.heap d es ep := ⟨o, g, xc, dt⟩
  refine call_meetsIn PySem.F.slot_dict_values raw.typeIs PySem.F.entry_dict_values (PySem.F.args_dict_values_1 _) (meetsVals (es := es) (ep := ep) ns) ⟨raw, ?_⟩
  have e : (s.heap.push { cls := .type "dict_values", data := .fields #[.ref d] }).IsValuesView s.heap.objs.size d := ⟨_, Heap.get?_push_size _ rfl, rfl, rfl⟩
  refine ⟨.ref s.heap.objs.size, _, J.laid (a := s.heap.objs.size) (t' := s.toks) (o := valsO s.heap.objs.size d) (fun b u z => Heap.get?_push_of_some _ z) (Nat.le_refl _) ⟨e, ⟨_, Heap.get?_push_size _ rfl⟩, fun h1 h2 ⟨ob, z, r⟩ st => ⟨ob, st _ z, r⟩⟩, rfl, q _ (J.hok.fresh (Nat.le_refl _))⟩
/-- the first of the least -/
def leastV (lt : V → V → Bool) (b : V) (l : List V) : V := l.foldl (fun b x => if lt x b = true then x else b) b
theorem minV_turns {It S d : Addr} {R : Result → Shared → Prop} {rC : R2} {o : Obj} {kvs : List (List Key × V)} {lt : V → V → Bool} {es : Array DictEntry} {ep : Nat} {B : V} (ok : X.Ok) (hh : X.A.in1.handled = none) (hC : OpR (nest X) (compareOp .Lt) rC)
    (hD : H d = some (.frz o (.dT kvs))) (dt : o.data = .dict es ep) (hc : ∀ x y, x ∈ kvs.map (·.2) → y ∈ kvs.map (·.2) → ∀ Q : VK, Q (.bl (lt x y)) H → rC x y H Q)
    (yI : Young X pins It) (yS : Young X pins S) (ne : S ≠ It) (dI : d ≠ It) (dS : d ≠ S)
    (hR : ∀ ub s, Inv X pins σ H s → RelV B ub → R (.ok (.ret ub)) s) :
    ∀ (r i : Nat) (s : Shared) (vb : V) (ub : Value) (c : Nat) (oI : Obj), kvs.length - i = r → i ≤ kvs.length →
      Inv (nest X) ((S, seqObj "list" #[ub, ub] c) :: (It, oI) :: pins) σ H s → oI.cls = .type "dict_valueiterator" → oI.data = .fields #[.ref d, .int i 0, .int kvs.length 0, .int ep 0] →
      RelV vb ub → vb ∈ kvs.map (·.2) → leastV lt vb ((kvs.map (·.2)).drop i) = B → codeAny (model X.prog X.w) X.A (.builtin "min.loop" ⟨[.ref It, .none, .ref S], []⟩) R s := by
  have nm : (toString "min" ++ toString ".loop" : String) = "min.loop" := by decide
  have yS' : Young (nest X) pins S := ⟨yS.yg, yS.cl, yS.pn⟩
  have yI' : Young (nest X) pins It := ⟨yI.yg, yI.cl, yI.pn⟩
  have addPin : ∀ {b : Addr} {p : Addr × Obj}, Young (nest X) pins b → p.1 ≠ b → Young (nest X) (p :: pins) b := fun {b p} y n => ⟨y.yg, y.cl, fun q hq => by
    rcases List.mem_append.mp hq with hq | hq
    · exact y.pn q (List.mem_append_left _ hq)
    · rcases List.mem_cons.mp hq with rfl | hq
      · exact n
      · exact y.pn q (List.mem_append_right _ hq)⟩
  intro r
  induction r with
  | zero =>
    intro i s vb ub c oI hr0 hi J hcl hdt rb mb lb
    have hin : i = kvs.length := by omega
    subst hin
    obtain ⟨gS, nS, lS, fS, _⟩ := J.pin (S, seqObj "list" #[ub, ub] c) (List.mem_append_right _ List.mem_cons_self)
    obtain ⟨gI, nI, lI, fI, _⟩ := J.pin (It, oI) (List.mem_append_right _ (List.mem_cons_of_mem _ List.mem_cons_self))
    obtain ⟨_, g, xc, es', ep', dt', sz, _⟩ := frzT_vals J hD
    obtain ⟨rfl, rfl⟩ := dict_ep dt dt'
    have lb' : vb = B := by
      rw [← lb, List.drop_of_length_le (by rw [List.length_map]; exact Nat.le_refl _)]
      rfl
    refine codeAny_builtin PySem.F.entry_min_loop (by
      rw [Around.under_plainId PySem.F.plain_min_loop _]
      show wpAny _ X.A.in1 (seqItems? (.ref S) >>= _) _ _ s
      refine wpAny_bind (wpAny_seqItems gS rfl ?_)
      show wpAny _ X.A.in1 (tryCatch (pyNext (.ref It)) _ >>= _) _ _ s
      refine wpAny_bind (wpAny_tryCatch (endV hh (i := kvs.length) ⟨oI, gI, hcl, by rw [sz]; exact hdt⟩ ⟨o, g, xc, dt⟩ (Nat.le_of_eq sz) fun h1 keep1 => ?_))
      have gS1 := keep1 S _ ne gS
      show wpAny _ X.A.in1 (updateSeq S (fun _ => #[]) >>= _) _ _ _
      refine wpAny_bind (wpAny_updateSeq gS1 rfl (wpAny_bind (wpAny_letGo (wpAny_pure ?_))))
      refine hR ub _ ?_ (lb' ▸ rb)
      have J1 : Inv (nest X) pins σ H s := drop_pin (drop_pin J)
      have J2 := J1.turned (t' := s.toks) (it := It) (h' := h1) (fun b o hb e => keep1 b o hb e) nI lI (.inr yI'.yg) yI'.cl yI'.pn
      have sb := Heap.SameBut.update h1 S (Obj.mapSeq fun _ => (#[] : Array Value))
      exact nest_out ok (J2.turned (it := S) (t' := s.toks) (fun b o hb e => (sb.2 b hb).trans e) nS lS (.inr yS'.yg) yS'.cl yS'.pn))
  | succ r ih =>
    intro i s vb ub c oI hr0 hi J hcl hdt rb mb lb
    have hlt : i < kvs.length := by omega
    obtain ⟨gS, nS, lS, fS, _⟩ := J.pin (S, seqObj "list" #[ub, ub] c) (List.mem_append_right _ List.mem_cons_self)
    obtain ⟨gI, nI, lI, fI, _⟩ := J.pin (It, oI) (List.mem_append_right _ (List.mem_cons_of_mem _ List.mem_cons_self))
    obtain ⟨_, g, xc, es', ep', dt', sz, ent⟩ := frzT_vals J hD
    obtain ⟨rfl, rfl⟩ := dict_ep dt dt'
    obtain ⟨e, q, he, _, _, hval⟩ := ent i (kvs[i]'hlt).1 (kvs[i]'hlt).2 (List.getElem?_eq_getElem hlt)
    have hi' : i < es'.size := by omega
    obtain ⟨_, he2⟩ := Array.getElem?_eq_some_iff.mp he
    have hx : (kvs[i]'hlt).2 ∈ kvs.map (·.2) := List.mem_map_of_mem (List.getElem_mem hlt)
    have edr : (kvs.map (·.2)).drop i = (kvs[i]'hlt).2 :: (kvs.map (·.2)).drop (i + 1) := by
      rw [List.drop_eq_getElem_cons (by rw [List.length_map]; exact hlt), List.getElem_map]
    rw [edr] at lb
    have lb : leastV lt (if lt (kvs[i]'hlt).2 vb = true then (kvs[i]'hlt).2 else vb) ((kvs.map (·.2)).drop (i + 1)) = B := lb
    refine codeAny_builtin PySem.F.entry_min_loop (by
      rw [Around.under_plainId PySem.F.plain_min_loop _]
      show wpAny _ X.A.in1 (seqItems? (.ref S) >>= _) _ _ s
      refine wpAny_bind (wpAny_seqItems gS rfl ?_)
      show wpAny _ X.A.in1 (tryCatch (pyNext (.ref It)) _ >>= _) _ _ s
      refine wpAny_bind (wpAny_tryCatch (nextV (i := i) ⟨oI, gI, hcl, by rw [sz]; exact hdt⟩ ⟨o, g, xc, dt⟩ hi' fun h1 st1 keep1 => ?_))
      obtain ⟨oI1, gI1, hc1, hd1⟩ := id st1
      rw [he2]
      have J1 : Inv (nest X) ((It, oI1) :: (S, seqObj "list" #[ub, ub] c) :: pins) σ H { s with heap := h1, toks := s.toks } :=
        repin (swap_pins J) (addPin yI' ne) (fun b o hb z => (keep1.2 b hb).trans z) gI1 (by rw [hd1]; intro v z; cases z)
      show wpAny _ X.A.in1 (tryCatch (holding [e.val, e.val] (richCompare .Lt e.val ub >>= _)) _ >>= _) _ _ _
      refine wpAny_bind (wpAny_tryCatch (wpAny_holding (wpAny_bind (wpAny_mono (hC _ _ σ H (kvs[i]'hlt).2 vb e.val ub (fun y H' => y = .bl (lt (kvs[i]'hlt).2 vb) ∧ H' = H) J1 hval rb (hc _ _ hx mb _ ⟨rfl, rfl⟩)) (fun uc s3 he => ?_) fun _ _ z => z.elim))))
      obtain ⟨y, H3, J3, ry, rfl, rfl⟩ := he
      obtain rfl : uc = Value.bool (lt (kvs[i]'hlt).2 vb) := ry
      refine wpAny_bind (wpAny_holding (wpAny_truthy_bool (wpAny_bind (wpAny_letGo (wpAny_pure ?_)))))
      have J3' := swap_pins J3
      rw [sz] at hd1
      obtain ⟨gS3, _, _, _, _⟩ := J3.pin (S, seqObj "list" #[ub, ub] c) (List.mem_append_right _ (List.mem_cons_of_mem _ List.mem_cons_self))
      cases cc : lt (kvs[i]'hlt).2 vb with
      | true =>
        rw [cc, if_pos rfl] at lb
        simp only [if_true]
        have sb := Heap.SameBut.update s3.heap S (Obj.mapSeq fun _ => #[e.val, e.val])
        have gS4 := get?_update_seq gS3 fun _ => #[e.val, e.val]
        refine wpAny_bind (wpAny_updateSeq gS3 rfl (wpAny_bind (wpAny_letGo ?_)))
        rw [nm]
        refine wpAny_pure ⟨plainId_quiet PySem.F.plain_min_loop _, ih (i + 1) _ _ e.val _ oI1 (by omega) hlt (repin (t' := s3.toks) J3' (addPin yS' (Ne.symm ne)) (fun b o hb e => (sb.2 b hb).trans e) gS4 (fun v z => by cases z)) hc1 hd1 hval hx lb⟩
      | false =>
        rw [cc, if_neg (by decide)] at lb
        simp only [Bool.false_eq_true, if_false]
        refine wpAny_bind (wpAny_letGo ?_)
        rw [nm]
        exact wpAny_pure ⟨plainId_quiet PySem.F.plain_min_loop _, ih (i + 1) s3 vb ub c oI1 (by omega) hlt J3' hc1 hd1 rb mb lb⟩)
end
end Lab

/-! min(d.values()): the call. -/
namespace Lab
open PySem PySem.Spec PyProof.Rows L2
section
variable {X : Cx} {pins : List (Addr × Obj)} {σ : L2.St} {H : Hp} {s : Shared}
def rMinV (rC : R2) : List V → Hp → VK → Prop := fun vs H Q => ∃ (p d : Addr) (kvs : List (List Key × V)) (lt : V → V → Bool) (v0 : V) (rest : List V), vs = [.ref p] ∧ H p = some (valsO p d) ∧ H d = some (.dT kvs) ∧ kvs.map (·.2) = v0 :: rest ∧
  (∀ (od : Obj) (x y : V), x ∈ kvs.map (·.2) → y ∈ kvs.map (·.2) → ∀ Q' : VK, Q' (.bl (lt x y)) (upd H d (.frz od (.dT kvs))) → rC x y (upd H d (.frz od (.dT kvs))) Q') ∧ Q (leastV lt v0 rest) H
theorem cr_minVals {rC : R2} {k : Nat} (hr : Room (k + 1) X.A) (hC : OpR (nest X) (compareOp .Lt) rC) : CallR X (.builtin "min") (rMinV rC) := by
  intro pins s σ H vs us Q J r h
  obtain ⟨p, d, kvs, lt, v0, rest, rfl, hp, hd, hk, hc, q⟩ := h
  obtain rfl := Vals.ref1 r
  have nm : (toString "min" ++ toString ".loop" : String) = "min.loop" := by decide
  have hh : X.A.in1.handled = none := hr.hd
  obtain ⟨od, L⟩ := J.lock hd trivial
  have pd : p ≠ d := ne_of hp hd (fun z => by unfold valsO at z; cases z)
  have hD : upd H d (.frz od (.dT kvs)) d = some (.frz od (.dT kvs)) := upd_same
  have hpL : upd H d (.frz od (.dT kvs)) p = some (valsO p d) := by rw [upd_ne pd]; exact hp
  have back : upd (upd H d (.frz od (.dT kvs))) d (.dT kvs) = H := by
    rw [upd_upd]
    funext b
    unfold upd
    by_cases hb : b = d
    · rw [if_pos hb, hb, hd]
    · rw [if_neg hb]
  have hv : s.heap.IsValuesView p d := by
    obtain ⟨z, _, _⟩ := L.hok p _ hpL
    exact z
  obtain ⟨_, g, xc, es, ep, dt, sz, ent⟩ := frzT_vals L hD
  have hne : 0 < kvs.length := by
    cases kvs with
    | nil => cases hk
    | cons a b => exact Nat.succ_pos _
  have hi' : 0 < es.size := by omega
  obtain ⟨e, q0, he, _, _, hval⟩ := ent 0 (kvs[0]'hne).1 (kvs[0]'hne).2 (List.getElem?_eq_getElem hne)
  obtain ⟨_, he2⟩ := Array.getElem?_eq_some_iff.mp he
  have ev0 : (kvs[0]'hne).2 = v0 := by
    have := congrArg (fun l : List V => l[0]?) hk
    simp only [List.getElem?_map, List.getElem?_eq_getElem hne, Option.map_some, List.getElem?_cons_zero, Option.some.injEq] at this
    exact this
  rw [ev0] at hval
  have hdl : d < s.heap.objs.size := Heap.lt_size g
  have y1 := young_of L (b := s.heap.objs.size) (Nat.le_refl _)
  have y2 := young_of L (b := s.heap.objs.size + 1) (Nat.le_succ _)
  have ne21 : s.heap.objs.size + 1 ≠ s.heap.objs.size := Nat.succ_ne_self _
  have size1 : (s.heap.push { cls := .type "dict_valueiterator", data := .fields #[.ref d, .int 0 0, .int es.size 0, .int ep 0] }).objs.size = s.heap.objs.size + 1 := size_push' ..
  have keep : ∀ b o, s.heap.get? b = some o → ((s.heap.push { cls := .type "dict_valueiterator", data := .fields #[.ref d, .int 0 0, .int es.size 0, .int ep 0] }).push { cls := .type "list", data := .seq (List.toArray []) }).get? b = some o :=
    fun b o z => Heap.get?_push_of_some _ (Heap.get?_push_of_some _ z)
  have gI : ((s.heap.push { cls := .type "dict_valueiterator", data := .fields #[.ref d, .int 0 0, .int es.size 0, .int ep 0] }).push { cls := .type "list", data := .seq (List.toArray []) }).get? s.heap.objs.size = some { cls := .type "dict_valueiterator", data := .fields #[.ref d, .int 0 0, .int es.size 0, .int ep 0] } :=
    Heap.get?_push_of_some _ (Heap.get?_push_size _ rfl)
  have gS : ((s.heap.push { cls := .type "dict_valueiterator", data := .fields #[.ref d, .int 0 0, .int es.size 0, .int ep 0] }).push { cls := .type "list", data := .seq (List.toArray []) }).get? (s.heap.objs.size + 1) = some (seqObj "list" #[] 0) := by
    have z := Heap.get?_push_size (s.heap.push { cls := .type "dict_valueiterator", data := .fields #[.ref d, .int 0 0, .int es.size 0, .int ep 0] }) (o := seqObj "list" #[] 0) rfl
    rw [size1] at z
    exact z
  have L0 := L.kept (t' := s.toks) keep
  have fr0 := L.hok.fresh (Nat.le_refl s.heap.objs.size)
  have fr1 := L.hok.fresh (Nat.le_succ s.heap.objs.size)
  have lt0 := L.lt
  have L1 : Inv (nest X) ((s.heap.objs.size, ({ cls := .type "dict_valueiterator", data := .fields #[.ref d, .int 0 0, .int es.size 0, .int ep 0] } : Obj)) :: (s.heap.objs.size + 1, seqObj "list" #[] 0) :: pins) σ (upd H d (.frz od (.dT kvs)))
      { s with heap := (s.heap.push { cls := .type "dict_valueiterator", data := .fields #[.ref d, .int 0 0, .int es.size 0, .int ep 0] }).push { cls := .type "list", data := .seq (List.toArray []) } } := by
    refine (nest_in L0).pins_of fun p hp => ?_
    rcases List.mem_cons.mp hp with rfl | hp
    · exact ⟨gI, fr0, Nat.ne_of_gt lt0, L.nofs (Nat.le_refl _), fun v z => by cases z⟩
    · rcases List.mem_cons.mp hp with rfl | hp
      · exact ⟨gS, fr1, Nat.ne_of_gt (Nat.lt_succ_of_lt lt0), L.nofs (Nat.le_succ _), fun v z => by cases z⟩
      · exact (nest_in L0).pin p (List.mem_append_right _ hp)
  have pin1 : ∀ (b : Addr) (p : Addr × Obj), Young X pins b → p.1 ≠ b → Young (nest X) (p :: pins) b := fun b p y n => ⟨y.yg, y.cl, fun q hq => by
    rcases List.mem_append.mp hq with hq | hq
    · exact y.pn q (List.mem_append_left _ hq)
    · rcases List.mem_cons.mp hq with rfl | hq
      · exact n
      · exact y.pn q (List.mem_append_right _ hq)⟩
  refine call_function_tree PySem.F.kind_min PySem.F.plain_min PySem.F.entry_min (PySem.F.args_min1 _) ?_
  show wpAny _ X.A.in1 (Builtin.Builtins.bindParams "min" ["key", "default"]
    0 ⟨[], []⟩ >>= _) _ _ s
  refine wpAny_bind (wpAny_of_eq (show Builtin.Builtins.bindParams "min" ["key", "default"] 0 ⟨[], []⟩ = pure [none, none] from rfl) (wpAny_bind (wpAny_pure ?_)))
  refine wpAny_bind (iterV hv ⟨od, g, xc, dt⟩ (wpAny_bind (wpAny_newList ?_ (Nat.zero_le _))))
  rw [nm, size1]
  refine wpAny_pure ⟨plainId_quiet PySem.F.plain_min_loop _, codeAny_builtin PySem.F.entry_min_loop ?_⟩
  rw [Around.under_plainId PySem.F.plain_min_loop _]
  show wpAny _ X.A.in1 (seqItems? (.ref (s.heap.objs.size + 1)) >>= _) _ _ _
  refine wpAny_bind (wpAny_seqItems gS rfl ?_)
  show wpAny _ X.A.in1 (tryCatch (pyNext (.ref s.heap.objs.size)) _ >>= _) _ _ _
  refine wpAny_bind (wpAny_tryCatch (nextV (es := es) (ep := ep) (d := d) (i := 0) ⟨_, gI, rfl, rfl⟩ ⟨od, keep d od g, xc, dt⟩ hi' fun h1 st1 keep1 => ?_))
  obtain ⟨oI1, gI1, hc1, hd1⟩ := id st1
  rw [he2]
  rw [sz] at hd1
  have L2' := repin (t' := s.toks) L1 (pin1 _ (s.heap.objs.size + 1, seqObj "list" #[] 0) y1 ne21) (fun b o hb z => (keep1.2 b hb).trans z) gI1 (by rw [hd1]; intro v z; cases z)
  obtain ⟨gS3, _, _, _, _⟩ := L2'.pin (s.heap.objs.size + 1, seqObj "list" #[] 0) (List.mem_append_right _ (List.mem_cons_of_mem _ List.mem_cons_self))
  have sb := Heap.SameBut.update h1 (s.heap.objs.size + 1) (Obj.mapSeq fun _ => #[e.val, e.val])
  have gS4 := get?_update_seq gS3 fun _ => #[e.val, e.val]
  show wpAny _ X.A.in1 (updateSeq (s.heap.objs.size + 1) (fun _ => #[e.val, e.val]) >>= _) _ _ _
  refine wpAny_bind (wpAny_updateSeq gS3 rfl ?_)
  rw [nm]
  refine wpAny_pure ⟨plainId_quiet PySem.F.plain_min_loop _, minV_turns (B := leastV lt v0 rest) L.ok hh hC hD dt (hc od) y1 y2 ne21 (Nat.ne_of_lt hdl) (Nat.ne_of_lt (Nat.lt_succ_of_lt hdl)) (fun ub s' J' rb => ?_) _ 1 _ v0 e.val _ oI1 rfl hne
    (repin (t' := s.toks) (swap_pins L2') (pin1 _ _ y2 (Ne.symm ne21)) (fun b o hb e => (sb.2 b hb).trans e) gS4 (fun v z => by cases z)) hc1 hd1 hval (by rw [hk]; exact List.mem_cons_self) (by rw [hk]; rfl)⟩
  have U := J'.unlock hD (J.nofrz hd trivial)
  rw [back] at U
  exact ⟨_, H, U, rb, q⟩
end
end Lab

/-! max(t, key=lambda k: e), t a tuple of whole numbers, e a whole number: rules of my own. -/
namespace Lab
open PySem PySem.Spec PyProof.Rows L2 LamX NdefX
/-! ### the lambda's object -/
/-- the object at f is the lambda of the words F, params, body -/
def LamO (f : Addr) (F : NF) (body : Expr) : HO := .ext fun h => ∃ pm ctv : Value, h.get? f = some (PySem.W.kla_obj "<lambda>" F.qual F.params body F.scope F.cl pm F.c ctv)
theorem lamO_at {P : Program} {w : World} {H : Hp} {h : Heap} {f : Addr} {F : NF} {body : Expr} (ok : HOk P w H h) (e : H f = some (LamO f F body)) : ∃ pm ctv : Value, h.get? f = some (PySem.W.kla_obj "<lambda>" F.qual F.params body F.scope F.cl pm F.c ctv) := by
  obtain ⟨z, _⟩ := ok f _ e
  exact z
abbrev lamF (X : Cx) (params : Arguments) (scope : Scope) (c' : Addr) : NF := ⟨"<lambda>", X.env.qual ++ "<lambda>", params, [], scope, cloFrom X.env.cells scope.names [], c'⟩
section
variable {X : Cx} {pins : List (Addr × Obj)} {σ : L2.St} {H : Hp} {s : Shared}
theorem inv_lam {F : NF} {body : Expr} {o : Obj} {t' : Nat} {pm ctv : Value} (J : Inv X pins σ H s) (ho : o = PySem.W.kla_obj "<lambda>" F.qual F.params body F.scope F.cl pm F.c ctv) :
    Inv X pins σ (upd H s.heap.objs.size (LamO s.heap.objs.size F body)) { s with heap := s.heap.push o, toks := t' } := by
  subst ho
  have e : (s.heap.push (PySem.W.kla_obj "<lambda>" F.qual F.params body F.scope F.cl pm F.c ctv)).get? s.heap.objs.size = some (PySem.W.kla_obj "<lambda>" F.qual F.params body F.scope F.cl pm F.c ctv) := Heap.get?_push_size _ rfl
  exact J.laid (a := s.heap.objs.size) (fun b u z => Heap.get?_push_of_some _ z) (Nat.le_refl _) ⟨⟨pm, ctv, e⟩, ⟨_, e⟩, fun h1 h2 ⟨p, t, z⟩ st => ⟨p, t, st _ z⟩⟩
theorem free_upd {H : Hp} {a b : Addr} {o : HO} (e : upd H a o b = none) : H b = none := by
  by_cases h : b = a
  · rw [h, upd_same] at e
    cases e
  · rwa [upd_ne h] at e
theorem lam_make3 {c P : Addr} {params : Arguments} {body : Expr} {scope : Scope} {pos : Pos} {E Q : Value → Shared → Prop} (J : Inv X pins σ H s) (TB : TabB X.base X.mg c P) (hcode : X.env.code = .ref c)
    (hT : TabS H P (X.env.qual ++ "<lambda>")) (hdef : defaultsOf params X.env = ([], [])) (hfree : ∀ y ∈ scope.names, y.2 = .free → ∃ c, X.env.cells.lookup y.1 = some c)
    (h : ∀ (f c' : Addr) (H1 : Hp) (s' : Shared), Inv X pins σ H1 s' → ExtN H H1 → (∀ b, H1 b = none → H b = none) → TabS H1 P (X.env.qual ++ "<lambda>") → H f = none → H1 f = some (LamO f (lamF X params scope c') body) → H1 c' = some (CodeO c' (X.env.qual ++ "<lambda>")) → (∀ b o, H b = some o → b ≠ P → H1 b = some o) → Q (.ref f) s') : wpAny (model X.prog X.w) X.A (eval (.Lambda params body scope pos) X.env) Q E s := by
  obtain ⟨ps, hP, ht, ha⟩ := id hT
  refine PySem.W.kla_eval hdef ?_
  have bP : s.heap.BuiltinsAt X.mg P := TB.bm.keeps J.bk
  have gP : s.heap.get? P = some { cls := .none, data := .fields ps } := J.hok P _ hP
  cases hc : codeAmong pos ps.toList with
  | none =>
    refine PySem.W.kla_makeFunction (mg := X.mg) (c := c) (P := P) (ps := ps) (closure_ok hfree) J.ok.glob (J.mod.glob.keeps J.bk) hcode (TB.code.keeps J.bk) gP ht hc TB.gP bP fun c' ctv h' tk hx hge hlt hrec htb => ?_
    obtain ⟨_, oc, vs, t, e2, hoc, hd, hv⟩ := hrec
    cases e2
    have nC : H c' = none := J.hok.fresh hge
    have J1 := inv_table (t' := tk) (more := #[rawInt pos.line, rawInt pos.col, .ref c']) (h' := h') J hP (fun b o hb e => hx b o hb e) htb hge ⟨oc, vs, t, hoc, hd, hv⟩
    have keep : ∀ b o, H b = some o → b ≠ P → upd (upd H P (.tbl (ps ++ #[rawInt pos.line, rawInt pos.col, .ref c']))) c' (CodeO c' (X.env.qual ++ "<lambda>")) b = some o := fun b o e n => by
      rw [upd_ne (ne_of_none e nC), upd_ne n]
      exact e
    have nP : ∀ b o, H b = some o → (∀ q, o ≠ .tbl q) → b ≠ P := fun b o e n z => by
      rw [z, hP] at e
      exact n ps (Option.some.inj e).symm
    have nF := J1.hok.fresh (Nat.le_refl _)
    have J2 := inv_lam (F := lamF X params scope c') (body := body) (t' := tk) (pm := (X.mg "__name__").getD .none) (ctv := ctv) J1 rfl
    have keep2 : ∀ b o, H b = some o → b ≠ P → upd (upd (upd H P (.tbl (ps ++ #[rawInt pos.line, rawInt pos.col, .ref c']))) c' (CodeO c' (X.env.qual ++ "<lambda>"))) h'.objs.size (LamO h'.objs.size (lamF X params scope c') body) b = some o := fun b o e n =>
      (upd_ne (ne_of_none (keep b o e n) nF)).trans (keep b o e n)
    refine h h'.objs.size c' _ _ J2 (fun b o e n => keep2 b o e (nP b o e n)) (fun b e => free_upd (free_upd (free_upd e))) ⟨ps ++ #[rawInt pos.line, rawInt pos.col, .ref c'], ?_, ?_, fun p' cv hcv => ?_⟩ (J.hok.fresh (Nat.le_trans hge (Nat.le_of_lt hlt))) upd_same ?_ keep2
    · have a1 : upd (upd H P (.tbl (ps ++ #[rawInt pos.line, rawInt pos.col, .ref c']))) c' (CodeO c' (X.env.qual ++ "<lambda>")) P = some (.tbl (ps ++ #[rawInt pos.line, rawInt pos.col, .ref c'])) := by rw [upd_ne (ne_of_none hP nC), upd_same]
      exact (upd_ne (ne_of_none a1 nF)).trans a1
    · have eL : (ps ++ #[rawInt pos.line, rawInt pos.col, .ref c']).toList = ps.toList ++ [rawInt pos.line, rawInt pos.col, .ref c'] := by simp
      rw [eL]
      exact PySem.TriplesOk_snoc _ _ _ _ ht
    · have eL : (ps ++ #[rawInt pos.line, rawInt pos.col, .ref c']).toList = ps.toList ++ [rawInt pos.line, rawInt pos.col, .ref c'] := by simp
      rw [eL] at hcv
      rcases among_app _ ht hcv with z | z
      · obtain ⟨c0, e1, e2⟩ := ha p' cv z
        exact ⟨c0, e1, keep2 _ _ e2 (nP _ _ e2 codeO_ne)⟩
      · exact ⟨c', z, (upd_ne (Nat.ne_of_lt hlt)).trans upd_same⟩
    · exact (upd_ne (Nat.ne_of_lt hlt)).trans upd_same
  | some cv =>
    obtain ⟨c', e, hco⟩ := ha pos cv hc
    subst e
    refine PySem.W.kla_makeFunctionHit (mg := X.mg) (c := c) (P := P) (ps := ps) (closure_ok hfree) J.ok.glob (J.mod.glob.keeps J.bk) hcode (TB.code.keeps J.bk) gP ht hc bP fun ctv h' tk hx hsz => ?_
    have J1 : Inv X pins σ H { s with heap := h', toks := tk } := J.kept hx
    have nF : H h'.objs.size = none := J1.hok.fresh (Nat.le_refl _)
    have J2 := inv_lam (F := lamF X params scope c') (body := body) (t' := tk) (pm := (X.mg "__name__").getD .none) (ctv := ctv) J1 rfl
    have keep2 : ∀ b o, H b = some o → upd H h'.objs.size (LamO h'.objs.size (lamF X params scope c') body) b = some o := fun b o e => (upd_ne (ne_of_none e nF)).trans e
    exact h h'.objs.size c' _ _ J2 (fun b o e n => keep2 b o e) (fun b e => free_upd e) (hT.ext keep2) nF upd_same (keep2 _ _ hco) (fun b o e _ => keep2 b o e)
end
/-! ### what it promises -/
structure LOk (P : Program) (w : World) (K : PySem.W.Frag) (mg : Str → Option Value) (base : Heap) (k : Nat) (f : Addr) (F : NF) (body : Expr) (fr : List Str) (sp : List (Option V) → Sp) : Prop where
  run : ∀ (A : Around) (outer : List Env) (s : Shared) (H : Hp) (us : List Value) (vs : List V) (ws : List (Option V)) (Q : VK), Room k A → Env0 P w K mg base A outer s H → H f = some (LamO f F body) → H F.c = some (CodeO F.c F.qual) →
    CellsAt F.cl fr ws s.heap H → Vals vs us → sp ws vs H Q C8.E0 → codeAny (model P w) A (.call (.ref f) ⟨us, []⟩) (CR C8.CX0 outer P w H s Q C8.E0) s
theorem lok_of {P : Program} {w : World} {K : PySem.W.Frag} {mg : Str → Option Value} {base : Heap} {N ps fr : List Str} {F : NF} {f : Addr} {k : Nat} {body : Expr} {sp : List (Option V) → Sp} (S : NScope N ps fr F.scope)
    (hb : ∀ (pm ctv : Value) (us : List Value), us.length = ps.length → bindArgs (PySem.W.kla_fn "<lambda>" F.qual F.params body F.scope F.cl pm (.ref F.c) ctv) ⟨us, []⟩ = pure (ps.zip us)) (len : ∀ ws vs H Q E, sp ws vs H Q E → vs.length = ps.length)
    (hbody : ∀ (A : Around) (outer : List Env) (s : Shared) (H : Hp) (vs : List V) (ws : List (Option V)) (Q : VK), Room k (A.deeper (envF F f s.heap.objs.size)) → ws.length = fr.length → sp ws vs H Q C8.E0 →
      ∃ t, PE (ncx C8.CX0 P w K mg base N F f A outer s H C8.E0) body t ∧ t (startF N vs ws) H Q) : LOk P w K mg base (k + 1) f F body fr sp := by
  refine ⟨fun A outer s H us vs ws Q hr e0 hf hc C r hsp => ?_⟩
  have hl := len _ _ _ _ _ hsp
  have room : s.heap.NoLimit := e0.mod.nolimit.keeps fun _ _ e => (e0.bs _ _ e).1
  obtain ⟨pm, ctv, ho⟩ := lamO_at e0.hok hf
  refine PySem.W.kla_callFunE hr.depth ho rfl S.co S.gen rfl (codeO_at e0.hok hc) ?_
  rw [hb pm ctv us (by rw [← r.length]; exact hl)]
  refine wpAny_pure <| wpAny_newFunctionEnv S.nocell (fun ⟨n, _⟩ m => S.par n (List.of_mem_zip m).1) (fun h₁ hns hsb => ⟨room.fresh _ hsb, ?_⟩) S.kind
  show codeAny _ _ (.expr body (envF F f s.heap.objs.size)) _ _
  have stays : ∀ b o, s.heap.get? b = some o → h₁.get? b = some o := fun b o e =>
    hsb.extBut b o (Nat.ne_of_lt (Heap.lt_size e)) (Heap.get?_push_of_some _ e)
  obtain ⟨t, ht, hq⟩ := hbody A outer s H vs ws Q (hr.deeper _) C.len hsp
  have J : Inv (ncx C8.CX0 P w K mg base N F f A outer s H C8.E0) [] (startF N vs ws) H { s with heap := h₁, toks := s.toks + (ps.zip us).length } := inv_startN S hr.hd e0 hl r C hns stays
  refine PySem.W.kla_codeExpr (wpAny_mono (ht.run [] _ (startF N vs ws) H Q J hq) (fun v s' hs => ?_) fun e s' hs => hs)
  obtain ⟨x, H', J', rv, q⟩ := hs
  exact ⟨x, H', J'.os, J'.bare, J'.base, J'.hok, rv, q⟩
section
variable {X : Cx} {pins : List (Addr × Obj)} {σ : L2.St} {H : Hp} {s : Shared}
theorem run_lam {k : Nat} {f : Addr} {F : NF} {body : Expr} {fr : List Str} {js : List Nat} {sp : List (Option V) → Sp} {us : List Value} {vs : List V} {Q : VK} (Fn : LOk X.prog X.w X.K X.mg X.base k f F body fr sp) (hr : Room k X.A) (J : Inv X pins σ H s) (hf : H f = some (LamO f F body))
    (hc : H F.c = some (CodeO F.c F.qual)) (cp : Caps X F.cl fr js) (r : Vals vs us) (q : sp (js.map (slotAt σ)) vs H Q C8.E0) : wpAny (model X.prog X.w) X.A (call (.ref f) us) (EP X pins σ Q) X.xe s := by
  refine wpAny_call (codeAny_mono (Fn.run X.A X.stack s H us vs _ Q hr J.env0 hf hc (cells_of J cp) r q) fun r s' hq => ?_)
  cases r with
  | error e => exact (show False from hq).elim
  | ok fl =>
    cases fl with
    | ret u => exact J.after hq
    | next => exact False.elim hq
    | brk => exact False.elim hq
    | cont => exact False.elim hq
end
end Lab

/-! max(t, key=lambda k: e): the loop, the call, the rule. -/
namespace Lab
open PySem PySem.Spec PyProof.Rows L2 LamX NdefX
/-- the first of those whose value is greatest -/
def farI (val : Int → Int) (b : Int) (l : List Int) : Int := l.foldl (fun b x => if val b < val x then x else b) b
section
variable {X : Cx} {pins : List (Addr × Obj)} {σ : L2.St} {H : Hp} {f a : Addr} {ks : List Int} {val : Int → Int}
/-- the key's call: a whole number, nothing changed -/
abbrev KeyC (X : Cx) (σ : L2.St) (H : Hp) (f : Addr) (ks : List Int) (val : Int → Int) : Prop := ∀ (pins : List (Addr × Obj)) (s : Shared) (x : Int) (u : Value), x ∈ ks → Inv (nest X) pins σ H s → RelV (.int x) u →
  wpAny (model X.prog X.w) X.A.in1 (call (.ref f) [u]) (fun uk s2 => ∃ t, uk = .int (val x) t ∧ Inv (nest X) pins σ H s2) (fun _ _ => False) s
theorem it_neT {s : Shared} {It : Addr} {oI : Obj} {xs : List V} (J : Inv (nest X) pins σ H s) (h : SqT X.K H a xs) (e : s.heap.get? It = some oI) (hc : oI.cls = .type "tuple_iterator") : a ≠ It := by
  obtain ⟨its, _, ⟨o, ho, hl, _⟩, _⟩ := J.tuple h
  rintro rfl
  have z : o = oI := Option.some.inj (ho.symm.trans e)
  rw [← z, hl] at hc
  injection hc with hc
  exact absurd hc (by decide)
theorem maxT_turns {It S : Addr} {R : Result → Shared → Prop} {B : Int} (ok : X.Ok) (hh : X.A.in1.handled = none) (hC : KeyC X σ H f ks val) (hT : SqT X.K H a (ks.map V.int))
    (yI : Young X pins It) (yS : Young X pins S) (ne : S ≠ It) (hR : ∀ t s, Inv X pins σ H s → R (.ok (.ret (.int B t))) s) :
    ∀ (r i : Nat) (s : Shared) (b : Int) (tb tk : Tok) (c : Nat) (oI : Obj), ks.length - i = r → i ≤ ks.length →
      Inv (nest X) ((S, seqObj "list" #[.int b tb, .int (val b) tk] c) :: (It, oI) :: pins) σ H s → oI.cls = .type "tuple_iterator" → oI.data = .fields #[.ref a, .int i 0] →
      farI val b (ks.drop i) = B → codeAny (model X.prog X.w) X.A (.builtin "max.loop" ⟨[.ref It, .ref f, .ref S], []⟩) R s := by
  have nm : (toString "max" ++ toString ".loop" : String) = "max.loop" := by decide
  have yS' : Young (nest X) pins S := ⟨yS.yg, yS.cl, yS.pn⟩
  have yI' : Young (nest X) pins It := ⟨yI.yg, yI.cl, yI.pn⟩
  have addPin : ∀ {b : Addr} {p : Addr × Obj}, Young (nest X) pins b → p.1 ≠ b → Young (nest X) (p :: pins) b := fun {b p} y n => ⟨y.yg, y.cl, fun q hq => by
    rcases List.mem_append.mp hq with hq | hq
    · exact y.pn q (List.mem_append_left _ hq)
    · rcases List.mem_cons.mp hq with rfl | hq
      · exact n
      · exact y.pn q (List.mem_append_right _ hq)⟩
  intro r
  induction r with
  | zero =>
    intro i s b tb tk c oI hr0 hi J hcl hdt hB
    have hin : i = ks.length := by omega
    subst hin
    obtain ⟨gS, nS, lS, fS, _⟩ := J.pin (S, seqObj "list" #[.int b tb, .int (val b) tk] c) (List.mem_append_right _ List.mem_cons_self)
    obtain ⟨gI, nI, lI, fI, _⟩ := J.pin (It, oI) (List.mem_append_right _ (List.mem_cons_of_mem _ List.mem_cons_self))
    have na := it_neT J hT gI hcl
    obtain ⟨its, rv, pl, _⟩ := J.tuple hT
    have hsz : its.toArray.size = ks.length := by rw [List.size_toArray, ← rv.length, List.length_map]
    have eB : b = B := by
      rw [← hB, List.drop_length]
      rfl
    have W := Walks.tuple (prog := X.prog) (w := X.w) (A := X.A.in1) hh It a na its.toArray
    refine codeAny_builtin PySem.F.entry_max_loop (by
      rw [Around.under_plainId PySem.F.plain_max_loop _]
      show wpAny _ X.A.in1 (seqItems? (.ref S) >>= _) _ _ s
      refine wpAny_bind (wpAny_seqItems gS rfl ?_)
      show wpAny _ X.A.in1 (tryCatch (pyNext (.ref It)) _ >>= _) _ _ s
      refine wpAny_bind (wpAny_tryCatch (W.done s _ _ ⟨⟨oI, gI, hcl, by rw [hsz]; exact hdt⟩, pl⟩ fun h1 t1 keep1 => ?_))
      have gS1 := keep1 S _ (by simpa using ne) gS
      show wpAny _ X.A.in1 (updateSeq S (fun _ => #[]) >>= _) _ _ _
      refine wpAny_bind (wpAny_updateSeq gS1 rfl (wpAny_bind (wpAny_letGo (wpAny_pure ?_))))
      rw [eB]
      refine hR tb _ ?_
      have J1 : Inv (nest X) pins σ H s := drop_pin (drop_pin J)
      have J2 := J1.turned (t' := t1) (it := It) (h' := h1) (fun b o hb e => keep1 b o (by simpa using hb) e) nI lI (.inr yI'.yg) yI'.cl yI'.pn
      have sb := Heap.SameBut.update h1 S (Obj.mapSeq fun _ => (#[] : Array Value))
      exact nest_out ok (J2.turned (it := S) (t' := t1) (fun b o hb e => (sb.2 b hb).trans e) nS lS (.inr yS'.yg) yS'.cl yS'.pn))
  | succ r ih =>
    intro i s b tb tk c oI hr0 hi J hcl hdt hB
    have hlt : i < ks.length := by omega
    obtain ⟨gS, nS, lS, fS, _⟩ := J.pin (S, seqObj "list" #[.int b tb, .int (val b) tk] c) (List.mem_append_right _ List.mem_cons_self)
    obtain ⟨gI, nI, lI, fI, _⟩ := J.pin (It, oI) (List.mem_append_right _ (List.mem_cons_of_mem _ List.mem_cons_self))
    have na := it_neT J hT gI hcl
    obtain ⟨its, rv, pl, _⟩ := J.tuple hT
    have hsz : its.toArray.size = ks.length := by rw [List.size_toArray, ← rv.length, List.length_map]
    have W := Walks.tuple (prog := X.prog) (w := X.w) (A := X.A.in1) hh It a na its.toArray
    have edr : ks.drop i = ks[i]'hlt :: ks.drop (i + 1) := List.drop_eq_getElem_cons hlt
    rw [edr] at hB
    have hB : farI val (if val b < val (ks[i]'hlt) then ks[i]'hlt else b) (ks.drop (i + 1)) = B := hB
    refine codeAny_builtin PySem.F.entry_max_loop (by
      rw [Around.under_plainId PySem.F.plain_max_loop _]
      show wpAny _ X.A.in1 (seqItems? (.ref S) >>= _) _ _ s
      refine wpAny_bind (wpAny_seqItems gS rfl ?_)
      show wpAny _ X.A.in1 (tryCatch (pyNext (.ref It)) _ >>= _) _ _ s
      refine wpAny_bind (wpAny_tryCatch (W.item i s _ _ (by rw [hsz]; exact hlt) ⟨⟨oI, gI, hcl, hdt⟩, pl⟩ fun v h1 t1 hv st1 keep1 => ?_))
      have hv' : its[i]? = some v := by simpa using hv
      obtain ⟨u1, hu1, rx⟩ := rv.get (i := i) (x := V.int (ks[i]'hlt)) (by rw [List.getElem?_map, List.getElem?_eq_getElem hlt]; rfl)
      obtain rfl : u1 = v := Option.some.inj (hu1.symm.trans hv')
      obtain ⟨tx, rfl⟩ := id rx
      obtain ⟨oI1, gI1, hc1, hd1⟩ := st1.1
      have J1 : Inv (nest X) ((It, oI1) :: (S, seqObj "list" #[.int b tb, .int (val b) tk] c) :: pins) σ H { s with heap := h1, toks := t1 } :=
        repin (swap_pins J) (addPin yI' ne) (fun b o hb e => keep1 b o (by simpa using hb) e) gI1 (by rw [hd1]; intro v z; cases z)
      show wpAny _ X.A.in1 (tryCatch (holding [.int (ks[i]'hlt) tx] (call (.ref f) [.int (ks[i]'hlt) tx])) _ >>= _) _ _ _
      refine wpAny_bind (wpAny_tryCatch (wpAny_holding (wpAny_mono (hC _ _ _ _ (List.getElem_mem hlt) J1 rx) (fun uk2 s2 he => ?_) fun _ _ z => z.elim)))
      obtain ⟨t2, rfl, J2⟩ := he
      show wpAny _ X.A.in1 (tryCatch (holding [.int (ks[i]'hlt) tx, .int (val (ks[i]'hlt)) t2] (richCompare .Gt (.int (val (ks[i]'hlt)) t2) (.int (val b) tk) >>= _)) _ >>= _) _ _ _
      refine wpAny_bind (wpAny_tryCatch (wpAny_holding (wpAny_bind (PyProof.Rows.gt_int ?_))))
      refine wpAny_bind (wpAny_holding (wpAny_truthy_bool (wpAny_bind (wpAny_letGo (wpAny_pure ?_)))))
      have J3 := swap_pins J2
      obtain ⟨gS3, _, _, _, _⟩ := J2.pin (S, seqObj "list" #[.int b tb, .int (val b) tk] c) (List.mem_append_right _ (List.mem_cons_of_mem _ List.mem_cons_self))
      by_cases cc : val b < val (ks[i]'hlt)
      · rw [if_pos cc] at hB
        rw [decide_eq_true cc]
        simp only [if_true]
        have sb := Heap.SameBut.update s2.heap S (Obj.mapSeq fun _ => #[.int (ks[i]'hlt) tx, .int (val (ks[i]'hlt)) t2])
        have gS4 := get?_update_seq gS3 fun _ => #[.int (ks[i]'hlt) tx, .int (val (ks[i]'hlt)) t2]
        refine wpAny_bind (wpAny_updateSeq gS3 rfl (wpAny_bind (wpAny_letGo ?_)))
        rw [nm]
        refine wpAny_pure ⟨plainId_quiet PySem.F.plain_max_loop _, ih (i + 1) _ _ tx t2 _ oI1 (by omega) hlt (repin (t' := s2.toks) J3 (addPin yS' (Ne.symm ne)) (fun b o hb e => (sb.2 b hb).trans e) gS4 (fun v z => by cases z)) hc1 hd1 hB⟩
      · rw [if_neg cc] at hB
        rw [decide_eq_false cc]
        simp only [Bool.false_eq_true, if_false]
        refine wpAny_bind (wpAny_letGo ?_)
        rw [nm]
        exact wpAny_pure ⟨plainId_quiet PySem.F.plain_max_loop _, ih (i + 1) s2 b tb tk c oI1 (by omega) hlt J3 hc1 hd1 hB⟩)
/-- max(t, key=f) -/
theorem maxT_call {k : Nat} {s : Shared} {k0 : Int} {rest : List Int} {Q : VK} (hr : Room (k + 1) X.A) (J : Inv X pins σ H s) (hT : SqT X.K H a ((k0 :: rest).map V.int)) (hC : KeyC X σ H f (k0 :: rest) val)
    (q : Q (.int (farI val k0 rest)) H) : wpAny (model X.prog X.w) X.A (call (.builtin "max") [.ref a] [(Str.ofString "key", .ref f)]) (EP X pins σ Q) X.xe s := by
  have nm : (toString "max" ++ toString ".loop" : String) = "max.loop" := by decide
  have hh : X.A.in1.handled = none := hr.hd
  obtain ⟨its, rv, pl, _⟩ := J.tuple hT
  have hsz : its.toArray.size = (k0 :: rest).length := by rw [List.size_toArray, ← rv.length, List.length_map]
  have y1 := young_of J (b := s.heap.objs.size) (Nat.le_refl _)
  have y2 := young_of J (b := s.heap.objs.size + 1) (Nat.le_succ _)
  have ne21 : s.heap.objs.size + 1 ≠ s.heap.objs.size := Nat.succ_ne_self _
  have size1 : (s.heap.push { cls := .type "tuple_iterator", data := .fields #[.ref a, .int 0 0] }).objs.size = s.heap.objs.size + 1 := size_push' ..
  have keep : ∀ b o, s.heap.get? b = some o → ((s.heap.push { cls := .type "tuple_iterator", data := .fields #[.ref a, .int 0 0] }).push { cls := .type "list", data := .seq (List.toArray []) }).get? b = some o := fun b o z => Heap.get?_push_of_some _ (Heap.get?_push_of_some _ z)
  have gI : ((s.heap.push { cls := .type "tuple_iterator", data := .fields #[.ref a, .int 0 0] }).push { cls := .type "list", data := .seq (List.toArray []) }).get? s.heap.objs.size = some { cls := .type "tuple_iterator", data := .fields #[.ref a, .int 0 0] } :=
    Heap.get?_push_of_some _ (Heap.get?_push_size _ rfl)
  have gS : ((s.heap.push { cls := .type "tuple_iterator", data := .fields #[.ref a, .int 0 0] }).push { cls := .type "list", data := .seq (List.toArray []) }).get? (s.heap.objs.size + 1) = some (seqObj "list" #[] 0) := by
    have z := Heap.get?_push_size (s.heap.push { cls := .type "tuple_iterator", data := .fields #[.ref a, .int 0 0] }) (o := seqObj "list" #[] 0) rfl
    rw [size1] at z
    exact z
  have J0 := J.kept (t' := s.toks) keep
  have fr0 := J.hok.fresh (Nat.le_refl s.heap.objs.size)
  have fr1 := J.hok.fresh (Nat.le_succ s.heap.objs.size)
  have lt0 := J.lt
  have J1 : Inv (nest X) ((s.heap.objs.size, ({ cls := .type "tuple_iterator", data := .fields #[.ref a, .int 0 0] } : Obj)) :: (s.heap.objs.size + 1, seqObj "list" #[] 0) :: pins) σ H
      { s with heap := (s.heap.push { cls := .type "tuple_iterator", data := .fields #[.ref a, .int 0 0] }).push { cls := .type "list", data := .seq (List.toArray []) } } := by
    refine (nest_in J0).pins_of fun p hp => ?_
    rcases List.mem_cons.mp hp with rfl | hp
    · exact ⟨gI, fr0, Nat.ne_of_gt lt0, J.nofs (Nat.le_refl _), fun v z => by cases z⟩
    · rcases List.mem_cons.mp hp with rfl | hp
      · exact ⟨gS, fr1, Nat.ne_of_gt (Nat.lt_succ_of_lt lt0), J.nofs (Nat.le_succ _), fun v z => by cases z⟩
      · exact (nest_in J0).pin p (List.mem_append_right _ hp)
  have na := it_neT J1 hT gI rfl
  have W := Walks.tuple (prog := X.prog) (w := X.w) (A := X.A.in1) hh s.heap.objs.size a na its.toArray
  have pin1 : ∀ (b : Addr) (p : Addr × Obj), Young X pins b → p.1 ≠ b → Young (nest X) (p :: pins) b := fun b p y n => ⟨y.yg, y.cl, fun q hq => by
    rcases List.mem_append.mp hq with hq | hq
    · exact y.pn q (List.mem_append_left _ hq)
    · rcases List.mem_cons.mp hq with rfl | hq
      · exact n
      · exact y.pn q (List.mem_append_right _ hq)⟩
  refine kmk_tree PySem.F.kind_max PySem.F.plain_max PySem.F.entry_max (max_key_ok _ _) ?_
  show wpAny _ X.A.in1 (Builtin.Builtins.bindParams "max" ["key", "default"] 0 ⟨[], [(Str.ofString "key", .ref f)]⟩ >>= _) _ _ s
  refine wpAny_bind (wpAny_of_eq (show Builtin.Builtins.bindParams "max" ["key", "default"] 0 ⟨[], [(Str.ofString "key", .ref f)]⟩ = pure [some (.ref f), none] from rfl) (wpAny_bind (wpAny_pure ?_)))
  refine wpAny_bind (wpAny_pyIter_tuple pl (wpAny_bind (wpAny_newList ?_ (Nat.zero_le _))))
  rw [nm, size1]
  refine wpAny_pure ⟨plainId_quiet PySem.F.plain_max_loop _, codeAny_builtin PySem.F.entry_max_loop ?_⟩
  rw [Around.under_plainId PySem.F.plain_max_loop _]
  show wpAny _ X.A.in1 (seqItems? (.ref (s.heap.objs.size + 1)) >>= _) _ _ _
  refine wpAny_bind (wpAny_seqItems gS rfl ?_)
  show wpAny _ X.A.in1 (tryCatch (pyNext (.ref s.heap.objs.size)) _ >>= _) _ _ _
  refine wpAny_bind (wpAny_tryCatch (W.item 0 _ _ _ (by rw [hsz]; exact Nat.succ_pos _) ⟨⟨_, gI, rfl, rfl⟩, (let ⟨o, g, r⟩ := pl; ⟨o, keep a o g, r⟩)⟩ fun v h1 t1 hv st1 keep1 => ?_))
  have hv' : its[0]? = some v := by simpa using hv
  obtain ⟨u1, hu1, rx⟩ := rv.get (i := 0) (x := V.int k0) rfl
  obtain rfl : u1 = v := Option.some.inj (hu1.symm.trans hv')
  obtain ⟨tx, rfl⟩ := id rx
  obtain ⟨oI1, gI1, hc1, hd1⟩ := st1.1
  have J2 := repin (t' := t1) J1 (pin1 _ (s.heap.objs.size + 1, seqObj "list" #[] 0) y1 ne21) (fun b o hb e => keep1 b o (by simpa using hb) e) gI1 (by rw [hd1]; intro v z; cases z)
  show wpAny _ X.A.in1 (tryCatch (holding [.int k0 tx] (call (.ref f) [.int k0 tx])) _ >>= _) _ _ _
  refine wpAny_bind (wpAny_tryCatch (wpAny_holding (wpAny_mono (hC _ _ _ _ List.mem_cons_self J2 rx) (fun uk2 s2 he => ?_) fun _ _ z => z.elim)))
  obtain ⟨t2, rfl, J3⟩ := he
  obtain ⟨gS3, _, _, _, _⟩ := J3.pin (s.heap.objs.size + 1, seqObj "list" #[] 0) (List.mem_append_right _ (List.mem_cons_of_mem _ List.mem_cons_self))
  have sb := Heap.SameBut.update s2.heap (s.heap.objs.size + 1) (Obj.mapSeq fun _ => #[.int k0 tx, .int (val k0) t2])
  have gS4 := get?_update_seq gS3 fun _ => #[.int k0 tx, .int (val k0) t2]
  refine wpAny_bind (wpAny_updateSeq gS3 rfl ?_)
  rw [nm]
  refine wpAny_pure ⟨plainId_quiet PySem.F.plain_max_loop _, maxT_turns (B := farI val k0 rest) J.ok hh hC hT y1 y2 ne21 (fun t s' J' => ⟨.int (farI val k0 rest), H, J', ⟨t, rfl⟩, q⟩) _ 1 _ k0 tx t2 _ oI1 rfl (Nat.succ_le_succ (Nat.zero_le _))
    (repin (t' := s2.toks) (swap_pins J3) (pin1 _ _ y2 (Ne.symm ne21)) (fun b o hb e => (sb.2 b hb).trans e) gS4 (fun v z => by cases z)) hc1 hd1 rfl⟩
end
/-! ### the rule for the whole expression -/
section
variable {X : Cx}
/-- a call with keywords, asked at the slots as they stand -/
def tCKwS (r : L2.St → List V → List V → Hp → VK → Prop) (t tk : TA) : TE := fun σ H Q => t σ H fun vs H1 => tk σ H1 fun zs H2 => r σ vs zs H2 Q
theorem pe_callBS {x : Str} {p pos : Pos} {e : Expr} {es : List Expr} {kws : List Keyword} {t tk : TA} {id : String} {ks : List Str} {r : L2.St → List V → List V → Hp → VK → Prop}
    (hc : ∀ (pins : List (Addr × Obj)) (s : Shared) (σ : L2.St) (H : Hp) (xs zs : List V) (us ws : List Value) (Q : VK), Inv X pins σ H s → Vals xs us → Vals zs ws → r σ xs zs H Q → wpAny (model X.prog X.w) X.A (call (.builtin id) us (ks.zip ws)) (EP X pins σ Q) X.xe s)
    (hg : Gl X x) (hm : X.mg x = none) (hv : bootBuiltins x = some (.builtin id)) (ha : PA X (e :: es) t) (hk : PK X kws tk) (hn : x ≠ "__name__" := by decide) (hdb : (x == ("__debug__" : Str)) = false := by decide)
    (first : backTo pos (starEach (e :: es) X.env) = (false, eval e X.env) :: backTo pos (starEach es X.env) := by rfl) (plain : (backTo pos (starEach (e :: es) X.env)).any (·.1) = false := by rfl)
    (named : (backToKw pos (keywordEach kws X.env)).all (·.1.isSome) = true := by rfl) (whole : (backToKw pos (keywordEach kws X.env)).any (·.1.isNone) = false := by rfl) (same : (backToKw pos (keywordEach kws X.env)).filterMap (·.1) = ks := by rfl) :
    PE X (.Call (.Name x p) (e :: es) kws pos) (tCKwS r t tk) := by
  refine ⟨fun pins s σ H Q J h => wpAny_Call_Name_kw (ld_blt J hg hm hv ?_ hn hdb)⟩
  refine PyProof.Rows.callWith_kw (thn (ha.run pos pins s σ H _ J h) fun us s1 ⟨vs, H1, J1, r1, q1⟩ => thn (hk.run pos pins s1 σ H1 _ J1 q1) fun ws s2 ⟨zs, H2, J2, r2, q2⟩ => ?_) first plain named whole
  rw [same]
  exact hc pins s2 σ H2 vs zs us ws Q J2 r1 r2 q2
/-- the lambda made -/
def tLam1 (P : Addr) (q : Str) (mk : Addr → NF) (body : Expr) : TE := fun σ H Q => TabS H P q ∧ ∀ (f c' : Addr) (H1 : Hp), ExtN H H1 → (∀ b, H1 b = none → H b = none) → TabS H1 P q → H f = none → H1 f = some (LamO f (mk c') body) → H1 c' = some (CodeO c' q) → (∀ b o, H b = some o → b ≠ P → H1 b = some o) → Q (.ref f) H1
theorem pe_lam1 {c P : Addr} {params : Arguments} {body : Expr} {scope : Scope} {pos : Pos} (TB : TabB X.base X.mg c P) (hcode : X.env.code = .ref c) (hdef : defaultsOf params X.env = ([], []))
    (hfree : ∀ y ∈ scope.names, y.2 = .free → X.env.scope.names.lookup y.1 = some .cell ∨ X.env.scope.names.lookup y.1 = some .free) : PE X (.Lambda params body scope pos) (tLam1 P (X.env.qual ++ "<lambda>") (lamF X params scope) body) := by
  refine ⟨fun pins s σ H Q J ⟨hT, h⟩ => ?_⟩
  exact lam_make3 J TB hcode hT hdef (fun y hy e => (hfree y hy e).elim (fun z => J.ok.has _ (.inl z)) fun z => J.ok.has _ (.inr z)) fun f c' H1 s' J1 e1 e2 t1 f0 f1 c1 kp => ⟨.ref f, H1, J1, rfl, h f c' H1 e1 e2 t1 f0 f1 c1 kp⟩
def rMaxLam (K : PySem.W.Frag) (q : Str) (mk : Addr → NF) (body : Expr) (js : List Nat) (sp : List (Option V) → Sp) : L2.St → List V → List V → Hp → VK → Prop := fun σ vs zs H Q => ∃ (a f c' : Addr) (k0 : Int) (rest : List Int) (val : Int → Int), vs = [.ref a] ∧ zs = [.ref f] ∧
  H f = some (LamO f (mk c') body) ∧ H c' = some (CodeO c' q) ∧ SqT K H a ((k0 :: rest).map V.int) ∧ (∀ x ∈ k0 :: rest, sp (js.map (slotAt σ)) [.int x] H (fun y H' => y = .int (val x) ∧ H' = H) C8.E0) ∧ Q (.int (farI val k0 rest)) H
theorem cr_maxLam {k : Nat} {params : Arguments} {body : Expr} {scope : Scope} {fr : List Str} {js : List Nat} {sp : List (Option V) → Sp} (hr : Room (k + 1) X.A)
    (hfree : ∀ y ∈ scope.names, y.2 = .free → X.env.scope.names.lookup y.1 = some .cell ∨ X.env.scope.names.lookup y.1 = some .free) (hfr : ∀ y ∈ fr, (y, NameKind.free) ∈ scope.names) (hjs : js.map (fun j => X.N[j]?) = fr.map some)
    (Fn : ∀ f c', LOk X.prog X.w X.K X.mg X.base k f (lamF X params scope c') body fr sp) (pins : List (Addr × Obj)) (s : Shared) (σ : L2.St) (H : Hp) (xs zs : List V) (us ws : List Value) (Q : VK) (J : Inv X pins σ H s) (r : Vals xs us) (rz : Vals zs ws)
    (h : rMaxLam X.K (X.env.qual ++ "<lambda>") (lamF X params scope) body js sp σ xs zs H Q) : wpAny (model X.prog X.w) X.A (call (.builtin "max") us ([Str.ofString "key"].zip ws)) (EP X pins σ Q) X.xe s := by
  obtain ⟨a, f, c', k0, rest, val, rfl, rfl, hf, hc, hT, hv, q⟩ := h
  obtain rfl := Vals.ref1 r
  obtain rfl := Vals.ref1 rz
  refine maxT_call (val := val) hr J hT (fun pins' s' x u hx J' ru => ?_) q
  have cp : Caps (nest X) (lamF X params scope c').cl fr js := Caps.made (X := nest X) J'.ok hfree hfr hjs
  refine wpAny_mono (run_lam (X := nest X) (Fn f c') hr.in1 J' hf hc cp (.cons ru .nil) (hv x hx)) (fun v s2 he => ?_) fun _ _ z => z
  obtain ⟨y, H', J2, ry, rfl, rfl⟩ := he
  obtain ⟨t, rfl⟩ := ry
  exact ⟨t, rfl, J2⟩
end
end Lab

/-! Whole sequences offline, def by def: 1. the keys that are cached; a replay. -/
namespace Lab
open PySem PySem.Spec PyProof.Rows L2
open Vakptc (insertSorted)
/-! ### loops over enumerate -/
theorem for_enum {K : PySem.W.Frag} {a : Addr} {xs : List V} {g : TG} {tb : TS} {D : Ends} {σ : L2.St} {H : Hp} (Pv : Nat → L2.St → Hp → Prop) (h0 : Pv 0 σ H) (hl : ∀ i σ H, i ≤ xs.length → Pv i σ H → SqL K H a xs)
    (hs : ∀ (i : Nat) (x : V) (σ : L2.St) (H : Hp) (T : Addr), xs[i]? = some x → Pv i σ H → H T = none → g (.ref T) σ (upd H T (.tup [.int (i : Nat), x])) fun σ2 H2 => tb { D with nx := Pv (i + 1), ct := Pv (i + 1), bk := D.nx } σ2 H2)
    (hd : ∀ σ H, Pv xs.length σ H → D.nx σ H) :
    ∃ W : Nat → Nat → L2.St → Hp → Prop, (∃ m, W 0 m σ H) ∧ ∀ i m σ H, W i m σ H → ((Ite K a).stop i H ∧ D.nx σ H) ∨
      ((Ite K a).go i H ∧ ∃ N : L2.St → Hp → Prop, (∀ σ' H', N σ' H' → ∃ m', m' < m ∧ W (i + 1) m' σ' H') ∧ ∀ x H', (Ite K a).yld i H x H' → g x σ H' fun σ2 H2 => tb { D with nx := N, ct := N, bk := D.nx } σ2 H2) := by
  refine ⟨fun i m σ H => m = xs.length - i ∧ i ≤ xs.length ∧ Pv i σ H, ⟨_, rfl, Nat.zero_le _, h0⟩, ?_⟩
  rintro i m σ H ⟨rfl, hi, p⟩
  have q := hl i σ H hi p
  by_cases lt : i < xs.length
  · refine .inr ⟨⟨xs, xs[i], q, List.getElem?_eq_getElem lt⟩, Pv (i + 1), fun σ' H' p' => ⟨_, (by omega : xs.length - (i + 1) < xs.length - i), rfl, lt, p'⟩, ?_⟩
    rintro x H' ⟨T, y, rfl, hT, rfl, hy⟩
    exact hs i y σ H T (hy xs q) p hT
  · have e : i = xs.length := by omega
    subst e
    exact .inl ⟨⟨xs, q, Nat.le_refl _⟩, hd σ H p⟩
/-! ### values -/
theorem ints_flat (l : List Nat) : (intsN l).all flatV = true := by
  unfold intsN
  rw [List.all_map, List.all_eq_true]
  exact fun n _ => rfl
theorem intsN_map (l : List Nat) : (l.map fun n : Nat => (n : Int)).map V.int = intsN l := by
  unfold intsN
  rw [List.map_map]
  rfl
theorem intsN_len (l : List Nat) : (intsN l).length = l.length := List.length_map ..
theorem intsN_get {l : List Nat} {i : Nat} {x : V} (h : (intsN l)[i]? = some x) : ∃ n, l[i]? = some n ∧ x = V.int (n : Int) := by
  unfold intsN at h
  rw [List.getElem?_map] at h
  cases q : l[i]? with
  | none => rw [q] at h; cases h
  | some n => rw [q] at h; exact ⟨n, rfl, (Option.some.inj h).symm⟩
theorem intsN_at {l : List Nat} {i n : Nat} (h : l[i]? = some n) : (intsN l)[i]? = some (V.int (n : Int)) := by
  unfold intsN
  rw [List.getElem?_map, h]
  rfl
theorem inV_nat (k : Nat) (l : List Nat) : inV (V.int (k : Int)) (intsN l) = l.contains k := by
  unfold inV intsN
  rw [List.any_map, Bool.eq_iff_iff, List.any_eq_true, List.contains_iff_mem]
  constructor
  · rintro ⟨n, hn, e⟩
    have e : ((n : Int) == (k : Int)) = true := e
    rw [← Int.ofNat.inj (eq_of_beq e)]
    exact hn
  · intro h
    refine ⟨k, h, ?_⟩
    show ((k : Int) == (k : Int)) = true
    simp
section
variable {P : Program} {w : World} {K : PySem.W.Frag} {mg : Str → Option Value} {base : Heap}
def KTup (H : Hp) (a : Addr) (ks : List Nat) : Prop := H a = some (.tup (intsN ks))
/-! ### must_evict, missed -/
def spMust : Sp := fun vs H Q _ => ∃ (cap key : Nat) (a : Addr) (ks : List Nat), vs = [.int cap, .ref a, .int key] ∧ KTup H a ks ∧ Q (.bl (must cap ks key)) H
theorem b_must_evict (n_len : mg "len" = none) : Body0 P w K mg base N_must_evict "must_evict" s_must_evict 0 spMust := by
  intro f cdv A outer s H vs Q E hr ⟨cap, key, a, ks, ev, ha, q⟩
  subst ev
  refine ⟨_, (pss_one (ps_ret (pe_and (pe_cmpR op_gt (pv 0) pe_int (nomark _)) (pe_and (pe_cmpR op_eq (pe_callB call_len_seq (by rfl) n_len PySem.boot_len (pa_cons (pv 1) pa_nil)) (pv 0) (nomark _)) (pe_one (pe_cmpR op_notIn_seq (pv 2) (pv 1) rfl)))))), ?_⟩
  refine ⟨_, rfl, _, _, rfl, rfl, _, rfl, ?_⟩
  have z0 : decide ((0 : Int) < (cap : Int)) = decide (0 < cap) := by simp
  unfold must at q
  by_cases h0 : 0 < cap
  · rw [decide_eq_true h0, Bool.true_and] at q
    rw [z0, decide_eq_true h0]
    refine iteT ⟨_, rfl, a, _, rfl, .inr (.inl (.inl ha)), _, rfl, rfl, _, rfl, ?_⟩
    rw [intsN_len, cast_eq]
    by_cases h1 : ks.length = cap
    · rw [decide_eq_true h1, Bool.true_and] at q
      rw [decide_eq_true h1]
      refine iteT ⟨_, rfl, _, rfl, a, _, rfl, .inr (.inl (.inl ha)), rfl, ints_flat ks, ?_⟩
      rw [inV_nat]
      exact q
    · rw [decide_eq_false h1, Bool.false_and] at q
      rw [decide_eq_false h1]
      exact iteF q
  · rw [decide_eq_false h0, Bool.false_and] at q
    rw [z0, decide_eq_false h0]
    exact iteF q
def spMissed : Sp := fun vs H Q _ => ∃ (key : Nat) (a : Addr) (ks : List Nat), vs = [.ref a, .int key] ∧ KTup H a ks ∧ Q (.int ((miss1 ks key : Nat) : Int)) H
theorem b_missed : Body0 P w K mg base N_missed "missed" s_missed 0 spMissed := by
  intro f cdv A outer s H vs Q E hr ⟨key, a, ks, ev, ha, q⟩
  subst ev
  refine ⟨_, (pss_one (ps_ret (pe_ifExp (pt_cmpR op_in_seq (pv 1) (pv 0) rfl) pe_int pe_int))), ?_⟩
  refine ⟨_, rfl, _, rfl, a, _, rfl, .inr (.inl (.inl ha)), rfl, ints_flat ks, _, rfl, ?_⟩
  rw [inV_nat]
  unfold miss1 at q
  cases h : ks.contains key with
  | true =>
    rw [h, if_pos rfl] at q
    exact iteT q
  | false =>
    rw [h, if_neg (by decide)] at q
    exact iteF q
/-! ### without_key, with_key -/
def spWithout : Sp := fun vs H Q _ => ∃ (v : Nat) (a : Addr) (ks : List Nat), vs = [.ref a, .int v] ∧ KTup H a ks ∧ ks.length ≤ 1000 ∧ ∀ (H' : Hp) (p : Addr), Same H H' → H p = none → KTup H' p (without ks v) → Q (.ref p) H'
theorem b_without_key (n_tuple : mg "tuple" = none) : Body0 P w K mg base N_without_key "without_key" s_without_key 0 spWithout := by
  intro f cdv A outer s H vs Q E hr ⟨v, a, ks, ev, ha, hlen, q⟩
  subst ev
  have nd := sc_without_key.nd
  refine ⟨_, (pss_one (ps_ret (pe_callTy call_tuple_of (by rfl) n_tuple (by decide +kernel) (pa_cons (pe_lc (own := [("key", 2)]) (g := gName 2) (tt := tTest (tOp rNe (tVar 2) (tVar 1))) (te := tVar 2) rfl nd (pi_tup (pv 0)) (blkOk_by (own := [("key", 2)]) (N := N_without_key) (sc := defScope s_without_key) (by decide +kernel)) (fun _ _ _ _ _ => by exact pg_name (i := 2) nd rfl (Or.inl rfl)) (fun _ _ _ _ _ => by exact pts_one (pt_cmpR op_ne (pv 2) (pv 1) (nomark _))) (fun _ _ _ _ _ => by exact pv 2)) pa_nil)))), ?_⟩
  refine ⟨_, rfl, a, rfl, ⟨_, .inl (.inl ha)⟩, fun D hD => lc_tup (K := K) (a := a) (xs := intsN ks) (fun i H' => H' = upd H D (.lst (intsN (without (ks.take i) v)))) rfl ?_ ?_ ?_⟩
  · rintro i H' _ rfl
    refine .inl (.inl ?_)
    rw [upd_ne (ne_of_none ha hD)]
    exact ha
  · rintro i x H' hx rfl
    obtain ⟨n, hn, rfl⟩ := intsN_get hx
    refine ⟨rfl, _, rfl, _, rfl, rfl, _, rfl, ?_⟩
    rw [cast_eq, take_snoc hn]
    have e : without (ks.take i ++ [n]) v = without (ks.take i) v ++ (if n = v then [] else [n]) := by
      unfold without
      rw [List.filter_append]
      congr 1
      by_cases h : n = v
      · rw [if_pos h]
        simp [h]
      · rw [if_neg h]
        simp [h]
    rw [e]
    by_cases h : n = v
    · rw [decide_eq_true h, if_pos h, List.append_nil]
      dsimp only
      rw [if_neg (by decide)]
    · rw [decide_eq_false h, if_neg h]
      dsimp only
      rw [if_pos (by decide)]
      refine ⟨_, rfl, _, upd_same, ?_, ?_⟩
      · rw [intsN_len]
        have h1 : (without (ks.take i) v).length ≤ (ks.take i).length := List.length_filter_le _ _
        rw [List.length_take] at h1
        exact small1000 (by omega)
      · rw [upd_upd]
        unfold intsN
        rw [List.map_append]
        rfl
  · rintro H' rfl
    rw [intsN_len, List.take_length]
    refine ⟨D, _, rfl, .inl ⟨.inl (.inl upd_same), fun l hl => ?_⟩⟩
    exact q _ l ((same_new hD).trans (same_new hl)) (upd_live hl) upd_same
def spWith : Sp := fun vs H Q _ => ∃ (cap key : Nat) (a : Addr) (ks : List Nat), vs = [.int cap, .ref a, .int key] ∧ KTup H a ks ∧ ks.Pairwise (· < ·) ∧ ks.length ≤ 50 ∧ ∀ (H' : Hp) (p : Addr), Same H H' → KTup H' p (grow cap ks key) → Q (.ref p) H'
theorem b_with_key (n_tuple : mg "tuple" = none) (n_sorted : mg "sorted" = none) : Body0 P w K mg base N_with_key "with_key" s_with_key 0 spWith := by
  intro f cdv A outer s H vs Q E hr ⟨cap, key, a, ks, ev, ha, up, hlen, q⟩
  subst ev
  have big : (64 : Nat) ≤ sizeLine := by decide
  refine ⟨_, (pss_cons (ps_if (PW.pt (pw_or (pt_cmpR op_eq (pv 0) pe_int (nomark _)) (pw_or1 (pt_cmpR op_in_seq (pv 2) (pv 1) rfl))))
      (pss_one (ps_ret (pv 1)))
      pss_nil)
    (pss_one (ps_ret (pe_callTy call_tuple_of (by rfl) n_tuple (by decide +kernel) (pa_cons (pe_callB cr_sortTup (by rfl) n_sorted (by decide +kernel) (pa_cons (pe_op op_catA (pv 1) (pe_tup (pa_cons (pv 2) pa_nil))) pa_nil)) pa_nil))))), ?_⟩
  have z0 : decide (V.int (cap : Int) = V.int 0) = decide (cap = 0) := cast_eq (n := 0)
  refine ⟨_, rfl, rfl, _, rfl, ?_⟩
  rw [z0]
  by_cases h0 : cap = 0
  · rw [decide_eq_true h0]
    refine iteT (iteT ⟨_, rfl, q H a (Same.refl H) ?_⟩)
    rw [grow_in (.inl h0)]
    exact ha
  · rw [decide_eq_false h0]
    refine iteF ⟨_, rfl, _, rfl, a, _, rfl, .inr (.inl (.inl ha)), rfl, ints_flat ks, _, rfl, ?_⟩
    rw [inV_nat]
    by_cases h1 : key ∈ ks
    · rw [contains_t h1]
      refine iteT ⟨_, rfl, q H a (Same.refl H) ?_⟩
      rw [grow_in (.inr h1)]
      exact ha
    · rw [contains_f h1]
      refine iteF ⟨_, rfl, _, rfl, (by show 1 ≤ sizeLine; decide), fun t ht => ?_⟩
      have s1 := same_new (o := .tup [V.int (key : Int)]) ht
      have fin : ∀ (H2 : Hp) (u : Addr), Same H H2 → KTup H2 u (ks ++ [key]) → rSortTup K [.ref u] H2 fun v H3 => ∃ p ys, [v] = [V.ref p] ∧ ((SqL K H3 p ys ∧ ∀ l, H3 l = none → Q (.ref l) (upd H3 l (.tup ys))) ∨ (SqT K H3 p ys ∧ Q (.ref p) H3)) := by
        intro H2 u s2 hu
        refine ⟨u, (ks ++ [key]).map fun n : Nat => (n : Int), rfl, .inl (.inl (by rw [intsN_map]; exact hu)), by simp; omega, fun ns' p pm so hp => ⟨p, _, rfl, .inl ⟨.inl (.inl upd_same), fun l hl => ?_⟩⟩⟩
        have hpos : ∀ z ∈ ns', 0 ≤ z := fun z hz => by
          obtain ⟨n, _, e⟩ := List.mem_map.mp (pm.mem_iff.mp hz)
          rw [← e]
          exact Int.natCast_nonneg n
        have e1 : ns'.map V.int = intsN (ns'.map Int.toNat) := by
          unfold intsN
          rw [List.map_map]
          refine List.map_congr_left fun z hz => ?_
          show V.int z = V.int ((z.toNat : Nat) : Int)
          rw [Int.toNat_of_nonneg (hpos z hz)]
        have e2 : ns'.map Int.toNat = insertSorted key ks := by
          refine sorted_is up h1 ?_ ?_
          · have := pm.map Int.toNat
            rw [List.map_map] at this
            have e3 : (ks ++ [key]).map (Int.toNat ∘ fun n : Nat => (n : Int)) = ks ++ [key] := by
              conv => rhs; rw [← List.map_id (ks ++ [key])]
              exact List.map_congr_left fun n _ => Int.toNat_natCast n
            rw [e3] at this
            exact this
          · rw [List.pairwise_map]
            exact so.imp fun h => Int.toNat_le_toNat h
        rw [e1, e2] at hl ⊢
        refine q _ l ((s2.trans (same_new (o := .lst (intsN (insertSorted key ks))) hp)).trans (same_new hl)) ?_
        rw [grow_out (fun z => z.elim h0 h1)]
        exact upd_same
      refine ⟨a, t, intsN ks, [V.int (key : Int)], rfl, rfl, .inl (.inl (s1 _ _ ha)), .inl (.inl upd_same), by rw [intsN_len]; show ks.length + 1 ≤ sizeLine; omega, fun hx => ?_, fun _ hy => absurd hy (by simp), fun hx _ p hp => ?_⟩
      · refine fin _ t s1 ?_
        have : ks = [] := by
          cases ks with
          | nil => rfl
          | cons a b => cases hx
        subst this
        exact upd_same
      · refine fin _ p (s1.trans (same_new hp)) ?_
        show upd _ p _ p = _
        rw [upd_same]
        unfold intsN
        rw [List.map_append]
        rfl
end
end Lab

/-! Whole sequences offline, def by def: 2. a replay; phases. -/
namespace Lab
open PySem PySem.Spec PyProof.Rows L2
open Vakptc (Plan emptyPlan replay replayFrom phaseStarts phaseStartsFrom)
theorem drop_at {α : Type} {l : List α} {i : Nat} {x : α} (h : l[i]? = some x) : l.drop i = x :: l.drop (i + 1) := by
  obtain ⟨hi, e⟩ := List.getElem?_eq_some_iff.mp h
  rw [List.drop_eq_getElem_cons hi, e]
def repL : Except Nat Nat → List Int
  | .ok m => [1, m]
  | .error i => [0, i]
section
variable {P : Program} {w : World} {K : PySem.W.Frag} {mg : Str → Option Value} {base : Heap}
def spReplayed (K : PySem.W.Frag) : Sp := fun vs H Q _ => ∃ (cap : Nat) (q e : Addr) (seq ev : List Nat), vs = [.int cap, .ref q, .ref e] ∧ SqL K H q (intsN seq) ∧ SqL K H e (intsN ev) ∧ cap ≤ 40 ∧ (∀ k ∈ seq, k ≤ 9) ∧ seq.length ≤ 1000 ∧
  ∀ (H' : Hp) (p : Addr), Same H H' → H p = none → H' p = some (.lst ((repL (replay cap seq ev)).map V.int)) → Q (.ref p) H'
theorem b_replayed (n_len : mg "len" = none) (n_enumerate : mg "enumerate" = none) (c_missed : C8.Cal P w K mg base 1 "missed" spMissed []) (c_must_evict : C8.Cal P w K mg base 1 "must_evict" spMust []) (c_without_key : C8.Cal P w K mg base 1 "without_key" spWithout [])
    (c_with_key : C8.Cal P w K mg base 1 "with_key" spWith []) : Body0 P w K mg base N_replayed "replayed" s_replayed 1 (spReplayed K) := by
  intro f cdv A outer s H vs Q E hr ⟨cap, q, e, seq, ev, ev0, hq, he, hcap, hs, hlen, k⟩
  subst ev0
  have nd := sc_replayed.nd
  refine ⟨_, (pss_cons (ps_set (i := 3) nd rfl (Or.inl rfl) (pe_tup pa_nil))
    (pss_cons (ps_set (i := 4) nd rfl (Or.inl rfl) pe_int)
    (pss_cons (ps_set (i := 5) nd rfl (Or.inl rfl) pe_int)
    (pss_cons (ps_for PassesOwn.never rfl (pi_enum (by rfl) n_enumerate (pa_cons (pv 1) pa_nil)) (pg_tup (by rfl) (pgs_cons (pg_name (i := 6) nd rfl (Or.inl rfl)) (pgs_cons (pg_name (i := 7) nd rfl (Or.inl rfl)) pgs_nil)))
      (pss_cons (ps_aug (i := 4) nd rfl (Or.inl rfl) (C8.pe_c c_missed hr (by decide) rfl (pa_cons (pv 3) (pa_cons (pv 7) pa_nil))) ip_add)
      (pss_cons (ps_if (pt_val (C8.pe_c c_must_evict hr (by decide) rfl (pa_cons (pv 0) (pa_cons (pv 3) (pa_cons (pv 7) pa_nil)))))
          (pss_cons (ps_if (PW.pt (pw_or (pt_cmpR op_eq (pv 5) (pe_callB call_len_seq (by rfl) n_len PySem.boot_len (pa_cons (pv 2) pa_nil)) (nomark _)) (pw_or1 (pt_cmpR op_notIn_seq (pe_ix ix_list (pv 2) (pv 5) (fun _ _ => rfl)) (pv 3) rfl))))
              (pss_one (ps_ret (pe_lst (pa_cons pe_int (pa_cons (pv 6) pa_nil)))))
              pss_nil)
            (pss_cons (ps_set (i := 3) nd rfl (Or.inl rfl) (C8.pe_c c_without_key hr (by decide) rfl (pa_cons (pv 3) (pa_cons (pe_ix ix_list (pv 2) (pv 5) (fun _ _ => rfl)) pa_nil))))
            (pss_one (ps_aug (i := 5) nd rfl (Or.inl rfl) pe_int ip_add))))
          pss_nil)
      (pss_one (ps_set (i := 3) nd rfl (Or.inl rfl) (C8.pe_c c_with_key hr (by decide) rfl (pa_cons (pv 0) (pa_cons (pv 3) (pa_cons (pv 7) pa_nil)))))))))
    (pss_cons (ps_if (pt_cmpR op_lt (pv 5) (pe_callB call_len_seq (by rfl) n_len PySem.boot_len (pa_cons (pv 2) pa_nil)) (nomark _))
      (pss_one (ps_ret (pe_lst (pa_cons pe_int (pa_cons (pe_callB call_len_seq (by rfl) n_len PySem.boot_len (pa_cons (pv 1) pa_nil)) pa_nil)))))
      pss_nil)
    (pss_one (ps_ret (pe_lst (pa_cons pe_int (pa_cons (pv 4) pa_nil)))))))))), ?_⟩
  refine ⟨Nat.zero_le _, fun t0 ht0 => ?_⟩
  have s0 := same_new (o := .tup []) ht0
  -- a list of two numbers for an answer
  have two : ∀ (H2 : Hp) (x y : Int), Same H H2 → repL (replay cap seq ev) = [x, y] → ∀ p, H2 p = none → Q (.ref p) (upd H2 p (.lst [.int x, .int y])) := by
    intro H2 x y s2 e2 p hp
    refine k _ p (s2.trans (same_new hp)) (s2.free hp) ?_
    rw [upd_same, e2]
    rfl
  refine ⟨_, rfl, q, intsN seq, rfl, s0.seq hq, for_enum (K := K) (a := q) (xs := intsN seq)
    (fun i σ H' => Same H H' ∧ ∃ (a : Addr) (plan : Plan) (used : Nat) (v6 v7 : Option V), σ = [some (.int cap), some (.ref q), some (.ref e), some (.ref a), some (.int plan.misses), some (.int used), v6, v7] ∧ KTup H' a plan.keys ∧ PlanOk cap i plan ∧ used ≤ ev.length ∧
      replayFrom cap i plan (seq.drop i) (ev.drop used) = replay cap seq ev)
    ⟨s0, t0, emptyPlan, 0, none, none, rfl, upd_same, plan_empty, Nat.zero_le _, rfl⟩ (fun i σ H' _ h => h.1.seq hq) ?_ ?_⟩
  · rintro i x σ H' T hx ⟨s1, a, plan, used, v6, v7, rfl, ha, hp, hu, eq⟩ hT
    obtain ⟨key, hkey, rfl⟩ := intsN_get hx
    have hk9 := hs key (List.mem_of_getElem? hkey)
    have s2 := same_new (o := .tup [V.int (i : Int), V.int (key : Int)]) hT
    rw [drop_at hkey, rep_step hp.ks hk9] at eq
    have few := keys_few hp.ks
    refine ⟨T, _, rfl, .inl (.inl upd_same), rfl, _, _, rfl, _, _, rfl, rfl, ?_⟩
    refine ⟨_, rfl, _, rfl, _, rfl, key, a, plan.keys, rfl, s2 _ _ ha, _, _, rfl, rfl, ?_⟩
    refine ⟨_, rfl, _, rfl, _, rfl, cap, key, a, plan.keys, rfl, s2 _ _ ha, _, rfl, ?_⟩
    cases hm : must cap plan.keys key with
    | true =>
      rw [hm, if_pos rfl] at eq
      refine iteT ⟨_, rfl, _, rfl, e, _, rfl, .inl ((s1.trans s2).seq he), rfl, _, rfl, ?_⟩
      rw [intsN_len, cast_eq]
      by_cases h1 : used = ev.length
      · rw [decide_eq_true h1]
        rw [h1, List.drop_length] at eq
        exact iteT (iteT ⟨_, rfl, by show 2 ≤ sizeLine; decide, two _ 0 i (s1.trans s2) (by rw [← eq]; rfl)⟩)
      · rw [decide_eq_false h1]
        have hul : used < ev.length := by omega
        have hgu := List.getElem?_eq_getElem hul
        rw [drop_at hgu] at eq
        dsimp only at eq
        refine iteF ⟨_, rfl, _, rfl, e, intsN ev, (used : Int), _, rfl, rfl, (s1.trans s2).seq he, at_of (j := used) rfl (intsN_at hgu), _, rfl, a, _, rfl, .inr (.inl (.inl (s2 _ _ ha))), rfl, ints_flat _, _, rfl, ?_⟩
        rw [inV_nat]
        cases hc : plan.keys.contains ev[used] with
        | false =>
          rw [hc] at eq
          exact iteT ⟨_, rfl, by show 2 ≤ sizeLine; decide, two _ 0 i (s1.trans s2) (by rw [← eq]; rfl)⟩
        | true =>
          rw [hc, if_pos rfl] at eq
          have hmem := List.contains_iff_mem.mp hc
          refine iteF ⟨_, rfl, _, rfl, _, rfl, e, intsN ev, (used : Int), _, rfl, rfl, (s1.trans s2).seq he, at_of (j := used) rfl (intsN_at hgu), ev[used], a, plan.keys, rfl, s2 _ _ ha, by omega, fun H3 p3 s3 hp3 hk3 => ?_⟩
          refine ⟨_, rfl, _, _, rfl, rfl, ?_⟩
          have up3 : (without plan.keys ev[used]).Pairwise (· < ·) := hp.ks.up.sublist List.filter_sublist
          have l3 := without_lt hmem
          refine ⟨_, rfl, _, rfl, _, rfl, cap, key, p3, _, rfl, hk3, up3, by omega, fun H4 p4 s4 hk4 => ?_⟩
          refine ⟨((s1.trans s2).trans s3).trans s4, p4, _, used + 1, some (.int (i : Int)), some (.int (key : Int)), ?_, hk4, steps_ok hp hk9 ?_, hul, eq⟩
          · show [some (V.int (cap : Int)), some (V.ref q), some (V.ref e), some (V.ref p4), some (V.int ((plan.misses : Int) + ((miss1 plan.keys key : Nat) : Int))), some (V.int ((used : Int) + 1)), some (V.int (i : Int)), some (V.int (key : Int))] = _
            have e1 : ((plan.misses : Int) + ((miss1 plan.keys key : Nat) : Int)) = ((plan.misses + miss1 plan.keys key : Nat) : Int) := by omega
            have e2 : ((used : Int) + 1) = ((used + 1 : Nat) : Int) := by omega
            rw [e1, e2]
          · unfold steps
            rw [hm, if_pos rfl]
            exact List.mem_map.mpr ⟨_, hmem, rfl⟩
    | false =>
      rw [hm, if_neg (by decide)] at eq
      refine iteF ⟨_, rfl, _, rfl, _, rfl, cap, key, a, plan.keys, rfl, s2 _ _ ha, hp.ks.up, by omega, fun H4 p4 s4 hk4 => ?_⟩
      refine ⟨(s1.trans s2).trans s4, p4, _, used, some (.int (i : Int)), some (.int (key : Int)), ?_, hk4, steps_ok hp hk9 ?_, hu, eq⟩
      · show [some (V.int (cap : Int)), some (V.ref q), some (V.ref e), some (V.ref p4), some (V.int ((plan.misses : Int) + ((miss1 plan.keys key : Nat) : Int))), some (V.int (used : Int)), some (V.int (i : Int)), some (V.int (key : Int))] = _
        have e1 : ((plan.misses : Int) + ((miss1 plan.keys key : Nat) : Int)) = ((plan.misses + miss1 plan.keys key : Nat) : Int) := by omega
        rw [e1]
      · unfold steps
        rw [hm, if_neg (by decide)]
        exact List.mem_singleton.mpr rfl
  · rintro σ H' ⟨s1, a, plan, used, v6, v7, rfl, ha, hp, hu, eq⟩
    rw [intsN_len, List.drop_length] at eq
    have eq : (if (ev.drop used).isEmpty = true then Except.ok plan.misses else Except.error seq.length) = replay cap seq ev := eq
    refine ⟨_, rfl, _, rfl, e, _, rfl, .inl (s1.seq he), _, _, rfl, rfl, _, rfl, ?_⟩
    rw [intsN_len]
    have z : decide ((used : Int) < (ev.length : Int)) = decide (used < ev.length) := by simp
    rw [z]
    by_cases h1 : used < ev.length
    · rw [decide_eq_true h1]
      refine iteT ⟨_, rfl, q, _, rfl, .inl (s1.seq hq), by show 2 ≤ sizeLine; decide, ?_⟩
      rw [intsN_len]
      refine two _ 0 seq.length s1 ?_
      rw [← eq, if_neg]
      · rfl
      · rw [List.isEmpty_iff]
        intro z
        have := congrArg List.length z
        rw [List.length_drop] at this
        simp at this
        omega
    · rw [decide_eq_false h1]
      refine iteF ⟨_, rfl, by show 2 ≤ sizeLine; decide, two _ 1 plan.misses s1 ?_⟩
      rw [← eq, if_pos]
      · rfl
      · rw [List.isEmpty_iff]
        exact List.drop_of_length_le (by omega)
end
end Lab

/-! Whole sequences offline, def by def: 3. phases. -/
namespace Lab
open PySem PySem.Spec PyProof.Rows L2
open Vakptc (phaseStarts phaseStartsFrom)
theorem intsN_snoc (l : List Nat) (n : Nat) : intsN l ++ [V.int (n : Int)] = intsN (l ++ [n]) := by
  unfold intsN
  rw [List.map_append]
  rfl
theorem same_off {H H' : Hp} {a : Addr} {o : HO} (s : Same H H') (n : H a = none) : Same H (upd H' a o) := fun b u e => by
  rw [upd_ne (ne_of_none e n)]
  exact s b u e
section
variable {P : Program} {w : World} {K : PySem.W.Frag} {mg : Str → Option Value} {base : Heap}
def spPhases (K : PySem.W.Frag) : Sp := fun vs H Q _ => ∃ (cap : Nat) (q : Addr) (seq : List Nat), vs = [.int cap, .ref q] ∧ SqL K H q (intsN seq) ∧ 1 ≤ cap ∧ cap ≤ 40 ∧ seq.length ≤ 1000 ∧
  ∀ (H' : Hp) (p : Addr), Same H H' → H p = none → H' p = some (.lst (intsN (phaseStarts cap seq))) → Q (.ref p) H'
theorem b_phase_starts (n_len : mg "len" = none) (n_enumerate : mg "enumerate" = none) : Body0 P w K mg base N_phase_starts "phase_starts" s_phase_starts 0 (spPhases K) := by
  intro f cdv A outer s H vs Q E hr ⟨cap, q, seq, ev0, hq, hc1, hcap, hlen, k⟩
  subst ev0
  have nd := sc_phase_starts.nd
  refine ⟨_, (pss_cons (ps_set (i := 2) nd rfl (Or.inl rfl) (pe_lst pa_nil))
    (pss_cons (ps_set (i := 3) nd rfl (Or.inl rfl) (pe_lst pa_nil))
    (pss_cons (ps_for PassesOwn.never rfl (pi_enum (by rfl) n_enumerate (pa_cons (pv 1) pa_nil)) (pg_tup (by rfl) (pgs_cons (pg_name (i := 4) nd rfl (Or.inl rfl)) (pgs_cons (pg_name (i := 5) nd rfl (Or.inl rfl)) pgs_nil)))
      (pss_cons (ps_if (pt_cmpR op_in_seq (pv 5) (pv 3) rfl)
        (pss_one (ps_continue))
        pss_nil)
      (pss_cons (ps_if (PW.pt (pw_or (pt_cmpR op_eq (pv 4) pe_int (nomark _)) (pw_or1 (pt_cmpR op_eq (pe_callB call_len_seq (by rfl) n_len PySem.boot_len (pa_cons (pv 3) pa_nil)) (pv 0) (nomark _)))))
        (pss_cons (ps_expr (pe_bm PySem.F.plainAttrs_list PySem.F.slot_list_append PySem.F.type_list_append mt_append (pv 2) (pa_cons (pv 4) pa_nil)))
        (pss_one (ps_set (i := 3) nd rfl (Or.inl rfl) (pe_lst pa_nil))))
        pss_nil)
      (pss_one (ps_expr (pe_bm PySem.F.plainAttrs_list PySem.F.slot_list_append PySem.F.type_list_append mt_append (pv 3) (pa_cons (pv 5) pa_nil)))))))
    (pss_one (ps_ret (pv 2)))))), ?_⟩
  refine ⟨Nat.zero_le _, fun st hst => ?_⟩
  refine ⟨Nat.zero_le _, fun se hse => ?_⟩
  have s0 := same_new (o := .lst []) hst
  have s1 := same_new (o := .lst []) hse
  have ne : st ≠ se := ne_of_none upd_same hse
  refine ⟨_, rfl, q, intsN seq, rfl, (s0.trans s1).seq hq, for_enum (K := K) (a := q) (xs := intsN seq)
    (fun i σ H' => Same H H' ∧ ∃ (se : Addr) (starts seen : List Nat) (v4 v5 : Option V), σ = [some (.int cap), some (.ref q), some (.ref st), some (.ref se), v4, v5] ∧ H' st = some (.lst (intsN starts)) ∧ H' se = some (.lst (intsN seen)) ∧ st ≠ se ∧ H se = none ∧
      starts.length ≤ i ∧ seen.length ≤ cap ∧ (i = 0 → seen = []) ∧ starts ++ phaseStartsFrom cap i seen (seq.drop i) = phaseStarts cap seq)
    ⟨s0.trans s1, se, [], [], none, none, rfl, (by rw [upd_ne ne]; exact upd_same), upd_same, ne, upd_live hse, Nat.le_refl _, Nat.zero_le _, fun _ => rfl, rfl⟩ (fun i σ H' _ h => h.1.seq hq) ?_ ?_⟩
  · rintro i x σ H' T hx ⟨s2, se, starts, seen, v4, v5, rfl, h1, h2, ne, nse, l1, l2, i0, eq⟩ hT
    obtain ⟨key, hkey, rfl⟩ := intsN_get hx
    have s3 := same_new (o := .tup [V.int (i : Int), V.int (key : Int)]) hT
    have il : i < seq.length := (List.getElem?_eq_some_iff.mp hkey).1
    rw [drop_at hkey] at eq
    obtain ⟨p1, p2⟩ := ph_step (key := key) (rest := seq.drop (i + 1)) hc1 l2 i0
    rw [p1] at eq
    have big : 2000 < sizeLine := by decide
    refine ⟨T, _, rfl, .inl (.inl upd_same), rfl, _, _, rfl, _, _, rfl, rfl, ?_⟩
    refine ⟨_, rfl, _, rfl, se, _, rfl, .inl (.inl (.inl (s3 _ _ h2))), rfl, ints_flat _, _, rfl, ?_⟩
    rw [inV_nat]
    by_cases c1 : key ∈ seen
    · rw [contains_t c1]
      have e : phNext cap i seen key = ([], seen) := if_pos c1
      rw [e] at eq p2
      exact iteT ⟨s2.trans s3, se, starts, seen, some (.int (i : Int)), some (.int (key : Int)), rfl, s3 _ _ h1, s3 _ _ h2, ne, nse, by omega, l2, fun z => by omega, eq⟩
    · rw [contains_f c1]
      -- behind the test: the key is taken in
      have put : ∀ (H4 : Hp) (se4 : Addr) (starts4 seen4 : List Nat), Same H H4 → H4 st = some (.lst (intsN starts4)) → H4 se4 = some (.lst (intsN seen4)) → st ≠ se4 → H se4 = none → starts4.length ≤ i + 1 → (seen4 ++ [key]).length ≤ cap → starts4 ++ phaseStartsFrom cap (i + 1) (seen4 ++ [key]) (seq.drop (i + 1)) = phaseStarts cap seq →
          Same H (upd H4 se4 (.lst (intsN seen4 ++ [V.int (key : Int)]))) ∧ ∃ (se : Addr) (starts seen : List Nat) (v4 v5 : Option V), [some (V.int (cap : Int)), some (V.ref q), some (V.ref st), some (V.ref se4), some (V.int (i : Int)), some (V.int (key : Int))] = [some (.int cap), some (.ref q), some (.ref st), some (.ref se), v4, v5] ∧
            (upd H4 se4 (.lst (intsN seen4 ++ [V.int (key : Int)]))) st = some (.lst (intsN starts)) ∧ (upd H4 se4 (.lst (intsN seen4 ++ [V.int (key : Int)]))) se = some (.lst (intsN seen)) ∧ st ≠ se ∧ H se = none ∧ starts.length ≤ i + 1 ∧ seen.length ≤ cap ∧ (i + 1 = 0 → seen = []) ∧ starts ++ phaseStartsFrom cap (i + 1) seen (seq.drop (i + 1)) = phaseStarts cap seq := by
        intro H4 se4 starts4 seen4 s4 a1 a2 a3 a4 a5 a6 a7
        refine ⟨same_off s4 a4, se4, starts4, seen4 ++ [key], _, _, rfl, ?_, ?_, a3, a4, a5, a6, fun z => by omega, a7⟩
        · rw [upd_ne a3]
          exact a1
        · rw [upd_same, intsN_snoc]
      refine iteF ⟨_, rfl, rfl, _, rfl, ?_⟩
      have z0 : decide (V.int (i : Int) = V.int 0) = decide (i = 0) := cast_eq (n := 0)
      rw [z0]
      -- a new phase
      have fresh : i = 0 ∨ seen.length = cap → ∀ {D : Ends}, (∀ (H5 : Hp) (se5 : Addr), Same H H5 → H5 st = some (.lst (intsN (starts ++ [i]))) → H5 se5 = some (.lst []) → st ≠ se5 → H se5 = none → D.nx [some (.int cap), some (.ref q), some (.ref st), some (.ref se5), some (.int (i : Int)), some (.int (key : Int))] H5) →
          tSeq (tDrop (tBM K "list" rAppend (tVar 2) (tCons (tVar 4) tNil))) (tAsg (tLst tNil) (gName 3)) D [some (.int cap), some (.ref q), some (.ref st), some (.ref se), some (.int (i : Int)), some (.int (key : Int))] (upd H' T (.tup [V.int (i : Int), V.int (key : Int)])) := by
        intro _ D hD
        refine ⟨_, rfl, .inl ⟨rfl, _, .inl (.inl (s3 _ _ h1))⟩, _, rfl, st, _, _, rfl, rfl, s3 _ _ h1, by rw [intsN_len]; omega, Nat.zero_le _, fun se5 hse5 => ?_⟩
        have s5 : Same H (upd (upd H' T (.tup [V.int (i : Int), V.int (key : Int)])) st (.lst (intsN starts ++ [V.int (i : Int)]))) := same_off (s2.trans s3) hst
        have n5 : H se5 = none := s5.free hse5
        refine hD _ se5 (s5.trans (same_new hse5)) ?_ upd_same (ne_of_none upd_same hse5) n5
        rw [upd_ne (ne_of_none upd_same hse5), upd_same, intsN_snoc]
      by_cases c2 : i = 0 ∨ seen.length = cap
      · have e : phNext cap i seen key = ([i], [key]) := (if_neg c1).trans (if_pos c2)
        rw [e] at eq p2
        have eq : (starts ++ [i]) ++ phaseStartsFrom cap (i + 1) ([] ++ [key]) (seq.drop (i + 1)) = phaseStarts cap seq := by
          rw [List.append_assoc]
          exact eq
        have small : 0 < sizeLine := by decide
        by_cases c3 : i = 0
        · rw [decide_eq_true c3]
          refine iteT (iteT (fresh c2 fun H5 se5 b1 b2 b3 b4 b5 => ?_))
          exact ⟨_, rfl, .inl ⟨rfl, _, .inl (.inl b3)⟩, _, rfl, se5, _, _, rfl, rfl, b3, small, put H5 se5 (starts ++ [i]) [] b1 b2 b3 b4 b5 (by simp; omega) p2 eq⟩
        · rw [decide_eq_false c3]
          refine iteF ⟨_, rfl, se, _, rfl, .inl (.inl (.inl (s3 _ _ h2))), _, rfl, rfl, _, rfl, ?_⟩
          rw [intsN_len, cast_eq, decide_eq_true (c2.resolve_left c3)]
          refine iteT (fresh c2 fun H5 se5 b1 b2 b3 b4 b5 => ?_)
          exact ⟨_, rfl, .inl ⟨rfl, _, .inl (.inl b3)⟩, _, rfl, se5, _, _, rfl, rfl, b3, small, put H5 se5 (starts ++ [i]) [] b1 b2 b3 b4 b5 (by simp; omega) p2 eq⟩
      · have e : phNext cap i seen key = ([], seen ++ [key]) := (if_neg c1).trans (if_neg c2)
        rw [e] at eq p2
        rw [decide_eq_false (fun z => c2 (.inl z))]
        refine iteF ⟨_, rfl, se, _, rfl, .inl (.inl (.inl (s3 _ _ h2))), _, rfl, rfl, _, rfl, ?_⟩
        rw [intsN_len, cast_eq, decide_eq_false (fun z => c2 (.inr z))]
        refine iteF ⟨_, rfl, .inl ⟨rfl, _, .inl (.inl (s3 _ _ h2))⟩, _, rfl, se, _, _, rfl, rfl, s3 _ _ h2, by rw [intsN_len]; omega, put _ se starts seen (s2.trans s3) (s3 _ _ h1) (s3 _ _ h2) ne nse (by omega) p2 eq⟩
  · rintro σ H' ⟨s2, se, starts, seen, v4, v5, rfl, h1, h2, ne, nse, l1, l2, i0, eq⟩
    rw [intsN_len, List.drop_length, phaseStartsFrom, List.append_nil] at eq
    refine ⟨_, rfl, k H' st s2 hst ?_⟩
    rw [← eq]
    exact h1
end
end Lab

/-! Whole sequences offline, def by def: 4. Belady's algorithm. -/
namespace Lab
open PySem PySem.Spec PyProof.Rows L2 LamX NdefX
open Vakptc (Plan emptyPlan nextUse farthestKey farthestPlan)
/-! ### all is as it was, but the table at P -/
structure Stt (P : Addr) (q : Str) (H H' : Hp) : Prop where
  keep : ∀ b o, H b = some o → b ≠ P → H' b = some o
  live : ∀ b, H' b = none → H b = none
  tab : TabS H' P q
theorem Stt.of {P : Addr} {q : Str} {H H' : Hp} (s : Same H H') (t : TabS H P q) : Stt P q H H' := ⟨fun b o e _ => s b o e, fun b n => s.free n, t.ext s⟩
theorem Stt.then {P : Addr} {q : Str} {H H1 H2 : Hp} (x : Stt P q H H1) (s : Same H1 H2) : Stt P q H H2 := ⟨fun b o e n => s b o (x.keep b o e n), fun b n => x.live b (s.free n), x.tab.ext s⟩
theorem Stt.trans {P : Addr} {q : Str} {H H1 H2 : Hp} (x : Stt P q H H1) (y : Stt P q H1 H2) : Stt P q H H2 := ⟨fun b o e n => y.keep b o (x.keep b o e n) n, fun b n => x.live b (y.live b n), y.tab⟩
theorem tab_at {H : Hp} {P : Addr} {q : Str} (t : TabS H P q) : ∃ ps, H P = some (.tbl ps) := let ⟨ps, h, _⟩ := t; ⟨ps, h⟩
theorem off_tab {H : Hp} {P b : Addr} {q : Str} {o : HO} (t : TabS H P q) (e : H b = some o) (n : ∀ ps, o ≠ .tbl ps) : b ≠ P := fun z => by
  obtain ⟨ps, h⟩ := tab_at t
  rw [z, h] at e
  exact n ps (Option.some.inj e).symm
theorem Stt.seq {P : Addr} {q : Str} {K : PySem.W.Frag} {H H' : Hp} {a : Addr} {xs : List V} (x : Stt P q H H') (t : TabS H P q) (h : SqL K H a xs) : SqL K H' a xs := by
  rcases h with (h | ⟨ob, h⟩) | h
  · exact .inl (.inl (x.keep _ _ h (off_tab t h (fun _ z => by cases z))))
  · exact .inl (.inr ⟨ob, x.keep _ _ h (off_tab t h (fun _ z => by cases z))⟩)
  · exact .inr h
theorem Stt.tup {P : Addr} {q : Str} {H H' : Hp} {a : Addr} {xs : List V} (x : Stt P q H H') (t : TabS H P q) (h : H a = some (.tup xs)) : H' a = some (.tup xs) := x.keep _ _ h (off_tab t h (fun _ z => by cases z))
theorem Stt.lst {P : Addr} {q : Str} {H H' : Hp} {a : Addr} {xs : List V} (x : Stt P q H H') (t : TabS H P q) (h : H a = some (.lst xs)) : H' a = some (.lst xs) := x.keep _ _ h (off_tab t h (fun _ z => by cases z))
/-! ### a def whose code object is known -/
structure FunC (K : PySem.W.Frag) (x qual : Str) (st : Stmt) (f : Addr) (fd : FuncData) (c : Addr) : Prop where
  ex : ∃ (oc : Value) (od : Option Addr) (kV doc pm : Value) (an : Option Addr) (ct : Value) (osl : Array (Option Value)), fd = PySem.W.fnOf x qual (defArgs st) (defBody st) (defScope st) .none kV doc pm an (.ref c) ct ∧ K.lookup f = some ⟨oc, od, .func fd, osl⟩ ∧ PySem.W.codeIn K (.ref c) qual = true
  kp : PySem.W.keepIn K (.ref f) = true
structure FnAtC (K : PySem.W.Frag) (mg : Str → Option Value) (x : Str) (st : Stmt) (ps : List Str) (c : Addr) : Prop where
  ex : ∃ f fd, mg x = some (.ref f) ∧ FunC K x x st f fd c ∧ L2.Binds K fd ps []
section
variable {P : Program} {w : World} {K : PySem.W.Frag} {mg : Str → Option Value} {base : Heap}
abbrev BodyC (P : Program) (w : World) (K : PySem.W.Frag) (mg : Str → Option Value) (base : Heap) (N : List Str) (qual : Str) (st : Stmt) (k : Nat) (sp : Sp) (c : Addr) : Prop :=
  ∀ (f : Addr) (A : Around) (outer : List Env) (s : Shared) (H : Hp) (vs : List V) (Q : VK) (E : XK), Room k (A.deeper (envOfC qual (defScope st) s.heap.objs.size f (.ref c))) → sp vs H Q E →
      ∃ t, PSs (cxOf L2.CX0 P w K mg base N qual (defScope st) f (.ref c) A outer s H E).nox (defBody st) t ∧ t { nx := fun _ H' => Q .non H', rt := Q } (start N vs) H
theorem cal_ofC {x : Str} {st : Stmt} {N ps : List Str} {k : Nat} {sp : Sp} {c : Addr} (D : FnAtC K mg x st ps c) (S : FnScope N ps (defScope st)) (len : ∀ vs H Q E, sp vs H Q E → vs.length = ps.length)
    (b : BodyC P w K mg base N x st k sp c) : C8.Cal P w K mg base (k + 1) x sp [] := by
  obtain ⟨f, fd, hm, F, hb⟩ := D.ex
  obtain ⟨oc, od, kV, doc, pm, an, ct, osl, rfl, lk, hcd⟩ := F.ex
  refine ⟨f, _, ps, [], fn_of lk hcd S len fun A outer s H vs Q E hr hsp => ?_, hm, F.kp, hb, .nil⟩
  obtain ⟨t, h, q⟩ := b f A outer s H vs Q E hr hsp
  exact ⟨t, h.nox, q⟩
/-! ### accesses_until -/
def spUntil (K : PySem.W.Frag) : Sp := fun vs H Q _ => ∃ (key : Nat) (up : Addr) (l : List Nat), vs = [.int key, .ref up] ∧ SqL K H up (intsN l) ∧ Q (.int ((nextUse l key : Nat) : Int)) H
theorem b_accesses_until (n_len : mg "len" = none) : Body0 P w K mg base N_accesses_until "accesses_until" s_accesses_until 0 (spUntil K) := by
  intro f cdv A outer s H vs Q E hr ⟨key, up, l, ev, hu, q⟩
  subst ev
  refine ⟨_, (pss_cons (ps_if (pt_cmpR op_in_seq (pv 0) (pv 1) rfl)
      (pss_one (ps_ret (pe_bm PySem.F.plainAttrs_list PySem.F.slot_list_index PySem.F.type_list_index mt_index (pv 1) (pa_cons (pv 0) pa_nil))))
      pss_nil)
    (pss_one (ps_ret (pe_callB call_len_seq (by rfl) n_len PySem.boot_len (pa_cons (pv 1) pa_nil))))), ?_⟩
  refine ⟨_, rfl, _, rfl, up, _, rfl, .inl hu, rfl, ints_flat _, _, rfl, ?_⟩
  rw [inV_nat]
  cases h : l.contains key with
  | true =>
    have hm := List.contains_iff_mem.mp h
    have hlt : nextUse l key < l.length := by
      unfold nextUse
      exact List.findIdx_lt_length_of_exists ⟨key, hm, by simp⟩
    have hg : l[nextUse l key]? = some key := by
      rw [List.getElem?_eq_getElem hlt]
      have := List.findIdx_getElem (p := fun y => y == key) (xs := l) (w := hlt)
      exact congrArg some (eq_of_beq this)
    refine iteT ⟨_, rfl, .inl ⟨rfl, _, hu⟩, _, rfl, up, intsN l, _, nextUse l key, _, rfl, rfl, hu, rfl, ints_flat _, intsN_at hg, ?_, fun m z hm' hz => ?_, q⟩
    · show ((key : Int) == (key : Int)) = true
      simp
    · obtain ⟨n, hn, rfl⟩ := intsN_get hz
      have hn2 := (List.getElem?_eq_some_iff.mp hn)
      have := List.not_of_lt_findIdx (p := fun y => y == key) (xs := l) hm'
      show ((n : Int) == (key : Int)) = false
      rw [hn2.2] at this
      have : ¬ n = key := by simpa using this
      simpa using fun z : (n : Int) = (key : Int) => this (by omega)
  | false =>
    refine iteF ⟨_, rfl, up, _, rfl, .inl hu, ?_⟩
    have e : nextUse l key = l.length := by
      unfold nextUse
      rw [List.findIdx_eq_length]
      intro x hx
      have : x ≠ key := fun z => not_mem h (by rw [← z]; exact hx)
      simpa using this
    rw [intsN_len, ← e]
    exact q
/-! ### farthest_key -/
/-- the lambda's parts -/
def lamParts (st : Stmt) : Arguments × Expr × Scope := match defBody st with
  | [.Return (some (.Call _ _ [⟨_, .Lambda p b s _, _⟩] _)) _] => (p, b, s)
  | _ => (defArgs st, .Name "x" ⟨0, 0, 0, 0⟩, defScope st)
abbrev lamQ : Str := "farthest_key.<locals>.<lambda>"
def spFar (K : PySem.W.Frag) (Pt : Addr) : Sp := fun vs H Q _ => ∃ (a up : Addr) (ks l : List Nat), vs = [.ref a, .ref up] ∧ KTup H a ks ∧ SqL K H up (intsN l) ∧ TabS H Pt lamQ ∧
  ∃ v, farthestKey l ks = some v ∧ ∀ H', Stt Pt lamQ H H' → Q (.int v) H'
theorem far_is (l : List Nat) : ∀ (rest : List Nat) (a : Nat), farI (fun x => ((nextUse l x.toNat : Nat) : Int)) (a : Int) (rest.map fun n : Nat => (n : Int)) = ((rest.foldl (fun a b => if nextUse l a < nextUse l b then b else a) a : Nat) : Int)
  | [], a => rfl
  | b :: r, a => by
    show farI _ (if ((nextUse l (a : Int).toNat : Nat) : Int) < ((nextUse l (b : Int).toNat : Nat) : Int) then (b : Int) else (a : Int)) (r.map fun n : Nat => (n : Int)) = _
    rw [List.foldl_cons]
    have e1 : ((a : Int).toNat) = a := Int.toNat_natCast a
    have e2 : ((b : Int).toNat) = b := Int.toNat_natCast b
    rw [e1, e2]
    by_cases c : nextUse l a < nextUse l b
    · rw [if_pos (Int.ofNat_lt.mpr c), if_pos c]
      exact far_is l r b
    · rw [if_neg (fun z => c (Int.ofNat_lt.mp z)), if_neg c]
      exact far_is l r a
/-- the lambda's promise -/
def spLam (K : PySem.W.Frag) : List (Option V) → Sp := fun ws vs H Q _ => ∃ (key : Nat) (up : Addr) (l : List Nat), vs = [.int key] ∧ ws = [some (.ref up)] ∧ SqL K H up (intsN l) ∧ Q (.int ((nextUse l key : Nat) : Int)) H
theorem lam_ok (c_until : C8.Cal P w K mg base 1 "accesses_until" (spUntil K) []) (qual : Str) (cl : List (Str × Addr)) (f c' : Addr) :
    LOk P w K mg base 2 f ⟨"<lambda>", qual, (lamParts s_farthest_key).1, [], (lamParts s_farthest_key).2.2, cl, c'⟩ (lamParts s_farthest_key).2.1 ["upcoming"] (spLam K) := by
  refine lok_of (N := ["key", "upcoming"]) (ps := ["key"]) (nscope_by (show nscB ["key", "upcoming"] ["key"] ["upcoming"] (lamParts s_farthest_key).2.2 = true by decide +kernel)) (fun pm ctv us hl => match us, hl with | [_], _ => rfl) (fun ws vs H Q E h => ?_) fun A outer s H vs ws Q hr hw h => ?_
  · obtain ⟨_, _, _, rfl, _⟩ := h
    rfl
  · obtain ⟨key, up, l, rfl, rfl, hu, q⟩ := h
    refine ⟨_, C8.pe_c c_until hr (by decide) rfl (pa_cons (pv 0) (pa_cons (pv 1) pa_nil)), ?_⟩
    exact ⟨_, rfl, _, rfl, key, up, l, rfl, hu, q⟩
theorem b_farthest_key {c Pt : Addr} (n_max : mg "max" = none) (TB : TabB base mg c Pt) (c_until : C8.Cal P w K mg base 1 "accesses_until" (spUntil K) []) : BodyC P w K mg base N_farthest_key "farthest_key" s_farthest_key 3 (spFar K Pt) c := by
  intro f A outer s H vs Q E hr ⟨a, up, ks, l, ev, ha, hu, tb, v, hv, q⟩
  subst ev
  refine ⟨_, (pss_one (ps_ret (pe_callBS (cr_maxLam (params := (lamParts s_farthest_key).1) (body := (lamParts s_farthest_key).2.1) (scope := (lamParts s_farthest_key).2.2) (fr := ["upcoming"]) (js := [1]) (sp := spLam K) hr (ndef_free (sc := defScope s_farthest_key) (fr := ["upcoming"]) (by decide +kernel)) (ndef_fr (sc := defScope s_farthest_key) (by decide +kernel)) rfl (fun f c' => lam_ok c_until _ _ f c'))
    (by rfl) n_max (by decide +kernel) (pa_cons (pv 0) pa_nil) (pk_cons (pe_lam1 (params := (lamParts s_farthest_key).1) (body := (lamParts s_farthest_key).2.1) (scope := (lamParts s_farthest_key).2.2) TB rfl rfl (ndef_free (sc := defScope s_farthest_key) (fr := ["upcoming"]) (by decide +kernel))) pk_nil)))), ?_⟩
  refine ⟨_, rfl, tb, fun fl c' H1 e1 e2 t1 f0 f1 c1 kp => ?_⟩
  have st : Stt Pt lamQ H H1 := ⟨kp, e2, t1⟩
  cases ks with
  | nil => cases hv
  | cons k0 rest =>
    have hv : some (rest.foldl (fun a b => if nextUse l a < nextUse l b then b else a) k0) = some v := hv
    have e : ((k0 : Int) :: rest.map fun n : Nat => (n : Int)).map V.int = intsN (k0 :: rest) := intsN_map (k0 :: rest)
    refine ⟨a, fl, c', (k0 : Int), rest.map fun n : Nat => (n : Int), fun x => ((nextUse l x.toNat : Nat) : Int), rfl, rfl, f1, c1, .inl (.inl (by rw [e]; exact st.tup tb ha)), fun x hx => ?_, ?_⟩
    · have hx : x ∈ (k0 :: rest).map fun n : Nat => (n : Int) := hx
      obtain ⟨n, _, rfl⟩ := List.mem_map.mp hx
      exact ⟨n, up, l, rfl, rfl, st.seq tb hu, rfl, rfl⟩
    · rw [far_is l rest k0, Option.some.inj hv]
      exact q H1 st
end
end Lab

/-! Whole sequences offline, def by def: 5. Belady's algorithm, the whole sequence. -/
namespace Lab
open PySem PySem.Spec PyProof.Rows L2 LamX NdefX
open Vakptc (Plan emptyPlan nextUse farthestKey farthestPlan)
theorem Stt.put {P a : Addr} {q : Str} {H H' : Hp} {xs : List V} {o : HO} (x : Stt P q H H') (n : H a = none) (h : H' a = some (.lst xs)) : Stt P q H (upd H' a o) := by
  refine ⟨fun b u e nb => ?_, fun b nb => x.live b (upd_live nb), ?_⟩
  · rw [upd_ne (ne_of_none e n)]
    exact x.keep b u e nb
  · obtain ⟨ps, h1, h2, h3⟩ := x.tab
    refine ⟨ps, ?_, h2, fun pos cv hc => ?_⟩
    · rw [upd_ne (ne_of h1 h (fun z => by cases z))]
      exact h1
    · obtain ⟨c, e1, e2⟩ := h3 pos cv hc
      refine ⟨c, e1, ?_⟩
      rw [upd_ne (ne_of e2 h (fun z => by unfold CodeO at z; cases z))]
      exact e2
theorem cut_from {seq : List Nat} {i : Nat} (hi : i ≤ seq.length) : cutV (intsN seq) (some ((i : Nat) : Int)) none = intsN (seq.drop i) := by
  unfold cutV
  rw [HT.sIx_nat, HT.sIx_none, intsN_len]
  have m : min i seq.length = i := Nat.min_eq_left hi
  rw [m]
  unfold intsN
  rw [List.map_drop, List.take_of_length_le]
  rw [List.length_drop, List.length_map]
  exact Nat.le_refl _
section
variable {P : Program} {w : World} {K : PySem.W.Frag} {mg : Str → Option Value} {base : Heap}
def spBelady (K : PySem.W.Frag) (Pt : Addr) : Sp := fun vs H Q _ => ∃ (cap : Nat) (q : Addr) (seq : List Nat), vs = [.int cap, .ref q] ∧ SqL K H q (intsN seq) ∧ TabS H Pt lamQ ∧ cap ≤ 40 ∧ (∀ k ∈ seq, k ≤ 9) ∧ seq.length ≤ 1000 ∧
  ∀ (H' : Hp) (p l : Addr), Stt Pt lamQ H H' → H p = none → H l = none → H' p = some (.tup [.int (farthestPlan cap emptyPlan seq).misses, .ref l]) → H' l = some (.lst (intsN (farthestPlan cap emptyPlan seq).evictions)) → (farthestPlan cap emptyPlan seq).evictions.length ≤ 1000 → Q (.ref p) H'
theorem b_belady {Pt : Addr} (n_enumerate : mg "enumerate" = none) (c_missed : C8.Cal P w K mg base 1 "missed" spMissed []) (c_must_evict : C8.Cal P w K mg base 1 "must_evict" spMust []) (c_without_key : C8.Cal P w K mg base 1 "without_key" spWithout [])
    (c_with_key : C8.Cal P w K mg base 1 "with_key" spWith []) (c_farthest_key : C8.Cal P w K mg base 4 "farthest_key" (spFar K Pt) []) : Body0 P w K mg base N_belady_evictions "belady_evictions" s_belady_evictions 4 (spBelady K Pt) := by
  intro f cdv A outer s H vs Q E hr ⟨cap, q, seq, ev0, hq, tb, hcap, hs, hlen, k⟩
  subst ev0
  have nd := sc_belady_evictions.nd
  refine ⟨_, (pss_cons (ps_set (i := 2) nd rfl (Or.inl rfl) (pe_tup pa_nil))
    (pss_cons (ps_set (i := 3) nd rfl (Or.inl rfl) pe_int)
    (pss_cons (ps_set (i := 4) nd rfl (Or.inl rfl) (pe_lst pa_nil))
    (pss_cons (ps_for PassesOwn.never rfl (pi_enum (by rfl) n_enumerate (pa_cons (pv 1) pa_nil)) (pg_tup (by rfl) (pgs_cons (pg_name (i := 5) nd rfl (Or.inl rfl)) (pgs_cons (pg_name (i := 6) nd rfl (Or.inl rfl)) pgs_nil)))
      (pss_cons (ps_aug (i := 3) nd rfl (Or.inl rfl) (C8.pe_c c_missed hr (by decide) rfl (pa_cons (pv 2) (pa_cons (pv 6) pa_nil))) ip_add)
      (pss_cons (ps_if (pt_val (C8.pe_c c_must_evict hr (by decide) rfl (pa_cons (pv 0) (pa_cons (pv 2) (pa_cons (pv 6) pa_nil)))))
          (pss_cons (ps_set (i := 7) nd rfl (Or.inl rfl) (C8.pe_c c_farthest_key hr (by decide) rfl (pa_cons (pv 2) (pa_cons (pe_slice sl_list (pv 1) (po_some (pe_op op_add (pv 5) pe_int)) po_none) pa_nil))))
          (pss_cons (ps_set (i := 2) nd rfl (Or.inl rfl) (C8.pe_c c_without_key hr (by decide) rfl (pa_cons (pv 2) (pa_cons (pv 7) pa_nil))))
          (pss_one (ps_expr (pe_bm PySem.F.plainAttrs_list PySem.F.slot_list_append PySem.F.type_list_append mt_append (pv 4) (pa_cons (pv 7) pa_nil))))))
          pss_nil)
      (pss_one (ps_set (i := 2) nd rfl (Or.inl rfl) (C8.pe_c c_with_key hr (by decide) rfl (pa_cons (pv 0) (pa_cons (pv 2) (pa_cons (pv 6) pa_nil)))))))))
    (pss_one (ps_ret (pe_tup (pa_cons (pv 3) (pa_cons (pv 4) pa_nil))))))))), ?_⟩
  refine ⟨Nat.zero_le _, fun t0 ht0 => ?_⟩
  refine ⟨Nat.zero_le _, fun l0 hl0 => ?_⟩
  have s0 := same_new (o := .tup []) ht0
  have s1 := same_new (o := .lst []) hl0
  have nl0 : H l0 = none := upd_live hl0
  refine ⟨_, rfl, q, intsN seq, rfl, (s0.trans s1).seq hq, for_enum (K := K) (a := q) (xs := intsN seq)
    (fun i σ H' => Stt Pt lamQ H H' ∧ ∃ (a : Addr) (plan : Plan) (v5 v6 v7 : Option V), σ = [some (.int cap), some (.ref q), some (.ref a), some (.int plan.misses), some (.ref l0), v5, v6, v7] ∧ KTup H' a plan.keys ∧ H' l0 = some (.lst (intsN plan.evictions)) ∧ PlanOk cap i plan ∧
      farthestPlan cap plan (seq.drop i) = farthestPlan cap emptyPlan seq)
    ⟨.of (s0.trans s1) tb, t0, emptyPlan, none, none, none, rfl, s1 _ _ upd_same, upd_same, plan_empty, rfl⟩ (fun i σ H' _ h => h.1.seq tb hq) ?_ ?_⟩
  · rintro i x σ H' T hx ⟨s2, a, plan, v5, v6, v7, rfl, ha, hl, hp, eq⟩ hT
    obtain ⟨key, hkey, rfl⟩ := intsN_get hx
    have hk9 := hs key (List.mem_of_getElem? hkey)
    have hi := (List.getElem?_eq_some_iff.mp hkey).1
    have s3 := same_new (o := .tup [V.int (i : Int), V.int (key : Int)]) hT
    have x3 := s2.then s3
    rw [drop_at hkey, far_step hp.ks hk9] at eq
    have few := keys_few hp.ks
    have pok := bNext_ok (rest := seq.drop (i + 1)) hp hk9
    have big : 3000 < sizeLine := by decide
    have e1 : ((plan.misses : Int) + ((miss1 plan.keys key : Nat) : Int)) = ((plan.misses + miss1 plan.keys key : Nat) : Int) := by omega
    refine ⟨T, _, rfl, .inl (.inl upd_same), rfl, _, _, rfl, _, _, rfl, rfl, ?_⟩
    refine ⟨_, rfl, _, rfl, _, rfl, key, a, plan.keys, rfl, s3 _ _ ha, _, _, rfl, rfl, ?_⟩
    refine ⟨_, rfl, _, rfl, _, rfl, cap, key, a, plan.keys, rfl, s3 _ _ ha, _, rfl, ?_⟩
    cases hm : must cap plan.keys key with
    | true =>
      obtain ⟨v, hv⟩ := far_some (rest := seq.drop (i + 1)) (must_ne hm)
      have hmem := far_mem hv
      have eb : bNext cap plan key (seq.drop (i + 1)) = { keys := grow cap (without plan.keys v) key, misses := plan.misses + miss1 plan.keys key, evictions := plan.evictions ++ [v] } := by
        unfold bNext
        rw [hm, if_pos rfl, hv]
        rfl
      rw [eb] at eq pok
      refine iteT ⟨_, rfl, _, rfl, _, rfl, _, _, rfl, rfl, _, rfl, q, _, rfl, x3.seq tb hq, fun sl hsl => ?_⟩
      have e2 : ((i : Int) + 1) = ((i + 1 : Nat) : Int) := by omega
      rw [e2, cut_from hi]
      have s4 := same_new (o := .lst (intsN (seq.drop (i + 1)))) hsl
      have x4 := x3.then s4
      refine ⟨a, sl, plan.keys, _, rfl, s4 _ _ (s3 _ _ ha), .inl (.inl upd_same), x4.tab, v, hv, fun H5 x5 => ?_⟩
      have x6 := x4.trans x5
      refine ⟨_, rfl, _, rfl, v, a, plan.keys, rfl, x5.tup x4.tab (s4 _ _ (s3 _ _ ha)), by omega, fun H7 p7 s7 hp7 hk7 => ?_⟩
      have hl7 : H7 l0 = some (.lst (intsN plan.evictions)) := s7 _ _ (x5.lst x4.tab (s4 _ _ (s3 _ _ hl)))
      have x7 := x6.then s7
      have lev := hp.ev
      have lms := hp.ms
      refine ⟨_, rfl, .inl ⟨rfl, _, .inl (.inl hl7)⟩, _, rfl, l0, _, _, rfl, rfl, hl7, by rw [intsN_len]; omega, ?_⟩
      rw [intsN_snoc]
      have x8 : Stt Pt lamQ H (upd H7 l0 (.lst (intsN (plan.evictions ++ [v])))) := x7.put nl0 hl7
      have up3 : (without plan.keys v).Pairwise (· < ·) := hp.ks.up.sublist List.filter_sublist
      have l3 := without_lt hmem
      refine ⟨_, rfl, _, rfl, _, rfl, cap, key, p7, _, rfl, ?_, up3, by omega, fun H9 p9 s9 hk9' => ?_⟩
      · show upd H7 l0 _ p7 = _
        rw [upd_ne (ne_of hk7 hl7 (fun z => by cases z))]
        exact hk7
      · refine ⟨x8.then s9, p9, _, some (.int (i : Int)), some (.int (key : Int)), some (.int (v : Int)), ?_, hk9', s9 _ _ upd_same, pok, eq⟩
        show [some (V.int (cap : Int)), some (V.ref q), some (V.ref p9), some (V.int ((plan.misses : Int) + ((miss1 plan.keys key : Nat) : Int))), some (V.ref l0), some (V.int (i : Int)), some (V.int (key : Int)), some (V.int (v : Int))] = _
        rw [e1]
    | false =>
      have eb : bNext cap plan key (seq.drop (i + 1)) = { keys := grow cap plan.keys key, misses := plan.misses + miss1 plan.keys key, evictions := plan.evictions } := by
        unfold bNext
        rw [hm, if_neg (by decide)]
      rw [eb] at eq pok
      refine iteF ⟨_, rfl, _, rfl, _, rfl, cap, key, a, plan.keys, rfl, s3 _ _ ha, hp.ks.up, by omega, fun H4 p4 s4 hk4 => ?_⟩
      refine ⟨x3.then s4, p4, { keys := grow cap plan.keys key, misses := plan.misses + miss1 plan.keys key, evictions := plan.evictions }, some (.int (i : Int)), some (.int (key : Int)), v7, ?_, hk4, s4 _ _ (s3 _ _ hl), pok, eq⟩
      show [some (V.int (cap : Int)), some (V.ref q), some (V.ref p4), some (V.int ((plan.misses : Int) + ((miss1 plan.keys key : Nat) : Int))), some (V.ref l0), some (V.int (i : Int)), some (V.int (key : Int)), v7] = _
      rw [e1]
  · rintro σ H' ⟨s2, a, plan, v5, v6, v7, rfl, ha, hl, hp, eq⟩
    rw [intsN_len] at hp
    rw [intsN_len, List.drop_length, farthestPlan] at eq
    have lev := hp.ev
    have lms := hp.ms
    rw [← eq] at k
    refine ⟨_, rfl, _, rfl, by show 2 ≤ sizeLine; decide, fun p hp2 => ?_⟩
    have s3 := same_new (o := .tup [V.int (plan.misses : Int), .ref l0]) hp2
    exact k _ p l0 (s2.then s3) (s2.live _ hp2) nl0 upd_same (s3 _ _ hl) (by omega)
end
end Lab

/-! Whole sequences offline, def by def: 6. the best way to each tuple of keys. -/
namespace Lab
open PySem PySem.Spec PyProof.Rows L2
open Vakptc (Plan emptyPlan isBetter addPlan extendAll bestPlan optimalPlan)
/-! ### how ways lie in the heap -/
def keyOf (ks : List Nat) : List Key := ks.map fun k : Nat => (Sum.inl (k : Int) : Key)
theorem keyOf_V (ks : List Nat) : (keyOf ks).map kV = intsN ks := by
  unfold keyOf intsN
  rw [List.map_map]
  rfl
theorem keyOf_inj {a b : List Nat} : keyOf a = keyOf b ↔ a = b := by
  constructor
  · intro h
    unfold keyOf at h
    have := congrArg (List.map fun k : Key => match k with | .inl z => z.toNat | .inr _ => 0) h
    rw [List.map_map, List.map_map] at this
    have e : ∀ l : List Nat, l.map ((fun k : Key => match k with | .inl z => z.toNat | .inr _ => 0) ∘ fun k : Nat => (Sum.inl (k : Int) : Key)) = l := by
      intro l
      conv => rhs; rw [← List.map_id l]
      exact List.map_congr_left fun n _ => Int.toNat_natCast n
    rwa [e, e] at this
  · exact congrArg keyOf
def WayN (H : Hp) (t : Addr) (p : Plan) : Prop := ∃ l, H t = some (.tup [.int p.misses, .ref l]) ∧ H l = some (.lst (intsN p.evictions))
theorem WayN.same {H H' : Hp} {t : Addr} {p : Plan} (x : WayN H t p) (k : ∀ b o, H b = some o → (∀ kvs, o ≠ .dT kvs) → (∀ ob u, o ≠ .frz ob u) → H' b = some o) : WayN H' t p :=
  let ⟨l, h1, h2⟩ := x
  ⟨l, k _ _ h1 (fun _ z => by cases z) (fun _ _ z => by cases z), k _ _ h2 (fun _ z => by cases z) (fun _ _ z => by cases z)⟩
theorem WayN.way {H : Hp} {t : Addr} {p : Plan} (x : WayN H t p) : WayAt H t p.misses (p.evictions.map fun n : Nat => (n : Int)) :=
  let ⟨l, h1, h2⟩ := x
  ⟨l, h1, by rw [intsN_map]; exact h2⟩
theorem way_better (p q : Plan) : wayLt p.misses (p.evictions.map fun n : Nat => (n : Int)) q.misses (q.evictions.map fun n : Nat => (n : Int)) = isBetter p q := by
  unfold wayLt isBetter
  rw [lessI_less]
  by_cases h : p.misses = q.misses
  · rw [if_pos (by rw [h]), h]
    simp
  · rw [if_neg (by omega)]
    have : (p.misses == q.misses) = false := by simpa using h
    rw [this]
    simp
def WaysAt (H : Hp) (kvs : List (List Key × V)) (plans : List Plan) : Prop := Paired (fun (kv : List Key × V) (p : Plan) => kv.1 = keyOf p.keys ∧ ∃ t, kv.2 = .ref t ∧ WayN H t p) kvs plans
theorem WaysAt.same {H H' : Hp} {kvs : List (List Key × V)} {plans : List Plan} (x : WaysAt H kvs plans) (k : ∀ b o, H b = some o → (∀ kvs, o ≠ .dT kvs) → (∀ ob u, o ≠ .frz ob u) → H' b = some o) : WaysAt H' kvs plans :=
  pair_imp x fun _ _ _ ⟨e, t, e2, w⟩ => ⟨e, t, e2, w.same k⟩
theorem WaysAt.len {H : Hp} {kvs : List (List Key × V)} {plans : List Plan} (x : WaysAt H kvs plans) : kvs.length = plans.length := pair_len x
/-- what is kept at the keys of a new plan -/
theorem ways_get {H : Hp} {tn : Addr} {new : Plan} (hn : WayN H tn new) : ∀ {kvs : List (List Key × V)} {plans : List Plan}, WaysAt H kvs plans → (plans.map (·.keys)).Nodup →
    (valV kvs (keyOf new.keys) = none ∧ (kvs.any fun kv => decide (kv.1 = keyOf new.keys)) = false ∧ addPlan plans new = plans ++ [new]) ∨
    ∃ (old : Plan) (t : Addr), valV kvs (keyOf new.keys) = some (.ref t) ∧ (kvs.any fun kv => decide (kv.1 = keyOf new.keys)) = true ∧ WayN H t old ∧
      (isBetter new old = true → WaysAt H (kvs.map fun kv => if kv.1 = keyOf new.keys then (kv.1, V.ref tn) else kv) (addPlan plans new)) ∧ (isBetter new old = false → addPlan plans new = plans)
  | [], _, .nil, _ => .inl ⟨rfl, rfl, rfl⟩
  | kv :: kvs, p :: plans, .cons ⟨e, t, e2, w⟩ r, nd => by
    rw [List.map_cons, List.nodup_cons] at nd
    by_cases c : p.keys = new.keys
    · right
      have ec : kv.1 = keyOf new.keys := by rw [e, c]
      refine ⟨p, t, by rw [valV_pos ec, e2], by rw [List.any_cons, decide_eq_true ec, Bool.true_or], w, fun b => ?_, fun b => ?_⟩
      · have ea : addPlan (p :: plans) new = new :: plans := by
          show (if p.keys = new.keys then (if isBetter new p = true then new else p) :: plans else _) = _
          rw [if_pos c, if_pos b]
        rw [ea, List.map_cons, if_pos ec]
        refine .cons ⟨ec, tn, rfl, hn⟩ ?_
        have : ∀ {kvs : List (List Key × V)} {plans : List Plan}, WaysAt H kvs plans → new.keys ∉ plans.map (·.keys) → WaysAt H (kvs.map fun kv => if kv.1 = keyOf new.keys then (kv.1, V.ref tn) else kv) plans := by
          intro kvs plans r
          induction r with
          | nil => exact fun _ => .nil
          | @cons a b l m f g ih =>
            intro hm
            rw [List.map_cons] at hm
            have ne : ¬ a.1 = keyOf new.keys := fun z => hm (by rw [f.1] at z; rw [← keyOf_inj.mp z]; exact List.mem_cons_self)
            rw [List.map_cons, if_neg ne]
            exact .cons f (ih fun z => hm (List.mem_cons_of_mem _ z))
        exact this r (by rw [← c]; exact nd.1)
      · show (if p.keys = new.keys then (if isBetter new p = true then new else p) :: plans else _) = _
        rw [if_pos c, if_neg (by rw [b]; decide)]
    · have ne : ¬ kv.1 = keyOf new.keys := fun z => c (by rw [e] at z; exact keyOf_inj.mp z)
      have ea : addPlan (p :: plans) new = p :: addPlan plans new := by
        show (if p.keys = new.keys then _ else p :: addPlan plans new) = _
        rw [if_neg c]
      rcases ways_get hn r nd.2 with ⟨h1, h2, h3⟩ | ⟨old, t', h1, h2, h3, h4, h5⟩
      · left
        refine ⟨by rw [valV_neg ne]; exact h1, by rw [List.any_cons, decide_eq_false ne, Bool.false_or]; exact h2, by rw [ea, h3]; rfl⟩
      · right
        refine ⟨old, t', by rw [valV_neg ne]; exact h1, by rw [List.any_cons, decide_eq_false ne, Bool.false_or]; exact h2, h3, fun b => ?_, fun b => by rw [ea, h5 b]⟩
        rw [ea, List.map_cons, if_neg ne]
        exact .cons ⟨e, t, e2, w⟩ (h4 b)
theorem upd_fix {H : Hp} {a : Addr} {o : HO} (h : H a = some o) : upd H a o = H := by
  funext b
  unfold upd
  by_cases e : b = a
  · rw [if_pos e, e, h]
  · rw [if_neg e]
/-- a dict of ways is written: the ways stand -/
theorem ways_upd {H : Hp} {d : Addr} {kvs kvs' kvs2 : List (List Key × V)} {plans : List Plan} (x : WaysAt H kvs plans) (h : H d = some (.dT kvs2)) : WaysAt (upd H d (.dT kvs')) kvs plans :=
  x.same fun b o e n _ => by
    rw [upd_ne (fun z => by rw [z, h] at e; exact n _ (Option.some.inj e).symm)]
    exact e
section
variable {P : Program} {w : World} {K : PySem.W.Frag} {mg : Str → Option Value} {base : Heap}
/-! ### keep_better -/
def spKeep : Sp := fun vs H Q _ => ∃ (d c t : Addr) (kvs : List (List Key × V)) (plans : List Plan) (new : Plan), vs = [.ref d, .ref c, .ref t] ∧ H d = some (.dT kvs) ∧ WaysAt H kvs plans ∧ (plans.map (·.keys)).Nodup ∧ KTup H c new.keys ∧ WayN H t new ∧ plans.length ≤ 2000 ∧
  ∀ kvs', WaysAt (upd H d (.dT kvs')) kvs' (addPlan plans new) → Q .non (upd H d (.dT kvs'))
theorem b_keep_better : Body0 P w K mg base N_keep_better "keep_better" s_keep_better 2 spKeep := by
  intro f cdv A outer s H vs Q E hr ⟨d, c, t, kvs, plans, new, ev, hd, hw, ndp, hc, hn, hlen, q⟩
  subst ev
  have hu := hu_of hr
  have big : 2000 < sizeLine := by decide
  have kl := hw.len
  have hc' : H c = some (.tup ((keyOf new.keys).map kV)) := by rw [keyOf_V]; exact hc
  refine ⟨_, (pss_one (ps_if (PW.pt (pw_or (pt_cmp (pc_dnotin hu (pv 1) (pv 0)) (by rfl)) (pw_or1 (pt_cmpR (op_ltW hr) (pv 2) (pe_dget hu (pv 0) (pv 1) (fun _ _ => rfl)) (nomark _)))))
      (pss_one (ps_dput hu (pv 0) (pv 1) (pv 2) rfl))
      pss_nil)), ?_⟩
  refine ⟨_, rfl, _, rfl, d, _, rfl, DGet.t hd hc', _, rfl, ?_⟩
  rcases ways_get hn hw ndp with ⟨h1, h2, h3⟩ | ⟨old, t', h1, h2, h3, h4, h5⟩
  · rw [h1]
    refine iteT (iteT ⟨_, rfl, _, rfl, _, rfl, d, _, rfl, DPut.t hd hc' (by omega), q _ ?_⟩)
    have e : putK kvs (keyOf new.keys) (V.ref t) = kvs ++ [(keyOf new.keys, V.ref t)] := by
      unfold putK
      rw [if_neg (by rw [h2]; decide)]
    rw [e, h3]
    exact ways_upd (Paired.snoc hw ⟨rfl, t, rfl, hn⟩) hd
  · rw [h1]
    have dg := DGet.t hd hc'
    rw [h1] at dg
    refine iteF ⟨_, rfl, _, rfl, _, rfl, d, _, rfl, dg, t, t', _, _, _, _, rfl, rfl, hn.way, h3.way, _, rfl, ?_⟩
    rw [way_better]
    have e : putK kvs (keyOf new.keys) (V.ref t) = kvs.map fun kv => if kv.1 = keyOf new.keys then (kv.1, V.ref t) else kv := by
      unfold putK
      rw [if_pos h2]
    cases b : isBetter new old with
    | true =>
      refine iteT ⟨_, rfl, _, rfl, _, rfl, d, _, rfl, DPut.t hd hc' (by omega), q _ ?_⟩
      rw [e]
      exact ways_upd (h4 b) hd
    | false =>
      refine iteF ?_
      have := q kvs (by rw [upd_fix hd, h5 b]; exact hw)
      rwa [upd_fix hd] at this
end
end Lab

/-! Whole sequences offline, def by def: 7. the ways after one more access. -/
namespace Lab
open PySem PySem.Spec PyProof.Rows L2
open Vakptc (Plan emptyPlan isBetter addPlan extendAll bestPlan optimalPlan)
theorem for_items {g : TG} {tb : TS} {D : Ends} {σ : L2.St} {H : Hp} {d : Addr} {o : Obj} {kvs : List (List Key × V)} (Pv : Nat → L2.St → Hp → Prop) (h0 : Pv 0 σ H) (hl : ∀ i σ H, i ≤ kvs.length → Pv i σ H → H d = some (.frz o (.dT kvs)))
    (hs : ∀ (i : Nat) (ky : List Key) (v : V) (σ : L2.St) (H : Hp) (T q : Addr), kvs[i]? = some (ky, v) → Pv i σ H → H T = none → H q = some (.tup (ky.map kV)) → g (.ref T) σ (upd H T (.tup [.ref q, v])) fun σ2 H2 => tb { D with nx := Pv (i + 1), ct := Pv (i + 1), bk := D.nx } σ2 H2)
    (hd : ∀ σ H, Pv kvs.length σ H → D.nx σ H) :
    ∃ W : Nat → Nat → L2.St → Hp → Prop, (∃ m, W 0 m σ H) ∧ ∀ i m σ H, W i m σ H → ((Itp d o kvs).stop i H ∧ D.nx σ H) ∨
      ((Itp d o kvs).go i H ∧ ∃ N : L2.St → Hp → Prop, (∀ σ' H', N σ' H' → ∃ m', m' < m ∧ W (i + 1) m' σ' H') ∧ ∀ x H', (Itp d o kvs).yld i H x H' → g x σ H' fun σ2 H2 => tb { D with nx := N, ct := N, bk := D.nx } σ2 H2) := by
  refine ⟨fun i m σ H => m = kvs.length - i ∧ i ≤ kvs.length ∧ Pv i σ H, ⟨_, rfl, Nat.zero_le _, h0⟩, ?_⟩
  rintro i m σ H ⟨rfl, hi, p⟩
  have q := hl i σ H hi p
  by_cases lt : i < kvs.length
  · refine .inr ⟨⟨q, lt⟩, Pv (i + 1), fun σ' H' p' => ⟨_, (by omega : kvs.length - (i + 1) < kvs.length - i), rfl, lt, p'⟩, ?_⟩
    rintro x H' ⟨T, ky, v, qa, e, rfl, hT, hq, rfl⟩
    exact hs i ky v σ H T qa e p hT hq
  · have e : i = kvs.length := by omega
    subst e
    exact .inl ⟨⟨q, Nat.le_refl _⟩, hd σ H p⟩
theorem same_way {H H' : Hp} {t : Addr} {p : Plan} (s : Same H H') (x : WayN H t p) : WayN H' t p := x.same fun b o e _ _ => s b o e
theorem same_ways {H H' : Hp} {kvs : List (List Key × V)} {plans : List Plan} (s : Same H H') (x : WaysAt H kvs plans) : WaysAt H' kvs plans := x.same fun b o e _ _ => s b o e
section
variable {P : Program} {w : World} {K : PySem.W.Frag} {mg : Str → Option Value} {base : Heap}
def spWays : Sp := fun vs H Q _ => ∃ (d : Addr) (cap key n : Nat) (kvs : List (List Key × V)) (plans : List Plan), vs = [.ref d, .int cap, .int key] ∧ H d = some (.dT kvs) ∧ WaysAt H kvs plans ∧ PlansOk cap n plans ∧ n ≤ 100 ∧ key ≤ 9 ∧ cap ≤ 40 ∧
  ∀ (H' : Hp) (p : Addr) (kvs' : List (List Key × V)), Same H H' → H p = none → H' p = some (.dT kvs') → WaysAt H' kvs' (extendAll cap plans key) → Q (.ref p) H'
theorem b_ways_after (c_missed : C8.Cal P w K mg base 1 "missed" spMissed []) (c_must_evict : C8.Cal P w K mg base 1 "must_evict" spMust []) (c_without_key : C8.Cal P w K mg base 1 "without_key" spWithout [])
    (c_with_key : C8.Cal P w K mg base 1 "with_key" spWith []) (c_keep_better : C8.Cal P w K mg base 3 "keep_better" spKeep []) : Body0 P w K mg base N_ways_after "ways_after" s_ways_after 3 spWays := by
  intro f cdv A outer s H vs Q E hr ⟨d, cap, key, n, kvs, plans, ev0, hd, hw, ok, hn, hk9, hcap, k⟩
  subst ev0
  have nd := sc_ways_after.nd
  refine ⟨_, (pss_cons (ps_set (i := 3) nd rfl (Or.inl rfl) pe_dnewT)
    (pss_cons (ps_lock (ps_for PassesOwn.never rfl (pi_itemsT (pv 0)) (pg_tup (by rfl) (pgs_cons (pg_name (i := 4) nd rfl (Or.inl rfl)) (pgs_cons (pg_name (i := 5) nd rfl (Or.inl rfl)) pgs_nil)))
      (pss_cons (ps_set (i := 6) nd rfl (Or.inl rfl) (pe_op op_add (pe_ix ix_tup (pv 5) pe_int (fun _ _ => rfl)) (C8.pe_c c_missed hr (by decide) rfl (pa_cons (pv 4) (pa_cons (pv 2) pa_nil)))))
      (pss_one (ps_if (pt_val (C8.pe_c c_must_evict hr (by decide) rfl (pa_cons (pv 1) (pa_cons (pv 4) (pa_cons (pv 2) pa_nil)))))
        (pss_one (ps_for PassesOwn.never rfl (pi_tup (pv 4)) (pg_name (i := 7) nd rfl (Or.inl rfl))
          (pss_cons (ps_set (i := 8) nd rfl (Or.inl rfl) (C8.pe_c c_with_key hr (by decide) rfl (pa_cons (pv 1) (pa_cons (C8.pe_c c_without_key hr (by decide) rfl (pa_cons (pv 4) (pa_cons (pv 7) pa_nil))) (pa_cons (pv 2) pa_nil)))))
          (pss_one (ps_expr (C8.pe_c c_keep_better hr (by decide) rfl (pa_cons (pv 3) (pa_cons (pv 8) (pa_cons (pe_tup (pa_cons (pv 6) (pa_cons (pe_op op_cat (pe_ix ix_tup (pv 5) pe_int (fun _ _ => rfl)) (pe_lst (pa_cons (pv 7) pa_nil))) pa_nil))) pa_nil)))))))))
        (pss_one (ps_expr (C8.pe_c c_keep_better hr (by decide) rfl (pa_cons (pv 3) (pa_cons (C8.pe_c c_with_key hr (by decide) rfl (pa_cons (pv 1) (pa_cons (pv 4) (pa_cons (pv 2) pa_nil)))) (pa_cons (pe_tup (pa_cons (pv 6) (pa_cons (pe_ix ix_tup (pv 5) pe_int (fun _ _ => rfl)) pa_nil))) pa_nil)))))))))))
    (pss_one (ps_ret (pv 3))))), ?_⟩
  intro fo hfo
  have nefd : d ≠ fo := ne_of_none hd hfo
  have sf := same_new (o := .dT []) hfo
  refine ⟨d, .dT kvs, sf _ _ hd, trivial, fun od => ?_⟩
  -- what is tracked while the ways are locked
  have nfo : (upd H d (.frz od (.dT kvs))) fo = none := by rw [upd_ne (Ne.symm nefd)]; exact hfo
  have s0 : Same (upd H d (.frz od (.dT kvs))) (upd (upd H fo (.dT [])) d (.frz od (.dT kvs))) := by
    intro b o e
    by_cases hb : b = d
    · rw [hb] at e ⊢
      rw [upd_same] at e ⊢
      exact e
    · rw [upd_ne hb] at e ⊢
      exact sf b o e
  have hwL : WaysAt (upd H d (.frz od (.dT kvs))) kvs plans := hw.same fun b o e n1 _ => by
    rw [upd_ne (fun z => by rw [z, hd] at e; exact n1 _ (Option.some.inj e).symm)]
    exact e
  have kl := hw.len
  refine ⟨_, rfl, d, od, kvs, rfl, upd_same, for_items (d := d) (o := od) (kvs := kvs)
    (fun i σ H' => Same (upd H d (.frz od (.dT kvs))) H' ∧ ∃ (kvs2 : List (List Key × V)) (v4 v5 v6 v7 v8 : Option V), σ = [some (.ref d), some (.int cap), some (.int key), some (.ref fo), v4, v5, v6, v7, v8] ∧ H' fo = some (.dT kvs2) ∧ WaysAt H' kvs2 ((made cap key (plans.take i)).foldl addPlan []))
    ⟨s0, [], none, none, none, none, none, rfl, (by rw [upd_ne (Ne.symm nefd)]; exact upd_same), .nil⟩ (fun i σ H' _ h => h.1 _ _ upd_same) ?_ ?_⟩
  · rintro i ky v σ H' T qa hkv ⟨s1, kvs2, v4, v5, v6, v7, v8, rfl, h2, w2⟩ hT hq
    obtain ⟨p, hp, ek, t, ev, wt⟩ := pair_get' hwL hkv
    dsimp only at ek ev
    subst ek ev
    rw [keyOf_V] at hq
    have sT := same_new (o := .tup [.ref qa, .ref t]) hT
    have hpm := List.mem_of_getElem? hp
    have pok := ok.ok p hpm
    have few := keys_few pok.ks
    have lms := pok.ms
    have lev := pok.ev
    have em : made cap key (plans.take (i + 1)) = made cap key (plans.take i) ++ steps cap key p := by
      unfold made
      rw [take_snoc hp, List.flatMap_append, List.flatMap_cons, List.flatMap_nil, List.append_nil]
    -- the plans made so far, and those of this way up to the j-th
    have mok : ∀ j, ∀ q ∈ made cap key (plans.take i) ++ (steps cap key p).take j, PlanOk cap (n + 1) q := by
      intro j q hq
      rcases List.mem_append.mp hq with hq | hq
      · obtain ⟨p', hp', hq⟩ := List.mem_flatMap.mp hq
        exact steps_ok (ok.ok p' (List.take_subset _ _ hp')) hk9 hq
      · exact steps_ok pok hk9 (List.take_subset _ _ hq)
    have hqT := sT _ _ hq
    obtain ⟨lt, wt1, wt2⟩ := same_way (s1.trans sT) wt
    have big : 4000 < sizeLine := by decide
    have e1 : ((p.misses : Int) + ((miss1 p.keys key : Nat) : Int)) = ((p.misses + miss1 p.keys key : Nat) : Int) := by omega
    refine ⟨T, _, rfl, .inl (.inl upd_same), rfl, _, _, rfl, _, _, rfl, rfl, ?_⟩
    refine ⟨_, rfl, t, _, 0, _, rfl, rfl, .inl (.inl wt1), at_of (j := 0) rfl rfl, _, rfl, _, rfl, key, qa, p.keys, rfl, hqT, _, _, rfl, rfl, ?_⟩
    refine ⟨_, rfl, _, rfl, _, rfl, cap, key, qa, p.keys, rfl, hqT, _, rfl, ?_⟩
    have w2T := same_ways sT w2
    have h2T := sT _ _ h2
    have s2 := s1.trans sT
    cases hm : must cap p.keys key with
    | true =>
      have es : steps cap key p = p.keys.map fun v => { keys := grow cap (without p.keys v) key, misses := p.misses + miss1 p.keys key, evictions := p.evictions ++ [v] } := by
        unfold steps
        rw [hm, if_pos rfl]
      refine iteT ⟨_, rfl, qa, rfl, ⟨_, .inl (.inl hqT)⟩, for_tup (K := K) (a := qa) (xs := intsN p.keys)
        (fun j σ H' => Same (upd H d (.frz od (.dT kvs))) H' ∧ H' t = some (.tup [.int p.misses, .ref lt]) ∧ H' lt = some (.lst (intsN p.evictions)) ∧ KTup H' qa p.keys ∧ ∃ (kvs3 : List (List Key × V)) (v7 v8 : Option V), σ = [some (.ref d), some (.int cap), some (.int key), some (.ref fo), some (.ref qa), some (.ref t), some (.int ((p.misses + miss1 p.keys key : Nat) : Int)), v7, v8] ∧
          H' fo = some (.dT kvs3) ∧ WaysAt H' kvs3 ((made cap key (plans.take i) ++ (steps cap key p).take j).foldl addPlan []))
        ⟨s2, wt1, wt2, hqT, kvs2, v7, v8, ?_, h2T, by rw [List.take_zero, List.append_nil]; exact w2T⟩ (fun j σ H' _ h => .inl (.inl h.2.2.2.1)) ?_ ?_⟩
      · show [some (V.ref d), some (V.int (cap : Int)), some (V.int (key : Int)), some (V.ref fo), some (V.ref qa), some (V.ref t), some (V.int ((p.misses : Int) + ((miss1 p.keys key : Nat) : Int))), v7, v8] = _
        rw [e1]
      · rintro j x σ H3 hx ⟨s3, b1, b2, b3, kvs3, u7, u8, rfl, h3, w3⟩
        obtain ⟨v, hv, rfl⟩ := intsN_get hx
        have hvm := List.mem_of_getElem? hv
        have okk := kept_ok (mok j)
        have up3 : (without p.keys v).Pairwise (· < ·) := pok.ks.up.sublist List.filter_sublist
        have l3 := without_lt hvm
        refine ⟨_, rfl, _, rfl, _, rfl, v, qa, p.keys, rfl, b3, by omega, fun H4 p4 s4 hp4 hk4 => ?_⟩
        refine ⟨_, rfl, cap, key, p4, _, rfl, hk4, up3, by omega, fun H5 p5 s5 hk5 => ?_⟩
        have s45 := s4.trans s5
        refine ⟨_, rfl, _, rfl, _, rfl, _, rfl, t, _, 1, _, rfl, rfl, .inl (.inl (s45 _ _ b1)), at_of (j := 1) rfl rfl, _, rfl, by show 1 ≤ sizeLine; decide, fun l6 hl6 => ?_⟩
        have s6 := same_new (o := .lst [V.int (v : Int)]) hl6
        refine ⟨lt, l6, intsN p.evictions, [V.int (v : Int)], rfl, rfl, s6 _ _ (s45 _ _ b2), upd_same, by rw [intsN_len]; show p.evictions.length + 1 ≤ sizeLine; omega, fun l7 hl7 => ?_⟩
        rw [intsN_snoc]
        have s7 := same_new (o := .lst (intsN (p.evictions ++ [v]))) hl7
        refine ⟨by show 2 ≤ sizeLine; decide, fun t8 ht8 => ?_⟩
        have s8 := same_new (o := .tup [V.int ((p.misses + miss1 p.keys key : Nat) : Int), .ref l7]) ht8
        have s58 := s45.trans ((s6.trans s7).trans s8)
        refine ⟨fo, p5, t8, kvs3, _, { keys := grow cap (without p.keys v) key, misses := p.misses + miss1 p.keys key, evictions := p.evictions ++ [v] }, rfl, s58 _ _ h3, same_ways s58 w3, okk.nd, ((s6.trans s7).trans s8) _ _ hk5, ⟨l7, upd_same, s8 _ _ upd_same⟩, Nat.le_trans (plans_few okk) (by decide), fun kvs' w' => ?_⟩
        have ne : ∀ {b : Addr} {o : HO}, H3 b = some o → (∀ kvs, o ≠ .dT kvs) → b ≠ fo := fun {b o} e n z => by
          rw [z, h3] at e
          exact n _ (Option.some.inj e).symm
        refine ⟨same_off (s3.trans s58) nfo, ?_, ?_, ?_, kvs', some (.int (v : Int)), some (.ref p5), rfl, upd_same, ?_⟩
        · rw [upd_ne (ne b1 (fun _ z => by cases z))]
          exact s58 _ _ b1
        · rw [upd_ne (ne b2 (fun _ z => by cases z))]
          exact s58 _ _ b2
        · show upd _ fo _ qa = _
          rw [upd_ne (ne b3 (fun _ z => by cases z))]
          exact s58 _ _ b3
        · have hg : (steps cap key p)[j]? = some { keys := grow cap (without p.keys v) key, misses := p.misses + miss1 p.keys key, evictions := p.evictions ++ [v] } := by
            rw [es, List.getElem?_map, hv]
            rfl
          rw [take_snoc hg, ← List.append_assoc, List.foldl_append]
          exact w'
      · rintro σ H3 ⟨s3, b1, b2, b3, kvs3, u7, u8, rfl, h3, w3⟩
        have hlen : (intsN p.keys).length = (steps cap key p).length := by rw [es, List.length_map, intsN_len]
        rw [hlen, List.take_length] at w3
        refine ⟨s3, kvs3, some (.ref qa), some (.ref t), some (.int ((p.misses + miss1 p.keys key : Nat) : Int)), u7, u8, rfl, h3, ?_⟩
        rw [em]
        exact w3
    | false =>
      have es : steps cap key p = [{ keys := grow cap p.keys key, misses := p.misses + miss1 p.keys key, evictions := p.evictions }] := by
        unfold steps
        rw [hm, if_neg (by decide)]
      refine iteF ⟨_, rfl, _, rfl, _, rfl, _, rfl, cap, key, qa, p.keys, rfl, hqT, pok.ks.up, by omega, fun H4 p4 s4 hk4 => ?_⟩
      refine ⟨_, rfl, _, rfl, t, _, 1, _, rfl, rfl, .inl (.inl (s4 _ _ wt1)), at_of (j := 1) rfl rfl, by show 2 ≤ sizeLine; decide, fun t5 ht5 => ?_⟩
      have s5 := same_new (o := .tup [V.int ((p.misses : Int) + ((miss1 p.keys key : Nat) : Int)), .ref lt]) ht5
      have s45 := s4.trans s5
      have okk := kept_ok (mok 0)
      rw [List.take_zero, List.append_nil] at okk
      refine ⟨fo, p4, t5, kvs2, _, { keys := grow cap p.keys key, misses := p.misses + miss1 p.keys key, evictions := p.evictions }, rfl, s45 _ _ h2T, same_ways s45 w2T, okk.nd, s5 _ _ hk4, ⟨lt, ?_, s45 _ _ wt2⟩, Nat.le_trans (plans_few okk) (by decide), fun kvs' w' => ?_⟩
      · rw [upd_same]
        show some (HO.tup [V.int ((p.misses : Int) + ((miss1 p.keys key : Nat) : Int)), V.ref lt]) = _
        rw [e1]
      · have s6 : Same (upd H d (.frz od (.dT kvs))) (upd (upd H4 t5 (.tup [V.int ((p.misses : Int) + ((miss1 p.keys key : Nat) : Int)), .ref lt])) fo (.dT kvs')) := same_off ((s2.trans s4).trans s5) nfo
        refine ⟨s6, kvs', some (.ref qa), some (.ref t), some (.int ((p.misses : Int) + ((miss1 p.keys key : Nat) : Int))), v7, v8, rfl, upd_same, ?_⟩
        rw [em, es, List.foldl_append]
        exact w'
  · rintro σ H' ⟨s1, kvs2, v4, v5, v6, v7, v8, rfl, h2, w2⟩
    have hdl : H' d = some (.frz od (.dT kvs)) := s1 _ _ upd_same
    rw [kl, List.take_length] at w2
    refine ⟨hdl, _, rfl, k _ fo kvs2 (fun b o e => ?_) hfo ?_ ?_⟩
    · by_cases hb : b = d
      · rw [hb, hd] at e
        rw [hb, upd_same]
        exact e
      · rw [upd_ne hb]
        exact s1 b o (by rw [upd_ne hb]; exact e)
    · rw [upd_ne (Ne.symm nefd)]
      exact h2
    · rw [extendAll_is ok hk9]
      refine w2.same fun b o e _ n2 => ?_
      rw [upd_ne (fun z => by rw [z, hdl] at e; exact n2 _ _ (Option.some.inj e).symm)]
      exact e
end
end Lab

/-! Whole sequences offline, def by def: 8. the minimum misses. -/
namespace Lab
open PySem PySem.Spec PyProof.Rows L2
open Vakptc (Plan emptyPlan isBetter addPlan extendAll bestPlan optimalPlan)
open Classical in
/-- which of two ways in the heap is the better one -/
noncomputable def ltW (H : Hp) (x y : V) : Bool := decide (∃ a b p q, x = .ref a ∧ y = .ref b ∧ WayN H a p ∧ WayN H b q ∧ isBetter p q = true)
theorem way_once {H : Hp} {a : Addr} {p q : Plan} (x : WayN H a p) (y : WayN H a q) : p.misses = q.misses ∧ p.evictions = q.evictions := by
  obtain ⟨l, h1, h2⟩ := x
  obtain ⟨m, h3, h4⟩ := y
  rw [h1] at h3
  injection h3 with h3
  injection h3 with h3
  injection h3 with e1 e2
  injection e1 with e1
  injection e2 with e2 _
  injection e2 with e2
  subst e2
  rw [h2] at h4
  injection h4 with h4
  injection h4 with h4
  refine ⟨Int.ofNat.inj e1, ?_⟩
  unfold intsN at h4
  exact List.map_inj_right (f := fun n : Nat => V.int (n : Int)) (fun a b z => by injection z with z; exact Int.ofNat.inj z) |>.mp h4
open Classical in
theorem ltW_is {H : Hp} {a b : Addr} {p q : Plan} (x : WayN H a p) (y : WayN H b q) : ltW H (.ref a) (.ref b) = isBetter p q := by
  unfold ltW
  rw [Bool.eq_iff_iff, decide_eq_true_eq]
  constructor
  · rintro ⟨a', b', p', q', e1, e2, x', y', h⟩
    injection e1 with e1
    injection e2 with e2
    subst e1 e2
    obtain ⟨h1, h2⟩ := way_once x x'
    obtain ⟨h3, h4⟩ := way_once y y'
    have : isBetter p q = isBetter p' q' := by
      unfold isBetter
      rw [h1, h2, h3, h4]
    rw [this]
    exact h
  · exact fun h => ⟨a, b, p, q, rfl, rfl, x, y, h⟩
theorem least_is {H : Hp} : ∀ {vs : List V} {plans : List Plan} {v : V} {p : Plan}, Paired (fun (v : V) (p : Plan) => ∃ t, v = .ref t ∧ WayN H t p) vs plans → (∃ t, v = .ref t ∧ WayN H t p) →
    ∃ t, leastV (ltW H) v vs = .ref t ∧ WayN H t (plans.foldl (fun a b => if isBetter b a then b else a) p)
  | _, _, v, p, .nil, h => h
  | x :: vs, q :: plans, v, p, .cons ⟨tx, ex, wx⟩ r, ⟨tv, ev, wv⟩ => by
    subst ex ev
    have e : leastV (ltW H) (.ref tv) (.ref tx :: vs) = leastV (ltW H) (if ltW H (.ref tx) (.ref tv) = true then .ref tx else .ref tv) vs := rfl
    rw [e, List.foldl_cons, ltW_is wx wv]
    refine least_is r ?_
    cases isBetter q p with
    | true => exact ⟨tx, rfl, wx⟩
    | false => exact ⟨tv, rfl, wv⟩
section
variable {P : Program} {w : World} {K : PySem.W.Frag} {mg : Str → Option Value} {base : Heap}
def spOptimal (K : PySem.W.Frag) : Sp := fun vs H Q _ => ∃ (cap : Nat) (q : Addr) (seq : List Nat), vs = [.int cap, .ref q] ∧ SqL K H q (intsN seq) ∧ cap ≤ 40 ∧ (∀ k ∈ seq, k ≤ 9) ∧ seq.length ≤ 90 ∧
  ∀ (H' : Hp) (t : Addr), Same H H' → WayN H' t (optimalPlan cap seq) → (optimalPlan cap seq).evictions.length ≤ 1000 → Q (.ref t) H'
theorem b_optimal (n_min : mg "min" = none) (c_ways_after : C8.Cal P w K mg base 4 "ways_after" spWays []) : Body0 P w K mg base N_optimal_evictions "optimal_evictions" s_optimal_evictions 4 (spOptimal K) := by
  intro f cdv A outer s H vs Q E hr ⟨cap, q, seq, ev0, hq, hcap, hs, hlen, k⟩
  subst ev0
  have nd := sc_optimal_evictions.nd
  refine ⟨_, (pss_cons (ps_set (i := 2) nd rfl (Or.inl rfl) (pe_disp1 hr.units0 (pe_tup pa_nil) (pe_tup (pa_cons pe_int (pa_cons (pe_lst pa_nil) pa_nil)))))
    (pss_cons (ps_for PassesOwn.never rfl (pi_list (pv 1)) (pg_name (i := 3) nd rfl (Or.inl rfl))
      (pss_one (ps_set (i := 2) nd rfl (Or.inl rfl) (C8.pe_c c_ways_after hr (by decide) rfl (pa_cons (pv 2) (pa_cons (pv 0) (pa_cons (pv 3) pa_nil)))))))
    (pss_one (ps_ret (pe_callB (cr_minVals hr (op_ltW (X := nest _) hr.in1)) (by rfl) n_min (by decide +kernel) (pa_cons (pe_bm0 PySem.F.plainAttrs_dict PySem.F.slot_dict_values PySem.F.type_dict_values mt_valsT (pv 2)) pa_nil)))))), ?_⟩
  intro d0 hd0
  refine ⟨Nat.zero_le _, fun t0 ht0 => ?_⟩
  refine ⟨Nat.zero_le _, fun l0 hl0 => ?_⟩
  refine ⟨by show 2 ≤ sizeLine; decide, fun w0 hw0 => ?_⟩
  have s0 := same_new (o := .dT []) hd0
  have s1 := same_new (o := .tup []) ht0
  have s2 := same_new (o := .lst []) hl0
  have s3 := same_new (o := .tup [V.int 0, .ref l0]) hw0
  have nd0 : d0 ≠ w0 := ne_of_none ((s1.trans s2) _ _ (upd_same (H := H) (a := d0) (o := .dT []))) hw0
  refine ⟨keyOf [], t0, .ref w0, rfl, (s2.trans s3) _ _ upd_same, ((s1.trans s2).trans s3) _ _ upd_same, ?_⟩
  have sAll : Same H (upd (upd (upd (upd (upd H d0 (.dT [])) t0 (.tup [])) l0 (.lst [])) w0 (.tup [V.int 0, .ref l0])) d0 (.dT [(keyOf [], V.ref w0)])) := same_off (((s0.trans s1).trans s2).trans s3) hd0
  have hd0' := ((s1.trans s2).trans s3) _ _ (upd_same (H := H) (a := d0) (o := .dT []))
  have nl0 : l0 ≠ d0 := ne_of (s3 _ _ (upd_same (H := upd (upd H d0 (.dT [])) t0 (.tup [])) (a := l0) (o := .lst []))) hd0' (fun z => by cases z)
  have wE : WaysAt (upd (upd (upd (upd (upd H d0 (.dT [])) t0 (.tup [])) l0 (.lst [])) w0 (.tup [V.int 0, .ref l0])) d0 (.dT [(keyOf [], V.ref w0)])) [(keyOf [], V.ref w0)] [emptyPlan] :=
    .cons ⟨rfl, w0, rfl, l0, by rw [upd_ne (Ne.symm nd0), upd_same]; rfl, by rw [upd_ne nl0]; exact s3 _ _ upd_same⟩ .nil
  refine ⟨_, rfl, q, rfl, ⟨_, sAll.seq hq⟩, for_list (K := K) (a := q) (xs := intsN seq)
    (fun i σ H' => Same H H' ∧ ∃ (d : Addr) (kvs : List (List Key × V)) (v3 : Option V), σ = [some (.int cap), some (.ref q), some (.ref d), v3] ∧ H' d = some (.dT kvs) ∧ WaysAt H' kvs ((seq.take i).foldl (extendAll cap) [emptyPlan]))
    ⟨sAll, d0, _, none, rfl, upd_same, wE⟩ (fun i σ H' _ h => h.1.seq hq) ?_ ?_⟩
  · rintro i x σ H' hx ⟨s4, d, kvs, v3, rfl, hd, hw⟩
    obtain ⟨key, hkey, rfl⟩ := intsN_get hx
    have hk9 := hs key (List.mem_of_getElem? hkey)
    have hi := (List.getElem?_eq_some_iff.mp hkey).1
    have pa := (plans_all (cap := cap) hs i (by omega)).1
    refine ⟨_, rfl, _, rfl, _, rfl, d, cap, key, i, kvs, _, rfl, hd, hw, pa, by omega, hk9, hcap, fun H5 p5 kvs5 s5 hp5 h5 w5 => ?_⟩
    refine ⟨s4.trans s5, p5, kvs5, some (.int (key : Int)), rfl, h5, ?_⟩
    rw [take_snoc hkey, List.foldl_append]
    exact w5
  · rintro σ H' ⟨s4, d, kvs, v3, rfl, hd, hw⟩
    rw [intsN_len, List.take_length] at hw
    obtain ⟨pa, pne⟩ := plans_all (cap := cap) hs seq.length (Nat.le_refl _)
    rw [List.take_length] at pa pne
    refine ⟨_, rfl, .inr (.inr (.inl ⟨rfl, .inr ⟨kvs, hd⟩⟩)), d, kvs, rfl, rfl, hd, fun p hp => ?_⟩
    have s5 := same_new (o := valsO p d) hp
    have hw5 := same_ways s5 hw
    -- the values, one by one
    have pv : Paired (fun (v : V) (p' : Plan) => ∃ t, v = .ref t ∧ WayN (upd H' p (valsO p d)) t p') (kvs.map (·.2)) (seq.foldl (extendAll cap) [emptyPlan]) := by
      have : ∀ {kvs : List (List Key × V)} {plans : List Plan}, WaysAt (upd H' p (valsO p d)) kvs plans → Paired (fun (v : V) (p' : Plan) => ∃ t, v = .ref t ∧ WayN (upd H' p (valsO p d)) t p') (kvs.map (·.2)) plans := by
        intro kvs plans r
        induction r with
        | nil => exact .nil
        | cons f g ih => exact .cons f.2 ih
      exact this hw5
    cases q1 : seq.foldl (extendAll cap) [emptyPlan] with
    | nil => exact absurd q1 pne
    | cons b0 bs =>
      rw [q1] at pv
      cases q2 : kvs.map (·.2) with
      | nil => rw [q2] at pv; cases pv
      | cons v0 rest =>
        rw [q2] at pv
        cases pv with
        | cons h0 hr0 =>
          obtain ⟨t, et, wt⟩ := least_is hr0 h0
          have eo : optimalPlan cap seq = bs.foldl (fun a b => if isBetter b a then b else a) b0 := by
            show bestPlan (seq.foldl (extendAll cap) [emptyPlan]) = _
            rw [q1]
            rfl
          rw [← eo] at wt
          refine ⟨p, d, kvs, ltW (upd H' p (valsO p d)), v0, rest, rfl, upd_same, s5 _ _ hd, q2, fun od x y hx hy Q' hQ' => ?_, ?_⟩
          · have mem : ∀ z ∈ kvs.map (·.2), ∃ t p', z = .ref t ∧ WayN (upd H' p (valsO p d)) t p' := by
              intro z hz
              obtain ⟨i, hi⟩ := List.getElem?_of_mem hz
              rw [List.getElem?_map] at hi
              cases e : kvs[i]? with
              | none => rw [e] at hi; cases hi
              | some kv =>
                rw [e] at hi
                obtain ⟨p', _, _, t, e2, w2⟩ := pair_get' hw5 e
                exact ⟨t, p', (Option.some.inj hi).symm.trans e2, w2⟩
            obtain ⟨a, p1, rfl, w1⟩ := mem x hx
            obtain ⟨b, p2, rfl, w2⟩ := mem y hy
            have lk : ∀ {t : Addr} {p' : Plan}, WayN (upd H' p (valsO p d)) t p' → WayN (upd (upd H' p (valsO p d)) d (.frz od (.dT kvs))) t p' := fun {t p'} x => x.same fun b o e n _ => by
              rw [upd_ne (fun z => by rw [z, s5 _ _ hd] at e; exact n _ (Option.some.inj e).symm)]
              exact e
            refine ⟨a, b, _, _, _, _, rfl, rfl, (lk w1).way, (lk w2).way, ?_⟩
            rw [way_better, ← ltW_is w1 w2]
            exact hQ'
          · rw [et]
            refine k _ t (s4.trans s5) wt ?_
            have hb : optimalPlan cap seq ∈ seq.foldl (extendAll cap) [emptyPlan] := by
              show bestPlan _ ∈ _
              rw [q1]
              have : ∀ (l : List Plan) (a : Plan), l.foldl (fun a b => if isBetter b a then b else a) a ∈ a :: l := by
                intro l
                induction l with
                | nil => exact fun a => List.mem_singleton.mpr rfl
                | cons c r ih =>
                  intro a
                  rw [List.foldl_cons]
                  rcases List.mem_cons.mp (ih (if isBetter c a = true then c else a)) with z | z
                  · rw [z]
                    split
                    · exact List.mem_cons_of_mem _ List.mem_cons_self
                    · exact List.mem_cons_self
                  · exact List.mem_cons_of_mem _ (List.mem_cons_of_mem _ z)
              exact this bs b0
            have po := pa.ok _ hb
            have h1 := po.ev
            have h2 := po.ms
            omega
end
end Lab

/-! The calls: how they leave the laboratory and the reader. -/
namespace Lab
open PySem PySem.Spec PyProof.Rows L2 LamX NdefX
open Vakptc (Cache contains cachedKeys emptyCache access accessAll Call Answer step)

/-- the classes, and the class of each refusal -/
structure Ad where
  CL : Addr
  CC : Addr
  CE : Addr
  CR : Addr
  err : Int → Addr
  Pt : Addr
def lF (a : Addr) : List (Str × V) := [("cache", .ref a)]
theorem lF_cache (a : Addr) : (lF a).lookup ("cache" : Str) = some (.ref a) := lk0
theorem lF_put (a b : Addr) : putF "cache" (.ref b) (lF a) = lF b := pt0
/-! ### what is no table and no code object -/
def Plain (o : HO) : Prop := (∀ ps, o ≠ .tbl ps) ∧ ∀ e, o ≠ .ext e
theorem plain_ins {C d : Addr} {fs : List (Str × V)} : Plain (.ins C d fs) := ⟨(fun _ z => by cases z), (fun _ z => by cases z)⟩
theorem plain_lst {xs : List V} : Plain (.lst xs) := ⟨(fun _ z => by cases z), (fun _ z => by cases z)⟩
/-- where what is no table and no code has changed, the table stands -/
theorem tab_off {H H' : Hp} {P : Addr} {q : Str} {F : List Addr} (t : TabS H P q) (o : ∀ b u, H b = some u → b ∉ F → H' b = some u) (hF : ∀ b ∈ F, ∃ u, H b = some u ∧ Plain u) : TabS H' P q := by
  obtain ⟨ps, h1, h2, h3⟩ := t
  refine ⟨ps, o _ _ h1 fun z => ?_, h2, fun pos cv hc => ?_⟩
  · obtain ⟨u, e, p⟩ := hF _ z
    rw [h1] at e
    exact p.1 _ (Option.some.inj e).symm
  · obtain ⟨c, e1, e2⟩ := h3 pos cv hc
    refine ⟨c, e1, o _ _ e2 fun z => ?_⟩
    obtain ⟨u, e, p⟩ := hF _ z
    rw [e2] at e
    unfold CodeO at e
    exact p.2 _ (Option.some.inj e).symm
theorem tab_upd {H : Hp} {P a : Addr} {q : Str} {o o' : HO} (t : TabS H P q) (e : H a = some o) (p : Plain o) : TabS (upd H a o') P q :=
  tab_off (F := [a]) t (fun b u h n => by rw [upd_ne (fun z => n (by rw [z]; exact List.mem_cons_self))]; exact h) fun b hb => ⟨o, by rw [List.mem_singleton.mp hb]; exact e, p⟩
theorem foot_plain {CC CE : Addr} {H : Hp} {a l : Addr} {bs : List Addr} {c : Cache} (x : CaAt CC CE H a l bs c) : ∀ b ∈ foot a l bs, ∃ o, H b = some o ∧ Plain o := fun b hb => by
  rcases List.mem_cons.mp hb with rfl | hb
  · obtain ⟨dx, e⟩ := x.ob
    exact ⟨_, e, plain_ins⟩
  · rcases List.mem_cons.mp hb with rfl | hb
    · exact ⟨_, x.ls, plain_lst⟩
    · obtain ⟨i, hi⟩ := List.getElem?_of_mem hb
      obtain ⟨y, _, dy, q⟩ := pair_get' x.en hi
      exact ⟨_, q, plain_ins⟩
theorem off_foot {CC CE P : Addr} {q : Str} {H : Hp} {a l : Addr} {bs : List Addr} {c : Cache} (t : TabS H P q) (x : CaAt CC CE H a l bs c) : P ∉ foot a l bs := fun h => by
  obtain ⟨o, e, p⟩ := foot_plain x P h
  obtain ⟨ps, e2⟩ := tab_at t
  rw [e] at e2
  exact p.1 _ (Option.some.inj e2)
/-- the laboratory lab with its cache c, the reader r at the place i of the calls -/
structure Sit (A : Ad) (K : PySem.W.Frag) (H : Hp) (lab r src dxr : Addr) (ns : List Int) (i : Nat) (a l : Addr) (bs : List Addr) (c : Cache) : Prop where
  lb : ∃ dl, H lab = some (.ins A.CL dl (lF a))
  rd : H r = some (.ins A.CR dxr (rF src i))
  sr : Src K H src ns
  ca : CaAt A.CC A.CE H a l bs c
  wf : WF c
  cap : c.capacity ≤ 6
  tb : TabS H A.Pt lamQ
section
variable {A : Ad} {K : PySem.W.Frag} {H H' H1 : Hp} {lab r src dxr : Addr} {ns : List Int} {i j : Nat} {a l a' l' : Addr} {bs bs' : List Addr} {c c' : Cache}
theorem Sit.rl (x : Sit A K H lab r src dxr ns i a l bs c) : r ≠ lab := by
  obtain ⟨dl, e⟩ := x.lb
  refine ne_of x.rd e fun z => ?_
  injection z with _ _ z
  exact absurd (congrArg List.length z) (by show ¬ (2 = 1); decide)
theorem Sit.rf (x : Sit A K H lab r src dxr ns i a l bs c) : r ∉ foot a l bs := fun h => by
  have e := x.rd
  rcases List.mem_cons.mp h with z | h
  · obtain ⟨dx, o⟩ := x.ca.ob
    rw [z, o] at e
    injection e with e
    injection e with _ _ e
    exact absurd (congrArg List.length e) (by show ¬ (5 = 2); decide)
  · rcases List.mem_cons.mp h with z | h
    · rw [z, x.ca.ls] at e
      cases e
    · obtain ⟨m, hm⟩ := List.getElem?_of_mem h
      obtain ⟨y, _, d, o⟩ := pair_get' x.ca.en hm
      rw [o] at e
      injection e with e
      injection e with _ _ e
      exact absurd (congrArg List.length e) (by show ¬ (4 = 2); decide)
theorem Sit.lf (x : Sit A K H lab r src dxr ns i a l bs c) : lab ∉ foot a l bs := fun h => by
  obtain ⟨dl, e⟩ := x.lb
  rcases List.mem_cons.mp h with z | h
  · obtain ⟨dx, o⟩ := x.ca.ob
    rw [z, o] at e
    injection e with e
    injection e with _ _ e
    exact absurd (congrArg List.length e) (by show ¬ (5 = 1); decide)
  · rcases List.mem_cons.mp h with z | h
    · rw [z, x.ca.ls] at e
      cases e
    · obtain ⟨m, hm⟩ := List.getElem?_of_mem h
      obtain ⟨y, _, d, o⟩ := pair_get' x.ca.en hm
      rw [o] at e
      injection e with e
      injection e with _ _ e
      exact absurd (congrArg List.length e) (by show ¬ (4 = 1); decide)
theorem Sit.srcOut (x : Sit A K H lab r src dxr ns i a l bs c) {ob : Obj} {u : HO} (e : H src = some (.frz ob u)) : src ∉ lab :: r :: foot a l bs := fun h => by
  rcases List.mem_cons.mp h with z | h
  · obtain ⟨dl, o⟩ := x.lb
    rw [z, o] at e
    cases e
  · rcases List.mem_cons.mp h with z | h
    · rw [z, x.rd] at e
      cases e
    · rcases List.mem_cons.mp h with z | h
      · obtain ⟨dx, o⟩ := x.ca.ob
        rw [z, o] at e
        cases e
      · rcases List.mem_cons.mp h with z | h
        · rw [z, x.ca.ls] at e
          cases e
        · obtain ⟨m, hm⟩ := List.getElem?_of_mem h
          obtain ⟨y, _, d, o⟩ := pair_get' x.ca.en hm
          rw [o] at e
          cases e
/-- the reader has moved on -/
theorem Sit.move (x : Sit A K H lab r src dxr ns i a l bs c) (j : Nat) : Sit A K (upd H r (.ins A.CR dxr (rF src j))) lab r src dxr ns j a l bs c :=
  ⟨let ⟨dl, e⟩ := x.lb; ⟨dl, by rw [upd_ne (Ne.symm x.rl)]; exact e⟩, upd_same, x.sr.upd x.rd,
    x.ca.keep fun b hb o e => by rw [upd_ne (fun z => x.rf (by rw [← z]; exact hb))]; exact e, x.wf, x.cap, tab_upd x.tb x.rd plain_ins⟩
/-- what was tracked is as it was, and nothing else has changed what is read -/
theorem Sit.same (x : Sit A K H lab r src dxr ns i a l bs c) (s : Same H H') : Sit A K H' lab r src dxr ns i a l bs c :=
  ⟨let ⟨dl, e⟩ := x.lb; ⟨dl, s _ _ e⟩, s _ _ x.rd, x.sr.same s, x.ca.same s, x.wf, x.cap, x.tb.ext s⟩
/-- behind a call -/
structure After (A : Ad) (K : PySem.W.Frag) (H H' : Hp) (lab r src dxr : Addr) (ns : List Int) (j : Nat) (a l : Addr) (bs : List Addr) (c' : Cache) : Prop where
  ex : ∃ a' l' bs', Sit A K H' lab r src dxr ns j a' l' bs' c' ∧ (∀ b ∈ foot a' l' bs', b ∈ foot a l bs ∨ H b = none)
  ou : Out (A.Pt :: lab :: r :: foot a l bs) H H'
end

section
variable {A : Ad} {K : PySem.W.Frag} {H H' H1 : Hp} {lab r src dxr : Addr} {ns : List Int} {i j : Nat} {a l a' l' : Addr} {bs bs' : List Addr} {c c' : Cache}
/-- nothing but the reader's place has changed, and new objects -/
theorem after_move (x : Sit A K H lab r src dxr ns i a l bs c) (j : Nat) (s : Same (upd H r (.ins A.CR dxr (rF src j))) H') : After A K H H' lab r src dxr ns j a l bs c :=
  ⟨⟨a, l, bs, (x.move j).same s, fun b hb => .inl hb⟩, ⟨fun b o e n => s b o (by rw [upd_ne (fun z => n (by rw [z]; exact List.mem_cons_of_mem _ (List.mem_cons_of_mem _ List.mem_cons_self)))]; exact e), fun b n => upd_live (s.free n)⟩⟩
/-- the cache has changed, and nothing else -/
theorem sit_cache (x : Sit A K H lab r src dxr ns i a l bs c) (h : CaAt A.CC A.CE H' a l' bs' c') (o : Out (foot a l bs) H H') (wf : WF c') (cap : c'.capacity ≤ 6) : Sit A K H' lab r src dxr ns i a l' bs' c' :=
  ⟨let ⟨dl, e⟩ := x.lb; ⟨dl, o.1 _ _ e x.lf⟩, o.1 _ _ x.rd x.rf, x.sr.out o fun ob u e hm => x.srcOut e (List.mem_cons_of_mem _ (List.mem_cons_of_mem _ hm)), h, wf, cap, tab_off x.tb o.1 (foot_plain x.ca)⟩
theorem after_cache (x : Sit A K H lab r src dxr ns i a l bs c) (j : Nat) (h : CaAt A.CC A.CE H1 a l' bs' c') (g : Grown (foot a l bs) (foot a l' bs') (upd H r (.ins A.CR dxr (rF src j)))) (o : Out (foot a l bs) (upd H r (.ins A.CR dxr (rF src j))) H1) (wf : WF c') (cap : c'.capacity ≤ 6) (s : Same H1 H') :
    After A K H H' lab r src dxr ns j a l bs c' :=
  ⟨⟨a, l', bs', (sit_cache (x.move j) h o wf cap).same s, fun b hb => (g b hb).elim .inl fun z => .inr (upd_live z)⟩, ⟨fun b u e n => s _ _ (o.1 b u (by rw [upd_ne (fun z => n (by rw [z]; exact List.mem_cons_of_mem _ (List.mem_cons_of_mem _ List.mem_cons_self)))]; exact e) fun hb => n (List.mem_cons_of_mem _ (List.mem_cons_of_mem _ (List.mem_cons_of_mem _ hb)))), fun b n => upd_live (o.2 b (s.free n))⟩⟩
/-- the code table has grown, and nothing else -/
theorem Sit.stt (x : Sit A K H lab r src dxr ns i a l bs c) (s : Stt A.Pt lamQ H H') : Sit A K H' lab r src dxr ns i a l bs c :=
  ⟨let ⟨dl, e⟩ := x.lb; ⟨dl, s.keep _ _ e (off_tab x.tb e (fun _ z => by cases z))⟩, s.keep _ _ x.rd (off_tab x.tb x.rd (fun _ z => by cases z)), x.sr.keep fun _ _ e => s.keep _ _ e (off_tab x.tb e (fun _ z => by cases z)),
    x.ca.keep fun b hb o e => s.keep b o e fun z => off_foot x.tb x.ca (by rw [← z]; exact hb), x.wf, x.cap, s.tab⟩
theorem after_tab (x : Sit A K H lab r src dxr ns i a l bs c) (j : Nat) (s : Stt A.Pt lamQ (upd H r (.ins A.CR dxr (rF src j))) H') : After A K H H' lab r src dxr ns j a l bs c :=
  ⟨⟨a, l, bs, (x.move j).stt s, fun b hb => .inl hb⟩, ⟨fun b o e n => s.keep b o (by rw [upd_ne (fun z => n (by rw [z]; exact List.mem_cons_of_mem _ (List.mem_cons_of_mem _ List.mem_cons_self)))]; exact e) fun z => n (by rw [z]; exact List.mem_cons_self), fun b n => upd_live (s.live b n)⟩⟩
end
/-- a call's promise: what the specification's step says, from here -/
def spOp (A : Ad) (K : PySem.W.Frag) (op : Int) : Sp := fun vs H Q E => ∃ (lab r src dxr : Addr) (ns : List Int) (i j : Nat) (k : Call) (a l : Addr) (bs : List Addr) (c : Cache), vs = [.ref lab, .ref r] ∧
  Sit A K H lab r src dxr ns i a l bs c ∧ opNo k = op ∧ ArgsAt ns i k j ∧
  (∀ (code : Int) (H' : Hp), (step c k).2 = .error code → After A K H H' lab r src dxr ns j a l bs c → E (.ref (A.err code)) none H') ∧
  (∀ (vals : List Int) (H' : Hp) (p : Addr), (step c k).2 = .numbers vals → After A K H H' lab r src dxr ns j a l bs (step c k).1 → H p = none → H' p = some (.lst (vals.map V.int)) → Q (.ref p) H')
end Lab

/-! The calls 0 to 6, def by def. -/
namespace Lab
open PySem PySem.Spec PyProof.Rows L2
open Vakptc (Cache contains cachedKeys emptyCache access accessAll Call Answer step)

structure TxtL (K : PySem.W.Frag) (mg : Str → Option Value) (A : Ad) : Prop where
  cl : Cls K A.CL
  nCache : NoAttr K A.CL "cache"
  n_len : mg "len" = none
section
variable {P : Program} {w : World} {K : PySem.W.Frag} {mg : Str → Option Value} {base : Heap} {A : Ad} {dV f0 f1 f2 f3 f4 : Addr}
/-! ### listed -/
def spListed (K : PySem.W.Frag) : Sp := fun vs H Q _ => ∃ (q : Addr) (xs : List V), vs = [.ref q] ∧ H q = some (.lst xs) ∧ xs.length + 1 ≤ sizeLine ∧ ∀ (H' : Hp) (p : Addr), Same H H' → H p = none → H' p = some (.lst (.int (xs.length : Int) :: xs)) → Q (.ref p) H'
theorem b_listed (n_len : mg "len" = none) : Body0 P w K mg base N_listed "listed" s_listed 0 (spListed K) := by
  intro f cdv Ar outer s H vs Q E hr ⟨q, xs, ev, hs, hl, k⟩
  subst ev
  refine ⟨_, (pss_one (ps_ret (pe_op op_cat (pe_lst (pa_cons (pe_callB call_len_seq (by rfl) n_len PySem.boot_len (pa_cons (pv 0) pa_nil)) pa_nil)) (pv 0)))), ?_⟩
  refine ⟨_, rfl, q, _, rfl, .inl (.inl (.inl hs)), (by show 1 ≤ sizeLine; decide), fun t ht => ?_⟩
  have s1 := same_new (o := .lst [.int (xs.length : Int)]) ht
  refine ⟨_, rfl, t, q, _, _, rfl, rfl, upd_same, s1 _ _ hs, (by show 1 + xs.length ≤ sizeLine; omega), fun p hp => ?_⟩
  exact k _ p (s1.trans (same_new hp)) (s1.free hp) upd_same

theorem nat_of {lo hi z : Int} (h0 : 0 ≤ lo) (h : rng lo hi z = true) : ∃ n : Nat, z = n ∧ z.toNat = n ∧ (n : Int) ≤ hi := by
  unfold rng at h
  rw [Bool.and_eq_true, decide_eq_true_eq, decide_eq_true_eq] at h
  exact ⟨z.toNat, by omega, rfl, by omega⟩

/-! ### 0: configure -/
theorem b_configure (T : TxtL K mg A) (m_take_number : C8.Met P w K mg base 1 A.CR "take_number" (spTakeN K A.CR) []) (c_check_capacity : CalX P w K mg base 1 "check_capacity" (spChk 0 6 (A.err (-1)))) (c_check_policy : CalX P w K mg base 1 "check_policy" (spChk 0 4 (A.err (-2))))
    (c_Cache : C8.Mak P w K mg base 1 "Cache" A.CC (spCacheInit A.CC A.CE) []) : BodyX P w K mg base N_answer_configure "answer_configure" s_answer_configure 2 (spOp A K 0) := by
  intro f cdv Ar outer s H vs Q E hr ⟨lab, r, src, dxr, ns, i, j, k, a, l, bs, c, ev, S, op, ar, qE, qN⟩
  subst ev
  cases k with
  | configure x y =>
    obtain ⟨h0, h1, rfl⟩ := ar
    have nd := sc_answer_configure.nd
    refine ⟨_, (pss_cons (ps_set (i := 2) nd rfl (Or.inl rfl) (C8.pe_mt0 m_take_number hr (by decide) (pv 1)))
      (pss_cons (ps_set (i := 3) nd rfl (Or.inl rfl) (C8.pe_mt0 m_take_number hr (by decide) (pv 1)))
      (pss_cons (ps_expr (pe_cX c_check_capacity hr (by decide) rfl (takes_of rfl rfl rfl rfl) (pa_cons (pv 2) pa_nil)))
      (pss_cons (ps_expr (pe_cX c_check_policy hr (by decide) rfl (takes_of rfl rfl rfl rfl) (pa_cons (pv 3) pa_nil)))
      (pss_cons (ps_fld (pv 0) (C8.pe_mk c_Cache hr (by decide) rfl (pa_cons (pv 2) (pa_cons (pv 3) pa_nil))) rfl)
      (pss_one (ps_ret (pe_lst (pa_cons pe_int pa_nil))))))))), ?_⟩
    have S1 := S.move (i + 1)
    have S2 := S.move (i + 2)
    refine ⟨_, rfl, r, dxr, _, rfl, S.rd, rF_none src i, r, src, dxr, i, ns, x, rfl, S.rd, S.sr.sq, h0, ?_⟩
    refine ⟨_, rfl, r, dxr, _, rfl, S1.rd, rF_none src _, r, src, dxr, i + 1, ns, y, rfl, S1.rd, S1.sr.sq, h1, ?_⟩
    rw [upd_upd]
    have st : step c (.configure x y) = if rng 0 6 x = false then (c, .error (-1)) else if rng 0 4 y = false then (c, .error (-2)) else (emptyCache x.toNat y.toNat, Vakptc.natural [0]) := rfl
    refine ⟨_, rfl, x, rfl, fun c1 => ?_, fun c1 => ?_⟩
    · refine ⟨_, rfl, y, rfl, fun c2 => ?_, fun c2 => ?_⟩
      · obtain ⟨n, rfl, tn, ln⟩ := nat_of (Int.le_refl 0) c1
        obtain ⟨m, rfl, tm, lm⟩ := nat_of (Int.le_refl 0) c2
        refine ⟨_, rfl, _, rfl, ?_⟩
        intro x dx nx ndx ne
        refine ⟨x, dx, n, m, rfl, upd_same, fun H3 l3 h3 hl3 o3 => ⟨rfl, ?_⟩⟩
        obtain ⟨dl, hlab⟩ := S2.lb
        have s3 : Same (upd H r (.ins A.CR dxr (rF src (i + 2)))) H3 := fun b u e => o3.1 b u (by rw [upd_ne (ne_of_none e nx), upd_ne (ne_of_none e ndx)]; exact e) (fun z => by rw [List.mem_singleton.mp z, nx] at e; cases e)
        refine ⟨_, rfl, lab, A.CL, dl, _, rfl, s3 _ _ hlab, T.cl, T.nCache, (by show 1 < 1000; decide), (by show 1 ≤ sizeLine; decide), fun p hp => ?_⟩
        rw [lF_put] at hp ⊢
        have e := st
        rw [c1, c2, if_neg (by decide), if_neg (by decide), tn, tm] at e
        have xlab : x ≠ lab := fun z => by rw [z, hlab] at nx; cases nx
        have lab3 : l3 ≠ lab := fun z => by
          have := upd_live (upd_live hl3)
          rw [z, hlab] at this
          cases this
        have nl : (upd H r (.ins A.CR dxr (rF src (i + 2)))) l3 = none := upd_live (upd_live hl3)
        have s4 := same_new (o := .lst [V.int 0]) hp
        rw [e] at qN
        refine qN [0] _ p rfl ⟨⟨x, l3, [], ⟨⟨dl, s4 _ _ upd_same⟩, s4 _ _ ?_, ?_, (h3.keep ?_).same s4, ?_, ?_, (tab_upd (S2.tb.ext s3) (s3 _ _ hlab) plain_ins).ext s4⟩, ?_⟩, ?_, ?_⟩ (upd_live (s3.free (upd_live hp))) upd_same
        · rw [upd_ne S.rl]
          exact s3 _ _ S2.rd
        · have x1 := S2.sr.same s3
          exact (x1.keep fun ob u e => by rw [upd_ne (ne_of e (s3 _ _ hlab) (fun z => by cases z))]; exact e).same s4
        · intro b hb o e
          rcases List.mem_cons.mp hb with rfl | hb
          · rw [upd_ne xlab]
            exact e
          · rcases List.mem_cons.mp hb with rfl | hb
            · rw [upd_ne lab3]
              exact e
            · cases hb
        · exact wf_new (by omega)
        · show n ≤ 6
          omega
        · intro b hb
          rcases List.mem_cons.mp hb with rfl | hb
          · exact .inr (upd_live nx)
          · rcases List.mem_cons.mp hb with rfl | hb
            · exact .inr (upd_live nl)
            · cases hb
        · intro b o e n
          have nlab : b ≠ lab := fun z => n (by rw [z]; exact List.mem_cons_of_mem _ List.mem_cons_self)
          have nr : b ≠ r := fun z => n (by rw [z]; exact List.mem_cons_of_mem _ (List.mem_cons_of_mem _ List.mem_cons_self))
          exact s4 _ _ (by rw [upd_ne nlab]; exact s3 _ _ (by rw [upd_ne nr]; exact e))
        · intro b n
          exact upd_live (s3.free (upd_live (s4.free n)))
      · refine qE (-2) _ ?_ (after_move S _ (Same.refl _))
        rw [st, c1, c2]
        rfl
    · refine qE (-1) _ ?_ (after_move S _ (Same.refl _))
      rw [st, c1]
      rfl
  | _ => exact absurd op (by simp [opNo])
end
end Lab

/-! The calls 1 to 6, def by def. -/
namespace Lab
open PySem PySem.Spec PyProof.Rows L2
open Vakptc (Cache contains cachedKeys emptyCache access accessAll Call Answer step)
section
variable {P : Program} {w : World} {K : PySem.W.Frag} {mg : Str → Option Value} {base : Heap} {A : Ad} {dV f0 f1 f2 f3 f4 : Addr}
/-! ### 1: access -/
theorem b_op_access (T : TxtL K mg A) (m_take_number : C8.Met P w K mg base 1 A.CR "take_number" (spTakeN K A.CR) []) (c_check_key : CalX P w K mg base 2 "check_key" (spChk 0 9 (A.err (-3))))
    (m_holds : C8.Met P w K mg base 2 A.CC "holds" (spHolds A.CC A.CE) []) (m_access : C8.Met P w K mg base 7 A.CC "access" (spAccess A.CC A.CE) []) (c_listed : C8.Cal P w K mg base 1 "listed" (spListed K) []) :
    BodyX P w K mg base N_answer_access "answer_access" s_answer_access 7 (spOp A K 1) := by
  intro f cdv Ar outer s H vs Q E hr ⟨lab, r, src, dxr, ns, i, j, k, a, l, bs, c, ev, S, op, ar, qE, qN⟩
  subst ev
  cases k with
  | access z =>
    obtain ⟨h0, rfl⟩ := ar
    have nd := sc_answer_access.nd
    refine ⟨_, (pss_cons (ps_set (i := 2) nd rfl (Or.inl rfl) (C8.pe_mt0 m_take_number hr (by decide) (pv 1)))
      (pss_cons (ps_expr (pe_cX c_check_key hr (by decide) rfl (takes_of rfl rfl rfl rfl) (pa_cons (pv 2) pa_nil)))
      (pss_cons (ps_set (i := 3) nd rfl (Or.inl rfl) (pe_ifExp (pt_val (C8.pe_mt m_holds hr (by decide) (pe_fld (pv 0) rfl) (pa_cons (pv 2) pa_nil))) pe_int pe_int))
      (pss_cons (ps_set (i := 4) nd rfl (Or.inl rfl) (C8.pe_mt m_access hr (by decide) (pe_fld (pv 0) rfl) (pa_cons (pv 2) pa_nil)))
      (pss_one (ps_ret (pe_op op_cat (pe_lst (pa_cons (pv 3) pa_nil)) (C8.pe_c c_listed hr (by decide) rfl (pa_cons (pv 4) pa_nil))))))))), ?_⟩
    have S1 := S.move (i + 1)
    obtain ⟨dl, hlab⟩ := S1.lb
    obtain ⟨dx, hob⟩ := S1.ca.ob
    refine ⟨_, rfl, r, dxr, _, rfl, S.rd, rF_none src i, r, src, dxr, i, ns, z, rfl, S.rd, S.sr.sq, h0, ?_⟩
    have st : step c (.access z) = if rng 0 9 z = false then (c, .error (-3)) else ((access c z.toNat).1, Vakptc.natural (Vakptc.flag (contains c z.toNat) :: Vakptc.withLength (match (access c z.toNat).2 with | some v => [v] | none => []))) := rfl
    refine ⟨_, rfl, z, rfl, fun c1 => ?_, fun c1 => ?_⟩
    · obtain ⟨n, rfl, tn, ln⟩ := nat_of (Int.le_refl 0) c1
      rw [c1, if_neg (by decide), tn] at st
      rw [st] at qN
      -- the hit's number
      have rest : ∀ {D : Ends}, D.rt = Q → tSeq (tAsg (tMeth A.CC "access" (spAccess A.CC A.CE) [] C8.E0 (tFld K (tVar 0) "cache") (tCons (tVar 2) tNil)) (gName 4)) (tRet (tOp rCat (tLst (tCons (tVar 3) tNil)) (tCall (spListed K) [] C8.E0 (tCons (tVar 4) tNil)))) D
          [some (.ref lab), some (.ref r), some (.int (n : Int)), some (.int (Vakptc.flag (contains c n) : Nat)), none] (upd H r (.ins A.CR dxr (rF src (i + 1)))) := by
        intro D hD
        refine ⟨_, rfl, lab, A.CL, dl, _, _, rfl, hlab, T.cl, T.nCache, lF_cache a, a, dx, _, rfl, hob, m_none c l, _, rfl, a, l, bs, c, n, rfl, S1.ca, S.wf, by have := S.cap; omega, fun H2 l2 bs2 p h2 g2 o2 hp np hp2 => ?_⟩
        refine ⟨_, rfl, (by show 1 ≤ sizeLine; decide), fun t ht => ?_⟩
        have s2 := same_new (o := .lst [V.int (Vakptc.flag (contains c n) : Nat)]) ht
        have hlen : (optL (access c n).2).length ≤ 1 := by
          cases (access c n).2 <;> simp [optL]
        refine ⟨_, rfl, p, _, rfl, s2 _ _ hp2, by
          have : sizeLine ≥ 2 := by decide
          omega, fun H3 q s3 hq hq3 => ?_⟩
        refine ⟨t, q, _, _, rfl, rfl, s3 _ _ upd_same, hq3, by
          have : sizeLine ≥ 3 := by decide
          simp only [List.length_cons, List.length_nil]
          omega, fun p5 hp5 => ?_⟩
        rw [hD]
        have s5 := same_new (o := .lst ([V.int (Vakptc.flag (contains c n) : Nat)] ++ (V.int ((optL (access c n).2).length : Int) :: optL (access c n).2))) hp5
        have wf2 := wf_access S.wf n
        have cap2 : (access c n).1.capacity ≤ 6 := by rw [(access_cap c n).1]; exact S.cap
        refine qN _ _ p5 rfl (after_cache S (i + 1) h2 g2 o2 wf2 cap2 ((s2.trans s3).trans s5)) (upd_live (o2.2 _ (s2.free (s3.free hp5)))) ?_
        rw [upd_same]
        cases (access c n).2 <;> rfl
      refine ⟨_, rfl, lab, A.CL, dl, _, _, rfl, hlab, T.cl, T.nCache, lF_cache a, a, dx, _, rfl, hob, m_none c l, _, rfl, a, l, bs, c, n, rfl, S1.ca, _, rfl, ?_⟩
      cases hc : contains c n with
      | true =>
        rw [hc] at rest
        exact iteT (rest rfl)
      | false =>
        rw [hc] at rest
        exact iteF (rest rfl)
    · refine qE (-3) _ ?_ (after_move S _ (Same.refl _))
      rw [st, c1]
      rfl
  | _ => exact absurd op (by simp [opNo])
end
end Lab

/-! The calls 2 to 6, def by def. -/
namespace Lab
open PySem PySem.Spec PyProof.Rows L2
open Vakptc (Cache contains cachedKeys emptyCache access accessAll Call Answer step)

theorem removed_len {es : List Ent} (nd : (es.map (·.key)).Nodup) (k : Nat) : es.length = (es.filter fun e => e.key != k).length + (if (es.map (·.key)).contains k then 1 else 0) := by
  induction es with
  | nil => rfl
  | cons e r ih =>
    rw [List.map_cons, List.nodup_cons] at nd
    have h := ih nd.2
    rw [List.filter_cons, List.length_cons]
    by_cases hk : e.key = k
    · have z : (e.key != k) = false := by simpa using hk
      rw [if_neg (by rw [z]; decide)]
      have nm : (r.map (·.key)).contains k = false := by
        rw [← hk]
        simpa using nd.1
      rw [nm] at h
      have c : ((e :: r).map (·.key)).contains k = true := by simp [hk]
      rw [c, if_pos rfl]
      simpa using h
    · have z : (e.key != k) = true := by simpa using hk
      rw [if_pos z]
      have c : ((e :: r).map (·.key)).contains k = (r.map (·.key)).contains k := by
        have q : (k == e.key) = false := by simpa using fun y => hk y.symm
        rw [List.map_cons, List.contains_cons, q, Bool.false_or]
      rw [c, List.length_cons]
      omega
theorem wf_filter {c : Cache} (w : WF c) (k : Nat) : WF (withE c (c.entries.filter fun e => e.key != k)) :=
  ⟨w.nd.sublist (List.Sublist.map _ List.filter_sublist), Nat.le_trans (List.length_filter_le _ _) w.le, w.po⟩
section
variable {P : Program} {w : World} {K : PySem.W.Frag} {mg : Str → Option Value} {base : Heap} {A : Ad} {dV f0 f1 f2 f3 f4 : Addr}
/-! ### 2: remove -/
theorem b_op_remove (T : TxtL K mg A) (m_take_number : C8.Met P w K mg base 1 A.CR "take_number" (spTakeN K A.CR) []) (c_check_key : CalX P w K mg base 2 "check_key" (spChk 0 9 (A.err (-3))))
    (m_remove_key : C8.Met P w K mg base 1 A.CC "remove_key" (spRemove A.CC A.CE) []) :
    BodyX P w K mg base N_answer_remove "answer_remove" s_answer_remove 2 (spOp A K 2) := by
  intro f cdv Ar outer s H vs Q E hr ⟨lab, r, src, dxr, ns, i, j, k, a, l, bs, c, ev, S, op, ar, qE, qN⟩
  subst ev
  cases k with
  | remove z =>
    obtain ⟨h0, rfl⟩ := ar
    have nd := sc_answer_remove.nd
    refine ⟨_, (pss_cons (ps_set (i := 2) nd rfl (Or.inl rfl) (C8.pe_mt0 m_take_number hr (by decide) (pv 1)))
      (pss_cons (ps_expr (pe_cX c_check_key hr (by decide) rfl (takes_of rfl rfl rfl rfl) (pa_cons (pv 2) pa_nil)))
      (pss_one (ps_ret (pe_lst (pa_cons (C8.pe_mt m_remove_key hr (by decide) (pe_fld (pv 0) rfl) (pa_cons (pv 2) pa_nil)) pa_nil)))))), ?_⟩
    have S1 := S.move (i + 1)
    obtain ⟨dl, hlab⟩ := S1.lb
    obtain ⟨dx, hob⟩ := S1.ca.ob
    refine ⟨_, rfl, r, dxr, _, rfl, S.rd, rF_none src i, r, src, dxr, i, ns, z, rfl, S.rd, S.sr.sq, h0, ?_⟩
    have st : step c (.remove z) = if rng 0 9 z = false then (c, .error (-3)) else (withE c (c.entries.filter fun e => e.key != z.toNat), Vakptc.natural [Vakptc.flag (contains c z.toNat)]) := rfl
    refine ⟨_, rfl, z, rfl, fun c1 => ?_, fun c1 => ?_⟩
    · obtain ⟨n, rfl, tn, ln⟩ := nat_of (Int.le_refl 0) c1
      rw [c1, if_neg (by decide), tn] at st
      rw [st] at qN
      have hl := Nat.le_trans S.wf.le S.cap
      refine ⟨_, rfl, lab, A.CL, dl, _, _, rfl, hlab, T.cl, T.nCache, lF_cache a, a, dx, _, rfl, hob, m_none c l, _, rfl, a, l, bs, c, n, rfl, S1.ca, by omega, fun H2 l2 h2 hl2 o2 => ?_⟩
      refine ⟨(by show 1 ≤ sizeLine; decide), fun p hp => ?_⟩
      have o2' : Out (foot a l bs) (upd H r (.ins A.CR dxr (rF src (i + 1)))) H2 := ⟨fun b o e n => o2.1 b o e fun hb => n (by rw [List.mem_singleton.mp hb]; exact List.mem_cons_self), o2.2⟩
      have hn : ((c.entries.length : Int) - ((c.entries.filter fun e => e.key != n).length : Int)) = (Vakptc.flag (contains c n) : Nat) := by
        have e : c.entries.length = (c.entries.filter fun e => e.key != n).length + (if (c.entries.map fun e => e.key).contains n then 1 else 0) := removed_len S.wf.nd n
        unfold Vakptc.contains cachedKeys Vakptc.flag
        by_cases h : (c.entries.map fun e => e.key).contains n = true
        · rw [if_pos h] at e ⊢
          omega
        · rw [if_neg h] at e ⊢
          omega
      refine qN _ _ p rfl (after_cache S (i + 1) h2 (fun b hb => ?_) o2' (wf_filter S.wf n) S.cap (same_new hp)) (upd_live (o2.2 _ hp)) ?_
      · rcases List.mem_cons.mp hb with rfl | hb
        · exact .inl List.mem_cons_self
        · rcases List.mem_cons.mp hb with rfl | hb
          · exact .inr hl2
          · exact .inl (List.mem_cons_of_mem _ (List.mem_cons_of_mem _ (keepB_sub.subset hb)))
      · rw [upd_same, hn]
        rfl
    · refine qE (-3) _ ?_ (after_move S _ (Same.refl _))
      rw [st, c1]
      rfl
  | _ => exact absurd op (by simp [opNo])
/-! ### 5: counters -/
theorem b_op_counters (T : TxtL K mg A) (TS : TxtS K mg A.CC A.CE dV f0 f1 f2 f3 f4) : BodyX P w K mg base N_answer_counters "answer_counters" s_answer_counters 0 (spOp A K 5) := by
  intro f cdv Ar outer s H vs Q E hr ⟨lab, r, src, dxr, ns, i, j, k, a, l, bs, c, ev, S, op, ar, qE, qN⟩
  subst ev
  cases k with
  | counters =>
    obtain rfl : j = i := ar
    obtain ⟨dl, hlab⟩ := S.lb
    obtain ⟨dx, hob⟩ := S.ca.ob
    refine ⟨_, (pss_one (ps_ret (pe_lst (pa_cons (pe_fld (pe_fld (pv 0) rfl) rfl) (pa_cons (pe_fld (pe_fld (pv 0) rfl) rfl) pa_nil))))), ?_⟩
    refine ⟨_, rfl, lab, A.CL, dl, _, _, rfl, hlab, T.cl, T.nCache, lF_cache a, a, A.CC, dx, _, _, rfl, hob, TS.clC, TS.nHit, cF_hit c l, _, rfl, lab, A.CL, dl, _, _, rfl, hlab, T.cl, T.nCache, lF_cache a, a, A.CC, dx, _, _, rfl, hob, TS.clC, TS.nMis, cF_mis c l, (by show 2 ≤ sizeLine; decide), fun p hp => ?_⟩
    refine qN [c.hits, c.misses] _ p rfl ⟨⟨a, l, bs, S.same (same_new hp), fun b hb => .inl hb⟩, Out.of_same (same_new hp)⟩ hp upd_same
  | _ => exact absurd op (by simp [opNo])
/-! ### 4: next_victim -/
theorem b_op_next (T : TxtL K mg A) (TS : TxtS K mg A.CC A.CE dV f0 f1 f2 f3 f4) (m_next_victim : C8.Met P w K mg base 4 A.CC "next_victim" (spNext A.CC A.CE) []) : BodyX P w K mg base N_answer_next_victim "answer_next_victim" s_answer_next_victim 4 (spOp A K 4) := by
  intro f cdv Ar outer s H vs Q E hr ⟨lab, r, src, dxr, ns, i, j, k, a, l, bs, c, ev, S, op, ar, qE, qN⟩
  subst ev
  cases k with
  | nextVictim =>
    obtain rfl : j = i := ar
    have nd := sc_answer_next_victim.nd
    obtain ⟨dl, hlab⟩ := S.lb
    obtain ⟨dx, hob⟩ := S.ca.ob
    refine ⟨_, (pss_cons (ps_set (i := 2) nd rfl (Or.inl rfl) (C8.pe_mt0 m_next_victim hr (by decide) (pe_fld (pv 0) rfl)))
      (pss_cons (ps_if (pt_cmpR op_isN (pv 2) pe_non (nomark _))
        (pss_one (ps_ret (pe_lst (pa_cons pe_int pa_nil))))
        pss_nil)
      (pss_one (ps_ret (pe_lst (pa_cons pe_int (pa_cons (pe_fld (pv 2) rfl) pa_nil))))))), ?_⟩
    refine ⟨_, rfl, lab, A.CL, dl, _, _, rfl, hlab, T.cl, T.nCache, lF_cache a, a, dx, _, rfl, hob, m_none c l, a, l, bs, c, rfl, S.ca, S.wf.po, fun hn => ?_, fun hf b H1 hb s1 => ?_⟩
    · refine ⟨_, rfl, rfl, _, rfl, iteT ⟨(by show 1 ≤ sizeLine; decide), fun p hp => ?_⟩⟩
      refine qN [0] _ p ?_ ⟨⟨a, l, bs, S.same (same_new hp), fun b hb => .inl hb⟩, Out.of_same (same_new hp)⟩ hp upd_same
      show (if c.capacity = 0 ∨ c.entries.length < c.capacity then Vakptc.natural [0] else _) = _
      rw [if_pos hn]
      rfl
    · refine ⟨_, rfl, rfl, _, rfl, iteF ?_⟩
      have hne : c.entries ≠ [] := fun z => by
        rw [z] at hf
        simp at hf
      obtain ⟨g, hg, dg, hbg⟩ := pair_get' S.ca.en hb
      refine ⟨_, rfl, b, A.CE, dg, _, _, rfl, s1 _ _ hbg, TS.clE, TS.nKey, eF_key g, (by show 2 ≤ sizeLine; decide), fun p hp => ?_⟩
      have s2 := s1.trans (same_new (o := .lst [V.int 1, V.int (g.key : Int)]) hp)
      refine qN [1, g.key] _ p ?_ ⟨⟨a, l, bs, S.same s2, fun b hb => .inl hb⟩, Out.of_same s2⟩ (s1.free hp) upd_same
      show (if c.capacity = 0 ∨ c.entries.length < c.capacity then Vakptc.natural [0] else match (Vakptc.selectVictim c.policy c.entries).1[(Vakptc.selectVictim c.policy c.entries).2]? with | none => Vakptc.natural [0] | some e => Vakptc.natural [1, e.key]) = _
      rw [if_neg hf]
      have ek := (evicted S.wf.po hne S.wf.nd hg).1
      cases q : (Vakptc.selectVictim c.policy c.entries).1[(Vakptc.selectVictim c.policy c.entries).2]? with
      | none =>
        rw [q] at ek
        cases ek
      | some e =>
        rw [q] at ek
        have e2 : e.key = g.key := Option.some.inj ek
        show Vakptc.natural [1, e.key] = _
        rw [e2]
        rfl
  | _ => exact absurd op (by simp [opNo])
/-! ### 3: contents -/
def told3 (es : List Ent) : List Int := es.flatMap fun e => [(e.key : Int), (e.useCount : Int), ((Vakptc.flag e.referenced : Nat) : Int)]
theorem told3_snoc (es : List Ent) (e : Ent) : told3 (es ++ [e]) = told3 es ++ [(e.key : Int), (e.useCount : Int), ((Vakptc.flag e.referenced : Nat) : Int)] := by
  unfold told3
  rw [List.flatMap_append]
  simp
theorem told3_len : ∀ es : List Ent, (told3 es).length = 3 * es.length
  | [] => rfl
  | e :: r => by
    have := told3_len r
    unfold told3 at this ⊢
    rw [List.flatMap_cons, List.length_append, this]
    simp
    omega
theorem b_op_contents (T : TxtL K mg A) (TS : TxtS K mg A.CC A.CE dV f0 f1 f2 f3 f4) : BodyX P w K mg base N_answer_contents "answer_contents" s_answer_contents 0 (spOp A K 3) := by
  intro f cdv Ar outer s H vs Q E hr ⟨lab, r, src, dxr, ns, i, j, k, a, l, bs, c, ev, S, op, ar, qE, qN⟩
  subst ev
  cases k with
  | contents =>
    obtain rfl : j = i := ar
    have nd := sc_answer_contents.nd
    obtain ⟨dl, hlab⟩ := S.lb
    obtain ⟨dx, hob⟩ := S.ca.ob
    have hl := Nat.le_trans S.wf.le S.cap
    refine ⟨_, (pss_cons (ps_set (i := 2) nd rfl (Or.inl rfl) (pe_lst (pa_cons (pe_callB call_len_seq (by rfl) T.n_len PySem.boot_len (pa_cons (pe_fld (pe_fld (pv 0) rfl) rfl) pa_nil)) pa_nil)))
      (pss_cons (ps_for PassesOwn.leaving rfl (pi_list (pe_fld (pe_fld (pv 0) rfl) rfl)) (pg_name (i := 3) nd rfl (Or.inl rfl))
        (pss_one (ps_expr (pe_bm PySem.F.plainAttrs_list PySem.F.slot_list_extend PySem.F.type_list_extend mt_extend (pv 2) (pa_cons (pe_lst (pa_cons (pe_fld (pv 3) rfl) (pa_cons (pe_fld (pv 3) rfl) (pa_cons (pe_fld (pv 3) rfl) pa_nil)))) pa_nil)))))
      (pss_one (ps_ret (pv 2))))), ?_⟩
    refine ⟨_, rfl, lab, A.CL, dl, _, _, rfl, hlab, T.cl, T.nCache, lF_cache a, a, A.CC, dx, _, _, rfl, hob, TS.clC, TS.nEnt, cF_ent c l, l, _, rfl, .inl (.inl (.inl S.ca.ls)), (by show 1 ≤ sizeLine; decide), fun t ht => ?_⟩
    have s1 := same_new (o := .lst [V.int ((bs.map V.ref).length : Int)]) ht
    refine ⟨_, rfl, lab, A.CL, dl, _, _, rfl, s1 _ _ hlab, T.cl, T.nCache, lF_cache a, a, A.CC, dx, _, _, rfl, s1 _ _ hob, TS.clC, TS.nEnt, cF_ent c l, l, rfl, ⟨_, .inl (.inl (s1 _ _ S.ca.ls))⟩, for_list (K := K) (a := l) (xs := bs.map V.ref)
      (fun m σ H' => (∃ v, σ = [some (.ref lab), some (.ref r), some (.ref t), v]) ∧ Same H H' ∧ H' t = some (.lst (((c.entries.length : Int) :: told3 (c.entries.take m)).map V.int))) ⟨⟨none, rfl⟩, s1, ?_⟩ ?_ ?_ ?_⟩
    · rw [upd_same, List.length_map, S.ca.len]
      rfl
    · rintro m σ H' _ ⟨_, s2, _⟩
      exact .inl (.inl (s2 _ _ S.ca.ls))
    · rintro m x σ H' hx ⟨⟨v, rfl⟩, s2, h2⟩
      obtain ⟨b, hb, rfl⟩ := map_ref_get hx
      obtain ⟨e, he, d, hbe⟩ := pair_get' S.ca.en hb
      refine ⟨_, rfl, .inl ⟨rfl, _, .inl (.inl h2)⟩, _, rfl, b, A.CE, d, _, _, rfl, s2 _ _ hbe, TS.clE, TS.nKey, eF_key e, _, rfl, b, A.CE, d, _, _, rfl, s2 _ _ hbe, TS.clE, TS.nUse, eF_use e, _, rfl, b, A.CE, d, _, _, rfl, s2 _ _ hbe, TS.clE, TS.nBit, eF_bit e, (by show 3 ≤ sizeLine; decide), fun q hq => ?_⟩
      have s3 := same_new (o := .lst [V.int (e.key : Int), V.int (e.useCount : Int), bitV e.referenced]) hq
      refine ⟨t, q, _, _, rfl, rfl, s3 _ _ h2, upd_same, ?_, ?_⟩
      · have z1 : (c.entries.take m).length ≤ 6 := Nat.le_trans (List.length_take_le' ..) hl
        have z2 := told3_len (c.entries.take m)
        have z3 : (30 : Nat) ≤ sizeLine := by decide
        rw [List.length_map, List.length_cons]
        show _ + 3 ≤ sizeLine
        omega
      · have tq : t ≠ q := ne_of_none h2 hq
        refine ⟨⟨_, rfl⟩, fun b u e => ?_, ?_⟩
        · rw [upd_ne (ne_of_none e ht)]
          exact s3 _ _ (s2 _ _ e)
        · rw [upd_same, take_snoc he, told3_snoc]
          have eb : bitV e.referenced = V.int ((Vakptc.flag e.referenced : Nat) : Int) := by
            unfold bitV Vakptc.flag
            cases e.referenced <;> rfl
          rw [eb, List.map_cons, List.map_cons, List.map_append]
          rfl
    · rintro σ H' ⟨⟨v, rfl⟩, s2, h2⟩
      rw [List.length_map, S.ca.len, List.take_length] at h2
      refine ⟨_, rfl, qN ((c.entries.length : Int) :: told3 c.entries) _ t ?_ ⟨⟨a, l, bs, S.same s2, fun b hb => .inl hb⟩, Out.of_same s2⟩ ht h2⟩
      show Vakptc.natural (c.entries.length :: c.entries.flatMap fun e => [e.key, e.useCount, Vakptc.flag e.referenced]) = _
      unfold Vakptc.natural told3
      rw [List.map_cons, List.map_flatMap]
      rfl
  | _ => exact absurd op (by simp [opNo])
end
end Lab

/-! The call 6. -/
namespace Lab
open PySem PySem.Spec PyProof.Rows L2
open Vakptc (Cache contains cachedKeys emptyCache access accessAll Call Answer step)

theorem upd_swap {H : Hp} {r p : Addr} {o o' : HO} (h : upd H r o p = none) : upd H r o' p = none := by
  by_cases e : p = r
  · subst e
    rw [upd_same] at h
    cases h
  · rw [upd_ne e] at h ⊢
    exact h
theorem ints_nats : ∀ {zs : List Int}, (∀ z ∈ zs, 0 ≤ z) → zs.map V.int = intsN (zs.map Int.toNat)
  | [], _ => rfl
  | z :: r, h => by
    have h0 := h z List.mem_cons_self
    have ih := ints_nats (zs := r) fun x hx => h x (List.mem_cons_of_mem _ hx)
    unfold intsN at ih ⊢
    rw [List.map_cons, List.map_cons, List.map_cons, ih, Int.toNat_of_nonneg h0]
theorem seqOk_valid : ∀ {zs : List Int}, (∀ z ∈ zs, 0 ≤ z) → Vakptc.validSequence (zs.map Int.toNat) = seqOk zs := by
  intro zs h
  unfold Vakptc.validSequence seqOk Vakptc.maxLength
  rw [List.length_map]
  congr 1
  rw [List.all_map, Bool.eq_iff_iff, List.all_eq_true, List.all_eq_true]
  refine forall_congr' fun z => forall_congr' fun hz => ?_
  have h0 := h z hz
  unfold rng Vakptc.keyCount
  simp only [Function.comp, decide_eq_true_eq, Bool.and_eq_true]
  omega
section
variable {P : Program} {w : World} {K : PySem.W.Frag} {mg : Str → Option Value} {base : Heap} {A : Ad} {dV f0 f1 f2 f3 f4 : Addr}
theorem row_read {ns : List Int} {i j : Nat} {zs : List Int} (h : RowAt ns i zs j) : ∃ n : Nat, ns[i]? = some (n : Int) ∧ i + 1 + n ≤ ns.length ∧ zs = (ns.drop (i + 1)).take n ∧ j = i + 1 + n ∧ ∀ z ∈ zs, 0 ≤ z := by
  obtain ⟨n, h1, h2, h3, h4, _, h6⟩ := h
  exact ⟨n, h1, h2, h3, h4, fun z hz => (h6 z hz).1⟩
theorem b_op_simulate (T : TxtL K mg A) (TS : TxtS K mg A.CC A.CE dV f0 f1 f2 f3 f4) (m_take_number : C8.Met P w K mg base 1 A.CR "take_number" (spTakeN K A.CR) []) (m_take_row : C8.Met P w K mg base 2 A.CR "take_row" (spTakeR K A.CR) [])
    (c_check_capacity : CalX P w K mg base 1 "check_capacity" (spChk 0 6 (A.err (-1)))) (c_check_policy : CalX P w K mg base 1 "check_policy" (spChk 0 4 (A.err (-2)))) (c_check_sequence : CalX P w K mg base 2 "check_sequence" (spChkS K (A.err (-4))))
    (c_cache_after : C8.Cal P w K mg base 8 "cache_after" (spAfter K A.CC A.CE) []) (m_cached_keys : C8.Met P w K mg base 1 A.CC "cached_keys" (spKeys A.CC A.CE) []) (c_listed : C8.Cal P w K mg base 1 "listed" (spListed K) []) :
    BodyX P w K mg base N_answer_simulate "answer_simulate" s_answer_simulate 8 (spOp A K 6) := by
  intro f cdv Ar outer s H vs Q E hr ⟨lab, r, src, dxr, ns, i, j, k, a, l, bs, c, ev, S, op, ar, qE, qN⟩
  subst ev
  cases k with
  | simulate x y seq =>
    obtain ⟨h0, h1, zs, hrow, rfl⟩ := ar
    obtain ⟨n, hn, hle, hzs, rfl, hpos⟩ := row_read hrow
    have nd := sc_answer_simulate.nd
    refine ⟨_, (pss_cons (ps_set (i := 2) nd rfl (Or.inl rfl) (C8.pe_mt0 m_take_number hr (by decide) (pv 1)))
      (pss_cons (ps_set (i := 3) nd rfl (Or.inl rfl) (C8.pe_mt0 m_take_number hr (by decide) (pv 1)))
      (pss_cons (ps_set (i := 4) nd rfl (Or.inl rfl) (C8.pe_mt0 m_take_row hr (by decide) (pv 1)))
      (pss_cons (ps_expr (pe_cX c_check_capacity hr (by decide) rfl (takes_of rfl rfl rfl rfl) (pa_cons (pv 2) pa_nil)))
      (pss_cons (ps_expr (pe_cX c_check_policy hr (by decide) rfl (takes_of rfl rfl rfl rfl) (pa_cons (pv 3) pa_nil)))
      (pss_cons (ps_expr (pe_cX c_check_sequence hr (by decide) rfl (takes_of rfl rfl rfl rfl) (pa_cons (pv 4) pa_nil)))
      (pss_cons (ps_set (i := 5) nd rfl (Or.inl rfl) (C8.pe_c c_cache_after hr (by decide) rfl (pa_cons (pv 2) (pa_cons (pv 3) (pa_cons (pv 4) pa_nil)))))
      (pss_one (ps_ret (pe_op op_cat (pe_lst (pa_cons (pe_fld (pv 5) rfl) pa_nil)) (C8.pe_c c_listed hr (by decide) rfl (pa_cons (C8.pe_mt0 m_cached_keys hr (by decide) (pv 5)) pa_nil)))))))))))), ?_⟩
    have S1 := S.move (i + 1)
    have S2 := S.move (i + 2)
    refine ⟨_, rfl, r, dxr, _, rfl, S.rd, rF_none src i, r, src, dxr, i, ns, x, rfl, S.rd, S.sr.sq, h0, ?_⟩
    refine ⟨_, rfl, r, dxr, _, rfl, S1.rd, rF_none src _, r, src, dxr, i + 1, ns, y, rfl, S1.rd, S1.sr.sq, h1, ?_⟩
    rw [upd_upd]
    refine ⟨_, rfl, r, dxr, _, rfl, S2.rd, rF_none src _, r, src, dxr, i + 2, n, ns, rfl, S2.rd, S2.sr, hn, hle, fun p hp => ?_⟩
    rw [upd_upd]
    replace hp : upd H r (.ins A.CR dxr (rF src (i + 2 + 1 + n))) p = none := upd_swap hp
    rw [← hzs]
    have s3 := same_new (o := .lst (zs.map V.int)) hp
    have aM := after_move S (i + 2 + 1 + n) s3
    have st : step c (.simulate x y (zs.map Int.toNat)) = (c, if rng 0 6 x = false then .error (-1) else if rng 0 4 y = false then .error (-2) else if Vakptc.validSequence (zs.map Int.toNat) = false then .error (-4) else
        Vakptc.natural ((accessAll (emptyCache x.toNat y.toNat) (zs.map Int.toNat)).misses :: Vakptc.withLength (cachedKeys (accessAll (emptyCache x.toNat y.toNat) (zs.map Int.toNat))))) := rfl
    rw [seqOk_valid hpos] at st
    refine ⟨_, rfl, x, rfl, fun c1 => ?_, fun c1 => ?_⟩
    · refine ⟨_, rfl, y, rfl, fun c2 => ?_, fun c2 => ?_⟩
      · refine ⟨_, rfl, p, zs, rfl, .inl (.inl upd_same), fun c3 => ?_, fun c3 => ?_⟩
        · obtain ⟨cp, rfl, tn, ln⟩ := nat_of (Int.le_refl 0) c1
          obtain ⟨pl, rfl, tm, lm⟩ := nat_of (Int.le_refl 0) c2
          rw [c1, c2, c3, if_neg (by decide), if_neg (by decide), if_neg (by decide), tn, tm] at st
          rw [st] at qN
          refine ⟨_, rfl, _, rfl, _, rfl, cp, pl, p, zs.map Int.toNat, rfl, by rw [← ints_nats hpos]; exact .inl (.inl upd_same), by omega, by omega, fun H4 a4 l4 bs4 h4 f4 s4 => ?_⟩
          obtain ⟨d4, ho4⟩ := h4.ob
          have ac := all_cap (c := emptyCache cp pl) (zs.map Int.toNat)
          have wf4 := wf_all (wf_new (a := cp) (p := pl) (by omega)) (zs.map Int.toNat)
          have hlen : (accessAll (emptyCache cp pl) (zs.map Int.toNat)).entries.length ≤ 6 := by
            have := wf4.le
            rw [ac.1] at this
            have : (emptyCache cp pl).capacity = cp := rfl
            omega
          refine ⟨_, rfl, a4, A.CC, d4, _, _, rfl, ho4, TS.clC, TS.nMis, cF_mis _ l4, (by show 1 ≤ sizeLine; decide), fun t ht => ?_⟩
          have s5 := same_new (o := .lst [V.int ((accessAll (emptyCache cp pl) (zs.map Int.toNat)).misses : Int)]) ht
          have h5 := h4.same s5
          refine ⟨_, rfl, a4, d4, _, rfl, s5 _ _ ho4, m_none _ l4, a4, l4, bs4, _, rfl, h5, by omega, fun q hq => ?_⟩
          have s6 := same_new (o := .lst ((cachedKeys (accessAll (emptyCache cp pl) (zs.map Int.toNat))).map fun n : Nat => V.int (n : Int))) hq
          have klen : (cachedKeys (accessAll (emptyCache cp pl) (zs.map Int.toNat))).length = (accessAll (emptyCache cp pl) (zs.map Int.toNat)).entries.length := by
            unfold cachedKeys
            rw [List.length_map]
          have z3 : (30 : Nat) ≤ sizeLine := by decide
          refine ⟨q, _, rfl, upd_same, by rw [List.length_map, klen]; omega, fun H7 u s7 hu hu7 => ?_⟩
          refine ⟨t, u, _, _, rfl, rfl, s7 _ _ (s6 _ _ upd_same), hu7, by
            rw [List.length_cons, List.length_cons, List.length_map, List.length_nil]
            omega, fun v hv => ?_⟩
          have s8 : Same (upd (upd H r (.ins A.CR dxr (rF src (i + 2 + 1 + n)))) p (.lst (zs.map V.int))) _ := ((((s4.trans s5).trans s6).trans s7).trans (same_new (o := .lst ([V.int ((accessAll (emptyCache cp pl) (zs.map Int.toNat)).misses : Int)] ++ (V.int ((((cachedKeys (accessAll (emptyCache cp pl) (zs.map Int.toNat))).map fun n : Nat => V.int (n : Int)).length : Nat) : Int) :: (cachedKeys (accessAll (emptyCache cp pl) (zs.map Int.toNat))).map fun n : Nat => V.int (n : Int)))) hv))
          refine qN _ _ v rfl (after_move S _ (s3.trans s8)) (upd_live (s3.free (((s4.trans s5).trans s6).trans s7 |>.free hv))) ?_
          rw [upd_same]
          unfold Vakptc.withLength
          rw [List.length_map, List.map_cons, List.map_cons, List.map_cons, List.map_cons, List.map_map]
          rfl
        · refine qE (-4) _ ?_ aM
          rw [st, c1, c2, c3]
          rfl
      · refine qE (-2) _ ?_ aM
        rw [st, c1, c2]
        rfl
    · refine qE (-1) _ ?_ aM
      rw [st, c1]
      rfl
  | _ => exact absurd op (by simp [opNo])
end
end Lab

/-! The laboratory made; all calls, one behind another. -/
namespace Lab
open PySem PySem.Spec PyProof.Rows L2 LamX NdefX
open Vakptc (Cache contains cachedKeys emptyCache access accessAll Call Answer step)
section
variable {P : Program} {w : World} {K : PySem.W.Frag} {mg : Str → Option Value} {base : Heap} {A : Ad} {dV f0 f1 f2 f3 f4 : Addr}
def spLabInit (A : Ad) : Sp := fun vs H Q _ => ∃ (p dx : Addr), vs = [.ref p] ∧ H p = some (.ins A.CL dx []) ∧
  ∀ (H' : Hp) (a l : Addr), H' p = some (.ins A.CL dx (lF a)) → CaAt A.CC A.CE H' a l [] (emptyCache 0 0) → H a = none → H l = none → Out [p] H H' → Q .non H'
theorem b_Lab_init (T : TxtL K mg A) (c_Cache : C8.Mak P w K mg base 1 "Cache" A.CC (spCacheInit A.CC A.CE) []) : Body0 P w K mg base N_Laboratory_init "Laboratory.__init__" s_Laboratory_init 2 (spLabInit A) := by
  intro f cdv Ar outer s H vs Q E hr ⟨p, dx, ev, hp, q⟩
  subst ev
  refine ⟨_, (pss_one (ps_fld (pv 0) (C8.pe_mk c_Cache hr (by decide) rfl (pa_cons pe_int (pa_cons pe_int pa_nil))) rfl)), ?_⟩
  intro x dxx nx ndx ne
  refine ⟨x, dxx, 0, 0, rfl, upd_same, fun H3 l3 h3 hl3 o3 => ⟨rfl, ?_⟩⟩
  have s3 : Same H H3 := fun b u e => o3.1 b u (by rw [upd_ne (ne_of_none e nx), upd_ne (ne_of_none e ndx)]; exact e) (fun z => by rw [List.mem_singleton.mp z, nx] at e; cases e)
  refine ⟨_, rfl, p, A.CL, dx, _, rfl, s3 _ _ hp, T.cl, T.nCache, (by show 0 < 1000; decide), ?_⟩
  have hl : H l3 = none := upd_live (upd_live hl3)
  refine q _ x l3 upd_same (h3.keep fun b hb o e => ?_) nx hl ⟨fun b o e n => ?_, fun b n => s3.free (upd_live n)⟩
  · have bp : b ≠ p := fun z => by
      rcases List.mem_cons.mp hb with y | hb
      · rw [← z, y, nx] at hp
        cases hp
      · rcases List.mem_cons.mp hb with y | hb
        · rw [← z, y, hl] at hp
          cases hp
        · cases hb
    rw [upd_ne bp]
    exact e
  · rw [upd_ne (fun z => n (by rw [z]; exact List.mem_cons_self))]
    exact s3 _ _ e
/-- one call, whatever it is -/
def spCall (A : Ad) (K : PySem.W.Frag) : Sp := fun vs H Q E => ∃ (lab r src dxr : Addr) (ns : List Int) (i j : Nat) (k : Call) (a l : Addr) (bs : List Addr) (c : Cache), vs = [.ref lab, .ref r] ∧
  Sit A K H lab r src dxr ns i a l bs c ∧ ns[i]? = some (opNo k) ∧ ArgsAt ns (i + 1) k j ∧
  ∀ (H' : Hp) (p : Addr), After A K H H' lab r src dxr ns j a l bs (step c k).1 → H p = none → H' p = some (.lst ((VakptcNeutral.encode (step c k).2).map V.int)) → Q (.ref p) H'
def spAns (A : Ad) (K : PySem.W.Frag) : Sp := fun vs H Q _ => ∃ (src : Addr) (ns : List Int), vs = [.ref src] ∧ Src K H src ns ∧ TabS H A.Pt lamQ ∧ PyVakptc.answers_asked ns = true ∧ ∀ (H' : Hp) (p : Addr), H' p = some (.lst ((PyVakptc.answers ns).map V.int)) → Q (.ref p) H'
theorem asked_len {ns : List Int} (h : PyVakptc.answers_asked ns = true) : (PyVakptc.answers ns).length ≤ 10000000 := by
  unfold PyVakptc.answers_asked at h
  cases q : PyFlat.calls PyVakptc.shape ns.length ns with
  | none => rw [q] at h; cases h
  | some raw =>
    rw [q] at h
    simp only [Bool.and_eq_true] at h
    have : decide ((PyVakptc.answers ns).length ≤ 10000000) = true := h.2
    simpa using this
theorem b_answers (m_has_more : C8.Met P w K mg base 1 A.CR "has_more" (spHasMore K A.CR) []) (c_Laboratory : C8.Mak P w K mg base 3 "Laboratory" A.CL (spLabInit A) []) (c_CallReader : C8.Mak P w K mg base 1 "CallReader" A.CR (spRdInit A.CR) [])
    (c_listed : C8.Cal P w K mg base 1 "listed" (spListed K) []) (c_answer_call : C8.Cal P w K mg base 30 "answer_call" (spCall A K) []) : Body0 P w K mg base N_answers "answers" s_answers 30 (spAns A K) := by
  intro f cdv Ar outer s H vs Q E hr ⟨src, ns, ev, hs, htab, hask, q⟩
  subst ev
  have nd := sc_answers.nd
  obtain ⟨ks0, rest0, _, due0⟩ := asked_read hask
  have tot := asked_len hask
  have big : (10000000 : Nat) ≤ sizeLine := by decide
  refine ⟨_, (pss_cons (ps_set (i := 1) nd rfl (Or.inl rfl) (pe_mk0 c_Laboratory hr (by decide) rfl))
    (pss_cons (ps_set (i := 2) nd rfl (Or.inl rfl) (C8.pe_mk c_CallReader hr (by decide) rfl (pa_cons (pv 0) pa_nil)))
    (pss_cons (ps_set (i := 3) nd rfl (Or.inl rfl) (pe_lst pa_nil))
    (pss_cons (ps_while PassesOwn.never (pt_val (C8.pe_mt0 m_has_more hr (by decide) (pv 2)))
      (pss_one (ps_expr (pe_bm PySem.F.plainAttrs_list PySem.F.slot_list_extend PySem.F.type_list_extend mt_extend (pv 3) (pa_cons (C8.pe_c c_listed hr (by decide) rfl (pa_cons (C8.pe_c c_answer_call hr (by decide) rfl (pa_cons (pv 1) (pa_cons (pv 2) pa_nil))) pa_nil)) pa_nil)))))
    (pss_one (ps_ret (pv 3))))))), ?_⟩
  intro lab dl nlab ndl nel
  refine ⟨lab, dl, rfl, upd_same, fun H1 a l hlab1 h1 na nl o1 => ⟨rfl, ?_⟩⟩
  have s1 : Same H H1 := fun b u e => o1.1 b u (by rw [upd_ne (ne_of_none e nlab), upd_ne (ne_of_none e ndl)]; exact e) (fun z => by rw [List.mem_singleton.mp z, nlab] at e; cases e)
  refine ⟨_, rfl, ?_⟩
  intro r dxr nr ndr ner
  refine ⟨r, dxr, src, rfl, upd_same, ⟨rfl, ?_⟩⟩
  rw [upd_upd]
  have s2 : Same H1 (upd (upd H1 dxr (.own r)) r (.ins A.CR dxr (rF src 0))) := fun b u e => by
    rw [upd_ne (ne_of_none e nr), upd_ne (ne_of_none e ndr)]
    exact e
  have S2 : Sit A K (upd (upd H1 dxr (.own r)) r (.ins A.CR dxr (rF src 0))) lab r src dxr ns 0 a l [] (emptyCache 0 0) :=
    ⟨⟨dl, s2 _ _ hlab1⟩, upd_same, hs.same (s1.trans s2), h1.same s2, wf_new (Nat.zero_le _), Nat.zero_le _, htab.ext (s1.trans s2)⟩
  refine ⟨Nat.zero_le _, fun ans hans => ?_⟩
  have s3 := same_new (o := .lst []) hans
  have S3 := S2.same s3
  have fresh : ∀ {H : Hp} {i : Nat} {a l : Addr} {bs : List Addr} {c : Cache}, Sit A K H lab r src dxr ns i a l bs c → H ans = none → ans ∉ A.Pt :: lab :: r :: foot a l bs := fun {H i a l bs c} S n h => by
    rcases List.mem_cons.mp h with z | h
    · obtain ⟨ps, e⟩ := tab_at S.tb
      rw [← z, n] at e
      cases e
    rcases List.mem_cons.mp h with z | h
    · obtain ⟨d, e⟩ := S.lb
      rw [← z, n] at e
      cases e
    · rcases List.mem_cons.mp h with z | h
      · have e := S.rd
        rw [← z, n] at e
        cases e
      · exact S.ca.not_new n h
  refine ⟨fun m σ H' => (∃ (ks : List Call) (c : Cache) (done : List Int) (i : Nat) (a l : Addr) (bs : List Addr), m = ks.length ∧ σ = [some (.ref src), some (.ref lab), some (.ref r), some (.ref ans)] ∧ Sit A K H' lab r src dxr ns i a l bs c ∧ H' ans = some (.lst (done.map V.int)) ∧ ans ∉ A.Pt :: lab :: r :: foot a l bs ∧
      Rest ns i ks ∧ PyVakptc.answers ns = done ++ due c ks), ⟨ks0.length, ks0, emptyCache 0 0, [], 0, a, l, [], rfl, rfl, S3, upd_same, fresh S2 hans, rest0, due0⟩, ?_⟩
  rintro m σ H' ⟨ks, c, done, i, a, l, bs, rfl, rfl, S, hd, nf, rest, eq⟩
  refine ⟨_, rfl, r, dxr, _, rfl, S.rd, rF_none src i, r, src, i, ns, rfl, ⟨dxr, S.rd⟩, S.sr.sq, _, rfl, ?_⟩
  cases rest with
  | nil hle =>
    rw [decide_eq_false (by omega)]
    refine iteF ⟨_, rfl, q H' ans ?_⟩
    rw [eq]
    show H' ans = some (.lst ((done ++ []).map V.int))
    rw [List.append_nil]
    exact hd
  | @cons _ j k ks hop har hij hrest =>
    have hi : i < ns.length := (List.getElem?_eq_some_iff.mp hop).1
    rw [decide_eq_true hi]
    have eq2 : PyVakptc.answers ns = (done ++ (((VakptcNeutral.encode (step c k).2).length : Int) :: VakptcNeutral.encode (step c k).2)) ++ due (step c k).1 ks := by
      rw [eq, List.append_assoc]
      rfl
    have len2 : (done ++ (((VakptcNeutral.encode (step c k).2).length : Int) :: VakptcNeutral.encode (step c k).2)).length ≤ 10000000 := by
      have := tot
      rw [eq2, List.length_append] at this
      omega
    rw [List.length_append, List.length_cons] at len2
    refine iteT ⟨fun σ' H'' => ∃ m', m' < (k :: ks).length ∧ (∃ (ks : List Call) (c : Cache) (done : List Int) (i : Nat) (a l : Addr) (bs : List Addr), m' = ks.length ∧ σ' = [some (.ref src), some (.ref lab), some (.ref r), some (.ref ans)] ∧ Sit A K H'' lab r src dxr ns i a l bs c ∧ H'' ans = some (.lst (done.map V.int)) ∧ ans ∉ A.Pt :: lab :: r :: foot a l bs ∧
      Rest ns i ks ∧ PyVakptc.answers ns = done ++ due c ks), fun σ' H'' z => z, ?_⟩
    refine ⟨_, rfl, .inl ⟨rfl, _, .inl (.inl hd)⟩, _, rfl, _, rfl, lab, r, src, dxr, ns, i, j, k, a, l, bs, c, rfl, S, hop, har, fun H4 p aft hp hp4 => ?_⟩
    have hd4 : H4 ans = some (.lst (done.map V.int)) := aft.ou.1 _ _ hd nf
    refine ⟨p, _, rfl, hp4, by rw [List.length_map]; omega, fun H5 u s5 hu hu5 => ?_⟩
    obtain ⟨a4, l4, bs4, S4, f4⟩ := aft.ex
    have nf4 : ans ∉ A.Pt :: lab :: r :: foot a4 l4 bs4 := fun h => by
      rcases List.mem_cons.mp h with z | h
      · exact nf (by rw [z]; exact List.mem_cons_self)
      rcases List.mem_cons.mp h with z | h
      · exact nf (by rw [z]; exact List.mem_cons_of_mem _ List.mem_cons_self)
      · rcases List.mem_cons.mp h with z | h
        · exact nf (by rw [z]; exact List.mem_cons_of_mem _ (List.mem_cons_of_mem _ List.mem_cons_self))
        · rcases f4 _ h with z | z
          · exact nf (List.mem_cons_of_mem _ (List.mem_cons_of_mem _ (List.mem_cons_of_mem _ z)))
          · rw [hd] at z
            cases z
    have S5 := S4.same s5
    refine ⟨ans, u, _, _, rfl, rfl, s5 _ _ hd4, hu5, by rw [List.length_map, List.length_cons, List.length_map]; omega, ?_⟩
    refine ⟨ks.length, by simp, ks, (step c k).1, done ++ (((VakptcNeutral.encode (step c k).2).length : Int) :: VakptcNeutral.encode (step c k).2), j, a4, l4, bs4, rfl, rfl, ⟨?_, ?_, ?_, ?_, S5.wf, S5.cap, tab_upd S5.tb (s5 _ _ hd4) plain_lst⟩, ?_, nf4, hrest, eq2⟩
    · obtain ⟨d, e⟩ := S5.lb
      exact ⟨d, by rw [upd_ne (fun z => nf4 (by rw [← z]; exact List.mem_cons_of_mem _ List.mem_cons_self))]; exact e⟩
    · rw [upd_ne (fun z => nf4 (by rw [← z]; exact List.mem_cons_of_mem _ (List.mem_cons_of_mem _ List.mem_cons_self)))]
      exact S5.rd
    · refine S5.sr.keep fun ob v e => ?_
      rw [upd_ne (ne_of e (s5 _ _ hd4) (fun z => by cases z))]
      exact e
    · refine S5.ca.keep fun b hb o e => ?_
      rw [upd_ne (fun z => nf4 (by rw [← z]; exact List.mem_cons_of_mem _ (List.mem_cons_of_mem _ (List.mem_cons_of_mem _ hb))))]
      exact e
    · rw [upd_same, List.length_map, List.map_append]
      rfl
end
end Lab

/-! The policies compared, def by def: 1. the sequences of a kind; misses. -/
namespace Lab
open PySem PySem.Spec PyProof.Rows L2
open Vakptc (Cache emptyCache access accessAll Plan optimalPlan missCount)
/-- as many numbers as there are keys in a sequence of ours -/
theorem used_int {s : List Nat} {v : Nat} (h : rg 0 s = some v) {m : List Int} (nd : m.Nodup) (hm : ∀ z, z ∈ m ↔ z ∈ s.map fun n : Nat => (n : Int)) : m.length = v := by
  have pos : ∀ z ∈ m, 0 ≤ z := fun z hz => by
    obtain ⟨n, _, e⟩ := List.mem_map.mp ((hm z).mp hz)
    rw [← e]
    exact Int.natCast_nonneg n
  have := used_is h (d := m.map Int.toNat) (by
    unfold List.Nodup at nd ⊢
    rw [List.pairwise_map]
    exact List.Pairwise.imp_of_mem (fun {a b} ha hb ne z => ne (by
      have h1 := pos a ha
      have h2 := pos b hb
      omega)) nd) fun x => by
      rw [List.mem_map]
      constructor
      · rintro ⟨z, hz, rfl⟩
        obtain ⟨n, hn, e⟩ := List.mem_map.mp ((hm z).mp hz)
        rw [← e, Int.toNat_natCast]
        exact hn
      · intro hx
        exact ⟨(x : Int), (hm _).mpr (List.mem_map.mpr ⟨x, hx, rfl⟩), Int.toNat_natCast x⟩
  rwa [List.length_map] at this
def extOf (b : Nat) (s : List Nat) : List (List Nat) := (List.range (min (usedOf s + 1) b)).map fun x => s ++ [x]
theorem flat_cut {b i j : Nat} {L : List (List Nat)} {s : List Nat} (h : L[i]? = some s) : ((L.take i).flatMap (extOf b) ++ (extOf b s).take j).length ≤ (L.flatMap (extOf b)).length := by
  have e : L.flatMap (extOf b) = (L.take i).flatMap (extOf b) ++ ((extOf b s) ++ (L.drop (i + 1)).flatMap (extOf b)) := by
    conv => lhs; rw [← List.take_append_drop i L, List.flatMap_append, drop_at h, List.flatMap_cons]
  rw [e, List.length_append, List.length_append, List.length_append, List.length_take]
  omega
theorem pow_small {b n : Nat} (hb : b ≤ 4) (hn : n ≤ 6) : b ^ n ≤ 4096 := by
  have h1 : b ^ n ≤ 4 ^ n := Nat.pow_le_pow_left hb n
  have h2 : 4 ^ n ≤ 4 ^ 6 := Nat.pow_le_pow_right (by decide) hn
  have h3 : 4 ^ 6 = 4096 := by decide
  omega
/-- lists of keys in the heap -/
def SeqsAt (H : Hp) (bs : List Addr) (L : List (List Nat)) : Prop := Paired (fun (b : Addr) (s : List Nat) => H b = some (.lst (intsN s))) bs L
def SeqsOff (lo : Addr) (H : Hp) (bs : List Addr) (L : List (List Nat)) : Prop := Paired (fun (b : Addr) (s : List Nat) => b ≠ lo ∧ H b = some (.lst (intsN s))) bs L
section
variable {P : Program} {w : World} {K : PySem.W.Frag} {mg : Str → Option Value} {base : Heap} {CC CE : Addr}
def spRenamed : Sp := fun vs H Q _ => ∃ (b n : Nat), vs = [.int b, .int n] ∧ 1 ≤ b ∧ b ≤ 4 ∧ n ≤ 6 ∧
  ∀ (H' : Hp) (p : Addr) (bs : List Addr), Same H H' → H p = none → (∀ x ∈ bs, H x = none) → H' p = some (.lst (bs.map V.ref)) → SeqsAt H' bs (seqsOf b n) → Q (.ref p) H'
theorem b_renamed (n_len : mg "len" = none) (n_set : mg "set" = none) (n_range : mg "range" = none) (n_min : mg "min" = none) : Body0 P w K mg base N_renamed_sequences "renamed_sequences" s_renamed_sequences 0 spRenamed := by
  intro f cdv A outer s H vs Q E hr ⟨b, n, ev0, hb1, hb4, hn6, k⟩
  subst ev0
  have nd := sc_renamed_sequences.nd
  have big : 5000 < sizeLine := by decide
  refine ⟨_, (pss_cons (ps_set (i := 2) nd rfl (Or.inl rfl) (pe_lst (pa_cons (pe_lst pa_nil) pa_nil)))
    (pss_cons (ps_for PassesOwn.never rfl (pi_range1 (by rfl) n_range (pa_cons (pv 1) pa_nil)) (pg_name (i := 3) nd rfl (Or.inl rfl))
      (pss_cons (ps_set (i := 4) nd rfl (Or.inl rfl) (pe_lst pa_nil))
      (pss_cons (ps_for PassesOwn.never rfl (pi_list (pv 2)) (pg_name (i := 5) nd rfl (Or.inl rfl))
        (pss_cons (ps_set (i := 6) nd rfl (Or.inl rfl) (pe_lenSetM (by rfl) n_len (by rfl) n_set (pv 5)))
        (pss_one (ps_for PassesOwn.never rfl (pi_range1 (by rfl) n_range (pa_cons (pe_callB (call_min2 rfl) (by rfl) n_min (by decide +kernel) (pa_cons (pe_op op_add (pv 6) pe_int) (pa_cons (pv 0) pa_nil))) pa_nil)) (pg_name (i := 7) nd rfl (Or.inl rfl))
          (pss_one (ps_expr (pe_bm PySem.F.plainAttrs_list PySem.F.slot_list_append PySem.F.type_list_append mt_append (pv 4) (pa_cons (pe_op op_cat (pv 5) (pe_lst (pa_cons (pv 7) pa_nil))) pa_nil))))))))
      (pss_one (ps_set (i := 2) nd rfl (Or.inl rfl) (pv 4))))))
    (pss_one (ps_ret (pv 2))))), ?_⟩
  refine ⟨Nat.zero_le _, fun e0 he0 => ?_⟩
  refine ⟨by show 1 ≤ sizeLine; decide, fun q0 hq0 => ?_⟩
  have s0 := same_new (o := .lst []) he0
  have s1 := same_new (o := .lst [.ref e0]) hq0
  refine ⟨_, rfl, _, rfl, by omega, by omega, for_range (lo := 0) (n := ((n : Nat) : Int).toNat)
    (fun m σ H' => Same H H' ∧ ∃ (ls : Addr) (bs : List Addr) (v3 v4 v5 v6 v7 : Option V), σ = [some (.int b), some (.int n), some (.ref ls), v3, v4, v5, v6, v7] ∧ H ls = none ∧ (∀ x ∈ bs, H x = none) ∧ H' ls = some (.lst (bs.map V.ref)) ∧ SeqsAt H' bs (seqsOf b m))
    ⟨s0.trans s1, q0, [e0], none, none, none, none, none, rfl, upd_live hq0, fun x hx => by rw [List.mem_singleton.mp hx]; exact he0, upd_same, .cons (s1 _ _ upd_same) .nil⟩ ?_ ?_⟩
  · rintro m σ H1 hm ⟨sH, ls, bs, v3, v4, v5, v6, v7, rfl, nls, nbs, hls, hbs⟩
    rw [Int.toNat_natCast] at hm
    refine ⟨Nat.zero_le _, fun lo hlo => ?_⟩
    have sl := same_new (o := .lst []) hlo
    have lenS : ((seqsOf b m).flatMap (extOf b)).length ≤ 4096 := by
      have e : (seqsOf b m).flatMap (extOf b) = seqsOf b (m + 1) := (seqs_step m).symm
      rw [e]
      exact Nat.le_trans seqs_len (pow_small hb4 (by omega))
    have hlen := pair_len hbs
    refine ⟨_, rfl, ls, rfl, ⟨_, .inl (.inl (sl _ _ hls))⟩, for_list (K := K) (a := ls) (xs := bs.map V.ref)
      (fun i σ H2 => Same H1 H2 ∧ ∃ (bs2 : List Addr) (v5 v6 v7 : Option V), σ = [some (.int b), some (.int n), some (.ref ls), some (.int (0 + (m : Int))), some (.ref lo), v5, v6, v7] ∧ (∀ x ∈ bs2, H x = none) ∧ H2 lo = some (.lst (bs2.map V.ref)) ∧ SeqsOff lo H2 bs2 (((seqsOf b m).take i).flatMap (extOf b)))
      ⟨sl, [], v5, v6, v7, rfl, (fun x hx => nomatch hx), upd_same, .nil⟩ (fun i σ H2 _ h => .inl (.inl (h.1 _ _ hls))) ?_ ?_⟩
    · rintro i x σ H2 hx ⟨s2, bs2, v5, v6, v7, rfl, n2, h2, w2⟩
      obtain ⟨q, hq, rfl⟩ := map_ref_get hx
      obtain ⟨sq, hsq, hq1⟩ := pair_get' hbs hq
      obtain ⟨sl1, sl2, sr⟩ := seqs_mem (List.mem_of_getElem? hsq)
      unfold isR at sr
      cases rv : rg 0 sq with
      | none => rw [rv] at sr; cases sr
      | some u =>
        have eu : usedOf sq = u := by unfold usedOf; rw [rv]; rfl
        have es : (sq.map fun n : Nat => (n : Int)).map V.int = intsN sq := intsN_map sq
        refine ⟨_, rfl, q, sq.map fun n : Nat => (n : Int), rfl, by rw [es]; exact .inl (.inl (s2 _ _ hq1)), by rw [List.length_map]; omega, fun d dn dm => ?_⟩
        have el := used_int rv dn dm
        rw [el]
        have ub : u ≤ 6 := by
          rw [← el]
          have h1 : d.length ≤ (sq.map fun n : Nat => (n : Int)).length := nodup_le dn fun z hz => (dm z).mp hz
          rw [List.length_map] at h1
          omega
        have ej : (if (b : Int) < (u : Int) + 1 then (b : Int) else (u : Int) + 1) = ((min (u + 1) b : Nat) : Int) := by
          by_cases c : (b : Int) < (u : Int) + 1
          · rw [if_pos c]
            omega
          · rw [if_neg c]
            omega
        refine ⟨_, rfl, _, _, rfl, rfl, _, rfl, _, _, rfl, ?_⟩
        rw [ej]
        refine ⟨_, rfl, by omega, by omega, for_range (lo := 0) (n := ((min (u + 1) b : Nat) : Int).toNat)
          (fun j σ H3 => Same H1 H3 ∧ ∃ (bs3 : List Addr) (v7 : Option V), σ = [some (.int b), some (.int n), some (.ref ls), some (.int (0 + (m : Int))), some (.ref lo), some (.ref q), some (.int (u : Nat)), v7] ∧ (∀ x ∈ bs3, H x = none) ∧ H3 lo = some (.lst (bs3.map V.ref)) ∧ SeqsOff lo H3 bs3 (((seqsOf b m).take i).flatMap (extOf b) ++ (extOf b sq).take j))
          ⟨s2, bs2, v7, rfl, n2, h2, by rw [List.take_zero, List.append_nil]; exact w2⟩ ?_ ?_⟩
        · rintro j σ H3 hj ⟨s3, bs3, v7, rfl, n3, h3, w3⟩
          rw [Int.toNat_natCast] at hj
          have len3 := pair_len w3
          have cut := flat_cut (b := b) (j := j) hsq
          have hext : (extOf b sq)[j]? = some (sq ++ [j]) := by
            unfold extOf
            rw [eu, List.getElem?_map, List.getElem?_range hj]
            rfl
          have e0 : (0 : Int) + (j : Int) = ((j : Nat) : Int) := Int.zero_add _
          refine ⟨_, rfl, .inl ⟨rfl, _, .inl (.inl h3)⟩, _, rfl, _, rfl, by show 1 ≤ sizeLine; decide, fun l4 hl4 => ?_⟩
          have s4 := same_new (o := .lst [V.int (0 + (j : Int))]) hl4
          refine ⟨q, l4, intsN sq, [V.int (0 + (j : Int))], rfl, rfl, s4 _ _ (s3 _ _ hq1), upd_same, by rw [intsN_len]; show sq.length + 1 ≤ sizeLine; omega, fun l5 hl5 => ?_⟩
          have s5 := same_new (o := .lst (intsN sq ++ [V.int (0 + (j : Int))])) hl5
          have h5 := s5 _ _ (s4 _ _ h3)
          have ne5 : l5 ≠ lo := fun z => by
            have := s4 _ _ h3
            rw [← z, hl5] at this
            cases this
          refine ⟨lo, bs3.map V.ref, .ref l5, rfl, rfl, h5, by rw [List.length_map]; omega, ?_⟩
          refine ⟨same_off (s3.trans (s4.trans s5)) hlo, bs3 ++ [l5], _, rfl, fun x hx => (List.mem_append.mp hx).elim (n3 x) fun z => by rw [List.mem_singleton.mp z]; exact sH.free (s3.free (s4.free hl5)), by rw [upd_same, List.map_append]; rfl, ?_⟩
          rw [take_snoc hext, ← List.append_assoc]
          refine Paired.snoc (pair_imp w3 fun x _ y ⟨f1, f2⟩ => ⟨f1, ?_⟩) ⟨ne5, ?_⟩
          · rw [upd_ne f1]
            exact s5 _ _ (s4 _ _ f2)
          · rw [upd_ne ne5, upd_same, e0, intsN_snoc]
        · rintro σ H3 ⟨s3, bs3, v7, rfl, n3, h3, w3⟩
          refine ⟨s3, bs3, _, _, _, rfl, n3, h3, ?_⟩
          have e : ((min (u + 1) b : Nat) : Int).toNat = (extOf b sq).length := by
            unfold extOf
            rw [List.length_map, List.length_range, eu, Int.toNat_natCast]
          rw [e, List.take_length] at w3
          rw [take_snoc hsq, List.flatMap_append, List.flatMap_cons, List.flatMap_nil, List.append_nil]
          exact w3
    · rintro σ H2 ⟨s2, bs2, v5, v6, v7, rfl, n2, h2, w2⟩
      rw [List.length_map, hlen, List.take_length] at w2
      refine ⟨_, rfl, sH.trans s2, lo, bs2, _, _, _, _, _, rfl, sH.free hlo, n2, h2, ?_⟩
      rw [seqs_step]
      exact pair_imp w2 fun x _ y f => f.2
  · rintro σ H1 ⟨sH, ls, bs, v3, v4, v5, v6, v7, rfl, nls, nbs, hls, hbs⟩
    rw [Int.toNat_natCast] at hbs
    exact ⟨_, rfl, k H1 ls bs sH nls nbs hls hbs⟩
end
end Lab

/-! The policies compared, def by def: 2. the first greatest difference. -/
namespace Lab
open PySem PySem.Spec PyProof.Rows L2
open Vakptc (Cache emptyCache access accessAll Plan optimalPlan missCount separatingSequence worstSequence)
/-- an outcome in the heap: two numbers of misses and the sequence -/
def OutAt (m1 m2 : List Nat → Nat) (H : Hp) (t : Addr) (s : List Nat) : Prop := ∃ l, H t = some (.tup [.int (m1 s : Nat), .int (m2 s : Nat), .ref l]) ∧ H l = some (.lst (intsN s))
theorem OutAt.same {m1 m2 : List Nat → Nat} {H H' : Hp} {t : Addr} {s : List Nat} (x : OutAt m1 m2 H t s) (k : Same H H') : OutAt m1 m2 H' t s :=
  let ⟨l, h1, h2⟩ := x
  ⟨l, k _ _ h1, k _ _ h2⟩
/-- how far apart the misses are -/
def lead (m1 m2 : List Nat → Nat) (s : List Nat) : Int := (m1 s : Int) - (m2 s : Int)
section
variable {P : Program} {w : World} {K : PySem.W.Frag} {mg : Str → Option Value} {base : Heap} {CC CE dV f0 f1 f2 f3 f4 : Addr}
def spMissesOf (K : PySem.W.Frag) : Sp := fun vs H Q _ => ∃ (pol cap : Nat) (q : Addr) (seq : List Nat), vs = [.int pol, .int cap, .ref q] ∧ SqL K H q (intsN seq) ∧ cap ≤ 1000 ∧ pol ≤ 4 ∧
  ∀ H', Same H H' → Q (.int (missCount pol cap seq : Nat)) H'
theorem b_misses_of (T : TxtS K mg CC CE dV f0 f1 f2 f3 f4) (c_cache_after : C8.Cal P w K mg base 8 "cache_after" (spAfter K CC CE) []) : Body0 P w K mg base N_misses_of "misses_of" s_misses_of 8 (spMissesOf K) := by
  intro f cdv A outer s H vs Q E hr ⟨pol, cap, q, seq, ev, hq, hc, hp, k⟩
  subst ev
  refine ⟨_, (pss_one (ps_ret (pe_fld (C8.pe_c c_cache_after hr (by decide) rfl (pa_cons (pv 1) (pa_cons (pv 0) (pa_cons (pv 2) pa_nil)))) rfl))), ?_⟩
  refine ⟨_, rfl, _, rfl, _, rfl, cap, pol, q, seq, rfl, hq, hc, hp, fun H' a l bs h _ sm => ?_⟩
  obtain ⟨dx, ho⟩ := h.ob
  exact ⟨a, CC, dx, _, _, rfl, ho, T.clC, T.nMis, cF_mis _ l, k H' sm⟩
def spMinimum (K : PySem.W.Frag) : Sp := fun vs H Q _ => ∃ (cap : Nat) (q : Addr) (seq : List Nat), vs = [.int cap, .ref q] ∧ SqL K H q (intsN seq) ∧ cap ≤ 40 ∧ (∀ k ∈ seq, k ≤ 9) ∧ seq.length ≤ 90 ∧
  ∀ H', Same H H' → Q (.int ((optimalPlan cap seq).misses : Nat)) H'
theorem b_minimum_misses (c_optimal_evictions : C8.Cal P w K mg base 5 "optimal_evictions" (spOptimal K) []) : Body0 P w K mg base N_minimum_misses "minimum_misses" s_minimum_misses 5 (spMinimum K) := by
  intro f cdv A outer s H vs Q E hr ⟨cap, q, seq, ev, hq, hc, hk, hl, k⟩
  subst ev
  refine ⟨_, (pss_one (ps_ret (pe_ix ix_tup (C8.pe_c c_optimal_evictions hr (by decide) rfl (pa_cons (pv 0) (pa_cons (pv 1) pa_nil))) pe_int (fun _ _ => rfl)))), ?_⟩
  refine ⟨_, rfl, _, rfl, cap, q, seq, rfl, hq, hc, hk, hl, fun H' t sm wt _ => ?_⟩
  obtain ⟨l, h1, h2⟩ := wt
  exact ⟨t, _, 0, _, rfl, rfl, .inl (.inl h1), at_of (j := 0) rfl rfl, k H' sm⟩
def spLead : Sp := fun vs H Q _ => ∃ (t l : Addr) (a b : Int), vs = [.ref t] ∧ H t = some (.tup [.int a, .int b, .ref l]) ∧ Q (.int (a - b)) H
theorem b_lead_of : Body0 P w K mg base N_lead_of "lead_of" s_lead_of 0 spLead := by
  intro f cdv A outer s H vs Q E hr ⟨t, l, a, b, ev, ht, k⟩
  subst ev
  refine ⟨_, (pss_one (ps_ret (pe_op op_sub (pe_ix ix_tup (pv 0) pe_int (fun _ _ => rfl)) (pe_ix ix_tup (pv 0) pe_int (fun _ _ => rfl))))), ?_⟩
  exact ⟨_, rfl, t, _, 0, _, rfl, rfl, .inl (.inl ht), at_of (j := 0) rfl rfl, _, rfl, t, _, 1, _, rfl, rfl, .inl (.inl ht), at_of (j := 1) rfl rfl, _, _, rfl, rfl, k⟩
def spFirst : Sp := fun vs H Q _ => ∃ (ls : Addr) (ts : List Addr) (L : List (List Nat)) (m1 m2 : List Nat → Nat), vs = [.ref ls] ∧ H ls = some (.lst (ts.map V.ref)) ∧ Paired (OutAt m1 m2 H) ts L ∧ L ≠ [] ∧
  ∀ (H' : Hp) (t : Addr) (s : List Nat), Same H H' → First (lead m1 m2) L s → s ∈ L → OutAt m1 m2 H' t s → Q (.ref t) H'
theorem b_first_greatest (n_max : mg "max" = none) (c_lead : C8.Cal P w K mg base 1 "lead_of" spLead []) : Body0 P w K mg base N_first_greatest "first_greatest" s_first_greatest 2 spFirst := by
  intro f cdv A outer s H vs Q E hr ⟨ls, ts, L, m1, m2, ev, hl, hp, hne, q⟩
  subst ev
  obtain ⟨fk, fd, ps, ds, F, hm, kp, hb, hd⟩ := c_lead.ex
  cases hd
  refine ⟨_, (pss_one (ps_ret (pe_callBK (cr_maxKey F hr hb op_gt) (by rfl) n_max (by decide +kernel) (pa_cons (pv 0) pa_nil) (pk_cons (pe_glob (v := .ref fk) rfl hm rfl) pk_nil)))), ?_⟩
  cases L with
  | nil => exact absurd rfl hne
  | cons s0 r =>
    obtain ⟨t0, ht0, o0⟩ := pair_get hp (i := 0) (y := s0) rfl
    obtain ⟨l0, o1, o2⟩ := o0
    refine ⟨_, rfl, ls, ts.map V.ref, .ref t0, fun i vb kb H' => Same H H' ∧ ∃ (j : Nat) (t : Addr) (s : List Nat), j < i ∧ vb = .ref t ∧ ts[j]? = some t ∧ (s0 :: r)[j]? = some s ∧ kb = .int (lead m1 m2 s) ∧
        (∀ (m : Nat) (s' : List Nat), m < i → (s0 :: r)[m]? = some s' → lead m1 m2 s' ≤ lead m1 m2 s) ∧ ∀ (m : Nat) (s' : List Nat), m < j → (s0 :: r)[m]? = some s' → lead m1 m2 s' < lead m1 m2 s,
      rfl, rfl, .inl (.inl hl), by rw [List.getElem?_map, ht0]; rfl, ?_, ⟨fun i b kb H' h => .inl (.inl (h.1 _ _ hl)), ?_⟩, ?_⟩
    · refine ⟨t0, l0, _, _, rfl, o1, Same.refl H, 0, t0, s0, Nat.lt_succ_self 0, rfl, ht0, rfl, rfl, fun m s' hm' hs' => ?_, fun m s' hm' _ => absurd hm' (Nat.not_lt_zero _)⟩
      have : m = 0 := by omega
      subst this
      cases hs'
      exact Int.le_refl _
    · rintro i x vb kb H' hx ⟨sm, j, t, s, hj, rfl, ht, hs, rfl, all, fst⟩
      obtain ⟨t', ht', rfl⟩ := map_ref_get hx
      obtain ⟨s', hs', l', p1, p2⟩ := pair_get' hp ht'
      refine ⟨t', l', _, _, rfl, sm _ _ p1, _, _, rfl, rfl, decide (lead m1 m2 s < lead m1 m2 s'), rfl, sm, ?_⟩
      by_cases c : lead m1 m2 s < lead m1 m2 s'
      · rw [decide_eq_true c, if_pos rfl, if_pos rfl]
        refine ⟨i, t', s', Nat.lt_succ_self i, rfl, ht', hs', rfl, fun m s2 hm2 h2 => ?_, fun m s2 hm2 h2 => ?_⟩
        · by_cases hmi : m = i
          · subst hmi
            rw [hs'] at h2
            cases h2
            exact Int.le_refl _
          · have := all m s2 (by omega) h2
            omega
        · have := all m s2 hm2 h2
          omega
      · rw [decide_eq_false c, if_neg (by decide), if_neg (by decide)]
        refine ⟨j, t, s, by omega, rfl, ht, hs, rfl, fun m s2 hm2 h2 => ?_, fst⟩
        by_cases hmi : m = i
        · subst hmi
          rw [hs'] at h2
          cases h2
          omega
        · exact all m s2 (by omega) h2
    · rintro vb kb H' ⟨sm, j, t, s, hj, rfl, ht, hs, rfl, all, fst⟩
      obtain ⟨s2, hs2, o⟩ := pair_get' hp ht
      rw [hs] at hs2
      cases hs2
      have hlen := pair_len hp
      refine q H' t s sm ⟨j, hs, fst, fun m s' hs' => all m s' ?_ hs'⟩ (List.mem_of_getElem? hs) (o.same sm)
      rw [List.length_map, hlen]
      exact (List.getElem?_eq_some_iff.mp hs').1
end
end Lab

/-! The policies compared, def by def: 3. where two differ most, where one is worst. -/
namespace Lab
open PySem PySem.Spec PyProof.Rows L2
open Vakptc (Cache emptyCache access accessAll Plan optimalPlan missCount separatingSequence worstSequence)
section
variable {P : Program} {w : World} {K : PySem.W.Frag} {mg : Str → Option Value} {base : Heap} {CC CE : Addr}
def spDiff : Sp := fun vs H Q _ => ∃ (p q cap b n : Nat), vs = [.int p, .int q, .int cap, .int b, .int n] ∧ p ≤ 4 ∧ q ≤ 4 ∧ cap ≤ 40 ∧ 1 ≤ b ∧ b ≤ 4 ∧ n ≤ 6 ∧
  ∀ (H' : Hp) (t : Addr), Same H H' → OutAt (missCount p cap) (missCount q cap) H' t (separatingSequence p q cap b n) → (separatingSequence p q cap b n).length ≤ 1000 → Q (.ref t) H'
theorem b_most_different (c_renamed_sequences : C8.Cal P w K mg base 1 "renamed_sequences" spRenamed []) (c_misses_of : C8.Cal P w K mg base 9 "misses_of" (spMissesOf K) []) (c_first_greatest : C8.Cal P w K mg base 3 "first_greatest" spFirst []) :
    Body0 P w K mg base N_most_different "most_different" s_most_different 9 spDiff := by
  intro f cdv A outer s H vs Q E hr ⟨p, q, cap, b, n, ev, hp4, hq4, hcap, hb1, hb4, hn6, k⟩
  subst ev
  have nd := sc_most_different.nd
  have big : 5000 < sizeLine := by decide
  refine ⟨_, (pss_cons (ps_set (i := 5) nd rfl (Or.inl rfl) (pe_lst pa_nil))
    (pss_cons (ps_for PassesOwn.never rfl (pi_list (C8.pe_c c_renamed_sequences hr (by decide) rfl (pa_cons (pv 3) (pa_cons (pv 4) pa_nil)))) (pg_name (i := 6) nd rfl (Or.inl rfl))
      (pss_cons (ps_set (i := 7) nd rfl (Or.inl rfl) (C8.pe_c c_misses_of hr (by decide) rfl (pa_cons (pv 0) (pa_cons (pv 2) (pa_cons (pv 6) pa_nil)))))
      (pss_cons (ps_set (i := 8) nd rfl (Or.inl rfl) (C8.pe_c c_misses_of hr (by decide) rfl (pa_cons (pv 1) (pa_cons (pv 2) (pa_cons (pv 6) pa_nil)))))
      (pss_one (ps_expr (pe_bm PySem.F.plainAttrs_list PySem.F.slot_list_append PySem.F.type_list_append mt_append (pv 5) (pa_cons (pe_tup (pa_cons (pv 7) (pa_cons (pv 8) (pa_cons (pv 6) pa_nil)))) pa_nil)))))))
    (pss_one (ps_ret (C8.pe_c c_first_greatest hr (by decide) rfl (pa_cons (pv 5) pa_nil)))))), ?_⟩
  refine ⟨Nat.zero_le _, fun o0 ho0 => ?_⟩
  have s0 := same_new (o := .lst []) ho0
  refine ⟨_, rfl, _, rfl, b, n, rfl, hb1, hb4, hn6, fun H2 ls bs s2 nls nbs hls hbs => ?_⟩
  have no : ∀ x, (upd H o0 (.lst [])) x = none → x ≠ o0 := fun x hx z => by
    rw [z, upd_same] at hx
    cases hx
  have hlen := pair_len hbs
  have few : (seqsOf b n).length ≤ 4096 := Nat.le_trans seqs_len (pow_small hb4 hn6)
  refine ⟨ls, rfl, ⟨_, .inl (.inl hls)⟩, for_list (K := K) (a := ls) (xs := bs.map V.ref)
    (fun i σ H3 => (∀ x u, H2 x = some u → x ≠ o0 → H3 x = some u) ∧ ∃ (ts : List Addr) (v6 v7 v8 : Option V), σ = [some (.int p), some (.int q), some (.int cap), some (.int b), some (.int n), some (.ref o0), v6, v7, v8] ∧ H3 o0 = some (.lst (ts.map V.ref)) ∧
      Paired (fun t s => t ≠ o0 ∧ ∃ l, l ≠ o0 ∧ H3 t = some (.tup [.int (missCount p cap s : Nat), .int (missCount q cap s : Nat), .ref l]) ∧ H3 l = some (.lst (intsN s))) ts ((seqsOf b n).take i))
    ⟨fun x u h _ => h, [], none, none, none, rfl, s2 _ _ upd_same, .nil⟩ (fun i σ H3 _ h => .inl (.inl (h.1 _ _ hls (no _ nls)))) ?_ ?_⟩
  · rintro i x σ H3 hx ⟨k3, ts, v6, v7, v8, rfl, h3, w3⟩
    obtain ⟨a, ha, rfl⟩ := map_ref_get hx
    obtain ⟨sq, hsq, ha1⟩ := pair_get' hbs ha
    have na := no _ (nbs a (List.mem_of_getElem? ha))
    have ha3 := k3 _ _ ha1 na
    have len3 := pair_len w3
    have hi := (List.getElem?_eq_some_iff.mp hsq).1
    rw [List.length_take] at len3
    refine ⟨_, rfl, _, rfl, _, rfl, p, cap, a, sq, rfl, .inl (.inl ha3), by omega, hp4, fun H4 s4 => ?_⟩
    refine ⟨_, rfl, _, rfl, _, rfl, q, cap, a, sq, rfl, .inl (.inl (s4 _ _ ha3)), by omega, hq4, fun H5 s5 => ?_⟩
    have s35 := s4.trans s5
    refine ⟨_, rfl, .inl ⟨rfl, _, .inl (.inl (s35 _ _ h3))⟩, _, rfl, _, rfl, _, rfl, by show 3 ≤ sizeLine; decide, fun t ht => ?_⟩
    have s6 := same_new (o := .tup [V.int (missCount p cap sq : Nat), .int (missCount q cap sq : Nat), .ref a]) ht
    have s36 := s35.trans s6
    have nt : t ≠ o0 := fun z => by
      have := s35 _ _ h3
      rw [← z, ht] at this
      cases this
    refine ⟨o0, ts.map V.ref, .ref t, rfl, rfl, s36 _ _ h3, by rw [List.length_map]; omega, ?_⟩
    refine ⟨fun x u h nx => by rw [upd_ne nx]; exact s36 _ _ (k3 x u h nx), ts ++ [t], _, _, _, rfl, by rw [upd_same, List.map_append]; rfl, ?_⟩
    rw [take_snoc hsq]
    refine Paired.snoc (pair_imp w3 fun x _ y ⟨f1, l, f2, f3, f4⟩ => ⟨f1, l, f2, ?_, ?_⟩) ⟨nt, a, na, ?_, ?_⟩
    · rw [upd_ne f1]
      exact s36 _ _ f3
    · rw [upd_ne f2]
      exact s36 _ _ f4
    · rw [upd_ne nt]
      exact upd_same
    · rw [upd_ne na]
      exact s36 _ _ ha3
  · rintro σ H3 ⟨k3, ts, v6, v7, v8, rfl, h3, w3⟩
    rw [List.length_map, hlen, List.take_length] at w3
    refine ⟨_, rfl, o0, ts, _, missCount p cap, missCount q cap, rfl, h3, pair_imp w3 fun x _ y ⟨_, l, _, f3, f4⟩ => ⟨l, f3, f4⟩, seqs_ne hb1, fun H4 t sq s4 fs mem out => ?_⟩
    have e := sep_of (p := p) (q := q) (cap := cap) hb1 fs
    have hl := (seqs_mem mem).1
    refine k H4 t (fun x u h => s4 _ _ (k3 x u (s2 _ _ (s0 x u h)) (ne_of_none h ho0))) ?_ ?_
    · rw [e]
      exact out
    · rw [e]
      omega
def spWorst : Sp := fun vs H Q _ => ∃ (p cap b n : Nat), vs = [.int p, .int cap, .int b, .int n] ∧ p ≤ 4 ∧ cap ≤ 40 ∧ 1 ≤ b ∧ b ≤ 4 ∧ n ≤ 6 ∧
  ∀ (H' : Hp) (t : Addr), Same H H' → OutAt (missCount p cap) (fun s => (optimalPlan cap s).misses) H' t (worstSequence p cap b n) → (worstSequence p cap b n).length ≤ 1000 → Q (.ref t) H'
theorem b_farthest_from_minimum (c_renamed_sequences : C8.Cal P w K mg base 1 "renamed_sequences" spRenamed []) (c_misses_of : C8.Cal P w K mg base 9 "misses_of" (spMissesOf K) []) (c_minimum_misses : C8.Cal P w K mg base 6 "minimum_misses" (spMinimum K) [])
    (c_first_greatest : C8.Cal P w K mg base 3 "first_greatest" spFirst []) : Body0 P w K mg base N_farthest_from_minimum "farthest_from_minimum" s_farthest_from_minimum 9 spWorst := by
  intro f cdv A outer s H vs Q E hr ⟨p, cap, b, n, ev, hp4, hcap, hb1, hb4, hn6, k⟩
  subst ev
  have nd := sc_farthest_from_minimum.nd
  have big : 5000 < sizeLine := by decide
  refine ⟨_, (pss_cons (ps_set (i := 4) nd rfl (Or.inl rfl) (pe_lst pa_nil))
    (pss_cons (ps_for PassesOwn.never rfl (pi_list (C8.pe_c c_renamed_sequences hr (by decide) rfl (pa_cons (pv 2) (pa_cons (pv 3) pa_nil)))) (pg_name (i := 5) nd rfl (Or.inl rfl))
      (pss_cons (ps_set (i := 6) nd rfl (Or.inl rfl) (C8.pe_c c_misses_of hr (by decide) rfl (pa_cons (pv 0) (pa_cons (pv 1) (pa_cons (pv 5) pa_nil)))))
      (pss_cons (ps_set (i := 7) nd rfl (Or.inl rfl) (C8.pe_c c_minimum_misses hr (by decide) rfl (pa_cons (pv 1) (pa_cons (pv 5) pa_nil))))
      (pss_one (ps_expr (pe_bm PySem.F.plainAttrs_list PySem.F.slot_list_append PySem.F.type_list_append mt_append (pv 4) (pa_cons (pe_tup (pa_cons (pv 6) (pa_cons (pv 7) (pa_cons (pv 5) pa_nil)))) pa_nil)))))))
    (pss_one (ps_ret (C8.pe_c c_first_greatest hr (by decide) rfl (pa_cons (pv 4) pa_nil)))))), ?_⟩
  refine ⟨Nat.zero_le _, fun o0 ho0 => ?_⟩
  have s0 := same_new (o := .lst []) ho0
  refine ⟨_, rfl, _, rfl, b, n, rfl, hb1, hb4, hn6, fun H2 ls bs s2 nls nbs hls hbs => ?_⟩
  have no : ∀ x, (upd H o0 (.lst [])) x = none → x ≠ o0 := fun x hx z => by
    rw [z, upd_same] at hx
    cases hx
  have hlen := pair_len hbs
  have few : (seqsOf b n).length ≤ 4096 := Nat.le_trans seqs_len (pow_small hb4 hn6)
  refine ⟨ls, rfl, ⟨_, .inl (.inl hls)⟩, for_list (K := K) (a := ls) (xs := bs.map V.ref)
    (fun i σ H3 => (∀ x u, H2 x = some u → x ≠ o0 → H3 x = some u) ∧ ∃ (ts : List Addr) (v5 v6 v7 : Option V), σ = [some (.int p), some (.int cap), some (.int b), some (.int n), some (.ref o0), v5, v6, v7] ∧ H3 o0 = some (.lst (ts.map V.ref)) ∧
      Paired (fun t s => t ≠ o0 ∧ ∃ l, l ≠ o0 ∧ H3 t = some (.tup [.int (missCount p cap s : Nat), .int ((optimalPlan cap s).misses : Nat), .ref l]) ∧ H3 l = some (.lst (intsN s))) ts ((seqsOf b n).take i))
    ⟨fun x u h _ => h, [], none, none, none, rfl, s2 _ _ upd_same, .nil⟩ (fun i σ H3 _ h => .inl (.inl (h.1 _ _ hls (no _ nls)))) ?_ ?_⟩
  · rintro i x σ H3 hx ⟨k3, ts, v5, v6, v7, rfl, h3, w3⟩
    obtain ⟨a, ha, rfl⟩ := map_ref_get hx
    obtain ⟨sq, hsq, ha1⟩ := pair_get' hbs ha
    have na := no _ (nbs a (List.mem_of_getElem? ha))
    have ha3 := k3 _ _ ha1 na
    have len3 := pair_len w3
    have hi := (List.getElem?_eq_some_iff.mp hsq).1
    obtain ⟨sl, sk, _⟩ := seqs_mem (List.mem_of_getElem? hsq)
    rw [List.length_take] at len3
    refine ⟨_, rfl, _, rfl, _, rfl, p, cap, a, sq, rfl, .inl (.inl ha3), by omega, hp4, fun H4 s4 => ?_⟩
    refine ⟨_, rfl, _, rfl, cap, a, sq, rfl, .inl (.inl (s4 _ _ ha3)), hcap, fun x hx => by have := sk x hx; omega, by omega, fun H5 s5 => ?_⟩
    have s35 := s4.trans s5
    refine ⟨_, rfl, .inl ⟨rfl, _, .inl (.inl (s35 _ _ h3))⟩, _, rfl, _, rfl, _, rfl, by show 3 ≤ sizeLine; decide, fun t ht => ?_⟩
    have s6 := same_new (o := .tup [V.int (missCount p cap sq : Nat), .int ((optimalPlan cap sq).misses : Nat), .ref a]) ht
    have s36 := s35.trans s6
    have nt : t ≠ o0 := fun z => by
      have := s35 _ _ h3
      rw [← z, ht] at this
      cases this
    refine ⟨o0, ts.map V.ref, .ref t, rfl, rfl, s36 _ _ h3, by rw [List.length_map]; omega, ?_⟩
    refine ⟨fun x u h nx => by rw [upd_ne nx]; exact s36 _ _ (k3 x u h nx), ts ++ [t], _, _, _, rfl, by rw [upd_same, List.map_append]; rfl, ?_⟩
    rw [take_snoc hsq]
    refine Paired.snoc (pair_imp w3 fun x _ y ⟨f1, l, f2, f3, f4⟩ => ⟨f1, l, f2, ?_, ?_⟩) ⟨nt, a, na, ?_, ?_⟩
    · rw [upd_ne f1]
      exact s36 _ _ f3
    · rw [upd_ne f2]
      exact s36 _ _ f4
    · rw [upd_ne nt]
      exact upd_same
    · rw [upd_ne na]
      exact s36 _ _ ha3
  · rintro σ H3 ⟨k3, ts, v5, v6, v7, rfl, h3, w3⟩
    rw [List.length_map, hlen, List.take_length] at w3
    refine ⟨_, rfl, o0, ts, _, missCount p cap, fun s => (optimalPlan cap s).misses, rfl, h3, pair_imp w3 fun x _ y ⟨_, l, _, f3, f4⟩ => ⟨l, f3, f4⟩, seqs_ne hb1, fun H4 t sq s4 fs mem out => ?_⟩
    have e := worst_of (p := p) (cap := cap) hb1 fs
    have hl := (seqs_mem mem).1
    refine k H4 t (fun x u h => s4 _ _ (k3 x u (s2 _ _ (s0 x u h)) (ne_of_none h ho0))) ?_ ?_
    · rw [e]
      exact out
    · rw [e]
      omega
end
end Lab

/-! The policies compared, def by def: 4. the anomaly. -/
namespace Lab
open PySem PySem.Spec PyProof.Rows L2
open Vakptc (Cache emptyCache access accessAll missCount anomalyLength)
def anoL (p cap : Nat) (seq : List Nat) : List Int := match anomalyLength p cap seq with
  | none => [0]
  | some n => [1, (n : Int), (missCount p cap (seq.take n) : Nat), (missCount p (cap + 1) (seq.take n) : Nat)]
/-- two caches apart -/
def Apart (F G : List Addr) : Prop := ∀ b ∈ F, b ∉ G
theorem Apart.symm {F G : List Addr} (h : Apart F G) : Apart G F := fun b x y => h b y x
section
variable {P : Program} {w : World} {K : PySem.W.Frag} {mg : Str → Option Value} {base : Heap} {CC CE dV f0 f1 f2 f3 f4 : Addr}
theorem apart_grown {H : Hp} {F F' : List Addr} {a l : Addr} {bs : List Addr} {c : Cache} (d : Apart F (foot a l bs)) (g : Grown F F' H) (h : CaAt CC CE H a l bs c) : Apart F' (foot a l bs) := fun b hb => (g b hb).elim (d b) fun n => h.not_new n
theorem ca_out {H H' : Hp} {F : List Addr} {a l : Addr} {bs : List Addr} {c : Cache} (h : CaAt CC CE H a l bs c) (o : Out F H H') (d : Apart F (foot a l bs)) : CaAt CC CE H' a l bs c := h.keep fun b hb u e => o.1 b u e fun z => d b z hb
def spAnomaly (K : PySem.W.Frag) : Sp := fun vs H Q _ => ∃ (pol cap : Nat) (q : Addr) (seq : List Nat), vs = [.int pol, .int cap, .ref q] ∧ SqL K H q (intsN seq) ∧ cap ≤ 900 ∧ pol ≤ 4 ∧ seq.length ≤ 1000 ∧
  ∀ (H' : Hp) (p : Addr), Same H H' → H p = none → H' p = some (.lst ((anoL pol cap seq).map V.int)) → Q (.ref p) H'
theorem b_shortest_anomaly (T : TxtS K mg CC CE dV f0 f1 f2 f3 f4) (n_enumerate : mg "enumerate" = none) (m_access : C8.Met P w K mg base 7 CC "access" (spAccess CC CE) []) (c_Cache : C8.Mak P w K mg base 1 "Cache" CC (spCacheInit CC CE) []) :
    Body0 P w K mg base N_shortest_anomaly "shortest_anomaly" s_shortest_anomaly 7 (spAnomaly K) := by
  intro f cdv A outer s H vs Q E hr ⟨pol, cap, q, seq, ev, hq, hcap, hpol, hlen, k⟩
  subst ev
  have nd := sc_shortest_anomaly.nd
  refine ⟨_, (pss_cons (ps_set (i := 3) nd rfl (Or.inl rfl) (C8.pe_mk c_Cache hr (by decide) rfl (pa_cons (pv 1) (pa_cons (pv 0) pa_nil))))
    (pss_cons (ps_set (i := 4) nd rfl (Or.inl rfl) (C8.pe_mk c_Cache hr (by decide) rfl (pa_cons (pe_op op_add (pv 1) pe_int) (pa_cons (pv 0) pa_nil))))
    (pss_cons (ps_for PassesOwn.never rfl (pi_enum (by rfl) n_enumerate (pa_cons (pv 2) pa_nil)) (pg_tup (by rfl) (pgs_cons (pg_name (i := 5) nd rfl (Or.inl rfl)) (pgs_cons (pg_name (i := 6) nd rfl (Or.inl rfl)) pgs_nil)))
      (pss_cons (ps_expr (C8.pe_mt m_access hr (by decide) (pv 3) (pa_cons (pv 6) pa_nil)))
      (pss_cons (ps_expr (C8.pe_mt m_access hr (by decide) (pv 4) (pa_cons (pv 6) pa_nil)))
      (pss_one (ps_if (pt_cmpR op_gt (pe_fld (pv 4) rfl) (pe_fld (pv 3) rfl) (nomark _))
        (pss_one (ps_ret (pe_lst (pa_cons pe_int (pa_cons (pe_op op_add (pv 5) pe_int) (pa_cons (pe_fld (pv 3) rfl) (pa_cons (pe_fld (pv 4) rfl) pa_nil)))))))
        pss_nil)))))
    (pss_one (ps_ret (pe_lst (pa_cons pe_int pa_nil))))))), ?_⟩
  refine ⟨_, rfl, _, rfl, ?_⟩
  intro x dx nx ndx ne
  refine ⟨x, dx, cap, pol, rfl, upd_same, fun H1 l h1 hl o1 => ⟨rfl, ?_⟩⟩
  have s1 : Same H H1 := fun b u e => o1.1 b u (by rw [upd_ne (ne_of_none e nx), upd_ne (ne_of_none e ndx)]; exact e) (fun z => by rw [List.mem_singleton.mp z, nx] at e; cases e)
  have f1 : ∀ b ∈ foot x l [], H b = none := fun b hb => by
    rcases List.mem_cons.mp hb with rfl | hb
    · exact nx
    · rcases List.mem_cons.mp hb with rfl | hb
      · exact upd_live (upd_live hl)
      · cases hb
  have ec : ((cap : Int) + 1) = ((cap + 1 : Nat) : Int) := by omega
  refine ⟨_, rfl, _, _, rfl, rfl, _, rfl, ?_⟩
  intro y dy ny ndy ney
  refine ⟨y, dy, cap + 1, pol, rfl, upd_same, fun H2 m h2 hm o2 => ⟨rfl, ?_⟩⟩
  have s2 : Same H1 H2 := fun b u e => o2.1 b u (by rw [upd_ne (ne_of_none e ny), upd_ne (ne_of_none e ndy)]; exact e) (fun z => by rw [List.mem_singleton.mp z, ny] at e; cases e)
  have f2' : ∀ b ∈ foot y m [], H1 b = none := fun b hb => by
    rcases List.mem_cons.mp hb with rfl | hb
    · exact ny
    · rcases List.mem_cons.mp hb with rfl | hb
      · exact upd_live (upd_live hm)
      · cases hb
  have big : 5000 < sizeLine := by decide
  refine ⟨_, rfl, q, intsN seq, rfl, (s1.trans s2).seq hq, for_enum (K := K) (a := q) (xs := intsN seq)
    (fun i σ H' => Same H H' ∧ ∃ (l m : Addr) (bs cs : List Addr) (v5 v6 : Option V), σ = [some (.int pol), some (.int cap), some (.ref q), some (.ref x), some (.ref y), v5, v6] ∧
      CaAt CC CE H' x l bs (accessAll (emptyCache cap pol) (seq.take i)) ∧ CaAt CC CE H' y m cs (accessAll (emptyCache (cap + 1) pol) (seq.take i)) ∧ Apart (foot x l bs) (foot y m cs) ∧ (∀ b ∈ foot x l bs, H b = none) ∧ (∀ b ∈ foot y m cs, H b = none) ∧
      ∀ j, j < i + 1 → ¬ missCount pol cap (seq.take j) < missCount pol (cap + 1) (seq.take j))
    ⟨s1.trans s2, l, m, [], [], none, none, rfl, h1.same s2, h2, fun b hb hb2 => h1.not_new (f2' b hb2) hb, f1, fun b hb => s1.free (f2' b hb), fun j hj => by
      have : j = 0 := by omega
      subst this
      exact Nat.lt_irrefl 0⟩ (fun i σ H' _ h => h.1.seq hq) ?_ ?_⟩
  · rintro i z σ H' T0 hz ⟨s3, l, m, bs, cs, v5, v6, rfl, hx, hy, ap, fx, fy, no⟩ hT
    obtain ⟨key, hkey, rfl⟩ := intsN_get hz
    have hi := (List.getElem?_eq_some_iff.mp hkey).1
    have sT := same_new (o := .tup [V.int (i : Int), V.int (key : Int)]) hT
    have hx1 := hx.same sT
    have hy1 := hy.same sT
    obtain ⟨d1, ho1⟩ := hx1.ob
    have acx := all_cap (c := emptyCache cap pol) (seq.take i)
    have acy := all_cap (c := emptyCache (cap + 1) pol) (seq.take i)
    refine ⟨T0, _, rfl, .inl (.inl upd_same), rfl, _, _, rfl, _, _, rfl, rfl, ?_⟩
    refine ⟨_, rfl, x, d1, _, rfl, ho1, m_none _ l, _, rfl, x, l, bs, _, key, rfl, hx1, wf_all (wf_new hpol) _, by rw [acx.1]; show cap ≤ 1000; omega, fun H3 l3 bs3 p3 h3 g3 o3 np3 nf3 hp3 => ?_⟩
    have hy3 := ca_out hy1 o3 ap
    have ap3 := apart_grown ap g3 hy1
    obtain ⟨d2, ho2⟩ := hy3.ob
    refine ⟨_, rfl, y, d2, _, rfl, ho2, m_none _ m, _, rfl, y, m, cs, _, key, rfl, hy3, wf_all (wf_new hpol) _, by rw [acy.1]; show cap + 1 ≤ 1000; omega, fun H4 m4 cs4 p4 h4 g4 o4 np4 nf4 hp4 => ?_⟩
    have hx4 := ca_out h3 o4 ap3.symm
    have ap4 := (apart_grown ap3.symm g4 h3).symm
    have s4 : Same H H4 := out_same (out_same (s3.trans sT) o3 fx) o4 fy
    have fx4 : ∀ b ∈ foot x l3 bs3, H b = none := fun b hb => (g3 b hb).elim (fx b) fun n => s3.free (sT.free n)
    have fy4 : ∀ b ∈ foot y m4 cs4, H b = none := fun b hb => (g4 b hb).elim (fy b) fun n => s3.free (sT.free (o3.2 b n))
    have e1 : (access (accessAll (emptyCache cap pol) (seq.take i)) key).1 = accessAll (emptyCache cap pol) (seq.take (i + 1)) := by rw [take_snoc hkey, accessAll_snoc]
    have e2 : (access (accessAll (emptyCache (cap + 1) pol) (seq.take i)) key).1 = accessAll (emptyCache (cap + 1) pol) (seq.take (i + 1)) := by rw [take_snoc hkey, accessAll_snoc]
    rw [e1] at hx4
    rw [e2] at h4
    obtain ⟨dx4, ox4⟩ := hx4.ob
    obtain ⟨dy4, oy4⟩ := h4.ob
    refine ⟨_, rfl, y, CC, dy4, _, _, rfl, oy4, T.clC, T.nMis, cF_mis _ m4, _, rfl, x, CC, dx4, _, _, rfl, ox4, T.clC, T.nMis, cF_mis _ l3, _, _, rfl, rfl, _, rfl, ?_⟩
    have ed : decide (((accessAll (emptyCache cap pol) (seq.take (i + 1))).misses : Int) < ((accessAll (emptyCache (cap + 1) pol) (seq.take (i + 1))).misses : Int)) = decide (missCount pol cap (seq.take (i + 1)) < missCount pol (cap + 1) (seq.take (i + 1))) := by
      unfold missCount
      simp only [Int.ofNat_lt]
    rw [ed]
    by_cases c : missCount pol cap (seq.take (i + 1)) < missCount pol (cap + 1) (seq.take (i + 1))
    · rw [decide_eq_true c]
      have ea := anomaly_some (p := pol) (cap := cap) (n := i + 1) (s := seq) (by omega) c fun j hj => no j hj
      have el : anoL pol cap seq = [1, ((i : Int) + 1), (missCount pol cap (seq.take (i + 1)) : Nat), (missCount pol (cap + 1) (seq.take (i + 1)) : Nat)] := by
        unfold anoL
        rw [ea]
        rfl
      rw [el] at k
      refine iteT ⟨_, rfl, _, _, rfl, rfl, _, rfl, x, CC, dx4, _, _, rfl, ox4, T.clC, T.nMis, cF_mis _ l3, _, rfl, y, CC, dy4, _, _, rfl, oy4, T.clC, T.nMis, cF_mis _ m4, by show 4 ≤ sizeLine; decide, fun p hp => ?_⟩
      exact k _ p (s4.trans (same_new hp)) (s4.free hp) upd_same
    · rw [decide_eq_false c]
      refine iteF ⟨s4, l3, m4, bs3, cs4, some (.int (i : Int)), some (.int (key : Int)), rfl, hx4, h4, ap4, fx4, fy4, fun j hj => ?_⟩
      by_cases hji : j = i + 1
      · subst hji
        exact c
      · exact no j (by omega)
  · rintro σ H' ⟨s3, l, m, bs, cs, v5, v6, rfl, hx, hy, ap, fx, fy, no⟩
    rw [intsN_len] at no
    have ea := anomaly_none (p := pol) (cap := cap) (s := seq) fun n hn => no n (by omega)
    have el : anoL pol cap seq = [0] := by
      unfold anoL
      rw [ea]
    rw [el] at k
    refine ⟨by show 1 ≤ sizeLine; decide, fun p hp => ?_⟩
    exact k _ p (s3.trans (same_new hp)) (s3.free hp) upd_same
end
end Lab

/-! The checks of a search and of a capacity that may not be 0. -/
namespace Lab
open PySem PySem.Spec PyProof.Rows L2
section
variable {P : Program} {w : World} {K : PySem.W.Frag} {mg : Str → Option Value} {base : Heap}
def spSome (X : Addr) : Sp := fun vs H Q E => ∃ z : Int, vs = [.int z] ∧ (z ≠ 0 → Q .non H) ∧ (z = 0 → E (.ref X) none H)
theorem b_check_some_capacity {X : Addr} (T : TxtX K mg "NoCapacityRefused" X) : BodyX P w K mg base N_check_some_capacity "check_some_capacity" s_check_some_capacity 0 (spSome X) := by
  intro f cdv A outer s H vs Q E hr ⟨z, ev, q1, q2⟩
  subst ev
  refine ⟨_, (pss_one (ps_if (pt_cmpR op_eq (pv 0) pe_int (nomark _))
    (pss_one (ps_raise rfl (takes_of rfl rfl rfl rfl) (pmk_own0 PySem.F.excBase_Exception T.x T.g T.k (raises_own T.b T.t) rfl)))
    pss_nil)), ?_⟩
  refine ⟨_, rfl, rfl, _, rfl, ?_⟩
  by_cases c : z = 0
  · subst c
    rw [decide_eq_true rfl]
    exact iteT (q2 rfl)
  · rw [decide_eq_false (fun y => c (by injection y))]
    exact iteF (q1 c)
def spSearch (X : Addr) : Sp := fun vs H Q E => ∃ b m n : Int, vs = [.int b, .int m, .int n] ∧ (rng 1 m b = true → rng 0 6 n = true → Q .non H) ∧ (rng 1 m b = false ∨ rng 0 6 n = false → E (.ref X) none H)
theorem b_check_search {X : Addr} (T : TxtX K mg "SearchRefused" X) (g : ∃ u, mg "MAX_LENGTH_SEARCHED" = some u ∧ RelV (.int 6) u) : BodyX P w K mg base N_check_search "check_search" s_check_search 0 (spSearch X) := by
  intro f cdv A outer s H vs Q E hr ⟨b, m, n, ev, q1, q2⟩
  subst ev
  refine ⟨_, (pss_cons (ps_if (pt_not (pt_chain op_le op_le pe_int (pv 0) (pv 1)))
      (pss_one (ps_raise rfl (takes_of rfl rfl rfl rfl) (pmk_own0 PySem.F.excBase_Exception T.x T.g T.k (raises_own T.b T.t) rfl)))
      pss_nil)
    (pss_one (ps_if (pt_not (pt_chain op_le op_le pe_int (pv 2) (C8.pe_gc rfl g)))
      (pss_one (ps_raise rfl (takes_of rfl rfl rfl rfl) (pmk_own0 PySem.F.excBase_Exception T.x T.g T.k (raises_own T.b T.t) rfl)))
      pss_nil))), ?_⟩
  refine ⟨_, rfl, _, _, rfl, rfl, _, rfl, ?_⟩
  have go : ∀ {Q' : Bool → Hp → Prop}, Q' (rng 1 m b) H → if decide ((1 : Int) ≤ b) = true then tVar 1 (L2.start N_check_search [.int b, .int m, .int n]) H (fun z H2 => rI0 (fun i j => .bl (decide (i ≤ j))) (.int b) z H2 fun x H' => ∃ k, x = .bl k ∧ Q' k H') else ∃ k, V.bl false = .bl k ∧ Q' k H := by
    intro Q' h
    unfold rng at h
    by_cases c : 1 ≤ b
    · rw [decide_eq_true c] at h ⊢
      exact iteT ⟨_, rfl, b, m, rfl, rfl, _, rfl, h⟩
    · rw [decide_eq_false c] at h ⊢
      exact iteF ⟨_, rfl, h⟩
  refine go ?_
  cases c : rng 1 m b with
  | false => exact iteT (q2 (.inl c))
  | true =>
    refine iteF ⟨_, rfl, _, _, rfl, rfl, _, rfl, r_chain_t ?_⟩
    cases c2 : rng 0 6 n with
    | true => exact iteF (q1 c c2)
    | false => exact iteT (q2 (.inr c2))
end
end Lab

/-! The calls 7 to 10. -/
namespace Lab
open PySem PySem.Spec PyProof.Rows L2 LamX NdefX
open Vakptc (Cache contains cachedKeys emptyCache access accessAll Call Answer step optimalPlan farthestPlan emptyPlan phaseStarts)
theorem seq_keys {zs : List Int} (h : seqOk zs = true) : (∀ k ∈ zs.map Int.toNat, k ≤ 9) ∧ (zs.map Int.toNat).length ≤ 30 := by
  unfold seqOk at h
  rw [Bool.and_eq_true, decide_eq_true_eq, List.all_eq_true] at h
  refine ⟨fun k hk => ?_, by rw [List.length_map]; exact h.1⟩
  obtain ⟨z, hz, rfl⟩ := List.mem_map.mp hk
  have := h.2 z hz
  unfold rng at this
  rw [Bool.and_eq_true, decide_eq_true_eq, decide_eq_true_eq] at this
  omega
theorem same_move {H H1 : Hp} {r : Addr} {o o' : HO} (s : Same (upd H r o) H1) : Same (upd H r o') (upd H1 r o') := fun b u e => by
  by_cases h : b = r
  · rw [h, upd_same] at e ⊢
    exact e
  · rw [upd_ne h] at e ⊢
    exact s b u (by rw [upd_ne h]; exact e)
theorem nats_V (l : List Nat) : (l.map fun n : Nat => (n : Int)).map V.int = intsN l := intsN_map l
section
variable {P : Program} {w : World} {K : PySem.W.Frag} {mg : Str → Option Value} {base : Heap} {A : Ad}
/-! ### 7: optimal -/
theorem b_op_optimal (m_take_number : C8.Met P w K mg base 1 A.CR "take_number" (spTakeN K A.CR) []) (m_take_row : C8.Met P w K mg base 2 A.CR "take_row" (spTakeR K A.CR) [])
    (c_check_capacity : CalX P w K mg base 1 "check_capacity" (spChk 0 6 (A.err (-1)))) (c_check_sequence : CalX P w K mg base 2 "check_sequence" (spChkS K (A.err (-4))))
    (c_optimal_evictions : C8.Cal P w K mg base 5 "optimal_evictions" (spOptimal K) []) (c_listed : C8.Cal P w K mg base 1 "listed" (spListed K) []) :
    BodyX P w K mg base N_answer_optimal "answer_optimal" s_answer_optimal 5 (spOp A K 7) := by
  intro f cdv Ar outer s H vs Q E hr ⟨lab, r, src, dxr, ns, i, j, k, a, l, bs, c, ev, S, op, ar, qE, qN⟩
  subst ev
  cases k with
  | optimal x seq =>
    obtain ⟨h0, zs, hrow, rfl⟩ := ar
    obtain ⟨n, hn, hle, hzs, rfl, hpos⟩ := row_read hrow
    have nd := sc_answer_optimal.nd
    refine ⟨_, (pss_cons (ps_set (i := 2) nd rfl (Or.inl rfl) (C8.pe_mt0 m_take_number hr (by decide) (pv 1)))
      (pss_cons (ps_set (i := 3) nd rfl (Or.inl rfl) (C8.pe_mt0 m_take_row hr (by decide) (pv 1)))
      (pss_cons (ps_expr (pe_cX c_check_capacity hr (by decide) rfl (takes_of rfl rfl rfl rfl) (pa_cons (pv 2) pa_nil)))
      (pss_cons (ps_expr (pe_cX c_check_sequence hr (by decide) rfl (takes_of rfl rfl rfl rfl) (pa_cons (pv 3) pa_nil)))
      (pss_cons (ps_set (i := 4) nd rfl (Or.inl rfl) (C8.pe_c c_optimal_evictions hr (by decide) rfl (pa_cons (pv 2) (pa_cons (pv 3) pa_nil))))
      (pss_one (ps_ret (pe_op op_cat (pe_lst (pa_cons (pe_ix ix_tup (pv 4) pe_int (fun _ _ => rfl)) pa_nil)) (C8.pe_c c_listed hr (by decide) rfl (pa_cons (pe_ix ix_tup (pv 4) pe_int (fun _ _ => rfl)) pa_nil)))))))))), ?_⟩
    have S1 := S.move (i + 1)
    refine ⟨_, rfl, r, dxr, _, rfl, S.rd, rF_none src i, r, src, dxr, i, ns, x, rfl, S.rd, S.sr.sq, h0, ?_⟩
    refine ⟨_, rfl, r, dxr, _, rfl, S1.rd, rF_none src _, r, src, dxr, i + 1, n, ns, rfl, S1.rd, S1.sr, hn, hle, fun p hp => ?_⟩
    rw [upd_upd]
    replace hp : upd H r (.ins A.CR dxr (rF src (i + 1 + 1 + n))) p = none := upd_swap hp
    rw [← hzs]
    have s3 := same_new (o := .lst (zs.map V.int)) hp
    have aM := after_move S (i + 1 + 1 + n) s3
    have st : step c (.optimal x (zs.map Int.toNat)) = (c, if rng 0 6 x = false then .error (-1) else if Vakptc.validSequence (zs.map Int.toNat) = false then .error (-4) else
        Vakptc.natural ((optimalPlan x.toNat (zs.map Int.toNat)).misses :: Vakptc.withLength (optimalPlan x.toNat (zs.map Int.toNat)).evictions)) := rfl
    rw [seqOk_valid hpos] at st
    refine ⟨_, rfl, x, rfl, fun c1 => ?_, fun c1 => ?_⟩
    · refine ⟨_, rfl, p, zs, rfl, .inl (.inl upd_same), fun c3 => ?_, fun c3 => ?_⟩
      · obtain ⟨cp, rfl, tn, ln⟩ := nat_of (Int.le_refl 0) c1
        obtain ⟨sk, sl⟩ := seq_keys c3
        rw [c1, c3, if_neg (by decide), if_neg (by decide), tn] at st
        rw [st] at qN
        refine ⟨_, rfl, _, rfl, cp, p, zs.map Int.toNat, rfl, by rw [← ints_nats hpos]; exact .inl (.inl upd_same), by omega, sk, by omega, fun H4 t s4 wt hev => ?_⟩
        obtain ⟨le, w1, w2⟩ := wt
        refine ⟨_, rfl, t, _, 0, _, rfl, rfl, .inl (.inl w1), at_of (j := 0) rfl rfl, by show 1 ≤ sizeLine; decide, fun u hu => ?_⟩
        have s5 := same_new (o := .lst [V.int ((optimalPlan cp (zs.map Int.toNat)).misses : Int)]) hu
        have big : (3000 : Nat) ≤ sizeLine := by decide
        refine ⟨_, rfl, t, _, 1, _, rfl, rfl, .inl (.inl (s5 _ _ w1)), at_of (j := 1) rfl rfl, le, _, rfl, s5 _ _ w2, by rw [intsN_len]; omega, fun H7 v s7 hv hv7 => ?_⟩
        refine ⟨u, v, _, _, rfl, rfl, s7 _ _ upd_same, hv7, by
          rw [List.length_cons, List.length_cons, intsN_len, List.length_nil]
          omega, fun y hy => ?_⟩
        have s8 := (s4.trans s5).trans (s7.trans (same_new (o := .lst ([V.int ((optimalPlan cp (zs.map Int.toNat)).misses : Int)] ++ (V.int ((intsN (optimalPlan cp (zs.map Int.toNat)).evictions).length : Int) :: intsN (optimalPlan cp (zs.map Int.toNat)).evictions))) hy))
        refine qN _ _ y rfl (after_move S _ (s3.trans s8)) (upd_live (s3.free (s4.free (s5.free (s7.free hy))))) ?_
        rw [upd_same]
        unfold Vakptc.withLength
        rw [intsN_len, List.map_cons, List.map_cons, List.map_cons, List.map_cons, nats_V]
        rfl
      · refine qE (-4) _ ?_ aM
        rw [st, c1, c3]
        rfl
    · refine qE (-1) _ ?_ aM
      rw [st, c1]
      rfl
  | _ => exact absurd op (by simp [opNo])
/-! ### 8: farthest -/
theorem b_op_farthest (m_take_number : C8.Met P w K mg base 1 A.CR "take_number" (spTakeN K A.CR) []) (m_take_row : C8.Met P w K mg base 2 A.CR "take_row" (spTakeR K A.CR) [])
    (c_check_capacity : CalX P w K mg base 1 "check_capacity" (spChk 0 6 (A.err (-1)))) (c_check_sequence : CalX P w K mg base 2 "check_sequence" (spChkS K (A.err (-4))))
    (c_belady_evictions : C8.Cal P w K mg base 5 "belady_evictions" (spBelady K A.Pt) []) (c_listed : C8.Cal P w K mg base 1 "listed" (spListed K) []) :
    BodyX P w K mg base N_answer_farthest "answer_farthest" s_answer_farthest 5 (spOp A K 8) := by
  intro f cdv Ar outer s H vs Q E hr ⟨lab, r, src, dxr, ns, i, j, k, a, l, bs, c, ev, S, op, ar, qE, qN⟩
  subst ev
  cases k with
  | farthest x seq =>
    obtain ⟨h0, zs, hrow, rfl⟩ := ar
    obtain ⟨n, hn, hle, hzs, rfl, hpos⟩ := row_read hrow
    have nd := sc_answer_farthest.nd
    refine ⟨_, (pss_cons (ps_set (i := 2) nd rfl (Or.inl rfl) (C8.pe_mt0 m_take_number hr (by decide) (pv 1)))
      (pss_cons (ps_set (i := 3) nd rfl (Or.inl rfl) (C8.pe_mt0 m_take_row hr (by decide) (pv 1)))
      (pss_cons (ps_expr (pe_cX c_check_capacity hr (by decide) rfl (takes_of rfl rfl rfl rfl) (pa_cons (pv 2) pa_nil)))
      (pss_cons (ps_expr (pe_cX c_check_sequence hr (by decide) rfl (takes_of rfl rfl rfl rfl) (pa_cons (pv 3) pa_nil)))
      (pss_cons (ps_set (i := 4) nd rfl (Or.inl rfl) (C8.pe_c c_belady_evictions hr (by decide) rfl (pa_cons (pv 2) (pa_cons (pv 3) pa_nil))))
      (pss_one (ps_ret (pe_op op_cat (pe_lst (pa_cons (pe_ix ix_tup (pv 4) pe_int (fun _ _ => rfl)) pa_nil)) (C8.pe_c c_listed hr (by decide) rfl (pa_cons (pe_ix ix_tup (pv 4) pe_int (fun _ _ => rfl)) pa_nil)))))))))), ?_⟩
    have S1 := S.move (i + 1)
    refine ⟨_, rfl, r, dxr, _, rfl, S.rd, rF_none src i, r, src, dxr, i, ns, x, rfl, S.rd, S.sr.sq, h0, ?_⟩
    refine ⟨_, rfl, r, dxr, _, rfl, S1.rd, rF_none src _, r, src, dxr, i + 1, n, ns, rfl, S1.rd, S1.sr, hn, hle, fun p hp => ?_⟩
    rw [upd_upd]
    replace hp : upd H r (.ins A.CR dxr (rF src (i + 1 + 1 + n))) p = none := upd_swap hp
    rw [← hzs]
    have s3 := same_new (o := .lst (zs.map V.int)) hp
    have S3 := (S.move (i + 1 + 1 + n)).same s3
    have aM := after_move S (i + 1 + 1 + n) s3
    have st : step c (.farthest x (zs.map Int.toNat)) = (c, if rng 0 6 x = false then .error (-1) else if Vakptc.validSequence (zs.map Int.toNat) = false then .error (-4) else
        Vakptc.natural ((farthestPlan x.toNat emptyPlan (zs.map Int.toNat)).misses :: Vakptc.withLength (farthestPlan x.toNat emptyPlan (zs.map Int.toNat)).evictions)) := rfl
    rw [seqOk_valid hpos] at st
    refine ⟨_, rfl, x, rfl, fun c1 => ?_, fun c1 => ?_⟩
    · refine ⟨_, rfl, p, zs, rfl, .inl (.inl upd_same), fun c3 => ?_, fun c3 => ?_⟩
      · obtain ⟨cp, rfl, tn, ln⟩ := nat_of (Int.le_refl 0) c1
        obtain ⟨sk, sl⟩ := seq_keys c3
        rw [c1, c3, if_neg (by decide), if_neg (by decide), tn] at st
        rw [st] at qN
        refine ⟨_, rfl, _, rfl, cp, p, zs.map Int.toNat, rfl, by rw [← ints_nats hpos]; exact .inl (.inl upd_same), S3.tb, by omega, sk, by omega, fun H4 t le s4 nt nle w1 w2 hev => ?_⟩
        refine ⟨_, rfl, t, _, 0, _, rfl, rfl, .inl (.inl w1), at_of (j := 0) rfl rfl, by show 1 ≤ sizeLine; decide, fun u hu => ?_⟩
        have s5 := same_new (o := .lst [V.int ((farthestPlan cp emptyPlan (zs.map Int.toNat)).misses : Int)]) hu
        have big : (3000 : Nat) ≤ sizeLine := by decide
        refine ⟨_, rfl, t, _, 1, _, rfl, rfl, .inl (.inl (s5 _ _ w1)), at_of (j := 1) rfl rfl, le, _, rfl, s5 _ _ w2, by rw [intsN_len]; omega, fun H7 v s7 hv hv7 => ?_⟩
        refine ⟨u, v, _, _, rfl, rfl, s7 _ _ upd_same, hv7, by
          rw [List.length_cons, List.length_cons, intsN_len, List.length_nil]
          omega, fun y hy => ?_⟩
        have s8 := s5.trans (s7.trans (same_new (o := .lst ([V.int ((farthestPlan cp emptyPlan (zs.map Int.toNat)).misses : Int)] ++ (V.int ((intsN (farthestPlan cp emptyPlan (zs.map Int.toNat)).evictions).length : Int) :: intsN (farthestPlan cp emptyPlan (zs.map Int.toNat)).evictions))) hy))
        have all : Stt A.Pt lamQ (upd H r (.ins A.CR dxr (rF src (i + 1 + 1 + n)))) _ := ((Stt.of s3 (S.move (i + 1 + 1 + n)).tb).trans s4).then s8
        refine qN _ _ y rfl (after_tab S _ all) (upd_live (s3.free (s4.live _ (s5.free (s7.free hy))))) ?_
        rw [upd_same]
        unfold Vakptc.withLength
        rw [intsN_len, List.map_cons, List.map_cons, List.map_cons, List.map_cons, nats_V]
        rfl
      · refine qE (-4) _ ?_ aM
        rw [st, c1, c3]
        rfl
    · refine qE (-1) _ ?_ aM
      rw [st, c1]
      rfl
  | _ => exact absurd op (by simp [opNo])
/-! ### 9: replay -/
theorem b_op_replay (m_take_number : C8.Met P w K mg base 1 A.CR "take_number" (spTakeN K A.CR) []) (m_take_row : C8.Met P w K mg base 2 A.CR "take_row" (spTakeR K A.CR) [])
    (c_check_capacity : CalX P w K mg base 1 "check_capacity" (spChk 0 6 (A.err (-1)))) (c_check_sequence : CalX P w K mg base 2 "check_sequence" (spChkS K (A.err (-4))))
    (c_replayed : C8.Cal P w K mg base 2 "replayed" (spReplayed K) []) : BodyX P w K mg base N_answer_replay "answer_replay" s_answer_replay 2 (spOp A K 9) := by
  intro f cdv Ar outer s H vs Q E hr ⟨lab, r, src, dxr, ns, i, j, k, a, l, bs, c, ev, S, op, ar, qE, qN⟩
  subst ev
  cases k with
  | replay x seq evs =>
    obtain ⟨h0, zs, es, m, hrow, hrow2, rfl, rfl⟩ := ar
    obtain ⟨n, hn, hle, hzs, rfl, hpos⟩ := row_read hrow
    obtain ⟨n2, hn2, hle2, hes, rfl, hpos2⟩ := row_read hrow2
    have nd := sc_answer_replay.nd
    refine ⟨_, (pss_cons (ps_set (i := 2) nd rfl (Or.inl rfl) (C8.pe_mt0 m_take_number hr (by decide) (pv 1)))
      (pss_cons (ps_set (i := 3) nd rfl (Or.inl rfl) (C8.pe_mt0 m_take_row hr (by decide) (pv 1)))
      (pss_cons (ps_set (i := 4) nd rfl (Or.inl rfl) (C8.pe_mt0 m_take_row hr (by decide) (pv 1)))
      (pss_cons (ps_expr (pe_cX c_check_capacity hr (by decide) rfl (takes_of rfl rfl rfl rfl) (pa_cons (pv 2) pa_nil)))
      (pss_cons (ps_expr (pe_cX c_check_sequence hr (by decide) rfl (takes_of rfl rfl rfl rfl) (pa_cons (pv 3) pa_nil)))
      (pss_cons (ps_expr (pe_cX c_check_sequence hr (by decide) rfl (takes_of rfl rfl rfl rfl) (pa_cons (pv 4) pa_nil)))
      (pss_one (ps_ret (C8.pe_c c_replayed hr (by decide) rfl (pa_cons (pv 2) (pa_cons (pv 3) (pa_cons (pv 4) pa_nil)))))))))))), ?_⟩
    have S1 := S.move (i + 1)
    refine ⟨_, rfl, r, dxr, _, rfl, S.rd, rF_none src i, r, src, dxr, i, ns, x, rfl, S.rd, S.sr.sq, h0, ?_⟩
    refine ⟨_, rfl, r, dxr, _, rfl, S1.rd, rF_none src _, r, src, dxr, i + 1, n, ns, rfl, S1.rd, S1.sr, hn, hle, fun p hp => ?_⟩
    rw [upd_upd]
    replace hp : upd H r (.ins A.CR dxr (rF src (i + 1 + 1 + n))) p = none := upd_swap hp
    rw [← hzs]
    have s3 := same_new (o := .lst (zs.map V.int)) hp
    have S3 := (S.move (i + 1 + 1 + n)).same s3
    have pr : p ≠ r := fun z => by rw [z, upd_same] at hp; cases hp
    refine ⟨_, rfl, r, dxr, _, rfl, S3.rd, rF_none src _, r, src, dxr, i + 1 + 1 + n, n2, ns, rfl, S3.rd, S3.sr, hn2, hle2, fun p2 hp2 => ?_⟩
    rw [← hes]
    have s5 := same_move (o' := .ins A.CR dxr (rF src (i + 1 + 1 + n + 1 + n2))) s3
    have hp3 : (upd (upd (upd H r (.ins A.CR dxr (rF src (i + 1 + 1 + n)))) p (.lst (zs.map V.int))) r (.ins A.CR dxr (rF src (i + 1 + 1 + n + 1 + n2)))) p2 = none := by
      have e2 := hp2
      have n2r : p2 ≠ r := fun z => by rw [z, S3.rd] at e2; cases e2
      rw [upd_ne n2r]
      exact e2
    have s6 := same_new (o := .lst (es.map V.int)) hp3
    have s56 := s5.trans s6
    have aM := after_move S (i + 1 + 1 + n + 1 + n2) s56
    have hz : (upd (upd (upd (upd H r (.ins A.CR dxr (rF src (i + 1 + 1 + n)))) p (.lst (zs.map V.int))) r (.ins A.CR dxr (rF src (i + 1 + 1 + n + 1 + n2)))) p2 (.lst (es.map V.int))) p = some (.lst (zs.map V.int)) :=
      s6 _ _ (by rw [upd_ne pr]; exact upd_same)
    have st : step c (.replay x (zs.map Int.toNat) (es.map Int.toNat)) = (c, if rng 0 6 x = false then .error (-1) else if Vakptc.validSequence (zs.map Int.toNat) = false then .error (-4) else if Vakptc.validSequence (es.map Int.toNat) = false then .error (-4) else
        match Vakptc.replay x.toNat (zs.map Int.toNat) (es.map Int.toNat) with
          | .ok misses => Vakptc.natural [1, misses]
          | .error position => Vakptc.natural [0, position]) := rfl
    rw [seqOk_valid hpos, seqOk_valid hpos2] at st
    refine ⟨_, rfl, x, rfl, fun c1 => ?_, fun c1 => ?_⟩
    · refine ⟨_, rfl, p, zs, rfl, .inl (.inl hz), fun c3 => ?_, fun c3 => ?_⟩
      · refine ⟨_, rfl, p2, es, rfl, .inl (.inl upd_same), fun c4 => ?_, fun c4 => ?_⟩
        · obtain ⟨cp, rfl, tn, ln⟩ := nat_of (Int.le_refl 0) c1
          obtain ⟨sk, sl⟩ := seq_keys c3
          have st2 : (step c (.replay (cp : Int) (zs.map Int.toNat) (es.map Int.toNat))) = (c, .numbers (repL (Vakptc.replay cp (zs.map Int.toNat) (es.map Int.toNat)))) := by
            rw [st, c1, c3, c4, if_neg (by decide), if_neg (by decide), if_neg (by decide), tn]
            cases Vakptc.replay cp (zs.map Int.toNat) (es.map Int.toNat) <;> rfl
          rw [st2] at qN
          refine ⟨_, rfl, _, rfl, _, rfl, cp, p, p2, zs.map Int.toNat, es.map Int.toNat, rfl, by rw [← ints_nats hpos]; exact .inl (.inl hz), by rw [← ints_nats hpos2]; exact .inl (.inl upd_same), by omega, sk, by omega, fun H4 y s4 hy hy4 => ?_⟩
          exact qN _ _ y rfl (after_move S _ (s56.trans s4)) (upd_live (s56.free hy)) hy4
        · refine qE (-4) _ ?_ aM
          rw [st, c1, c3, c4]
          rfl
      · refine qE (-4) _ ?_ aM
        rw [st, c1, c3]
        rfl
    · refine qE (-1) _ ?_ aM
      rw [st, c1]
      rfl
  | _ => exact absurd op (by simp [opNo])
/-! ### 10: phases -/
theorem b_op_phases (m_take_number : C8.Met P w K mg base 1 A.CR "take_number" (spTakeN K A.CR) []) (m_take_row : C8.Met P w K mg base 2 A.CR "take_row" (spTakeR K A.CR) [])
    (c_check_capacity : CalX P w K mg base 1 "check_capacity" (spChk 0 6 (A.err (-1)))) (c_check_some_capacity : CalX P w K mg base 1 "check_some_capacity" (spSome (A.err (-5)))) (c_check_sequence : CalX P w K mg base 2 "check_sequence" (spChkS K (A.err (-4))))
    (c_phase_starts : C8.Cal P w K mg base 1 "phase_starts" (spPhases K) []) (c_listed : C8.Cal P w K mg base 1 "listed" (spListed K) []) : BodyX P w K mg base N_answer_phases "answer_phases" s_answer_phases 2 (spOp A K 10) := by
  intro f cdv Ar outer s H vs Q E hr ⟨lab, r, src, dxr, ns, i, j, k, a, l, bs, c, ev, S, op, ar, qE, qN⟩
  subst ev
  cases k with
  | phases x seq =>
    obtain ⟨h0, zs, hrow, rfl⟩ := ar
    obtain ⟨n, hn, hle, hzs, rfl, hpos⟩ := row_read hrow
    have nd := sc_answer_phases.nd
    refine ⟨_, (pss_cons (ps_set (i := 2) nd rfl (Or.inl rfl) (C8.pe_mt0 m_take_number hr (by decide) (pv 1)))
      (pss_cons (ps_set (i := 3) nd rfl (Or.inl rfl) (C8.pe_mt0 m_take_row hr (by decide) (pv 1)))
      (pss_cons (ps_expr (pe_cX c_check_capacity hr (by decide) rfl (takes_of rfl rfl rfl rfl) (pa_cons (pv 2) pa_nil)))
      (pss_cons (ps_expr (pe_cX c_check_some_capacity hr (by decide) rfl (takes_of rfl rfl rfl rfl) (pa_cons (pv 2) pa_nil)))
      (pss_cons (ps_expr (pe_cX c_check_sequence hr (by decide) rfl (takes_of rfl rfl rfl rfl) (pa_cons (pv 3) pa_nil)))
      (pss_one (ps_ret (C8.pe_c c_listed hr (by decide) rfl (pa_cons (C8.pe_c c_phase_starts hr (by decide) rfl (pa_cons (pv 2) (pa_cons (pv 3) pa_nil))) pa_nil))))))))), ?_⟩
    have S1 := S.move (i + 1)
    refine ⟨_, rfl, r, dxr, _, rfl, S.rd, rF_none src i, r, src, dxr, i, ns, x, rfl, S.rd, S.sr.sq, h0, ?_⟩
    refine ⟨_, rfl, r, dxr, _, rfl, S1.rd, rF_none src _, r, src, dxr, i + 1, n, ns, rfl, S1.rd, S1.sr, hn, hle, fun p hp => ?_⟩
    rw [upd_upd]
    replace hp : upd H r (.ins A.CR dxr (rF src (i + 1 + 1 + n))) p = none := upd_swap hp
    rw [← hzs]
    have s3 := same_new (o := .lst (zs.map V.int)) hp
    have aM := after_move S (i + 1 + 1 + n) s3
    have st : step c (.phases x (zs.map Int.toNat)) = (c, if rng 0 6 x = false then .error (-1) else if x = 0 then .error (-5) else if Vakptc.validSequence (zs.map Int.toNat) = false then .error (-4) else
        Vakptc.natural (Vakptc.withLength (phaseStarts x.toNat (zs.map Int.toNat)))) := rfl
    rw [seqOk_valid hpos] at st
    refine ⟨_, rfl, x, rfl, fun c1 => ?_, fun c1 => ?_⟩
    · refine ⟨_, rfl, x, rfl, fun c2 => ?_, fun c2 => ?_⟩
      · refine ⟨_, rfl, p, zs, rfl, .inl (.inl upd_same), fun c3 => ?_, fun c3 => ?_⟩
        · obtain ⟨cp, rfl, tn, ln⟩ := nat_of (Int.le_refl 0) c1
          obtain ⟨sk, sl⟩ := seq_keys c3
          rw [c1, c3, if_neg (by decide), if_neg c2, if_neg (by decide), tn] at st
          rw [st] at qN
          have few : (phaseStarts cp (zs.map Int.toNat)).length ≤ (zs.map Int.toNat).length := ph_len _ _ _
          have big : (3000 : Nat) ≤ sizeLine := by decide
          refine ⟨_, rfl, _, rfl, cp, p, zs.map Int.toNat, rfl, by rw [← ints_nats hpos]; exact .inl (.inl upd_same), by omega, by omega, by omega, fun H4 t s4 nt ht => ?_⟩
          refine ⟨t, _, rfl, ht, by rw [intsN_len]; omega, fun H7 y s7 hy hy7 => ?_⟩
          refine qN _ _ y rfl (after_move S _ (s3.trans (s4.trans s7))) (upd_live (s3.free (s4.free hy))) ?_
          rw [hy7]
          unfold Vakptc.withLength
          rw [intsN_len, List.map_cons, List.map_cons, nats_V]
        · refine qE (-4) _ ?_ aM
          rw [st, c1, c3, if_neg (by decide), if_neg c2]
          rfl
      · refine qE (-5) _ ?_ aM
        rw [st, c1, c2]
        rfl
    · refine qE (-1) _ ?_ aM
      rw [st, c1]
      rfl
  | _ => exact absurd op (by simp [opNo])
end
end Lab

/-! The calls 11 to 13. -/
namespace Lab
open PySem PySem.Spec PyProof.Rows L2 LamX NdefX
open Vakptc (Cache contains cachedKeys emptyCache access accessAll Call Answer step optimalPlan missCount separatingSequence worstSequence anomalyLength)
theorem rng_nat {lo hi z : Int} (h0 : 0 ≤ lo) (h : rng lo hi z = true) : ∃ n : Nat, z = n ∧ z.toNat = n ∧ lo ≤ (n : Int) ∧ (n : Int) ≤ hi := by
  unfold rng at h
  rw [Bool.and_eq_true, decide_eq_true_eq, decide_eq_true_eq] at h
  exact ⟨z.toNat, by omega, rfl, by omega, by omega⟩
theorem nil_V {l : List Nat} {a b : Nat} : ((a :: b :: Vakptc.withLength l).map fun n : Nat => (n : Int)).map V.int = [V.int (a : Int), V.int (b : Int)] ++ (V.int ((intsN l).length : Int) :: intsN l) := by
  unfold Vakptc.withLength
  rw [intsN_len, List.map_cons, List.map_cons, List.map_cons, List.map_cons, List.map_cons, List.map_cons, nats_V]
  rfl
section
variable {P : Program} {w : World} {K : PySem.W.Frag} {mg : Str → Option Value} {base : Heap} {A : Ad}
/-! ### 11: separate -/
theorem b_op_separate (g : ∃ u, mg "MAX_BOUND_SEPARATE" = some u ∧ RelV (.int 4) u) (m_take_number : C8.Met P w K mg base 1 A.CR "take_number" (spTakeN K A.CR) [])
    (c_check_capacity : CalX P w K mg base 1 "check_capacity" (spChk 0 6 (A.err (-1)))) (c_check_policy : CalX P w K mg base 1 "check_policy" (spChk 0 4 (A.err (-2)))) (c_check_search : CalX P w K mg base 1 "check_search" (spSearch (A.err (-6))))
    (c_most_different : C8.Cal P w K mg base 10 "most_different" spDiff []) (c_listed : C8.Cal P w K mg base 1 "listed" (spListed K) []) : BodyX P w K mg base N_answer_separate "answer_separate" s_answer_separate 10 (spOp A K 11) := by
  intro f cdv Ar outer s H vs Q E hr ⟨lab, r, src, dxr, ns, i, j, k, a, l, bs, c, ev, S, op, ar, qE, qN⟩
  subst ev
  cases k with
  | separate z1 z2 z3 z4 z5 =>
    obtain ⟨h0, h1, h2, h3, h4, rfl⟩ := ar
    have nd := sc_answer_separate.nd
    refine ⟨_, (pss_cons (ps_set (i := 2) nd rfl (Or.inl rfl) (C8.pe_mt0 m_take_number hr (by decide) (pv 1)))
      (pss_cons (ps_set (i := 3) nd rfl (Or.inl rfl) (C8.pe_mt0 m_take_number hr (by decide) (pv 1)))
      (pss_cons (ps_set (i := 4) nd rfl (Or.inl rfl) (C8.pe_mt0 m_take_number hr (by decide) (pv 1)))
      (pss_cons (ps_set (i := 5) nd rfl (Or.inl rfl) (C8.pe_mt0 m_take_number hr (by decide) (pv 1)))
      (pss_cons (ps_set (i := 6) nd rfl (Or.inl rfl) (C8.pe_mt0 m_take_number hr (by decide) (pv 1)))
      (pss_cons (ps_expr (pe_cX c_check_capacity hr (by decide) rfl (takes_of rfl rfl rfl rfl) (pa_cons (pv 4) pa_nil)))
      (pss_cons (ps_expr (pe_cX c_check_policy hr (by decide) rfl (takes_of rfl rfl rfl rfl) (pa_cons (pv 2) pa_nil)))
      (pss_cons (ps_expr (pe_cX c_check_policy hr (by decide) rfl (takes_of rfl rfl rfl rfl) (pa_cons (pv 3) pa_nil)))
      (pss_cons (ps_expr (pe_cX c_check_search hr (by decide) rfl (takes_of rfl rfl rfl rfl) (pa_cons (pv 5) (pa_cons (C8.pe_gc rfl g) (pa_cons (pv 6) pa_nil)))))
      (pss_cons (ps_set (i := 7) nd rfl (Or.inl rfl) (C8.pe_c c_most_different hr (by decide) rfl (pa_cons (pv 2) (pa_cons (pv 3) (pa_cons (pv 4) (pa_cons (pv 5) (pa_cons (pv 6) pa_nil)))))))
      (pss_one (ps_ret (pe_op op_cat (pe_lst (pa_cons (pe_ix ix_tup (pv 7) pe_int (fun _ _ => rfl)) (pa_cons (pe_ix ix_tup (pv 7) pe_int (fun _ _ => rfl)) pa_nil))) (C8.pe_c c_listed hr (by decide) rfl (pa_cons (pe_ix ix_tup (pv 7) pe_int (fun _ _ => rfl)) pa_nil))))))))))))))), ?_⟩
    have S1 := S.move (i + 1)
    have S2 := S.move (i + 2)
    have S3 := S.move (i + 3)
    have S4 := S.move (i + 4)
    refine ⟨_, rfl, r, dxr, _, rfl, S.rd, rF_none src i, r, src, dxr, i, ns, z1, rfl, S.rd, S.sr.sq, h0, ?_⟩
    refine ⟨_, rfl, r, dxr, _, rfl, S1.rd, rF_none src _, r, src, dxr, i + 1, ns, z2, rfl, S1.rd, S1.sr.sq, h1, ?_⟩
    rw [upd_upd]
    refine ⟨_, rfl, r, dxr, _, rfl, S2.rd, rF_none src _, r, src, dxr, i + 2, ns, z3, rfl, S2.rd, S2.sr.sq, h2, ?_⟩
    rw [upd_upd]
    refine ⟨_, rfl, r, dxr, _, rfl, S3.rd, rF_none src _, r, src, dxr, i + 3, ns, z4, rfl, S3.rd, S3.sr.sq, h3, ?_⟩
    rw [upd_upd]
    refine ⟨_, rfl, r, dxr, _, rfl, S4.rd, rF_none src _, r, src, dxr, i + 4, ns, z5, rfl, S4.rd, S4.sr.sq, h4, ?_⟩
    rw [upd_upd]
    have aM := after_move S (i + 5) (Same.refl _)
    have st : step c (.separate z1 z2 z3 z4 z5) = (c, if rng 0 6 z3 = false then .error (-1) else if rng 0 4 z1 = false ∨ rng 0 4 z2 = false then .error (-2) else if rng 1 4 z4 = false ∨ rng 0 6 z5 = false then .error (-6) else
        Vakptc.natural (missCount z1.toNat z3.toNat (separatingSequence z1.toNat z2.toNat z3.toNat z4.toNat z5.toNat) :: missCount z2.toNat z3.toNat (separatingSequence z1.toNat z2.toNat z3.toNat z4.toNat z5.toNat) :: Vakptc.withLength (separatingSequence z1.toNat z2.toNat z3.toNat z4.toNat z5.toNat))) := rfl
    refine ⟨_, rfl, z3, rfl, fun c1 => ?_, fun c1 => ?_⟩
    · refine ⟨_, rfl, z1, rfl, fun c2 => ?_, fun c2 => ?_⟩
      · refine ⟨_, rfl, z2, rfl, fun c3 => ?_, fun c3 => ?_⟩
        · refine ⟨_, rfl, _, rfl, z4, 4, z5, rfl, fun c4 c5 => ?_, fun c4 => ?_⟩
          · obtain ⟨cp, rfl, t3, _, l3⟩ := rng_nat (Int.le_refl 0) c1
            obtain ⟨p1, rfl, t1, _, l1⟩ := rng_nat (Int.le_refl 0) c2
            obtain ⟨p2, rfl, t2, _, l2⟩ := rng_nat (Int.le_refl 0) c3
            obtain ⟨b, rfl, t4, g4, l4⟩ := rng_nat (by decide) c4
            obtain ⟨n, rfl, t5, _, l5⟩ := rng_nat (Int.le_refl 0) c5
            rw [c1, c2, c3, c4, c5, if_neg (by decide), if_neg (by simp), if_neg (by simp), t1, t2, t3, t4, t5] at st
            rw [st] at qN
            refine ⟨_, rfl, _, rfl, _, rfl, _, rfl, _, rfl, p1, p2, cp, b, n, rfl, by omega, by omega, by omega, by omega, by omega, by omega, fun H4 t s4 o4 hlen => ?_⟩
            obtain ⟨le, w1, w2⟩ := o4
            have big : (3000 : Nat) ≤ sizeLine := by decide
            refine ⟨_, rfl, t, _, 0, _, rfl, rfl, .inl (.inl w1), at_of (j := 0) rfl rfl, _, rfl, t, _, 1, _, rfl, rfl, .inl (.inl w1), at_of (j := 1) rfl rfl, by show 2 ≤ sizeLine; decide, fun u hu => ?_⟩
            have s5 := same_new (o := .lst [V.int (missCount p1 cp (separatingSequence p1 p2 cp b n) : Nat), .int (missCount p2 cp (separatingSequence p1 p2 cp b n) : Nat)]) hu
            refine ⟨_, rfl, t, _, 2, _, rfl, rfl, .inl (.inl (s5 _ _ w1)), at_of (j := 2) rfl rfl, le, _, rfl, s5 _ _ w2, by rw [intsN_len]; omega, fun H7 v s7 hv hv7 => ?_⟩
            refine ⟨u, v, _, _, rfl, rfl, s7 _ _ upd_same, hv7, by
              rw [List.length_cons, List.length_cons, List.length_cons, intsN_len, List.length_nil]
              omega, fun y hy => ?_⟩
            have s8 := (s4.trans s5).trans (s7.trans (same_new (o := .lst ([V.int (missCount p1 cp (separatingSequence p1 p2 cp b n) : Nat), V.int (missCount p2 cp (separatingSequence p1 p2 cp b n) : Nat)] ++ (V.int ((intsN (separatingSequence p1 p2 cp b n)).length : Int) :: intsN (separatingSequence p1 p2 cp b n)))) hy))
            refine qN _ _ y rfl (after_move S _ s8) (upd_live (s4.free (s5.free (s7.free hy)))) ?_
            rw [upd_same, nil_V]
          · refine qE (-6) _ ?_ aM
            rw [st, c1, c2, c3, if_neg (by decide), if_neg (by simp), if_pos c4]
        · refine qE (-2) _ ?_ aM
          rw [st, c1, c3, if_neg (by decide), if_pos (.inr rfl)]
      · refine qE (-2) _ ?_ aM
        rw [st, c1, c2, if_neg (by decide), if_pos (.inl rfl)]
    · refine qE (-1) _ ?_ aM
      rw [st, c1]
      rfl
  | _ => exact absurd op (by simp [opNo])
/-! ### 12: worst -/
theorem b_op_worst (g : ∃ u, mg "MAX_BOUND_WORST" = some u ∧ RelV (.int 3) u) (m_take_number : C8.Met P w K mg base 1 A.CR "take_number" (spTakeN K A.CR) [])
    (c_check_capacity : CalX P w K mg base 1 "check_capacity" (spChk 0 6 (A.err (-1)))) (c_check_policy : CalX P w K mg base 1 "check_policy" (spChk 0 4 (A.err (-2)))) (c_check_search : CalX P w K mg base 1 "check_search" (spSearch (A.err (-6))))
    (c_farthest_from_minimum : C8.Cal P w K mg base 10 "farthest_from_minimum" spWorst []) (c_listed : C8.Cal P w K mg base 1 "listed" (spListed K) []) : BodyX P w K mg base N_answer_worst "answer_worst" s_answer_worst 10 (spOp A K 12) := by
  intro f cdv Ar outer s H vs Q E hr ⟨lab, r, src, dxr, ns, i, j, k, a, l, bs, c, ev, S, op, ar, qE, qN⟩
  subst ev
  cases k with
  | worst z1 z2 z3 z4 =>
    obtain ⟨h0, h1, h2, h3, rfl⟩ := ar
    have nd := sc_answer_worst.nd
    refine ⟨_, (pss_cons (ps_set (i := 2) nd rfl (Or.inl rfl) (C8.pe_mt0 m_take_number hr (by decide) (pv 1)))
      (pss_cons (ps_set (i := 3) nd rfl (Or.inl rfl) (C8.pe_mt0 m_take_number hr (by decide) (pv 1)))
      (pss_cons (ps_set (i := 4) nd rfl (Or.inl rfl) (C8.pe_mt0 m_take_number hr (by decide) (pv 1)))
      (pss_cons (ps_set (i := 5) nd rfl (Or.inl rfl) (C8.pe_mt0 m_take_number hr (by decide) (pv 1)))
      (pss_cons (ps_expr (pe_cX c_check_capacity hr (by decide) rfl (takes_of rfl rfl rfl rfl) (pa_cons (pv 3) pa_nil)))
      (pss_cons (ps_expr (pe_cX c_check_policy hr (by decide) rfl (takes_of rfl rfl rfl rfl) (pa_cons (pv 2) pa_nil)))
      (pss_cons (ps_expr (pe_cX c_check_search hr (by decide) rfl (takes_of rfl rfl rfl rfl) (pa_cons (pv 4) (pa_cons (C8.pe_gc rfl g) (pa_cons (pv 5) pa_nil)))))
      (pss_cons (ps_set (i := 6) nd rfl (Or.inl rfl) (C8.pe_c c_farthest_from_minimum hr (by decide) rfl (pa_cons (pv 2) (pa_cons (pv 3) (pa_cons (pv 4) (pa_cons (pv 5) pa_nil))))))
      (pss_one (ps_ret (pe_op op_cat (pe_lst (pa_cons (pe_ix ix_tup (pv 6) pe_int (fun _ _ => rfl)) (pa_cons (pe_ix ix_tup (pv 6) pe_int (fun _ _ => rfl)) pa_nil))) (C8.pe_c c_listed hr (by decide) rfl (pa_cons (pe_ix ix_tup (pv 6) pe_int (fun _ _ => rfl)) pa_nil))))))))))))), ?_⟩
    have S1 := S.move (i + 1)
    have S2 := S.move (i + 2)
    have S3 := S.move (i + 3)
    refine ⟨_, rfl, r, dxr, _, rfl, S.rd, rF_none src i, r, src, dxr, i, ns, z1, rfl, S.rd, S.sr.sq, h0, ?_⟩
    refine ⟨_, rfl, r, dxr, _, rfl, S1.rd, rF_none src _, r, src, dxr, i + 1, ns, z2, rfl, S1.rd, S1.sr.sq, h1, ?_⟩
    rw [upd_upd]
    refine ⟨_, rfl, r, dxr, _, rfl, S2.rd, rF_none src _, r, src, dxr, i + 2, ns, z3, rfl, S2.rd, S2.sr.sq, h2, ?_⟩
    rw [upd_upd]
    refine ⟨_, rfl, r, dxr, _, rfl, S3.rd, rF_none src _, r, src, dxr, i + 3, ns, z4, rfl, S3.rd, S3.sr.sq, h3, ?_⟩
    rw [upd_upd]
    have aM := after_move S (i + 4) (Same.refl _)
    have st : step c (.worst z1 z2 z3 z4) = (c, if rng 0 6 z2 = false then .error (-1) else if rng 0 4 z1 = false then .error (-2) else if rng 1 3 z3 = false ∨ rng 0 6 z4 = false then .error (-6) else
        Vakptc.natural (missCount z1.toNat z2.toNat (worstSequence z1.toNat z2.toNat z3.toNat z4.toNat) :: (optimalPlan z2.toNat (worstSequence z1.toNat z2.toNat z3.toNat z4.toNat)).misses :: Vakptc.withLength (worstSequence z1.toNat z2.toNat z3.toNat z4.toNat))) := rfl
    refine ⟨_, rfl, z2, rfl, fun c1 => ?_, fun c1 => ?_⟩
    · refine ⟨_, rfl, z1, rfl, fun c2 => ?_, fun c2 => ?_⟩
      · refine ⟨_, rfl, _, rfl, z3, 3, z4, rfl, fun c4 c5 => ?_, fun c4 => ?_⟩
        · obtain ⟨cp, rfl, t2, _, l2⟩ := rng_nat (Int.le_refl 0) c1
          obtain ⟨p1, rfl, t1, _, l1⟩ := rng_nat (Int.le_refl 0) c2
          obtain ⟨b, rfl, t3, g3, l3⟩ := rng_nat (by decide) c4
          obtain ⟨n, rfl, t4, _, l4⟩ := rng_nat (Int.le_refl 0) c5
          rw [c1, c2, c4, c5, if_neg (by decide), if_neg (by decide), if_neg (by simp), t1, t2, t3, t4] at st
          rw [st] at qN
          refine ⟨_, rfl, _, rfl, _, rfl, _, rfl, p1, cp, b, n, rfl, by omega, by omega, by omega, by omega, by omega, fun H4 t s4 o4 hlen => ?_⟩
          obtain ⟨le, w1, w2⟩ := o4
          have big : (3000 : Nat) ≤ sizeLine := by decide
          refine ⟨_, rfl, t, _, 0, _, rfl, rfl, .inl (.inl w1), at_of (j := 0) rfl rfl, _, rfl, t, _, 1, _, rfl, rfl, .inl (.inl w1), at_of (j := 1) rfl rfl, by show 2 ≤ sizeLine; decide, fun u hu => ?_⟩
          have s5 := same_new (o := .lst [V.int (missCount p1 cp (worstSequence p1 cp b n) : Nat), .int ((optimalPlan cp (worstSequence p1 cp b n)).misses : Nat)]) hu
          refine ⟨_, rfl, t, _, 2, _, rfl, rfl, .inl (.inl (s5 _ _ w1)), at_of (j := 2) rfl rfl, le, _, rfl, s5 _ _ w2, by rw [intsN_len]; omega, fun H7 v s7 hv hv7 => ?_⟩
          refine ⟨u, v, _, _, rfl, rfl, s7 _ _ upd_same, hv7, by
            rw [List.length_cons, List.length_cons, List.length_cons, intsN_len, List.length_nil]
            omega, fun y hy => ?_⟩
          have s8 := (s4.trans s5).trans (s7.trans (same_new (o := .lst ([V.int (missCount p1 cp (worstSequence p1 cp b n) : Nat), V.int ((optimalPlan cp (worstSequence p1 cp b n)).misses : Nat)] ++ (V.int ((intsN (worstSequence p1 cp b n)).length : Int) :: intsN (worstSequence p1 cp b n)))) hy))
          refine qN _ _ y rfl (after_move S _ s8) (upd_live (s4.free (s5.free (s7.free hy)))) ?_
          rw [upd_same, nil_V]
        · refine qE (-6) _ ?_ aM
          rw [st, c1, c2, if_neg (by decide), if_neg (by decide), if_pos c4]
      · refine qE (-2) _ ?_ aM
        rw [st, c1, c2]
        rfl
    · refine qE (-1) _ ?_ aM
      rw [st, c1]
      rfl
  | _ => exact absurd op (by simp [opNo])
/-! ### 13: anomaly -/
theorem b_op_anomaly (m_take_number : C8.Met P w K mg base 1 A.CR "take_number" (spTakeN K A.CR) []) (m_take_row : C8.Met P w K mg base 2 A.CR "take_row" (spTakeR K A.CR) [])
    (c_check_capacity : CalX P w K mg base 1 "check_capacity" (spChk 0 6 (A.err (-1)))) (c_check_policy : CalX P w K mg base 1 "check_policy" (spChk 0 4 (A.err (-2)))) (c_check_sequence : CalX P w K mg base 2 "check_sequence" (spChkS K (A.err (-4))))
    (c_shortest_anomaly : C8.Cal P w K mg base 8 "shortest_anomaly" (spAnomaly K) []) : BodyX P w K mg base N_answer_anomaly "answer_anomaly" s_answer_anomaly 8 (spOp A K 13) := by
  intro f cdv Ar outer s H vs Q E hr ⟨lab, r, src, dxr, ns, i, j, k, a, l, bs, c, ev, S, op, ar, qE, qN⟩
  subst ev
  cases k with
  | anomaly x y seq =>
    obtain ⟨h0, h1, zs, hrow, rfl⟩ := ar
    obtain ⟨n, hn, hle, hzs, rfl, hpos⟩ := row_read hrow
    have nd := sc_answer_anomaly.nd
    refine ⟨_, (pss_cons (ps_set (i := 2) nd rfl (Or.inl rfl) (C8.pe_mt0 m_take_number hr (by decide) (pv 1)))
      (pss_cons (ps_set (i := 3) nd rfl (Or.inl rfl) (C8.pe_mt0 m_take_number hr (by decide) (pv 1)))
      (pss_cons (ps_set (i := 4) nd rfl (Or.inl rfl) (C8.pe_mt0 m_take_row hr (by decide) (pv 1)))
      (pss_cons (ps_expr (pe_cX c_check_capacity hr (by decide) rfl (takes_of rfl rfl rfl rfl) (pa_cons (pv 3) pa_nil)))
      (pss_cons (ps_expr (pe_cX c_check_policy hr (by decide) rfl (takes_of rfl rfl rfl rfl) (pa_cons (pv 2) pa_nil)))
      (pss_cons (ps_expr (pe_cX c_check_sequence hr (by decide) rfl (takes_of rfl rfl rfl rfl) (pa_cons (pv 4) pa_nil)))
      (pss_one (ps_ret (C8.pe_c c_shortest_anomaly hr (by decide) rfl (pa_cons (pv 2) (pa_cons (pv 3) (pa_cons (pv 4) pa_nil)))))))))))), ?_⟩
    have S1 := S.move (i + 1)
    have S2 := S.move (i + 2)
    refine ⟨_, rfl, r, dxr, _, rfl, S.rd, rF_none src i, r, src, dxr, i, ns, x, rfl, S.rd, S.sr.sq, h0, ?_⟩
    refine ⟨_, rfl, r, dxr, _, rfl, S1.rd, rF_none src _, r, src, dxr, i + 1, ns, y, rfl, S1.rd, S1.sr.sq, h1, ?_⟩
    rw [upd_upd]
    refine ⟨_, rfl, r, dxr, _, rfl, S2.rd, rF_none src _, r, src, dxr, i + 2, n, ns, rfl, S2.rd, S2.sr, hn, hle, fun p hp => ?_⟩
    rw [upd_upd]
    replace hp : upd H r (.ins A.CR dxr (rF src (i + 2 + 1 + n))) p = none := upd_swap hp
    rw [← hzs]
    have s3 := same_new (o := .lst (zs.map V.int)) hp
    have aM := after_move S (i + 2 + 1 + n) s3
    have st : step c (.anomaly x y (zs.map Int.toNat)) = (c, if rng 0 6 y = false then .error (-1) else if rng 0 4 x = false then .error (-2) else if Vakptc.validSequence (zs.map Int.toNat) = false then .error (-4) else
        match anomalyLength x.toNat y.toNat (zs.map Int.toNat) with
          | none => Vakptc.natural [0]
          | some length => Vakptc.natural [1, length, missCount x.toNat y.toNat ((zs.map Int.toNat).take length), missCount x.toNat (y.toNat + 1) ((zs.map Int.toNat).take length)]) := rfl
    rw [seqOk_valid hpos] at st
    refine ⟨_, rfl, y, rfl, fun c1 => ?_, fun c1 => ?_⟩
    · refine ⟨_, rfl, x, rfl, fun c2 => ?_, fun c2 => ?_⟩
      · refine ⟨_, rfl, p, zs, rfl, .inl (.inl upd_same), fun c3 => ?_, fun c3 => ?_⟩
        · obtain ⟨cp, rfl, tn, ln⟩ := nat_of (Int.le_refl 0) c1
          obtain ⟨pl, rfl, tm, lm⟩ := nat_of (Int.le_refl 0) c2
          obtain ⟨sk, sl⟩ := seq_keys c3
          have st2 : step c (.anomaly (pl : Int) (cp : Int) (zs.map Int.toNat)) = (c, .numbers (anoL pl cp (zs.map Int.toNat))) := by
            rw [st, c1, c2, c3, if_neg (by decide), if_neg (by decide), if_neg (by decide), tn, tm]
            unfold anoL
            cases anomalyLength pl cp (zs.map Int.toNat) <;> rfl
          rw [st2] at qN
          refine ⟨_, rfl, _, rfl, _, rfl, pl, cp, p, zs.map Int.toNat, rfl, by rw [← ints_nats hpos]; exact .inl (.inl upd_same), by omega, by omega, by omega, fun H4 t s4 nt ht => ?_⟩
          exact qN _ _ t rfl (after_move S _ (s3.trans s4)) (upd_live (s3.free nt)) ht
        · refine qE (-4) _ ?_ aM
          rw [st, c1, c2, c3]
          rfl
      · refine qE (-2) _ ?_ aM
        rw [st, c1, c2]
        rfl
    · refine qE (-1) _ ?_ aM
      rw [st, c1]
      rfl
  | _ => exact absurd op (by simp [opNo])
end
end Lab

/-! One call, whatever it is: the table of the operations, the six errors. -/
namespace Lab
open PySem PySem.Spec PyProof.Rows L2 LamX NdefX
open Vakptc (Cache contains cachedKeys emptyCache access accessAll Call Answer step)
/-- an error leaves the cache as it is; its code is one of six -/
theorem step_error {c : Cache} {k : Call} {code : Int} (h : (step c k).2 = .error code) : (step c k).1 = c ∧ (code = -1 ∨ code = -2 ∨ code = -3 ∨ code = -4 ∨ code = -5 ∨ code = -6) := by
  cases k <;> simp only [Vakptc.step, Vakptc.onPolicy, Vakptc.onSequence, Vakptc.natural] at h ⊢ <;> (repeat' split at h) <;> (repeat' split) <;> simp_all <;> omega
section
variable {P : Program} {w : World} {K : PySem.W.Frag} {mg : Str → Option Value} {base : Heap} {A : Ad}
theorem After.then {H H1 H2 : Hp} {lab r src dxr : Addr} {ns : List Int} {j : Nat} {a l : Addr} {bs : List Addr} {c : Cache} (x : After A K H H1 lab r src dxr ns j a l bs c) (s : Same H1 H2) : After A K H H2 lab r src dxr ns j a l bs c :=
  ⟨let ⟨a', l', bs', S, g⟩ := x.ex; ⟨a', l', bs', S.same s, g⟩, ⟨fun b o e n => s _ _ (x.ou.1 b o e n), fun b n => x.ou.2 b (s.free n)⟩⟩
theorem After.back {H H1 : Hp} {lab r src dxr : Addr} {ns : List Int} {i j : Nat} {a l : Addr} {bs : List Addr} {c : Cache} (x : After A K (upd H r (.ins A.CR dxr (rF src i))) H1 lab r src dxr ns j a l bs c) : After A K H H1 lab r src dxr ns j a l bs c :=
  ⟨let ⟨a', l', bs', S, g⟩ := x.ex; ⟨a', l', bs', S, fun b hb => (g b hb).elim .inl fun n => .inr (upd_live n)⟩,
    ⟨fun b o e n => x.ou.1 b o (by rw [upd_ne (fun z => n (by rw [z]; exact List.mem_cons_of_mem _ (List.mem_cons_of_mem _ List.mem_cons_self)))]; exact e) n, fun b n => upd_live (x.ou.2 b n)⟩⟩
/-- the table of the operations -/
def TblO (A : Ad) (K : PySem.W.Frag) (L : List (Int × Addr)) (f : Addr) (sp : Sp) : Prop := ∃ op : Int, L.lookup op = some f ∧ sp = spOp A K op
structure TxtC (K : PySem.W.Frag) (mg : Str → Option Value) (A : Ad) (dO : Addr) (L : List (Int × Addr)) : Prop where
  g : mg "OPERATIONS" = some (.ref dO)
  d : IDict K dO L
  all : ∀ k : Call, ∃ f, L.lookup (opNo k) = some f
  g1 : mg "CapacityRefused" = some (.ref (A.err (-1)))
  g2 : mg "PolicyRefused" = some (.ref (A.err (-2)))
  g3 : mg "KeyRefused" = some (.ref (A.err (-3)))
  g4 : mg "SequenceRefused" = some (.ref (A.err (-4)))
  g5 : mg "NoCapacityRefused" = some (.ref (A.err (-5)))
  g6 : mg "SearchRefused" = some (.ref (A.err (-6)))
  ex : ∀ i j : Int, -6 ≤ i → i ≤ -1 → -6 ≤ j → j ≤ -1 → PySem.W.exmOne K (.ref (A.err i)) (.ref (A.err j)) = some (decide (i = j))
theorem b_answer_call {dO : Addr} {L : List (Int × Addr)} (T : TxtC K mg A dO L) (tb : ∀ f sp, TblO A K L f sp → HeldX P w K mg base 11 f sp) (m_take_number : C8.Met P w K mg base 1 A.CR "take_number" (spTakeN K A.CR) []) :
    Body0 P w K mg base N_answer_call "answer_call" s_answer_call 29 (spCall A K) := by
  intro f cdv Ar outer s H vs Q E hr ⟨lab, r, src, dxr, ns, i, j, k, a, l, bs, c, ev, S, hop, ar, q⟩
  subst ev
  have nd := sc_answer_call.nd
  refine ⟨_, (pss_cons (ps_set (i := 2) nd rfl (Or.inl rfl) (pe_ix ix_idict (pe_glob (v := .ref dO) rfl T.g rfl) (C8.pe_mt0 m_take_number hr (by decide) (pv 1)) (fun _ _ => rfl)))
    (pss_one (ps_try_many (Wout := fun _ _ _ _ => False) rfl rfl takes_none5
      (fun W pn xe tk _ => pss_one (ps_ret (pe_callT (i := 2) tb (hr.mono (by decide)) tk rfl (.inl rfl) (pa_cons (pv 0) (pa_cons (pv 1) pa_nil)))))
      (.cons ⟨rfl, by decide, .inl T.g1⟩ (fun _ _ _ _ _ _ _ => pss_one (ps_ret (pe_lst (pa_cons (pe_un un_neg pe_int) pa_nil))))
      (.cons ⟨rfl, by decide, .inl T.g2⟩ (fun _ _ _ _ _ _ _ => pss_one (ps_ret (pe_lst (pa_cons (pe_un un_neg pe_int) pa_nil))))
      (.cons ⟨rfl, by decide, .inl T.g3⟩ (fun _ _ _ _ _ _ _ => pss_one (ps_ret (pe_lst (pa_cons (pe_un un_neg pe_int) pa_nil))))
      (.cons ⟨rfl, by decide, .inl T.g4⟩ (fun _ _ _ _ _ _ _ => pss_one (ps_ret (pe_lst (pa_cons (pe_un un_neg pe_int) pa_nil))))
      (.cons ⟨rfl, by decide, .inl T.g5⟩ (fun _ _ _ _ _ _ _ => pss_one (ps_ret (pe_lst (pa_cons (pe_un un_neg pe_int) pa_nil))))
      (.cons ⟨rfl, by decide, .inl T.g6⟩ (fun _ _ _ _ _ _ _ => pss_one (ps_ret (pe_lst (pa_cons (pe_un un_neg pe_int) pa_nil))))
      .nil)))))))) ), ?_⟩
  obtain ⟨g, hg⟩ := T.all k
  refine ⟨_, rfl, r, dxr, _, rfl, S.rd, rF_none src i, r, src, dxr, i, ns, opNo k, rfl, S.rd, S.sr.sq, hop, dO, opNo k, L, g, rfl, rfl, T.d, hg, ?_⟩
  refine ⟨g, _, rfl, ⟨opNo k, hg, rfl⟩, _, rfl, _, rfl, lab, r, src, dxr, ns, i + 1, j, k, a, l, bs, c, rfl, S.move (i + 1), rfl, ar, fun code H' he af => ?_, fun vals H' p he af hp hp' => ?_⟩
  · obtain ⟨e1, e2⟩ := step_error he
    rw [e1, he] at q
    have fin : ∀ p, H' p = none → Q (.ref p) (upd H' p (.lst [V.int code])) := fun p hp => q _ p (af.back.then (same_new hp)) (upd_live (af.ou.2 p hp)) upd_same
    have small : 1 ≤ sizeLine := by decide
    have no : ∀ {b : Bool} {X : Prop}, b = false → b = true → X := fun h1 h2 => by rw [h1] at h2; cases h2
    have ye : ∀ {b : Bool} {X : Prop}, b = true → b = false → X := fun h1 h2 => by rw [h1] at h2; cases h2
    rcases e2 with rfl | rfl | rfl | rfl | rfl | rfl
    · exact ⟨_, T.ex _ _ (by decide) (by decide) (by decide) (by decide), fun _ _ _ => ⟨1, rfl, small, fin⟩, ye (by decide)⟩
    · exact ⟨_, T.ex _ _ (by decide) (by decide) (by decide) (by decide), no (by decide), fun _ => ⟨_, T.ex _ _ (by decide) (by decide) (by decide) (by decide), fun _ _ _ => ⟨2, rfl, small, fin⟩, ye (by decide)⟩⟩
    · exact ⟨_, T.ex _ _ (by decide) (by decide) (by decide) (by decide), no (by decide), fun _ => ⟨_, T.ex _ _ (by decide) (by decide) (by decide) (by decide), no (by decide), fun _ => ⟨_, T.ex _ _ (by decide) (by decide) (by decide) (by decide), fun _ _ _ => ⟨3, rfl, small, fin⟩, ye (by decide)⟩⟩⟩
    · exact ⟨_, T.ex _ _ (by decide) (by decide) (by decide) (by decide), no (by decide), fun _ => ⟨_, T.ex _ _ (by decide) (by decide) (by decide) (by decide), no (by decide), fun _ => ⟨_, T.ex _ _ (by decide) (by decide) (by decide) (by decide), no (by decide), fun _ => ⟨_, T.ex _ _ (by decide) (by decide) (by decide) (by decide), fun _ _ _ => ⟨4, rfl, small, fin⟩, ye (by decide)⟩⟩⟩⟩
    · exact ⟨_, T.ex _ _ (by decide) (by decide) (by decide) (by decide), no (by decide), fun _ => ⟨_, T.ex _ _ (by decide) (by decide) (by decide) (by decide), no (by decide), fun _ => ⟨_, T.ex _ _ (by decide) (by decide) (by decide) (by decide), no (by decide), fun _ => ⟨_, T.ex _ _ (by decide) (by decide) (by decide) (by decide), no (by decide), fun _ => ⟨_, T.ex _ _ (by decide) (by decide) (by decide) (by decide), fun _ _ _ => ⟨5, rfl, small, fin⟩, ye (by decide)⟩⟩⟩⟩⟩
    · exact ⟨_, T.ex _ _ (by decide) (by decide) (by decide) (by decide), no (by decide), fun _ => ⟨_, T.ex _ _ (by decide) (by decide) (by decide) (by decide), no (by decide), fun _ => ⟨_, T.ex _ _ (by decide) (by decide) (by decide) (by decide), no (by decide), fun _ => ⟨_, T.ex _ _ (by decide) (by decide) (by decide) (by decide), no (by decide), fun _ => ⟨_, T.ex _ _ (by decide) (by decide) (by decide) (by decide), no (by decide), fun _ => ⟨_, T.ex _ _ (by decide) (by decide) (by decide) (by decide), fun _ _ _ => ⟨6, rfl, small, fin⟩, ye (by decide)⟩⟩⟩⟩⟩⟩
  · rw [he] at q
    exact q H' p af.back (upd_live hp) hp'
end
end Lab

/-! The end of a row whose program makes functions: the tables of the code objects are tracked from the call on. -/
namespace Lab
open PySem PySem.Spec PyProof.Rows L2 LamX
open PySem.W (WData Codec OpenSpec WellAll ReadsW)
/-! ### what is tracked when the row's def is called -/
/-- the tables of the code objects cs stand empty, and nobody has written them out -/
structure TabsOk (K : PySem.W.Frag) (h : Heap) (cs : List (Addr × Addr)) : Prop where
  here : ∀ p ∈ cs, h.get? p.2 = some ⟨.none, none, .fields #[], #[]⟩
  free : ∀ p ∈ cs, K.lookup p.2 = none
  code : ∀ p ∈ cs, PySem.W.CodeHd h p.1 p.2
def tabsOf (cs : List (Addr × Addr)) : List Addr := cs.map Prod.snd
/-- G, and the empty tables at T -/
def withT (T : List Addr) (G : Hp) : Hp := fun b => if b ∈ T then some (.tbl #[]) else G b
/-- data that is neither a list's, a tuple's nor an empty table's -/
def Apt (d : Data) : Prop := (∀ us m, d ≠ .seq us m) ∧ d ≠ .fields #[]
/-- handed in or a table, no more -/
def OnlyT (H : Hp) : Prop := ∀ b, H b = none ∨ (∃ o u, H b = some (.frz o u)) ∨ ∃ ps, H b = some (.tbl ps)
section
variable {T : List Addr} {G : Hp} {b : Addr} {u : HO}
theorem withT_in (m : b ∈ T) : withT T G b = some (.tbl #[]) := if_pos m
theorem withT_off (m : b ∉ T) : withT T G b = G b := if_neg m
theorem withT_cases (e : withT T G b = some u) : (b ∈ T ∧ u = .tbl #[]) ∨ (b ∉ T ∧ G b = some u) := by
  by_cases m : b ∈ T
  · exact .inl ⟨m, Option.some.inj ((withT_in m).symm.trans e).symm⟩
  · exact .inr ⟨m, (withT_off m).symm.trans e⟩
theorem withT_only (g : OnlyF G) : OnlyT (withT T G) := fun b => by
  by_cases m : b ∈ T
  · exact .inr (.inr ⟨_, withT_in m⟩)
  · rw [withT_off m]
    exact (g b).imp_right .inl
end
theorem tab_mem {cs : List (Addr × Addr)} {p : Addr × Addr} (m : p ∈ cs) : p.2 ∈ tabsOf cs := List.mem_map_of_mem m
theorem mem_tab {cs : List (Addr × Addr)} {b : Addr} (m : b ∈ tabsOf cs) : ∃ p ∈ cs, p.2 = b := List.mem_map.mp m
/-! ### an answer stands where more is tracked -/
section
variable {K : PySem.W.Frag} {H H' : Hp}
theorem seqL_more (k : ∀ b u, H b = some u → H' b = some u) {a : Addr} {xs : List V} (s : SqL K H a xs) : SqL K H' a xs :=
  s.imp_left fun s => s.elim (fun e => .inl (k _ _ e)) fun ⟨o, e⟩ => .inr ⟨o, k _ _ e⟩
theorem seqT_more (k : ∀ b u, H b = some u → H' b = some u) {a : Addr} {xs : List V} (s : SqT K H a xs) : SqT K H' a xs :=
  s.imp_left fun s => s.elim (fun e => .inl (k _ _ e)) fun ⟨o, e⟩ => .inr ⟨o, k _ _ e⟩
mutual
theorem dw_more (k : ∀ b u, H b = some u → H' b = some u) : ∀ (d : WData) (v : V), Dw K H v d → Dw K H' v d
  | .none, _, x => by cases x; exact .non
  | .bool b, _, x => by cases x; exact .bl b
  | .int i, _, x => by cases x; exact .int i
  | .str s, _, x => by cases x; exact .str s
  | .bytes l, _, x => by cases x; exact .byt _
  | .list ds, _, x => by
    cases x with
    | lst s r => exact .lst (seqL_more k s) (dw_mores k ds _ r)
  | .tuple ds, _, x => by
    cases x with
    | tup s r => exact .tup (seqT_more k s) (dw_mores k ds _ r)
  | .float _, _, x => by cases x
  | .dict _, _, x => by cases x
  | .bytearray _, _, x => by cases x
  | .set _, _, x => by cases x
  | .frozenset _, _, x => by cases x
  | .obj _ _, _, x => by cases x
theorem dw_mores (k : ∀ b u, H b = some u → H' b = some u) : ∀ (ds : List WData) (vs : List V), DwAll K H vs ds → DwAll K H' vs ds
  | [], _, x => by cases x; exact .nil
  | d :: ds, _, x => by
    cases x with
    | cons y r => exact .cons (dw_more k d _ y) (dw_mores k ds _ r)
end
end
/-! ### the heap at the call -/
section
variable {P : Program} {w : World} {K : PySem.W.Frag} {mg : Str → Option Value} {h : Heap} {cs : List (Addr × Addr)} {A : List Addr} {b : Addr}
theorem TabsOk.at_ (t : TabsOk K h cs) (m : b ∈ tabsOf cs) : h.get? b = some ⟨.none, none, .fields #[], #[]⟩ ∧ K.lookup b = none := by
  obtain ⟨p, hp, rfl⟩ := mem_tab m
  exact ⟨t.here p hp, t.free p hp⟩
/-- what is handed in lies as a sequence -/
theorem arg_seq (ar : ∀ a ∈ A, ArgOb h A a) {u : HO} (e : argH K h A b = some u) : K.lookup b = none ∧ ∃ (o : Obj) (us : Array Value) (m : Nat), h.get? b = some o ∧ o.data = .seq us m := by
  obtain ⟨n, us, _, _, z⟩ := argH_is ar e
  exact ⟨n, z.elim (fun z => ⟨_, _, _, z.1, rfl⟩) fun z => ⟨_, _, _, z.1, rfl⟩⟩
theorem arg_off (t : TabsOk K h cs) (ar : ∀ a ∈ A, ArgOb h A a) {u : HO} (e : argH K h A b = some u) : b ∉ tabsOf cs := fun m => by
  obtain ⟨_, o, us, n, z, d⟩ := arg_seq ar e
  rw [(t.at_ m).1] at z
  rw [← Option.some.inj z] at d
  cases d
theorem with_more (t : TabsOk K h cs) (ar : ∀ a ∈ A, ArgOb h A a) (b : Addr) (u : HO) (e : argH K h A b = some u) : withT (tabsOf cs) (argH K h A) b = some u := (withT_off (arg_off t ar e)).trans e
theorem with_ok (t : TabsOk K h cs) (ar : ∀ a ∈ A, ArgOb h A a) : HOk P w (withT (tabsOf cs) (argH K h A)) h := fun b u e => by
  rcases withT_cases e with ⟨m, rfl⟩ | ⟨_, e⟩
  · exact (t.at_ m).1
  · obtain ⟨_, us, n, ok, ⟨z, rfl⟩ | ⟨z, rfl⟩⟩ := argH_is ar e
    · exact ⟨z, Nat.le_trans (Nat.le_of_eq (List.length_map ..)) n, us, _, vals_toV ok, z⟩
    · exact ⟨z, Nat.le_trans (Nat.le_of_eq (List.length_map ..)) n, us, vals_toV ok, _, z, rfl, _, rfl⟩
/-- no object of another kind is tracked -/
theorem with_none (t : TabsOk K h cs) (ar : ∀ a ∈ A, ArgOb h A a) {o : Obj} (e : h.get? b = some o) (d : Apt o.data) : withT (tabsOf cs) (argH K h A) b = none := by
  cases q : withT (tabsOf cs) (argH K h A) b with
  | none => rfl
  | some u =>
    exfalso
    rcases withT_cases q with ⟨m, _⟩ | ⟨_, z⟩
    · rw [(t.at_ m).1] at e
      exact d.2 (congrArg Obj.data (Option.some.inj e)).symm
    · obtain ⟨_, o', us, n, z, y⟩ := arg_seq ar z
      rw [e] at z
      rw [← Option.some.inj z] at y
      exact d.1 _ _ y
theorem with_noK (t : TabsOk K h cs) (ar : ∀ a ∈ A, ArgOb h A a) {o : Obj} (e : K.lookup b = some o) : withT (tabsOf cs) (argH K h A) b = none := by
  cases q : withT (tabsOf cs) (argH K h A) b with
  | none => rfl
  | some u =>
    have z : K.lookup b = none := (withT_cases q).elim (fun z => (t.at_ z.1).2) fun z => (arg_seq ar z.2).1
    rw [z] at e
    cases e
theorem apt_dict {es : Array DictEntry} {ep : Nat} : Apt (.dict es ep) := ⟨(fun _ _ z => nomatch z), (fun z => nomatch z)⟩
theorem apt_plain : Apt .plain := ⟨(fun _ _ z => nomatch z), (fun z => nomatch z)⟩
/-- the ground: all but what is tracked -/
abbrev grd (K : PySem.W.Frag) (h : Heap) (cs : List (Addr × Addr)) (A : List Addr) : Heap := hidT h (withT (tabsOf cs) (argH K h A))
theorem grd_at (t : TabsOk K h cs) (ar : ∀ a ∈ A, ArgOb h A a) {o : Obj} (e : h.get? b = some o) (d : Apt o.data) : (grd K h cs A).get? b = some o := hidT_get e (with_none t ar e d)
theorem grd_K (t : TabsOk K h cs) (ar : ∀ a ∈ A, ArgOb h A a) (KX : K.In h) : K.In (grd K h cs A) := fun _ _ e => hidT_get (KX _ _ e) (with_noK t ar e)
theorem grd_ns (t : TabsOk K h cs) (ar : ∀ a ∈ A, ArgOb h A a) {m : Str → Option Value} (n : h.Ns b m) : (grd K h cs A).Ns b m :=
  let ⟨o, es, ep, e, d, r⟩ := n
  ⟨o, es, ep, grd_at t ar e (by rw [d]; exact apt_dict), d, r⟩
/-- the module of the builtins, as the top's ground tells it -/
abbrev BmAt (h : Heap) (mg : Str → Option Value) : Prop := ∃ (bm : Addr) (ob : Obj), mg "__builtins__" = some (.ref bm) ∧ bm ≠ builtinsNs ∧ h.get? bm = some ob ∧ ob.cls = .type "module" ∧ ob.dict = some builtinsNs ∧ ob.data = .plain
theorem grd_tab (t : TabsOk K h cs) (ar : ∀ a ∈ A, ArgOb h A a) (ns : h.Ns mainGlobals mg) (B : BmAt h mg) {p : Addr × Addr} (hp : p ∈ cs) : TabB (grd K h cs A) mg p.1 p.2 := by
  have e2 := t.here p hp
  obtain ⟨og, es, ep, eg, dg, _⟩ := ns
  obtain ⟨bm, ob, b1, b2, b3, b4, b5, b6⟩ := B
  refine ⟨?_, ⟨bm, ob, b1, b2, ?_, ?_, grd_at t ar b3 (by rw [b6]; exact apt_plain), b4, b5, b6⟩, ?_⟩
  · obtain ⟨o, us, file, tf, flags, tg, inF, text, tt, c1, c2, c3, c4⟩ := t.code p hp
    refine ⟨o, us, file, tf, flags, tg, inF, text, tt, grd_at t ar c1 ?_, c2, c3, c4⟩
    rw [c3]
    refine ⟨(fun _ _ z => nomatch z), fun z => ?_⟩
    injection z with z
    rw [z] at c4
    exact absurd c4.1 (by simp)
  · rintro rfl
    rw [b3] at eg
    rw [Option.some.inj eg, dg] at b6
    cases b6
  · rintro rfl
    rw [e2] at b3
    rw [← Option.some.inj b3] at b6
    cases b6
  · intro z
    rw [← z, eg] at e2
    rw [Option.some.inj e2] at dg
    cases dg
end
/-! ### the call -/
section
variable {P : Program} {w : World} {K : PySem.W.Frag} {mg mb : Str → Option Value} {CX : CXT} {k : Nat} {fa : Addr} {fd : FuncData} {ps : List Str} {sp : Sp} {s : Shared} {vals : List Value} {ds : List WData} {R : PySem.W.WRecords} {cl : Str → Option Addr} {d0 : WData} {cs : List (Addr × Addr)}
/-- the row's def called on what is handed in: the def's promise gives the answer, and nothing old has changed but that the tables may have grown -/
theorem call_T (KX : K.In s.heap) (T : TabsOk K s.heap cs) (n1 : s.heap.Ns mainGlobals mg) (n2 : s.heap.Ns builtinsNs mb) (n3 : ∀ x : Str, x ≠ "__name__" → mb x = bootBuiltins x) (n4 : s.heap.NoLimit) (B : BmAt s.heap mg) (g0 : s.gens = #[])
    (well : WellAll w.params s.heap vals ds) (pl : plWs ds = true) (light : ∀ d ∈ ds, d.weight ≤ 1048576) (room : Room k callerA) (n : ds.length = ps.length)
    (F : ∀ base : Heap, K.In base → base.Ns mainGlobals mg → (∀ p ∈ cs, TabB base mg p.1 p.2) → FnOk P w K mg base CX k fa fd ps sp)
    (bi : ∀ (s : Shared) (us : List Value), us.length = ps.length → BindsTo s fd ⟨us, []⟩ (ps.zip us))
    (pr : ∀ (H : Hp) (xs : List V), OnlyT H → (∀ p ∈ cs, H p.2 = some (.tbl #[])) → DwAll K H xs ds → sp xs H (fun v H1 => Dw K H1 v d0) fun _ _ _ => False)
    (nx : ∀ H e s', CX [] H s (fun _ _ _ => False) e s' → False) :
    codeAny (model P w) callerA (.call (.ref fa) ⟨vals, []⟩) (fun r s' => ∃ u as, r = .ok (.ret u) ∧ ReadsW R cl s'.heap u d0 as ∧ OldK s.heap s'.heap ∧ s'.os = s.os ∧ AllBare s'.gens) s := by
  obtain ⟨A, ok, ar⟩ := area_all ds vals well pl light
  have hk : HOk P w (withT (tabsOf cs) (argH K s.heap A)) s.heap := with_ok T ar
  have md : Mod K mg (grd K s.heap cs A) := by
    obtain ⟨mc, c1, c2⟩ := n4
    exact ⟨grd_K T ar KX, grd_ns T ar n1, ⟨mb, grd_ns T ar n2, n3⟩, mc, grd_ns T ar c1, c2⟩
  have env : Env0 P w K mg (grd K s.heap cs A) callerA [] s (withT (tabsOf cs) (argH K s.heap A)) := by
    refine ⟨rfl, md, fun _ _ e => of_hidT e, Nat.le_of_eq (hidT_size ..), trivial, ?_, hk, .of_eq g0⟩
    exact fun b m => nomatch (show b ∈ ([] : List Addr) from m)
  have promise := pr _ _ (withT_only (argH_only ar)) (fun p hp => withT_in (tab_mem hp)) (dw_mores (with_more T ar) ds _ (dw_all KX ar ds vals well pl ok))
  have run := (F _ md.kin (grd_ns T ar n1) fun p hp => grd_tab T ar n1 B hp).run callerA [] s _ ⟨vals, []⟩ vals _ _ _ room env (bi s vals ((wellAll_len well).trans n)) (vals_toV ok) promise
  refine codeAny_mono run fun r s' x => ?_
  match r, x with
  | .error e, x => exact (nx _ e s' x).elim
  | .ok (.ret u), ⟨v, H', os, bare, un, hk', rel, q⟩ =>
    -- an old object that is no table is as it was
    have old : ∀ b o, b ∉ tabsOf cs → s.heap.get? b = some o → s'.heap.get? b = some o := by
      intro b o m e
      cases q : withT (tabsOf cs) (argH K s.heap A) b with
      | none => exact un.keep b o e q (fun z => nomatch (show b ∈ ([] : List Addr) from z)) (fun z => nomatch z)
      | some y =>
        have z := (withT_off m).symm.trans q
        obtain ⟨ob, y2, z2⟩ := (argH_only ar b).resolve_left (by rw [z]; exact fun y => nomatch y)
        have z3 := q.trans (z.symm.trans z2)
        have e1 := (hk b _ z3).1
        rw [e] at e1
        rw [Option.some.inj e1]
        exact (hk' b _ (un.frzs b ob _ z3)).1
    have grown : ∀ p ∈ cs, ∃ more : Array Value, s'.heap.get? p.2 = some ⟨.none, none, .fields more, #[]⟩ := fun p hp =>
      let ⟨more, z⟩ := un.tbls p.2 #[] (withT_in (tab_mem hp))
      ⟨_, hk' p.2 _ z⟩
    have K' : K.In s'.heap := by
      intro b o e
      refine old b o (fun m => ?_) (KX b o e)
      rw [(T.at_ m).2] at e
      cases e
    obtain ⟨as, rd⟩ := Dw.reads (R := R) (cl := cl) hk' K' d0 v u q rel
    refine ⟨u, as, rfl, rd, ⟨fun b o e => ?_, fun b o e => ?_⟩, os, bare⟩
    · by_cases m : b ∈ tabsOf cs
      · obtain ⟨p, hp, rfl⟩ := mem_tab m
        obtain ⟨more, z⟩ := grown p hp
        have e3 := T.here p hp
        rw [e] at e3
        rw [Option.some.inj e3]
        refine .inr (.inl ⟨((T.code p hp).tab (T.here p hp)).isCodeTable, rfl, #[], more, rfl, ?_⟩)
        rw [Array.empty_append]
        exact z
      · exact .inl (old b o m e)
    · by_cases m : b ∈ tabsOf cs
      · obtain ⟨p, hp, rfl⟩ := mem_tab m
        exact (grown p hp).elim fun more z => ⟨_, z⟩
      · exact ⟨o, old b o m e⟩
end
/-- what is left behind the head, where the program makes functions -/
theorem walk_T {r : OpenSpec} {k : Nat} {q : Program} {loose : List Str} {XP : (Str → Option Value) → Heap → Prop} {YP : World → Heap → Prop} {d : DefRec} {K : Params → PySem.W.Frag} {CX : CXT} {ps : List Str} {cs : List (Addr × Addr)} {sp : PySem.W.Frag → Sp}
    (said : r.wellSaid = true) (df : d.params.defaults = []) (n : r.args.length = ps.length) (room : Room k callerA) (inK : ∀ (w : World) (h : Heap), YP w h → (K w.params).In h)
    (F : ∀ (w : World) (mg : Str → Option Value) (fa : Addr) (h : Heap), YP w h → (K w.params).In h → h.Ns mainGlobals mg → mg d.name = some (.ref fa) → TabsOk (K w.params) h cs ∧ ∃ fd : FuncData, (∀ (s : Shared) (us : List Value), us.length = ps.length → BindsTo s fd ⟨us, []⟩ (ps.zip us)) ∧
        ∀ base : Heap, (K w.params).In base → base.Ns mainGlobals mg → (∀ p ∈ cs, TabB base mg p.1 p.2) → FnOk r.prog w (K w.params) mg base CX k fa fd ps (sp (K w.params)))
    (pr : ∀ (K : PySem.W.Frag) (H : Hp) (xs : List V) (a : Codec.denoteAll r.args), OnlyT H → (∀ p ∈ cs, H p.2 = some (.tbl #[])) → Codec.withinAll r.args a = true → Codec.app r.args r.asked a = true → DwAll K H xs (Codec.encAll r.args a) →
      sp K xs H (fun v H1 => Dw K H1 v (r.ret.enc (Codec.app r.args r.f a))) fun _ _ _ => False)
    (nx : ∀ (H : Hp) (s : Shared) (e : Value) (s' : Shared), CX [] H s (fun _ _ _ => False) e s' → False) : PySem.W.WalkOS q loose XP YP r d [] (fun f vs => PySem.call f vs) := by
  intro w s0 s mg mb G Y fa o pm cd doc dV kV ho hd hcd hD name gens args vals refs pre light rd well low
  obtain ⟨a, dec, asked⟩ := PySem.W.os_pre_some pre
  obtain ⟨rfl, within⟩ := Codec.encAll_of_decAll r.args args a dec
  have KX := inK w _ Y
  obtain ⟨T, fd, bi, Fn⟩ := F w mg fa _ Y KX G.T.g name
  have go := call_T (R := []) (cl := classAt s0.heap) (d0 := r.ret.enc (Codec.app r.args r.f a)) KX T G.T.g G.T.b G.T.builtins G.T.nolimit G.T.bmain gens well (pl_encAll ..) (layable_weight light) room ((encAll_len ..).trans n) Fn bi
    (fun H xs only tabs dw => pr _ H xs a only tabs within asked dw) fun H e s' => nx H s e s'
  refine PySem.W.enter_call (codeAny_mono go fun ret s' ⟨u, as, e, c1, c2, c3, c4⟩ => ?_)
  subst e
  refine ⟨.inl ⟨u, _, as, rfl, fun _ => rfl, c1, (OpenSpec.post_iff said within _ _).mpr rfl, fun z => nomatch (show false = true from z)⟩, c2, c3, c4⟩
end Lab

/-! All facts of the text put together (printed by wire.py): the promise of the def that the row names. -/
namespace Lab
open PySem PySem.Spec PyProof.Rows L2 LamX NdefX
open Vakptc (Call)
theorem lookup_in {k : Int} {f : Addr} : ∀ {l : List (Int × Addr)}, l.lookup k = some f → (k, f) ∈ l
  | [], h => by cases h
  | (j, g) :: r, h => by
    by_cases c : k = j
    · subst c
      rw [List.lookup_cons, beq_self_eq_true] at h
      have e : g = f := Option.some.inj h
      rw [e]
      exact List.mem_cons_self
    · have b : (k == j) = false := beq_eq_false_iff_ne.mpr c
      rw [List.lookup_cons, b] at h
      exact List.mem_cons_of_mem _ (lookup_in h)
def errF (e1 e2 e3 e4 e5 e6 : Addr) (z : Int) : Addr := if z = -1 then e1 else if z = -2 then e2 else if z = -3 then e3 else if z = -4 then e4 else if z = -5 then e5 else e6
section
variable {P : Program} {w : World} {K : PySem.W.Frag} {mg : Str → Option Value} {base : Heap} {k j : Nat} {f : Addr} {sp : Sp}
theorem Held0.mono (x : Held0 P w K mg base k f sp) (h : k ≤ j) : Held0 P w K mg base j f sp :=
  let ⟨fd, ps, F, kp, hb⟩ := x.ex
  ⟨fd, ps, F.mono h, kp, hb⟩
theorem HeldX.mono (x : HeldX P w K mg base k f sp) (h : k ≤ j) : HeldX P w K mg base j f sp :=
  let ⟨fd, ps, F, kp, hb⟩ := x.ex
  ⟨fd, ps, F.mono h, kp, hb⟩
/-- what an except clause finds of two of the classes -/
theorem exm_of {S U : Addr} {v : Bool} (h1 : PySem.W.subIn K (.ref U) (.type "BaseException") = some true) (h2 : PySem.W.isClsIn K U = true) (h3 : PySem.W.typeIn K (.ref U) = some (.type "type")) (h4 : PySem.W.subIn K (.ref S) (.ref U) = some v) :
    PySem.W.exmOne K (.ref S) (.ref U) = some v := by
  have b1 : (PySem.W.subIn K (.ref U) (.type "BaseException") == some true) = true := by rw [h1]; rfl
  have b2 : ((PySem.W.clsIn K U).isSome && PySem.W.typeIn K (.ref U) == some (.type "type")) = true := by
    have c : (PySem.W.clsIn K U).isSome = true := h2
    rw [c, h3]
    rfl
  unfold PySem.W.exmOne
  rw [if_pos b1]
  show (if ((PySem.W.clsIn K U).isSome && PySem.W.typeIn K (.ref U) == some (.type "type")) = true then PySem.W.subIn K (.ref S) (.ref U) else none) = some v
  rw [if_pos b2]
  exact h4
theorem fn_at {h : Heap} {x : Str} {st : Stmt} {ps : List Str} {fd : FuncData} (X : K.In h) (G : h.Ns mainGlobals mg) (a : PySem.W.nsIn K mainGlobals x = some (some (.ref f))) (F : L2.Fun K x x st f fd) (b : L2.Binds K fd ps []) : FnAt K mg x st ps :=
  ⟨f, fd, PySem.W.mg_of X G a, F, b⟩
theorem con_at {h : Heap} {x : Str} {v : Int} (X : K.In h) (G : h.Ns mainGlobals mg) (a : ∃ t, PySem.W.nsIn K mainGlobals x = some (some (.int v t))) : ∃ u, mg x = some u ∧ RelV (.int v) u :=
  let ⟨t, a⟩ := a
  ⟨_, PySem.W.mg_of X G a, t, rfl⟩
end

theorem all_ok {P : Program} {w : World} {K : PySem.W.Frag} {h : Heap} {mg : Str → Option Value} {fa Pt : Addr} {CL CC CE CR e1 e2 e3 e4 e5 e6 dV dO cF f_must_evict f_without_key f_with_key f_missed f_replayed f_accesses_until f_farthest_key f_belady_evictions f_keep_better f_ways_after f_optimal_evictions f_phase_starts f_last_use_of f_use_count_and_last_use_of f_first_listed f_least_recently_used f_most_recently_used f_least_frequently_used f_first_without_bit f_cache_after f_renamed_sequences f_misses_of f_minimum_misses f_lead_of f_first_greatest f_most_different f_farthest_from_minimum f_shortest_anomaly f_check_capacity f_check_policy f_is_key f_check_key f_check_sequence f_check_some_capacity f_check_search f_listed f_answer_configure f_answer_access f_answer_remove f_answer_contents f_answer_next_victim f_answer_counters f_answer_simulate f_answer_optimal f_answer_farthest f_answer_replay f_answer_phases f_answer_separate f_answer_worst f_answer_anomaly f_answer_call f_answers m_CallReader_init m_CallReader_has_more m_CallReader_take_number m_CallReader_take_row m_Entry_init m_Cache_init m_Cache_entry_of m_Cache_holds m_Cache_cached_keys m_Cache_access_number m_Cache_access m_Cache_take_in m_Cache_make_room m_Cache_next_victim m_Cache_give_second_chances m_Cache_remove_key m_Laboratory_init : Addr} {oc_must_evict kV_must_evict dc_must_evict pm_must_evict ct_must_evict cd_must_evict oc_without_key kV_without_key dc_without_key pm_without_key ct_without_key cd_without_key oc_with_key kV_with_key dc_with_key pm_with_key ct_with_key cd_with_key oc_missed kV_missed dc_missed pm_missed ct_missed cd_missed oc_replayed kV_replayed dc_replayed pm_replayed ct_replayed cd_replayed oc_accesses_until kV_accesses_until dc_accesses_until pm_accesses_until ct_accesses_until cd_accesses_until oc_farthest_key kV_farthest_key dc_farthest_key pm_farthest_key ct_farthest_key oc_belady_evictions kV_belady_evictions dc_belady_evictions pm_belady_evictions ct_belady_evictions cd_belady_evictions oc_keep_better kV_keep_better dc_keep_better pm_keep_better ct_keep_better cd_keep_better oc_ways_after kV_ways_after dc_ways_after pm_ways_after ct_ways_after cd_ways_after oc_optimal_evictions kV_optimal_evictions dc_optimal_evictions pm_optimal_evictions ct_optimal_evictions cd_optimal_evictions oc_phase_starts kV_phase_starts dc_phase_starts pm_phase_starts ct_phase_starts cd_phase_starts oc_last_use_of kV_last_use_of dc_last_use_of pm_last_use_of ct_last_use_of cd_last_use_of oc_use_count_and_last_use_of kV_use_count_and_last_use_of dc_use_count_and_last_use_of pm_use_count_and_last_use_of ct_use_count_and_last_use_of cd_use_count_and_last_use_of oc_first_listed kV_first_listed dc_first_listed pm_first_listed ct_first_listed cd_first_listed oc_least_recently_used kV_least_recently_used dc_least_recently_used pm_least_recently_used ct_least_recently_used cd_least_recently_used oc_most_recently_used kV_most_recently_used dc_most_recently_used pm_most_recently_used ct_most_recently_used cd_most_recently_used oc_least_frequently_used kV_least_frequently_used dc_least_frequently_used pm_least_frequently_used ct_least_frequently_used cd_least_frequently_used oc_first_without_bit kV_first_without_bit dc_first_without_bit pm_first_without_bit ct_first_without_bit cd_first_without_bit oc_cache_after kV_cache_after dc_cache_after pm_cache_after ct_cache_after cd_cache_after oc_renamed_sequences kV_renamed_sequences dc_renamed_sequences pm_renamed_sequences ct_renamed_sequences cd_renamed_sequences oc_misses_of kV_misses_of dc_misses_of pm_misses_of ct_misses_of cd_misses_of oc_minimum_misses kV_minimum_misses dc_minimum_misses pm_minimum_misses ct_minimum_misses cd_minimum_misses oc_lead_of kV_lead_of dc_lead_of pm_lead_of ct_lead_of cd_lead_of oc_first_greatest kV_first_greatest dc_first_greatest pm_first_greatest ct_first_greatest cd_first_greatest oc_most_different kV_most_different dc_most_different pm_most_different ct_most_different cd_most_different oc_farthest_from_minimum kV_farthest_from_minimum dc_farthest_from_minimum pm_farthest_from_minimum ct_farthest_from_minimum cd_farthest_from_minimum oc_shortest_anomaly kV_shortest_anomaly dc_shortest_anomaly pm_shortest_anomaly ct_shortest_anomaly cd_shortest_anomaly oc_check_capacity kV_check_capacity dc_check_capacity pm_check_capacity ct_check_capacity cd_check_capacity oc_check_policy kV_check_policy dc_check_policy pm_check_policy ct_check_policy cd_check_policy oc_is_key kV_is_key dc_is_key pm_is_key ct_is_key cd_is_key oc_check_key kV_check_key dc_check_key pm_check_key ct_check_key cd_check_key oc_check_sequence kV_check_sequence dc_check_sequence pm_check_sequence ct_check_sequence cd_check_sequence oc_check_some_capacity kV_check_some_capacity dc_check_some_capacity pm_check_some_capacity ct_check_some_capacity cd_check_some_capacity oc_check_search kV_check_search dc_check_search pm_check_search ct_check_search cd_check_search oc_listed kV_listed dc_listed pm_listed ct_listed cd_listed oc_answer_configure kV_answer_configure dc_answer_configure pm_answer_configure ct_answer_configure cd_answer_configure oc_answer_access kV_answer_access dc_answer_access pm_answer_access ct_answer_access cd_answer_access oc_answer_remove kV_answer_remove dc_answer_remove pm_answer_remove ct_answer_remove cd_answer_remove oc_answer_contents kV_answer_contents dc_answer_contents pm_answer_contents ct_answer_contents cd_answer_contents oc_answer_next_victim kV_answer_next_victim dc_answer_next_victim pm_answer_next_victim ct_answer_next_victim cd_answer_next_victim oc_answer_counters kV_answer_counters dc_answer_counters pm_answer_counters ct_answer_counters cd_answer_counters oc_answer_simulate kV_answer_simulate dc_answer_simulate pm_answer_simulate ct_answer_simulate cd_answer_simulate oc_answer_optimal kV_answer_optimal dc_answer_optimal pm_answer_optimal ct_answer_optimal cd_answer_optimal oc_answer_farthest kV_answer_farthest dc_answer_farthest pm_answer_farthest ct_answer_farthest cd_answer_farthest oc_answer_replay kV_answer_replay dc_answer_replay pm_answer_replay ct_answer_replay cd_answer_replay oc_answer_phases kV_answer_phases dc_answer_phases pm_answer_phases ct_answer_phases cd_answer_phases oc_answer_separate kV_answer_separate dc_answer_separate pm_answer_separate ct_answer_separate cd_answer_separate oc_answer_worst kV_answer_worst dc_answer_worst pm_answer_worst ct_answer_worst cd_answer_worst oc_answer_anomaly kV_answer_anomaly dc_answer_anomaly pm_answer_anomaly ct_answer_anomaly cd_answer_anomaly oc_answer_call kV_answer_call dc_answer_call pm_answer_call ct_answer_call cd_answer_call oc_answers kV_answers dc_answers pm_answers ct_answers cd_answers oc_CallReader_init kV_CallReader_init dc_CallReader_init pm_CallReader_init ct_CallReader_init cd_CallReader_init oc_CallReader_has_more kV_CallReader_has_more dc_CallReader_has_more pm_CallReader_has_more ct_CallReader_has_more cd_CallReader_has_more oc_CallReader_take_number kV_CallReader_take_number dc_CallReader_take_number pm_CallReader_take_number ct_CallReader_take_number cd_CallReader_take_number oc_CallReader_take_row kV_CallReader_take_row dc_CallReader_take_row pm_CallReader_take_row ct_CallReader_take_row cd_CallReader_take_row oc_Entry_init kV_Entry_init dc_Entry_init pm_Entry_init ct_Entry_init cd_Entry_init oc_Cache_init kV_Cache_init dc_Cache_init pm_Cache_init ct_Cache_init cd_Cache_init oc_Cache_entry_of kV_Cache_entry_of dc_Cache_entry_of pm_Cache_entry_of ct_Cache_entry_of cd_Cache_entry_of oc_Cache_holds kV_Cache_holds dc_Cache_holds pm_Cache_holds ct_Cache_holds cd_Cache_holds oc_Cache_cached_keys kV_Cache_cached_keys dc_Cache_cached_keys pm_Cache_cached_keys ct_Cache_cached_keys cd_Cache_cached_keys oc_Cache_access_number kV_Cache_access_number dc_Cache_access_number pm_Cache_access_number ct_Cache_access_number cd_Cache_access_number oc_Cache_access kV_Cache_access dc_Cache_access pm_Cache_access ct_Cache_access cd_Cache_access oc_Cache_take_in kV_Cache_take_in dc_Cache_take_in pm_Cache_take_in ct_Cache_take_in cd_Cache_take_in oc_Cache_make_room kV_Cache_make_room dc_Cache_make_room pm_Cache_make_room ct_Cache_make_room cd_Cache_make_room oc_Cache_next_victim kV_Cache_next_victim dc_Cache_next_victim pm_Cache_next_victim ct_Cache_next_victim cd_Cache_next_victim oc_Cache_give_second_chances kV_Cache_give_second_chances dc_Cache_give_second_chances pm_Cache_give_second_chances ct_Cache_give_second_chances cd_Cache_give_second_chances oc_Cache_remove_key kV_Cache_remove_key dc_Cache_remove_key pm_Cache_remove_key ct_Cache_remove_key cd_Cache_remove_key oc_Laboratory_init kV_Laboratory_init dc_Laboratory_init pm_Laboratory_init ct_Laboratory_init cd_Laboratory_init : Value} {od_must_evict an_must_evict od_without_key an_without_key od_with_key an_with_key od_missed an_missed od_replayed an_replayed od_accesses_until an_accesses_until od_farthest_key an_farthest_key od_belady_evictions an_belady_evictions od_keep_better an_keep_better od_ways_after an_ways_after od_optimal_evictions an_optimal_evictions od_phase_starts an_phase_starts od_last_use_of an_last_use_of od_use_count_and_last_use_of an_use_count_and_last_use_of od_first_listed an_first_listed od_least_recently_used an_least_recently_used od_most_recently_used an_most_recently_used od_least_frequently_used an_least_frequently_used od_first_without_bit an_first_without_bit od_cache_after an_cache_after od_renamed_sequences an_renamed_sequences od_misses_of an_misses_of od_minimum_misses an_minimum_misses od_lead_of an_lead_of od_first_greatest an_first_greatest od_most_different an_most_different od_farthest_from_minimum an_farthest_from_minimum od_shortest_anomaly an_shortest_anomaly od_check_capacity an_check_capacity od_check_policy an_check_policy od_is_key an_is_key od_check_key an_check_key od_check_sequence an_check_sequence od_check_some_capacity an_check_some_capacity od_check_search an_check_search od_listed an_listed od_answer_configure an_answer_configure od_answer_access an_answer_access od_answer_remove an_answer_remove od_answer_contents an_answer_contents od_answer_next_victim an_answer_next_victim od_answer_counters an_answer_counters od_answer_simulate an_answer_simulate od_answer_optimal an_answer_optimal od_answer_farthest an_answer_farthest od_answer_replay an_answer_replay od_answer_phases an_answer_phases od_answer_separate an_answer_separate od_answer_worst an_answer_worst od_answer_anomaly an_answer_anomaly od_answer_call an_answer_call od_answers an_answers od_CallReader_init an_CallReader_init od_CallReader_has_more an_CallReader_has_more od_CallReader_take_number an_CallReader_take_number od_CallReader_take_row an_CallReader_take_row od_Entry_init an_Entry_init od_Cache_init an_Cache_init od_Cache_entry_of an_Cache_entry_of od_Cache_holds an_Cache_holds od_Cache_cached_keys an_Cache_cached_keys od_Cache_access_number an_Cache_access_number od_Cache_access an_Cache_access od_Cache_take_in an_Cache_take_in od_Cache_make_room an_Cache_make_room od_Cache_next_victim an_Cache_next_victim od_Cache_give_second_chances an_Cache_give_second_chances od_Cache_remove_key an_Cache_remove_key od_Laboratory_init an_Laboratory_init : Option Addr} {sl_must_evict sl_without_key sl_with_key sl_missed sl_replayed sl_accesses_until sl_farthest_key sl_belady_evictions sl_keep_better sl_ways_after sl_optimal_evictions sl_phase_starts sl_last_use_of sl_use_count_and_last_use_of sl_first_listed sl_least_recently_used sl_most_recently_used sl_least_frequently_used sl_first_without_bit sl_cache_after sl_renamed_sequences sl_misses_of sl_minimum_misses sl_lead_of sl_first_greatest sl_most_different sl_farthest_from_minimum sl_shortest_anomaly sl_check_capacity sl_check_policy sl_is_key sl_check_key sl_check_sequence sl_check_some_capacity sl_check_search sl_listed sl_answer_configure sl_answer_access sl_answer_remove sl_answer_contents sl_answer_next_victim sl_answer_counters sl_answer_simulate sl_answer_optimal sl_answer_farthest sl_answer_replay sl_answer_phases sl_answer_separate sl_answer_worst sl_answer_anomaly sl_answer_call sl_answers sl_CallReader_init sl_CallReader_has_more sl_CallReader_take_number sl_CallReader_take_row sl_Entry_init sl_Cache_init sl_Cache_entry_of sl_Cache_holds sl_Cache_cached_keys sl_Cache_access_number sl_Cache_access sl_Cache_take_in sl_Cache_make_room sl_Cache_next_victim sl_Cache_give_second_chances sl_Cache_remove_key sl_Laboratory_init : Array (Option Value)} {esV : Array DictEntry} {nnV : Nat} {esO : Array DictEntry} {nnO : Nat}
    (X : K.In h) (G : h.Ns mainGlobals mg) (hfa : mg "answers" = some (.ref fa))
    (a_must_evict : PySem.W.nsIn K mainGlobals "must_evict" = some (some (.ref f_must_evict)))
    (l_must_evict : K.lookup f_must_evict = some ⟨oc_must_evict, od_must_evict, .func (PySem.W.fnOf "must_evict" "must_evict" (defArgs s_must_evict) (defBody s_must_evict) (defScope s_must_evict) .none kV_must_evict dc_must_evict pm_must_evict an_must_evict cd_must_evict ct_must_evict), sl_must_evict⟩)
    (c_must_evict : PySem.W.codeIn K cd_must_evict "must_evict" = true)
    (k_must_evict : PySem.W.keepIn K (.ref f_must_evict) = true)
    (a_without_key : PySem.W.nsIn K mainGlobals "without_key" = some (some (.ref f_without_key)))
    (l_without_key : K.lookup f_without_key = some ⟨oc_without_key, od_without_key, .func (PySem.W.fnOf "without_key" "without_key" (defArgs s_without_key) (defBody s_without_key) (defScope s_without_key) .none kV_without_key dc_without_key pm_without_key an_without_key cd_without_key ct_without_key), sl_without_key⟩)
    (c_without_key : PySem.W.codeIn K cd_without_key "without_key" = true)
    (k_without_key : PySem.W.keepIn K (.ref f_without_key) = true)
    (a_with_key : PySem.W.nsIn K mainGlobals "with_key" = some (some (.ref f_with_key)))
    (l_with_key : K.lookup f_with_key = some ⟨oc_with_key, od_with_key, .func (PySem.W.fnOf "with_key" "with_key" (defArgs s_with_key) (defBody s_with_key) (defScope s_with_key) .none kV_with_key dc_with_key pm_with_key an_with_key cd_with_key ct_with_key), sl_with_key⟩)
    (c_with_key : PySem.W.codeIn K cd_with_key "with_key" = true)
    (k_with_key : PySem.W.keepIn K (.ref f_with_key) = true)
    (a_missed : PySem.W.nsIn K mainGlobals "missed" = some (some (.ref f_missed)))
    (l_missed : K.lookup f_missed = some ⟨oc_missed, od_missed, .func (PySem.W.fnOf "missed" "missed" (defArgs s_missed) (defBody s_missed) (defScope s_missed) .none kV_missed dc_missed pm_missed an_missed cd_missed ct_missed), sl_missed⟩)
    (c_missed : PySem.W.codeIn K cd_missed "missed" = true)
    (k_missed : PySem.W.keepIn K (.ref f_missed) = true)
    (a_replayed : PySem.W.nsIn K mainGlobals "replayed" = some (some (.ref f_replayed)))
    (l_replayed : K.lookup f_replayed = some ⟨oc_replayed, od_replayed, .func (PySem.W.fnOf "replayed" "replayed" (defArgs s_replayed) (defBody s_replayed) (defScope s_replayed) .none kV_replayed dc_replayed pm_replayed an_replayed cd_replayed ct_replayed), sl_replayed⟩)
    (c_replayed : PySem.W.codeIn K cd_replayed "replayed" = true)
    (k_replayed : PySem.W.keepIn K (.ref f_replayed) = true)
    (a_accesses_until : PySem.W.nsIn K mainGlobals "accesses_until" = some (some (.ref f_accesses_until)))
    (l_accesses_until : K.lookup f_accesses_until = some ⟨oc_accesses_until, od_accesses_until, .func (PySem.W.fnOf "accesses_until" "accesses_until" (defArgs s_accesses_until) (defBody s_accesses_until) (defScope s_accesses_until) .none kV_accesses_until dc_accesses_until pm_accesses_until an_accesses_until cd_accesses_until ct_accesses_until), sl_accesses_until⟩)
    (c_accesses_until : PySem.W.codeIn K cd_accesses_until "accesses_until" = true)
    (k_accesses_until : PySem.W.keepIn K (.ref f_accesses_until) = true)
    (a_farthest_key : PySem.W.nsIn K mainGlobals "farthest_key" = some (some (.ref f_farthest_key)))
    (l_farthest_key : K.lookup f_farthest_key = some ⟨oc_farthest_key, od_farthest_key, .func (PySem.W.fnOf "farthest_key" "farthest_key" (defArgs s_farthest_key) (defBody s_farthest_key) (defScope s_farthest_key) .none kV_farthest_key dc_farthest_key pm_farthest_key an_farthest_key (.ref cF) ct_farthest_key), sl_farthest_key⟩)
    (c_farthest_key : PySem.W.codeIn K (.ref cF) "farthest_key" = true)
    (k_farthest_key : PySem.W.keepIn K (.ref f_farthest_key) = true)
    (a_belady_evictions : PySem.W.nsIn K mainGlobals "belady_evictions" = some (some (.ref f_belady_evictions)))
    (l_belady_evictions : K.lookup f_belady_evictions = some ⟨oc_belady_evictions, od_belady_evictions, .func (PySem.W.fnOf "belady_evictions" "belady_evictions" (defArgs s_belady_evictions) (defBody s_belady_evictions) (defScope s_belady_evictions) .none kV_belady_evictions dc_belady_evictions pm_belady_evictions an_belady_evictions cd_belady_evictions ct_belady_evictions), sl_belady_evictions⟩)
    (c_belady_evictions : PySem.W.codeIn K cd_belady_evictions "belady_evictions" = true)
    (k_belady_evictions : PySem.W.keepIn K (.ref f_belady_evictions) = true)
    (a_keep_better : PySem.W.nsIn K mainGlobals "keep_better" = some (some (.ref f_keep_better)))
    (l_keep_better : K.lookup f_keep_better = some ⟨oc_keep_better, od_keep_better, .func (PySem.W.fnOf "keep_better" "keep_better" (defArgs s_keep_better) (defBody s_keep_better) (defScope s_keep_better) .none kV_keep_better dc_keep_better pm_keep_better an_keep_better cd_keep_better ct_keep_better), sl_keep_better⟩)
    (c_keep_better : PySem.W.codeIn K cd_keep_better "keep_better" = true)
    (k_keep_better : PySem.W.keepIn K (.ref f_keep_better) = true)
    (a_ways_after : PySem.W.nsIn K mainGlobals "ways_after" = some (some (.ref f_ways_after)))
    (l_ways_after : K.lookup f_ways_after = some ⟨oc_ways_after, od_ways_after, .func (PySem.W.fnOf "ways_after" "ways_after" (defArgs s_ways_after) (defBody s_ways_after) (defScope s_ways_after) .none kV_ways_after dc_ways_after pm_ways_after an_ways_after cd_ways_after ct_ways_after), sl_ways_after⟩)
    (c_ways_after : PySem.W.codeIn K cd_ways_after "ways_after" = true)
    (k_ways_after : PySem.W.keepIn K (.ref f_ways_after) = true)
    (a_optimal_evictions : PySem.W.nsIn K mainGlobals "optimal_evictions" = some (some (.ref f_optimal_evictions)))
    (l_optimal_evictions : K.lookup f_optimal_evictions = some ⟨oc_optimal_evictions, od_optimal_evictions, .func (PySem.W.fnOf "optimal_evictions" "optimal_evictions" (defArgs s_optimal_evictions) (defBody s_optimal_evictions) (defScope s_optimal_evictions) .none kV_optimal_evictions dc_optimal_evictions pm_optimal_evictions an_optimal_evictions cd_optimal_evictions ct_optimal_evictions), sl_optimal_evictions⟩)
    (c_optimal_evictions : PySem.W.codeIn K cd_optimal_evictions "optimal_evictions" = true)
    (k_optimal_evictions : PySem.W.keepIn K (.ref f_optimal_evictions) = true)
    (a_phase_starts : PySem.W.nsIn K mainGlobals "phase_starts" = some (some (.ref f_phase_starts)))
    (l_phase_starts : K.lookup f_phase_starts = some ⟨oc_phase_starts, od_phase_starts, .func (PySem.W.fnOf "phase_starts" "phase_starts" (defArgs s_phase_starts) (defBody s_phase_starts) (defScope s_phase_starts) .none kV_phase_starts dc_phase_starts pm_phase_starts an_phase_starts cd_phase_starts ct_phase_starts), sl_phase_starts⟩)
    (c_phase_starts : PySem.W.codeIn K cd_phase_starts "phase_starts" = true)
    (k_phase_starts : PySem.W.keepIn K (.ref f_phase_starts) = true)
    (a_last_use_of : PySem.W.nsIn K mainGlobals "last_use_of" = some (some (.ref f_last_use_of)))
    (l_last_use_of : K.lookup f_last_use_of = some ⟨oc_last_use_of, od_last_use_of, .func (PySem.W.fnOf "last_use_of" "last_use_of" (defArgs s_last_use_of) (defBody s_last_use_of) (defScope s_last_use_of) .none kV_last_use_of dc_last_use_of pm_last_use_of an_last_use_of cd_last_use_of ct_last_use_of), sl_last_use_of⟩)
    (c_last_use_of : PySem.W.codeIn K cd_last_use_of "last_use_of" = true)
    (k_last_use_of : PySem.W.keepIn K (.ref f_last_use_of) = true)
    (a_use_count_and_last_use_of : PySem.W.nsIn K mainGlobals "use_count_and_last_use_of" = some (some (.ref f_use_count_and_last_use_of)))
    (l_use_count_and_last_use_of : K.lookup f_use_count_and_last_use_of = some ⟨oc_use_count_and_last_use_of, od_use_count_and_last_use_of, .func (PySem.W.fnOf "use_count_and_last_use_of" "use_count_and_last_use_of" (defArgs s_use_count_and_last_use_of) (defBody s_use_count_and_last_use_of) (defScope s_use_count_and_last_use_of) .none kV_use_count_and_last_use_of dc_use_count_and_last_use_of pm_use_count_and_last_use_of an_use_count_and_last_use_of cd_use_count_and_last_use_of ct_use_count_and_last_use_of), sl_use_count_and_last_use_of⟩)
    (c_use_count_and_last_use_of : PySem.W.codeIn K cd_use_count_and_last_use_of "use_count_and_last_use_of" = true)
    (k_use_count_and_last_use_of : PySem.W.keepIn K (.ref f_use_count_and_last_use_of) = true)
    (a_first_listed : PySem.W.nsIn K mainGlobals "first_listed" = some (some (.ref f_first_listed)))
    (l_first_listed : K.lookup f_first_listed = some ⟨oc_first_listed, od_first_listed, .func (PySem.W.fnOf "first_listed" "first_listed" (defArgs s_first_listed) (defBody s_first_listed) (defScope s_first_listed) .none kV_first_listed dc_first_listed pm_first_listed an_first_listed cd_first_listed ct_first_listed), sl_first_listed⟩)
    (c_first_listed : PySem.W.codeIn K cd_first_listed "first_listed" = true)
    (k_first_listed : PySem.W.keepIn K (.ref f_first_listed) = true)
    (a_least_recently_used : PySem.W.nsIn K mainGlobals "least_recently_used" = some (some (.ref f_least_recently_used)))
    (l_least_recently_used : K.lookup f_least_recently_used = some ⟨oc_least_recently_used, od_least_recently_used, .func (PySem.W.fnOf "least_recently_used" "least_recently_used" (defArgs s_least_recently_used) (defBody s_least_recently_used) (defScope s_least_recently_used) .none kV_least_recently_used dc_least_recently_used pm_least_recently_used an_least_recently_used cd_least_recently_used ct_least_recently_used), sl_least_recently_used⟩)
    (c_least_recently_used : PySem.W.codeIn K cd_least_recently_used "least_recently_used" = true)
    (k_least_recently_used : PySem.W.keepIn K (.ref f_least_recently_used) = true)
    (a_most_recently_used : PySem.W.nsIn K mainGlobals "most_recently_used" = some (some (.ref f_most_recently_used)))
    (l_most_recently_used : K.lookup f_most_recently_used = some ⟨oc_most_recently_used, od_most_recently_used, .func (PySem.W.fnOf "most_recently_used" "most_recently_used" (defArgs s_most_recently_used) (defBody s_most_recently_used) (defScope s_most_recently_used) .none kV_most_recently_used dc_most_recently_used pm_most_recently_used an_most_recently_used cd_most_recently_used ct_most_recently_used), sl_most_recently_used⟩)
    (c_most_recently_used : PySem.W.codeIn K cd_most_recently_used "most_recently_used" = true)
    (k_most_recently_used : PySem.W.keepIn K (.ref f_most_recently_used) = true)
    (a_least_frequently_used : PySem.W.nsIn K mainGlobals "least_frequently_used" = some (some (.ref f_least_frequently_used)))
    (l_least_frequently_used : K.lookup f_least_frequently_used = some ⟨oc_least_frequently_used, od_least_frequently_used, .func (PySem.W.fnOf "least_frequently_used" "least_frequently_used" (defArgs s_least_frequently_used) (defBody s_least_frequently_used) (defScope s_least_frequently_used) .none kV_least_frequently_used dc_least_frequently_used pm_least_frequently_used an_least_frequently_used cd_least_frequently_used ct_least_frequently_used), sl_least_frequently_used⟩)
    (c_least_frequently_used : PySem.W.codeIn K cd_least_frequently_used "least_frequently_used" = true)
    (k_least_frequently_used : PySem.W.keepIn K (.ref f_least_frequently_used) = true)
    (a_first_without_bit : PySem.W.nsIn K mainGlobals "first_without_bit" = some (some (.ref f_first_without_bit)))
    (l_first_without_bit : K.lookup f_first_without_bit = some ⟨oc_first_without_bit, od_first_without_bit, .func (PySem.W.fnOf "first_without_bit" "first_without_bit" (defArgs s_first_without_bit) (defBody s_first_without_bit) (defScope s_first_without_bit) .none kV_first_without_bit dc_first_without_bit pm_first_without_bit an_first_without_bit cd_first_without_bit ct_first_without_bit), sl_first_without_bit⟩)
    (c_first_without_bit : PySem.W.codeIn K cd_first_without_bit "first_without_bit" = true)
    (k_first_without_bit : PySem.W.keepIn K (.ref f_first_without_bit) = true)
    (a_cache_after : PySem.W.nsIn K mainGlobals "cache_after" = some (some (.ref f_cache_after)))
    (l_cache_after : K.lookup f_cache_after = some ⟨oc_cache_after, od_cache_after, .func (PySem.W.fnOf "cache_after" "cache_after" (defArgs s_cache_after) (defBody s_cache_after) (defScope s_cache_after) .none kV_cache_after dc_cache_after pm_cache_after an_cache_after cd_cache_after ct_cache_after), sl_cache_after⟩)
    (c_cache_after : PySem.W.codeIn K cd_cache_after "cache_after" = true)
    (k_cache_after : PySem.W.keepIn K (.ref f_cache_after) = true)
    (a_renamed_sequences : PySem.W.nsIn K mainGlobals "renamed_sequences" = some (some (.ref f_renamed_sequences)))
    (l_renamed_sequences : K.lookup f_renamed_sequences = some ⟨oc_renamed_sequences, od_renamed_sequences, .func (PySem.W.fnOf "renamed_sequences" "renamed_sequences" (defArgs s_renamed_sequences) (defBody s_renamed_sequences) (defScope s_renamed_sequences) .none kV_renamed_sequences dc_renamed_sequences pm_renamed_sequences an_renamed_sequences cd_renamed_sequences ct_renamed_sequences), sl_renamed_sequences⟩)
    (c_renamed_sequences : PySem.W.codeIn K cd_renamed_sequences "renamed_sequences" = true)
    (k_renamed_sequences : PySem.W.keepIn K (.ref f_renamed_sequences) = true)
    (a_misses_of : PySem.W.nsIn K mainGlobals "misses_of" = some (some (.ref f_misses_of)))
    (l_misses_of : K.lookup f_misses_of = some ⟨oc_misses_of, od_misses_of, .func (PySem.W.fnOf "misses_of" "misses_of" (defArgs s_misses_of) (defBody s_misses_of) (defScope s_misses_of) .none kV_misses_of dc_misses_of pm_misses_of an_misses_of cd_misses_of ct_misses_of), sl_misses_of⟩)
    (c_misses_of : PySem.W.codeIn K cd_misses_of "misses_of" = true)
    (k_misses_of : PySem.W.keepIn K (.ref f_misses_of) = true)
    (a_minimum_misses : PySem.W.nsIn K mainGlobals "minimum_misses" = some (some (.ref f_minimum_misses)))
    (l_minimum_misses : K.lookup f_minimum_misses = some ⟨oc_minimum_misses, od_minimum_misses, .func (PySem.W.fnOf "minimum_misses" "minimum_misses" (defArgs s_minimum_misses) (defBody s_minimum_misses) (defScope s_minimum_misses) .none kV_minimum_misses dc_minimum_misses pm_minimum_misses an_minimum_misses cd_minimum_misses ct_minimum_misses), sl_minimum_misses⟩)
    (c_minimum_misses : PySem.W.codeIn K cd_minimum_misses "minimum_misses" = true)
    (k_minimum_misses : PySem.W.keepIn K (.ref f_minimum_misses) = true)
    (a_lead_of : PySem.W.nsIn K mainGlobals "lead_of" = some (some (.ref f_lead_of)))
    (l_lead_of : K.lookup f_lead_of = some ⟨oc_lead_of, od_lead_of, .func (PySem.W.fnOf "lead_of" "lead_of" (defArgs s_lead_of) (defBody s_lead_of) (defScope s_lead_of) .none kV_lead_of dc_lead_of pm_lead_of an_lead_of cd_lead_of ct_lead_of), sl_lead_of⟩)
    (c_lead_of : PySem.W.codeIn K cd_lead_of "lead_of" = true)
    (k_lead_of : PySem.W.keepIn K (.ref f_lead_of) = true)
    (a_first_greatest : PySem.W.nsIn K mainGlobals "first_greatest" = some (some (.ref f_first_greatest)))
    (l_first_greatest : K.lookup f_first_greatest = some ⟨oc_first_greatest, od_first_greatest, .func (PySem.W.fnOf "first_greatest" "first_greatest" (defArgs s_first_greatest) (defBody s_first_greatest) (defScope s_first_greatest) .none kV_first_greatest dc_first_greatest pm_first_greatest an_first_greatest cd_first_greatest ct_first_greatest), sl_first_greatest⟩)
    (c_first_greatest : PySem.W.codeIn K cd_first_greatest "first_greatest" = true)
    (k_first_greatest : PySem.W.keepIn K (.ref f_first_greatest) = true)
    (a_most_different : PySem.W.nsIn K mainGlobals "most_different" = some (some (.ref f_most_different)))
    (l_most_different : K.lookup f_most_different = some ⟨oc_most_different, od_most_different, .func (PySem.W.fnOf "most_different" "most_different" (defArgs s_most_different) (defBody s_most_different) (defScope s_most_different) .none kV_most_different dc_most_different pm_most_different an_most_different cd_most_different ct_most_different), sl_most_different⟩)
    (c_most_different : PySem.W.codeIn K cd_most_different "most_different" = true)
    (k_most_different : PySem.W.keepIn K (.ref f_most_different) = true)
    (a_farthest_from_minimum : PySem.W.nsIn K mainGlobals "farthest_from_minimum" = some (some (.ref f_farthest_from_minimum)))
    (l_farthest_from_minimum : K.lookup f_farthest_from_minimum = some ⟨oc_farthest_from_minimum, od_farthest_from_minimum, .func (PySem.W.fnOf "farthest_from_minimum" "farthest_from_minimum" (defArgs s_farthest_from_minimum) (defBody s_farthest_from_minimum) (defScope s_farthest_from_minimum) .none kV_farthest_from_minimum dc_farthest_from_minimum pm_farthest_from_minimum an_farthest_from_minimum cd_farthest_from_minimum ct_farthest_from_minimum), sl_farthest_from_minimum⟩)
    (c_farthest_from_minimum : PySem.W.codeIn K cd_farthest_from_minimum "farthest_from_minimum" = true)
    (k_farthest_from_minimum : PySem.W.keepIn K (.ref f_farthest_from_minimum) = true)
    (a_shortest_anomaly : PySem.W.nsIn K mainGlobals "shortest_anomaly" = some (some (.ref f_shortest_anomaly)))
    (l_shortest_anomaly : K.lookup f_shortest_anomaly = some ⟨oc_shortest_anomaly, od_shortest_anomaly, .func (PySem.W.fnOf "shortest_anomaly" "shortest_anomaly" (defArgs s_shortest_anomaly) (defBody s_shortest_anomaly) (defScope s_shortest_anomaly) .none kV_shortest_anomaly dc_shortest_anomaly pm_shortest_anomaly an_shortest_anomaly cd_shortest_anomaly ct_shortest_anomaly), sl_shortest_anomaly⟩)
    (c_shortest_anomaly : PySem.W.codeIn K cd_shortest_anomaly "shortest_anomaly" = true)
    (k_shortest_anomaly : PySem.W.keepIn K (.ref f_shortest_anomaly) = true)
    (a_check_capacity : PySem.W.nsIn K mainGlobals "check_capacity" = some (some (.ref f_check_capacity)))
    (l_check_capacity : K.lookup f_check_capacity = some ⟨oc_check_capacity, od_check_capacity, .func (PySem.W.fnOf "check_capacity" "check_capacity" (defArgs s_check_capacity) (defBody s_check_capacity) (defScope s_check_capacity) .none kV_check_capacity dc_check_capacity pm_check_capacity an_check_capacity cd_check_capacity ct_check_capacity), sl_check_capacity⟩)
    (c_check_capacity : PySem.W.codeIn K cd_check_capacity "check_capacity" = true)
    (k_check_capacity : PySem.W.keepIn K (.ref f_check_capacity) = true)
    (a_check_policy : PySem.W.nsIn K mainGlobals "check_policy" = some (some (.ref f_check_policy)))
    (l_check_policy : K.lookup f_check_policy = some ⟨oc_check_policy, od_check_policy, .func (PySem.W.fnOf "check_policy" "check_policy" (defArgs s_check_policy) (defBody s_check_policy) (defScope s_check_policy) .none kV_check_policy dc_check_policy pm_check_policy an_check_policy cd_check_policy ct_check_policy), sl_check_policy⟩)
    (c_check_policy : PySem.W.codeIn K cd_check_policy "check_policy" = true)
    (k_check_policy : PySem.W.keepIn K (.ref f_check_policy) = true)
    (a_is_key : PySem.W.nsIn K mainGlobals "is_key" = some (some (.ref f_is_key)))
    (l_is_key : K.lookup f_is_key = some ⟨oc_is_key, od_is_key, .func (PySem.W.fnOf "is_key" "is_key" (defArgs s_is_key) (defBody s_is_key) (defScope s_is_key) .none kV_is_key dc_is_key pm_is_key an_is_key cd_is_key ct_is_key), sl_is_key⟩)
    (c_is_key : PySem.W.codeIn K cd_is_key "is_key" = true)
    (k_is_key : PySem.W.keepIn K (.ref f_is_key) = true)
    (a_check_key : PySem.W.nsIn K mainGlobals "check_key" = some (some (.ref f_check_key)))
    (l_check_key : K.lookup f_check_key = some ⟨oc_check_key, od_check_key, .func (PySem.W.fnOf "check_key" "check_key" (defArgs s_check_key) (defBody s_check_key) (defScope s_check_key) .none kV_check_key dc_check_key pm_check_key an_check_key cd_check_key ct_check_key), sl_check_key⟩)
    (c_check_key : PySem.W.codeIn K cd_check_key "check_key" = true)
    (k_check_key : PySem.W.keepIn K (.ref f_check_key) = true)
    (a_check_sequence : PySem.W.nsIn K mainGlobals "check_sequence" = some (some (.ref f_check_sequence)))
    (l_check_sequence : K.lookup f_check_sequence = some ⟨oc_check_sequence, od_check_sequence, .func (PySem.W.fnOf "check_sequence" "check_sequence" (defArgs s_check_sequence) (defBody s_check_sequence) (defScope s_check_sequence) .none kV_check_sequence dc_check_sequence pm_check_sequence an_check_sequence cd_check_sequence ct_check_sequence), sl_check_sequence⟩)
    (c_check_sequence : PySem.W.codeIn K cd_check_sequence "check_sequence" = true)
    (k_check_sequence : PySem.W.keepIn K (.ref f_check_sequence) = true)
    (a_check_some_capacity : PySem.W.nsIn K mainGlobals "check_some_capacity" = some (some (.ref f_check_some_capacity)))
    (l_check_some_capacity : K.lookup f_check_some_capacity = some ⟨oc_check_some_capacity, od_check_some_capacity, .func (PySem.W.fnOf "check_some_capacity" "check_some_capacity" (defArgs s_check_some_capacity) (defBody s_check_some_capacity) (defScope s_check_some_capacity) .none kV_check_some_capacity dc_check_some_capacity pm_check_some_capacity an_check_some_capacity cd_check_some_capacity ct_check_some_capacity), sl_check_some_capacity⟩)
    (c_check_some_capacity : PySem.W.codeIn K cd_check_some_capacity "check_some_capacity" = true)
    (k_check_some_capacity : PySem.W.keepIn K (.ref f_check_some_capacity) = true)
    (a_check_search : PySem.W.nsIn K mainGlobals "check_search" = some (some (.ref f_check_search)))
    (l_check_search : K.lookup f_check_search = some ⟨oc_check_search, od_check_search, .func (PySem.W.fnOf "check_search" "check_search" (defArgs s_check_search) (defBody s_check_search) (defScope s_check_search) .none kV_check_search dc_check_search pm_check_search an_check_search cd_check_search ct_check_search), sl_check_search⟩)
    (c_check_search : PySem.W.codeIn K cd_check_search "check_search" = true)
    (k_check_search : PySem.W.keepIn K (.ref f_check_search) = true)
    (a_listed : PySem.W.nsIn K mainGlobals "listed" = some (some (.ref f_listed)))
    (l_listed : K.lookup f_listed = some ⟨oc_listed, od_listed, .func (PySem.W.fnOf "listed" "listed" (defArgs s_listed) (defBody s_listed) (defScope s_listed) .none kV_listed dc_listed pm_listed an_listed cd_listed ct_listed), sl_listed⟩)
    (c_listed : PySem.W.codeIn K cd_listed "listed" = true)
    (k_listed : PySem.W.keepIn K (.ref f_listed) = true)
    (a_answer_configure : PySem.W.nsIn K mainGlobals "answer_configure" = some (some (.ref f_answer_configure)))
    (l_answer_configure : K.lookup f_answer_configure = some ⟨oc_answer_configure, od_answer_configure, .func (PySem.W.fnOf "answer_configure" "answer_configure" (defArgs s_answer_configure) (defBody s_answer_configure) (defScope s_answer_configure) .none kV_answer_configure dc_answer_configure pm_answer_configure an_answer_configure cd_answer_configure ct_answer_configure), sl_answer_configure⟩)
    (c_answer_configure : PySem.W.codeIn K cd_answer_configure "answer_configure" = true)
    (k_answer_configure : PySem.W.keepIn K (.ref f_answer_configure) = true)
    (a_answer_access : PySem.W.nsIn K mainGlobals "answer_access" = some (some (.ref f_answer_access)))
    (l_answer_access : K.lookup f_answer_access = some ⟨oc_answer_access, od_answer_access, .func (PySem.W.fnOf "answer_access" "answer_access" (defArgs s_answer_access) (defBody s_answer_access) (defScope s_answer_access) .none kV_answer_access dc_answer_access pm_answer_access an_answer_access cd_answer_access ct_answer_access), sl_answer_access⟩)
    (c_answer_access : PySem.W.codeIn K cd_answer_access "answer_access" = true)
    (k_answer_access : PySem.W.keepIn K (.ref f_answer_access) = true)
    (a_answer_remove : PySem.W.nsIn K mainGlobals "answer_remove" = some (some (.ref f_answer_remove)))
    (l_answer_remove : K.lookup f_answer_remove = some ⟨oc_answer_remove, od_answer_remove, .func (PySem.W.fnOf "answer_remove" "answer_remove" (defArgs s_answer_remove) (defBody s_answer_remove) (defScope s_answer_remove) .none kV_answer_remove dc_answer_remove pm_answer_remove an_answer_remove cd_answer_remove ct_answer_remove), sl_answer_remove⟩)
    (c_answer_remove : PySem.W.codeIn K cd_answer_remove "answer_remove" = true)
    (k_answer_remove : PySem.W.keepIn K (.ref f_answer_remove) = true)
    (a_answer_contents : PySem.W.nsIn K mainGlobals "answer_contents" = some (some (.ref f_answer_contents)))
    (l_answer_contents : K.lookup f_answer_contents = some ⟨oc_answer_contents, od_answer_contents, .func (PySem.W.fnOf "answer_contents" "answer_contents" (defArgs s_answer_contents) (defBody s_answer_contents) (defScope s_answer_contents) .none kV_answer_contents dc_answer_contents pm_answer_contents an_answer_contents cd_answer_contents ct_answer_contents), sl_answer_contents⟩)
    (c_answer_contents : PySem.W.codeIn K cd_answer_contents "answer_contents" = true)
    (k_answer_contents : PySem.W.keepIn K (.ref f_answer_contents) = true)
    (a_answer_next_victim : PySem.W.nsIn K mainGlobals "answer_next_victim" = some (some (.ref f_answer_next_victim)))
    (l_answer_next_victim : K.lookup f_answer_next_victim = some ⟨oc_answer_next_victim, od_answer_next_victim, .func (PySem.W.fnOf "answer_next_victim" "answer_next_victim" (defArgs s_answer_next_victim) (defBody s_answer_next_victim) (defScope s_answer_next_victim) .none kV_answer_next_victim dc_answer_next_victim pm_answer_next_victim an_answer_next_victim cd_answer_next_victim ct_answer_next_victim), sl_answer_next_victim⟩)
    (c_answer_next_victim : PySem.W.codeIn K cd_answer_next_victim "answer_next_victim" = true)
    (k_answer_next_victim : PySem.W.keepIn K (.ref f_answer_next_victim) = true)
    (a_answer_counters : PySem.W.nsIn K mainGlobals "answer_counters" = some (some (.ref f_answer_counters)))
    (l_answer_counters : K.lookup f_answer_counters = some ⟨oc_answer_counters, od_answer_counters, .func (PySem.W.fnOf "answer_counters" "answer_counters" (defArgs s_answer_counters) (defBody s_answer_counters) (defScope s_answer_counters) .none kV_answer_counters dc_answer_counters pm_answer_counters an_answer_counters cd_answer_counters ct_answer_counters), sl_answer_counters⟩)
    (c_answer_counters : PySem.W.codeIn K cd_answer_counters "answer_counters" = true)
    (k_answer_counters : PySem.W.keepIn K (.ref f_answer_counters) = true)
    (a_answer_simulate : PySem.W.nsIn K mainGlobals "answer_simulate" = some (some (.ref f_answer_simulate)))
    (l_answer_simulate : K.lookup f_answer_simulate = some ⟨oc_answer_simulate, od_answer_simulate, .func (PySem.W.fnOf "answer_simulate" "answer_simulate" (defArgs s_answer_simulate) (defBody s_answer_simulate) (defScope s_answer_simulate) .none kV_answer_simulate dc_answer_simulate pm_answer_simulate an_answer_simulate cd_answer_simulate ct_answer_simulate), sl_answer_simulate⟩)
    (c_answer_simulate : PySem.W.codeIn K cd_answer_simulate "answer_simulate" = true)
    (k_answer_simulate : PySem.W.keepIn K (.ref f_answer_simulate) = true)
    (a_answer_optimal : PySem.W.nsIn K mainGlobals "answer_optimal" = some (some (.ref f_answer_optimal)))
    (l_answer_optimal : K.lookup f_answer_optimal = some ⟨oc_answer_optimal, od_answer_optimal, .func (PySem.W.fnOf "answer_optimal" "answer_optimal" (defArgs s_answer_optimal) (defBody s_answer_optimal) (defScope s_answer_optimal) .none kV_answer_optimal dc_answer_optimal pm_answer_optimal an_answer_optimal cd_answer_optimal ct_answer_optimal), sl_answer_optimal⟩)
    (c_answer_optimal : PySem.W.codeIn K cd_answer_optimal "answer_optimal" = true)
    (k_answer_optimal : PySem.W.keepIn K (.ref f_answer_optimal) = true)
    (a_answer_farthest : PySem.W.nsIn K mainGlobals "answer_farthest" = some (some (.ref f_answer_farthest)))
    (l_answer_farthest : K.lookup f_answer_farthest = some ⟨oc_answer_farthest, od_answer_farthest, .func (PySem.W.fnOf "answer_farthest" "answer_farthest" (defArgs s_answer_farthest) (defBody s_answer_farthest) (defScope s_answer_farthest) .none kV_answer_farthest dc_answer_farthest pm_answer_farthest an_answer_farthest cd_answer_farthest ct_answer_farthest), sl_answer_farthest⟩)
    (c_answer_farthest : PySem.W.codeIn K cd_answer_farthest "answer_farthest" = true)
    (k_answer_farthest : PySem.W.keepIn K (.ref f_answer_farthest) = true)
    (a_answer_replay : PySem.W.nsIn K mainGlobals "answer_replay" = some (some (.ref f_answer_replay)))
    (l_answer_replay : K.lookup f_answer_replay = some ⟨oc_answer_replay, od_answer_replay, .func (PySem.W.fnOf "answer_replay" "answer_replay" (defArgs s_answer_replay) (defBody s_answer_replay) (defScope s_answer_replay) .none kV_answer_replay dc_answer_replay pm_answer_replay an_answer_replay cd_answer_replay ct_answer_replay), sl_answer_replay⟩)
    (c_answer_replay : PySem.W.codeIn K cd_answer_replay "answer_replay" = true)
    (k_answer_replay : PySem.W.keepIn K (.ref f_answer_replay) = true)
    (a_answer_phases : PySem.W.nsIn K mainGlobals "answer_phases" = some (some (.ref f_answer_phases)))
    (l_answer_phases : K.lookup f_answer_phases = some ⟨oc_answer_phases, od_answer_phases, .func (PySem.W.fnOf "answer_phases" "answer_phases" (defArgs s_answer_phases) (defBody s_answer_phases) (defScope s_answer_phases) .none kV_answer_phases dc_answer_phases pm_answer_phases an_answer_phases cd_answer_phases ct_answer_phases), sl_answer_phases⟩)
    (c_answer_phases : PySem.W.codeIn K cd_answer_phases "answer_phases" = true)
    (k_answer_phases : PySem.W.keepIn K (.ref f_answer_phases) = true)
    (a_answer_separate : PySem.W.nsIn K mainGlobals "answer_separate" = some (some (.ref f_answer_separate)))
    (l_answer_separate : K.lookup f_answer_separate = some ⟨oc_answer_separate, od_answer_separate, .func (PySem.W.fnOf "answer_separate" "answer_separate" (defArgs s_answer_separate) (defBody s_answer_separate) (defScope s_answer_separate) .none kV_answer_separate dc_answer_separate pm_answer_separate an_answer_separate cd_answer_separate ct_answer_separate), sl_answer_separate⟩)
    (c_answer_separate : PySem.W.codeIn K cd_answer_separate "answer_separate" = true)
    (k_answer_separate : PySem.W.keepIn K (.ref f_answer_separate) = true)
    (a_answer_worst : PySem.W.nsIn K mainGlobals "answer_worst" = some (some (.ref f_answer_worst)))
    (l_answer_worst : K.lookup f_answer_worst = some ⟨oc_answer_worst, od_answer_worst, .func (PySem.W.fnOf "answer_worst" "answer_worst" (defArgs s_answer_worst) (defBody s_answer_worst) (defScope s_answer_worst) .none kV_answer_worst dc_answer_worst pm_answer_worst an_answer_worst cd_answer_worst ct_answer_worst), sl_answer_worst⟩)
    (c_answer_worst : PySem.W.codeIn K cd_answer_worst "answer_worst" = true)
    (k_answer_worst : PySem.W.keepIn K (.ref f_answer_worst) = true)
    (a_answer_anomaly : PySem.W.nsIn K mainGlobals "answer_anomaly" = some (some (.ref f_answer_anomaly)))
    (l_answer_anomaly : K.lookup f_answer_anomaly = some ⟨oc_answer_anomaly, od_answer_anomaly, .func (PySem.W.fnOf "answer_anomaly" "answer_anomaly" (defArgs s_answer_anomaly) (defBody s_answer_anomaly) (defScope s_answer_anomaly) .none kV_answer_anomaly dc_answer_anomaly pm_answer_anomaly an_answer_anomaly cd_answer_anomaly ct_answer_anomaly), sl_answer_anomaly⟩)
    (c_answer_anomaly : PySem.W.codeIn K cd_answer_anomaly "answer_anomaly" = true)
    (k_answer_anomaly : PySem.W.keepIn K (.ref f_answer_anomaly) = true)
    (a_answer_call : PySem.W.nsIn K mainGlobals "answer_call" = some (some (.ref f_answer_call)))
    (l_answer_call : K.lookup f_answer_call = some ⟨oc_answer_call, od_answer_call, .func (PySem.W.fnOf "answer_call" "answer_call" (defArgs s_answer_call) (defBody s_answer_call) (defScope s_answer_call) .none kV_answer_call dc_answer_call pm_answer_call an_answer_call cd_answer_call ct_answer_call), sl_answer_call⟩)
    (c_answer_call : PySem.W.codeIn K cd_answer_call "answer_call" = true)
    (k_answer_call : PySem.W.keepIn K (.ref f_answer_call) = true)
    (a_answers : PySem.W.nsIn K mainGlobals "answers" = some (some (.ref f_answers)))
    (l_answers : K.lookup f_answers = some ⟨oc_answers, od_answers, .func (PySem.W.fnOf "answers" "answers" (defArgs s_answers) (defBody s_answers) (defScope s_answers) .none kV_answers dc_answers pm_answers an_answers cd_answers ct_answers), sl_answers⟩)
    (c_answers : PySem.W.codeIn K cd_answers "answers" = true)
    (k_answers : PySem.W.keepIn K (.ref f_answers) = true)
    (aC_CR : PySem.W.nsIn K mainGlobals "CallReader" = some (some (.ref CR)))
    (aC_CE : PySem.W.nsIn K mainGlobals "Entry" = some (some (.ref CE)))
    (aC_CC : PySem.W.nsIn K mainGlobals "Cache" = some (some (.ref CC)))
    (aC_CL : PySem.W.nsIn K mainGlobals "Laboratory" = some (some (.ref CL)))
    (a_CallReader_init : PySem.W.findIn K (.ref CR) "__init__" = some (some (.ref m_CallReader_init)))
    (i_CallReader_init : PySem.W.isFn K (.ref m_CallReader_init) = true)
    (l_CallReader_init : K.lookup m_CallReader_init = some ⟨oc_CallReader_init, od_CallReader_init, .func (PySem.W.fnOf "__init__" "CallReader.__init__" (defArgs s_CallReader_init) (defBody s_CallReader_init) (defScope s_CallReader_init) .none kV_CallReader_init dc_CallReader_init pm_CallReader_init an_CallReader_init cd_CallReader_init ct_CallReader_init), sl_CallReader_init⟩)
    (c_CallReader_init : PySem.W.codeIn K cd_CallReader_init "CallReader.__init__" = true)
    (k_CallReader_init : PySem.W.keepIn K (.ref m_CallReader_init) = true)
    (a_CallReader_has_more : PySem.W.findIn K (.ref CR) "has_more" = some (some (.ref m_CallReader_has_more)))
    (i_CallReader_has_more : PySem.W.isFn K (.ref m_CallReader_has_more) = true)
    (l_CallReader_has_more : K.lookup m_CallReader_has_more = some ⟨oc_CallReader_has_more, od_CallReader_has_more, .func (PySem.W.fnOf "has_more" "CallReader.has_more" (defArgs s_CallReader_has_more) (defBody s_CallReader_has_more) (defScope s_CallReader_has_more) .none kV_CallReader_has_more dc_CallReader_has_more pm_CallReader_has_more an_CallReader_has_more cd_CallReader_has_more ct_CallReader_has_more), sl_CallReader_has_more⟩)
    (c_CallReader_has_more : PySem.W.codeIn K cd_CallReader_has_more "CallReader.has_more" = true)
    (k_CallReader_has_more : PySem.W.keepIn K (.ref m_CallReader_has_more) = true)
    (a_CallReader_take_number : PySem.W.findIn K (.ref CR) "take_number" = some (some (.ref m_CallReader_take_number)))
    (i_CallReader_take_number : PySem.W.isFn K (.ref m_CallReader_take_number) = true)
    (l_CallReader_take_number : K.lookup m_CallReader_take_number = some ⟨oc_CallReader_take_number, od_CallReader_take_number, .func (PySem.W.fnOf "take_number" "CallReader.take_number" (defArgs s_CallReader_take_number) (defBody s_CallReader_take_number) (defScope s_CallReader_take_number) .none kV_CallReader_take_number dc_CallReader_take_number pm_CallReader_take_number an_CallReader_take_number cd_CallReader_take_number ct_CallReader_take_number), sl_CallReader_take_number⟩)
    (c_CallReader_take_number : PySem.W.codeIn K cd_CallReader_take_number "CallReader.take_number" = true)
    (k_CallReader_take_number : PySem.W.keepIn K (.ref m_CallReader_take_number) = true)
    (a_CallReader_take_row : PySem.W.findIn K (.ref CR) "take_row" = some (some (.ref m_CallReader_take_row)))
    (i_CallReader_take_row : PySem.W.isFn K (.ref m_CallReader_take_row) = true)
    (l_CallReader_take_row : K.lookup m_CallReader_take_row = some ⟨oc_CallReader_take_row, od_CallReader_take_row, .func (PySem.W.fnOf "take_row" "CallReader.take_row" (defArgs s_CallReader_take_row) (defBody s_CallReader_take_row) (defScope s_CallReader_take_row) .none kV_CallReader_take_row dc_CallReader_take_row pm_CallReader_take_row an_CallReader_take_row cd_CallReader_take_row ct_CallReader_take_row), sl_CallReader_take_row⟩)
    (c_CallReader_take_row : PySem.W.codeIn K cd_CallReader_take_row "CallReader.take_row" = true)
    (k_CallReader_take_row : PySem.W.keepIn K (.ref m_CallReader_take_row) = true)
    (a_Entry_init : PySem.W.findIn K (.ref CE) "__init__" = some (some (.ref m_Entry_init)))
    (i_Entry_init : PySem.W.isFn K (.ref m_Entry_init) = true)
    (l_Entry_init : K.lookup m_Entry_init = some ⟨oc_Entry_init, od_Entry_init, .func (PySem.W.fnOf "__init__" "Entry.__init__" (defArgs s_Entry_init) (defBody s_Entry_init) (defScope s_Entry_init) .none kV_Entry_init dc_Entry_init pm_Entry_init an_Entry_init cd_Entry_init ct_Entry_init), sl_Entry_init⟩)
    (c_Entry_init : PySem.W.codeIn K cd_Entry_init "Entry.__init__" = true)
    (k_Entry_init : PySem.W.keepIn K (.ref m_Entry_init) = true)
    (a_Cache_init : PySem.W.findIn K (.ref CC) "__init__" = some (some (.ref m_Cache_init)))
    (i_Cache_init : PySem.W.isFn K (.ref m_Cache_init) = true)
    (l_Cache_init : K.lookup m_Cache_init = some ⟨oc_Cache_init, od_Cache_init, .func (PySem.W.fnOf "__init__" "Cache.__init__" (defArgs s_Cache_init) (defBody s_Cache_init) (defScope s_Cache_init) .none kV_Cache_init dc_Cache_init pm_Cache_init an_Cache_init cd_Cache_init ct_Cache_init), sl_Cache_init⟩)
    (c_Cache_init : PySem.W.codeIn K cd_Cache_init "Cache.__init__" = true)
    (k_Cache_init : PySem.W.keepIn K (.ref m_Cache_init) = true)
    (a_Cache_entry_of : PySem.W.findIn K (.ref CC) "entry_of" = some (some (.ref m_Cache_entry_of)))
    (i_Cache_entry_of : PySem.W.isFn K (.ref m_Cache_entry_of) = true)
    (l_Cache_entry_of : K.lookup m_Cache_entry_of = some ⟨oc_Cache_entry_of, od_Cache_entry_of, .func (PySem.W.fnOf "entry_of" "Cache.entry_of" (defArgs s_Cache_entry_of) (defBody s_Cache_entry_of) (defScope s_Cache_entry_of) .none kV_Cache_entry_of dc_Cache_entry_of pm_Cache_entry_of an_Cache_entry_of cd_Cache_entry_of ct_Cache_entry_of), sl_Cache_entry_of⟩)
    (c_Cache_entry_of : PySem.W.codeIn K cd_Cache_entry_of "Cache.entry_of" = true)
    (k_Cache_entry_of : PySem.W.keepIn K (.ref m_Cache_entry_of) = true)
    (a_Cache_holds : PySem.W.findIn K (.ref CC) "holds" = some (some (.ref m_Cache_holds)))
    (i_Cache_holds : PySem.W.isFn K (.ref m_Cache_holds) = true)
    (l_Cache_holds : K.lookup m_Cache_holds = some ⟨oc_Cache_holds, od_Cache_holds, .func (PySem.W.fnOf "holds" "Cache.holds" (defArgs s_Cache_holds) (defBody s_Cache_holds) (defScope s_Cache_holds) .none kV_Cache_holds dc_Cache_holds pm_Cache_holds an_Cache_holds cd_Cache_holds ct_Cache_holds), sl_Cache_holds⟩)
    (c_Cache_holds : PySem.W.codeIn K cd_Cache_holds "Cache.holds" = true)
    (k_Cache_holds : PySem.W.keepIn K (.ref m_Cache_holds) = true)
    (a_Cache_cached_keys : PySem.W.findIn K (.ref CC) "cached_keys" = some (some (.ref m_Cache_cached_keys)))
    (i_Cache_cached_keys : PySem.W.isFn K (.ref m_Cache_cached_keys) = true)
    (l_Cache_cached_keys : K.lookup m_Cache_cached_keys = some ⟨oc_Cache_cached_keys, od_Cache_cached_keys, .func (PySem.W.fnOf "cached_keys" "Cache.cached_keys" (defArgs s_Cache_cached_keys) (defBody s_Cache_cached_keys) (defScope s_Cache_cached_keys) .none kV_Cache_cached_keys dc_Cache_cached_keys pm_Cache_cached_keys an_Cache_cached_keys cd_Cache_cached_keys ct_Cache_cached_keys), sl_Cache_cached_keys⟩)
    (c_Cache_cached_keys : PySem.W.codeIn K cd_Cache_cached_keys "Cache.cached_keys" = true)
    (k_Cache_cached_keys : PySem.W.keepIn K (.ref m_Cache_cached_keys) = true)
    (a_Cache_access_number : PySem.W.findIn K (.ref CC) "access_number" = some (some (.ref m_Cache_access_number)))
    (i_Cache_access_number : PySem.W.isFn K (.ref m_Cache_access_number) = true)
    (l_Cache_access_number : K.lookup m_Cache_access_number = some ⟨oc_Cache_access_number, od_Cache_access_number, .func (PySem.W.fnOf "access_number" "Cache.access_number" (defArgs s_Cache_access_number) (defBody s_Cache_access_number) (defScope s_Cache_access_number) .none kV_Cache_access_number dc_Cache_access_number pm_Cache_access_number an_Cache_access_number cd_Cache_access_number ct_Cache_access_number), sl_Cache_access_number⟩)
    (c_Cache_access_number : PySem.W.codeIn K cd_Cache_access_number "Cache.access_number" = true)
    (k_Cache_access_number : PySem.W.keepIn K (.ref m_Cache_access_number) = true)
    (a_Cache_access : PySem.W.findIn K (.ref CC) "access" = some (some (.ref m_Cache_access)))
    (i_Cache_access : PySem.W.isFn K (.ref m_Cache_access) = true)
    (l_Cache_access : K.lookup m_Cache_access = some ⟨oc_Cache_access, od_Cache_access, .func (PySem.W.fnOf "access" "Cache.access" (defArgs s_Cache_access) (defBody s_Cache_access) (defScope s_Cache_access) .none kV_Cache_access dc_Cache_access pm_Cache_access an_Cache_access cd_Cache_access ct_Cache_access), sl_Cache_access⟩)
    (c_Cache_access : PySem.W.codeIn K cd_Cache_access "Cache.access" = true)
    (k_Cache_access : PySem.W.keepIn K (.ref m_Cache_access) = true)
    (a_Cache_take_in : PySem.W.findIn K (.ref CC) "take_in" = some (some (.ref m_Cache_take_in)))
    (i_Cache_take_in : PySem.W.isFn K (.ref m_Cache_take_in) = true)
    (l_Cache_take_in : K.lookup m_Cache_take_in = some ⟨oc_Cache_take_in, od_Cache_take_in, .func (PySem.W.fnOf "take_in" "Cache.take_in" (defArgs s_Cache_take_in) (defBody s_Cache_take_in) (defScope s_Cache_take_in) .none kV_Cache_take_in dc_Cache_take_in pm_Cache_take_in an_Cache_take_in cd_Cache_take_in ct_Cache_take_in), sl_Cache_take_in⟩)
    (c_Cache_take_in : PySem.W.codeIn K cd_Cache_take_in "Cache.take_in" = true)
    (k_Cache_take_in : PySem.W.keepIn K (.ref m_Cache_take_in) = true)
    (a_Cache_make_room : PySem.W.findIn K (.ref CC) "make_room" = some (some (.ref m_Cache_make_room)))
    (i_Cache_make_room : PySem.W.isFn K (.ref m_Cache_make_room) = true)
    (l_Cache_make_room : K.lookup m_Cache_make_room = some ⟨oc_Cache_make_room, od_Cache_make_room, .func (PySem.W.fnOf "make_room" "Cache.make_room" (defArgs s_Cache_make_room) (defBody s_Cache_make_room) (defScope s_Cache_make_room) .none kV_Cache_make_room dc_Cache_make_room pm_Cache_make_room an_Cache_make_room cd_Cache_make_room ct_Cache_make_room), sl_Cache_make_room⟩)
    (c_Cache_make_room : PySem.W.codeIn K cd_Cache_make_room "Cache.make_room" = true)
    (k_Cache_make_room : PySem.W.keepIn K (.ref m_Cache_make_room) = true)
    (a_Cache_next_victim : PySem.W.findIn K (.ref CC) "next_victim" = some (some (.ref m_Cache_next_victim)))
    (i_Cache_next_victim : PySem.W.isFn K (.ref m_Cache_next_victim) = true)
    (l_Cache_next_victim : K.lookup m_Cache_next_victim = some ⟨oc_Cache_next_victim, od_Cache_next_victim, .func (PySem.W.fnOf "next_victim" "Cache.next_victim" (defArgs s_Cache_next_victim) (defBody s_Cache_next_victim) (defScope s_Cache_next_victim) .none kV_Cache_next_victim dc_Cache_next_victim pm_Cache_next_victim an_Cache_next_victim cd_Cache_next_victim ct_Cache_next_victim), sl_Cache_next_victim⟩)
    (c_Cache_next_victim : PySem.W.codeIn K cd_Cache_next_victim "Cache.next_victim" = true)
    (k_Cache_next_victim : PySem.W.keepIn K (.ref m_Cache_next_victim) = true)
    (a_Cache_give_second_chances : PySem.W.findIn K (.ref CC) "give_second_chances" = some (some (.ref m_Cache_give_second_chances)))
    (i_Cache_give_second_chances : PySem.W.isFn K (.ref m_Cache_give_second_chances) = true)
    (l_Cache_give_second_chances : K.lookup m_Cache_give_second_chances = some ⟨oc_Cache_give_second_chances, od_Cache_give_second_chances, .func (PySem.W.fnOf "give_second_chances" "Cache.give_second_chances" (defArgs s_Cache_give_second_chances) (defBody s_Cache_give_second_chances) (defScope s_Cache_give_second_chances) .none kV_Cache_give_second_chances dc_Cache_give_second_chances pm_Cache_give_second_chances an_Cache_give_second_chances cd_Cache_give_second_chances ct_Cache_give_second_chances), sl_Cache_give_second_chances⟩)
    (c_Cache_give_second_chances : PySem.W.codeIn K cd_Cache_give_second_chances "Cache.give_second_chances" = true)
    (k_Cache_give_second_chances : PySem.W.keepIn K (.ref m_Cache_give_second_chances) = true)
    (a_Cache_remove_key : PySem.W.findIn K (.ref CC) "remove_key" = some (some (.ref m_Cache_remove_key)))
    (i_Cache_remove_key : PySem.W.isFn K (.ref m_Cache_remove_key) = true)
    (l_Cache_remove_key : K.lookup m_Cache_remove_key = some ⟨oc_Cache_remove_key, od_Cache_remove_key, .func (PySem.W.fnOf "remove_key" "Cache.remove_key" (defArgs s_Cache_remove_key) (defBody s_Cache_remove_key) (defScope s_Cache_remove_key) .none kV_Cache_remove_key dc_Cache_remove_key pm_Cache_remove_key an_Cache_remove_key cd_Cache_remove_key ct_Cache_remove_key), sl_Cache_remove_key⟩)
    (c_Cache_remove_key : PySem.W.codeIn K cd_Cache_remove_key "Cache.remove_key" = true)
    (k_Cache_remove_key : PySem.W.keepIn K (.ref m_Cache_remove_key) = true)
    (a_Laboratory_init : PySem.W.findIn K (.ref CL) "__init__" = some (some (.ref m_Laboratory_init)))
    (i_Laboratory_init : PySem.W.isFn K (.ref m_Laboratory_init) = true)
    (l_Laboratory_init : K.lookup m_Laboratory_init = some ⟨oc_Laboratory_init, od_Laboratory_init, .func (PySem.W.fnOf "__init__" "Laboratory.__init__" (defArgs s_Laboratory_init) (defBody s_Laboratory_init) (defScope s_Laboratory_init) .none kV_Laboratory_init dc_Laboratory_init pm_Laboratory_init an_Laboratory_init cd_Laboratory_init ct_Laboratory_init), sl_Laboratory_init⟩)
    (c_Laboratory_init : PySem.W.codeIn K cd_Laboratory_init "Laboratory.__init__" = true)
    (k_Laboratory_init : PySem.W.keepIn K (.ref m_Laboratory_init) = true)
    (pg_CR : PySem.W.plainGet K CR Str.empty = true)
    (hd_CR : PySem.W.hasDictIn K CR = true)
    (po_CR : PySem.W.plainOver K CR = true)
    (sa_CR : PySem.W.findIn K (.ref CR) "__setattr__" = some (some (.builtin "object.__setattr__")))
    (mk_CR : PySem.W.makesIn K CR = true)
    (kp_CR : PySem.W.keepIn K (.ref CR) = true)
    (n_CR_calls : PySem.W.findIn K (.ref CR) "calls" = some none)
    (n_CR_position : PySem.W.findIn K (.ref CR) "position" = some none)
    (pg_CE : PySem.W.plainGet K CE Str.empty = true)
    (hd_CE : PySem.W.hasDictIn K CE = true)
    (po_CE : PySem.W.plainOver K CE = true)
    (sa_CE : PySem.W.findIn K (.ref CE) "__setattr__" = some (some (.builtin "object.__setattr__")))
    (mk_CE : PySem.W.makesIn K CE = true)
    (kp_CE : PySem.W.keepIn K (.ref CE) = true)
    (n_CE_key : PySem.W.findIn K (.ref CE) "key" = some none)
    (n_CE_last_use : PySem.W.findIn K (.ref CE) "last_use" = some none)
    (n_CE_use_count : PySem.W.findIn K (.ref CE) "use_count" = some none)
    (n_CE_reference_bit : PySem.W.findIn K (.ref CE) "reference_bit" = some none)
    (pg_CC : PySem.W.plainGet K CC Str.empty = true)
    (hd_CC : PySem.W.hasDictIn K CC = true)
    (po_CC : PySem.W.plainOver K CC = true)
    (sa_CC : PySem.W.findIn K (.ref CC) "__setattr__" = some (some (.builtin "object.__setattr__")))
    (mk_CC : PySem.W.makesIn K CC = true)
    (kp_CC : PySem.W.keepIn K (.ref CC) = true)
    (n_CC_capacity : PySem.W.findIn K (.ref CC) "capacity" = some none)
    (n_CC_policy : PySem.W.findIn K (.ref CC) "policy" = some none)
    (n_CC_entries : PySem.W.findIn K (.ref CC) "entries" = some none)
    (n_CC_hits : PySem.W.findIn K (.ref CC) "hits" = some none)
    (n_CC_misses : PySem.W.findIn K (.ref CC) "misses" = some none)
    (pg_CL : PySem.W.plainGet K CL Str.empty = true)
    (hd_CL : PySem.W.hasDictIn K CL = true)
    (po_CL : PySem.W.plainOver K CL = true)
    (sa_CL : PySem.W.findIn K (.ref CL) "__setattr__" = some (some (.builtin "object.__setattr__")))
    (mk_CL : PySem.W.makesIn K CL = true)
    (kp_CL : PySem.W.keepIn K (.ref CL) = true)
    (n_CL_cache : PySem.W.findIn K (.ref CL) "cache" = some none)
    (gE1 : PySem.W.nsIn K mainGlobals "CapacityRefused" = some (some (.ref e1)))
    (xE1 : PySem.W.excIn K e1 [.type "Exception", .type "BaseException", .type "object"] "Exception.__new__" = true)
    (kE1 : PySem.W.keepIn K (.ref e1) = true)
    (bE1 : PySem.W.subIn K (.ref e1) (.type "BaseException") = some true)
    (tE1 : PySem.W.typeIn K (.ref e1) = some (.type "type"))
    (iE1 : PySem.W.isClsIn K e1 = true)
    (gE2 : PySem.W.nsIn K mainGlobals "PolicyRefused" = some (some (.ref e2)))
    (xE2 : PySem.W.excIn K e2 [.type "Exception", .type "BaseException", .type "object"] "Exception.__new__" = true)
    (kE2 : PySem.W.keepIn K (.ref e2) = true)
    (bE2 : PySem.W.subIn K (.ref e2) (.type "BaseException") = some true)
    (tE2 : PySem.W.typeIn K (.ref e2) = some (.type "type"))
    (iE2 : PySem.W.isClsIn K e2 = true)
    (gE3 : PySem.W.nsIn K mainGlobals "KeyRefused" = some (some (.ref e3)))
    (xE3 : PySem.W.excIn K e3 [.type "Exception", .type "BaseException", .type "object"] "Exception.__new__" = true)
    (kE3 : PySem.W.keepIn K (.ref e3) = true)
    (bE3 : PySem.W.subIn K (.ref e3) (.type "BaseException") = some true)
    (tE3 : PySem.W.typeIn K (.ref e3) = some (.type "type"))
    (iE3 : PySem.W.isClsIn K e3 = true)
    (gE4 : PySem.W.nsIn K mainGlobals "SequenceRefused" = some (some (.ref e4)))
    (xE4 : PySem.W.excIn K e4 [.type "Exception", .type "BaseException", .type "object"] "Exception.__new__" = true)
    (kE4 : PySem.W.keepIn K (.ref e4) = true)
    (bE4 : PySem.W.subIn K (.ref e4) (.type "BaseException") = some true)
    (tE4 : PySem.W.typeIn K (.ref e4) = some (.type "type"))
    (iE4 : PySem.W.isClsIn K e4 = true)
    (gE5 : PySem.W.nsIn K mainGlobals "NoCapacityRefused" = some (some (.ref e5)))
    (xE5 : PySem.W.excIn K e5 [.type "Exception", .type "BaseException", .type "object"] "Exception.__new__" = true)
    (kE5 : PySem.W.keepIn K (.ref e5) = true)
    (bE5 : PySem.W.subIn K (.ref e5) (.type "BaseException") = some true)
    (tE5 : PySem.W.typeIn K (.ref e5) = some (.type "type"))
    (iE5 : PySem.W.isClsIn K e5 = true)
    (gE6 : PySem.W.nsIn K mainGlobals "SearchRefused" = some (some (.ref e6)))
    (xE6 : PySem.W.excIn K e6 [.type "Exception", .type "BaseException", .type "object"] "Exception.__new__" = true)
    (kE6 : PySem.W.keepIn K (.ref e6) = true)
    (bE6 : PySem.W.subIn K (.ref e6) (.type "BaseException") = some true)
    (tE6 : PySem.W.typeIn K (.ref e6) = some (.type "type"))
    (iE6 : PySem.W.isClsIn K e6 = true)
    (s11 : PySem.W.subIn K (.ref e1) (.ref e1) = some true)
    (s12 : PySem.W.subIn K (.ref e1) (.ref e2) = some false)
    (s13 : PySem.W.subIn K (.ref e1) (.ref e3) = some false)
    (s14 : PySem.W.subIn K (.ref e1) (.ref e4) = some false)
    (s15 : PySem.W.subIn K (.ref e1) (.ref e5) = some false)
    (s16 : PySem.W.subIn K (.ref e1) (.ref e6) = some false)
    (s21 : PySem.W.subIn K (.ref e2) (.ref e1) = some false)
    (s22 : PySem.W.subIn K (.ref e2) (.ref e2) = some true)
    (s23 : PySem.W.subIn K (.ref e2) (.ref e3) = some false)
    (s24 : PySem.W.subIn K (.ref e2) (.ref e4) = some false)
    (s25 : PySem.W.subIn K (.ref e2) (.ref e5) = some false)
    (s26 : PySem.W.subIn K (.ref e2) (.ref e6) = some false)
    (s31 : PySem.W.subIn K (.ref e3) (.ref e1) = some false)
    (s32 : PySem.W.subIn K (.ref e3) (.ref e2) = some false)
    (s33 : PySem.W.subIn K (.ref e3) (.ref e3) = some true)
    (s34 : PySem.W.subIn K (.ref e3) (.ref e4) = some false)
    (s35 : PySem.W.subIn K (.ref e3) (.ref e5) = some false)
    (s36 : PySem.W.subIn K (.ref e3) (.ref e6) = some false)
    (s41 : PySem.W.subIn K (.ref e4) (.ref e1) = some false)
    (s42 : PySem.W.subIn K (.ref e4) (.ref e2) = some false)
    (s43 : PySem.W.subIn K (.ref e4) (.ref e3) = some false)
    (s44 : PySem.W.subIn K (.ref e4) (.ref e4) = some true)
    (s45 : PySem.W.subIn K (.ref e4) (.ref e5) = some false)
    (s46 : PySem.W.subIn K (.ref e4) (.ref e6) = some false)
    (s51 : PySem.W.subIn K (.ref e5) (.ref e1) = some false)
    (s52 : PySem.W.subIn K (.ref e5) (.ref e2) = some false)
    (s53 : PySem.W.subIn K (.ref e5) (.ref e3) = some false)
    (s54 : PySem.W.subIn K (.ref e5) (.ref e4) = some false)
    (s55 : PySem.W.subIn K (.ref e5) (.ref e5) = some true)
    (s56 : PySem.W.subIn K (.ref e5) (.ref e6) = some false)
    (s61 : PySem.W.subIn K (.ref e6) (.ref e1) = some false)
    (s62 : PySem.W.subIn K (.ref e6) (.ref e2) = some false)
    (s63 : PySem.W.subIn K (.ref e6) (.ref e3) = some false)
    (s64 : PySem.W.subIn K (.ref e6) (.ref e4) = some false)
    (s65 : PySem.W.subIn K (.ref e6) (.ref e5) = some false)
    (s66 : PySem.W.subIn K (.ref e6) (.ref e6) = some true)
    (g_SECOND_CHANCE : ∃ t, PySem.W.nsIn K mainGlobals "SECOND_CHANCE" = some (some (.int 4 t)))
    (g_MAX_CAPACITY : ∃ t, PySem.W.nsIn K mainGlobals "MAX_CAPACITY" = some (some (.int 6 t)))
    (g_MAX_POLICY : ∃ t, PySem.W.nsIn K mainGlobals "MAX_POLICY" = some (some (.int 4 t)))
    (g_MAX_KEY : ∃ t, PySem.W.nsIn K mainGlobals "MAX_KEY" = some (some (.int 9 t)))
    (g_MAX_LENGTH : ∃ t, PySem.W.nsIn K mainGlobals "MAX_LENGTH" = some (some (.int 30 t)))
    (g_MAX_BOUND_SEPARATE : ∃ t, PySem.W.nsIn K mainGlobals "MAX_BOUND_SEPARATE" = some (some (.int 4 t)))
    (g_MAX_BOUND_WORST : ∃ t, PySem.W.nsIn K mainGlobals "MAX_BOUND_WORST" = some (some (.int 3 t)))
    (g_MAX_LENGTH_SEARCHED : ∃ t, PySem.W.nsIn K mainGlobals "MAX_LENGTH_SEARCHED" = some (some (.int 6 t)))
    (n_len : PySem.W.nsIn K mainGlobals "len" = some none)
    (n_min : PySem.W.nsIn K mainGlobals "min" = some none)
    (n_max : PySem.W.nsIn K mainGlobals "max" = some none)
    (n_tuple : PySem.W.nsIn K mainGlobals "tuple" = some none)
    (n_sorted : PySem.W.nsIn K mainGlobals "sorted" = some none)
    (n_enumerate : PySem.W.nsIn K mainGlobals "enumerate" = some none)
    (n_set : PySem.W.nsIn K mainGlobals "set" = some none)
    (n_range : PySem.W.nsIn K mainGlobals "range" = some none)
    (gV : PySem.W.nsIn K mainGlobals "VICTIM_CHOICES" = some (some (.ref dV)))
    (gO : PySem.W.nsIn K mainGlobals "OPERATIONS" = some (some (.ref dO)))
    (dV_l : K.lookup dV = some ⟨.type "dict", none, .dict esV nnV, #[]⟩)
    (dV_p : Paired (fun (e : DictEntry) (p : Int × Addr) => e.hash = hashInt p.1 ∧ (∃ t, e.key = .int p.1 t) ∧ e.val = .ref p.2) esV.toList [(0, f_first_listed), (1, f_least_recently_used), (2, f_most_recently_used), (3, f_least_frequently_used), (4, f_first_without_bit)])
    (dO_l : K.lookup dO = some ⟨.type "dict", none, .dict esO nnO, #[]⟩)
    (dO_p : Paired (fun (e : DictEntry) (p : Int × Addr) => e.hash = hashInt p.1 ∧ (∃ t, e.key = .int p.1 t) ∧ e.val = .ref p.2) esO.toList [(0, f_answer_configure), (1, f_answer_access), (2, f_answer_remove), (3, f_answer_contents), (4, f_answer_next_victim), (5, f_answer_counters), (6, f_answer_simulate), (7, f_answer_optimal), (8, f_answer_farthest), (9, f_answer_replay), (10, f_answer_phases), (11, f_answer_separate), (12, f_answer_worst), (13, f_answer_anomaly)])
    : ∃ fd : FuncData, (∀ (s : Shared) (us : List Value), us.length = (["calls"] : List Str).length → BindsTo s fd ⟨us, []⟩ ((["calls"] : List Str).zip us)) ∧ ∀ base : Heap, K.In base → base.Ns mainGlobals mg → (∀ p ∈ [(cF, Pt)], TabB base mg p.1 p.2) → FnOk P w K mg base CX0 31 fa fd ["calls"] (spAns ⟨0, 0, 0, 0, fun _ => 0, Pt⟩ K) := by
  have ea := hfa.symm.trans (PySem.W.mg_of X G a_answers)
  cases ea
  have F_must_evict := fun_mk (st := s_must_evict) l_must_evict c_must_evict k_must_evict
  have B_must_evict := F_must_evict.binds (ps := ["capacity", "cached", "key"]) fun _ _ _ _ _ _ us hl => match us, hl with | [_, _, _], _ => rfl
  have T_must_evict : FnAt K mg "must_evict" s_must_evict ["capacity", "cached", "key"] := fn_at X G a_must_evict F_must_evict B_must_evict
  have F_without_key := fun_mk (st := s_without_key) l_without_key c_without_key k_without_key
  have B_without_key := F_without_key.binds (ps := ["cached", "victim"]) fun _ _ _ _ _ _ us hl => match us, hl with | [_, _], _ => rfl
  have T_without_key : FnAt K mg "without_key" s_without_key ["cached", "victim"] := fn_at X G a_without_key F_without_key B_without_key
  have F_with_key := fun_mk (st := s_with_key) l_with_key c_with_key k_with_key
  have B_with_key := F_with_key.binds (ps := ["capacity", "cached", "key"]) fun _ _ _ _ _ _ us hl => match us, hl with | [_, _, _], _ => rfl
  have T_with_key : FnAt K mg "with_key" s_with_key ["capacity", "cached", "key"] := fn_at X G a_with_key F_with_key B_with_key
  have F_missed := fun_mk (st := s_missed) l_missed c_missed k_missed
  have B_missed := F_missed.binds (ps := ["cached", "key"]) fun _ _ _ _ _ _ us hl => match us, hl with | [_, _], _ => rfl
  have T_missed : FnAt K mg "missed" s_missed ["cached", "key"] := fn_at X G a_missed F_missed B_missed
  have F_replayed := fun_mk (st := s_replayed) l_replayed c_replayed k_replayed
  have B_replayed := F_replayed.binds (ps := ["capacity", "sequence", "evictions"]) fun _ _ _ _ _ _ us hl => match us, hl with | [_, _, _], _ => rfl
  have T_replayed : FnAt K mg "replayed" s_replayed ["capacity", "sequence", "evictions"] := fn_at X G a_replayed F_replayed B_replayed
  have F_accesses_until := fun_mk (st := s_accesses_until) l_accesses_until c_accesses_until k_accesses_until
  have B_accesses_until := F_accesses_until.binds (ps := ["key", "upcoming"]) fun _ _ _ _ _ _ us hl => match us, hl with | [_, _], _ => rfl
  have T_accesses_until : FnAt K mg "accesses_until" s_accesses_until ["key", "upcoming"] := fn_at X G a_accesses_until F_accesses_until B_accesses_until
  have F_farthest_key := fun_mk (st := s_farthest_key) l_farthest_key c_farthest_key k_farthest_key
  have B_farthest_key := F_farthest_key.binds (ps := ["cached", "upcoming"]) fun _ _ _ _ _ _ us hl => match us, hl with | [_, _], _ => rfl
  have F_belady_evictions := fun_mk (st := s_belady_evictions) l_belady_evictions c_belady_evictions k_belady_evictions
  have B_belady_evictions := F_belady_evictions.binds (ps := ["capacity", "sequence"]) fun _ _ _ _ _ _ us hl => match us, hl with | [_, _], _ => rfl
  have T_belady_evictions : FnAt K mg "belady_evictions" s_belady_evictions ["capacity", "sequence"] := fn_at X G a_belady_evictions F_belady_evictions B_belady_evictions
  have F_keep_better := fun_mk (st := s_keep_better) l_keep_better c_keep_better k_keep_better
  have B_keep_better := F_keep_better.binds (ps := ["ways", "cached", "way"]) fun _ _ _ _ _ _ us hl => match us, hl with | [_, _, _], _ => rfl
  have T_keep_better : FnAt K mg "keep_better" s_keep_better ["ways", "cached", "way"] := fn_at X G a_keep_better F_keep_better B_keep_better
  have F_ways_after := fun_mk (st := s_ways_after) l_ways_after c_ways_after k_ways_after
  have B_ways_after := F_ways_after.binds (ps := ["ways", "capacity", "key"]) fun _ _ _ _ _ _ us hl => match us, hl with | [_, _, _], _ => rfl
  have T_ways_after : FnAt K mg "ways_after" s_ways_after ["ways", "capacity", "key"] := fn_at X G a_ways_after F_ways_after B_ways_after
  have F_optimal_evictions := fun_mk (st := s_optimal_evictions) l_optimal_evictions c_optimal_evictions k_optimal_evictions
  have B_optimal_evictions := F_optimal_evictions.binds (ps := ["capacity", "sequence"]) fun _ _ _ _ _ _ us hl => match us, hl with | [_, _], _ => rfl
  have T_optimal_evictions : FnAt K mg "optimal_evictions" s_optimal_evictions ["capacity", "sequence"] := fn_at X G a_optimal_evictions F_optimal_evictions B_optimal_evictions
  have F_phase_starts := fun_mk (st := s_phase_starts) l_phase_starts c_phase_starts k_phase_starts
  have B_phase_starts := F_phase_starts.binds (ps := ["capacity", "sequence"]) fun _ _ _ _ _ _ us hl => match us, hl with | [_, _], _ => rfl
  have T_phase_starts : FnAt K mg "phase_starts" s_phase_starts ["capacity", "sequence"] := fn_at X G a_phase_starts F_phase_starts B_phase_starts
  have F_last_use_of := fun_mk (st := s_last_use_of) l_last_use_of c_last_use_of k_last_use_of
  have B_last_use_of := F_last_use_of.binds (ps := ["entry"]) fun _ _ _ _ _ _ us hl => match us, hl with | [_], _ => rfl
  have T_last_use_of : FnAt K mg "last_use_of" s_last_use_of ["entry"] := fn_at X G a_last_use_of F_last_use_of B_last_use_of
  have F_use_count_and_last_use_of := fun_mk (st := s_use_count_and_last_use_of) l_use_count_and_last_use_of c_use_count_and_last_use_of k_use_count_and_last_use_of
  have B_use_count_and_last_use_of := F_use_count_and_last_use_of.binds (ps := ["entry"]) fun _ _ _ _ _ _ us hl => match us, hl with | [_], _ => rfl
  have T_use_count_and_last_use_of : FnAt K mg "use_count_and_last_use_of" s_use_count_and_last_use_of ["entry"] := fn_at X G a_use_count_and_last_use_of F_use_count_and_last_use_of B_use_count_and_last_use_of
  have F_first_listed := fun_mk (st := s_first_listed) l_first_listed c_first_listed k_first_listed
  have B_first_listed := F_first_listed.binds (ps := ["entries"]) fun _ _ _ _ _ _ us hl => match us, hl with | [_], _ => rfl
  have T_first_listed : FnAt K mg "first_listed" s_first_listed ["entries"] := fn_at X G a_first_listed F_first_listed B_first_listed
  have F_least_recently_used := fun_mk (st := s_least_recently_used) l_least_recently_used c_least_recently_used k_least_recently_used
  have B_least_recently_used := F_least_recently_used.binds (ps := ["entries"]) fun _ _ _ _ _ _ us hl => match us, hl with | [_], _ => rfl
  have T_least_recently_used : FnAt K mg "least_recently_used" s_least_recently_used ["entries"] := fn_at X G a_least_recently_used F_least_recently_used B_least_recently_used
  have F_most_recently_used := fun_mk (st := s_most_recently_used) l_most_recently_used c_most_recently_used k_most_recently_used
  have B_most_recently_used := F_most_recently_used.binds (ps := ["entries"]) fun _ _ _ _ _ _ us hl => match us, hl with | [_], _ => rfl
  have T_most_recently_used : FnAt K mg "most_recently_used" s_most_recently_used ["entries"] := fn_at X G a_most_recently_used F_most_recently_used B_most_recently_used
  have F_least_frequently_used := fun_mk (st := s_least_frequently_used) l_least_frequently_used c_least_frequently_used k_least_frequently_used
  have B_least_frequently_used := F_least_frequently_used.binds (ps := ["entries"]) fun _ _ _ _ _ _ us hl => match us, hl with | [_], _ => rfl
  have T_least_frequently_used : FnAt K mg "least_frequently_used" s_least_frequently_used ["entries"] := fn_at X G a_least_frequently_used F_least_frequently_used B_least_frequently_used
  have F_first_without_bit := fun_mk (st := s_first_without_bit) l_first_without_bit c_first_without_bit k_first_without_bit
  have B_first_without_bit := F_first_without_bit.binds (ps := ["entries"]) fun _ _ _ _ _ _ us hl => match us, hl with | [_], _ => rfl
  have T_first_without_bit : FnAt K mg "first_without_bit" s_first_without_bit ["entries"] := fn_at X G a_first_without_bit F_first_without_bit B_first_without_bit
  have F_cache_after := fun_mk (st := s_cache_after) l_cache_after c_cache_after k_cache_after
  have B_cache_after := F_cache_after.binds (ps := ["capacity", "policy", "sequence"]) fun _ _ _ _ _ _ us hl => match us, hl with | [_, _, _], _ => rfl
  have T_cache_after : FnAt K mg "cache_after" s_cache_after ["capacity", "policy", "sequence"] := fn_at X G a_cache_after F_cache_after B_cache_after
  have F_renamed_sequences := fun_mk (st := s_renamed_sequences) l_renamed_sequences c_renamed_sequences k_renamed_sequences
  have B_renamed_sequences := F_renamed_sequences.binds (ps := ["key_bound", "length"]) fun _ _ _ _ _ _ us hl => match us, hl with | [_, _], _ => rfl
  have T_renamed_sequences : FnAt K mg "renamed_sequences" s_renamed_sequences ["key_bound", "length"] := fn_at X G a_renamed_sequences F_renamed_sequences B_renamed_sequences
  have F_misses_of := fun_mk (st := s_misses_of) l_misses_of c_misses_of k_misses_of
  have B_misses_of := F_misses_of.binds (ps := ["policy", "capacity", "sequence"]) fun _ _ _ _ _ _ us hl => match us, hl with | [_, _, _], _ => rfl
  have T_misses_of : FnAt K mg "misses_of" s_misses_of ["policy", "capacity", "sequence"] := fn_at X G a_misses_of F_misses_of B_misses_of
  have F_minimum_misses := fun_mk (st := s_minimum_misses) l_minimum_misses c_minimum_misses k_minimum_misses
  have B_minimum_misses := F_minimum_misses.binds (ps := ["capacity", "sequence"]) fun _ _ _ _ _ _ us hl => match us, hl with | [_, _], _ => rfl
  have T_minimum_misses : FnAt K mg "minimum_misses" s_minimum_misses ["capacity", "sequence"] := fn_at X G a_minimum_misses F_minimum_misses B_minimum_misses
  have F_lead_of := fun_mk (st := s_lead_of) l_lead_of c_lead_of k_lead_of
  have B_lead_of := F_lead_of.binds (ps := ["outcome"]) fun _ _ _ _ _ _ us hl => match us, hl with | [_], _ => rfl
  have T_lead_of : FnAt K mg "lead_of" s_lead_of ["outcome"] := fn_at X G a_lead_of F_lead_of B_lead_of
  have F_first_greatest := fun_mk (st := s_first_greatest) l_first_greatest c_first_greatest k_first_greatest
  have B_first_greatest := F_first_greatest.binds (ps := ["outcomes"]) fun _ _ _ _ _ _ us hl => match us, hl with | [_], _ => rfl
  have T_first_greatest : FnAt K mg "first_greatest" s_first_greatest ["outcomes"] := fn_at X G a_first_greatest F_first_greatest B_first_greatest
  have F_most_different := fun_mk (st := s_most_different) l_most_different c_most_different k_most_different
  have B_most_different := F_most_different.binds (ps := ["first", "second", "capacity", "key_bound", "length"]) fun _ _ _ _ _ _ us hl => match us, hl with | [_, _, _, _, _], _ => rfl
  have T_most_different : FnAt K mg "most_different" s_most_different ["first", "second", "capacity", "key_bound", "length"] := fn_at X G a_most_different F_most_different B_most_different
  have F_farthest_from_minimum := fun_mk (st := s_farthest_from_minimum) l_farthest_from_minimum c_farthest_from_minimum k_farthest_from_minimum
  have B_farthest_from_minimum := F_farthest_from_minimum.binds (ps := ["policy", "capacity", "key_bound", "length"]) fun _ _ _ _ _ _ us hl => match us, hl with | [_, _, _, _], _ => rfl
  have T_farthest_from_minimum : FnAt K mg "farthest_from_minimum" s_farthest_from_minimum ["policy", "capacity", "key_bound", "length"] := fn_at X G a_farthest_from_minimum F_farthest_from_minimum B_farthest_from_minimum
  have F_shortest_anomaly := fun_mk (st := s_shortest_anomaly) l_shortest_anomaly c_shortest_anomaly k_shortest_anomaly
  have B_shortest_anomaly := F_shortest_anomaly.binds (ps := ["policy", "capacity", "sequence"]) fun _ _ _ _ _ _ us hl => match us, hl with | [_, _, _], _ => rfl
  have T_shortest_anomaly : FnAt K mg "shortest_anomaly" s_shortest_anomaly ["policy", "capacity", "sequence"] := fn_at X G a_shortest_anomaly F_shortest_anomaly B_shortest_anomaly
  have F_check_capacity := fun_mk (st := s_check_capacity) l_check_capacity c_check_capacity k_check_capacity
  have B_check_capacity := F_check_capacity.binds (ps := ["capacity"]) fun _ _ _ _ _ _ us hl => match us, hl with | [_], _ => rfl
  have T_check_capacity : FnAt K mg "check_capacity" s_check_capacity ["capacity"] := fn_at X G a_check_capacity F_check_capacity B_check_capacity
  have F_check_policy := fun_mk (st := s_check_policy) l_check_policy c_check_policy k_check_policy
  have B_check_policy := F_check_policy.binds (ps := ["policy"]) fun _ _ _ _ _ _ us hl => match us, hl with | [_], _ => rfl
  have T_check_policy : FnAt K mg "check_policy" s_check_policy ["policy"] := fn_at X G a_check_policy F_check_policy B_check_policy
  have F_is_key := fun_mk (st := s_is_key) l_is_key c_is_key k_is_key
  have B_is_key := F_is_key.binds (ps := ["number"]) fun _ _ _ _ _ _ us hl => match us, hl with | [_], _ => rfl
  have T_is_key : FnAt K mg "is_key" s_is_key ["number"] := fn_at X G a_is_key F_is_key B_is_key
  have F_check_key := fun_mk (st := s_check_key) l_check_key c_check_key k_check_key
  have B_check_key := F_check_key.binds (ps := ["key"]) fun _ _ _ _ _ _ us hl => match us, hl with | [_], _ => rfl
  have T_check_key : FnAt K mg "check_key" s_check_key ["key"] := fn_at X G a_check_key F_check_key B_check_key
  have F_check_sequence := fun_mk (st := s_check_sequence) l_check_sequence c_check_sequence k_check_sequence
  have B_check_sequence := F_check_sequence.binds (ps := ["sequence"]) fun _ _ _ _ _ _ us hl => match us, hl with | [_], _ => rfl
  have T_check_sequence : FnAt K mg "check_sequence" s_check_sequence ["sequence"] := fn_at X G a_check_sequence F_check_sequence B_check_sequence
  have F_check_some_capacity := fun_mk (st := s_check_some_capacity) l_check_some_capacity c_check_some_capacity k_check_some_capacity
  have B_check_some_capacity := F_check_some_capacity.binds (ps := ["capacity"]) fun _ _ _ _ _ _ us hl => match us, hl with | [_], _ => rfl
  have T_check_some_capacity : FnAt K mg "check_some_capacity" s_check_some_capacity ["capacity"] := fn_at X G a_check_some_capacity F_check_some_capacity B_check_some_capacity
  have F_check_search := fun_mk (st := s_check_search) l_check_search c_check_search k_check_search
  have B_check_search := F_check_search.binds (ps := ["key_bound", "max_bound", "length"]) fun _ _ _ _ _ _ us hl => match us, hl with | [_, _, _], _ => rfl
  have T_check_search : FnAt K mg "check_search" s_check_search ["key_bound", "max_bound", "length"] := fn_at X G a_check_search F_check_search B_check_search
  have F_listed := fun_mk (st := s_listed) l_listed c_listed k_listed
  have B_listed := F_listed.binds (ps := ["numbers"]) fun _ _ _ _ _ _ us hl => match us, hl with | [_], _ => rfl
  have T_listed : FnAt K mg "listed" s_listed ["numbers"] := fn_at X G a_listed F_listed B_listed
  have F_answer_configure := fun_mk (st := s_answer_configure) l_answer_configure c_answer_configure k_answer_configure
  have B_answer_configure := F_answer_configure.binds (ps := ["laboratory", "reader"]) fun _ _ _ _ _ _ us hl => match us, hl with | [_, _], _ => rfl
  have T_answer_configure : FnAt K mg "answer_configure" s_answer_configure ["laboratory", "reader"] := fn_at X G a_answer_configure F_answer_configure B_answer_configure
  have F_answer_access := fun_mk (st := s_answer_access) l_answer_access c_answer_access k_answer_access
  have B_answer_access := F_answer_access.binds (ps := ["laboratory", "reader"]) fun _ _ _ _ _ _ us hl => match us, hl with | [_, _], _ => rfl
  have T_answer_access : FnAt K mg "answer_access" s_answer_access ["laboratory", "reader"] := fn_at X G a_answer_access F_answer_access B_answer_access
  have F_answer_remove := fun_mk (st := s_answer_remove) l_answer_remove c_answer_remove k_answer_remove
  have B_answer_remove := F_answer_remove.binds (ps := ["laboratory", "reader"]) fun _ _ _ _ _ _ us hl => match us, hl with | [_, _], _ => rfl
  have T_answer_remove : FnAt K mg "answer_remove" s_answer_remove ["laboratory", "reader"] := fn_at X G a_answer_remove F_answer_remove B_answer_remove
  have F_answer_contents := fun_mk (st := s_answer_contents) l_answer_contents c_answer_contents k_answer_contents
  have B_answer_contents := F_answer_contents.binds (ps := ["laboratory", "reader"]) fun _ _ _ _ _ _ us hl => match us, hl with | [_, _], _ => rfl
  have T_answer_contents : FnAt K mg "answer_contents" s_answer_contents ["laboratory", "reader"] := fn_at X G a_answer_contents F_answer_contents B_answer_contents
  have F_answer_next_victim := fun_mk (st := s_answer_next_victim) l_answer_next_victim c_answer_next_victim k_answer_next_victim
  have B_answer_next_victim := F_answer_next_victim.binds (ps := ["laboratory", "reader"]) fun _ _ _ _ _ _ us hl => match us, hl with | [_, _], _ => rfl
  have T_answer_next_victim : FnAt K mg "answer_next_victim" s_answer_next_victim ["laboratory", "reader"] := fn_at X G a_answer_next_victim F_answer_next_victim B_answer_next_victim
  have F_answer_counters := fun_mk (st := s_answer_counters) l_answer_counters c_answer_counters k_answer_counters
  have B_answer_counters := F_answer_counters.binds (ps := ["laboratory", "reader"]) fun _ _ _ _ _ _ us hl => match us, hl with | [_, _], _ => rfl
  have T_answer_counters : FnAt K mg "answer_counters" s_answer_counters ["laboratory", "reader"] := fn_at X G a_answer_counters F_answer_counters B_answer_counters
  have F_answer_simulate := fun_mk (st := s_answer_simulate) l_answer_simulate c_answer_simulate k_answer_simulate
  have B_answer_simulate := F_answer_simulate.binds (ps := ["laboratory", "reader"]) fun _ _ _ _ _ _ us hl => match us, hl with | [_, _], _ => rfl
  have T_answer_simulate : FnAt K mg "answer_simulate" s_answer_simulate ["laboratory", "reader"] := fn_at X G a_answer_simulate F_answer_simulate B_answer_simulate
  have F_answer_optimal := fun_mk (st := s_answer_optimal) l_answer_optimal c_answer_optimal k_answer_optimal
  have B_answer_optimal := F_answer_optimal.binds (ps := ["laboratory", "reader"]) fun _ _ _ _ _ _ us hl => match us, hl with | [_, _], _ => rfl
  have T_answer_optimal : FnAt K mg "answer_optimal" s_answer_optimal ["laboratory", "reader"] := fn_at X G a_answer_optimal F_answer_optimal B_answer_optimal
  have F_answer_farthest := fun_mk (st := s_answer_farthest) l_answer_farthest c_answer_farthest k_answer_farthest
  have B_answer_farthest := F_answer_farthest.binds (ps := ["laboratory", "reader"]) fun _ _ _ _ _ _ us hl => match us, hl with | [_, _], _ => rfl
  have T_answer_farthest : FnAt K mg "answer_farthest" s_answer_farthest ["laboratory", "reader"] := fn_at X G a_answer_farthest F_answer_farthest B_answer_farthest
  have F_answer_replay := fun_mk (st := s_answer_replay) l_answer_replay c_answer_replay k_answer_replay
  have B_answer_replay := F_answer_replay.binds (ps := ["laboratory", "reader"]) fun _ _ _ _ _ _ us hl => match us, hl with | [_, _], _ => rfl
  have T_answer_replay : FnAt K mg "answer_replay" s_answer_replay ["laboratory", "reader"] := fn_at X G a_answer_replay F_answer_replay B_answer_replay
  have F_answer_phases := fun_mk (st := s_answer_phases) l_answer_phases c_answer_phases k_answer_phases
  have B_answer_phases := F_answer_phases.binds (ps := ["laboratory", "reader"]) fun _ _ _ _ _ _ us hl => match us, hl with | [_, _], _ => rfl
  have T_answer_phases : FnAt K mg "answer_phases" s_answer_phases ["laboratory", "reader"] := fn_at X G a_answer_phases F_answer_phases B_answer_phases
  have F_answer_separate := fun_mk (st := s_answer_separate) l_answer_separate c_answer_separate k_answer_separate
  have B_answer_separate := F_answer_separate.binds (ps := ["laboratory", "reader"]) fun _ _ _ _ _ _ us hl => match us, hl with | [_, _], _ => rfl
  have T_answer_separate : FnAt K mg "answer_separate" s_answer_separate ["laboratory", "reader"] := fn_at X G a_answer_separate F_answer_separate B_answer_separate
  have F_answer_worst := fun_mk (st := s_answer_worst) l_answer_worst c_answer_worst k_answer_worst
  have B_answer_worst := F_answer_worst.binds (ps := ["laboratory", "reader"]) fun _ _ _ _ _ _ us hl => match us, hl with | [_, _], _ => rfl
  have T_answer_worst : FnAt K mg "answer_worst" s_answer_worst ["laboratory", "reader"] := fn_at X G a_answer_worst F_answer_worst B_answer_worst
  have F_answer_anomaly := fun_mk (st := s_answer_anomaly) l_answer_anomaly c_answer_anomaly k_answer_anomaly
  have B_answer_anomaly := F_answer_anomaly.binds (ps := ["laboratory", "reader"]) fun _ _ _ _ _ _ us hl => match us, hl with | [_, _], _ => rfl
  have T_answer_anomaly : FnAt K mg "answer_anomaly" s_answer_anomaly ["laboratory", "reader"] := fn_at X G a_answer_anomaly F_answer_anomaly B_answer_anomaly
  have F_answer_call := fun_mk (st := s_answer_call) l_answer_call c_answer_call k_answer_call
  have B_answer_call := F_answer_call.binds (ps := ["laboratory", "reader"]) fun _ _ _ _ _ _ us hl => match us, hl with | [_, _], _ => rfl
  have T_answer_call : FnAt K mg "answer_call" s_answer_call ["laboratory", "reader"] := fn_at X G a_answer_call F_answer_call B_answer_call
  have F_answers := fun_mk (st := s_answers) l_answers c_answers k_answers
  have B_answers := F_answers.binds (ps := ["calls"]) fun _ _ _ _ _ _ us hl => match us, hl with | [_], _ => rfl
  have F_CallReader_init := fun_mk (st := s_CallReader_init) l_CallReader_init c_CallReader_init k_CallReader_init
  have B_CallReader_init := F_CallReader_init.binds (ps := ["self", "calls"]) fun _ _ _ _ _ _ us hl => match us, hl with | [_, _], _ => rfl
  have T_CallReader_init : MkAt K mg "CallReader" CR "CallReader.__init__" s_CallReader_init ["self", "calls"] := ⟨m_CallReader_init, _, ⟨mk_CR, a_CallReader_init, i_CallReader_init, kp_CR⟩, PySem.W.mg_of X G aC_CR, F_CallReader_init, B_CallReader_init⟩
  have F_CallReader_has_more := fun_mk (st := s_CallReader_has_more) l_CallReader_has_more c_CallReader_has_more k_CallReader_has_more
  have B_CallReader_has_more := F_CallReader_has_more.binds (ps := ["self"]) fun _ _ _ _ _ _ us hl => match us, hl with | [_], _ => rfl
  have T_CallReader_has_more : MtAt K CR "has_more" "CallReader.has_more" s_CallReader_has_more ["self"] := ⟨m_CallReader_has_more, _, ⟨a_CallReader_has_more, i_CallReader_has_more, k_CallReader_has_more⟩, F_CallReader_has_more, B_CallReader_has_more⟩
  have F_CallReader_take_number := fun_mk (st := s_CallReader_take_number) l_CallReader_take_number c_CallReader_take_number k_CallReader_take_number
  have B_CallReader_take_number := F_CallReader_take_number.binds (ps := ["self"]) fun _ _ _ _ _ _ us hl => match us, hl with | [_], _ => rfl
  have T_CallReader_take_number : MtAt K CR "take_number" "CallReader.take_number" s_CallReader_take_number ["self"] := ⟨m_CallReader_take_number, _, ⟨a_CallReader_take_number, i_CallReader_take_number, k_CallReader_take_number⟩, F_CallReader_take_number, B_CallReader_take_number⟩
  have F_CallReader_take_row := fun_mk (st := s_CallReader_take_row) l_CallReader_take_row c_CallReader_take_row k_CallReader_take_row
  have B_CallReader_take_row := F_CallReader_take_row.binds (ps := ["self"]) fun _ _ _ _ _ _ us hl => match us, hl with | [_], _ => rfl
  have T_CallReader_take_row : MtAt K CR "take_row" "CallReader.take_row" s_CallReader_take_row ["self"] := ⟨m_CallReader_take_row, _, ⟨a_CallReader_take_row, i_CallReader_take_row, k_CallReader_take_row⟩, F_CallReader_take_row, B_CallReader_take_row⟩
  have F_Entry_init := fun_mk (st := s_Entry_init) l_Entry_init c_Entry_init k_Entry_init
  have B_Entry_init := F_Entry_init.binds (ps := ["self", "key", "last_use"]) fun _ _ _ _ _ _ us hl => match us, hl with | [_, _, _], _ => rfl
  have T_Entry_init : MkAt K mg "Entry" CE "Entry.__init__" s_Entry_init ["self", "key", "last_use"] := ⟨m_Entry_init, _, ⟨mk_CE, a_Entry_init, i_Entry_init, kp_CE⟩, PySem.W.mg_of X G aC_CE, F_Entry_init, B_Entry_init⟩
  have F_Cache_init := fun_mk (st := s_Cache_init) l_Cache_init c_Cache_init k_Cache_init
  have B_Cache_init := F_Cache_init.binds (ps := ["self", "capacity", "policy"]) fun _ _ _ _ _ _ us hl => match us, hl with | [_, _, _], _ => rfl
  have T_Cache_init : MkAt K mg "Cache" CC "Cache.__init__" s_Cache_init ["self", "capacity", "policy"] := ⟨m_Cache_init, _, ⟨mk_CC, a_Cache_init, i_Cache_init, kp_CC⟩, PySem.W.mg_of X G aC_CC, F_Cache_init, B_Cache_init⟩
  have F_Cache_entry_of := fun_mk (st := s_Cache_entry_of) l_Cache_entry_of c_Cache_entry_of k_Cache_entry_of
  have B_Cache_entry_of := F_Cache_entry_of.binds (ps := ["self", "key"]) fun _ _ _ _ _ _ us hl => match us, hl with | [_, _], _ => rfl
  have T_Cache_entry_of : MtAt K CC "entry_of" "Cache.entry_of" s_Cache_entry_of ["self", "key"] := ⟨m_Cache_entry_of, _, ⟨a_Cache_entry_of, i_Cache_entry_of, k_Cache_entry_of⟩, F_Cache_entry_of, B_Cache_entry_of⟩
  have F_Cache_holds := fun_mk (st := s_Cache_holds) l_Cache_holds c_Cache_holds k_Cache_holds
  have B_Cache_holds := F_Cache_holds.binds (ps := ["self", "key"]) fun _ _ _ _ _ _ us hl => match us, hl with | [_, _], _ => rfl
  have T_Cache_holds : MtAt K CC "holds" "Cache.holds" s_Cache_holds ["self", "key"] := ⟨m_Cache_holds, _, ⟨a_Cache_holds, i_Cache_holds, k_Cache_holds⟩, F_Cache_holds, B_Cache_holds⟩
  have F_Cache_cached_keys := fun_mk (st := s_Cache_cached_keys) l_Cache_cached_keys c_Cache_cached_keys k_Cache_cached_keys
  have B_Cache_cached_keys := F_Cache_cached_keys.binds (ps := ["self"]) fun _ _ _ _ _ _ us hl => match us, hl with | [_], _ => rfl
  have T_Cache_cached_keys : MtAt K CC "cached_keys" "Cache.cached_keys" s_Cache_cached_keys ["self"] := ⟨m_Cache_cached_keys, _, ⟨a_Cache_cached_keys, i_Cache_cached_keys, k_Cache_cached_keys⟩, F_Cache_cached_keys, B_Cache_cached_keys⟩
  have F_Cache_access_number := fun_mk (st := s_Cache_access_number) l_Cache_access_number c_Cache_access_number k_Cache_access_number
  have B_Cache_access_number := F_Cache_access_number.binds (ps := ["self"]) fun _ _ _ _ _ _ us hl => match us, hl with | [_], _ => rfl
  have T_Cache_access_number : MtAt K CC "access_number" "Cache.access_number" s_Cache_access_number ["self"] := ⟨m_Cache_access_number, _, ⟨a_Cache_access_number, i_Cache_access_number, k_Cache_access_number⟩, F_Cache_access_number, B_Cache_access_number⟩
  have F_Cache_access := fun_mk (st := s_Cache_access) l_Cache_access c_Cache_access k_Cache_access
  have B_Cache_access := F_Cache_access.binds (ps := ["self", "key"]) fun _ _ _ _ _ _ us hl => match us, hl with | [_, _], _ => rfl
  have T_Cache_access : MtAt K CC "access" "Cache.access" s_Cache_access ["self", "key"] := ⟨m_Cache_access, _, ⟨a_Cache_access, i_Cache_access, k_Cache_access⟩, F_Cache_access, B_Cache_access⟩
  have F_Cache_take_in := fun_mk (st := s_Cache_take_in) l_Cache_take_in c_Cache_take_in k_Cache_take_in
  have B_Cache_take_in := F_Cache_take_in.binds (ps := ["self", "key"]) fun _ _ _ _ _ _ us hl => match us, hl with | [_, _], _ => rfl
  have T_Cache_take_in : MtAt K CC "take_in" "Cache.take_in" s_Cache_take_in ["self", "key"] := ⟨m_Cache_take_in, _, ⟨a_Cache_take_in, i_Cache_take_in, k_Cache_take_in⟩, F_Cache_take_in, B_Cache_take_in⟩
  have F_Cache_make_room := fun_mk (st := s_Cache_make_room) l_Cache_make_room c_Cache_make_room k_Cache_make_room
  have B_Cache_make_room := F_Cache_make_room.binds (ps := ["self"]) fun _ _ _ _ _ _ us hl => match us, hl with | [_], _ => rfl
  have T_Cache_make_room : MtAt K CC "make_room" "Cache.make_room" s_Cache_make_room ["self"] := ⟨m_Cache_make_room, _, ⟨a_Cache_make_room, i_Cache_make_room, k_Cache_make_room⟩, F_Cache_make_room, B_Cache_make_room⟩
  have F_Cache_next_victim := fun_mk (st := s_Cache_next_victim) l_Cache_next_victim c_Cache_next_victim k_Cache_next_victim
  have B_Cache_next_victim := F_Cache_next_victim.binds (ps := ["self"]) fun _ _ _ _ _ _ us hl => match us, hl with | [_], _ => rfl
  have T_Cache_next_victim : MtAt K CC "next_victim" "Cache.next_victim" s_Cache_next_victim ["self"] := ⟨m_Cache_next_victim, _, ⟨a_Cache_next_victim, i_Cache_next_victim, k_Cache_next_victim⟩, F_Cache_next_victim, B_Cache_next_victim⟩
  have F_Cache_give_second_chances := fun_mk (st := s_Cache_give_second_chances) l_Cache_give_second_chances c_Cache_give_second_chances k_Cache_give_second_chances
  have B_Cache_give_second_chances := F_Cache_give_second_chances.binds (ps := ["self"]) fun _ _ _ _ _ _ us hl => match us, hl with | [_], _ => rfl
  have T_Cache_give_second_chances : MtAt K CC "give_second_chances" "Cache.give_second_chances" s_Cache_give_second_chances ["self"] := ⟨m_Cache_give_second_chances, _, ⟨a_Cache_give_second_chances, i_Cache_give_second_chances, k_Cache_give_second_chances⟩, F_Cache_give_second_chances, B_Cache_give_second_chances⟩
  have F_Cache_remove_key := fun_mk (st := s_Cache_remove_key) l_Cache_remove_key c_Cache_remove_key k_Cache_remove_key
  have B_Cache_remove_key := F_Cache_remove_key.binds (ps := ["self", "key"]) fun _ _ _ _ _ _ us hl => match us, hl with | [_, _], _ => rfl
  have T_Cache_remove_key : MtAt K CC "remove_key" "Cache.remove_key" s_Cache_remove_key ["self", "key"] := ⟨m_Cache_remove_key, _, ⟨a_Cache_remove_key, i_Cache_remove_key, k_Cache_remove_key⟩, F_Cache_remove_key, B_Cache_remove_key⟩
  have F_Laboratory_init := fun_mk (st := s_Laboratory_init) l_Laboratory_init c_Laboratory_init k_Laboratory_init
  have B_Laboratory_init := F_Laboratory_init.binds (ps := ["self"]) fun _ _ _ _ _ _ us hl => match us, hl with | [_], _ => rfl
  have T_Laboratory_init : MkAt K mg "Laboratory" CL "Laboratory.__init__" s_Laboratory_init ["self"] := ⟨m_Laboratory_init, _, ⟨mk_CL, a_Laboratory_init, i_Laboratory_init, kp_CL⟩, PySem.W.mg_of X G aC_CL, F_Laboratory_init, B_Laboratory_init⟩
  have TF : FnAtC K mg "farthest_key" s_farthest_key ["cached", "upcoming"] cF := ⟨f_farthest_key, _, PySem.W.mg_of X G a_farthest_key, ⟨⟨_, _, _, _, _, _, _, _, rfl, l_farthest_key, c_farthest_key⟩, k_farthest_key⟩, B_farthest_key⟩
  have cl_CR : Cls K CR := ⟨pg_CR, hd_CR, po_CR, sa_CR⟩
  have cl_CE : Cls K CE := ⟨pg_CE, hd_CE, po_CE, sa_CE⟩
  have cl_CC : Cls K CC := ⟨pg_CC, hd_CC, po_CC, sa_CC⟩
  have cl_CL : Cls K CL := ⟨pg_CL, hd_CL, po_CL, sa_CL⟩
  have m_len := PySem.W.mg_none_of X G n_len
  have m_min := PySem.W.mg_none_of X G n_min
  have m_max := PySem.W.mg_none_of X G n_max
  have m_tuple := PySem.W.mg_none_of X G n_tuple
  have m_sorted := PySem.W.mg_none_of X G n_sorted
  have m_enumerate := PySem.W.mg_none_of X G n_enumerate
  have m_set := PySem.W.mg_none_of X G n_set
  have m_range := PySem.W.mg_none_of X G n_range
  have v_SECOND_CHANCE := con_at X G g_SECOND_CHANCE
  have v_MAX_CAPACITY := con_at X G g_MAX_CAPACITY
  have v_MAX_POLICY := con_at X G g_MAX_POLICY
  have v_MAX_KEY := con_at X G g_MAX_KEY
  have v_MAX_LENGTH := con_at X G g_MAX_LENGTH
  have v_MAX_BOUND_SEPARATE := con_at X G g_MAX_BOUND_SEPARATE
  have v_MAX_BOUND_WORST := con_at X G g_MAX_BOUND_WORST
  have v_MAX_LENGTH_SEARCHED := con_at X G g_MAX_LENGTH_SEARCHED
  have E1 : TxtX K mg "CapacityRefused" (errF e1 e2 e3 e4 e5 e6 (-1)) := ⟨xE1, PySem.W.mg_of X G gE1, kE1, bE1, tE1⟩
  have E2 : TxtX K mg "PolicyRefused" (errF e1 e2 e3 e4 e5 e6 (-2)) := ⟨xE2, PySem.W.mg_of X G gE2, kE2, bE2, tE2⟩
  have E3 : TxtX K mg "KeyRefused" (errF e1 e2 e3 e4 e5 e6 (-3)) := ⟨xE3, PySem.W.mg_of X G gE3, kE3, bE3, tE3⟩
  have E4 : TxtX K mg "SequenceRefused" (errF e1 e2 e3 e4 e5 e6 (-4)) := ⟨xE4, PySem.W.mg_of X G gE4, kE4, bE4, tE4⟩
  have E5 : TxtX K mg "NoCapacityRefused" (errF e1 e2 e3 e4 e5 e6 (-5)) := ⟨xE5, PySem.W.mg_of X G gE5, kE5, bE5, tE5⟩
  have E6 : TxtX K mg "SearchRefused" (errF e1 e2 e3 e4 e5 e6 (-6)) := ⟨xE6, PySem.W.mg_of X G gE6, kE6, bE6, tE6⟩
  have TS : TxtS K mg CC CE dV f_first_listed f_least_recently_used f_most_recently_used f_least_frequently_used f_first_without_bit := ⟨cl_CC, n_CC_capacity, n_CC_policy, n_CC_entries, n_CC_hits, n_CC_misses, cl_CE, n_CE_key, n_CE_last_use, n_CE_use_count, n_CE_reference_bit, PySem.W.mg_of X G gV, ⟨_, _, dV_l, dV_p⟩, PySem.W.mg_of X G a_first_listed, PySem.W.mg_of X G a_least_recently_used, PySem.W.mg_of X G a_most_recently_used, PySem.W.mg_of X G a_least_frequently_used, PySem.W.mg_of X G a_first_without_bit, v_SECOND_CHANCE, m_len, m_min, m_max⟩
  have TR : TxtR K mg CR := ⟨cl_CR, n_CR_calls, n_CR_position, m_len⟩
  have TL : TxtL K mg (⟨CL, CC, CE, CR, errF e1 e2 e3 e4 e5 e6, Pt⟩ : Ad) := ⟨cl_CL, n_CL_cache, m_len⟩
  have TC : TxtC K mg (⟨CL, CC, CE, CR, errF e1 e2 e3 e4 e5 e6, Pt⟩ : Ad) dO [(0, f_answer_configure), (1, f_answer_access), (2, f_answer_remove), (3, f_answer_contents), (4, f_answer_next_victim), (5, f_answer_counters), (6, f_answer_simulate), (7, f_answer_optimal), (8, f_answer_farthest), (9, f_answer_replay), (10, f_answer_phases), (11, f_answer_separate), (12, f_answer_worst), (13, f_answer_anomaly)] := by
    refine ⟨PySem.W.mg_of X G gO, ⟨_, _, dO_l, dO_p⟩, fun k => by cases k <;> exact ⟨_, rfl⟩, PySem.W.mg_of X G gE1, PySem.W.mg_of X G gE2, PySem.W.mg_of X G gE3, PySem.W.mg_of X G gE4, PySem.W.mg_of X G gE5, PySem.W.mg_of X G gE6, fun i j i1 i2 j1 j2 => ?_⟩
    have ei : i = -1 ∨ i = -2 ∨ i = -3 ∨ i = -4 ∨ i = -5 ∨ i = -6 := by omega
    have ej : j = -1 ∨ j = -2 ∨ j = -3 ∨ j = -4 ∨ j = -5 ∨ j = -6 := by omega
    rcases ei with rfl | rfl | rfl | rfl | rfl | rfl <;> rcases ej with rfl | rfl | rfl | rfl | rfl | rfl
    · exact exm_of bE1 iE1 tE1 s11
    · exact exm_of bE2 iE2 tE2 s12
    · exact exm_of bE3 iE3 tE3 s13
    · exact exm_of bE4 iE4 tE4 s14
    · exact exm_of bE5 iE5 tE5 s15
    · exact exm_of bE6 iE6 tE6 s16
    · exact exm_of bE1 iE1 tE1 s21
    · exact exm_of bE2 iE2 tE2 s22
    · exact exm_of bE3 iE3 tE3 s23
    · exact exm_of bE4 iE4 tE4 s24
    · exact exm_of bE5 iE5 tE5 s25
    · exact exm_of bE6 iE6 tE6 s26
    · exact exm_of bE1 iE1 tE1 s31
    · exact exm_of bE2 iE2 tE2 s32
    · exact exm_of bE3 iE3 tE3 s33
    · exact exm_of bE4 iE4 tE4 s34
    · exact exm_of bE5 iE5 tE5 s35
    · exact exm_of bE6 iE6 tE6 s36
    · exact exm_of bE1 iE1 tE1 s41
    · exact exm_of bE2 iE2 tE2 s42
    · exact exm_of bE3 iE3 tE3 s43
    · exact exm_of bE4 iE4 tE4 s44
    · exact exm_of bE5 iE5 tE5 s45
    · exact exm_of bE6 iE6 tE6 s46
    · exact exm_of bE1 iE1 tE1 s51
    · exact exm_of bE2 iE2 tE2 s52
    · exact exm_of bE3 iE3 tE3 s53
    · exact exm_of bE4 iE4 tE4 s54
    · exact exm_of bE5 iE5 tE5 s55
    · exact exm_of bE6 iE6 tE6 s56
    · exact exm_of bE1 iE1 tE1 s61
    · exact exm_of bE2 iE2 tE2 s62
    · exact exm_of bE3 iE3 tE3 s63
    · exact exm_of bE4 iE4 tE4 s64
    · exact exm_of bE5 iE5 tE5 s65
    · exact exm_of bE6 iE6 tE6 s66
  refine ⟨PySem.W.fnOf "answers" "answers" (defArgs s_answers) (defBody s_answers) (defScope s_answers) .none kV_answers dc_answers pm_answers an_answers cd_answers ct_answers, fun s us hu => match us, hu with | [_], _ => .of_eq rfl, fun base KB GB TB => ?_⟩
  have tb : TabB base mg cF Pt := TB (cF, Pt) List.mem_cons_self
  have z_Entry : C8.Mak P w K mg base 1 "Entry" CE (spEntInit CE) [] := mak_of T_Entry_init sc_Entry_init (fun vs H Q E hq => by repeat (first | (obtain ⟨e, _⟩ := hq; exact congrArg List.length e) | (obtain ⟨_, hq⟩ := hq))) (b_Entry_init TS)
  have z_Cache : C8.Mak P w K mg base 1 "Cache" CC (spCacheInit CC CE) [] := mak_of T_Cache_init sc_Cache_init (fun vs H Q E hq => by repeat (first | (obtain ⟨e, _⟩ := hq; exact congrArg List.length e) | (obtain ⟨_, hq⟩ := hq))) (b_Cache_init TS)
  have y_Cache_entry_of : C8.Met P w K mg base 1 CC "entry_of" (spEntryOf CC CE) [] := met_of T_Cache_entry_of cl_CC sc_Cache_entry_of (fun vs H Q E hq => by repeat (first | (obtain ⟨e, _⟩ := hq; exact congrArg List.length e) | (obtain ⟨_, hq⟩ := hq))) (b_entry_of TS)
  have y_Cache_holds : C8.Met P w K mg base 2 CC "holds" (spHolds CC CE) [] := met_of T_Cache_holds cl_CC sc_Cache_holds (fun vs H Q E hq => by repeat (first | (obtain ⟨e, _⟩ := hq; exact congrArg List.length e) | (obtain ⟨_, hq⟩ := hq))) (b_holds y_Cache_entry_of)
  have y_Cache_access_number : C8.Met P w K mg base 1 CC "access_number" (spAccNum CC CE) [] := met_of T_Cache_access_number cl_CC sc_Cache_access_number (fun vs H Q E hq => by repeat (first | (obtain ⟨e, _⟩ := hq; exact congrArg List.length e) | (obtain ⟨_, hq⟩ := hq))) (b_access_number TS)
  have y_Cache_cached_keys : C8.Met P w K mg base 1 CC "cached_keys" (spKeys CC CE) [] := met_of T_Cache_cached_keys cl_CC sc_Cache_cached_keys (fun vs H Q E hq => by repeat (first | (obtain ⟨e, _⟩ := hq; exact congrArg List.length e) | (obtain ⟨_, hq⟩ := hq))) (b_cached_keys TS)
  have c_last_use_of : C8.Cal P w K mg base 1 "last_use_of" (spLast CE) [] := cal_of T_last_use_of sc_last_use_of (fun vs H Q E hq => by repeat (first | (obtain ⟨e, _⟩ := hq; exact congrArg List.length e) | (obtain ⟨_, hq⟩ := hq))) (b_last_use_of TS)
  have c_use_count_and_last_use_of : C8.Cal P w K mg base 1 "use_count_and_last_use_of" (spUse CE) [] := cal_of T_use_count_and_last_use_of sc_use_count_and_last_use_of (fun vs H Q E hq => by repeat (first | (obtain ⟨e, _⟩ := hq; exact congrArg List.length e) | (obtain ⟨_, hq⟩ := hq))) (b_use_count TS)
  have tv : ∀ f sp, TblV CE f_first_listed f_least_recently_used f_most_recently_used f_least_frequently_used f_first_without_bit f sp → Held0 P w K mg base 3 f sp := by
    rintro f sp (⟨rfl, rfl⟩ | ⟨rfl, rfl⟩ | ⟨rfl, rfl⟩ | ⟨rfl, rfl⟩ | ⟨rfl, rfl⟩)
    · exact (held0_of T_first_listed (PySem.W.mg_of X G a_first_listed) sc_first_listed (fun vs H Q E hq => by repeat (first | (obtain ⟨e, _⟩ := hq; exact congrArg List.length e) | (obtain ⟨_, hq⟩ := hq))) (b_first_listed)).mono (by decide)
    · exact (held0_of T_least_recently_used (PySem.W.mg_of X G a_least_recently_used) sc_least_recently_used (fun vs H Q E hq => by repeat (first | (obtain ⟨e, _⟩ := hq; exact congrArg List.length e) | (obtain ⟨_, hq⟩ := hq))) (b_lru TS c_last_use_of)).mono (by decide)
    · exact (held0_of T_most_recently_used (PySem.W.mg_of X G a_most_recently_used) sc_most_recently_used (fun vs H Q E hq => by repeat (first | (obtain ⟨e, _⟩ := hq; exact congrArg List.length e) | (obtain ⟨_, hq⟩ := hq))) (b_mru TS c_last_use_of)).mono (by decide)
    · exact (held0_of T_least_frequently_used (PySem.W.mg_of X G a_least_frequently_used) sc_least_frequently_used (fun vs H Q E hq => by repeat (first | (obtain ⟨e, _⟩ := hq; exact congrArg List.length e) | (obtain ⟨_, hq⟩ := hq))) (b_lfu TS c_use_count_and_last_use_of)).mono (by decide)
    · exact (held0_of T_first_without_bit (PySem.W.mg_of X G a_first_without_bit) sc_first_without_bit (fun vs H Q E hq => by repeat (first | (obtain ⟨e, _⟩ := hq; exact congrArg List.length e) | (obtain ⟨_, hq⟩ := hq))) (b_second TS)).mono (by decide)
  have y_Cache_next_victim : C8.Met P w K mg base 4 CC "next_victim" (spNext CC CE) [] := met_of T_Cache_next_victim cl_CC sc_Cache_next_victim (fun vs H Q E hq => by repeat (first | (obtain ⟨e, _⟩ := hq; exact congrArg List.length e) | (obtain ⟨_, hq⟩ := hq))) (b_next_victim TS tv)
  have y_Cache_give_second_chances : C8.Met P w K mg base 1 CC "give_second_chances" (spGive CC CE) [] := met_of T_Cache_give_second_chances cl_CC sc_Cache_give_second_chances (fun vs H Q E hq => by repeat (first | (obtain ⟨e, _⟩ := hq; exact congrArg List.length e) | (obtain ⟨_, hq⟩ := hq))) (b_give TS)
  have y_Cache_remove_key : C8.Met P w K mg base 1 CC "remove_key" (spRemove CC CE) [] := met_of T_Cache_remove_key cl_CC sc_Cache_remove_key (fun vs H Q E hq => by repeat (first | (obtain ⟨e, _⟩ := hq; exact congrArg List.length e) | (obtain ⟨_, hq⟩ := hq))) (b_remove TS)
  have y_Cache_make_room : C8.Met P w K mg base 5 CC "make_room" (spRoom CC CE) [] := met_of T_Cache_make_room cl_CC sc_Cache_make_room (fun vs H Q E hq => by repeat (first | (obtain ⟨e, _⟩ := hq; exact congrArg List.length e) | (obtain ⟨_, hq⟩ := hq))) (b_make_room TS y_Cache_next_victim y_Cache_give_second_chances y_Cache_remove_key)
  have y_Cache_take_in : C8.Met P w K mg base 6 CC "take_in" (spTake CC CE) [] := met_of T_Cache_take_in cl_CC sc_Cache_take_in (fun vs H Q E hq => by repeat (first | (obtain ⟨e, _⟩ := hq; exact congrArg List.length e) | (obtain ⟨_, hq⟩ := hq))) (b_take_in TS y_Cache_make_room y_Cache_access_number z_Entry)
  have y_Cache_access : C8.Met P w K mg base 7 CC "access" (spAccess CC CE) [] := met_of T_Cache_access cl_CC sc_Cache_access (fun vs H Q E hq => by repeat (first | (obtain ⟨e, _⟩ := hq; exact congrArg List.length e) | (obtain ⟨_, hq⟩ := hq))) (b_access TS y_Cache_entry_of y_Cache_access_number y_Cache_take_in)
  have c_cache_after : C8.Cal P w K mg base 8 "cache_after" (spAfter K CC CE) [] := cal_of T_cache_after sc_cache_after (fun vs H Q E hq => by repeat (first | (obtain ⟨e, _⟩ := hq; exact congrArg List.length e) | (obtain ⟨_, hq⟩ := hq))) (b_cache_after y_Cache_access z_Cache)
  have z_CallReader : C8.Mak P w K mg base 1 "CallReader" CR (spRdInit CR) [] := mak_of T_CallReader_init sc_CallReader_init (fun vs H Q E hq => by repeat (first | (obtain ⟨e, _⟩ := hq; exact congrArg List.length e) | (obtain ⟨_, hq⟩ := hq))) (b_Reader_init TR)
  have y_CallReader_has_more : C8.Met P w K mg base 1 CR "has_more" (spHasMore K CR) [] := met_of T_CallReader_has_more cl_CR sc_CallReader_has_more (fun vs H Q E hq => by repeat (first | (obtain ⟨e, _⟩ := hq; exact congrArg List.length e) | (obtain ⟨_, hq⟩ := hq))) (b_has_more TR)
  have y_CallReader_take_number : C8.Met P w K mg base 1 CR "take_number" (spTakeN K CR) [] := met_of T_CallReader_take_number cl_CR sc_CallReader_take_number (fun vs H Q E hq => by repeat (first | (obtain ⟨e, _⟩ := hq; exact congrArg List.length e) | (obtain ⟨_, hq⟩ := hq))) (b_take_number TR)
  have y_CallReader_take_row : C8.Met P w K mg base 2 CR "take_row" (spTakeR K CR) [] := met_of T_CallReader_take_row cl_CR sc_CallReader_take_row (fun vs H Q E hq => by repeat (first | (obtain ⟨e, _⟩ := hq; exact congrArg List.length e) | (obtain ⟨_, hq⟩ := hq))) (b_take_row TR y_CallReader_take_number)
  have x_check_capacity : CalX P w K mg base 1 "check_capacity" (spChk 0 6 (errF e1 e2 e3 e4 e5 e6 (-1))) := calX_of T_check_capacity sc_check_capacity (fun vs H Q E hq => by repeat (first | (obtain ⟨e, _⟩ := hq; exact congrArg List.length e) | (obtain ⟨_, hq⟩ := hq))) (b_check_capacity E1 v_MAX_CAPACITY)
  have x_check_policy : CalX P w K mg base 1 "check_policy" (spChk 0 4 (errF e1 e2 e3 e4 e5 e6 (-2))) := calX_of T_check_policy sc_check_policy (fun vs H Q E hq => by repeat (first | (obtain ⟨e, _⟩ := hq; exact congrArg List.length e) | (obtain ⟨_, hq⟩ := hq))) (b_check_policy E2 v_MAX_POLICY)
  have c_is_key : C8.Cal P w K mg base 1 "is_key" spIsKey [] := cal_of T_is_key sc_is_key (fun vs H Q E hq => by repeat (first | (obtain ⟨e, _⟩ := hq; exact congrArg List.length e) | (obtain ⟨_, hq⟩ := hq))) (b_is_key v_MAX_KEY)
  have x_check_key : CalX P w K mg base 2 "check_key" (spChk 0 9 (errF e1 e2 e3 e4 e5 e6 (-3))) := calX_of T_check_key sc_check_key (fun vs H Q E hq => by repeat (first | (obtain ⟨e, _⟩ := hq; exact congrArg List.length e) | (obtain ⟨_, hq⟩ := hq))) (b_check_key E3 c_is_key)
  have x_check_sequence : CalX P w K mg base 2 "check_sequence" (spChkS K (errF e1 e2 e3 e4 e5 e6 (-4))) := calX_of T_check_sequence sc_check_sequence (fun vs H Q E hq => by repeat (first | (obtain ⟨e, _⟩ := hq; exact congrArg List.length e) | (obtain ⟨_, hq⟩ := hq))) (b_check_sequence E4 m_len v_MAX_LENGTH c_is_key)
  have x_check_some_capacity : CalX P w K mg base 1 "check_some_capacity" (spSome (errF e1 e2 e3 e4 e5 e6 (-5))) := calX_of T_check_some_capacity sc_check_some_capacity (fun vs H Q E hq => by repeat (first | (obtain ⟨e, _⟩ := hq; exact congrArg List.length e) | (obtain ⟨_, hq⟩ := hq))) (b_check_some_capacity E5)
  have x_check_search : CalX P w K mg base 1 "check_search" (spSearch (errF e1 e2 e3 e4 e5 e6 (-6))) := calX_of T_check_search sc_check_search (fun vs H Q E hq => by repeat (first | (obtain ⟨e, _⟩ := hq; exact congrArg List.length e) | (obtain ⟨_, hq⟩ := hq))) (b_check_search E6 v_MAX_LENGTH_SEARCHED)
  have c_must_evict : C8.Cal P w K mg base 1 "must_evict" spMust [] := cal_of T_must_evict sc_must_evict (fun vs H Q E hq => by repeat (first | (obtain ⟨e, _⟩ := hq; exact congrArg List.length e) | (obtain ⟨_, hq⟩ := hq))) (b_must_evict m_len)
  have c_missed : C8.Cal P w K mg base 1 "missed" spMissed [] := cal_of T_missed sc_missed (fun vs H Q E hq => by repeat (first | (obtain ⟨e, _⟩ := hq; exact congrArg List.length e) | (obtain ⟨_, hq⟩ := hq))) (b_missed)
  have c_without_key : C8.Cal P w K mg base 1 "without_key" spWithout [] := cal_of T_without_key sc_without_key (fun vs H Q E hq => by repeat (first | (obtain ⟨e, _⟩ := hq; exact congrArg List.length e) | (obtain ⟨_, hq⟩ := hq))) (b_without_key m_tuple)
  have c_with_key : C8.Cal P w K mg base 1 "with_key" spWith [] := cal_of T_with_key sc_with_key (fun vs H Q E hq => by repeat (first | (obtain ⟨e, _⟩ := hq; exact congrArg List.length e) | (obtain ⟨_, hq⟩ := hq))) (b_with_key m_tuple m_sorted)
  have c_replayed : C8.Cal P w K mg base 2 "replayed" (spReplayed K) [] := cal_of T_replayed sc_replayed (fun vs H Q E hq => by repeat (first | (obtain ⟨e, _⟩ := hq; exact congrArg List.length e) | (obtain ⟨_, hq⟩ := hq))) (b_replayed m_len m_enumerate c_missed c_must_evict c_without_key c_with_key)
  have c_phase_starts : C8.Cal P w K mg base 1 "phase_starts" (spPhases K) [] := cal_of T_phase_starts sc_phase_starts (fun vs H Q E hq => by repeat (first | (obtain ⟨e, _⟩ := hq; exact congrArg List.length e) | (obtain ⟨_, hq⟩ := hq))) (b_phase_starts m_len m_enumerate)
  have c_accesses_until : C8.Cal P w K mg base 1 "accesses_until" (spUntil K) [] := cal_of T_accesses_until sc_accesses_until (fun vs H Q E hq => by repeat (first | (obtain ⟨e, _⟩ := hq; exact congrArg List.length e) | (obtain ⟨_, hq⟩ := hq))) (b_accesses_until m_len)
  have c_farthest_key : C8.Cal P w K mg base 4 "farthest_key" (spFar K Pt) [] := cal_ofC TF sc_farthest_key (fun vs H Q E hq => by repeat (first | (obtain ⟨e, _⟩ := hq; exact congrArg List.length e) | (obtain ⟨_, hq⟩ := hq))) (b_farthest_key m_max tb c_accesses_until)
  have c_belady_evictions : C8.Cal P w K mg base 5 "belady_evictions" (spBelady K Pt) [] := cal_of T_belady_evictions sc_belady_evictions (fun vs H Q E hq => by repeat (first | (obtain ⟨e, _⟩ := hq; exact congrArg List.length e) | (obtain ⟨_, hq⟩ := hq))) (b_belady m_enumerate c_missed c_must_evict c_without_key c_with_key c_farthest_key)
  have c_keep_better : C8.Cal P w K mg base 3 "keep_better" spKeep [] := cal_of T_keep_better sc_keep_better (fun vs H Q E hq => by repeat (first | (obtain ⟨e, _⟩ := hq; exact congrArg List.length e) | (obtain ⟨_, hq⟩ := hq))) (b_keep_better)
  have c_ways_after : C8.Cal P w K mg base 4 "ways_after" spWays [] := cal_of T_ways_after sc_ways_after (fun vs H Q E hq => by repeat (first | (obtain ⟨e, _⟩ := hq; exact congrArg List.length e) | (obtain ⟨_, hq⟩ := hq))) (b_ways_after c_missed c_must_evict c_without_key c_with_key c_keep_better)
  have c_optimal_evictions : C8.Cal P w K mg base 5 "optimal_evictions" (spOptimal K) [] := cal_of T_optimal_evictions sc_optimal_evictions (fun vs H Q E hq => by repeat (first | (obtain ⟨e, _⟩ := hq; exact congrArg List.length e) | (obtain ⟨_, hq⟩ := hq))) (b_optimal m_min c_ways_after)
  have c_renamed_sequences : C8.Cal P w K mg base 1 "renamed_sequences" spRenamed [] := cal_of T_renamed_sequences sc_renamed_sequences (fun vs H Q E hq => by repeat (first | (obtain ⟨e, _⟩ := hq; exact congrArg List.length e) | (obtain ⟨_, hq⟩ := hq))) (b_renamed m_len m_set m_range m_min)
  have c_misses_of : C8.Cal P w K mg base 9 "misses_of" (spMissesOf K) [] := cal_of T_misses_of sc_misses_of (fun vs H Q E hq => by repeat (first | (obtain ⟨e, _⟩ := hq; exact congrArg List.length e) | (obtain ⟨_, hq⟩ := hq))) (b_misses_of TS c_cache_after)
  have c_minimum_misses : C8.Cal P w K mg base 6 "minimum_misses" (spMinimum K) [] := cal_of T_minimum_misses sc_minimum_misses (fun vs H Q E hq => by repeat (first | (obtain ⟨e, _⟩ := hq; exact congrArg List.length e) | (obtain ⟨_, hq⟩ := hq))) (b_minimum_misses c_optimal_evictions)
  have c_lead_of : C8.Cal P w K mg base 1 "lead_of" spLead [] := cal_of T_lead_of sc_lead_of (fun vs H Q E hq => by repeat (first | (obtain ⟨e, _⟩ := hq; exact congrArg List.length e) | (obtain ⟨_, hq⟩ := hq))) (b_lead_of)
  have c_first_greatest : C8.Cal P w K mg base 3 "first_greatest" spFirst [] := cal_of T_first_greatest sc_first_greatest (fun vs H Q E hq => by repeat (first | (obtain ⟨e, _⟩ := hq; exact congrArg List.length e) | (obtain ⟨_, hq⟩ := hq))) (b_first_greatest m_max c_lead_of)
  have c_most_different : C8.Cal P w K mg base 10 "most_different" spDiff [] := cal_of T_most_different sc_most_different (fun vs H Q E hq => by repeat (first | (obtain ⟨e, _⟩ := hq; exact congrArg List.length e) | (obtain ⟨_, hq⟩ := hq))) (b_most_different c_renamed_sequences c_misses_of c_first_greatest)
  have c_farthest_from_minimum : C8.Cal P w K mg base 10 "farthest_from_minimum" spWorst [] := cal_of T_farthest_from_minimum sc_farthest_from_minimum (fun vs H Q E hq => by repeat (first | (obtain ⟨e, _⟩ := hq; exact congrArg List.length e) | (obtain ⟨_, hq⟩ := hq))) (b_farthest_from_minimum c_renamed_sequences c_misses_of c_minimum_misses c_first_greatest)
  have c_shortest_anomaly : C8.Cal P w K mg base 8 "shortest_anomaly" (spAnomaly K) [] := cal_of T_shortest_anomaly sc_shortest_anomaly (fun vs H Q E hq => by repeat (first | (obtain ⟨e, _⟩ := hq; exact congrArg List.length e) | (obtain ⟨_, hq⟩ := hq))) (b_shortest_anomaly TS m_enumerate y_Cache_access z_Cache)
  have c_listed : C8.Cal P w K mg base 1 "listed" (spListed K) [] := cal_of T_listed sc_listed (fun vs H Q E hq => by repeat (first | (obtain ⟨e, _⟩ := hq; exact congrArg List.length e) | (obtain ⟨_, hq⟩ := hq))) (b_listed m_len)
  have x_answer_configure : CalX P w K mg base 3 "answer_configure" (spOp (⟨CL, CC, CE, CR, errF e1 e2 e3 e4 e5 e6, Pt⟩ : Ad) K 0) := calX_of T_answer_configure sc_answer_configure (fun vs H Q E hq => by repeat (first | (obtain ⟨e, _⟩ := hq; exact congrArg List.length e) | (obtain ⟨_, hq⟩ := hq))) (b_configure TL y_CallReader_take_number x_check_capacity x_check_policy z_Cache)
  have x_answer_access : CalX P w K mg base 8 "answer_access" (spOp (⟨CL, CC, CE, CR, errF e1 e2 e3 e4 e5 e6, Pt⟩ : Ad) K 1) := calX_of T_answer_access sc_answer_access (fun vs H Q E hq => by repeat (first | (obtain ⟨e, _⟩ := hq; exact congrArg List.length e) | (obtain ⟨_, hq⟩ := hq))) (b_op_access TL y_CallReader_take_number x_check_key y_Cache_holds y_Cache_access c_listed)
  have x_answer_remove : CalX P w K mg base 3 "answer_remove" (spOp (⟨CL, CC, CE, CR, errF e1 e2 e3 e4 e5 e6, Pt⟩ : Ad) K 2) := calX_of T_answer_remove sc_answer_remove (fun vs H Q E hq => by repeat (first | (obtain ⟨e, _⟩ := hq; exact congrArg List.length e) | (obtain ⟨_, hq⟩ := hq))) (b_op_remove TL y_CallReader_take_number x_check_key y_Cache_remove_key)
  have x_answer_contents : CalX P w K mg base 1 "answer_contents" (spOp (⟨CL, CC, CE, CR, errF e1 e2 e3 e4 e5 e6, Pt⟩ : Ad) K 3) := calX_of T_answer_contents sc_answer_contents (fun vs H Q E hq => by repeat (first | (obtain ⟨e, _⟩ := hq; exact congrArg List.length e) | (obtain ⟨_, hq⟩ := hq))) (b_op_contents TL TS)
  have x_answer_next_victim : CalX P w K mg base 5 "answer_next_victim" (spOp (⟨CL, CC, CE, CR, errF e1 e2 e3 e4 e5 e6, Pt⟩ : Ad) K 4) := calX_of T_answer_next_victim sc_answer_next_victim (fun vs H Q E hq => by repeat (first | (obtain ⟨e, _⟩ := hq; exact congrArg List.length e) | (obtain ⟨_, hq⟩ := hq))) (b_op_next TL TS y_Cache_next_victim)
  have x_answer_counters : CalX P w K mg base 1 "answer_counters" (spOp (⟨CL, CC, CE, CR, errF e1 e2 e3 e4 e5 e6, Pt⟩ : Ad) K 5) := calX_of T_answer_counters sc_answer_counters (fun vs H Q E hq => by repeat (first | (obtain ⟨e, _⟩ := hq; exact congrArg List.length e) | (obtain ⟨_, hq⟩ := hq))) (b_op_counters TL TS)
  have x_answer_simulate : CalX P w K mg base 9 "answer_simulate" (spOp (⟨CL, CC, CE, CR, errF e1 e2 e3 e4 e5 e6, Pt⟩ : Ad) K 6) := calX_of T_answer_simulate sc_answer_simulate (fun vs H Q E hq => by repeat (first | (obtain ⟨e, _⟩ := hq; exact congrArg List.length e) | (obtain ⟨_, hq⟩ := hq))) (b_op_simulate TL TS y_CallReader_take_number y_CallReader_take_row x_check_capacity x_check_policy x_check_sequence c_cache_after y_Cache_cached_keys c_listed)
  have x_answer_optimal : CalX P w K mg base 6 "answer_optimal" (spOp (⟨CL, CC, CE, CR, errF e1 e2 e3 e4 e5 e6, Pt⟩ : Ad) K 7) := calX_of T_answer_optimal sc_answer_optimal (fun vs H Q E hq => by repeat (first | (obtain ⟨e, _⟩ := hq; exact congrArg List.length e) | (obtain ⟨_, hq⟩ := hq))) (b_op_optimal y_CallReader_take_number y_CallReader_take_row x_check_capacity x_check_sequence c_optimal_evictions c_listed)
  have x_answer_farthest : CalX P w K mg base 6 "answer_farthest" (spOp (⟨CL, CC, CE, CR, errF e1 e2 e3 e4 e5 e6, Pt⟩ : Ad) K 8) := calX_of T_answer_farthest sc_answer_farthest (fun vs H Q E hq => by repeat (first | (obtain ⟨e, _⟩ := hq; exact congrArg List.length e) | (obtain ⟨_, hq⟩ := hq))) (b_op_farthest y_CallReader_take_number y_CallReader_take_row x_check_capacity x_check_sequence c_belady_evictions c_listed)
  have x_answer_replay : CalX P w K mg base 3 "answer_replay" (spOp (⟨CL, CC, CE, CR, errF e1 e2 e3 e4 e5 e6, Pt⟩ : Ad) K 9) := calX_of T_answer_replay sc_answer_replay (fun vs H Q E hq => by repeat (first | (obtain ⟨e, _⟩ := hq; exact congrArg List.length e) | (obtain ⟨_, hq⟩ := hq))) (b_op_replay y_CallReader_take_number y_CallReader_take_row x_check_capacity x_check_sequence c_replayed)
  have x_answer_phases : CalX P w K mg base 3 "answer_phases" (spOp (⟨CL, CC, CE, CR, errF e1 e2 e3 e4 e5 e6, Pt⟩ : Ad) K 10) := calX_of T_answer_phases sc_answer_phases (fun vs H Q E hq => by repeat (first | (obtain ⟨e, _⟩ := hq; exact congrArg List.length e) | (obtain ⟨_, hq⟩ := hq))) (b_op_phases y_CallReader_take_number y_CallReader_take_row x_check_capacity x_check_some_capacity x_check_sequence c_phase_starts c_listed)
  have x_answer_separate : CalX P w K mg base 11 "answer_separate" (spOp (⟨CL, CC, CE, CR, errF e1 e2 e3 e4 e5 e6, Pt⟩ : Ad) K 11) := calX_of T_answer_separate sc_answer_separate (fun vs H Q E hq => by repeat (first | (obtain ⟨e, _⟩ := hq; exact congrArg List.length e) | (obtain ⟨_, hq⟩ := hq))) (b_op_separate v_MAX_BOUND_SEPARATE y_CallReader_take_number x_check_capacity x_check_policy x_check_search c_most_different c_listed)
  have x_answer_worst : CalX P w K mg base 11 "answer_worst" (spOp (⟨CL, CC, CE, CR, errF e1 e2 e3 e4 e5 e6, Pt⟩ : Ad) K 12) := calX_of T_answer_worst sc_answer_worst (fun vs H Q E hq => by repeat (first | (obtain ⟨e, _⟩ := hq; exact congrArg List.length e) | (obtain ⟨_, hq⟩ := hq))) (b_op_worst v_MAX_BOUND_WORST y_CallReader_take_number x_check_capacity x_check_policy x_check_search c_farthest_from_minimum c_listed)
  have x_answer_anomaly : CalX P w K mg base 9 "answer_anomaly" (spOp (⟨CL, CC, CE, CR, errF e1 e2 e3 e4 e5 e6, Pt⟩ : Ad) K 13) := calX_of T_answer_anomaly sc_answer_anomaly (fun vs H Q E hq => by repeat (first | (obtain ⟨e, _⟩ := hq; exact congrArg List.length e) | (obtain ⟨_, hq⟩ := hq))) (b_op_anomaly y_CallReader_take_number y_CallReader_take_row x_check_capacity x_check_policy x_check_sequence c_shortest_anomaly)
  have to : ∀ f sp, TblO (⟨CL, CC, CE, CR, errF e1 e2 e3 e4 e5 e6, Pt⟩ : Ad) K [(0, f_answer_configure), (1, f_answer_access), (2, f_answer_remove), (3, f_answer_contents), (4, f_answer_next_victim), (5, f_answer_counters), (6, f_answer_simulate), (7, f_answer_optimal), (8, f_answer_farthest), (9, f_answer_replay), (10, f_answer_phases), (11, f_answer_separate), (12, f_answer_worst), (13, f_answer_anomaly)] f sp → HeldX P w K mg base 11 f sp := by
    rintro f sp ⟨op, hl, rfl⟩
    have hm := lookup_in hl
    simp only [List.mem_cons, List.not_mem_nil, or_false, Prod.mk.injEq] at hm
    rcases hm with ⟨rfl, rfl⟩ | ⟨rfl, rfl⟩ | ⟨rfl, rfl⟩ | ⟨rfl, rfl⟩ | ⟨rfl, rfl⟩ | ⟨rfl, rfl⟩ | ⟨rfl, rfl⟩ | ⟨rfl, rfl⟩ | ⟨rfl, rfl⟩ | ⟨rfl, rfl⟩ | ⟨rfl, rfl⟩ | ⟨rfl, rfl⟩ | ⟨rfl, rfl⟩ | ⟨rfl, rfl⟩
    · exact (heldX_of x_answer_configure (PySem.W.mg_of X G a_answer_configure)).mono (by decide)
    · exact (heldX_of x_answer_access (PySem.W.mg_of X G a_answer_access)).mono (by decide)
    · exact (heldX_of x_answer_remove (PySem.W.mg_of X G a_answer_remove)).mono (by decide)
    · exact (heldX_of x_answer_contents (PySem.W.mg_of X G a_answer_contents)).mono (by decide)
    · exact (heldX_of x_answer_next_victim (PySem.W.mg_of X G a_answer_next_victim)).mono (by decide)
    · exact (heldX_of x_answer_counters (PySem.W.mg_of X G a_answer_counters)).mono (by decide)
    · exact (heldX_of x_answer_simulate (PySem.W.mg_of X G a_answer_simulate)).mono (by decide)
    · exact (heldX_of x_answer_optimal (PySem.W.mg_of X G a_answer_optimal)).mono (by decide)
    · exact (heldX_of x_answer_farthest (PySem.W.mg_of X G a_answer_farthest)).mono (by decide)
    · exact (heldX_of x_answer_replay (PySem.W.mg_of X G a_answer_replay)).mono (by decide)
    · exact (heldX_of x_answer_phases (PySem.W.mg_of X G a_answer_phases)).mono (by decide)
    · exact (heldX_of x_answer_separate (PySem.W.mg_of X G a_answer_separate)).mono (by decide)
    · exact (heldX_of x_answer_worst (PySem.W.mg_of X G a_answer_worst)).mono (by decide)
    · exact (heldX_of x_answer_anomaly (PySem.W.mg_of X G a_answer_anomaly)).mono (by decide)
  have c_answer_call : C8.Cal P w K mg base 30 "answer_call" (spCall (⟨CL, CC, CE, CR, errF e1 e2 e3 e4 e5 e6, Pt⟩ : Ad) K) [] := cal_of T_answer_call sc_answer_call (fun vs H Q E hq => by repeat (first | (obtain ⟨e, _⟩ := hq; exact congrArg List.length e) | (obtain ⟨_, hq⟩ := hq))) (b_answer_call TC to y_CallReader_take_number)
  have z_Laboratory : C8.Mak P w K mg base 3 "Laboratory" CL (spLabInit (⟨CL, CC, CE, CR, errF e1 e2 e3 e4 e5 e6, Pt⟩ : Ad)) [] := mak_of T_Laboratory_init sc_Laboratory_init (fun vs H Q E hq => by repeat (first | (obtain ⟨e, _⟩ := hq; exact congrArg List.length e) | (obtain ⟨_, hq⟩ := hq))) (b_Lab_init TL z_Cache)
  exact F_answers.ok sc_answers (fun vs H Q E hq => by repeat (first | (obtain ⟨e, _⟩ := hq; exact congrArg List.length e) | (obtain ⟨_, hq⟩ := hq))) (b_answers (A := (⟨CL, CC, CE, CR, errF e1 e2 e3 e4 e5 e6, Pt⟩ : Ad)) y_CallReader_has_more z_Laboratory z_CallReader c_listed c_answer_call _)
end Lab

/-! The end. -/
namespace Lab
open PySem PySem.Spec PyProof.Rows L2 LamX
theorem src_of {K : PySem.W.Frag} {H : Hp} {a : Addr} {ns : List Int} (hO : OnlyT H) (hs : SqL K H a (ns.map V.int)) : Src K H a ns := by
  rcases hs with (h | h) | h
  · rcases hO a with z | ⟨o, u, z⟩ | ⟨ps, z⟩
    · rw [h] at z
      cases z
    · rw [h] at z
      cases z
    · rw [h] at z
      cases z
  · exact .inl h
  · exact .inr fun _ => .inr h
end Lab
local macro_rules
  | `(tactic| o_headS ($_ $k $a $e)) => `(tactic| o_headS (PySem.W.kmHook $k $a $e [98]))
open PySem PySem.W PyProof.Rows
set_option maxRecDepth 100000 in
set_option maxHeartbeats 16000000 in
theorem PySem.Challenge.cw_keepslots_s01_answers_holds : PySem.Challenge.rw_keepslots_s01_answers.Holds := by
  w_on; k_headS; (case hw => exact ⟨[.list [.int 3]], by decide +kernel, by decide +kernel⟩)
  k_fillS
  refine Lab.walk_T (r := PySem.Challenge.rw_keepslots_s01_answers) (k := 31) (CX := L2.CX0) (ps := ["calls"]) (cs := [(102, 98)]) (sp := fun K => Lab.spAns ⟨0, 0, 0, 0, fun _ => 0, 98⟩ K) (by decide +kernel) rfl rfl ⟨rfl, by decide, by decide⟩ (fun w h Y => PySem.W.km_in_of Y) ?F ?S (fun _ _ _ _ z => z)
  case F =>
    intro w mg fa h Y KX G hmg
    refine ⟨⟨fun p hp => ?_, fun p hp => ?_, fun p hp => ?_⟩, ?_⟩
    · rw [List.mem_singleton.mp hp]
      exact PySem.W.km_tabs_of Y 98 (List.mem_singleton.mpr rfl)
    · rw [List.mem_singleton.mp hp]
      kernel_rfl
    · rw [List.mem_singleton.mp hp]
      exact PySem.W.codeHd_of_K KX (by kernel_rfl)
    refine' Lab.all_ok KX G hmg ?a_must_evict ?l_must_evict ?c_must_evict ?k_must_evict ?a_without_key ?l_without_key ?c_without_key ?k_without_key ?a_with_key ?l_with_key ?c_with_key ?k_with_key ?a_missed ?l_missed ?c_missed ?k_missed ?a_replayed ?l_replayed ?c_replayed ?k_replayed ?a_accesses_until ?l_accesses_until ?c_accesses_until ?k_accesses_until ?a_farthest_key ?l_farthest_key ?c_farthest_key ?k_farthest_key ?a_belady_evictions ?l_belady_evictions ?c_belady_evictions ?k_belady_evictions ?a_keep_better ?l_keep_better ?c_keep_better ?k_keep_better ?a_ways_after ?l_ways_after ?c_ways_after ?k_ways_after ?a_optimal_evictions ?l_optimal_evictions ?c_optimal_evictions ?k_optimal_evictions ?a_phase_starts ?l_phase_starts ?c_phase_starts ?k_phase_starts ?a_last_use_of ?l_last_use_of ?c_last_use_of ?k_last_use_of ?a_use_count_and_last_use_of ?l_use_count_and_last_use_of ?c_use_count_and_last_use_of ?k_use_count_and_last_use_of ?a_first_listed ?l_first_listed ?c_first_listed ?k_first_listed ?a_least_recently_used ?l_least_recently_used ?c_least_recently_used ?k_least_recently_used ?a_most_recently_used ?l_most_recently_used ?c_most_recently_used ?k_most_recently_used ?a_least_frequently_used ?l_least_frequently_used ?c_least_frequently_used ?k_least_frequently_used ?a_first_without_bit ?l_first_without_bit ?c_first_without_bit ?k_first_without_bit ?a_cache_after ?l_cache_after ?c_cache_after ?k_cache_after ?a_renamed_sequences ?l_renamed_sequences ?c_renamed_sequences ?k_renamed_sequences ?a_misses_of ?l_misses_of ?c_misses_of ?k_misses_of ?a_minimum_misses ?l_minimum_misses ?c_minimum_misses ?k_minimum_misses ?a_lead_of ?l_lead_of ?c_lead_of ?k_lead_of ?a_first_greatest ?l_first_greatest ?c_first_greatest ?k_first_greatest ?a_most_different ?l_most_different ?c_most_different ?k_most_different ?a_farthest_from_minimum ?l_farthest_from_minimum ?c_farthest_from_minimum ?k_farthest_from_minimum ?a_shortest_anomaly ?l_shortest_anomaly ?c_shortest_anomaly ?k_shortest_anomaly ?a_check_capacity ?l_check_capacity ?c_check_capacity ?k_check_capacity ?a_check_policy ?l_check_policy ?c_check_policy ?k_check_policy ?a_is_key ?l_is_key ?c_is_key ?k_is_key ?a_check_key ?l_check_key ?c_check_key ?k_check_key ?a_check_sequence ?l_check_sequence ?c_check_sequence ?k_check_sequence ?a_check_some_capacity ?l_check_some_capacity ?c_check_some_capacity ?k_check_some_capacity ?a_check_search ?l_check_search ?c_check_search ?k_check_search ?a_listed ?l_listed ?c_listed ?k_listed ?a_answer_configure ?l_answer_configure ?c_answer_configure ?k_answer_configure ?a_answer_access ?l_answer_access ?c_answer_access ?k_answer_access ?a_answer_remove ?l_answer_remove ?c_answer_remove ?k_answer_remove ?a_answer_contents ?l_answer_contents ?c_answer_contents ?k_answer_contents ?a_answer_next_victim ?l_answer_next_victim ?c_answer_next_victim ?k_answer_next_victim ?a_answer_counters ?l_answer_counters ?c_answer_counters ?k_answer_counters ?a_answer_simulate ?l_answer_simulate ?c_answer_simulate ?k_answer_simulate ?a_answer_optimal ?l_answer_optimal ?c_answer_optimal ?k_answer_optimal ?a_answer_farthest ?l_answer_farthest ?c_answer_farthest ?k_answer_farthest ?a_answer_replay ?l_answer_replay ?c_answer_replay ?k_answer_replay ?a_answer_phases ?l_answer_phases ?c_answer_phases ?k_answer_phases ?a_answer_separate ?l_answer_separate ?c_answer_separate ?k_answer_separate ?a_answer_worst ?l_answer_worst ?c_answer_worst ?k_answer_worst ?a_answer_anomaly ?l_answer_anomaly ?c_answer_anomaly ?k_answer_anomaly ?a_answer_call ?l_answer_call ?c_answer_call ?k_answer_call ?a_answers ?l_answers ?c_answers ?k_answers ?aC_CR ?aC_CE ?aC_CC ?aC_CL ?a_CallReader_init ?i_CallReader_init ?l_CallReader_init ?c_CallReader_init ?k_CallReader_init ?a_CallReader_has_more ?i_CallReader_has_more ?l_CallReader_has_more ?c_CallReader_has_more ?k_CallReader_has_more ?a_CallReader_take_number ?i_CallReader_take_number ?l_CallReader_take_number ?c_CallReader_take_number ?k_CallReader_take_number ?a_CallReader_take_row ?i_CallReader_take_row ?l_CallReader_take_row ?c_CallReader_take_row ?k_CallReader_take_row ?a_Entry_init ?i_Entry_init ?l_Entry_init ?c_Entry_init ?k_Entry_init ?a_Cache_init ?i_Cache_init ?l_Cache_init ?c_Cache_init ?k_Cache_init ?a_Cache_entry_of ?i_Cache_entry_of ?l_Cache_entry_of ?c_Cache_entry_of ?k_Cache_entry_of ?a_Cache_holds ?i_Cache_holds ?l_Cache_holds ?c_Cache_holds ?k_Cache_holds ?a_Cache_cached_keys ?i_Cache_cached_keys ?l_Cache_cached_keys ?c_Cache_cached_keys ?k_Cache_cached_keys ?a_Cache_access_number ?i_Cache_access_number ?l_Cache_access_number ?c_Cache_access_number ?k_Cache_access_number ?a_Cache_access ?i_Cache_access ?l_Cache_access ?c_Cache_access ?k_Cache_access ?a_Cache_take_in ?i_Cache_take_in ?l_Cache_take_in ?c_Cache_take_in ?k_Cache_take_in ?a_Cache_make_room ?i_Cache_make_room ?l_Cache_make_room ?c_Cache_make_room ?k_Cache_make_room ?a_Cache_next_victim ?i_Cache_next_victim ?l_Cache_next_victim ?c_Cache_next_victim ?k_Cache_next_victim ?a_Cache_give_second_chances ?i_Cache_give_second_chances ?l_Cache_give_second_chances ?c_Cache_give_second_chances ?k_Cache_give_second_chances ?a_Cache_remove_key ?i_Cache_remove_key ?l_Cache_remove_key ?c_Cache_remove_key ?k_Cache_remove_key ?a_Laboratory_init ?i_Laboratory_init ?l_Laboratory_init ?c_Laboratory_init ?k_Laboratory_init ?pg_CR ?hd_CR ?po_CR ?sa_CR ?mk_CR ?kp_CR ?n_CR_calls ?n_CR_position ?pg_CE ?hd_CE ?po_CE ?sa_CE ?mk_CE ?kp_CE ?n_CE_key ?n_CE_last_use ?n_CE_use_count ?n_CE_reference_bit ?pg_CC ?hd_CC ?po_CC ?sa_CC ?mk_CC ?kp_CC ?n_CC_capacity ?n_CC_policy ?n_CC_entries ?n_CC_hits ?n_CC_misses ?pg_CL ?hd_CL ?po_CL ?sa_CL ?mk_CL ?kp_CL ?n_CL_cache ?gE1 ?xE1 ?kE1 ?bE1 ?tE1 ?iE1 ?gE2 ?xE2 ?kE2 ?bE2 ?tE2 ?iE2 ?gE3 ?xE3 ?kE3 ?bE3 ?tE3 ?iE3 ?gE4 ?xE4 ?kE4 ?bE4 ?tE4 ?iE4 ?gE5 ?xE5 ?kE5 ?bE5 ?tE5 ?iE5 ?gE6 ?xE6 ?kE6 ?bE6 ?tE6 ?iE6 ?s11 ?s12 ?s13 ?s14 ?s15 ?s16 ?s21 ?s22 ?s23 ?s24 ?s25 ?s26 ?s31 ?s32 ?s33 ?s34 ?s35 ?s36 ?s41 ?s42 ?s43 ?s44 ?s45 ?s46 ?s51 ?s52 ?s53 ?s54 ?s55 ?s56 ?s61 ?s62 ?s63 ?s64 ?s65 ?s66 ?g_SECOND_CHANCE ?g_MAX_CAPACITY ?g_MAX_POLICY ?g_MAX_KEY ?g_MAX_LENGTH ?g_MAX_BOUND_SEPARATE ?g_MAX_BOUND_WORST ?g_MAX_LENGTH_SEARCHED ?n_len ?n_min ?n_max ?n_tuple ?n_sorted ?n_enumerate ?n_set ?n_range ?gV ?gO ?dV_l ?dV_p ?dO_l ?dO_p
    (case a_must_evict => k_is)
    (case l_must_evict => k_is)
    (case c_must_evict => k_is)
    (case k_must_evict => k_is)
    (case a_without_key => k_is)
    (case l_without_key => k_is)
    (case c_without_key => k_is)
    (case k_without_key => k_is)
    (case a_with_key => k_is)
    (case l_with_key => k_is)
    (case c_with_key => k_is)
    (case k_with_key => k_is)
    (case a_missed => k_is)
    (case l_missed => k_is)
    (case c_missed => k_is)
    (case k_missed => k_is)
    (case a_replayed => k_is)
    (case l_replayed => k_is)
    (case c_replayed => k_is)
    (case k_replayed => k_is)
    (case a_accesses_until => k_is)
    (case l_accesses_until => k_is)
    (case c_accesses_until => k_is)
    (case k_accesses_until => k_is)
    (case a_farthest_key => k_is)
    (case l_farthest_key => k_is)
    (case c_farthest_key => k_is)
    (case k_farthest_key => k_is)
    (case a_belady_evictions => k_is)
    (case l_belady_evictions => k_is)
    (case c_belady_evictions => k_is)
    (case k_belady_evictions => k_is)
    (case a_keep_better => k_is)
    (case l_keep_better => k_is)
    (case c_keep_better => k_is)
    (case k_keep_better => k_is)
    (case a_ways_after => k_is)
    (case l_ways_after => k_is)
    (case c_ways_after => k_is)
    (case k_ways_after => k_is)
    (case a_optimal_evictions => k_is)
    (case l_optimal_evictions => k_is)
    (case c_optimal_evictions => k_is)
    (case k_optimal_evictions => k_is)
    (case a_phase_starts => k_is)
    (case l_phase_starts => k_is)
    (case c_phase_starts => k_is)
    (case k_phase_starts => k_is)
    (case a_last_use_of => k_is)
    (case l_last_use_of => k_is)
    (case c_last_use_of => k_is)
    (case k_last_use_of => k_is)
    (case a_use_count_and_last_use_of => k_is)
    (case l_use_count_and_last_use_of => k_is)
    (case c_use_count_and_last_use_of => k_is)
    (case k_use_count_and_last_use_of => k_is)
    (case a_first_listed => k_is)
    (case l_first_listed => k_is)
    (case c_first_listed => k_is)
    (case k_first_listed => k_is)
    (case a_least_recently_used => k_is)
    (case l_least_recently_used => k_is)
    (case c_least_recently_used => k_is)
    (case k_least_recently_used => k_is)
    (case a_most_recently_used => k_is)
    (case l_most_recently_used => k_is)
    (case c_most_recently_used => k_is)
    (case k_most_recently_used => k_is)
    (case a_least_frequently_used => k_is)
    (case l_least_frequently_used => k_is)
    (case c_least_frequently_used => k_is)
    (case k_least_frequently_used => k_is)
    (case a_first_without_bit => k_is)
    (case l_first_without_bit => k_is)
    (case c_first_without_bit => k_is)
    (case k_first_without_bit => k_is)
    (case a_cache_after => k_is)
    (case l_cache_after => k_is)
    (case c_cache_after => k_is)
    (case k_cache_after => k_is)
    (case a_renamed_sequences => k_is)
    (case l_renamed_sequences => k_is)
    (case c_renamed_sequences => k_is)
    (case k_renamed_sequences => k_is)
    (case a_misses_of => k_is)
    (case l_misses_of => k_is)
    (case c_misses_of => k_is)
    (case k_misses_of => k_is)
    (case a_minimum_misses => k_is)
    (case l_minimum_misses => k_is)
    (case c_minimum_misses => k_is)
    (case k_minimum_misses => k_is)
    (case a_lead_of => k_is)
    (case l_lead_of => k_is)
    (case c_lead_of => k_is)
    (case k_lead_of => k_is)
    (case a_first_greatest => k_is)
    (case l_first_greatest => k_is)
    (case c_first_greatest => k_is)
    (case k_first_greatest => k_is)
    (case a_most_different => k_is)
    (case l_most_different => k_is)
    (case c_most_different => k_is)
    (case k_most_different => k_is)
    (case a_farthest_from_minimum => k_is)
    (case l_farthest_from_minimum => k_is)
    (case c_farthest_from_minimum => k_is)
    (case k_farthest_from_minimum => k_is)
    (case a_shortest_anomaly => k_is)
    (case l_shortest_anomaly => k_is)
    (case c_shortest_anomaly => k_is)
    (case k_shortest_anomaly => k_is)
    (case a_check_capacity => k_is)
    (case l_check_capacity => k_is)
    (case c_check_capacity => k_is)
    (case k_check_capacity => k_is)
    (case a_check_policy => k_is)
    (case l_check_policy => k_is)
    (case c_check_policy => k_is)
    (case k_check_policy => k_is)
    (case a_is_key => k_is)
    (case l_is_key => k_is)
    (case c_is_key => k_is)
    (case k_is_key => k_is)
    (case a_check_key => k_is)
    (case l_check_key => k_is)
    (case c_check_key => k_is)
    (case k_check_key => k_is)
    (case a_check_sequence => k_is)
    (case l_check_sequence => k_is)
    (case c_check_sequence => k_is)
    (case k_check_sequence => k_is)
    (case a_check_some_capacity => k_is)
    (case l_check_some_capacity => k_is)
    (case c_check_some_capacity => k_is)
    (case k_check_some_capacity => k_is)
    (case a_check_search => k_is)
    (case l_check_search => k_is)
    (case c_check_search => k_is)
    (case k_check_search => k_is)
    (case a_listed => k_is)
    (case l_listed => k_is)
    (case c_listed => k_is)
    (case k_listed => k_is)
    (case a_answer_configure => k_is)
    (case l_answer_configure => k_is)
    (case c_answer_configure => k_is)
    (case k_answer_configure => k_is)
    (case a_answer_access => k_is)
    (case l_answer_access => k_is)
    (case c_answer_access => k_is)
    (case k_answer_access => k_is)
    (case a_answer_remove => k_is)
    (case l_answer_remove => k_is)
    (case c_answer_remove => k_is)
    (case k_answer_remove => k_is)
    (case a_answer_contents => k_is)
    (case l_answer_contents => k_is)
    (case c_answer_contents => k_is)
    (case k_answer_contents => k_is)
    (case a_answer_next_victim => k_is)
    (case l_answer_next_victim => k_is)
    (case c_answer_next_victim => k_is)
    (case k_answer_next_victim => k_is)
    (case a_answer_counters => k_is)
    (case l_answer_counters => k_is)
    (case c_answer_counters => k_is)
    (case k_answer_counters => k_is)
    (case a_answer_simulate => k_is)
    (case l_answer_simulate => k_is)
    (case c_answer_simulate => k_is)
    (case k_answer_simulate => k_is)
    (case a_answer_optimal => k_is)
    (case l_answer_optimal => k_is)
    (case c_answer_optimal => k_is)
    (case k_answer_optimal => k_is)
    (case a_answer_farthest => k_is)
    (case l_answer_farthest => k_is)
    (case c_answer_farthest => k_is)
    (case k_answer_farthest => k_is)
    (case a_answer_replay => k_is)
    (case l_answer_replay => k_is)
    (case c_answer_replay => k_is)
    (case k_answer_replay => k_is)
    (case a_answer_phases => k_is)
    (case l_answer_phases => k_is)
    (case c_answer_phases => k_is)
    (case k_answer_phases => k_is)
    (case a_answer_separate => k_is)
    (case l_answer_separate => k_is)
    (case c_answer_separate => k_is)
    (case k_answer_separate => k_is)
    (case a_answer_worst => k_is)
    (case l_answer_worst => k_is)
    (case c_answer_worst => k_is)
    (case k_answer_worst => k_is)
    (case a_answer_anomaly => k_is)
    (case l_answer_anomaly => k_is)
    (case c_answer_anomaly => k_is)
    (case k_answer_anomaly => k_is)
    (case a_answer_call => k_is)
    (case l_answer_call => k_is)
    (case c_answer_call => k_is)
    (case k_answer_call => k_is)
    (case a_answers => k_is)
    (case l_answers => k_is)
    (case c_answers => k_is)
    (case k_answers => k_is)
    (case aC_CR => k_is)
    (case aC_CE => k_is)
    (case aC_CC => k_is)
    (case aC_CL => k_is)
    (case a_CallReader_init => k_is)
    (case i_CallReader_init => k_is)
    (case l_CallReader_init => k_is)
    (case c_CallReader_init => k_is)
    (case k_CallReader_init => k_is)
    (case a_CallReader_has_more => k_is)
    (case i_CallReader_has_more => k_is)
    (case l_CallReader_has_more => k_is)
    (case c_CallReader_has_more => k_is)
    (case k_CallReader_has_more => k_is)
    (case a_CallReader_take_number => k_is)
    (case i_CallReader_take_number => k_is)
    (case l_CallReader_take_number => k_is)
    (case c_CallReader_take_number => k_is)
    (case k_CallReader_take_number => k_is)
    (case a_CallReader_take_row => k_is)
    (case i_CallReader_take_row => k_is)
    (case l_CallReader_take_row => k_is)
    (case c_CallReader_take_row => k_is)
    (case k_CallReader_take_row => k_is)
    (case a_Entry_init => k_is)
    (case i_Entry_init => k_is)
    (case l_Entry_init => k_is)
    (case c_Entry_init => k_is)
    (case k_Entry_init => k_is)
    (case a_Cache_init => k_is)
    (case i_Cache_init => k_is)
    (case l_Cache_init => k_is)
    (case c_Cache_init => k_is)
    (case k_Cache_init => k_is)
    (case a_Cache_entry_of => k_is)
    (case i_Cache_entry_of => k_is)
    (case l_Cache_entry_of => k_is)
    (case c_Cache_entry_of => k_is)
    (case k_Cache_entry_of => k_is)
    (case a_Cache_holds => k_is)
    (case i_Cache_holds => k_is)
    (case l_Cache_holds => k_is)
    (case c_Cache_holds => k_is)
    (case k_Cache_holds => k_is)
    (case a_Cache_cached_keys => k_is)
    (case i_Cache_cached_keys => k_is)
    (case l_Cache_cached_keys => k_is)
    (case c_Cache_cached_keys => k_is)
    (case k_Cache_cached_keys => k_is)
    (case a_Cache_access_number => k_is)
    (case i_Cache_access_number => k_is)
    (case l_Cache_access_number => k_is)
    (case c_Cache_access_number => k_is)
    (case k_Cache_access_number => k_is)
    (case a_Cache_access => k_is)
    (case i_Cache_access => k_is)
    (case l_Cache_access => k_is)
    (case c_Cache_access => k_is)
    (case k_Cache_access => k_is)
    (case a_Cache_take_in => k_is)
    (case i_Cache_take_in => k_is)
    (case l_Cache_take_in => k_is)
    (case c_Cache_take_in => k_is)
    (case k_Cache_take_in => k_is)
    (case a_Cache_make_room => k_is)
    (case i_Cache_make_room => k_is)
    (case l_Cache_make_room => k_is)
    (case c_Cache_make_room => k_is)
    (case k_Cache_make_room => k_is)
    (case a_Cache_next_victim => k_is)
    (case i_Cache_next_victim => k_is)
    (case l_Cache_next_victim => k_is)
    (case c_Cache_next_victim => k_is)
    (case k_Cache_next_victim => k_is)
    (case a_Cache_give_second_chances => k_is)
    (case i_Cache_give_second_chances => k_is)
    (case l_Cache_give_second_chances => k_is)
    (case c_Cache_give_second_chances => k_is)
    (case k_Cache_give_second_chances => k_is)
    (case a_Cache_remove_key => k_is)
    (case i_Cache_remove_key => k_is)
    (case l_Cache_remove_key => k_is)
    (case c_Cache_remove_key => k_is)
    (case k_Cache_remove_key => k_is)
    (case a_Laboratory_init => k_is)
    (case i_Laboratory_init => k_is)
    (case l_Laboratory_init => k_is)
    (case c_Laboratory_init => k_is)
    (case k_Laboratory_init => k_is)
    (case pg_CR => k_is)
    (case hd_CR => k_is)
    (case po_CR => k_is)
    (case sa_CR => k_is)
    (case mk_CR => k_is)
    (case kp_CR => k_is)
    (case n_CR_calls => k_is)
    (case n_CR_position => k_is)
    (case pg_CE => k_is)
    (case hd_CE => k_is)
    (case po_CE => k_is)
    (case sa_CE => k_is)
    (case mk_CE => k_is)
    (case kp_CE => k_is)
    (case n_CE_key => k_is)
    (case n_CE_last_use => k_is)
    (case n_CE_use_count => k_is)
    (case n_CE_reference_bit => k_is)
    (case pg_CC => k_is)
    (case hd_CC => k_is)
    (case po_CC => k_is)
    (case sa_CC => k_is)
    (case mk_CC => k_is)
    (case kp_CC => k_is)
    (case n_CC_capacity => k_is)
    (case n_CC_policy => k_is)
    (case n_CC_entries => k_is)
    (case n_CC_hits => k_is)
    (case n_CC_misses => k_is)
    (case pg_CL => k_is)
    (case hd_CL => k_is)
    (case po_CL => k_is)
    (case sa_CL => k_is)
    (case mk_CL => k_is)
    (case kp_CL => k_is)
    (case n_CL_cache => k_is)
    (case gE1 => k_is)
    (case xE1 => k_exc)
    (case kE1 => k_is)
    (case bE1 => k_is)
    (case tE1 => k_is)
    (case iE1 => k_is)
    (case gE2 => k_is)
    (case xE2 => k_exc)
    (case kE2 => k_is)
    (case bE2 => k_is)
    (case tE2 => k_is)
    (case iE2 => k_is)
    (case gE3 => k_is)
    (case xE3 => k_exc)
    (case kE3 => k_is)
    (case bE3 => k_is)
    (case tE3 => k_is)
    (case iE3 => k_is)
    (case gE4 => k_is)
    (case xE4 => k_exc)
    (case kE4 => k_is)
    (case bE4 => k_is)
    (case tE4 => k_is)
    (case iE4 => k_is)
    (case gE5 => k_is)
    (case xE5 => k_exc)
    (case kE5 => k_is)
    (case bE5 => k_is)
    (case tE5 => k_is)
    (case iE5 => k_is)
    (case gE6 => k_is)
    (case xE6 => k_exc)
    (case kE6 => k_is)
    (case bE6 => k_is)
    (case tE6 => k_is)
    (case iE6 => k_is)
    (case s11 => k_is)
    (case s12 => k_is)
    (case s13 => k_is)
    (case s14 => k_is)
    (case s15 => k_is)
    (case s16 => k_is)
    (case s21 => k_is)
    (case s22 => k_is)
    (case s23 => k_is)
    (case s24 => k_is)
    (case s25 => k_is)
    (case s26 => k_is)
    (case s31 => k_is)
    (case s32 => k_is)
    (case s33 => k_is)
    (case s34 => k_is)
    (case s35 => k_is)
    (case s36 => k_is)
    (case s41 => k_is)
    (case s42 => k_is)
    (case s43 => k_is)
    (case s44 => k_is)
    (case s45 => k_is)
    (case s46 => k_is)
    (case s51 => k_is)
    (case s52 => k_is)
    (case s53 => k_is)
    (case s54 => k_is)
    (case s55 => k_is)
    (case s56 => k_is)
    (case s61 => k_is)
    (case s62 => k_is)
    (case s63 => k_is)
    (case s64 => k_is)
    (case s65 => k_is)
    (case s66 => k_is)
    (case g_SECOND_CHANCE => exact ⟨_, by k_is⟩)
    (case g_MAX_CAPACITY => exact ⟨_, by k_is⟩)
    (case g_MAX_POLICY => exact ⟨_, by k_is⟩)
    (case g_MAX_KEY => exact ⟨_, by k_is⟩)
    (case g_MAX_LENGTH => exact ⟨_, by k_is⟩)
    (case g_MAX_BOUND_SEPARATE => exact ⟨_, by k_is⟩)
    (case g_MAX_BOUND_WORST => exact ⟨_, by k_is⟩)
    (case g_MAX_LENGTH_SEARCHED => exact ⟨_, by k_is⟩)
    (case n_len => k_is)
    (case n_min => k_is)
    (case n_max => k_is)
    (case n_tuple => k_is)
    (case n_sorted => k_is)
    (case n_enumerate => k_is)
    (case n_set => k_is)
    (case n_range => k_is)
    (case gV => k_is)
    (case gO => k_is)
    (case dV_l => k_is)
    (case dV_p => exact .cons ⟨rfl, ⟨_, rfl⟩, rfl⟩ (.cons ⟨rfl, ⟨_, rfl⟩, rfl⟩ (.cons ⟨rfl, ⟨_, rfl⟩, rfl⟩ (.cons ⟨rfl, ⟨_, rfl⟩, rfl⟩ (.cons ⟨rfl, ⟨_, rfl⟩, rfl⟩ (.nil))))))
    (case dO_l => k_is)
    (case dO_p => exact .cons ⟨rfl, ⟨_, rfl⟩, rfl⟩ (.cons ⟨rfl, ⟨_, rfl⟩, rfl⟩ (.cons ⟨rfl, ⟨_, rfl⟩, rfl⟩ (.cons ⟨rfl, ⟨_, rfl⟩, rfl⟩ (.cons ⟨rfl, ⟨_, rfl⟩, rfl⟩ (.cons ⟨rfl, ⟨_, rfl⟩, rfl⟩ (.cons ⟨rfl, ⟨_, rfl⟩, rfl⟩ (.cons ⟨rfl, ⟨_, rfl⟩, rfl⟩ (.cons ⟨rfl, ⟨_, rfl⟩, rfl⟩ (.cons ⟨rfl, ⟨_, rfl⟩, rfl⟩ (.cons ⟨rfl, ⟨_, rfl⟩, rfl⟩ (.cons ⟨rfl, ⟨_, rfl⟩, rfl⟩ (.cons ⟨rfl, ⟨_, rfl⟩, rfl⟩ (.cons ⟨rfl, ⟨_, rfl⟩, rfl⟩ (.nil)))))))))))))))
  case S =>
    intro K H xs a hO hT hwi hask hx
    cases hx with
    | cons h1 h2 =>
      cases h2
      cases h1 with
      | lst hs ha =>
        have e := L2.ints_dw a.1 _ ha
        subst e
        exact ⟨_, a.1, rfl, Lab.src_of hO hs, LamX.TabS.nil (hT (102, 98) List.mem_cons_self), hask, fun H' p hp => .lst (L2.SqL.of hp) (L2.dw_ints _)⟩
#print axioms PySem.Challenge.cw_keepslots_s01_answers_holds
