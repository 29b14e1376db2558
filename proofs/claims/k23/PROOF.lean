import PyProof.Rows.All
import Wide.All
import OpenK.AllK
import Wide.FinOn
import HandS.ForMost
import KE.SortData
import KE.SortKeyHeap
import HandS.Conv
import HandS.Zip
import KE.KExcInit
import KE.KExcIs
import HandS.ExcInit
import HandS.ExcValue
import HandS.ExcIs
import HandS.ExcField
import HandS.IsInst
import HandS.Dict
import PySem.Challenge.RW_wordfit_k23_errors_created_from_fields
set_option Elab.async false
set_option maxRecDepth 100000
set_option maxHeartbeats 4000000
set_option linter.all false
/-! defs called where nothing is being shown (no repr is under way) -/
namespace Wf
open PySem PySem.Spec PyProof.Rows L2

/-- nothing is being shown around -/
abbrev Qt (A : Around) : Prop := A.guards = some []

/-- the promise of a def that is called where nothing is being shown -/
structure FnG (P : Program) (w : World) (K : PySem.W.Frag) (mg : Str → Option Value) (base : Heap) (CX : CXT) (k : Nat) (f : Addr) (fd : FuncData) (ps : List Str) (sp : Sp) : Prop where
  many : ∀ {vs H Q E}, sp vs H Q E → vs.length = ps.length
  goes : ∀ {A : Around} {outer : List Env} {s : Shared} {H : Hp} {args : Args} {us : List Value} {vs : List V} {Q : VK} {E : XK}, Qt A → Room k A → Env0 P w K mg base A outer s H →
    BindsTo s fd args (ps.zip us) → Vals vs us → sp vs H Q E → codeAny (model P w) A (.call (.ref f) args) (CR CX outer P w H s Q E) s
section
variable {P : Program} {w : World} {K : PySem.W.Frag} {mg : Str → Option Value} {base : Heap} {CX : CXT} {k : Nat} {f : Addr} {fd : FuncData} {ps : List Str} {sp : Sp}
theorem FnG.of (F : FnOk P w K mg base CX k f fd ps sp) : FnG P w K mg base CX k f fd ps sp :=
  ⟨fun h => F.len _ _ _ _ h, fun _ hr e0 hb r h => F.run _ _ _ _ _ _ _ _ _ hr e0 hb r h⟩
theorem FnG.up {j : Nat} (F : FnG P w K mg base CX j f fd ps sp) (h : j ≤ k) : FnG P w K mg base CX k f fd ps sp :=
  ⟨F.many, fun g hr => F.goes g (hr.mono h)⟩

/-- a def by its body, where nothing is being shown -/
theorem FnG.body {x qual : Str} {st : Stmt} {N : List Str} (F : Fun K x qual st f fd) (S : FnScope N ps (defScope st)) (many : ∀ {vs H Q E}, sp vs H Q E → vs.length = ps.length)
    (B : ∀ (cdv : Value) (A : Around) (outer : List Env) (s : Shared) (H : Hp) (vs : List V) (Q : VK) (E : XK), Qt A → Room k (A.deeper (envOfC qual (defScope st) s.heap.objs.size f cdv)) → sp vs H Q E →
      ∃ t, PSs (cxOf CX P w K mg base N qual (defScope st) f cdv A outer s H E) (defBody st) t ∧ t { nx := fun _ H' => Q .non H', rt := Q } (start N vs) H) :
    FnG P w K mg base CX (k + 1) f fd ps sp := by
  obtain ⟨oc, od, kV, doc, pm, an, cdv, ct, osl, efd, lk, hcd⟩ := F.ex
  subst efd
  refine ⟨many, ?_⟩
  intro A outer s H args us vs Q E hq hr e0 hb r hsp
  have inK : K.In s.heap := e0.mod.kin.keeps (fun b o e => And.left (e0.bs b o e))
  have noL : s.heap.NoLimit := e0.mod.nolimit.keeps (fun b o e => And.left (e0.bs b o e))
  have kinds : ∀ z, z ∈ ps.zip us → (defScope st).names.lookup z.1 = some .local ∨
      ((defScope st).names.lookup z.1 = some .cell ∧ ((cellsFrom (s.heap.objs.size + 1) (defScope st).names []).lookup z.1).isSome = true) := by
    intro z hz
    cases S.par z.1 (List.of_mem_zip hz).1 with
    | inl q => exact Or.inl q
    | inr q => exact Or.inr (And.intro q (PySem.W.cellsFrom_some _ _ _ (Or.inl q)))
  refine codeAny_call_function (Room.depth hr) (inK _ _ lk) rfl S.co S.gen rfl (PySem.W.codeRec_of inK hcd) (hb _ _ _ _ (?_))
  refine wpAny_newFunctionEnv_cells S.kind kinds (fun env he s1 x => ?_)
  subst he
  refine And.intro (noL.keeps x.toInCall.keep) (codeAny_func ?_)
  obtain ⟨t, ht, q⟩ := B cdv A outer s H vs Q E hq (Room.deeper hr _) hsp
  have J := inv_start (CX := CX) (E := E) (P := P) (w := w) (K := K) (mg := mg) (base := base) S hr.hd e0 (many hsp) r x
  refine wpAny_mono (ht.run [] s1 (start N vs) H _ J q) (fun fl s' got => ?_) (fun e s' got => got)
  cases fl with
  | next =>
    obtain ⟨σ', H', J', q'⟩ := got
    exact ⟨.non, H', J'.os, J'.bare, J'.base, J'.hok, rfl, q'⟩
  | ret u =>
    obtain ⟨v, σ', H', J', rv, q'⟩ := got
    exact ⟨v, H', J'.os, J'.bare, J'.base, J'.hok, rv, q'⟩
  | brk => exact (Exists.elim got fun _ g => Exists.elim g fun _ g' => g'.2).elim
  | cont => exact (Exists.elim got fun _ g => Exists.elim g fun _ g' => g'.2).elim
end

section
variable {X : Cx} {CX : CXT} {k : Nat} {f : Addr} {fd : FuncData} {ps : List Str} {sp : Sp} {dvs : List V} {ds : List Value} {E : XK} {x : Str} {p pos : Pos} {e : Expr} {es : List Expr} {t : TA}
theorem FnG.ran {pins : List (Addr × Obj)} {σ : L2.St} {H : Hp} {s : Shared} {Q : VK} {us : List Value} {vs : List V} (F : FnG X.prog X.w X.K X.mg X.base CX k f fd ps sp) (hq : Qt X.A) (hr : Room k X.A) (hb : Binds X.K fd ps ds) (hd : Vals dvs ds)
    (hx : Passes CX X E) (I : Inv X pins σ H s) (r : Vals vs us) (h : sp (vs ++ dvs) H Q E) : wpAny (model X.prog X.w) X.A (call (.ref f) us) (EP X pins σ Q) X.xe s := by
  have r' := Vals.append r hd
  have hl : (us ++ ds).length = ps.length := (Vals.length r').symm.trans (F.many h)
  refine wpAny_call (codeAny_mono (F.goes (us := us ++ ds) (vs := vs ++ dvs) hq hr I.env0 (hb s us I.kIn hl) r' h) (fun r s' got => ?_))
  match r, got with
  | .error e, got => exact hx pins σ H s e s' I got
  | .ok (.ret u), got => exact I.after got
  | .ok .next, got => exact got.elim
  | .ok .brk, got => exact got.elim
  | .ok .cont, got => exact got.elim
/-- f(e, ..) -/
theorem pe_callG (F : FnG X.prog X.w X.K X.mg X.base CX k f fd ps sp) (hq : Qt X.A) (hr : Room k X.A) (hg : Gl X x) (hm : X.mg x = some (.ref f)) (hk : PySem.W.keepIn X.K (.ref f) = true) (hb : Binds X.K fd ps ds) (hd : Vals dvs ds)
    (hx : Passes CX X E) (ha : PA X (e :: es) t) (hdb : (x == ("__debug__" : Str)) = false := by decide) (he : starEach (e :: es) X.env = (false, eval e X.env) :: starEach es X.env := by rfl)
    (hpl : (backTo pos (starEach es X.env)).any (·.1) = false := by rfl) : PE X (.Call (.Name x p) (e :: es) [] pos) (tCall sp dvs E t) :=
  ⟨fun pins s σ H Q I h => wpAny_Call_Name_kw (ld_glob I hg hm (PySem.W.callWith_K (h₀ := X.base) I.ok.mod.kin hk
    (thn (ha.run pos pins s σ H _ I h) fun us s1 ⟨vs, H1, I1, r, q⟩ => ⟨I1.kIn, F.ran hq hr hb hd hx I1 r q⟩) he hpl) hdb)⟩
end
end Wf
namespace Wf
open PySem PySem.Spec PyProof.Rows L2

/-! ### repr of data -/
section
variable {K : PySem.W.Frag} {H : Hp}
mutual
theorem dp_plain : ∀ {d : PyData} {v : V}, Dp K H v d → d.hasDict = false
  | .none, _, _ => rfl
  | .bool _, _, _ => rfl
  | .int _, _, _ => rfl
  | .str _, _, _ => rfl
  | .list ds, _, h => by
    cases h with
    | lst _ a => exact dpAll_plain a
  | .tuple ds, _, h => by
    cases h with
    | tup _ a => exact dpAll_plain a
  | .dict _, _, h => by cases h
theorem dpAll_plain : ∀ {ds : List PyData} {vs : List V}, DpAll K H vs ds → PyData.hasDictAll ds = false
  | [], _, _ => rfl
  | d :: ds, _, h => by
    cases h with
    | cons a b =>
      show (PyData.hasDict d || PyData.hasDictAll ds) = false
      rw [dp_plain a, dpAll_plain b]
      rfl
end
end

section
variable {X : Cx}
def rRepr (K : PySem.W.Frag) : List V → Hp → VK → Prop := fun xs H Q => ∃ v d, xs = [v] ∧ Dp K H v d ∧ d.showable = true ∧ d.depth ≤ 60 ∧ d.shown.length ≤ sizeLine ∧ Q (.str d.shown) H
theorem cr_repr (hq : Qt X.A) (hu : X.A.units + 64 < cLine) : CallR X (.builtin "repr") (rRepr X.K) := by
  intro pins s σ H xs us Q I r h
  obtain ⟨v, d, rfl, hd, sh, dp, sz, q⟩ := h
  obtain ⟨u, rfl, rx⟩ := vals1 r
  obtain ⟨as, rd⟩ := Dp.reads I d v u hd rx
  have np := dp_plain hd
  cases rd with
  | none => exact PySem.P.repr_of_none ⟨.str _, H, I.tok _, ⟨_, rfl⟩, q⟩
  | bool b => exact PySem.P.repr_of_bool ⟨.str _, H, I.tok _, ⟨_, rfl⟩, q⟩
  | int i t => exact PySem.P.repr_of_int (of_decide_eq_true sh) ⟨.str _, H, I.tok _, ⟨_, rfl⟩, q⟩
  | str x t => exact PySem.P.repr_of_str ⟨.str _, H, I.tok _, ⟨_, rfl⟩, q⟩ sz
  | list a b c e => exact repr_of_reads' (Reads.list a b c e) sh (PyData.noDict_hsm np) hq (by omega) (fun _ _ z => z) (fun h' u tk k => ⟨.str _, H, I.kept k, ⟨_, rfl⟩, q⟩) sz
  | tuple a b c e => exact repr_of_reads' (Reads.tuple a b c e) sh (PyData.noDict_hsm np) hq (by omega) (fun _ _ z => z) (fun h' u tk k => ⟨.str _, H, I.kept k, ⟨_, rfl⟩, q⟩) sz
  | dict a b c e f => cases hd
end
end Wf
namespace Wf
open PySem PySem.Spec PyProof.Rows L2 PySem.W PySem.Calls

/-! ### sorted of data, of a list or of a tuple -/
section
variable {prog : Program} {w : World} {A : Around} {E : Value → Shared → Prop} {s : Shared} {β : Type} {vs : List Value} {bs : List β} {enc : β → PyData} {R : Value → β → Prop}

/-- a list or a tuple gathered into a new list -/
theorem gather {l : Addr} {T : String} {o : Obj} {n : Nat} {Q : List Value → Shared → Prop} (hT : T = "list" ∨ T = "tuple") (ho : s.heap.get? l = some o) (hc : o.cls = .type T) (hd : o.data = .seq vs.toArray n) (hL : vs.length ≤ sizeLine)
    (h : Q vs { s with heap := (s.heap.push (seqObj "list" #[] 0)).update s.heap.objs.size (Obj.mapSeq (· ++ vs.toArray)) }) : wpAny (model prog w) A (collect (.ref l)) Q E s := by
  have at0 : (s.heap.push (seqObj "list" #[] 0)).get? s.heap.objs.size = some (seqObj "list" #[] 0) := Heap.get?_push_size _ rfl
  have last : ∀ s', s' = { s with heap := (s.heap.push (seqObj "list" #[] 0)).update s.heap.objs.size (Obj.mapSeq (· ++ vs.toArray)) } → wpAny (model prog w) A (do
      let o ← load s.heap.objs.size
      match o.data with
      | .seq xs _ => pure xs.toList
      | _ => unsupported "internal:collect") Q E s' := by
    intro s' es
    subst es
    refine wpAny_bind (wpAny_load (get?_update_seq at0 _) ?_)
    refine wpAny_pure ?_
    have e : ((#[] : Array Value) ++ vs.toArray).toList = vs := by simp
    show Q ((#[] : Array Value) ++ vs.toArray).toList _
    rw [e]
    exact h
  unfold collect
  refine wpAny_bind (wpAny_runValue (codeAny_builtin F.entry_proto_collect ?_))
  rw [Around.under_plainId F.plain_proto_collect _]
  show wpAny _ A.in1 (do again (.builtin "list.__iadd__" ⟨[← newList [], .ref l], []⟩)) _ _ _
  refine wpAny_bind (wpAny_newList ?_ (Nat.zero_le _))
  refine wpAny_pure ⟨plainId_quiet F.plain_list_iadd _, codeAny_builtin F.entry_list_iadd ?_⟩
  rw [Around.under_plainId F.plain_list_iadd _]
  refine wpAny_mono (wpAny_extend_seq (A := A) (s := { s with heap := s.heap.push (seqObj "list" #[] 0) }) (o := o) (items := vs.toArray) (n := n) (R := fun r s' => r = .ok (.ret (.ref s.heap.objs.size)) ∧ s' = { s with heap := (s.heap.push (seqObj "list" #[] 0)).update s.heap.objs.size (Obj.mapSeq (· ++ vs.toArray)) })
    s.heap.objs.size l (.ref s.heap.objs.size) 0 hT at0 (Heap.get?_push_of_some _ ho) hc hd ⟨rfl, rfl⟩ (by simpa using hL)) (fun fin s' got => ?_) (fun e s' got => ?_)
  · cases fin with
    | done f =>
      obtain ⟨ef, es⟩ := got
      cases ef
      exact last s' es
    | again c =>
      refine ⟨got.1, codeAny_mono got.2 fun r s'' hr => ?_⟩
      obtain ⟨er, es⟩ := hr
      subst er
      exact last s'' es
  · exact absurd got.1 (by simp)

theorem reads_there {h : Heap} : (∀ (d : PyData) (v : Value) (as : List Addr), Reads h v d as → ∀ a ∈ as, ∃ o, h.get? a = some o) := by
  intro d v as r
  refine Reads.rec (motive_1 := fun v d as _ => ∀ a ∈ as, ∃ o, h.get? a = some o) (motive_2 := fun v d as _ => ∀ a ∈ as, ∃ o, h.get? a = some o) ?_ ?_ ?_ ?_ ?_ ?_ ?_ ?_ ?_ r
  · intro a ha; cases ha
  · intro b a ha; cases ha
  · intro i t a ha; cases ha
  · intro x t a ha; cases ha
  · intro a o vs n xs as h1 _ _ _ ih b hb
    cases hb with
    | head => exact ⟨_, h1⟩
    | tail _ hb => exact ih b hb
  · intro a o vs n xs as _ _ _ _ ih b hb
    exact ih b hb
  · intro a o es n kvs as bs h1 _ _ _ _ i1 i2 b hb
    rcases List.mem_append.mp hb with hb | hb
    · cases hb with
      | head => exact ⟨_, h1⟩
      | tail _ hb => exact i1 b hb
    · exact i2 b hb
  · intro a ha; cases ha
  · intro v vs d ds as bs _ _ i1 i2 b hb
    rcases List.mem_append.mp hb with hb | hb
    · exact i1 b hb
    · exact i2 b hb

/-- sorted(t), t a list or a tuple -/
theorem sorted_seqd {l : Addr} {T : String} {o : Obj} {n : Nat} {Q : Value → Shared → Prop} (hT : T = "list" ∨ T = "tuple") (ho : s.heap.get? l = some o) (hc : o.cls = .type T) (hd : o.data = .seq vs.toArray n)
    (e : EachIs R vs bs) (er : EachIs (fun v b => ∃ as, Reads s.heap v (enc b) as) vs bs) (hal : AllAlike (bs.map enc)) (hk : Sortable (bs.map enc)) (hL : bs.length ≤ sizeLine)
    (hu : ∀ b, b ∈ bs → A.units + 4 + (enc b).depth < cLine)
    (h : ∀ out : List Value, EachIs R out (bs.mergeSort (dataLe false enc)) → Q (.ref (s.heap.objs.size + 1)) { s with heap := sortedHeap (copyHeap s.heap vs) (s.heap.objs.size + 1) vs out.toArray }) :
    wpAny (model prog w) A (call (.builtin "sorted") [.ref l]) Q E s := by
  have hL' : vs.length ≤ sizeLine := by rw [e.length]; exact hL
  refine call_function_entry kind_sorted plain_sorted entry_sorted (args_sorted1 _) ?_
  unfold Builtin.«sorted»
  refine wpAny_bind (m := checkCount "sorted" 1 1 _) (wpAny_pure ?_)
  refine wpAny_bind (gather hT ho hc hd hL' ?_)
  refine wpAny_bind (wpAny_newList ?_ hL')
  have hsz : ((s.heap.push (seqObj "list" #[] 0)).update s.heap.objs.size (Obj.mapSeq (· ++ vs.toArray))).objs.size = s.heap.objs.size + 1 := by
    rw [Heap.size_update, size_push']
  show wpAny _ _ _ _ _ { s with heap := copyHeap s.heap vs }
  rw [hsz]
  have at1 := copyHeap_at s.heap vs
  have er1 : EachIs (fun v b => ∃ as, Reads (copyHeap s.heap vs) v (enc b) as ∧ s.heap.objs.size + 1 ∉ as) vs bs := by
    refine EachIs.mono (R := fun v b => ∃ as, Reads s.heap v (enc b) as) (fun v b h => ?_) er
    obtain ⟨as, r⟩ := h
    refine ⟨as, PyProof.Rows.Reads.keeps (fun _ _ => copyHeap_old) r, fun ha => ?_⟩
    obtain ⟨ob, hob⟩ := reads_there _ _ _ r _ ha
    exact absurd (Heap.lt_size hob) (Nat.not_lt_of_le (Nat.le_succ _))
  refine wpAny_bind (wpAny_holding ?_)
  refine list_sort_data (A := A.in1) (s := { s with heap := copyHeap s.heap vs }) (R := R) (enc := enc) (bs := bs) (vs := vs) at1 e er1 hal hk hL ?_ ?_
  · intro b hb
    have := hu b hb
    show A.units + 1 + 1 + (enc b).depth < cLine
    omega
  · intro out hl he
    exact wpAny_pure ⟨_, rfl, h out he⟩
end
end Wf
namespace Wf
open PySem PySem.Spec PyProof.Rows L2

/-! ### sorted, by data -/
/-- things with the data that they are -/
abbrev VD := V × PyData
def leD : VD → VD → Bool := PySem.W.dataLe false (fun p : VD => p.2)
def firsts (ps : List VD) : List V := ps.map (·.1)
def rSortD (K : PySem.W.Frag) : List V → Hp → VK → Prop := fun xs H Q => ∃ (a : Addr) (ps : List VD), xs = [.ref a] ∧ (SqL K H a (firsts ps) ∨ SqT K H a (firsts ps)) ∧ (∀ p ∈ ps, Dp K H p.1 p.2) ∧
  PySem.W.AllAlike (ps.map (·.2)) ∧ PySem.W.Sortable (ps.map (·.2)) ∧ (∀ p ∈ ps, p.2.depth ≤ 20) ∧ ∀ l, H l = none → Q (.ref l) (upd H l (.lst (firsts (ps.mergeSort leD))))

theorem each_of_vals {R : Value → VD → Prop} : ∀ {ps : List VD} {us : List Value}, Vals (firsts ps) us → (∀ p ∈ ps, ∀ u, RelV p.1 u → R u p) → PySem.W.EachIs R us ps
  | [], _, r, _ => by
    cases r
    exact .nil
  | p :: ps, _, r, h => by
    cases r with
    | cons r1 r2 => exact .cons (h p List.mem_cons_self _ r1) (each_of_vals r2 fun q hq => h q (List.mem_cons_of_mem _ hq))
theorem vals_of_each : ∀ {ps : List VD} {us : List Value}, PySem.W.EachIs (fun u (p : VD) => RelV p.1 u) us ps → Vals (firsts ps) us
  | _, _, .nil => .nil
  | _, _, .cons a b => .cons a (vals_of_each b)
theorem vals_of_strs : ∀ {zs : List Str} {us : List Value}, PySem.W.EachIs (fun u (z : Str) => RelV (.str z) u) us zs → Vals (zs.map V.str) us
  | _, _, .nil => .nil
  | _, _, .cons a b => .cons a (vals_of_strs b)
theorem each_of_strs : ∀ {zs : List Str} {us : List Value}, Vals (zs.map V.str) us → PySem.W.EachIs (fun u (z : Str) => RelV (.str z) u) us zs
  | [], _, r => by
    cases r
    exact .nil
  | z :: zs, _, r => by
    cases r with
    | cons r1 r2 => exact .cons r1 (each_of_strs r2)

section
variable {X : Cx}
theorem cr_sortD (hu : X.A.units + 64 < cLine) : CallR X (.builtin "sorted") (rSortD X.K) := by
  intro pins s σ H xs us Q I r h
  obtain ⟨a, ps, rfl, hs, hdp, hal, hsb, hdd, q⟩ := h
  obtain ⟨u, rfl, rx⟩ := vals1 r
  cases rx
  have got : ∃ (its : List Value) (T : String) (o : Obj) (n : Nat), Vals (firsts ps) its ∧ (T = "list" ∨ T = "tuple") ∧ s.heap.get? a = some o ∧ o.cls = .type T ∧ o.data = .seq its.toArray n ∧ (firsts ps).length ≤ sizeLine := by
    rcases hs with hs | hs
    · obtain ⟨its, rv, pl, hz⟩ := I.list hs
      obtain ⟨o, ho, hc, n, hd⟩ := pl.isList
      exact ⟨its, "list", o, n, rv, .inl rfl, ho, hc, hd, hz⟩
    · obtain ⟨its, rv, pl, hz⟩ := I.tuple hs
      obtain ⟨o, ho, hc, n, hd⟩ := pl
      exact ⟨its, "tuple", o, n, rv, .inr rfl, ho, hc, hd, hz⟩
  obtain ⟨its, T, o, n, rv, hT, ho, hc, hd, hz⟩ := got
  have hps : ps.length ≤ sizeLine := by
    unfold firsts at hz
    rw [List.length_map] at hz
    exact hz
  refine sorted_seqd (R := fun u (p : VD) => RelV p.1 u) (enc := fun p : VD => p.2) hT ho hc hd (each_of_vals rv fun p _ u z => z) (each_of_vals rv fun p hp u z => Dp.reads I p.2 p.1 u (hdp p hp) z) hal hsb hps
    (fun b hb => by have := hdd b hb; omega) fun out he => ?_
  have rv2 := vals_of_each he
  obtain ⟨ep, hat⟩ := PyProof.Rows.sortedHeap_at (h := PySem.W.copyHeap s.heap its) (a := s.heap.objs.size + 1) (vs := its) (out := out.toArray) (PySem.W.copyHeap_at s.heap its)
  have hlen : (firsts (ps.mergeSort leD)).length ≤ sizeLine := by
    unfold firsts
    rw [List.length_map, List.length_mergeSort]
    exact hps
  have old : ∀ b ob, s.heap.get? b = some ob → (sortedHeap (PySem.W.copyHeap s.heap its) (s.heap.objs.size + 1) its out.toArray).get? b = some ob := fun b ob e => by
    have hlt := Heap.lt_size e
    have e1 := PySem.W.copyHeap_old (vs := its) e
    rw [PyProof.Rows.sortedHeap_old (Nat.ne_of_lt (Nat.lt_succ_of_lt hlt)) (Heap.lt_size e1)]
    exact e1
  exact ⟨.ref _, upd H (s.heap.objs.size + 1) (.lst (firsts (ps.mergeSort leD))), I.laid (t' := s.toks) old (Nat.le_succ _) ⟨hlen, out, ep, rv2, hat⟩, rfl, q _ (I.hok.fresh (Nat.le_succ _))⟩

/-- sorted(e, key=len), of a list of texts -/
def leLen : Str → Str → Bool := PySem.W.dataLe false (fun z : Str => PyData.int (z.length : Int))
def tSortLen (K : PySem.W.Frag) (t : TA) : TE := fun σ H Q => t σ H fun xs H1 => ∃ (a : Addr) (zs : List Str), xs = [.ref a] ∧ SqL K H1 a (zs.map V.str) ∧ (∀ z ∈ zs, z.length ≤ sizeLine) ∧ ∀ l, H1 l = none → Q (.ref l) (upd H1 l (.lst ((zs.mergeSort leLen).map V.str)))
theorem run_sortLen {pins : List (Addr × Obj)} {σ : L2.St} {H : Hp} {s : Shared} {a : Addr} {zs : List Str} {Q : VK} (I : Inv X pins σ H s) (hu : X.A.units + 64 < cLine) (hs : SqL X.K H a (zs.map V.str)) (hz : ∀ z ∈ zs, z.length ≤ sizeLine)
    (q : ∀ l, H l = none → Q (.ref l) (upd H l (.lst ((zs.mergeSort leLen).map V.str)))) : wpAny (model X.prog X.w) X.A (call (.builtin "sorted") [.ref a] [(Str.ofString "key", .builtin "len")]) (EP X pins σ Q) X.xe s := by
  obtain ⟨its, rv, pl, hzl⟩ := I.list hs
  rw [List.length_map] at hzl
  refine PySem.W.sorted_key_data (R := fun u (z : Str) => RelV (.str z) u) (b := false) (f := .builtin "len") (fun z : Str => PyData.int (z.length : Int)) pl.isList (each_of_strs rv) (PySem.W.AllAlike.of fun b b' => rfl)
    (PySem.W.Sortable.others fun b => ⟨(fun h => by cases h), (fun xs h => by cases h)⟩) hzl (fun x _ => by show X.A.units + 2 + 0 < cLine; omega) (PyProof.Rows.ksk_s1 _ _) (fun _ => PyProof.Rows.ksk_l1 _ _) (fun x => PyProof.Rows.ksk_t4 "len" x)
    (fun v x r hx h tk k => ?_) fun out c h' tk k nf hat hl he => ?_
  · obtain ⟨t, rfl⟩ := r
    have hx2 := hz x hx
    rw [sizeLine_eq] at hx2
    exact PySem.P.len_str (by omega) ⟨h, _, rfl, fun _ _ z => z, Reads.int _ _⟩
  · have rv2 := vals_of_strs he
    exact ⟨.ref _, upd H (s.heap.objs.size + 1) (.lst ((zs.mergeSort leLen).map V.str)), I.laid (t' := tk) k (Nat.le_succ _) ⟨by rw [List.length_map, List.length_mergeSort]; exact hzl, out, c, rv2, hat⟩, rfl, q _ (I.hok.fresh (Nat.le_succ _))⟩
theorem pe_sortLen {e : Expr} {t : TA} {p lp kp pos : Pos} (ha : PA X [e] t) (hu : X.A.units + 64 < cLine) (hg : Gl X "sorted") (hm : X.mg "sorted" = none) (hgl : Gl X "len") (hml : X.mg "len" = none)
    (h1 : backTo pos (starEach [e] X.env) = (false, eval e X.env) :: backTo pos (starEach [] X.env) := by rfl)
    (hall : (backToKw pos (keywordEach [⟨some "key", .Name "len" lp, kp⟩] X.env)).all (·.1.isSome) = true := by rfl) (hnone : (backToKw pos (keywordEach [⟨some "key", .Name "len" lp, kp⟩] X.env)).any (·.1.isNone) = false := by rfl)
    (hpl : (backTo pos (starEach [e] X.env)).any (·.1) = false := by rfl)
    (hks : (backToKw pos (keywordEach [⟨some "key", .Name "len" lp, kp⟩] X.env)).filterMap (·.1) = [Str.ofString "key"] := by rfl) :
    PE X (.Call (.Name "sorted" p) [e] [⟨some "key", .Name "len" lp, kp⟩] pos) (tSortLen X.K t) := by
  refine ⟨fun pins s σ H Q I h => ?_⟩
  refine wpAny_Call_Name_kw (ld_blt I hg hm (by decide +kernel : bootBuiltins "sorted" = some (.builtin "sorted")) ?_ (by decide) (by decide))
  refine PyProof.Rows.callWith_kw ?_ h1 hpl hall hnone
  refine thn (ha.run pos pins s σ H _ I h) fun us s1 got => ?_
  obtain ⟨vs, H1, I1, r, a, zs, rfl, hs, hz, q⟩ := got
  obtain ⟨u, rfl, rx⟩ := vals1 r
  cases rx
  show wpAny _ _ (evalAll [(do let v ← eval (.Name "len" lp) X.env; standAt pos; pure v)]) _ _ s1
  refine wpAny_evalAll_cons (wpAny_bind (ld_blt I1 hgl hml PySem.boot_len ?_ (by decide) (by decide)))
  refine wpAny_bind (wpAny_standAt (wpAny_pure ?_))
  refine wpAny_evalAll_nil ?_
  rw [hks]
  exact run_sortLen I1 hu hs hz q
end
end Wf
namespace Wf
open PySem PySem.Spec PyProof.Rows L2

/-! ### data -/
theorem lay_all : ∀ {ds : List PyData}, (∀ d ∈ ds, d.canLay0 = true) → PyData.canLayAll0 ds = true
  | [], _ => rfl
  | d :: ds, h => by
    show (PyData.canLay0 d && PyData.canLayAll0 ds) = true
    rw [h d List.mem_cons_self, lay_all fun x hx => h x (List.mem_cons_of_mem _ hx)]
    rfl
theorem dep_all {n : Nat} : ∀ {ds : List PyData}, (∀ d ∈ ds, d.depth ≤ n) → PyData.depthAll ds ≤ n
  | [], _ => Nat.zero_le _
  | d :: ds, h => by
    show max (PyData.depth d) (PyData.depthAll ds) ≤ n
    exact Nat.max_le.mpr ⟨h d List.mem_cons_self, dep_all fun x hx => h x (List.mem_cons_of_mem _ hx)⟩
/-- plain data: it can be laid, of small depth -/
def Pl (n : Nat) (d : PyData) : Prop := d.canLay0 = true ∧ d.depth ≤ n
theorem Pl.mono {n m : Nat} {d : PyData} (h : Pl n d) (e : n ≤ m) : Pl m d := ⟨h.1, Nat.le_trans h.2 e⟩
theorem pl_none {n : Nat} : Pl n .none := ⟨rfl, Nat.zero_le _⟩
theorem pl_bool {n : Nat} {b : Bool} : Pl n (.bool b) := ⟨rfl, Nat.zero_le _⟩
theorem pl_int {n : Nat} {i : Int} : Pl n (.int i) := ⟨rfl, Nat.zero_le _⟩
theorem pl_str {n : Nat} {x : Str} (h : PyData.strOk x = true) : Pl n (.str x) := ⟨h, Nat.zero_le _⟩
theorem pl_list {n : Nat} {ds : List PyData} (h : ∀ d ∈ ds, Pl n d) : Pl (n + 1) (.list ds) := ⟨lay_all fun d hd => (h d hd).1, Nat.succ_le_succ (dep_all fun d hd => (h d hd).2)⟩
theorem pl_tup {n : Nat} {ds : List PyData} (h : ∀ d ∈ ds, Pl n d) : Pl (n + 1) (.tuple ds) := ⟨lay_all fun d hd => (h d hd).1, Nat.succ_le_succ (dep_all fun d hd => (h d hd).2)⟩
theorem Pl.shaped {n : Nat} {d : PyData} (h : Pl n d) (e : n ≤ 64 := by decide) : SeqAt.shaped d = true := by
  show (d.canLay0 && decide (d.depth ≤ 64)) = true
  rw [h.1, decide_eq_true (Nat.le_trans h.2 e)]
  rfl
theorem eqv_nil {ds : List PyData} : PyData.eqv (.list ds) (.list []) = ds.isEmpty := by
  cases ds <;> rfl
section
variable {K : PySem.W.Frag} {H H' : Hp}
theorem dpAll_of {α : Type} {f : α → V} {g : α → PyData} : ∀ {xs : List α}, (∀ x ∈ xs, Dp K H (f x) (g x)) → DpAll K H (xs.map f) (xs.map g)
  | [], _ => .nil
  | x :: xs, h => .cons (h x List.mem_cons_self) (dpAll_of fun y hy => h y (List.mem_cons_of_mem _ hy))
theorem dpAll_ints {ns : List Int} : DpAll K H (ns.map V.int) (ns.map PyData.int) := dpAll_of fun i _ => .int i
theorem dpAll_strs {zs : List Str} : DpAll K H (zs.map V.str) (zs.map PyData.str) := dpAll_of fun z _ => .str z
theorem rd_keep {a : Addr} {u : HO} (k : ∀ o, H a = some o → H' a = some o) (h : Rd H a u) : Rd H' a u := by
  rcases h with h | ⟨o, h⟩
  · exact .inl (k _ h)
  · exact .inr ⟨o, k _ h⟩
end
/-- xs == [], xs != [] -/
theorem ints_ne {X : Cx} {H : Hp} {a l : Addr} {ns : List Int} {Q : VK} (h : SqL X.K H a (ns.map V.int)) (hl : SqL X.K H l []) (q : Q (.bl (!ns.isEmpty)) H) : rNeD X.K (.ref a) (.ref l) H Q :=
  ⟨.list (ns.map PyData.int), .list [], .lst h dpAll_ints, .lst hl .nil, (pl_list (n := 0) fun d hd => by
    obtain ⟨i, _, rfl⟩ := List.mem_map.mp hd
    exact pl_int).shaped, (pl_list (n := 0) fun d hd => by cases hd).shaped, by rw [eqv_nil]; simpa using q⟩
end Wf
namespace Wf
open PySem L2
/-! ### a def of the text, to be called by its name -/
structure Dn (P : Program) (w : World) (K : PySem.W.Frag) (mg : Str → Option Value) (base : Heap) (k : Nat) (x : Str) (ps : List Str) (sp : Sp) : Prop where
  ex : ∃ (f : Addr) (fd : FuncData), FnOk P w K mg base CX0 k f fd ps sp ∧ mg x = some (.ref f) ∧ PySem.W.keepIn K (.ref f) = true ∧ Binds K fd ps []
structure DnG (P : Program) (w : World) (K : PySem.W.Frag) (mg : Str → Option Value) (base : Heap) (k : Nat) (x : Str) (ps : List Str) (sp : Sp) : Prop where
  ex : ∃ (f : Addr) (fd : FuncData), FnG P w K mg base CX0 k f fd ps sp ∧ mg x = some (.ref f) ∧ PySem.W.keepIn K (.ref f) = true ∧ Binds K fd ps []
section
variable {X : Cx} {k : Nat} {x : Str} {ps : List Str} {sp : Sp} {p pos : Pos} {e : Expr} {es : List Expr} {t : TA}
theorem pe_cl (D : Dn X.prog X.w X.K X.mg X.base k x ps sp) (hr : Room k X.A) (ha : PA X (e :: es) t) (hg : Gl X x := by rfl) (hdb : (x == ("__debug__" : Str)) = false := by decide)
    (he : starEach (e :: es) X.env = (false, eval e X.env) :: starEach es X.env := by rfl) (hpl : (backTo pos (starEach es X.env)).any (·.1) = false := by rfl) : PE X (.Call (.Name x p) (e :: es) [] pos) (tCall sp [] E0 t) :=
  let ⟨_, _, F, hm, hk, hb⟩ := D.ex
  pe_call F hr hg hm hk hb .nil pass0 ha hdb he hpl
theorem pe_clG (D : DnG X.prog X.w X.K X.mg X.base k x ps sp) (hq : Qt X.A) (hr : Room k X.A) (ha : PA X (e :: es) t) (hg : Gl X x := by rfl) (hdb : (x == ("__debug__" : Str)) = false := by decide)
    (he : starEach (e :: es) X.env = (false, eval e X.env) :: starEach es X.env := by rfl) (hpl : (backTo pos (starEach es X.env)).any (·.1) = false := by rfl) : PE X (.Call (.Name x p) (e :: es) [] pos) (tCall sp [] E0 t) :=
  let ⟨_, _, F, hm, hk, hb⟩ := D.ex
  pe_callG F hq hr hg hm hk hb .nil pass0 ha hdb he hpl
end

/-! ### the pen -/
def penO (c : Addr) (sp mo : Int) : HO := .dK [(.inr "cells", .ref c), (.inr "spot", .int sp), (.inr "more", .int mo)]
/-- a pen at p that has drawn at most n times -/
def Pen (H : Hp) (p c : Addr) (n : Nat) : Prop := ∃ (ns : List Int) (sp mo : Int), H p = some (penO c sp mo) ∧ H c = some (.lst (ns.map V.int)) ∧ ns.length ≤ 63 ∧ 0 ≤ sp ∧ sp ≤ n ∧ 0 ≤ mo
/-- nothing but p has changed -/
def But (p : Addr) (H H' : Hp) : Prop := ∀ b o, b ≠ p → H b = some o → H' b = some o

theorem pen_c {c : Addr} {sp mo : Int} : valV [((.inr "cells" : Key), V.ref c), (.inr "spot", .int sp), (.inr "more", .int mo)] (.inr "cells") = some (.ref c) := by rfl
theorem pen_s {c : Addr} {sp mo : Int} : valV [((.inr "cells" : Key), V.ref c), (.inr "spot", .int sp), (.inr "more", .int mo)] (.inr "spot") = some (.int sp) := by rfl
theorem pen_m {c : Addr} {sp mo : Int} : valV [((.inr "cells" : Key), V.ref c), (.inr "spot", .int sp), (.inr "more", .int mo)] (.inr "more") = some (.int mo) := by rfl
theorem pen_ps {c : Addr} {sp mo z : Int} : putK [((.inr "cells" : Key), V.ref c), (.inr "spot", .int sp), (.inr "more", .int mo)] (.inr "spot") (.int z) = [((.inr "cells" : Key), V.ref c), (.inr "spot", .int z), (.inr "more", .int mo)] := by rfl
theorem pen_pm {c : Addr} {sp mo z : Int} : putK [((.inr "cells" : Key), V.ref c), (.inr "spot", .int sp), (.inr "more", .int mo)] (.inr "more") (.int z) = [((.inr "cells" : Key), V.ref c), (.inr "spot", .int sp), (.inr "more", .int z)] := by rfl
theorem getC {H : Hp} {p c : Addr} {sp mo : Int} (h : H p = some (penO c sp mo)) : DGet H p (.str "cells") (some (.ref c)) := by
  have e := DGet.k (k := .inr "cells") h
  rw [pen_c] at e
  exact e
theorem getS {H : Hp} {p c : Addr} {sp mo : Int} (h : H p = some (penO c sp mo)) : DGet H p (.str "spot") (some (.int sp)) := by
  have e := DGet.k (k := .inr "spot") h
  rw [pen_s] at e
  exact e
theorem getM {H : Hp} {p c : Addr} {sp mo : Int} (h : H p = some (penO c sp mo)) : DGet H p (.str "more") (some (.int mo)) := by
  have e := DGet.k (k := .inr "more") h
  rw [pen_m] at e
  exact e
theorem setS {H : Hp} {p c : Addr} {sp mo : Int} (z : Int) (h : H p = some (penO c sp mo)) : DPut H p (.str "spot") (.int z) (upd H p (penO c z mo)) := by
  have e := DPut.k (k := .inr "spot") (v := .int z) h (by show 3 < sizeLine; decide)
  rw [pen_ps] at e
  exact e
theorem setM {H : Hp} {p c : Addr} {sp mo : Int} (z : Int) (h : H p = some (penO c sp mo)) : DPut H p (.str "more") (.int z) (upd H p (penO c sp z)) := by
  have e := DPut.k (k := .inr "more") (v := .int z) h (by show 3 < sizeLine; decide)
  rw [pen_pm] at e
  exact e
theorem atI_in {α : Type} {xs : List α} {i : Int} (h0 : 0 ≤ i) (h1 : i < (xs.length : Int)) : ∃ y, atI xs i = some y := by
  obtain ⟨j, rfl⟩ := Int.eq_ofNat_of_zero_le h0
  exact ⟨_, atI_nat (List.getElem?_eq_getElem (by omega))⟩
theorem atI_ints {ns : List Int} {i : Int} (h0 : 0 ≤ i) (h1 : i < ((ns.map V.int).length : Int)) : ∃ z : Int, atI (ns.map V.int) i = some (.int z) := by
  obtain ⟨j, rfl⟩ := Int.eq_ofNat_of_zero_le h0
  rw [List.length_map] at h1
  exact ⟨ns[j]'(by omega), atI_nat (by rw [List.getElem?_map, List.getElem?_eq_getElem (by omega)]; rfl)⟩
theorem bnd {z m : Int} (h : 0 < m) (h2 : m < 2 ^ 64) : -(2 ^ 64) < z % m ∧ z % m < 2 ^ 64 := by
  have h3 := Int.emod_nonneg z (show m ≠ 0 by omega)
  have h4 := Int.emod_lt_of_pos z h
  omega
theorem lim {z : Int} (h : 0 ≤ z) (h2 : z < 2 ^ 64) : -(2 ^ 64) < z ∧ z < 2 ^ 64 := by omega
def spPen (K : PySem.W.Frag) : Sp := fun vs H Q _ => ∃ (a : Addr) (ns : List Int), vs = [.ref a] ∧ SqL K H a (ns.map V.int) ∧ ns.length ≤ 63 ∧ ∀ p c H', Same H H' → H p = none → Pen H' p c 0 → Q (.ref p) H'
def spDraw : Sp := fun vs H Q _ => ∃ (p c : Addr) (n : Nat) (many : Int), vs = [.ref p, .int many] ∧ Pen H p c n ∧ n ≤ 1000000 ∧ 0 < many ∧ many < 1000000 ∧
  ∀ (d : Int) (H' : Hp), 0 ≤ d → d < many → But p H H' → Pen H' p c (n + 1) → Q (.int d) H'


/-! ### data as the heap grows -/
theorem sm1 {H : Hp} {l : Addr} {o : HO} (h : H l = none) : Same H (upd H l o) := fun b u e => by
  rw [upd_ne (ne_of_none e h)]
  exact e
/-- what was not there may be written -/
theorem swr {H H' : Hp} {l : Addr} {o : HO} (s : Same H H') (h : H l = none) : Same H (upd H' l o) := fun b u e => by
  rw [upd_ne (ne_of_none e h)]
  exact s b u e
theorem But.refl (p : Addr) (H : Hp) : But p H H := fun _ _ _ h => h
theorem But.trans {p : Addr} {H H1 H2 : Hp} (a : But p H H1) (b : But p H1 H2) : But p H H2 := fun x o n h => b x o n (a x o n h)
theorem But.of {p : Addr} {H H' : Hp} (s : Same H H') : But p H H' := fun b o _ h => s b o h
theorem But.new {p l : Addr} {o : HO} {H H' : Hp} (b : But p H H') (h : H l = none) : But p H (upd H' l o) := fun x u n e => by
  rw [upd_ne (ne_of_none e h)]
  exact b x u n e
theorem But.same {p : Addr} {H H1 H2 : Hp} (a : But p H H1) (b : Same H1 H2) : But p H H2 := fun x o n h => b x o (a x o n h)
theorem Pen.at {H : Hp} {p c : Addr} {n : Nat} (h : Pen H p c n) : ∃ kvs, H p = some (.dK kvs) := let ⟨_, _, _, e, _⟩ := h; ⟨_, e⟩
/-- the pen stays where neither of its places is touched -/
theorem Pen.keep {H H' : Hp} {p c : Addr} {n : Nat} (h : Pen H p c n) (s : ∀ b o, b = p ∨ b = c → H b = some o → H' b = some o) : Pen H' p c n := let ⟨ns, sp, mo, e1, e2, r⟩ := h; ⟨ns, sp, mo, s _ _ (.inl rfl) e1, s _ _ (.inr rfl) e2, r⟩
theorem Pen.cell {H : Hp} {p c : Addr} {n : Nat} (h : Pen H p c n) : ∃ xs, H c = some (.lst xs) := let ⟨_, _, _, _, e, _⟩ := h; ⟨_, e⟩
theorem Pen.same {H H' : Hp} {p c : Addr} {n : Nat} (h : Pen H p c n) (s : Same H H') : Pen H' p c n := let ⟨ns, sp, mo, e1, e2, r⟩ := h; ⟨ns, sp, mo, s _ _ e1, s _ _ e2, r⟩
/-- a new object is none of the pen's -/
theorem Pen.off {H : Hp} {p c l : Addr} {n : Nat} (h : Pen H p c n) (hl : H l = none) : l ≠ p ∧ l ≠ c := by
  obtain ⟨kvs, e⟩ := h.at
  obtain ⟨xs, e2⟩ := h.cell
  refine ⟨fun z => ?_, fun z => ?_⟩
  · rw [z, e] at hl
    cases hl
  · rw [z, e2] at hl
    cases hl
/-- another list is written -/
theorem Pen.wr {H : Hp} {p c l : Addr} {n : Nat} {o : HO} (h : Pen H p c n) (n1 : l ≠ p) (n2 : l ≠ c) : Pen (upd H l o) p c n := h.keep fun b u hb e => by
  have : b ≠ l := by
    rcases hb with rfl | rfl
    · exact n1.symm
    · exact n2.symm
  rw [upd_ne this]
  exact e
theorem Pen.up {H : Hp} {p c : Addr} {n m : Nat} (h : Pen H p c n) (e : n ≤ m) : Pen H p c m := let ⟨ns, sp, mo, e1, e2, a1, a2, a3, a4⟩ := h; ⟨ns, sp, mo, e1, e2, a1, a2, by omega, a4⟩
/-- a fresh place is fresh before -/
theorem But.free {p l c : Addr} {n : Nat} {H H' : Hp} (b : But p H H') (hp : Pen H' p c n) (h : H' l = none) : H l = none := by
  cases q : H l with
  | none => rfl
  | some o =>
    obtain ⟨kvs, e⟩ := hp.at
    have ne : l ≠ p := fun z => by rw [z, e] at h; cases h
    rw [b l o ne q] at h
    cases h
theorem pen_ne {H : Hp} {p a c : Addr} {n : Nat} {o : HO} (hp : Pen H p c n) (h : H a = some o) (d : ∀ kvs, o ≠ .dK kvs) : a ≠ p := fun z => by
  obtain ⟨kvs, e⟩ := hp.at
  rw [z, e] at h
  exact d kvs (Option.some.inj h).symm
theorem But.sql {K : PySem.W.Frag} {H H' : Hp} {p a c : Addr} {n : Nat} {xs : List V} (b : But p H H') (hp : Pen H p c n) (h : SqL K H a xs) : SqL K H' a xs := by
  rcases h with (h | ⟨o, h⟩) | h
  · exact .inl (.inl (b _ _ (pen_ne hp h fun _ z => by cases z) h))
  · exact .inl (.inr ⟨o, b _ _ (pen_ne hp h fun _ z => by cases z) h⟩)
  · exact .inr h
theorem But.sqt {K : PySem.W.Frag} {H H' : Hp} {p a c : Addr} {n : Nat} {xs : List V} (b : But p H H') (hp : Pen H p c n) (h : SqT K H a xs) : SqT K H' a xs := by
  rcases h with (h | ⟨o, h⟩) | h
  · exact .inl (.inl (b _ _ (pen_ne hp h fun _ z => by cases z) h))
  · exact .inl (.inr ⟨o, b _ _ (pen_ne hp h fun _ z => by cases z) h⟩)
  · exact .inr h
/-- what is read stays -/
structure Stay (K : PySem.W.Frag) (H H' : Hp) : Prop where
  l : ∀ a xs, SqL K H a xs → SqL K H' a xs
  t : ∀ a xs, SqT K H a xs → SqT K H' a xs
theorem But.stay {K : PySem.W.Frag} {H H' : Hp} {p c : Addr} {n : Nat} (b : But p H H') (hp : Pen H p c n) : Stay K H H' := ⟨fun _ _ h => b.sql hp h, fun _ _ h => b.sqt hp h⟩
theorem Stay.of {K : PySem.W.Frag} {H H' : Hp} (s : Same H H') : Stay K H H' := ⟨fun a xs h => s.seq h, fun a xs h => by
  rcases h with (h | ⟨o, h⟩) | h
  · exact .inl (.inl (s _ _ h))
  · exact .inl (.inr ⟨o, s _ _ h⟩)
  · exact .inr h⟩
theorem Stay.refl {K : PySem.W.Frag} {H : Hp} : Stay K H H := ⟨fun _ _ h => h, fun _ _ h => h⟩
theorem Stay.trans {K : PySem.W.Frag} {H H1 H2 : Hp} (a : Stay K H H1) (b : Stay K H1 H2) : Stay K H H2 := ⟨fun x xs h => b.l x xs (a.l x xs h), fun x xs h => b.t x xs (a.t x xs h)⟩
mutual
theorem Stay.dp {K : PySem.W.Frag} {H H' : Hp} (s : Stay K H H') : ∀ {d : PyData} {v : V}, Dp K H v d → Dp K H' v d
  | .none, _, h => by
    cases h
    exact .non
  | .bool _, _, h => by
    cases h
    exact .bl _
  | .int _, _, h => by
    cases h
    exact .int _
  | .str _, _, h => by
    cases h
    exact .str _
  | .list ds, _, h => by
    cases h with
    | lst q a => exact .lst (s.l _ _ q) (s.dpAll a)
  | .tuple ds, _, h => by
    cases h with
    | tup q a => exact .tup (s.t _ _ q) (s.dpAll a)
  | .dict _, _, h => by cases h
theorem Stay.dpAll {K : PySem.W.Frag} {H H' : Hp} (s : Stay K H H') : ∀ {ds : List PyData} {vs : List V}, DpAll K H vs ds → DpAll K H' vs ds
  | [], _, h => by
    cases h
    exact .nil
  | d :: ds, _, h => by
    cases h with
    | cons a b => exact .cons (s.dp a) (s.dpAll b)
end
/-- things that are plain data -/
def Dat (K : PySem.W.Frag) (H : Hp) (xs : List V) : Prop := ∀ x ∈ xs, ∃ d, Dp K H x d ∧ Pl 60 d
theorem Dat.all {K : PySem.W.Frag} {H : Hp} : ∀ {xs : List V}, Dat K H xs → ∃ ds, DpAll K H xs ds ∧ ds.length = xs.length ∧ ∀ d ∈ ds, Pl 60 d
  | [], _ => ⟨[], .nil, rfl, fun d hd => by cases hd⟩
  | x :: xs, h => by
    obtain ⟨d, h1, h2⟩ := h x List.mem_cons_self
    obtain ⟨ds, h3, h4, h5⟩ := Dat.all (xs := xs) fun y hy => h y (List.mem_cons_of_mem _ hy)
    refine ⟨d :: ds, .cons h1 h3, congrArg (· + 1) h4, fun e he => ?_⟩
    rcases List.mem_cons.mp he with rfl | he
    · exact h2
    · exact h5 e he
theorem Dat.stay {K : PySem.W.Frag} {H H' : Hp} {xs : List V} (h : Dat K H xs) (s : Stay K H H') : Dat K H' xs := fun x hx => let ⟨d, a, b⟩ := h x hx; ⟨d, s.dp a, b⟩
theorem Dat.sub {K : PySem.W.Frag} {H : Hp} {xs ys : List V} (h : Dat K H xs) (s : ∀ y ∈ ys, y ∈ xs) : Dat K H ys := fun y hy => h y (s y hy)
theorem empty_iff {α β : Type} {xs : List α} {ys : List β} (h : ys.length = xs.length) : ys.isEmpty = xs.isEmpty := by
  cases xs <;> cases ys <;> simp_all
/-- xs != [] -/
theorem data_ne {X : Cx} {H : Hp} {a l : Addr} {xs : List V} {Q : VK} (h : SqL X.K H a xs) (dt : Dat X.K H xs) (hl : SqL X.K H l []) (q : Q (.bl (!xs.isEmpty)) H) : rNeD X.K (.ref a) (.ref l) H Q := by
  obtain ⟨ds, h1, h2, h3⟩ := dt.all
  refine ⟨.list ds, .list [], .lst h h1, .lst hl .nil, (pl_list h3).shaped, (pl_list (n := 0) fun d hd => by cases hd).shaped, ?_⟩
  rw [eqv_nil, empty_iff h2]
  exact q
theorem data_eq {X : Cx} {H : Hp} {a l : Addr} {xs : List V} {Q : VK} (h : SqL X.K H a xs) (dt : Dat X.K H xs) (hl : SqL X.K H l []) (q : Q (.bl xs.isEmpty) H) : rEqD X.K (.ref a) (.ref l) H Q := by
  obtain ⟨ds, h1, h2, h3⟩ := dt.all
  refine ⟨.list ds, .list [], .lst h h1, .lst hl .nil, (pl_list h3).shaped, (pl_list (n := 0) fun d hd => by cases hd).shaped, ?_⟩
  rw [eqv_nil, empty_iff h2]
  exact q
end Wf
/-! the law itself: it is called where nothing is being shown -/
namespace Wf
open PySem PySem.Spec PyProof.Rows L2
section
variable {P : Program} {w : World} {K : PySem.W.Frag} {mg : Str → Option Value} {base : Heap} {k : Nat} {f : Addr} {fd : FuncData} {ps : List Str} {sp : Sp}
/-- a def that lets no exception out -/
theorem FnG.plain {x qual : Str} {st : Stmt} {N : List Str} (F : Fun K x qual st f fd) (S : FnScope N ps (defScope st)) (many : ∀ {vs H Q E}, sp vs H Q E → vs.length = ps.length)
    (B : ∀ (cdv : Value) (A : Around) (outer : List Env) (s : Shared) (H : Hp) (vs : List V) (Q : VK) (E : XK), Qt A → Room k (A.deeper (envOfC qual (defScope st) s.heap.objs.size f cdv)) → sp vs H Q E →
      ∃ t, PSs (cxOf CX0 P w K mg base N qual (defScope st) f cdv A outer s H E).nox (defBody st) t ∧ t { nx := fun _ H' => Q .non H', rt := Q } (start N vs) H) :
    FnG P w K mg base CX0 (k + 1) f fd ps sp :=
  FnG.body F S many fun cdv A outer s H vs Q E g r h => let ⟨t, b, q⟩ := B cdv A outer s H vs Q E g r h; ⟨t, b.nox, q⟩
end
/-- an int that the module's top has written -/
theorem pe_gi {X : Cx} {x : Str} {i : Int} {pos : Pos} (h : ∃ t, X.mg x = some (.int i t)) (hg : Gl X x := by rfl) (hd : (x == ("__debug__" : Str)) = false := by decide) : PE X (.Name x pos) (tC (.int i)) :=
  let ⟨_, e⟩ := h
  pe_glob hg e ⟨_, rfl⟩ hd

/-- the one heap at the law's entry: nothing is tracked but the script, where it is not the module's own -/
def entry (K : PySem.W.Frag) (a : Addr) (o : Obj) (xs : List V) : Hp := fun b => if K.lookup a = none ∧ b = a then some (.frz o (.lst xs)) else none
theorem entry_at {K : PySem.W.Frag} {a b : Addr} {o : Obj} {xs : List V} {u : HO} (h : entry K a o xs b = some u) : K.lookup a = none ∧ b = a ∧ u = .frz o (.lst xs) := by
  unfold entry at h
  split at h
  · rename_i c
    exact ⟨c.1, c.2, (Option.some.inj h).symm⟩
  · cases h
theorem entry_no {K : PySem.W.Frag} {a b : Addr} {o : Obj} {xs : List V} (h : b ≠ a ∨ K.lookup a ≠ none) : entry K a o xs b = none := if_neg fun c => h.elim (fun n => n c.2) (fun n => n c.1)
section
variable {P : Program} {w : World} {K : PySem.W.Frag} {mg mb : Str → Option Value} {k : Nat} {fa a : Addr} {fd : FuncData} {x : Str} {sp : Sp} {s : Shared} {us : List Value} {ns : List Int}
theorem law_goes (inK : K.In s.heap) (hm : s.heap.Ns mainGlobals mg) (hb : s.heap.Ns builtinsNs mb) (hbb : ∀ y : Str, y ≠ "__name__" → mb y = bootBuiltins y) (nl : s.heap.NoLimit) (hg : s.gens = #[])
    (ha : s.heap.get? a = some { cls := .type "list", data := .seq us.toArray }) (hi : IntsAre us ns) (hn : ns.length ≤ sizeLine) (room : Room k callerA)
    (F : ∀ base : Heap, K.In base → base.Ns mainGlobals mg → FnG P w K mg base CX0 k fa fd [x] sp) (bt : ∀ (t : Shared) (u : Value), BindsTo t fd ⟨[u], []⟩ [(x, u)])
    (hsp : ∀ H : Hp, SqL K H a (ns.map V.int) → sp [.ref a] H (fun v _ => v = .bl true) fun _ _ _ => False) :
    codeAny (model P w) callerA (.call (.ref fa) ⟨[.ref a], []⟩) (fun r t => r = .ok (.ret (.bool true)) ∧ OldK s.heap t.heap ∧ t.os = s.os ∧ AllBare t.gens) s := by
  have vals := vals_ints hi
  let ob : Obj := { cls := .type "list", data := .seq us.toArray }
  let H : Hp := entry K a ob (ns.map V.int)
  have sq : SqL K H a (ns.map V.int) := by
    cases q : K.lookup a with
    | none => exact .inl (.inr ⟨ob, if_pos ⟨q, rfl⟩⟩)
    | some o =>
      have e : o = ob := Option.some.inj ((inK a o q).symm.trans ha)
      subst e
      exact .inr ⟨_, us.toArray, _, q, rfl, rfl, rfl, by rw [List.size_toArray, hi.length]; exact hn, by simpa using vals⟩
  have ok : HOk P w H s.heap := by
    intro b u q
    obtain ⟨_, rfl, rfl⟩ := entry_at q
    exact ⟨ha, by rw [List.length_map]; exact hn, us, _, vals, ha⟩
  have low : ∀ {b : Addr} {o : Obj}, s.heap.get? b = some o → H b = none → (hidT s.heap H).get? b = some o := fun q n => hidT_get q n
  have isD : ∀ {b : Addr} {m : Str → Option Value}, s.heap.Ns b m → (hidT s.heap H).Ns b m := by
    rintro b m ⟨o, es, ep, q, d, r⟩
    refine ⟨o, es, ep, low q (entry_no (.inl fun z => ?_)), d, r⟩
    rw [z, ha] at q
    cases q
    cases d
  have inB : K.In (hidT s.heap H) := fun b o q => low (inK b o q) (entry_no (by
    by_cases z : b = a
    · exact .inr fun n => by rw [← z, q] at n; cases n
    · exact .inl z))
  have lim : (hidT s.heap H).NoLimit := by
    obtain ⟨mc, l1, l2⟩ := nl
    exact ⟨mc, isD l1, l2⟩
  have env : Env0 P w K mg (hidT s.heap H) callerA [] s H :=
    { frames := rfl, mod := ⟨inB, isD hm, ⟨mb, isD hb, hbb⟩, lim⟩, bs := fun b o q => of_hidT q, bsz := Nat.le_of_eq (hidT_size _ _), funs := trivial, frf := fun b q => absurd (show b ∈ ([] : List Addr) from q) (by simp), hok := ok, bare := .of_eq hg }
  refine codeAny_mono ((F _ inB (isD hm)).goes (us := [.ref a]) (vs := [.ref a]) rfl room env (bt s (.ref a)) (.cons rfl .nil) (hsp H sq)) ?_
  intro r t got
  match r, got with
  | .error _, got => exact got.elim
  | .ok .next, got => exact got.elim
  | .ok .brk, got => exact got.elim
  | .ok .cont, got => exact got.elim
  | .ok (.ret u), got =>
    obtain ⟨v, H', os, bare, un, ok', rv, ev⟩ := got
    have ev' : v = .bl true := ev
    subst ev'
    have eu : u = Value.bool true := rv
    subst eu
    refine ⟨rfl, OldK.of_keep (fun b o q => ?_), os, bare⟩
    cases hb' : H b with
    | none => exact un.keep b o q hb' (fun z => absurd (show b ∈ ([] : List Addr) from z) (by simp)) (fun z => absurd (show b ∈ ([] : List Addr) from z) (by simp))
    | some u =>
      obtain ⟨_, eb, eu⟩ := entry_at hb'
      subst eu
      obtain ⟨g1, _⟩ := ok' b _ (un.frzs b ob _ hb')
      rw [eb] at q g1 ⊢
      rw [ha] at q
      cases q
      exact g1
/-- the goal that the word k_head leaves -/
theorem walkG {l : PySem.W.OpenLaw} {n : Nat} {q : Program} {loose : List Str} {XP : (Str → Option Value) → Heap → Prop} {YP : World → Heap → Prop} {d : DefRec} {K : Params → PySem.W.Frag} {sp : PySem.W.Frag → Sp}
    (hn : l.most = some n) (hn2 : n ≤ sizeLine) (hdf : d.params.defaults = []) (room : Room k callerA) (hY : ∀ (w : World) (h : Heap), YP w h → (K w.params).In h)
    (F : ∀ (w : World) (mg : Str → Option Value) (fa : Addr) (h : Heap), (K w.params).In h → h.Ns mainGlobals mg → mg d.name = some (.ref fa) →
      ∃ fd : FuncData, (∀ (t : Shared) (u : Value), BindsTo t fd ⟨[u], []⟩ [(x, u)]) ∧ ∀ base : Heap, (K w.params).In base → base.Ns mainGlobals mg → FnG l.prog w (K w.params) mg base CX0 k fa fd [x] (sp (K w.params)))
    (hsp : ∀ (K : PySem.W.Frag) (H : Hp) (a : Addr) (ns : List Int), ns.length ≤ n → SqL K H a (ns.map V.int) → sp K [.ref a] H (fun v _ => v = .bl true) fun _ _ _ => False) :
    PySem.W.WalkO q loose XP YP l.row.toRowW d [] (fun f vs => PySem.call f vs) :=
  Att.attach_call hn hdf fun w s₀ s₁ mg mb fa o pm cd doc a vs ns G Y ho hd hcd hmg hobj hints hlen hg =>
    let ⟨_, bt, hF⟩ := F w mg fa _ (hY w _ Y) G.T.g hmg
    law_goes (hY w _ Y) G.T.g G.T.b G.T.builtins G.T.nolimit hg hobj hints (Nat.le_trans hlen hn2) room hF bt fun H sq => hsp (K w.params) H a ns hlen sq
end
end Wf
namespace Wf
open PySem PySem.Spec PyProof.Rows L2
mutual
/-- no more signs than these are shown -/
def cost : PyData → Nat
  | .none => 5
  | .bool _ => 5
  | .int i => (PyData.int i).shown.length
  | .str x => 10 * x.length + 2
  | .list xs => costs xs + 3
  | .tuple xs => costs xs + 3
  | .dict kvs => (PyData.dict kvs).shown.length
def costs : List PyData → Nat
  | [] => 0
  | x :: xs => cost x + 2 + costs xs
end
theorem shownAll_map : ∀ xs : List PyData, PyData.shownAll xs = xs.map PyData.shown
  | [] => rfl
  | x :: xs => by
    show PyData.shown x :: PyData.shownAll xs = _
    rw [shownAll_map xs]
    rfl
mutual
theorem shown_le : ∀ d : PyData, d.canLay0 = true → d.shown.length ≤ cost d
  | .none, _ => by decide +kernel
  | .bool b, _ => by cases b <;> decide +kernel
  | .int i, _ => by
    show _ ≤ (PyData.int i).shown.length
    exact Nat.le_refl _
  | .str x, h => by
    show (reprText x).length ≤ 10 * x.length + 2
    refine StrLaws.reprText_len x fun c hc => ?_
    have h2 : x.cps.all (· < 0x110000) = true := h
    rw [← Array.all_toList, List.all_eq_true] at h2
    have := h2 c hc
    have := of_decide_eq_true this
    omega
  | .list xs, h => by
    show (listText (PyData.shownAll xs)).length ≤ costs xs + 3
    have h1 := listText_len_le (PyData.shownAll xs)
    have h2 := showns_le xs h
    omega
  | .tuple xs, h => by
    show (tupleText (PyData.shownAll xs)).length ≤ costs xs + 3
    have h1 := tupleText_len_le (PyData.shownAll xs)
    have h2 := showns_le xs h
    omega
  | .dict kvs, _ => by
    show _ ≤ (PyData.dict kvs).shown.length
    exact Nat.le_refl _
theorem showns_le : ∀ xs : List PyData, PyData.canLayAll0 xs = true → ((PyData.shownAll xs).map (·.length)).sum + 2 * (PyData.shownAll xs).length ≤ costs xs
  | [], _ => Nat.le_refl _
  | x :: xs, h => by
    have h' : (PyData.canLay0 x && PyData.canLayAll0 xs) = true := h
    have h1 := shown_le x (Bool.and_eq_true_iff.mp h').1
    have h2 := showns_le xs (Bool.and_eq_true_iff.mp h').2
    show ((PyData.shown x :: PyData.shownAll xs).map (·.length)).sum + 2 * (PyData.shown x :: PyData.shownAll xs).length ≤ cost x + 2 + costs xs
    rw [List.map_cons, List.sum_cons, List.length_cons]
    omega
end
theorem costs_le {n : Nat} : ∀ {ds : List PyData}, (∀ d ∈ ds, cost d ≤ n) → costs ds ≤ ds.length * (n + 2)
  | [], _ => Nat.zero_le _
  | d :: ds, h => by
    have h1 := h d List.mem_cons_self
    have h2 := costs_le (ds := ds) fun x hx => h x (List.mem_cons_of_mem _ hx)
    show cost d + 2 + costs ds ≤ (ds.length + 1) * (n + 2)
    rw [Nat.succ_mul]
    omega
theorem showableAll_of : ∀ {ds : List PyData}, (∀ d ∈ ds, d.showable = true) → PyData.showableAll ds = true
  | [], _ => rfl
  | d :: ds, h => by
    show (PyData.showable d && PyData.showableAll ds) = true
    rw [h d List.mem_cons_self, showableAll_of fun x hx => h x (List.mem_cons_of_mem _ hx)]
    rfl
/-- it can be shown, in so many signs -/
structure Shw (n : Nat) (d : PyData) : Prop where
  s : d.showable = true
  p : d.canLay0 = true
  dp : d.depth ≤ 60
  c : cost d ≤ n
theorem Shw.sz {n : Nat} {d : PyData} (h : Shw n d) (e : n ≤ 16777216) : d.shown.length ≤ sizeLine := by
  rw [sizeLine_eq]
  exact Nat.le_trans (shown_le d h.p) (Nat.le_trans h.c e)
theorem Shw.more {n m : Nat} {d : PyData} (h : Shw n d) (e : n ≤ m) : Shw m d := ⟨h.s, h.p, h.dp, Nat.le_trans h.c e⟩
/-- repr of what is shown -/
theorem shows {K : PySem.W.Frag} {H : Hp} {v : V} {d : PyData} {n : Nat} {Q : VK} (h : Dp K H v d) (s : Shw n d) (e : n ≤ 16777216) (q : Q (.str d.shown) H) : rRepr K [v] H Q := ⟨v, d, rfl, h, s.s, s.dp, s.sz e, q⟩
/-- words: signs that are letters, not too long -/
def Wd (m : Nat) (z : Str) : Prop := z.length ≤ m ∧ ∀ ch ∈ z.cps.toList, 97 ≤ ch ∧ ch ≤ 122
theorem Wd.ok {m : Nat} {z : Str} (h : Wd m z) : PyData.strOk z = true := by
  show z.cps.all (· < 0x110000) = true
  rw [← Array.all_toList, List.all_eq_true]
  intro ch hc
  have := h.2 ch hc
  exact decide_eq_true (by omega)
theorem shw_str {m : Nat} {z : Str} (h : Wd m z) : Shw (10 * m + 2) (.str z) := ⟨rfl, h.ok, Nat.zero_le _, by
  show 10 * z.length + 2 ≤ 10 * m + 2
  have := h.1
  omega⟩
theorem dep_map {α : Type} {f : α → PyData} {xs : List α} (h : ∀ x ∈ xs, (f x).depth ≤ 0) : PyData.depthAll (xs.map f) ≤ 0 := dep_all fun d hd => by
  obtain ⟨x, hx, rfl⟩ := List.mem_map.mp hd
  exact h x hx
theorem costs_words {m n : Nat} {zs : List Str} (h : ∀ z ∈ zs, Wd m z) (hn : zs.length ≤ n) : costs (zs.map PyData.str) ≤ n * (10 * m + 4) := by
  have h1 := costs_le (n := 10 * m + 2) (ds := zs.map PyData.str) fun d hd => by
    obtain ⟨z, hz, rfl⟩ := List.mem_map.mp hd
    exact (shw_str (h z hz)).c
  rw [List.length_map] at h1
  exact Nat.le_trans h1 (Nat.mul_le_mul_right _ hn)
theorem shw_words {m n : Nat} {zs : List Str} (h : ∀ z ∈ zs, Wd m z) (hn : zs.length ≤ n) : Shw (n * (10 * m + 4) + 3) (.list (zs.map PyData.str)) := by
  have hd : ∀ d ∈ zs.map PyData.str, ∃ z ∈ zs, d = PyData.str z := fun d hd => let ⟨z, a, b⟩ := List.mem_map.mp hd; ⟨z, a, b.symm⟩
  refine ⟨showableAll_of fun d q => ?_, lay_all fun d q => ?_, ?_, Nat.add_le_add_right (costs_words h hn) 3⟩
  · obtain ⟨z, _, rfl⟩ := hd d q
    rfl
  · obtain ⟨z, hz, rfl⟩ := hd d q
    exact (h z hz).ok
  · have := dep_map (f := PyData.str) (xs := zs) fun _ _ => Nat.le_refl 0
    show PyData.depthAll _ + 1 ≤ 60
    omega
theorem shw_wordsT {m n : Nat} {zs : List Str} (h : ∀ z ∈ zs, Wd m z) (hn : zs.length ≤ n) : Shw (n * (10 * m + 4) + 3) (.tuple (zs.map PyData.str)) :=
  let a := shw_words h hn
  ⟨a.s, a.p, a.dp, a.c⟩
end Wf
/-! error classes of one's own, called with values by position or by name (own work over the library's facts) -/
namespace PySem.VX
open PySem Builtin Builtin.ObjectAttr
/-- KeyError has no __new__ of its own: an error over it is made by LookupError's -/
abbrev keyMro : List Value := ["KeyError", "LookupError", "Exception", "BaseException", "object"].map .type
theorem key_stores : StoreFacts "KeyError" keyMro "object.__setattr__" "object" := {
  F.store_LookupError with
  mro := by kernel_rfl
  slot := .of (owner := "object") (n := "__setattr__") (by rw [typeLookup_type, builtinLookup_eq_fast] <;> kernel_rfl) (by decide +kernel) (by decide +kernel) (by decide +kernel) (.inl (by decide +kernel)) (by rw [isSubtype_type] <;> kernel_rfl)
  hasOwner := by decide +kernel
  passes := fun _ => by kernel_rfl }

/-- in the heap h: C is a class over the built-in error B whose objects newId makes -/
structure Xc (h : Heap) (C : Addr) (B newId : String) : Prop where
  ex : ∃ nm q N bs bm hd sn sub ab col dd k0 k1 k2 k3 k5 initId bm0, h.get? C = some (excClassObj nm q C N bs bm hd sn sub ab col dd k0 k1 k2 k3 k5 newId) ∧ ExcBaseFacts B newId initId bm0 ∧
    (Value.ref C :: bm).contains (.type B) = true ∧ (Value.ref C :: bm).contains (.type "AttributeError") = false ∧ (Value.ref C :: bm).contains (.type "NameError") = false
/-- the object that is made: its values in a tuple, then itself -/
abbrev two (h : Heap) (C : Addr) (us : List Value) : Heap := (h.push (W.kdv_tup us)).push (HandSPX.excO C h.objs.size)
theorem two_keeps {h : Heap} {C : Addr} {us : List Value} {b : Addr} {o : Obj} (e : h.get? b = some o) : (two h C us).get? b = some o := Heap.get?_push_of_some _ (Heap.get?_push_of_some _ e)
theorem two_at {h : Heap} {C : Addr} {us : List Value} : (two h C us).get? (h.objs.size + 1) = some (HandSPX.excO C h.objs.size) := by heap_get
section
variable {P : Program} {w : World} {A : Around} {E : Value → Shared → Prop} {R : Result → Shared → Prop} {h : Heap} {g : Array GenState} {d : Drawn} {t : Nat} {os : OsState} {C fI : Addr} {B newId : String} {us : List Value} {kw : List (Str × Value)}
theorem Xc.checked {Q : Unit → Shared → Prop} (X : Xc h C B newId) (q : Q () ⟨h, g, d, t, os⟩) : wpAny (model P w) A (checkBuiltinCall newId ⟨.ref C :: us, kw⟩) Q E ⟨h, g, d, t, os⟩ := by
  obtain ⟨_, _, _, _, _, _, _, _, _, _, _, _, _, _, _, _, _, _, at', FB, isB, _, _⟩ := X.ex
  have := FB.noStar
  simp only [checkBuiltinCall, FB.newRow, FB.newKind, FB.newSplit]
  repeat (first | (refine wpAny_isSubtype_exc at' ?_; rw [isB]) | refine wpAny_staticBase_exc at' ?_ | refine wpAny_madeBy_exc at' ?_ | refine wpAny_loadPart_at at' ?_ | simp only [Bool.false_eq_true, bne_self_eq_false, if_false] | wp_step)
  exact q
theorem Xc.fresh (X : Xc h C B newId) (hl : us.length ≤ sizeLine) (q : R (.ok (.ret (.ref (h.objs.size + 1)))) ⟨two h C us, g, d, t, os⟩) : codeAny (model P w) A (.builtin newId ⟨.ref C :: us, kw⟩) R ⟨h, g, d, t, os⟩ := by
  obtain ⟨_, _, _, _, _, _, _, _, _, _, _, _, _, _, _, _, _, _, at', FB, isB, noA, noN⟩ := X.ex
  have := FB.ends
  apply codeAny_builtinAt FB.entry
  unfold Builtin.«BaseException.__new__»
  apply wpAt_bind
  change wpAt _ _ _ (stack >>= _) _ _ _
  apply wpAt_bind
  apply wpAt_stack
  intro _ _
  apply wpAt_of_wpAny
  wp_walk
  apply wpAt_of_wpAny
  rw [FB.owner]
  repeat (first | with_reducible refine wpAny_loadPart_at at' ?_ | with_reducible refine wpAny_madeHere_exc FB.canon at' ?_ | (with_reducible refine wpAny_isSubtype_exc at' ?_; first | rw [noA] | rw [noN] | rw [isB]) | wp_step)
  change R _ _
  rw [Heap.size_push] <;> exact q
/-- what comes back from __init__ -/
abbrev Back (e : Addr) (Q : Value → Shared → Prop) (E : Value → Shared → Prop) : Result → Shared → Prop := fun r s' => match r with
  | .ok (.ret v) => v = .none ∧ Q (.ref e) s'
  | .ok _ => False
  | .error x => E x s'
theorem Xc.made {Q : Fin → Shared → Prop} (X : Xc h C B newId) (hl : us.length ≤ sizeLine) (finds : W.Looks (model P w) h (typeLookup (.ref C) "__init__") (some (.ref fI))) (binds : ∀ v, W.Looks (model P w) h (bindSpecial (.ref fI) v) (.ref fI, [v]))
    (q : codeAny (model P w) A (.call (.ref fI) ⟨.ref (h.objs.size + 1) :: us, kw⟩) (Back (h.objs.size + 1) (fun v => Q (.done (.ret v))) E) ⟨two h C us, g, d, t, os⟩) : wpAny (model P w) A (Builtin.«type.__call__» ⟨.ref C :: us, kw⟩) Q E ⟨h, g, d, t, os⟩ := by
  obtain ⟨_, _, _, _, bm, _, _, _, _, _, _, _, _, _, _, _, _, _, at', FB, _, _, _⟩ := X.ex
  repeat (first | with_reducible refine wpAny_madeBy_exc at' ?_ | with_reducible refine wpAny_loadPart_at at' ?_ | wp_step)
  refine codeAny_call_builtin_code (Code.quiet_builtin _ FB.quiet) (X.checked (X.fresh hl ?_))
  change wpAny _ _ _ _ _ _
  have later := two_keeps (C := C) (us := us) at'
  have self : (Value.ref C :: bm).contains (.ref C) = true := by rw [List.contains_cons, beq_self_eq_true, Bool.true_or]
  have f2 := finds.keeps fun _ _ => two_keeps (C := C) (us := us)
  have b2 := (binds (.ref (h.objs.size + 1))).keeps fun _ _ => two_keeps (C := C) (us := us)
  unfold isInstance
  repeat (first | with_reducible refine wpAny_loadPart_at two_at ?_ | (with_reducible refine wpAny_isSubtype_exc later ?_; rw [self]) | wp_step)
  change wpAny _ _ (typeLookup (.ref C) _) _ _ _
  apply f2.at
  apply wpAny_holding
  apply wpAny_bind
  apply b2.at
  refine wpAny_bind (wpAny_call (codeAny_mono q ?_))
  intro r s' back
  match r, back with
  | .error _, back => exact back
  | .ok (.ret _), ⟨rfl, back⟩ => first | exact wpAny_pure (wpAny_pure back) | (wp_walk; exact back)
/-- C(..): an object of C, given to its __init__ -/
theorem Xc.call (X : Xc h C B newId) (hl : us.length ≤ sizeLine) (finds : W.Looks (model P w) h (typeLookup (.ref C) "__init__") (some (.ref fI))) (binds : ∀ v, W.Looks (model P w) h (bindSpecial (.ref fI) v) (.ref fI, [v]))
    (q : codeAny (model P w) (A.under (.builtin "type.__call__" ⟨.ref C :: us, kw⟩)) (.call (.ref fI) ⟨.ref (h.objs.size + 1) :: us, kw⟩) (Back (h.objs.size + 1) (fun v s' => R (.ok (.ret v)) s') fun x s' => R (.error x) s') ⟨two h C us, g, d, t, os⟩) :
    codeAny (model P w) A (.call (.ref C) ⟨us, kw⟩) R ⟨h, g, d, t, os⟩ := by
  obtain ⟨_, _, _, _, _, _, _, _, _, _, _, _, _, _, _, _, _, _, at', _⟩ := X.ex
  have isT : Shared.TypeIs ⟨h, g, d, t, os⟩ (.ref C) "type" := ⟨_, at', rfl⟩
  have l1 := tc_lookup
  have l2 := tc_bind (.ref C)
  apply codeAny_of_tree
  change wpAny _ _ (callAny (.ref C) _) _ _ _
  repeat (any_goals (first | assumption | with_reducible refine wpAny_loadPart_at at' ?_ | wp_step))
  exact ⟨rfl, codeAny_call_builtin_at (Code.quiet_builtin _ (by decide +kernel)) entry_typeCall (wpAny_check_type_call_sub at' (X.made hl finds binds (codeAny_mono q fun r s' z => match r, z with
    | .error _, z => z
    | .ok (.ret _), z => z)))⟩
end
end PySem.VX
/-! errors of classes of one's own as values: made (by position, by name), their one field stored and read -/
namespace PySem.VX
open PySem.W PyProof.Rows Builtin Builtin.ObjectAttr
/-- what has happened when an object's first field is stored: a dict at dx, named by the object, holds it -/
structure Fld (h h' : Heap) (x dx : Addr) (o : Obj) (f : Str) (v : Value) : Prop where
  keep : ∀ b u, b ≠ x → h.get? b = some u → h'.get? b = some u
  new : h.get? dx = none
  ne : dx ≠ x
  obj : h'.get? x = some { o with dict := some dx }
  dict : h'.Ns1 dx fun y => if y = f then some v else none
section
variable {P : Program} {w : World} {A : Around} {R : Result → Shared → Prop} {h : Heap} {g : Array GenState} {d : Drawn} {t : Nat} {os : OsState} {B : String} {bmB : List Value} {K : W.Frag} {f : Str} {tk : Tok} {v c2 : Value} {x C ta : Addr}
/-- self.f = v where self has no dict: by the library's first half, then the dict is made and filled -/
theorem first_field (SF : StoreFacts B bmB "object.__setattr__" "object") (KI : K.In h) (hx : h.get? x = some (excObj C ta none c2)) (over : excOver K C bmB = true) (hasD : hasDictIn K C = true) (free : takerIn K C f = some none)
    (q : ∀ h' tk' dx, Fld h h' x dx (excObj C ta none c2) f v → R (.ok (.ret .none)) ⟨h', g, d, tk', os⟩) : codeAny (model P w) A (.call (.builtin "object.__setattr__") ⟨[.ref x, .str f tk, v], []⟩) R ⟨h, g, d, t, os⟩ := by
  have lt := Heap.lt_size hx
  refine osa_openX (s := ⟨h, g, d, t, os⟩) (od := none) SF KI ⟨hx, rfl, rfl, trivial⟩ over free fun b => wpAny_bind (wpAny_pure (wpAny_bind ?_))
  obtain ⟨cd, isC, hasD⟩ := any_some hasD
  refine instanceDict_exc (s := ⟨h, g, d, t, os⟩) hx (looks_clsIn KI isC) hasD ?_
  have dictAt : ((h.push (dictOf [] 0)).update x fun o => { o with dict := some h.objs.size }).get? h.objs.size = some (dictOf [] 0) := by
    rw [Heap.get?_update_other _ _ (Nat.ne_of_lt lt)]
    exact Heap.get?_push_size _ rfl
  have objAt : ((h.push (dictOf [] 0)).update x fun o => { o with dict := some h.objs.size }).get? x = some { excObj C ta none c2 with dict := some h.objs.size } := Heap.get?_update_self _ (Heap.get?_push_of_some _ hx) rfl
  refine HandSPX.store_in_new ⟨_, #[], 0, dictAt, rfl, fun e he => absurd he (by simp), fun _ => rfl⟩ fun h' tk' filled same => q h' tk' h.objs.size ?_
  exact {
    keep := fun b u nb e => by
      rw [same.2 b (Nat.ne_of_lt (Heap.lt_size e)), Heap.get?_update_other _ _ (Ne.symm nb)]
      exact Heap.get?_push_of_some _ e
    new := Heap.StaysIn.fresh (base := h) (h := h) fun _ _ z => z
    ne := Nat.ne_of_gt lt
    obj := (same.2 x (Nat.ne_of_lt lt)).trans objAt
    dict := filled }
end
end PySem.VX

namespace Wf
open PySem PySem.Spec PyProof.Rows L2
/-- a built-in error that errors of one's own may stand over -/
structure VxB (bmB : List Value) (newId : String) : Prop where
  sf : ∃ B, StoreFacts B bmB "object.__setattr__" "object"
  nw : ∃ B initId bm0, ExcBaseFacts B newId initId bm0 ∧ bmB.contains (.type B) = true
  na : bmB.contains (.type "AttributeError") = false
  nn : bmB.contains (.type "NameError") = false
abbrev mroV : List Value := [.type "ValueError", .type "Exception", .type "BaseException", .type "object"]
abbrev mroK : List Value := PySem.VX.keyMro
abbrev mroL : List Value := [.type "LookupError", .type "Exception", .type "BaseException", .type "object"]
abbrev mroI : List Value := [.type "IndexError", .type "LookupError", .type "Exception", .type "BaseException", .type "object"]
abbrev mroA : List Value := [.type "ArithmeticError", .type "Exception", .type "BaseException", .type "object"]
theorem vxb_V : VxB mroV "ValueError.__new__" := ⟨⟨_, F.store_ValueError⟩, ⟨_, _, _, F.excBase_ValueError, by decide +kernel⟩, by decide +kernel, by decide +kernel⟩
theorem vxb_K : VxB mroK "LookupError.__new__" := ⟨⟨_, PySem.VX.key_stores⟩, ⟨_, _, _, F.excBase_LookupError, by decide +kernel⟩, by decide +kernel, by decide +kernel⟩
theorem vxb_L : VxB mroL "LookupError.__new__" := ⟨⟨_, F.store_LookupError⟩, ⟨_, _, _, F.excBase_LookupError, by decide +kernel⟩, by decide +kernel, by decide +kernel⟩
theorem vxb_I : VxB mroI "IndexError.__new__" := ⟨⟨_, F.store_IndexError⟩, ⟨_, _, _, F.excBase_IndexError, by decide +kernel⟩, by decide +kernel, by decide +kernel⟩
theorem vxb_A : VxB mroA "ArithmeticError.__new__" := ⟨⟨_, F.store_ArithmeticError⟩, ⟨_, _, _, F.excBase_ArithmeticError, by decide +kernel⟩, by decide +kernel, by decide +kernel⟩
/-- what the written part says of an error class -/
structure VxC (K : PySem.W.Frag) (C : Addr) : Prop where
  over : ∃ bmB newId, VxB bmB newId ∧ PySem.W.excInitIn K C bmB newId = true ∧ PySem.W.excOver K C bmB = true
  sa : PySem.W.findIn K (.ref C) "__setattr__" = some (some (.builtin "object.__setattr__"))
  kC : PySem.W.keepIn K (.ref C) = true
  is : ExcC K C
/-- at a: an error of the class at C with its field f, the value y -/
def Ve (H : Hp) (a C : Addr) (f : Str) (y : V) : Prop := ∃ d, H a = some (exo a C (some d)) ∧ H d = some (exd d [(f, y)])
theorem Ve.same {H H' : Hp} {a C : Addr} {f : Str} {y : V} (h : Ve H a C f y) (s : Same H H') : Ve H' a C f y := let ⟨d, e1, e2⟩ := h; ⟨d, s _ _ e1, s _ _ e2⟩
def spInit (K : PySem.W.Frag) (f : Str) : Sp := fun vs H Q _ => ∃ (a C : Addr) (y : V), vs = [.ref a, y] ∧ H a = some (exo a C none) ∧ VxC K C ∧ PySem.W.takerIn K C f = some none ∧
  ∀ d, H d = none → d ≠ a → Q .non (upd (upd H d (exd d [(f, y)])) a (exo a C (some d)))
/-- self.f = e, the first one -/
def tOv (K : PySem.W.Frag) (f : Str) (to te : TE) : TS := fun D σ H => te σ H fun y H1 => to σ H1 fun x H2 => ∃ a C : Addr, x = .ref a ∧ VxC K C ∧ PySem.W.takerIn K C f = some none ∧
  H2 a = some (exo a C none) ∧ ∀ dx, H2 dx = none → dx ≠ a → D.nx σ (upd (upd H2 dx (exd dx [(f, y)])) a (exo a C (some dx)))
section
variable {X : Cx} {pins : List (Addr × Obj)} {σ : L2.St} {H : Hp} {s : Shared} {a C dx : Addr} {f : Str} {y : V} {u : Value} {Q : Unit → Shared → Prop} {E : Value → Shared → Prop} {A : Around}
/-- the heap that is told of, when an error's first field is stored -/
abbrev told (H : Hp) (a C dx : Addr) (f : Str) (y : V) : Hp := upd (upd H dx (exd dx [(f, y)])) a (exo a C (some dx))
theorem fielded {hp h' : Heap} {g : Array GenState} {dr : Drawn} {t t' : Nat} {os : OsState} {ta : Addr} (I : Inv X pins σ H ⟨hp, g, dr, t, os⟩) (e : H a = some (exo a C none)) (F : PySem.VX.Fld hp h' a dx (PySem.W.excObj C ta none .none) f u) (ry : RelV y u) :
    H dx = none ∧ Inv X pins σ (told H a C dx f y) ⟨h', g, dr, t', os⟩ := by
  have gone : H dx = none := I.hok.gone F.new
  have off : ∀ {b : Addr}, H b = none → b ≠ a := fun n z => by cases (z ▸ n).symm.trans e
  have old : ∀ {b : Addr} {o : Obj}, hp.get? b = some o → b ≠ dx := fun q z => by cases (z ▸ q).symm.trans F.new
  have seen : ∀ {b : Addr} {o : HO}, H b = some o → exo a C none ≠ o → told H a C dx f y b = some o := fun q n => (upd_ne (at_ne e q n)).trans ((upd_ne (ne_of_none q gone)).trans q)
  have there : ∃ o, h'.get? a = some o := ⟨_, F.obj⟩
  refine ⟨gone, I.un (t' := t') ⟨fun b o q n _ _ => F.keep b o (off n) q, fun b o q n _ _ => ⟨_, F.keep b o (off n) q⟩, fun b o q n _ => (upd_ne (off n)).trans ((upd_ne (old q)).trans n),
    fun b o q _ => (Decidable.em (b = a)).elim (fun z => z ▸ there) fun z => ⟨o, F.keep b o z q⟩, fun b xs q => seen q exo_tup, fun b o v q => seen q exo_frz, fun b ps q => ⟨#[], by rw [seen q exo_tbl, Array.append_empty]⟩⟩ fun b o q => ?_⟩
  rcases Decidable.em (b = a) with rfl | nb
  · cases upd_same.symm.trans q
    exact exo_ok F.obj
  rcases Decidable.em (b = dx) with rfl | nd
  · cases ((upd_ne nb).trans upd_same).symm.trans q
    exact exd_ok F.dict (relO_put (fs := []) ry fun _ => trivial)
  · have was : H b = some o := (upd_ne nd).symm.trans ((upd_ne nb).symm.trans q)
    exact (I.hok b o was).stay (fun c v hc z => F.keep c v (hc.elim (fun y => y ▸ nb) fun y => at_ne e y exo_own) z) (fun c hc => seen hc exo_own) fun c xs hc => seen hc exo_tup
theorem ov_new (T : VxC X.K C) (I : Inv X pins σ H s) (e : H a = some (exo a C none)) (hno : PySem.W.takerIn X.K C f = some none) (ry : RelV y u) (h : ∀ dx s', H dx = none → dx ≠ a → Inv X pins σ (told H a C dx f y) s' → Q () s') :
    wpAny (model X.prog X.w) A (setAttr (.ref a) f u) Q E s := by
  obtain ⟨_, _, VB, _, over⟩ := T.over
  obtain ⟨_, SF⟩ := VB.sf
  obtain ⟨ta, at'⟩ := exo_at I.hok e
  obtain ⟨_, _, _, _, _⟩ := s
  refine PySem.W.set_plain (od := none) I.kIn ⟨at', rfl, rfl, trivial⟩ T.sa (PySem.VX.first_field SF I.kIn at' over T.is.hd hno fun h' tk' dx F => ?_)
  obtain ⟨gone, J⟩ := fielded (t' := tk') I e F ry
  exact h dx _ gone F.ne J
variable {o e : Expr} {to te : TE} {p p' pos : Pos}
theorem ps_ov (ho : PE X o to) (he : PE X e te) (hs : swapsWith e (some (.Attribute o f p')) pos.line X.env = pure false := by rfl) : PS X (.Assign [.Attribute o f p'] e pos) (tOv X.K f to te) := by
  refine ⟨fun pins s σ H D I h => ?_⟩
  refine plainObj_wpAny_Assign_Attribute (thn (he.run pins s σ H _ I h) fun v s1 ⟨y, H1, I1, r1, q1⟩ => thn (ho.run pins s1 σ H1 _ I1 q1) fun u s2 ⟨x, H2, I2, r2, a, C, ex, T, hno, ea, q⟩ => ?_) hs
  subst ex
  obtain rfl : u = Value.ref a := r2
  exact ov_new T I2 ea hno r1 fun dx s' n ne J => ⟨σ, _, J, q dx n ne⟩
end
/-- C(e), C(f=e): an error of the class at C -/
def tMkV (C : Addr) (f : Str) (te : TE) : TE := fun σ H Q => te σ H fun y H1 => ∀ a H', Same H1 H' → H1 a = none → Ve H' a C f y → Q (.ref a) H'
section
variable {X : Cx} {pins : List (Addr × Obj)} {σ : L2.St} {H1 : Hp} {s1 : Shared} {C fI : Addr} {fd : FuncData} {k : Nat} {f : Str} {y : V} {u : Value} {Q : VK} {x : Str} {e : Expr} {te : TE} {p pos kp : Pos}
theorem ve_call {us : List Value} {kw : List (Str × Value)} (T : VxC X.K C) (iC : PySem.W.findIn X.K (.ref C) "__init__" = some (some (.ref fI))) (tI : PySem.W.typeIn X.K (.ref fI) = some (.type "function")) (D : FnOk X.prog X.w X.K X.mg X.base CX0 k fI fd ["self", f] (spInit X.K f)) (hr : Room (k + 1) X.A)
    (hno : PySem.W.takerIn X.K C f = some none) (bt : ∀ (t : Shared) (v : Value), X.K.In t.heap → BindsTo t fd ⟨v :: us, kw⟩ (List.zip (["self", f] : List Str) [v, u])) (hl : us.length ≤ 1000) (I : Inv X pins σ H1 s1) (ry : RelV y u)
    (q : ∀ a H', Same H1 H' → H1 a = none → Ve H' a C f y → Q (.ref a) H') : wpAny (model X.prog X.w) X.A (call (.ref C) us kw) (EP X pins σ Q) X.xe s1 := by
  obtain ⟨bmB, newId, VB, hi, _⟩ := T.over
  obtain ⟨B, _, _, FB, isB⟩ := VB.nw
  obtain ⟨hp, g, dr, tk, os⟩ := s1
  have XC : PySem.VX.Xc hp C B newId := by
    obtain ⟨nm, N', qn, bs, bm, hd, sn, sub, ab, col, dd, k0, k1, k2, k3, k5, at', like⟩ := PySem.W.excInit_of I.kIn hi
    exact ⟨_, _, _, _, _, _, _, _, _, _, _, _, _, _, _, _, _, _, at', FB, by rw [List.contains_cons, like, isB, Bool.or_true], by rw [List.contains_cons, like, VB.na] <;> rfl, by rw [List.contains_cons, like, VB.nn] <;> rfl⟩
  -- the new object
  obtain ⟨e, ee⟩ : ∃ e, e = hp.objs.size + 1 := ⟨_, rfl⟩
  have big : hp.objs.size ≤ e := by omega
  have gone : H1 e = none := I.hok.fresh big
  have J := I.laid (t' := tk) (a := e) (o := exo e C none) (fun _ _ => PySem.VX.two_keeps (C := C) (us := us)) big (exo_ok (t1 := hp.objs.size) (by rw [ee]; exact PySem.VX.two_at))
  refine wpAny_call (XC.call (by rw [sizeLine_eq]; omega) (PySem.W.looks_findIn I.kIn iC) (fun v => PySem.W.bind_fn I.kIn v tI) ?_)
  rw [← ee]
  -- its __init__
  refine codeAny_mono (D.run (vs := [.ref e, y]) (us := [.ref e, u]) (Q := fun v H2 => v = .non ∧ ∃ d, H1 d = none ∧ d ≠ e ∧ H2 = told (upd H1 e (exo e C none)) e C d f y) (E := fun _ _ _ => False) _ X.stack _ _ _ (hr.make C us kw) (J.env0.make C us kw) (bt _ _ J.kIn) (.cons rfl (.cons ry .nil))
    ⟨e, C, y, rfl, upd_same, T, hno, fun d nd ne => ⟨rfl, d, (upd_ne ne).symm.trans nd, ne, rfl⟩⟩) fun r s' back => ?_
  match r, back with
  | .ok (.ret _), back =>
    obtain ⟨_, _, J2, rel, rfl, d, nd, ne, rfl⟩ := J.after back
    refine ⟨rel, .ref e, _, J2, rfl, q e _ (fun b o z => ?_) gone ⟨d, upd_same, (upd_ne ne).trans upd_same⟩⟩
    exact (upd_ne (ne_of_none z gone)).trans ((upd_ne (ne_of_none z nd)).trans ((upd_ne (ne_of_none z gone)).trans z))
/-- what the text says of an error class with one field, by its name -/
structure Vn (P : Program) (w : World) (K : PySem.W.Frag) (mg : Str → Option Value) (base : Heap) (x : Str) (C : Addr) (f : Str) : Prop where
  cls : VxC K C
  gC : mg x = some (.ref C)
  no : PySem.W.findIn K (.ref C) f = some none
  init : ∃ (fI : Addr) (fd : FuncData), PySem.W.findIn K (.ref C) "__init__" = some (some (.ref fI)) ∧ PySem.W.typeIn K (.ref fI) = some (.type "function") ∧ FnOk P w K mg base CX0 1 fI fd ["self", f] (spInit K f) ∧
    (∀ (t : Shared) (v u : Value), BindsTo t fd ⟨[v, u], []⟩ (List.zip (["self", f] : List Str) [v, u])) ∧ ∀ (t : Shared) (v u : Value), BindsTo t fd ⟨[v], [(f, u)]⟩ (List.zip (["self", f] : List Str) [v, u])
theorem taker_of {K : PySem.W.Frag} {C : Addr} {f : Str} (h : PySem.W.findIn K (.ref C) f = some none) : PySem.W.takerIn K C f = some none := by
  unfold PySem.W.takerIn
  rw [h]
  rfl
theorem pe_vpos (N : Vn X.prog X.w X.K X.mg X.base x C f) (hr : Room 2 X.A) (he : PE X e te) (hg : Gl X x := by rfl) (hs : starEach [e] X.env = (false, eval e X.env) :: starEach [] X.env := by rfl) (hdb : (x == ("__debug__" : Str)) = false := by decide) :
    PE X (.Call (.Name x p) [e] [] pos) (tMkV C f te) := by
  obtain ⟨fI, fd, iC, tI, F1, hb, _⟩ := N.init
  refine ⟨fun pins s σ H Q I h => ?_⟩
  refine wpAny_Call_Name_kw (ld_glob I hg N.gC ?_ hdb)
  refine PySem.W.callWith_K (h₀ := X.base) I.ok.mod.kin N.cls.kC ?_ hs (by rfl)
  rw [hs]
  change wpAny _ _ (spliced (_ :: backTo pos (starEach [] X.env))) _ _ _
  exact Calls.spliced_cons (thn (he.run pins s σ H _ I h) fun u _ ⟨_, _, J, ry, q⟩ => Calls.spliced_nil ⟨J.kIn, ve_call N.cls iC tI F1 hr (taker_of N.no) (fun t v _ => hb t v u) (by show 1 ≤ 1000; omega) J ry q⟩)
theorem pe_vkw (N : Vn X.prog X.w X.K X.mg X.base x C f) (hr : Room 2 X.A) (he : PE X e te) (hg : Gl X x := by rfl) (hdb : (x == ("__debug__" : Str)) = false := by decide)
    (hall : (backToKw pos (keywordEach [⟨some f, e, kp⟩] X.env)).all (·.1.isSome) = true := by rfl) (hks : (backToKw pos (keywordEach [⟨some f, e, kp⟩] X.env)).filterMap (·.1) = [f] := by rfl)
    (hpl : ((backTo pos (starEach [] X.env)).any (·.1) || (backToKw pos (keywordEach [⟨some f, e, kp⟩] X.env)).any (·.1.isNone)) = false := by rfl) :
    PE X (.Call (.Name x p) [] [⟨some f, e, kp⟩] pos) (tMkV C f te) := by
  obtain ⟨fI, fd, iC, tI, F1, _, hb⟩ := N.init
  refine ⟨fun pins s σ H Q I h => ?_⟩
  refine wpAny_Call_Name_kw (ld_glob I hg N.gC ?_ hdb)
  refine PySem.W.callWith_KW0 (h₀ := X.base) I.ok.mod.kin N.cls.kC hall ?_ hpl
  have K1 : PK X [⟨some f, e, kp⟩] (tCons te tNil) := pk_cons he pk_nil
  refine thn (K1.run pos pins s σ H (fun vs H1 => match vs with | [y] => ∀ a H', Same H1 H' → H1 a = none → Ve H' a C f y → Q (.ref a) H' | _ => False) I h) fun ws s1 ⟨vs, H1, I1, rz, q1⟩ => ?_
  match vs, rz, q1 with
  | [], _, q1 => exact q1.elim
  | _ :: _ :: _, _, q1 => exact q1.elim
  | [y], rz, q1 =>
  obtain ⟨u, rfl, r1⟩ := vals1 rz
  refine ⟨I1.kIn, ?_⟩
  rw [hks]
  exact ve_call N.cls iC tI F1 hr (taker_of N.no) (fun t v _ => hb t v u) (by show 0 ≤ 1000; omega) I1 r1 q1
end
end Wf
namespace Wf
open PySem PySem.Spec PyProof.Rows L2
/-- e.f, e an error as a value -/
def tVf (K : PySem.W.Frag) (f : Str) (te : TE) : TE := fun σ H Q => te σ H fun x H1 => ∃ (a C : Addr) (y : V), x = .ref a ∧ VxC K C ∧ PySem.W.findIn K (.ref C) f = some none ∧ Ve H1 a C f y ∧ Q y H1
section
variable {X : Cx} {e : Expr} {te : TE} {pos : Pos} {f : Str}
theorem pe_vf (he : PE X e te) (hb : attributeBase e f X.env (eval e X.env) = eval e X.env := by rfl) : PE X (.Attribute e f pos) (tVf X.K f te) := by
  refine ⟨fun pins s σ H Q I h => ?_⟩
  refine attr_of hb (thn (he.run pins s σ H _ I h) fun u s1 ⟨x, H1, I1, rx, a, C, y, ex, T, hno, ⟨d, ea, ed⟩, q⟩ => ?_)
  subst ex
  obtain rfl : u = Value.ref a := rx
  obtain ⟨t1, ho1⟩ := exo_at I1.hok ea
  obtain ⟨mA, hns, hr⟩ := exd_at I1.hok ed
  obtain ⟨od, ho, hl⟩ := lookIn_ns hns
  obtain ⟨u, hu, ru⟩ := RelO.some_of (v := y) (o := mA f) (by have z := hr f; rw [lookup_put, if_pos rfl] at z; exact z)
  have J : PySem.W.InstAt s1.heap a _ C (some od) := ⟨ho1, rfl, rfl, ho⟩
  exact HandSPX.exc_get I1.kIn J T.is.hg T.is.hk T.is.hs (PySem.W.findObj_own T.is.hd hno rfl (by rw [hl, hu])) (handed_of ru) ⟨y, H1, I1.tok _, ru, q⟩
end
/-! ### errors without a field -/
structure Vn0 (K : PySem.W.Frag) (mg : Str → Option Value) (x : Str) (C : Addr) : Prop where
  cls : ∃ B newId initId bmB, ExcBaseFacts B newId initId bmB ∧ PySem.W.excIn K C bmB newId = true
  is : ExcC K C
  kC : PySem.W.keepIn K (.ref C) = true
  gC : mg x = some (.ref C)
/-- at a: an error of the class at C without a field -/
def Ve0 (H : Hp) (a C : Addr) : Prop := H a = some (ExO (.ref C) a)
theorem Ve0.same {H H' : Hp} {a C : Addr} (h : Ve0 H a C) (s : Same H H') : Ve0 H' a C := s _ _ h
section
variable {X : Cx} {C : Addr} {x : Str} {p pos : Pos}
theorem pe_v0 (N : Vn0 X.K X.mg x C) (hg : Gl X x := by rfl) (hdb : (x == ("__debug__" : Str)) = false := by decide) :
    PE X (.Call (.Name x p) [] [] pos) (fun _ H Q => ∀ a, H a = none → Q (.ref a) (upd H a (ExO (.ref C) a))) := by
  obtain ⟨B, newId, initId, bmB, F, q⟩ := N.cls
  refine ⟨fun pins s σ H Q I h => ?_⟩
  refine wpAny_Call_Name_kw (ld_glob I hg N.gC ?_ hdb)
  refine PySem.W.callWith_K0 I.kIn N.kC ?_
  show wpAny _ _ (call (.ref C) []) _ _ _
  obtain ⟨bm, N', nm, qn, bs, hdct, sn, sub, ab, col, dd, k0, k1, k2, k3, k5, mN, hC, hN, hni, T⟩ := exc_obj I.kIn q
  refine wpAny_call_exc_subT F T hC hN hni (fun h' a hm => ?_) (by show 0 ≤ sizeLine; rw [sizeLine_eq]; omega)
  have hn : H a = none := I.hok.gone hm.new
  obtain ⟨t, ht, _, _⟩ := hm.there
  exact ⟨.ref a, upd H a (ExO (.ref C) a), I.laidN hm.keeps hm.new hn (exO_ok ht ⟨rfl, rfl⟩ rfl rfl rfl (show 4 < 6 by decide)), rfl, h a hn⟩
end
/-! ### isinstance(e, T) -/
/-- at a: an error of the class at C -/
def VeA (H : Hp) (a C : Addr) : Prop := Ve0 H a C ∨ ∃ f y, Ve H a C f y
def rVi (K : PySem.W.Frag) : List V → Hp → VK → Prop := fun xs H Q => ∃ (a C : Addr) (T : String) (b : Bool), xs = [.ref a, .ty T] ∧ ExcC K C ∧ VeA H a C ∧ PySem.W.kitOne K (.ref C) (.type T) = some b ∧ Q (.bl b) H
section
variable {X : Cx}
theorem ex_isSome {K : PySem.W.Frag} {C : Addr} (h : PySem.W.hasDictIn K C = true) : (PySem.W.clsIn K C).isSome = true := by
  obtain ⟨cd, hc, _⟩ := PySem.W.any_some h
  rw [hc]
  rfl
theorem call_vi : CallR X (.builtin "isinstance") (rVi X.K) := by
  intro pins s σ H xs us Q I r h
  obtain ⟨a, C, T, b, rfl, E, hv, e, q⟩ := h
  obtain ⟨u1, u2, rfl, r1, r2⟩ := vals2 r
  obtain rfl : u1 = Value.ref a := r1
  obtain rfl : u2 = Value.type T := r2
  have fin : ∀ {ox : Obj} {od : Option Obj}, PySem.W.InstAt s.heap a ox C od → wpAny (model X.prog X.w) X.A (call (.builtin "isinstance") [.ref a, .type T]) (EP X pins σ Q) X.xe s := fun {ox od} J =>
    PySem.W.kia_one (PySem.W.kitx_exc (ex_isSome E.hd) E.hg E.hk E.hs E.ha E.hn E.ht E.hm) I.kIn J e (fun z => nomatch z) fun tk => ⟨.bl b, H, I.tok tk, rfl, q⟩
  rcases hv with h0 | ⟨f, y, d, ea, ed⟩
  · obtain ⟨⟨oe, vs, ho, hz, hd, _⟩, _, _⟩ := (show ObjOk X.prog X.w H s.heap a (ExO (.ref C) a) from I.hok a _ h0)
    exact fin (ox := oe) (od := none) ⟨ho, hz.1, by unfold PySem.W.notCls; rw [hd] <;> rfl, by rw [hz.2]; trivial⟩
  · obtain ⟨t1, ho1⟩ := exo_at I.hok ea
    obtain ⟨mA, hns, hr⟩ := exd_at I.hok ed
    obtain ⟨od, ho, _⟩ := lookIn_ns hns
    exact fin (od := some od) ⟨ho1, rfl, rfl, ho⟩
end
/-- a built-in class by its name -/
theorem pe_ty {X : Cx} {x : Str} {T : String} {pos : Pos} (hm : X.mg x = none) (hv : bootBuiltins x = some (.type T)) (hg : Gl X x := by rfl) (hn : x ≠ "__name__" := by decide) (hd : (x == ("__debug__" : Str)) = false := by decide) : PE X (.Name x pos) (tC (.ty T)) :=
  pe_bltn hg hm hv rfl hn hd
/-- which of the six groups an error's class is in -/
structure Grp (K : PySem.W.Frag) (C : Addr) (b1 b2 b3 b4 b5 b6 : Bool) : Prop where
  ex : ExcC K C
  g1 : PySem.W.kitOne K (.ref C) (.type "ValueError") = some b1
  g2 : PySem.W.kitOne K (.ref C) (.type "KeyError") = some b2
  g3 : PySem.W.kitOne K (.ref C) (.type "IndexError") = some b3
  g4 : PySem.W.kitOne K (.ref C) (.type "ArithmeticError") = some b4
  g5 : PySem.W.kitOne K (.ref C) (.type "TypeError") = some b5
  g6 : PySem.W.kitOne K (.ref C) (.type "RuntimeError") = some b6
end Wf
namespace Wf
open PySem PySem.Spec PyProof.Rows L2
/-! ### repr of data, and of dicts of whole numbers -/
def keyP : Key → PyData
  | .inl i => .int i
  | .inr x => .str x
/-- a dict of whole numbers -/
def dkI (ks : List (Key × Int)) : HO := .dK (ks.map fun p => (p.1, V.int p.2))
def dataI (ks : List (Key × Int)) : PyData := .dict (ks.map fun p => (keyP p.1, PyData.int p.2))
theorem reads_pairs {P : Program} {w : World} {h : Heap} : ∀ {ks : List (Key × Int)} {es : List DictEntry} {vs : List (Key × Value)}, KV (ks.map fun p => (p.1, V.int p.2)) vs → Pairs (mixKind P w) es vs →
    ReadsAll h (es.map (·.key)) (ks.map fun p => keyP p.1) [] ∧ ReadsAll h (es.map (·.val)) (ks.map fun p => PyData.int p.2) []
  | [], es, vs, kv, pr => by
    cases kv
    cases pr
    exact ⟨.nil, .nil⟩
  | (k, i) :: ks, es, vs, kv, pr => by
    cases kv with
    | @cons _ q _ qs h t =>
      cases pr with
      | @cons e _ es' _ hk hv hr =>
        obtain ⟨a, b⟩ := reads_pairs t hr
        obtain ⟨h1, h2⟩ := h
        obtain ⟨tk, h2⟩ := h2
        have h1 : k = q.1 := h1
        have hk : keyIs q.1 e.key = true := hk
        rw [← h1] at hk
        refine ⟨?_, ?_⟩
        · have one : Reads h e.key (keyP k) [] := by
            rcases keyIs_shape hk with ⟨j, t, rfl, e2⟩ | ⟨y, t, rfl, e2⟩
            · rw [e2]; exact .int _ _
            · rw [e2]; exact .str _ _
          exact ReadsAll.cons (as := []) (bs := []) one a
        · have one : Reads h e.val (PyData.int i) [] := by
            rw [hv, h2]
            exact .int _ _
          exact ReadsAll.cons (as := []) (bs := []) one b
/-- what can be shown: data, or a dict of whole numbers -/
inductive Rp (K : PySem.W.Frag) (H : Hp) : V → PyData → Prop
  | dp {v : V} {d : PyData} : Dp K H v d → Rp K H v d
  | dk {a : Addr} {ks : List (Key × Int)} : H a = some (dkI ks) → Rp K H (.ref a) (dataI ks)
theorem Rp.same {K : PySem.W.Frag} {H H' : Hp} {v : V} {d : PyData} (r : Rp K H v d) (s : Same H H') : Rp K H' v d := by
  cases r with
  | dp h => exact .dp ((Stay.of s).dp h)
  | dk h => exact .dk (s _ _ h)
section
variable {X : Cx}
def rReprV (K : PySem.W.Frag) : List V → Hp → VK → Prop := fun xs H Q => ∃ v d, xs = [v] ∧ Rp K H v d ∧ d.showable = true ∧ d.depth ≤ 60 ∧ d.shown.length ≤ sizeLine ∧ Q (.str d.shown) H
theorem cr_reprV (hq : Qt X.A) (hu : X.A.units + 64 < cLine) : CallR X (.builtin "repr") (rReprV X.K) := by
  intro pins s σ H xs us Q I r h
  obtain ⟨v, d, rfl, hd, sh, dp, sz, q⟩ := h
  cases hd with
  | dp hd => exact cr_repr hq hu pins s σ H _ _ Q I r ⟨v, d, rfl, hd, sh, dp, sz, q⟩
  | @dk a ks ea =>
    obtain ⟨u, rfl, rx⟩ := vals1 r
    obtain rfl : u = Value.ref a := rx
    obtain ⟨_, ns, vs, kv, o, es, ep, ho, hx, hd, _, hp, _⟩ := dk_of I.hok ea
    obtain ⟨r1, r2⟩ := reads_pairs (h := s.heap) kv hp
    have q1 : ReadsAll s.heap (es.toList.map (·.key)) ((ks.map fun p : Key × Int => (keyP p.1, PyData.int p.2)).map (·.1)) [] := by rw [List.map_map]; exact r1
    have q2 : ReadsAll s.heap (es.toList.map (·.val)) ((ks.map fun p : Key × Int => (keyP p.1, PyData.int p.2)).map (·.2)) [] := by rw [List.map_map]; exact r2
    have rd : Reads s.heap (.ref a) (.dict (ks.map fun p : Key × Int => (keyP p.1, PyData.int p.2))) ([a] ++ []) := Reads.dict ho hx.1 hd q1 q2
    have dp' : (PyData.dict (ks.map fun p : Key × Int => (keyP p.1, PyData.int p.2))).depth ≤ 60 := dp
    exact repr_of_reads' rd sh (fun _ hm => by
      have e := List.mem_singleton.mp (by simpa using hm)
      rw [e] at ns
      exact absurd ns (by simp)) hq (by omega) (fun _ _ z => z) (fun h' u tk k => ⟨.str _, H, I.kept k, ⟨_, rfl⟩, q⟩) sz
end
end Wf
namespace Wf
open PySem L2
def top (i : Nat) : Stmt := PySem.Challenge.pw_wordfit_k23_errors_created_from_fields.main.body.getD i (.Pass ⟨0, 0, 0, 0⟩)
/-- what the top has, beside the defs -/
structure Txt (K : PySem.W.Frag) (mg : Str → Option Value) : Prop where
  z_list : mg "list" = none
  z_len : mg "len" = none
  z_abs : mg "abs" = none
  z_range : mg "range" = none
  z_sorted : mg "sorted" = none
abbrev s_law_pen : Stmt := top 20
abbrev N_law_pen : List Str := ["script"]
theorem sc_law_pen : FnScope N_law_pen ["script"] (defScope s_law_pen) := ⟨rfl, rfl, rfl, by decide +kernel, rfl, by decide +kernel, by decide +kernel⟩
abbrev s_law_draw : Stmt := top 21
abbrev N_law_draw : List Str := ["pen", "many", "digit", "spot", "cell", "mix"]
theorem sc_law_draw : FnScope N_law_draw ["pen", "many"] (defScope s_law_draw) := ⟨rfl, rfl, rfl, by decide +kernel, rfl, by decide +kernel, by decide +kernel⟩
section
variable {P : Program} {w : World} {K : PySem.W.Frag} {mg : Str → Option Value} {base : Heap}
theorem ok_pen {f : Addr} {fd : FuncData} (F : Fun K "_law_pen" "_law_pen" s_law_pen f fd) (T : Txt K mg) : FnOk P w K mg base CX0 1 f fd ["script"] (spPen K) := by
  refine F.ok sc_law_pen (fun vs H Q E h => ?_) (fun cdv A outer s H vs Q E hr h => ?_)
  · obtain ⟨a, ns, rfl, _⟩ := h
    rfl
  · obtain ⟨a, ns, rfl, hs, hl, k⟩ := h
    refine ⟨_, (pss_one (ps_ret (pe_disp (pps_cons (pe_str) (pe_callTy call_list_of (by rfl) T.z_list (by decide +kernel) (pa_cons (pe_slice sl_list (pv 0) po_none (po_some (pe_int))) pa_nil)) (pps_cons (pe_str) (pe_int) (pps_cons (pe_str) (pe_int) pps_nil))) (by rfl) (by rfl) (fun z => by cases z) (by decide)))), ?_⟩
    intro p hp
    have s0 : Same H (upd H p (.dK [])) := fun b o e => by rw [upd_ne (ne_of_none e hp)]; exact e
    refine ⟨_, rfl, _, rfl, a, _, rfl, s0.seq hs, fun c hc => ?_⟩
    have pc : p ≠ c := ne_of_none upd_same hc
    have hc0 : H c = none := by rw [upd_ne pc.symm] at hc; exact hc
    refine ⟨c, _, rfl, .inl (SqL.of upd_same), fun l hl' => ?_⟩
    have ec : cutV (ns.map V.int) none (some 63) = ns.map V.int := by
      unfold cutV
      have e1 : HT.sIx (ns.map V.int).length 0 Option.none = 0 := rfl
      have e2 : HT.sIx (ns.map V.int).length (ns.map V.int).length (some 63) = ns.length := by
        rw [List.length_map]
        have e3 := HT.sIx_nat ns.length ns.length 63
        refine Eq.trans e3 ?_
        omega
      rw [e1, e2, List.drop_zero, Nat.sub_zero]
      exact List.take_of_length_le (by rw [List.length_map]; exact Nat.le_refl _)
    rw [ec] at hl' ⊢
    have lp : l ≠ p := fun z => by
      rw [z, upd_ne pc, upd_same] at hl'
      cases hl'
    have lc : l ≠ c := fun z => by
      rw [z, upd_same] at hl'
      cases hl'
    have hl0 : H l = none := by
      rw [upd_ne lc, upd_ne lp] at hl'
      exact hl'
    refine ⟨by rw [upd_ne lp.symm, upd_ne pc, upd_same], [(.inr "cells", .ref l), (.inr "spot", .int 0), (.inr "more", .int 0)], rfl, by show 3 ≤ 15; decide, ?_⟩
    refine k p l _ (fun b o e => ?_) hp ⟨ns, 0, 0, upd_same, by rw [upd_ne lp, upd_same], hl, Int.le_refl 0, Int.le_refl 0, Int.le_refl 0⟩
    rw [upd_ne (ne_of_none e hp), upd_ne (ne_of_none e hl0), upd_ne (ne_of_none e hc0), upd_ne (ne_of_none e hp)]
    exact e
theorem ok_draw {f : Addr} {fd : FuncData} (F : Fun K "_law_draw" "_law_draw" s_law_draw f fd) (T : Txt K mg) : FnOk P w K mg base CX0 1 f fd ["pen", "many"] spDraw := by
  refine F.ok sc_law_draw (fun vs H Q E h => ?_) (fun cdv A outer s H vs Q E hr h => ?_)
  · obtain ⟨p, c, n, many, rfl, _⟩ := h
    rfl
  · obtain ⟨p, c, n, many, rfl, ⟨ns, sp, mo, hp, hc, hl, s0, s1, m0⟩, hn, g0, g1, k⟩ := h
    have hu := hu_of hr
    refine ⟨_, (pss_cons (ps_if (pt_cmpR op_gt (pe_dget hu (pv 0) (pe_str) (fun _ _ => rfl)) (pe_int) (nomark _)) (pss_cons (ps_set (i := 2) sc_law_draw.nd rfl (Or.inl rfl) (pe_op op_mod (pe_dget hu (pv 0) (pe_str) (fun _ _ => rfl)) (pv 1)))
  (pss_cons (ps_dput hu (pv 0) (pe_str) (pe_op op_fdiv (pe_dget hu (pv 0) (pe_str) (fun _ _ => rfl)) (pv 1)) rfl)
  (pss_one (ps_ret (pv 2))))) pss_nil)
  (pss_cons (ps_set (i := 3) sc_law_draw.nd rfl (Or.inl rfl) (pe_dget hu (pv 0) (pe_str) (fun _ _ => rfl)))
  (pss_cons (ps_dput hu (pv 0) (pe_str) (pe_op op_add (pv 3) (pe_int)) rfl)
  (pss_cons (ps_set (i := 4) sc_law_draw.nd rfl (Or.inl rfl) (pe_ifExp (pt_cmpR (op_neD hr.units) (pe_dget hu (pv 0) (pe_str) (fun _ _ => rfl)) (pe_lst pa_nil) (nomark _)) (pe_ix ix_list (pe_dget hu (pv 0) (pe_str) (fun _ _ => rfl)) (pe_op op_mod (pv 3) (pe_callB call_len_seq (by rfl) T.z_len PySem.boot_len (pa_cons (pe_dget hu (pv 0) (pe_str) (fun _ _ => rfl)) pa_nil))) (fun _ _ => rfl)) (pe_op op_add (pe_op op_mul (pe_int) (pv 3)) (pe_int))))
  (pss_cons (ps_if (PW.pt (pw_and (pt_cmpR op_lt (pv 3) (pe_callB call_len_seq (by rfl) T.z_len PySem.boot_len (pa_cons (pe_dget hu (pv 0) (pe_str) (fun _ _ => rfl)) pa_nil)) (nomark _)) (pw_and1 (pt_cmpR op_ge (pe_callB call_abs (by rfl) T.z_abs (by decide +kernel) (pa_cons (pv 4) pa_nil)) (pe_op op_pow (pe_int) (pe_int)) (nomark _))))) (pss_cons (ps_dput hu (pv 0) (pe_str) (pe_op op_fdiv (pe_op op_sub (pe_callB call_abs (by rfl) T.z_abs (by decide +kernel) (pa_cons (pv 4) pa_nil)) (pe_op op_pow (pe_int) (pe_int))) (pv 1)) rfl)
  (pss_one (ps_ret (pe_op op_mod (pe_op op_sub (pe_callB call_abs (by rfl) T.z_abs (by decide +kernel) (pa_cons (pv 4) pa_nil)) (pe_op op_pow (pe_int) (pe_int))) (pv 1))))) pss_nil)
  (pss_cons (ps_set (i := 5) sc_law_draw.nd rfl (Or.inl rfl) (pe_op op_mod (pe_op op_add (pe_op op_add (pe_op op_add (pe_op op_mul (pe_op op_mod (pv 4) (pe_int)) (pe_int)) (pe_op op_mul (pe_op op_mul (pe_int) (pv 3)) (pv 3))) (pe_op op_mul (pe_int) (pv 3))) (pe_int)) (pe_int)))
  (pss_cons (ps_set (i := 5) sc_law_draw.nd rfl (Or.inl rfl) (pe_op op_mod (pe_op op_add (pe_op op_add (pe_op op_add (pe_op op_mul (pv 5) (pv 5)) (pe_op op_mul (pe_int) (pv 5))) (pe_op op_mul (pe_int) (pv 3))) (pe_int)) (pe_int)))
  (pss_one (ps_ret (pe_op op_mod (pe_op op_fdiv (pe_op op_mod (pe_op op_mul (pv 5) (pe_op op_add (pv 5) (pe_int))) (pe_int)) (pe_int)) (pv 1))))))))))), ?_⟩
    have pc : c ≠ p := ne_of hc hp (by intro z; cases z)
    refine ⟨_, rfl, p, .int mo, rfl, getM hp, _, _, rfl, rfl, _, rfl, ?_⟩
    refine ite2 (fun hm => ?_) (fun hm => ?_)
    · have hm' : 0 < mo := of_decide_eq_true hm
      refine ⟨_, rfl, p, .int mo, rfl, getM hp, _, rfl, _, _, rfl, rfl, g0, ?_⟩
      refine ⟨_, rfl, p, .int mo, rfl, getM hp, _, rfl, _, _, rfl, rfl, ⟨g0, by omega⟩, _, rfl, p, _, rfl, setM _ hp, ?_⟩
      refine ⟨_, rfl, ?_⟩
      refine k _ _ (Int.emod_nonneg _ (by omega)) (Int.emod_lt_of_pos _ g0) (fun b o hb e => by rw [upd_ne hb]; exact e) ⟨ns, sp, _, upd_same, by rw [upd_ne pc]; exact hc, hl, s0, by omega, Int.ediv_nonneg m0 (by omega)⟩
    · refine ⟨_, rfl, p, .int sp, rfl, getS hp, ?_⟩
      refine ⟨_, rfl, _, _, rfl, rfl, _, rfl, p, _, rfl, setS _ hp, ?_⟩
      have hp1 : (upd H p (penO c (sp + 1) mo)) p = some (penO c (sp + 1) mo) := upd_same
      have hc1 : (upd H p (penO c (sp + 1) mo)) c = some (.lst (ns.map V.int)) := by rw [upd_ne pc]; exact hc
      generalize hH1 : upd H p (penO c (sp + 1) mo) = H1 at hp1 hc1 ⊢
      refine ⟨_, rfl, p, _, rfl, getC hp1, Nat.zero_le _, fun l hl' => ?_⟩
      have lp : p ≠ l := ne_of_none hp1 hl'
      have lc : c ≠ l := ne_of_none hc1 hl'
      have hp2 : (upd H1 l (.lst [])) p = some (penO c (sp + 1) mo) := by rw [upd_ne lp]; exact hp1
      have hc2 : (upd H1 l (.lst [])) c = some (.lst (ns.map V.int)) := by rw [upd_ne lc]; exact hc1
      have hl0 : H l = none := by
        rw [← hH1, upd_ne lp.symm] at hl'
        exact hl'
      have bt : But p H (upd H1 l (.lst [])) := fun b o hb e => by
        rw [upd_ne (ne_of_none e hl0), ← hH1, upd_ne hb]
        exact e
      refine ints_ne (SqL.of hc2) (SqL.of upd_same) ?_
      generalize upd H1 l (.lst []) = H2 at hp2 hc2 bt ⊢
      have ns0 : (ns.length : Int) = 0 ∨ 0 < (ns.length : Int) := by omega
      refine ⟨_, rfl, ?_⟩
      have bounds : ∀ z : Int, 0 ≤ z % 2147483647 ∧ z % 2147483647 < 2147483647 := fun z => ⟨Int.emod_nonneg _ (by decide), Int.emod_lt_of_pos _ (by decide)⟩
      -- what follows, whatever the cell is
      have kd : ∀ d : Int, 0 ≤ d → d < many → Q (.int d) H2 := fun d d0 d1 => k d H2 d0 d1 bt ⟨ns, sp + 1, mo, hp2, hc2, hl, by omega, by omega, m0⟩
      have km : ∀ d mo' : Int, 0 ≤ d → d < many → 0 ≤ mo' → Q (.int d) (upd H2 p (penO c (sp + 1) mo')) := fun d mo' d0 d1 m1 => k d _ d0 d1 (fun b o hb e => by rw [upd_ne hb]; exact bt b o hb e)
        ⟨ns, sp + 1, mo', upd_same, by rw [upd_ne pc]; exact hc2, hl, by omega, by omega, m1⟩
      cases hns : ns.isEmpty with
      | true =>
        refine iteF ?_
        refine ⟨_, rfl, _, _, rfl, rfl, .inl ⟨by decide, by decide⟩, _, _, rfl, rfl, ?_⟩
        refine ⟨_, rfl, _, rfl, p, _, rfl, getC hp2, c, _, rfl, .inl (SqL.of hc2), _, _, rfl, rfl, _, rfl, ?_⟩
        refine ite2 (fun _ => ?_) (fun _ => ?_)
        · refine ⟨_, rfl, _, rfl, _, _, rfl, rfl, ⟨by decide, by decide, by decide⟩, _, _, rfl, rfl, _, rfl, ?_⟩
          refine ite2 (fun hbig => ?_) (fun _ => ?_)
          · have hbig' := of_decide_eq_true hbig
            refine ⟨_, rfl, _, rfl, _, _, rfl, rfl, ⟨by decide, by decide, by decide⟩, _, _, rfl, rfl, _, rfl, _, _, rfl, rfl, ⟨g0, by omega⟩, _, rfl, p, _, rfl, setM _ hp2, ?_⟩
            refine ⟨_, rfl, _, rfl, _, _, rfl, rfl, ⟨by decide, by decide, by decide⟩, _, _, rfl, rfl, _, rfl, _, _, rfl, rfl, g0, ?_⟩
            exact km _ _ (Int.emod_nonneg _ (by omega)) (Int.emod_lt_of_pos _ g0) (Int.ediv_nonneg (Int.sub_nonneg_of_le hbig') (by omega))
          · refine ⟨_, rfl, _, _, rfl, rfl, (by decide : (0 : Int) < 2147483647), _, _, rfl, rfl, .inl (bnd (by decide) (by decide)), _, rfl, _, _, rfl, rfl, .inl ⟨by decide, by decide⟩, _, rfl, _, _, rfl, rfl, .inl (lim (by omega) (by omega)), _, _, rfl, rfl, _, rfl, _, _, rfl, rfl, .inl ⟨by decide, by decide⟩, _, _, rfl, rfl, _, _, rfl, rfl, _, _, rfl, rfl, (by decide : (0 : Int) < 2147483629), ?_⟩
            refine ⟨_, rfl, _, rfl, _, _, rfl, rfl, .inl (bnd (by decide) (by decide)), _, rfl, _, _, rfl, rfl, .inl ⟨by decide, by decide⟩, _, _, rfl, rfl, _, rfl, _, _, rfl, rfl, .inl ⟨by decide, by decide⟩, _, _, rfl, rfl, _, _, rfl, rfl, _, _, rfl, rfl, (by decide : (0 : Int) < 2147483587), ?_⟩
            refine ⟨_, rfl, _, rfl, _, _, rfl, rfl, _, _, rfl, rfl, .inl (bnd (by decide) (by decide)), _, _, rfl, rfl, (by decide : (0 : Int) < 2147483579), _, _, rfl, rfl, ⟨by decide, by decide⟩, _, rfl, _, _, rfl, rfl, g0, ?_⟩
            exact kd _ (Int.emod_nonneg _ (by omega)) (Int.emod_lt_of_pos _ g0)
        · refine iteF ?_
          refine ⟨_, rfl, _, _, rfl, rfl, (by decide : (0 : Int) < 2147483647), _, _, rfl, rfl, .inl (bnd (by decide) (by decide)), _, rfl, _, _, rfl, rfl, .inl ⟨by decide, by decide⟩, _, rfl, _, _, rfl, rfl, .inl (lim (by omega) (by omega)), _, _, rfl, rfl, _, rfl, _, _, rfl, rfl, .inl ⟨by decide, by decide⟩, _, _, rfl, rfl, _, _, rfl, rfl, _, _, rfl, rfl, (by decide : (0 : Int) < 2147483629), ?_⟩
          refine ⟨_, rfl, _, rfl, _, _, rfl, rfl, .inl (bnd (by decide) (by decide)), _, rfl, _, _, rfl, rfl, .inl ⟨by decide, by decide⟩, _, _, rfl, rfl, _, rfl, _, _, rfl, rfl, .inl ⟨by decide, by decide⟩, _, _, rfl, rfl, _, _, rfl, rfl, _, _, rfl, rfl, (by decide : (0 : Int) < 2147483587), ?_⟩
          refine ⟨_, rfl, _, rfl, _, _, rfl, rfl, _, _, rfl, rfl, .inl (bnd (by decide) (by decide)), _, _, rfl, rfl, (by decide : (0 : Int) < 2147483579), _, _, rfl, rfl, ⟨by decide, by decide⟩, _, rfl, _, _, rfl, rfl, g0, ?_⟩
          exact kd _ (Int.emod_nonneg _ (by omega)) (Int.emod_lt_of_pos _ g0)
      | false =>
        refine iteT ?_
        have ne0 : ns ≠ [] := fun z => by rw [z] at hns; cases hns
        have lpos : 0 < ns.length := List.length_pos_iff.mpr ne0
        have lpos' : (0 : Int) < ((ns.map V.int).length : Int) := by rw [List.length_map]; omega
        obtain ⟨cell, hcell⟩ := atI_ints (ns := ns) (Int.emod_nonneg sp (by omega)) (Int.emod_lt_of_pos sp lpos')
        refine ⟨_, rfl, p, _, rfl, getC hp2, _, rfl, ⟨_, rfl, p, _, rfl, getC hp2, c, _, rfl, .inl (SqL.of hc2), _, _, rfl, rfl, lpos', c, _, _, _, rfl, rfl, SqL.of hc2, hcell, ?_⟩⟩
        refine ⟨_, rfl, _, rfl, p, _, rfl, getC hp2, c, _, rfl, .inl (SqL.of hc2), _, _, rfl, rfl, _, rfl, ?_⟩
        refine ite2 (fun _ => ?_) (fun _ => ?_)
        · refine ⟨_, rfl, _, rfl, _, _, rfl, rfl, ⟨by decide, by decide, by decide⟩, _, _, rfl, rfl, _, rfl, ?_⟩
          refine ite2 (fun hbig => ?_) (fun _ => ?_)
          · have hbig' := of_decide_eq_true hbig
            refine ⟨_, rfl, _, rfl, _, _, rfl, rfl, ⟨by decide, by decide, by decide⟩, _, _, rfl, rfl, _, rfl, _, _, rfl, rfl, ⟨g0, by omega⟩, _, rfl, p, _, rfl, setM _ hp2, ?_⟩
            refine ⟨_, rfl, _, rfl, _, _, rfl, rfl, ⟨by decide, by decide, by decide⟩, _, _, rfl, rfl, _, rfl, _, _, rfl, rfl, g0, ?_⟩
            exact km _ _ (Int.emod_nonneg _ (by omega)) (Int.emod_lt_of_pos _ g0) (Int.ediv_nonneg (Int.sub_nonneg_of_le hbig') (by omega))
          · refine ⟨_, rfl, _, _, rfl, rfl, (by decide : (0 : Int) < 2147483647), _, _, rfl, rfl, .inl (bnd (by decide) (by decide)), _, rfl, _, _, rfl, rfl, .inl ⟨by decide, by decide⟩, _, rfl, _, _, rfl, rfl, .inl (lim (by omega) (by omega)), _, _, rfl, rfl, _, rfl, _, _, rfl, rfl, .inl ⟨by decide, by decide⟩, _, _, rfl, rfl, _, _, rfl, rfl, _, _, rfl, rfl, (by decide : (0 : Int) < 2147483629), ?_⟩
            refine ⟨_, rfl, _, rfl, _, _, rfl, rfl, .inl (bnd (by decide) (by decide)), _, rfl, _, _, rfl, rfl, .inl ⟨by decide, by decide⟩, _, _, rfl, rfl, _, rfl, _, _, rfl, rfl, .inl ⟨by decide, by decide⟩, _, _, rfl, rfl, _, _, rfl, rfl, _, _, rfl, rfl, (by decide : (0 : Int) < 2147483587), ?_⟩
            refine ⟨_, rfl, _, rfl, _, _, rfl, rfl, _, _, rfl, rfl, .inl (bnd (by decide) (by decide)), _, _, rfl, rfl, (by decide : (0 : Int) < 2147483579), _, _, rfl, rfl, ⟨by decide, by decide⟩, _, rfl, _, _, rfl, rfl, g0, ?_⟩
            exact kd _ (Int.emod_nonneg _ (by omega)) (Int.emod_lt_of_pos _ g0)
        · refine iteF ?_
          refine ⟨_, rfl, _, _, rfl, rfl, (by decide : (0 : Int) < 2147483647), _, _, rfl, rfl, .inl (bnd (by decide) (by decide)), _, rfl, _, _, rfl, rfl, .inl ⟨by decide, by decide⟩, _, rfl, _, _, rfl, rfl, .inl (lim (by omega) (by omega)), _, _, rfl, rfl, _, rfl, _, _, rfl, rfl, .inl ⟨by decide, by decide⟩, _, _, rfl, rfl, _, _, rfl, rfl, _, _, rfl, rfl, (by decide : (0 : Int) < 2147483629), ?_⟩
          refine ⟨_, rfl, _, rfl, _, _, rfl, rfl, .inl (bnd (by decide) (by decide)), _, rfl, _, _, rfl, rfl, .inl ⟨by decide, by decide⟩, _, _, rfl, rfl, _, rfl, _, _, rfl, rfl, .inl ⟨by decide, by decide⟩, _, _, rfl, rfl, _, _, rfl, rfl, _, _, rfl, rfl, (by decide : (0 : Int) < 2147483587), ?_⟩
          refine ⟨_, rfl, _, rfl, _, _, rfl, rfl, _, _, rfl, rfl, .inl (bnd (by decide) (by decide)), _, _, rfl, rfl, (by decide : (0 : Int) < 2147483579), _, _, rfl, rfl, ⟨by decide, by decide⟩, _, rfl, _, _, rfl, rfl, g0, ?_⟩
          exact kd _ (Int.emod_nonneg _ (by omega)) (Int.emod_lt_of_pos _ g0)
end
end Wf
namespace Wf
open PySem L2
abbrev s_law_pick : Stmt := top 22
abbrev N_law_pick : List Str := ["pen", "some"]
theorem sc_law_pick : FnScope N_law_pick ["pen", "some"] (defScope s_law_pick) := ⟨rfl, rfl, rfl, by decide +kernel, rfl, by decide +kernel, by decide +kernel⟩
def spPick (K : PySem.W.Frag) : Sp := fun vs H Q _ => ∃ (p c : Addr) (n : Nat), Pen H p c n ∧ n < 1000000 ∧
  ((∃ (a : Addr) (xs : List V), vs = [.ref p, .ref a] ∧ (SqL K H a xs ∨ SqT K H a xs) ∧ 0 < xs.length ∧ xs.length < 1000000 ∧ ∀ (x : V) (H' : Hp), x ∈ xs → But p H H' → Pen H' p c (n + 1) → Q x H') ∨
   (∃ z : Str, vs = [.ref p, .str z] ∧ 0 < z.length ∧ z.length < 1000000 ∧ ∀ (ch : Nat) (H' : Hp), ch ∈ z.cps.toList → But p H H' → Pen H' p c (n + 1) → Q (.str ⟨#[ch]⟩) H'))
theorem atI_mem {α : Type} {xs : List α} {i : Int} {y : α} (h : atI xs i = some y) : y ∈ xs := by
  unfold atI at h
  obtain ⟨j, _, hj⟩ := Option.bind_eq_some_iff.mp h
  exact List.mem_of_getElem? hj
section
variable {P : Program} {w : World} {K : PySem.W.Frag} {mg : Str → Option Value} {base : Heap}
theorem ok_pick {f : Addr} {fd : FuncData} (F : Fun K "_law_pick" "_law_pick" s_law_pick f fd) (T : Txt K mg) (D_law_draw : Dn P w K mg base 1 "_law_draw" ["pen", "many"] spDraw) : FnOk P w K mg base CX0 2 f fd ["pen", "some"] (spPick K) := by
  refine F.ok sc_law_pick (fun vs H Q E h => ?_) (fun cdv A outer s H vs Q E hr h => ?_)
  · obtain ⟨p, c, n, _, _, ⟨a, xs, rfl, _⟩ | ⟨z, rfl, _⟩⟩ := h <;> rfl
  · refine ⟨_, (pss_one (ps_ret (pe_ix ix_seq (pv 1) (pe_cl D_law_draw (hr.mono (by decide)) (pa_cons (pv 0) (pa_cons (pe_callB call_len (by rfl) T.z_len PySem.boot_len (pa_cons (pv 1) pa_nil)) pa_nil))) (fun _ _ => rfl)))), ?_⟩
    obtain ⟨p, c, n, hp, hn, ⟨a, xs, rfl, hs, l0, l1, k⟩ | ⟨z, rfl, l0, l1, k⟩⟩ := h
    · have hlen : LenV K (.ref a) H xs.length := hs.elim (fun h => .inl ⟨xs, h, rfl⟩) (fun h => .inr ⟨xs, h, rfl⟩)
      refine ⟨_, rfl, _, rfl, _, rfl, _, _, rfl, hlen, p, c, n, _, rfl, hp, by omega, by omega, by omega, fun d H' d0 d1 bt hp' => ?_⟩
      obtain ⟨y, hy⟩ := atI_in d0 d1
      rcases hs with hs | hs
      · exact .inl ⟨a, xs, d, y, rfl, rfl, bt.sql hp hs, hy, k y H' (atI_mem hy) bt hp'⟩
      · exact .inr (.inl ⟨a, xs, d, y, rfl, rfl, bt.sqt hp hs, hy, k y H' (atI_mem hy) bt hp'⟩)
    · have hz : z.length ≤ sizeLine := by rw [sizeLine_eq]; omega
      refine ⟨_, rfl, _, rfl, _, rfl, _, _, rfl, ⟨hz, rfl⟩, p, c, n, _, rfl, hp, by omega, by omega, by omega, fun d H' d0 d1 bt hp' => ?_⟩
      obtain ⟨ch, hc⟩ := atI_in (xs := z.cps.toList) d0 (by rw [Array.length_toList]; exact d1)
      exact .inr (.inr ⟨z, d, ch, rfl, rfl, hz, hc, k ch H' (atI_mem hc) bt hp'⟩)
end
end Wf
namespace Wf
open PySem L2
abbrev s_InvalidWord___init : Stmt := inClass (top 2) 0
abbrev N_InvalidWord___init : List Str := ["self", "word"]
theorem sc_InvalidWord___init : FnScope N_InvalidWord___init ["self", "word"] (defScope s_InvalidWord___init) := ⟨rfl, rfl, rfl, by decide +kernel, rfl, by decide +kernel, by decide +kernel⟩
abbrev s_InvalidSample___init : Stmt := inClass (top 3) 0
abbrev N_InvalidSample___init : List Str := ["self", "word"]
theorem sc_InvalidSample___init : FnScope N_InvalidSample___init ["self", "word"] (defScope s_InvalidSample___init) := ⟨rfl, rfl, rfl, by decide +kernel, rfl, by decide +kernel, by decide +kernel⟩
abbrev s_InvalidMachine___init : Stmt := inClass (top 4) 0
abbrev N_InvalidMachine___init : List Str := ["self", "state"]
theorem sc_InvalidMachine___init : FnScope N_InvalidMachine___init ["self", "state"] (defScope s_InvalidMachine___init) := ⟨rfl, rfl, rfl, by decide +kernel, rfl, by decide +kernel, by decide +kernel⟩
abbrev s_InvalidPoints___init : Stmt := inClass (top 5) 0
abbrev N_InvalidPoints___init : List Str := ["self", "point"]
theorem sc_InvalidPoints___init : FnScope N_InvalidPoints___init ["self", "point"] (defScope s_InvalidPoints___init) := ⟨rfl, rfl, rfl, by decide +kernel, rfl, by decide +kernel, by decide +kernel⟩
abbrev s_NotComplete___init : Stmt := inClass (top 6) 0
abbrev N_NotComplete___init : List Str := ["self", "state"]
theorem sc_NotComplete___init : FnScope N_NotComplete___init ["self", "state"] (defScope s_NotComplete___init) := ⟨rfl, rfl, rfl, by decide +kernel, rfl, by decide +kernel, by decide +kernel⟩
abbrev s_NotReduced___init : Stmt := inClass (top 8) 0
abbrev N_NotReduced___init : List Str := ["self", "state"]
theorem sc_NotReduced___init : FnScope N_NotReduced___init ["self", "state"] (defScope s_NotReduced___init) := ⟨rfl, rfl, rfl, by decide +kernel, rfl, by decide +kernel, by decide +kernel⟩
abbrev s_NotApart___init : Stmt := inClass (top 9) 0
abbrev N_NotApart___init : List Str := ["self", "word"]
theorem sc_NotApart___init : FnScope N_NotApart___init ["self", "word"] (defScope s_NotApart___init) := ⟨rfl, rfl, rfl, by decide +kernel, rfl, by decide +kernel, by decide +kernel⟩
abbrev s_InvalidText___init : Stmt := inClass (top 11) 0
abbrev N_InvalidText___init : List Str := ["self", "line"]
theorem sc_InvalidText___init : FnScope N_InvalidText___init ["self", "line"] (defScope s_InvalidText___init) := ⟨rfl, rfl, rfl, by decide +kernel, rfl, by decide +kernel, by decide +kernel⟩
abbrev s_InvalidCommand___init : Stmt := inClass (top 12) 0
abbrev N_InvalidCommand___init : List Str := ["self", "command"]
theorem sc_InvalidCommand___init : FnScope N_InvalidCommand___init ["self", "command"] (defScope s_InvalidCommand___init) := ⟨rfl, rfl, rfl, by decide +kernel, rfl, by decide +kernel, by decide +kernel⟩
abbrev s_UnknownWord___init : Stmt := inClass (top 13) 0
abbrev N_UnknownWord___init : List Str := ["self", "word"]
theorem sc_UnknownWord___init : FnScope N_UnknownWord___init ["self", "word"] (defScope s_UnknownWord___init) := ⟨rfl, rfl, rfl, by decide +kernel, rfl, by decide +kernel, by decide +kernel⟩
abbrev s_DuplicateWord___init : Stmt := inClass (top 14) 0
abbrev N_DuplicateWord___init : List Str := ["self", "word"]
theorem sc_DuplicateWord___init : FnScope N_DuplicateWord___init ["self", "word"] (defScope s_DuplicateWord___init) := ⟨rfl, rfl, rfl, by decide +kernel, rfl, by decide +kernel, by decide +kernel⟩
abbrev s_OutOfRange___init : Stmt := inClass (top 17) 0
abbrev N_OutOfRange___init : List Str := ["self", "number"]
theorem sc_OutOfRange___init : FnScope N_OutOfRange___init ["self", "number"] (defScope s_OutOfRange___init) := ⟨rfl, rfl, rfl, by decide +kernel, rfl, by decide +kernel, by decide +kernel⟩
abbrev s_TooLarge___init : Stmt := inClass (top 18) 0
abbrev N_TooLarge___init : List Str := ["self", "limit"]
theorem sc_TooLarge___init : FnScope N_TooLarge___init ["self", "limit"] (defScope s_TooLarge___init) := ⟨rfl, rfl, rfl, by decide +kernel, rfl, by decide +kernel, by decide +kernel⟩
section
variable {P : Program} {w : World} {K : PySem.W.Frag} {mg : Str → Option Value} {base : Heap} {fI : Addr} {fd : FuncData}
theorem ok_i_InvalidWord (F : Fun K "__init__" "InvalidWord.__init__" s_InvalidWord___init fI fd) : FnOk P w K mg base CX0 1 fI fd ["self", "word"] (spInit K "word") := by
  refine F.ok sc_InvalidWord___init (fun vs H Q E h => ?_) (fun cdv A outer s H vs Q E hr h => ?_)
  · obtain ⟨a, C, y, rfl, _⟩ := h
    rfl
  · refine ⟨_, (pss_one (ps_ov (pv 0) (pv 1))), ?_⟩
    obtain ⟨a, C, y, rfl, ea, T, hno, k⟩ := h
    exact ⟨_, rfl, _, rfl, a, C, rfl, T, hno, ea, fun d nd ne => k d nd ne⟩
theorem ok_i_InvalidSample (F : Fun K "__init__" "InvalidSample.__init__" s_InvalidSample___init fI fd) : FnOk P w K mg base CX0 1 fI fd ["self", "word"] (spInit K "word") := by
  refine F.ok sc_InvalidSample___init (fun vs H Q E h => ?_) (fun cdv A outer s H vs Q E hr h => ?_)
  · obtain ⟨a, C, y, rfl, _⟩ := h
    rfl
  · refine ⟨_, (pss_one (ps_ov (pv 0) (pv 1))), ?_⟩
    obtain ⟨a, C, y, rfl, ea, T, hno, k⟩ := h
    exact ⟨_, rfl, _, rfl, a, C, rfl, T, hno, ea, fun d nd ne => k d nd ne⟩
theorem ok_i_InvalidMachine (F : Fun K "__init__" "InvalidMachine.__init__" s_InvalidMachine___init fI fd) : FnOk P w K mg base CX0 1 fI fd ["self", "state"] (spInit K "state") := by
  refine F.ok sc_InvalidMachine___init (fun vs H Q E h => ?_) (fun cdv A outer s H vs Q E hr h => ?_)
  · obtain ⟨a, C, y, rfl, _⟩ := h
    rfl
  · refine ⟨_, (pss_one (ps_ov (pv 0) (pv 1))), ?_⟩
    obtain ⟨a, C, y, rfl, ea, T, hno, k⟩ := h
    exact ⟨_, rfl, _, rfl, a, C, rfl, T, hno, ea, fun d nd ne => k d nd ne⟩
theorem ok_i_InvalidPoints (F : Fun K "__init__" "InvalidPoints.__init__" s_InvalidPoints___init fI fd) : FnOk P w K mg base CX0 1 fI fd ["self", "point"] (spInit K "point") := by
  refine F.ok sc_InvalidPoints___init (fun vs H Q E h => ?_) (fun cdv A outer s H vs Q E hr h => ?_)
  · obtain ⟨a, C, y, rfl, _⟩ := h
    rfl
  · refine ⟨_, (pss_one (ps_ov (pv 0) (pv 1))), ?_⟩
    obtain ⟨a, C, y, rfl, ea, T, hno, k⟩ := h
    exact ⟨_, rfl, _, rfl, a, C, rfl, T, hno, ea, fun d nd ne => k d nd ne⟩
theorem ok_i_NotComplete (F : Fun K "__init__" "NotComplete.__init__" s_NotComplete___init fI fd) : FnOk P w K mg base CX0 1 fI fd ["self", "state"] (spInit K "state") := by
  refine F.ok sc_NotComplete___init (fun vs H Q E h => ?_) (fun cdv A outer s H vs Q E hr h => ?_)
  · obtain ⟨a, C, y, rfl, _⟩ := h
    rfl
  · refine ⟨_, (pss_one (ps_ov (pv 0) (pv 1))), ?_⟩
    obtain ⟨a, C, y, rfl, ea, T, hno, k⟩ := h
    exact ⟨_, rfl, _, rfl, a, C, rfl, T, hno, ea, fun d nd ne => k d nd ne⟩
theorem ok_i_NotReduced (F : Fun K "__init__" "NotReduced.__init__" s_NotReduced___init fI fd) : FnOk P w K mg base CX0 1 fI fd ["self", "state"] (spInit K "state") := by
  refine F.ok sc_NotReduced___init (fun vs H Q E h => ?_) (fun cdv A outer s H vs Q E hr h => ?_)
  · obtain ⟨a, C, y, rfl, _⟩ := h
    rfl
  · refine ⟨_, (pss_one (ps_ov (pv 0) (pv 1))), ?_⟩
    obtain ⟨a, C, y, rfl, ea, T, hno, k⟩ := h
    exact ⟨_, rfl, _, rfl, a, C, rfl, T, hno, ea, fun d nd ne => k d nd ne⟩
theorem ok_i_NotApart (F : Fun K "__init__" "NotApart.__init__" s_NotApart___init fI fd) : FnOk P w K mg base CX0 1 fI fd ["self", "word"] (spInit K "word") := by
  refine F.ok sc_NotApart___init (fun vs H Q E h => ?_) (fun cdv A outer s H vs Q E hr h => ?_)
  · obtain ⟨a, C, y, rfl, _⟩ := h
    rfl
  · refine ⟨_, (pss_one (ps_ov (pv 0) (pv 1))), ?_⟩
    obtain ⟨a, C, y, rfl, ea, T, hno, k⟩ := h
    exact ⟨_, rfl, _, rfl, a, C, rfl, T, hno, ea, fun d nd ne => k d nd ne⟩
theorem ok_i_InvalidText (F : Fun K "__init__" "InvalidText.__init__" s_InvalidText___init fI fd) : FnOk P w K mg base CX0 1 fI fd ["self", "line"] (spInit K "line") := by
  refine F.ok sc_InvalidText___init (fun vs H Q E h => ?_) (fun cdv A outer s H vs Q E hr h => ?_)
  · obtain ⟨a, C, y, rfl, _⟩ := h
    rfl
  · refine ⟨_, (pss_one (ps_ov (pv 0) (pv 1))), ?_⟩
    obtain ⟨a, C, y, rfl, ea, T, hno, k⟩ := h
    exact ⟨_, rfl, _, rfl, a, C, rfl, T, hno, ea, fun d nd ne => k d nd ne⟩
theorem ok_i_InvalidCommand (F : Fun K "__init__" "InvalidCommand.__init__" s_InvalidCommand___init fI fd) : FnOk P w K mg base CX0 1 fI fd ["self", "command"] (spInit K "command") := by
  refine F.ok sc_InvalidCommand___init (fun vs H Q E h => ?_) (fun cdv A outer s H vs Q E hr h => ?_)
  · obtain ⟨a, C, y, rfl, _⟩ := h
    rfl
  · refine ⟨_, (pss_one (ps_ov (pv 0) (pv 1))), ?_⟩
    obtain ⟨a, C, y, rfl, ea, T, hno, k⟩ := h
    exact ⟨_, rfl, _, rfl, a, C, rfl, T, hno, ea, fun d nd ne => k d nd ne⟩
theorem ok_i_UnknownWord (F : Fun K "__init__" "UnknownWord.__init__" s_UnknownWord___init fI fd) : FnOk P w K mg base CX0 1 fI fd ["self", "word"] (spInit K "word") := by
  refine F.ok sc_UnknownWord___init (fun vs H Q E h => ?_) (fun cdv A outer s H vs Q E hr h => ?_)
  · obtain ⟨a, C, y, rfl, _⟩ := h
    rfl
  · refine ⟨_, (pss_one (ps_ov (pv 0) (pv 1))), ?_⟩
    obtain ⟨a, C, y, rfl, ea, T, hno, k⟩ := h
    exact ⟨_, rfl, _, rfl, a, C, rfl, T, hno, ea, fun d nd ne => k d nd ne⟩
theorem ok_i_DuplicateWord (F : Fun K "__init__" "DuplicateWord.__init__" s_DuplicateWord___init fI fd) : FnOk P w K mg base CX0 1 fI fd ["self", "word"] (spInit K "word") := by
  refine F.ok sc_DuplicateWord___init (fun vs H Q E h => ?_) (fun cdv A outer s H vs Q E hr h => ?_)
  · obtain ⟨a, C, y, rfl, _⟩ := h
    rfl
  · refine ⟨_, (pss_one (ps_ov (pv 0) (pv 1))), ?_⟩
    obtain ⟨a, C, y, rfl, ea, T, hno, k⟩ := h
    exact ⟨_, rfl, _, rfl, a, C, rfl, T, hno, ea, fun d nd ne => k d nd ne⟩
theorem ok_i_OutOfRange (F : Fun K "__init__" "OutOfRange.__init__" s_OutOfRange___init fI fd) : FnOk P w K mg base CX0 1 fI fd ["self", "number"] (spInit K "number") := by
  refine F.ok sc_OutOfRange___init (fun vs H Q E h => ?_) (fun cdv A outer s H vs Q E hr h => ?_)
  · obtain ⟨a, C, y, rfl, _⟩ := h
    rfl
  · refine ⟨_, (pss_one (ps_ov (pv 0) (pv 1))), ?_⟩
    obtain ⟨a, C, y, rfl, ea, T, hno, k⟩ := h
    exact ⟨_, rfl, _, rfl, a, C, rfl, T, hno, ea, fun d nd ne => k d nd ne⟩
theorem ok_i_TooLarge (F : Fun K "__init__" "TooLarge.__init__" s_TooLarge___init fI fd) : FnOk P w K mg base CX0 1 fI fd ["self", "limit"] (spInit K "limit") := by
  refine F.ok sc_TooLarge___init (fun vs H Q E h => ?_) (fun cdv A outer s H vs Q E hr h => ?_)
  · obtain ⟨a, C, y, rfl, _⟩ := h
    rfl
  · refine ⟨_, (pss_one (ps_ov (pv 0) (pv 1))), ?_⟩
    obtain ⟨a, C, y, rfl, ea, T, hno, k⟩ := h
    exact ⟨_, rfl, _, rfl, a, C, rfl, T, hno, ea, fun d nd ne => k d nd ne⟩
end
/-- what the text says of the error classes -/
structure VAll (P : Program) (w : World) (K : PySem.W.Frag) (mg : Str → Option Value) (base : Heap) : Prop where
  v_InvalidWord : ∃ C, Vn P w K mg base "InvalidWord" C "word" ∧ Grp K C true false false false false false
  v_InvalidSample : ∃ C, Vn P w K mg base "InvalidSample" C "word" ∧ Grp K C true false false false false false
  v_InvalidMachine : ∃ C, Vn P w K mg base "InvalidMachine" C "state" ∧ Grp K C true false false false false false
  v_InvalidPoints : ∃ C, Vn P w K mg base "InvalidPoints" C "point" ∧ Grp K C true false false false false false
  v_NotComplete : ∃ C, Vn P w K mg base "NotComplete" C "state" ∧ Grp K C true false false false false false
  v_NotReduced : ∃ C, Vn P w K mg base "NotReduced" C "state" ∧ Grp K C true false false false false false
  v_NotApart : ∃ C, Vn P w K mg base "NotApart" C "word" ∧ Grp K C true false false false false false
  v_InvalidText : ∃ C, Vn P w K mg base "InvalidText" C "line" ∧ Grp K C true false false false false false
  v_InvalidCommand : ∃ C, Vn P w K mg base "InvalidCommand" C "command" ∧ Grp K C true false false false false false
  v_UnknownWord : ∃ C, Vn P w K mg base "UnknownWord" C "word" ∧ Grp K C false true false false false false
  v_DuplicateWord : ∃ C, Vn P w K mg base "DuplicateWord" C "word" ∧ Grp K C false true false false false false
  v_OutOfRange : ∃ C, Vn P w K mg base "OutOfRange" C "number" ∧ Grp K C false false true false false false
  v_TooLarge : ∃ C, Vn P w K mg base "TooLarge" C "limit" ∧ Grp K C false false false true false false
  v_InvalidLetters : ∃ C, Vn0 K mg "InvalidLetters" C ∧ Grp K C true false false false false false
  v_NotFit : ∃ C, Vn0 K mg "NotFit" C ∧ Grp K C true false false false false false
  v_NotVersion : ∃ C, Vn0 K mg "NotVersion" C ∧ Grp K C true false false false false false
  v_NothingToUndo : ∃ C, Vn0 K mg "NothingToUndo" C ∧ Grp K C false false false false false false ∧ PySem.W.kitOne K (.ref C) (.type "LookupError") = some true
  v_NothingToRedo : ∃ C, Vn0 K mg "NothingToRedo" C ∧ Grp K C false false false false false false ∧ PySem.W.kitOne K (.ref C) (.type "LookupError") = some true
structure TxtE (K : PySem.W.Frag) (mg : Str → Option Value) : Prop extends Txt K mg where
  z_repr : mg "repr" = none
  z_isinstance : mg "isinstance" = none
  z_ValueError : mg "ValueError" = none
  z_KeyError : mg "KeyError" = none
  z_IndexError : mg "IndexError" = none
  z_ArithmeticError : mg "ArithmeticError" = none
  z_TypeError : mg "TypeError" = none
  z_RuntimeError : mg "RuntimeError" = none
  z_LookupError : mg "LookupError" = none
end Wf
namespace Wf
open PySem L2
abbrev s_law_groups : Stmt := top 26
abbrev N_law_groups : List Str := ["error", "found"]
theorem sc_law_groups : FnScope N_law_groups ["error"] (defScope s_law_groups) := ⟨rfl, rfl, rfl, by decide +kernel, rfl, by decide +kernel, by decide +kernel⟩
abbrev s_law_named : Stmt := top 24
abbrev N_law_named : List Str := ["value", "found"]
theorem sc_law_named : FnScope N_law_named ["value"] (defScope s_law_named) := ⟨rfl, rfl, rfl, by decide +kernel, rfl, by decide +kernel, by decide +kernel⟩
abbrev s_law_placed : Stmt := top 25
abbrev N_law_placed : List Str := ["value", "found"]
theorem sc_law_placed : FnScope N_law_placed ["value"] (defScope s_law_placed) := ⟨rfl, rfl, rfl, by decide +kernel, rfl, by decide +kernel, by decide +kernel⟩
/-- the group of an error, by its number -/
abbrev GrpN (K : PySem.W.Frag) (C : Addr) (g : Int) : Prop := Grp K C ((0 : Int) == g) ((1 : Int) == g) ((2 : Int) == g) ((3 : Int) == g) ((4 : Int) == g) ((5 : Int) == g)
/-- at t: (field, error, group) -/
def Et (K : PySem.W.Frag) (H : Hp) (v : V) (t : Addr) : Prop := ∃ (e C : Addr) (g : Int), H t = some (.tup [v, .ref e, .int g]) ∧ VeA H e C ∧ GrpN K C g
theorem VeA.same {H H' : Hp} {a C : Addr} (h : VeA H a C) (s : Same H H') : VeA H' a C := h.elim (fun h => .inl (h.same s)) fun ⟨f, y, h⟩ => .inr ⟨f, y, h.same s⟩
theorem Et.same {K : PySem.W.Frag} {H H' : Hp} {v : V} {t : Addr} (h : Et K H v t) (s : Same H H') : Et K H' v t := let ⟨e, C, g, a, b, c⟩ := h; ⟨e, C, g, s _ _ a, b.same s, c⟩
theorem VeA.wr {H : Hp} {a C l : Addr} {xs : List V} {o : HO} (h : VeA H a C) (hl : H l = some (.lst xs)) : VeA (upd H l o) a C := by
  rcases h with h | ⟨f, y, d, h1, h2⟩
  · refine .inl ?_
    show upd H l o a = _
    rw [upd_ne (at_ne hl h fun z => by cases z)]
    exact h
  · refine .inr ⟨f, y, d, ?_, ?_⟩
    · rw [upd_ne (at_ne hl h1 fun z => by cases z)]
      exact h1
    · rw [upd_ne (at_ne hl h2 fun z => by cases z)]
      exact h2
theorem Et.wr {K : PySem.W.Frag} {H : Hp} {v : V} {t l : Addr} {xs : List V} {o : HO} (h : Et K H v t) (hl : H l = some (.lst xs)) : Et K (upd H l o) v t := by
  obtain ⟨e, C, g, a, b, c⟩ := h
  refine ⟨e, C, g, ?_, b.wr hl, c⟩
  rw [upd_ne (at_ne hl a fun z => by cases z)]
  exact a
theorem et_of {K : PySem.W.Frag} {H H1 H2 : Hp} {v : V} {C a2 t : Addr} {f : Str} {g : Int} (s1 : Same H H1) (s2 : Same H1 H2) (e2 : Ve H2 a2 C f v) (ht : H2 t = none) (gr : GrpN K C g) :
    Same H (upd H2 t (.tup [v, .ref a2, .int g])) ∧ Et K (upd H2 t (.tup [v, .ref a2, .int g])) v t :=
  ⟨(s1.trans s2).trans (sm1 ht), a2, C, g, upd_same, (VeA.same (.inr ⟨f, v, e2⟩) (sm1 ht)), gr⟩
/-- a list of such ones that grows -/
structure Ls (K : PySem.W.Frag) (H0 H : Hp) (v : V) (l : Addr) (ts : List Addr) : Prop where
  s : Same H0 H
  n : H0 l = none
  l : H l = some (.lst (ts.map V.ref))
  e : ∀ t ∈ ts, Et K H v t
theorem Ls.one {K : PySem.W.Frag} {H0 H : Hp} {v : V} {l t : Addr} (s : Same H0 H) (n : H l = none) (e : Et K H v t) : Ls K H0 (upd H l (.lst [.ref t])) v l [t] where
  s := s.trans (sm1 n)
  n := by
    cases z : H0 l with
    | none => rfl
    | some o =>
      rw [s _ _ z] at n
      cases n
  l := upd_same
  e := fun t ht => by
    cases List.mem_singleton.mp ht
    exact e.same (sm1 n)
theorem Ls.app {K : PySem.W.Frag} {H0 H H' : Hp} {v : V} {l t : Addr} {ts : List Addr} (L : Ls K H0 H v l ts) (s : Same H H') (e : Et K H' v t) : Ls K H0 (upd H' l (.lst (ts.map V.ref ++ [.ref t]))) v l (ts ++ [t]) where
  s := swr (L.s.trans s) L.n
  n := L.n
  l := by rw [upd_same, List.map_append]; rfl
  e := fun u hu => by
    rcases List.mem_append.mp hu with hu | hu
    · exact ((L.e u hu).same s).wr (s _ _ L.l)
    · cases List.mem_singleton.mp hu
      exact e.wr (s _ _ L.l)
def spGroups (K : PySem.W.Frag) : Sp := fun vs H Q _ => ∃ (a C : Addr) (b1 b2 b3 b4 b5 b6 : Bool), vs = [.ref a] ∧ VeA H a C ∧ Grp K C b1 b2 b3 b4 b5 b6 ∧ ∀ l H', Same H H' → H l = none → H' l = some (.lst [.bl b1, .bl b2, .bl b3, .bl b4, .bl b5, .bl b6]) → Q (.ref l) H'
def spNamed (K : PySem.W.Frag) : Sp := fun vs H Q _ => ∃ v, vs = [v] ∧ ∀ l ts H', Ls K H H' v l ts → ts.length = 13 → Q (.ref l) H'
section
variable {P : Program} {w : World} {K : PySem.W.Frag} {mg : Str → Option Value} {base : Heap} {f : Addr} {fd : FuncData}
theorem ok_groups (F : Fun K "_law_groups" "_law_groups" s_law_groups f fd) (T : TxtE K mg) : FnOk P w K mg base CX0 1 f fd ["error"] (spGroups K) := by
  refine F.ok sc_law_groups (fun vs H Q E h => ?_) (fun cdv A outer s H vs Q E hr h => ?_)
  · obtain ⟨a, C, b1, b2, b3, b4, b5, b6, rfl, _⟩ := h
    rfl
  · refine ⟨_, (pss_cons (ps_set (i := 1) sc_law_groups.nd rfl (Or.inl rfl) (pe_lst (pa_cons (pe_callB call_vi (by rfl) T.z_isinstance (by decide +kernel) (pa_cons (pv 0) (pa_cons (pe_ty (T := "ValueError") T.z_ValueError (by decide +kernel)) pa_nil))) (pa_cons (pe_callB call_vi (by rfl) T.z_isinstance (by decide +kernel) (pa_cons (pv 0) (pa_cons (pe_ty (T := "KeyError") T.z_KeyError (by decide +kernel)) pa_nil))) (pa_cons (pe_callB call_vi (by rfl) T.z_isinstance (by decide +kernel) (pa_cons (pv 0) (pa_cons (pe_ty (T := "IndexError") T.z_IndexError (by decide +kernel)) pa_nil))) pa_nil)))))
  (pss_one (ps_ret (pe_op op_cat (pv 1) (pe_lst (pa_cons (pe_callB call_vi (by rfl) T.z_isinstance (by decide +kernel) (pa_cons (pv 0) (pa_cons (pe_ty (T := "ArithmeticError") T.z_ArithmeticError (by decide +kernel)) pa_nil))) (pa_cons (pe_callB call_vi (by rfl) T.z_isinstance (by decide +kernel) (pa_cons (pv 0) (pa_cons (pe_ty (T := "TypeError") T.z_TypeError (by decide +kernel)) pa_nil))) (pa_cons (pe_callB call_vi (by rfl) T.z_isinstance (by decide +kernel) (pa_cons (pv 0) (pa_cons (pe_ty (T := "RuntimeError") T.z_RuntimeError (by decide +kernel)) pa_nil))) pa_nil)))))))), ?_⟩
    obtain ⟨a, C, b1, b2, b3, b4, b5, b6, rfl, ve, g, k⟩ := h
    refine ⟨_, rfl, a, C, _, b1, rfl, g.ex, ve, g.g1, _, rfl, a, C, _, b2, rfl, g.ex, ve, g.g2, _, rfl, a, C, _, b3, rfl, g.ex, ve, g.g3, by show 3 ≤ sizeLine; decide, fun l hl => ?_⟩
    have ve1 := ve.same (sm1 (o := .lst [.bl b1, .bl b2, .bl b3]) hl)
    refine ⟨_, rfl, _, rfl, a, C, _, b4, rfl, g.ex, ve1, g.g4, _, rfl, a, C, _, b5, rfl, g.ex, ve1, g.g5, _, rfl, a, C, _, b6, rfl, g.ex, ve1, g.g6, by show 3 ≤ sizeLine; decide, fun l2 hl2 => ?_⟩
    have n : l ≠ l2 := ne_of_none upd_same hl2
    refine ⟨l, l2, _, _, rfl, rfl, by rw [upd_ne n, upd_same], upd_same, by show 6 ≤ sizeLine; decide, fun l3 hl3 => ?_⟩
    refine k l3 _ (((sm1 hl).trans (sm1 hl2)).trans (sm1 hl3)) ?_ upd_same
    cases e : H l3 with
    | none => rfl
    | some o =>
      rw [sm1 hl2 _ _ (sm1 hl _ _ e)] at hl3
      cases hl3
theorem ok_named (F : Fun K "_law_named" "_law_named" s_law_named f fd) (T : TxtE K mg) (V : VAll P w K mg base) : FnOk P w K mg base CX0 3 f fd ["value"] (spNamed K) := by
  refine F.ok sc_law_named (fun vs H Q E h => ?_) (fun cdv A outer s H vs Q E hr h => ?_)
  · obtain ⟨v, rfl, _⟩ := h
    rfl
  · obtain ⟨C0, n0, g0⟩ := V.v_InvalidWord
    obtain ⟨C1, n1, g1⟩ := V.v_InvalidSample
    obtain ⟨C2, n2, g2⟩ := V.v_InvalidMachine
    obtain ⟨C3, n3, g3⟩ := V.v_InvalidPoints
    obtain ⟨C4, n4, g4⟩ := V.v_NotComplete
    obtain ⟨C5, n5, g5⟩ := V.v_NotReduced
    obtain ⟨C6, n6, g6⟩ := V.v_NotApart
    obtain ⟨C7, n7, g7⟩ := V.v_InvalidText
    obtain ⟨C8, n8, g8⟩ := V.v_InvalidCommand
    obtain ⟨C9, n9, g9⟩ := V.v_UnknownWord
    obtain ⟨C10, n10, g10⟩ := V.v_DuplicateWord
    obtain ⟨C11, n11, g11⟩ := V.v_OutOfRange
    obtain ⟨C12, n12, g12⟩ := V.v_TooLarge
    refine ⟨_, (pss_cons (ps_set (i := 1) sc_law_named.nd rfl (Or.inl rfl) (pe_lst (pa_cons (pe_tup (pa_cons (pe_vf (pe_vkw n0 (hr.mono (by decide)) (pv 0))) (pa_cons (pe_vkw n0 (hr.mono (by decide)) (pv 0)) (pa_cons (pe_int) pa_nil)))) pa_nil)))
  (pss_cons (ps_expr (pe_bm PySem.F.plainAttrs_list PySem.F.slot_list_append PySem.F.type_list_append mt_append (pv 1) (pa_cons (pe_tup (pa_cons (pe_vf (pe_vkw n1 (hr.mono (by decide)) (pv 0))) (pa_cons (pe_vkw n1 (hr.mono (by decide)) (pv 0)) (pa_cons (pe_int) pa_nil)))) pa_nil)))
  (pss_cons (ps_expr (pe_bm PySem.F.plainAttrs_list PySem.F.slot_list_append PySem.F.type_list_append mt_append (pv 1) (pa_cons (pe_tup (pa_cons (pe_vf (pe_vkw n2 (hr.mono (by decide)) (pv 0))) (pa_cons (pe_vkw n2 (hr.mono (by decide)) (pv 0)) (pa_cons (pe_int) pa_nil)))) pa_nil)))
  (pss_cons (ps_expr (pe_bm PySem.F.plainAttrs_list PySem.F.slot_list_append PySem.F.type_list_append mt_append (pv 1) (pa_cons (pe_tup (pa_cons (pe_vf (pe_vkw n3 (hr.mono (by decide)) (pv 0))) (pa_cons (pe_vkw n3 (hr.mono (by decide)) (pv 0)) (pa_cons (pe_int) pa_nil)))) pa_nil)))
  (pss_cons (ps_expr (pe_bm PySem.F.plainAttrs_list PySem.F.slot_list_append PySem.F.type_list_append mt_append (pv 1) (pa_cons (pe_tup (pa_cons (pe_vf (pe_vkw n4 (hr.mono (by decide)) (pv 0))) (pa_cons (pe_vkw n4 (hr.mono (by decide)) (pv 0)) (pa_cons (pe_int) pa_nil)))) pa_nil)))
  (pss_cons (ps_expr (pe_bm PySem.F.plainAttrs_list PySem.F.slot_list_append PySem.F.type_list_append mt_append (pv 1) (pa_cons (pe_tup (pa_cons (pe_vf (pe_vkw n5 (hr.mono (by decide)) (pv 0))) (pa_cons (pe_vkw n5 (hr.mono (by decide)) (pv 0)) (pa_cons (pe_int) pa_nil)))) pa_nil)))
  (pss_cons (ps_expr (pe_bm PySem.F.plainAttrs_list PySem.F.slot_list_append PySem.F.type_list_append mt_append (pv 1) (pa_cons (pe_tup (pa_cons (pe_vf (pe_vkw n6 (hr.mono (by decide)) (pv 0))) (pa_cons (pe_vkw n6 (hr.mono (by decide)) (pv 0)) (pa_cons (pe_int) pa_nil)))) pa_nil)))
  (pss_cons (ps_expr (pe_bm PySem.F.plainAttrs_list PySem.F.slot_list_append PySem.F.type_list_append mt_append (pv 1) (pa_cons (pe_tup (pa_cons (pe_vf (pe_vkw n7 (hr.mono (by decide)) (pv 0))) (pa_cons (pe_vkw n7 (hr.mono (by decide)) (pv 0)) (pa_cons (pe_int) pa_nil)))) pa_nil)))
  (pss_cons (ps_expr (pe_bm PySem.F.plainAttrs_list PySem.F.slot_list_append PySem.F.type_list_append mt_append (pv 1) (pa_cons (pe_tup (pa_cons (pe_vf (pe_vkw n8 (hr.mono (by decide)) (pv 0))) (pa_cons (pe_vkw n8 (hr.mono (by decide)) (pv 0)) (pa_cons (pe_int) pa_nil)))) pa_nil)))
  (pss_cons (ps_expr (pe_bm PySem.F.plainAttrs_list PySem.F.slot_list_append PySem.F.type_list_append mt_append (pv 1) (pa_cons (pe_tup (pa_cons (pe_vf (pe_vkw n9 (hr.mono (by decide)) (pv 0))) (pa_cons (pe_vkw n9 (hr.mono (by decide)) (pv 0)) (pa_cons (pe_int) pa_nil)))) pa_nil)))
  (pss_cons (ps_expr (pe_bm PySem.F.plainAttrs_list PySem.F.slot_list_append PySem.F.type_list_append mt_append (pv 1) (pa_cons (pe_tup (pa_cons (pe_vf (pe_vkw n10 (hr.mono (by decide)) (pv 0))) (pa_cons (pe_vkw n10 (hr.mono (by decide)) (pv 0)) (pa_cons (pe_int) pa_nil)))) pa_nil)))
  (pss_cons (ps_expr (pe_bm PySem.F.plainAttrs_list PySem.F.slot_list_append PySem.F.type_list_append mt_append (pv 1) (pa_cons (pe_tup (pa_cons (pe_vf (pe_vkw n11 (hr.mono (by decide)) (pv 0))) (pa_cons (pe_vkw n11 (hr.mono (by decide)) (pv 0)) (pa_cons (pe_int) pa_nil)))) pa_nil)))
  (pss_cons (ps_expr (pe_bm PySem.F.plainAttrs_list PySem.F.slot_list_append PySem.F.type_list_append mt_append (pv 1) (pa_cons (pe_tup (pa_cons (pe_vf (pe_vkw n12 (hr.mono (by decide)) (pv 0))) (pa_cons (pe_vkw n12 (hr.mono (by decide)) (pv 0)) (pa_cons (pe_int) pa_nil)))) pa_nil)))
  (pss_one (ps_ret (pv 1)))))))))))))))), ?_⟩
    obtain ⟨v, rfl, k⟩ := h
    refine ⟨v, rfl, fun a0 A0 x0 _ e0 => ⟨a0, C0, v, rfl, n0.cls, n0.no, e0, v, rfl, fun b0 B0 y0 _ z0 => ⟨by show 3 ≤ sizeLine; decide, fun t0 ht0 => ?_⟩⟩⟩
    obtain ⟨s0, w0⟩ := et_of (g := 0) x0 y0 z0 ht0 g0
    generalize upd B0 t0 _ = H0 at s0 w0 ⊢
    refine ⟨by show 1 ≤ sizeLine; decide, fun l hl => ?_⟩
    have L := Ls.one (v := v) s0 hl w0
    generalize upd H0 l _ = G at L ⊢
    refine ⟨_, rfl, .inl ⟨rfl, _, SqL.of L.l⟩, ⟨v, rfl, fun a1 A1 x1 _ e1 => ⟨a1, C1, v, rfl, n1.cls, n1.no, e1, v, rfl, fun b1 B1 y1 _ z1 => ⟨by show 3 ≤ sizeLine; decide, fun t1 ht1 => ?_⟩⟩⟩⟩
    obtain ⟨s1, w1⟩ := et_of (g := 0) x1 y1 z1 ht1 g1
    generalize upd B1 t1 _ = H1 at s1 w1 ⊢
    refine ⟨l, _, _, rfl, rfl, s1 _ _ L.l, by show 1 < sizeLine; decide, ?_⟩
    replace L := L.app s1 w1
    generalize upd H1 l _ = G at L ⊢
    refine ⟨_, rfl, .inl ⟨rfl, _, SqL.of L.l⟩, ⟨v, rfl, fun a2 A2 x2 _ e2 => ⟨a2, C2, v, rfl, n2.cls, n2.no, e2, v, rfl, fun b2 B2 y2 _ z2 => ⟨by show 3 ≤ sizeLine; decide, fun t2 ht2 => ?_⟩⟩⟩⟩
    obtain ⟨s2, w2⟩ := et_of (g := 0) x2 y2 z2 ht2 g2
    generalize upd B2 t2 _ = H2 at s2 w2 ⊢
    refine ⟨l, _, _, rfl, rfl, s2 _ _ L.l, by show 2 < sizeLine; decide, ?_⟩
    replace L := L.app s2 w2
    generalize upd H2 l _ = G at L ⊢
    refine ⟨_, rfl, .inl ⟨rfl, _, SqL.of L.l⟩, ⟨v, rfl, fun a3 A3 x3 _ e3 => ⟨a3, C3, v, rfl, n3.cls, n3.no, e3, v, rfl, fun b3 B3 y3 _ z3 => ⟨by show 3 ≤ sizeLine; decide, fun t3 ht3 => ?_⟩⟩⟩⟩
    obtain ⟨s3, w3⟩ := et_of (g := 0) x3 y3 z3 ht3 g3
    generalize upd B3 t3 _ = H3 at s3 w3 ⊢
    refine ⟨l, _, _, rfl, rfl, s3 _ _ L.l, by show 3 < sizeLine; decide, ?_⟩
    replace L := L.app s3 w3
    generalize upd H3 l _ = G at L ⊢
    refine ⟨_, rfl, .inl ⟨rfl, _, SqL.of L.l⟩, ⟨v, rfl, fun a4 A4 x4 _ e4 => ⟨a4, C4, v, rfl, n4.cls, n4.no, e4, v, rfl, fun b4 B4 y4 _ z4 => ⟨by show 3 ≤ sizeLine; decide, fun t4 ht4 => ?_⟩⟩⟩⟩
    obtain ⟨s4, w4⟩ := et_of (g := 0) x4 y4 z4 ht4 g4
    generalize upd B4 t4 _ = H4 at s4 w4 ⊢
    refine ⟨l, _, _, rfl, rfl, s4 _ _ L.l, by show 4 < sizeLine; decide, ?_⟩
    replace L := L.app s4 w4
    generalize upd H4 l _ = G at L ⊢
    refine ⟨_, rfl, .inl ⟨rfl, _, SqL.of L.l⟩, ⟨v, rfl, fun a5 A5 x5 _ e5 => ⟨a5, C5, v, rfl, n5.cls, n5.no, e5, v, rfl, fun b5 B5 y5 _ z5 => ⟨by show 3 ≤ sizeLine; decide, fun t5 ht5 => ?_⟩⟩⟩⟩
    obtain ⟨s5, w5⟩ := et_of (g := 0) x5 y5 z5 ht5 g5
    generalize upd B5 t5 _ = H5 at s5 w5 ⊢
    refine ⟨l, _, _, rfl, rfl, s5 _ _ L.l, by show 5 < sizeLine; decide, ?_⟩
    replace L := L.app s5 w5
    generalize upd H5 l _ = G at L ⊢
    refine ⟨_, rfl, .inl ⟨rfl, _, SqL.of L.l⟩, ⟨v, rfl, fun a6 A6 x6 _ e6 => ⟨a6, C6, v, rfl, n6.cls, n6.no, e6, v, rfl, fun b6 B6 y6 _ z6 => ⟨by show 3 ≤ sizeLine; decide, fun t6 ht6 => ?_⟩⟩⟩⟩
    obtain ⟨s6, w6⟩ := et_of (g := 0) x6 y6 z6 ht6 g6
    generalize upd B6 t6 _ = H6 at s6 w6 ⊢
    refine ⟨l, _, _, rfl, rfl, s6 _ _ L.l, by show 6 < sizeLine; decide, ?_⟩
    replace L := L.app s6 w6
    generalize upd H6 l _ = G at L ⊢
    refine ⟨_, rfl, .inl ⟨rfl, _, SqL.of L.l⟩, ⟨v, rfl, fun a7 A7 x7 _ e7 => ⟨a7, C7, v, rfl, n7.cls, n7.no, e7, v, rfl, fun b7 B7 y7 _ z7 => ⟨by show 3 ≤ sizeLine; decide, fun t7 ht7 => ?_⟩⟩⟩⟩
    obtain ⟨s7, w7⟩ := et_of (g := 0) x7 y7 z7 ht7 g7
    generalize upd B7 t7 _ = H7 at s7 w7 ⊢
    refine ⟨l, _, _, rfl, rfl, s7 _ _ L.l, by show 7 < sizeLine; decide, ?_⟩
    replace L := L.app s7 w7
    generalize upd H7 l _ = G at L ⊢
    refine ⟨_, rfl, .inl ⟨rfl, _, SqL.of L.l⟩, ⟨v, rfl, fun a8 A8 x8 _ e8 => ⟨a8, C8, v, rfl, n8.cls, n8.no, e8, v, rfl, fun b8 B8 y8 _ z8 => ⟨by show 3 ≤ sizeLine; decide, fun t8 ht8 => ?_⟩⟩⟩⟩
    obtain ⟨s8, w8⟩ := et_of (g := 0) x8 y8 z8 ht8 g8
    generalize upd B8 t8 _ = H8 at s8 w8 ⊢
    refine ⟨l, _, _, rfl, rfl, s8 _ _ L.l, by show 8 < sizeLine; decide, ?_⟩
    replace L := L.app s8 w8
    generalize upd H8 l _ = G at L ⊢
    refine ⟨_, rfl, .inl ⟨rfl, _, SqL.of L.l⟩, ⟨v, rfl, fun a9 A9 x9 _ e9 => ⟨a9, C9, v, rfl, n9.cls, n9.no, e9, v, rfl, fun b9 B9 y9 _ z9 => ⟨by show 3 ≤ sizeLine; decide, fun t9 ht9 => ?_⟩⟩⟩⟩
    obtain ⟨s9, w9⟩ := et_of (g := 1) x9 y9 z9 ht9 g9
    generalize upd B9 t9 _ = H9 at s9 w9 ⊢
    refine ⟨l, _, _, rfl, rfl, s9 _ _ L.l, by show 9 < sizeLine; decide, ?_⟩
    replace L := L.app s9 w9
    generalize upd H9 l _ = G at L ⊢
    refine ⟨_, rfl, .inl ⟨rfl, _, SqL.of L.l⟩, ⟨v, rfl, fun a10 A10 x10 _ e10 => ⟨a10, C10, v, rfl, n10.cls, n10.no, e10, v, rfl, fun b10 B10 y10 _ z10 => ⟨by show 3 ≤ sizeLine; decide, fun t10 ht10 => ?_⟩⟩⟩⟩
    obtain ⟨s10, w10⟩ := et_of (g := 1) x10 y10 z10 ht10 g10
    generalize upd B10 t10 _ = H10 at s10 w10 ⊢
    refine ⟨l, _, _, rfl, rfl, s10 _ _ L.l, by show 10 < sizeLine; decide, ?_⟩
    replace L := L.app s10 w10
    generalize upd H10 l _ = G at L ⊢
    refine ⟨_, rfl, .inl ⟨rfl, _, SqL.of L.l⟩, ⟨v, rfl, fun a11 A11 x11 _ e11 => ⟨a11, C11, v, rfl, n11.cls, n11.no, e11, v, rfl, fun b11 B11 y11 _ z11 => ⟨by show 3 ≤ sizeLine; decide, fun t11 ht11 => ?_⟩⟩⟩⟩
    obtain ⟨s11, w11⟩ := et_of (g := 2) x11 y11 z11 ht11 g11
    generalize upd B11 t11 _ = H11 at s11 w11 ⊢
    refine ⟨l, _, _, rfl, rfl, s11 _ _ L.l, by show 11 < sizeLine; decide, ?_⟩
    replace L := L.app s11 w11
    generalize upd H11 l _ = G at L ⊢
    refine ⟨_, rfl, .inl ⟨rfl, _, SqL.of L.l⟩, ⟨v, rfl, fun a12 A12 x12 _ e12 => ⟨a12, C12, v, rfl, n12.cls, n12.no, e12, v, rfl, fun b12 B12 y12 _ z12 => ⟨by show 3 ≤ sizeLine; decide, fun t12 ht12 => ?_⟩⟩⟩⟩
    obtain ⟨s12, w12⟩ := et_of (g := 3) x12 y12 z12 ht12 g12
    generalize upd B12 t12 _ = H12 at s12 w12 ⊢
    refine ⟨l, _, _, rfl, rfl, s12 _ _ L.l, by show 12 < sizeLine; decide, ?_⟩
    replace L := L.app s12 w12
    generalize upd H12 l _ = G at L ⊢
    exact ⟨_, rfl, k l _ _ L rfl⟩
theorem ok_placed (F : Fun K "_law_placed" "_law_placed" s_law_placed f fd) (T : TxtE K mg) (V : VAll P w K mg base) : FnOk P w K mg base CX0 3 f fd ["value"] (spNamed K) := by
  refine F.ok sc_law_placed (fun vs H Q E h => ?_) (fun cdv A outer s H vs Q E hr h => ?_)
  · obtain ⟨v, rfl, _⟩ := h
    rfl
  · obtain ⟨C0, n0, g0⟩ := V.v_InvalidWord
    obtain ⟨C1, n1, g1⟩ := V.v_InvalidSample
    obtain ⟨C2, n2, g2⟩ := V.v_InvalidMachine
    obtain ⟨C3, n3, g3⟩ := V.v_InvalidPoints
    obtain ⟨C4, n4, g4⟩ := V.v_NotComplete
    obtain ⟨C5, n5, g5⟩ := V.v_NotReduced
    obtain ⟨C6, n6, g6⟩ := V.v_NotApart
    obtain ⟨C7, n7, g7⟩ := V.v_InvalidText
    obtain ⟨C8, n8, g8⟩ := V.v_InvalidCommand
    obtain ⟨C9, n9, g9⟩ := V.v_UnknownWord
    obtain ⟨C10, n10, g10⟩ := V.v_DuplicateWord
    obtain ⟨C11, n11, g11⟩ := V.v_OutOfRange
    obtain ⟨C12, n12, g12⟩ := V.v_TooLarge
    refine ⟨_, (pss_cons (ps_set (i := 1) sc_law_placed.nd rfl (Or.inl rfl) (pe_lst (pa_cons (pe_tup (pa_cons (pe_vf (pe_vpos n0 (hr.mono (by decide)) (pv 0))) (pa_cons (pe_vpos n0 (hr.mono (by decide)) (pv 0)) (pa_cons (pe_int) pa_nil)))) pa_nil)))
  (pss_cons (ps_expr (pe_bm PySem.F.plainAttrs_list PySem.F.slot_list_append PySem.F.type_list_append mt_append (pv 1) (pa_cons (pe_tup (pa_cons (pe_vf (pe_vpos n1 (hr.mono (by decide)) (pv 0))) (pa_cons (pe_vpos n1 (hr.mono (by decide)) (pv 0)) (pa_cons (pe_int) pa_nil)))) pa_nil)))
  (pss_cons (ps_expr (pe_bm PySem.F.plainAttrs_list PySem.F.slot_list_append PySem.F.type_list_append mt_append (pv 1) (pa_cons (pe_tup (pa_cons (pe_vf (pe_vpos n2 (hr.mono (by decide)) (pv 0))) (pa_cons (pe_vpos n2 (hr.mono (by decide)) (pv 0)) (pa_cons (pe_int) pa_nil)))) pa_nil)))
  (pss_cons (ps_expr (pe_bm PySem.F.plainAttrs_list PySem.F.slot_list_append PySem.F.type_list_append mt_append (pv 1) (pa_cons (pe_tup (pa_cons (pe_vf (pe_vpos n3 (hr.mono (by decide)) (pv 0))) (pa_cons (pe_vpos n3 (hr.mono (by decide)) (pv 0)) (pa_cons (pe_int) pa_nil)))) pa_nil)))
  (pss_cons (ps_expr (pe_bm PySem.F.plainAttrs_list PySem.F.slot_list_append PySem.F.type_list_append mt_append (pv 1) (pa_cons (pe_tup (pa_cons (pe_vf (pe_vpos n4 (hr.mono (by decide)) (pv 0))) (pa_cons (pe_vpos n4 (hr.mono (by decide)) (pv 0)) (pa_cons (pe_int) pa_nil)))) pa_nil)))
  (pss_cons (ps_expr (pe_bm PySem.F.plainAttrs_list PySem.F.slot_list_append PySem.F.type_list_append mt_append (pv 1) (pa_cons (pe_tup (pa_cons (pe_vf (pe_vpos n5 (hr.mono (by decide)) (pv 0))) (pa_cons (pe_vpos n5 (hr.mono (by decide)) (pv 0)) (pa_cons (pe_int) pa_nil)))) pa_nil)))
  (pss_cons (ps_expr (pe_bm PySem.F.plainAttrs_list PySem.F.slot_list_append PySem.F.type_list_append mt_append (pv 1) (pa_cons (pe_tup (pa_cons (pe_vf (pe_vpos n6 (hr.mono (by decide)) (pv 0))) (pa_cons (pe_vpos n6 (hr.mono (by decide)) (pv 0)) (pa_cons (pe_int) pa_nil)))) pa_nil)))
  (pss_cons (ps_expr (pe_bm PySem.F.plainAttrs_list PySem.F.slot_list_append PySem.F.type_list_append mt_append (pv 1) (pa_cons (pe_tup (pa_cons (pe_vf (pe_vpos n7 (hr.mono (by decide)) (pv 0))) (pa_cons (pe_vpos n7 (hr.mono (by decide)) (pv 0)) (pa_cons (pe_int) pa_nil)))) pa_nil)))
  (pss_cons (ps_expr (pe_bm PySem.F.plainAttrs_list PySem.F.slot_list_append PySem.F.type_list_append mt_append (pv 1) (pa_cons (pe_tup (pa_cons (pe_vf (pe_vpos n8 (hr.mono (by decide)) (pv 0))) (pa_cons (pe_vpos n8 (hr.mono (by decide)) (pv 0)) (pa_cons (pe_int) pa_nil)))) pa_nil)))
  (pss_cons (ps_expr (pe_bm PySem.F.plainAttrs_list PySem.F.slot_list_append PySem.F.type_list_append mt_append (pv 1) (pa_cons (pe_tup (pa_cons (pe_vf (pe_vpos n9 (hr.mono (by decide)) (pv 0))) (pa_cons (pe_vpos n9 (hr.mono (by decide)) (pv 0)) (pa_cons (pe_int) pa_nil)))) pa_nil)))
  (pss_cons (ps_expr (pe_bm PySem.F.plainAttrs_list PySem.F.slot_list_append PySem.F.type_list_append mt_append (pv 1) (pa_cons (pe_tup (pa_cons (pe_vf (pe_vpos n10 (hr.mono (by decide)) (pv 0))) (pa_cons (pe_vpos n10 (hr.mono (by decide)) (pv 0)) (pa_cons (pe_int) pa_nil)))) pa_nil)))
  (pss_cons (ps_expr (pe_bm PySem.F.plainAttrs_list PySem.F.slot_list_append PySem.F.type_list_append mt_append (pv 1) (pa_cons (pe_tup (pa_cons (pe_vf (pe_vpos n11 (hr.mono (by decide)) (pv 0))) (pa_cons (pe_vpos n11 (hr.mono (by decide)) (pv 0)) (pa_cons (pe_int) pa_nil)))) pa_nil)))
  (pss_cons (ps_expr (pe_bm PySem.F.plainAttrs_list PySem.F.slot_list_append PySem.F.type_list_append mt_append (pv 1) (pa_cons (pe_tup (pa_cons (pe_vf (pe_vpos n12 (hr.mono (by decide)) (pv 0))) (pa_cons (pe_vpos n12 (hr.mono (by decide)) (pv 0)) (pa_cons (pe_int) pa_nil)))) pa_nil)))
  (pss_one (ps_ret (pv 1)))))))))))))))), ?_⟩
    obtain ⟨v, rfl, k⟩ := h
    refine ⟨v, rfl, fun a0 A0 x0 _ e0 => ⟨a0, C0, v, rfl, n0.cls, n0.no, e0, v, rfl, fun b0 B0 y0 _ z0 => ⟨by show 3 ≤ sizeLine; decide, fun t0 ht0 => ?_⟩⟩⟩
    obtain ⟨s0, w0⟩ := et_of (g := 0) x0 y0 z0 ht0 g0
    generalize upd B0 t0 _ = H0 at s0 w0 ⊢
    refine ⟨by show 1 ≤ sizeLine; decide, fun l hl => ?_⟩
    have L := Ls.one (v := v) s0 hl w0
    generalize upd H0 l _ = G at L ⊢
    refine ⟨_, rfl, .inl ⟨rfl, _, SqL.of L.l⟩, ⟨v, rfl, fun a1 A1 x1 _ e1 => ⟨a1, C1, v, rfl, n1.cls, n1.no, e1, v, rfl, fun b1 B1 y1 _ z1 => ⟨by show 3 ≤ sizeLine; decide, fun t1 ht1 => ?_⟩⟩⟩⟩
    obtain ⟨s1, w1⟩ := et_of (g := 0) x1 y1 z1 ht1 g1
    generalize upd B1 t1 _ = H1 at s1 w1 ⊢
    refine ⟨l, _, _, rfl, rfl, s1 _ _ L.l, by show 1 < sizeLine; decide, ?_⟩
    replace L := L.app s1 w1
    generalize upd H1 l _ = G at L ⊢
    refine ⟨_, rfl, .inl ⟨rfl, _, SqL.of L.l⟩, ⟨v, rfl, fun a2 A2 x2 _ e2 => ⟨a2, C2, v, rfl, n2.cls, n2.no, e2, v, rfl, fun b2 B2 y2 _ z2 => ⟨by show 3 ≤ sizeLine; decide, fun t2 ht2 => ?_⟩⟩⟩⟩
    obtain ⟨s2, w2⟩ := et_of (g := 0) x2 y2 z2 ht2 g2
    generalize upd B2 t2 _ = H2 at s2 w2 ⊢
    refine ⟨l, _, _, rfl, rfl, s2 _ _ L.l, by show 2 < sizeLine; decide, ?_⟩
    replace L := L.app s2 w2
    generalize upd H2 l _ = G at L ⊢
    refine ⟨_, rfl, .inl ⟨rfl, _, SqL.of L.l⟩, ⟨v, rfl, fun a3 A3 x3 _ e3 => ⟨a3, C3, v, rfl, n3.cls, n3.no, e3, v, rfl, fun b3 B3 y3 _ z3 => ⟨by show 3 ≤ sizeLine; decide, fun t3 ht3 => ?_⟩⟩⟩⟩
    obtain ⟨s3, w3⟩ := et_of (g := 0) x3 y3 z3 ht3 g3
    generalize upd B3 t3 _ = H3 at s3 w3 ⊢
    refine ⟨l, _, _, rfl, rfl, s3 _ _ L.l, by show 3 < sizeLine; decide, ?_⟩
    replace L := L.app s3 w3
    generalize upd H3 l _ = G at L ⊢
    refine ⟨_, rfl, .inl ⟨rfl, _, SqL.of L.l⟩, ⟨v, rfl, fun a4 A4 x4 _ e4 => ⟨a4, C4, v, rfl, n4.cls, n4.no, e4, v, rfl, fun b4 B4 y4 _ z4 => ⟨by show 3 ≤ sizeLine; decide, fun t4 ht4 => ?_⟩⟩⟩⟩
    obtain ⟨s4, w4⟩ := et_of (g := 0) x4 y4 z4 ht4 g4
    generalize upd B4 t4 _ = H4 at s4 w4 ⊢
    refine ⟨l, _, _, rfl, rfl, s4 _ _ L.l, by show 4 < sizeLine; decide, ?_⟩
    replace L := L.app s4 w4
    generalize upd H4 l _ = G at L ⊢
    refine ⟨_, rfl, .inl ⟨rfl, _, SqL.of L.l⟩, ⟨v, rfl, fun a5 A5 x5 _ e5 => ⟨a5, C5, v, rfl, n5.cls, n5.no, e5, v, rfl, fun b5 B5 y5 _ z5 => ⟨by show 3 ≤ sizeLine; decide, fun t5 ht5 => ?_⟩⟩⟩⟩
    obtain ⟨s5, w5⟩ := et_of (g := 0) x5 y5 z5 ht5 g5
    generalize upd B5 t5 _ = H5 at s5 w5 ⊢
    refine ⟨l, _, _, rfl, rfl, s5 _ _ L.l, by show 5 < sizeLine; decide, ?_⟩
    replace L := L.app s5 w5
    generalize upd H5 l _ = G at L ⊢
    refine ⟨_, rfl, .inl ⟨rfl, _, SqL.of L.l⟩, ⟨v, rfl, fun a6 A6 x6 _ e6 => ⟨a6, C6, v, rfl, n6.cls, n6.no, e6, v, rfl, fun b6 B6 y6 _ z6 => ⟨by show 3 ≤ sizeLine; decide, fun t6 ht6 => ?_⟩⟩⟩⟩
    obtain ⟨s6, w6⟩ := et_of (g := 0) x6 y6 z6 ht6 g6
    generalize upd B6 t6 _ = H6 at s6 w6 ⊢
    refine ⟨l, _, _, rfl, rfl, s6 _ _ L.l, by show 6 < sizeLine; decide, ?_⟩
    replace L := L.app s6 w6
    generalize upd H6 l _ = G at L ⊢
    refine ⟨_, rfl, .inl ⟨rfl, _, SqL.of L.l⟩, ⟨v, rfl, fun a7 A7 x7 _ e7 => ⟨a7, C7, v, rfl, n7.cls, n7.no, e7, v, rfl, fun b7 B7 y7 _ z7 => ⟨by show 3 ≤ sizeLine; decide, fun t7 ht7 => ?_⟩⟩⟩⟩
    obtain ⟨s7, w7⟩ := et_of (g := 0) x7 y7 z7 ht7 g7
    generalize upd B7 t7 _ = H7 at s7 w7 ⊢
    refine ⟨l, _, _, rfl, rfl, s7 _ _ L.l, by show 7 < sizeLine; decide, ?_⟩
    replace L := L.app s7 w7
    generalize upd H7 l _ = G at L ⊢
    refine ⟨_, rfl, .inl ⟨rfl, _, SqL.of L.l⟩, ⟨v, rfl, fun a8 A8 x8 _ e8 => ⟨a8, C8, v, rfl, n8.cls, n8.no, e8, v, rfl, fun b8 B8 y8 _ z8 => ⟨by show 3 ≤ sizeLine; decide, fun t8 ht8 => ?_⟩⟩⟩⟩
    obtain ⟨s8, w8⟩ := et_of (g := 0) x8 y8 z8 ht8 g8
    generalize upd B8 t8 _ = H8 at s8 w8 ⊢
    refine ⟨l, _, _, rfl, rfl, s8 _ _ L.l, by show 8 < sizeLine; decide, ?_⟩
    replace L := L.app s8 w8
    generalize upd H8 l _ = G at L ⊢
    refine ⟨_, rfl, .inl ⟨rfl, _, SqL.of L.l⟩, ⟨v, rfl, fun a9 A9 x9 _ e9 => ⟨a9, C9, v, rfl, n9.cls, n9.no, e9, v, rfl, fun b9 B9 y9 _ z9 => ⟨by show 3 ≤ sizeLine; decide, fun t9 ht9 => ?_⟩⟩⟩⟩
    obtain ⟨s9, w9⟩ := et_of (g := 1) x9 y9 z9 ht9 g9
    generalize upd B9 t9 _ = H9 at s9 w9 ⊢
    refine ⟨l, _, _, rfl, rfl, s9 _ _ L.l, by show 9 < sizeLine; decide, ?_⟩
    replace L := L.app s9 w9
    generalize upd H9 l _ = G at L ⊢
    refine ⟨_, rfl, .inl ⟨rfl, _, SqL.of L.l⟩, ⟨v, rfl, fun a10 A10 x10 _ e10 => ⟨a10, C10, v, rfl, n10.cls, n10.no, e10, v, rfl, fun b10 B10 y10 _ z10 => ⟨by show 3 ≤ sizeLine; decide, fun t10 ht10 => ?_⟩⟩⟩⟩
    obtain ⟨s10, w10⟩ := et_of (g := 1) x10 y10 z10 ht10 g10
    generalize upd B10 t10 _ = H10 at s10 w10 ⊢
    refine ⟨l, _, _, rfl, rfl, s10 _ _ L.l, by show 10 < sizeLine; decide, ?_⟩
    replace L := L.app s10 w10
    generalize upd H10 l _ = G at L ⊢
    refine ⟨_, rfl, .inl ⟨rfl, _, SqL.of L.l⟩, ⟨v, rfl, fun a11 A11 x11 _ e11 => ⟨a11, C11, v, rfl, n11.cls, n11.no, e11, v, rfl, fun b11 B11 y11 _ z11 => ⟨by show 3 ≤ sizeLine; decide, fun t11 ht11 => ?_⟩⟩⟩⟩
    obtain ⟨s11, w11⟩ := et_of (g := 2) x11 y11 z11 ht11 g11
    generalize upd B11 t11 _ = H11 at s11 w11 ⊢
    refine ⟨l, _, _, rfl, rfl, s11 _ _ L.l, by show 11 < sizeLine; decide, ?_⟩
    replace L := L.app s11 w11
    generalize upd H11 l _ = G at L ⊢
    refine ⟨_, rfl, .inl ⟨rfl, _, SqL.of L.l⟩, ⟨v, rfl, fun a12 A12 x12 _ e12 => ⟨a12, C12, v, rfl, n12.cls, n12.no, e12, v, rfl, fun b12 B12 y12 _ z12 => ⟨by show 3 ≤ sizeLine; decide, fun t12 ht12 => ?_⟩⟩⟩⟩
    obtain ⟨s12, w12⟩ := et_of (g := 3) x12 y12 z12 ht12 g12
    generalize upd B12 t12 _ = H12 at s12 w12 ⊢
    refine ⟨l, _, _, rfl, rfl, s12 _ _ L.l, by show 12 < sizeLine; decide, ?_⟩
    replace L := L.app s12 w12
    generalize upd H12 l _ = G at L ⊢
    exact ⟨_, rfl, k l _ _ L rfl⟩
end
end Wf
namespace Wf
open PySem L2
abbrev s_law_odd : Stmt := top 23
abbrev N_law_odd : List Str := ["pen", "some"]
theorem sc_law_odd : FnScope N_law_odd ["pen"] (defScope s_law_odd) := ⟨rfl, rfl, rfl, by decide +kernel, rfl, by decide +kernel, by decide +kernel⟩
/-- what can be shown, and how -/
def Sh (K : PySem.W.Frag) (H : Hp) (v : V) : Prop := ∃ d, Rp K H v d ∧ d.showable = true ∧ d.depth ≤ 60 ∧ d.shown.length ≤ sizeLine
theorem Sh.same {K : PySem.W.Frag} {H H' : Hp} {v : V} (h : Sh K H v) (s : Same H H') : Sh K H' v := let ⟨d, a, b⟩ := h; ⟨d, a.same s, b⟩
theorem sh_w {K : PySem.W.Frag} {H : Hp} {v : V} {d : PyData} (r : Rp K H v d) (h : Shw 1000 d) : Sh K H v := ⟨d, r, h.s, h.dp, h.sz (by decide)⟩
theorem upd_upd {H : Hp} {a : Addr} {o u : HO} : upd (upd H a o) a u = upd H a u := by
  funext b
  by_cases e : b = a
  · rw [e, upd_same, upd_same]
  · rw [upd_ne e, upd_ne e, upd_ne e]
theorem Sh.but {K : PySem.W.Frag} {H H' : Hp} {v : V} {p c : Addr} {n : Nat} (hp : Pen H p c n) (bt : But p H H') (h : Sh K H v) : Sh K H' v := by
  obtain ⟨d, r, z⟩ := h
  refine ⟨d, ?_, z⟩
  cases r with
  | dp r => exact .dp ((bt.stay hp).dp r)
  | @dk a ks e =>
    refine .dk (bt a _ (fun q => ?_) e)
    obtain ⟨ns, sp, mo, e2, _⟩ := hp
    rw [q, e2] at e
    have e3 : penO c sp mo = dkI ks := Option.some.inj e
    cases ks with
    | nil => cases e3
    | cons k ks => 
      have e4 : [((.inr "cells" : Key), V.ref c), (.inr "spot", .int sp), (.inr "more", .int mo)] = ((k.1, V.int k.2) :: ks.map fun p => (p.1, V.int p.2)) := HO.dK.inj e3
      have e5 := (List.cons.inj e4).1
      cases (Prod.mk.inj e5).2
def spOdd (K : PySem.W.Frag) : Sp := fun vs H Q _ => ∃ (p c : Addr) (n : Nat), vs = [.ref p] ∧ Pen H p c n ∧ n < 1000000 ∧ ∀ (v : V) (H' : Hp), Sh K H' v → But p H H' → Pen H' p c (n + 1) → Q v H'
section
variable {P : Program} {w : World} {K : PySem.W.Frag} {mg : Str → Option Value} {base : Heap} {f : Addr} {fd : FuncData}
theorem ok_odd (F : Fun K "_law_odd" "_law_odd" s_law_odd f fd) (T : TxtE K mg) (D_law_pick : Dn P w K mg base 2 "_law_pick" ["pen", "some"] (spPick K)) : FnOk P w K mg base CX0 3 f fd ["pen"] (spOdd K) := by
  refine F.ok sc_law_odd (fun vs H Q E h => ?_) (fun cdv A outer s H vs Q E hr h => ?_)
  · obtain ⟨p, c, n, rfl, _⟩ := h
    rfl
  · refine ⟨_, (pss_cons (ps_set (i := 1) sc_law_odd.nd rfl (Or.inl rfl) (pe_lst (pa_cons (pe_non) (pa_cons (pe_bl) (pa_cons (pe_bl) (pa_cons (pe_int) (pa_cons (pe_int) (pa_cons (pe_un un_neg (pe_int)) (pa_cons (pe_int) (pa_cons (pe_op op_pow (pe_int) (pe_int)) (pa_cons (pe_str) (pa_cons (pe_str) (pa_cons (pe_str) (pa_cons (pe_str) (pa_cons (pe_str) (pa_cons (pe_str) (pa_cons (pe_str) (pa_cons (pe_str) (pa_cons (pe_tup pa_nil) (pa_cons (pe_tup (pa_cons (pe_str) pa_nil)) (pa_cons (pe_lst pa_nil) pa_nil)))))))))))))))))))))
  (pss_one (ps_ret (pe_cl D_law_pick (hr.mono (by decide)) (pa_cons (pv 0) (pa_cons (pe_op op_cat (pv 1) (pe_lst (pa_cons (pe_lst (pa_cons (pe_str) pa_nil)) (pa_cons (pe_dnewK) (pa_cons (pe_disp (pps_cons (pe_str) (pe_int) pps_nil) (by rfl) (by rfl) (fun z => by cases z) (by decide)) (pa_cons (pe_tup (pa_cons (pe_tup pa_nil) pa_nil)) (pa_cons (pe_tup (pa_cons (pe_int) pa_nil)) (pa_cons (pe_lst (pa_cons (pe_int) pa_nil)) (pa_cons (pe_tup (pa_cons (pe_non) pa_nil)) (pa_cons (pe_lst (pa_cons (pe_lst pa_nil) pa_nil)) (pa_cons (pe_tup (pa_cons (pe_bl) (pa_cons (pe_bl) pa_nil))) (pa_cons (pe_tup (pa_cons (pe_tup (pa_cons (pe_int) pa_nil)) pa_nil)) pa_nil)))))))))))) pa_nil)))))), ?_⟩
    obtain ⟨p, c, n, rfl, hp, hn, k⟩ := h
    refine ⟨_, rfl, _, _, rfl, rfl, ⟨by decide, by decide, by decide⟩, by show 0 ≤ sizeLine; decide, fun t1 h_t1 => ?_⟩
    have q1 : Same H (upd H t1 (.tup [])) := sm1 h_t1
    have r1 : Sh K (upd H t1 (.tup [])) (.ref t1) := sh_w (d := .tuple []) (.dp (.tup (SqT.of upd_same) .nil)) ⟨by decide +kernel, by decide +kernel, by decide +kernel, by decide +kernel⟩
    have s := q1
    generalize upd H t1 (.tup []) = A1 at s q1 r1  ⊢
    refine ⟨by show 1 ≤ sizeLine; decide, fun t2 h_t2 => ?_⟩
    have q2 : Same A1 (upd A1 t2 (.tup [.str "a"])) := sm1 h_t2
    have r2 : Sh K (upd A1 t2 (.tup [.str "a"])) (.ref t2) := sh_w (d := .tuple [.str "a"]) (.dp (.tup (SqT.of upd_same) (.cons (.str _) .nil))) ⟨by decide +kernel, by decide +kernel, by decide +kernel, by decide +kernel⟩
    replace r1 := r1.same q2
    replace s := s.trans q2
    generalize upd A1 t2 (.tup [.str "a"]) = A2 at s q2 r1 r2  ⊢
    refine ⟨by show 0 ≤ sizeLine; decide, fun t3 h_t3 => ?_⟩
    have q3 : Same A2 (upd A2 t3 (.lst [])) := sm1 h_t3
    have r3 : Sh K (upd A2 t3 (.lst [])) (.ref t3) := sh_w (d := .list []) (.dp (.lst (SqL.of upd_same) .nil)) ⟨by decide +kernel, by decide +kernel, by decide +kernel, by decide +kernel⟩
    replace r1 := r1.same q3
    replace r2 := r2.same q3
    replace s := s.trans q3
    generalize upd A2 t3 (.lst []) = A3 at s q3 r1 r2 r3  ⊢
    refine ⟨by show 19 ≤ sizeLine; decide, fun l h_l => ?_⟩
    have q4 : Same A3 (upd A3 l (.lst [.non, .bl true, .bl false, .int 0, .int 1, .int (-1), .int 2, .int (10 ^ (60 : Int).toNat), .str "", .str "a", .str "ab", .str "ba", .str "A", .str "a b", .str "zz", .str "abcde", .ref t1, .ref t2, .ref t3])) := sm1 h_l
    have r4 : (upd A3 l (.lst [.non, .bl true, .bl false, .int 0, .int 1, .int (-1), .int 2, .int (10 ^ (60 : Int).toNat), .str "", .str "a", .str "ab", .str "ba", .str "A", .str "a b", .str "zz", .str "abcde", .ref t1, .ref t2, .ref t3])) l = some (.lst [.non, .bl true, .bl false, .int 0, .int 1, .int (-1), .int 2, .int (10 ^ (60 : Int).toNat), .str "", .str "a", .str "ab", .str "ba", .str "A", .str "a b", .str "zz", .str "abcde", .ref t1, .ref t2, .ref t3]) := upd_same
    replace r1 := r1.same q4
    replace r2 := r2.same q4
    replace r3 := r3.same q4
    replace s := s.trans q4
    generalize upd A3 l (.lst [.non, .bl true, .bl false, .int 0, .int 1, .int (-1), .int 2, .int (10 ^ (60 : Int).toNat), .str "", .str "a", .str "ab", .str "ba", .str "A", .str "a b", .str "zz", .str "abcde", .ref t1, .ref t2, .ref t3]) = A4 at s q4 r1 r2 r3 r4  ⊢
    refine ⟨_, rfl, _, rfl, by show 1 ≤ sizeLine; decide, fun u1 h_u1 => ?_⟩
    have q5 : Same A4 (upd A4 u1 (.lst [.str "a"])) := sm1 h_u1
    have r5 : Sh K (upd A4 u1 (.lst [.str "a"])) (.ref u1) := sh_w (d := .list [.str "a"]) (.dp (.lst (SqL.of upd_same) (.cons (.str _) .nil))) ⟨by decide +kernel, by decide +kernel, by decide +kernel, by decide +kernel⟩
    replace r1 := r1.same q5
    replace r2 := r2.same q5
    replace r3 := r3.same q5
    replace r4 := q5 _ _ r4
    replace s := s.trans q5
    generalize upd A4 u1 (.lst [.str "a"]) = A5 at s q5 r1 r2 r3 r4 r5  ⊢
    refine fun u2 h_u2 => ?_
    have q6 : Same A5 (upd A5 u2 (.dK [])) := sm1 h_u2
    have r6 : Sh K (upd A5 u2 (.dK [])) (.ref u2) := ⟨dataI [], .dk (ks := []) upd_same, by decide +kernel, by decide +kernel, by rw [sizeLine_eq]; decide +kernel⟩
    replace r1 := r1.same q6
    replace r2 := r2.same q6
    replace r3 := r3.same q6
    replace r4 := q6 _ _ r4
    replace r5 := r5.same q6
    replace s := s.trans q6
    generalize upd A5 u2 (.dK []) = A6 at s q6 r1 r2 r3 r4 r5 r6  ⊢
    refine fun u3 h_u3 => ⟨upd_same, [(.inr "a", .int 1)], rfl, by decide, ?_⟩
    rw [show upd (upd A6 u3 (.dK [])) u3 (.dK (mergeK [] [(.inr "a", .int 1)])) = upd A6 u3 (dkI [(.inr "a", 1)]) from upd_upd]
    refine ?_
    have q7 : Same A6 (upd A6 u3 (dkI [(.inr "a", 1)])) := sm1 h_u3
    have r7 : Sh K (upd A6 u3 (dkI [(.inr "a", 1)])) (.ref u3) := ⟨dataI [(.inr "a", 1)], .dk (ks := [(.inr "a", 1)]) upd_same, by decide +kernel, by decide +kernel, by rw [sizeLine_eq]; decide +kernel⟩
    replace r1 := r1.same q7
    replace r2 := r2.same q7
    replace r3 := r3.same q7
    replace r4 := q7 _ _ r4
    replace r5 := r5.same q7
    replace r6 := r6.same q7
    replace s := s.trans q7
    generalize upd A6 u3 (dkI [(.inr "a", 1)]) = A7 at s q7 r1 r2 r3 r4 r5 r6 r7  ⊢
    refine ⟨by show 0 ≤ sizeLine; decide, fun w4 h_w4 => ?_⟩
    have q8 : Same A7 (upd A7 w4 (.tup [])) := sm1 h_w4
    have r8 : (upd A7 w4 (.tup [])) w4 = some (.tup []) := upd_same
    replace r1 := r1.same q8
    replace r2 := r2.same q8
    replace r3 := r3.same q8
    replace r4 := q8 _ _ r4
    replace r5 := r5.same q8
    replace r6 := r6.same q8
    replace r7 := r7.same q8
    replace s := s.trans q8
    generalize upd A7 w4 (.tup []) = A8 at s q8 r1 r2 r3 r4 r5 r6 r7 r8  ⊢
    refine ⟨by show 1 ≤ sizeLine; decide, fun u4 h_u4 => ?_⟩
    have q9 : Same A8 (upd A8 u4 (.tup [.ref w4])) := sm1 h_u4
    have r9 : Sh K (upd A8 u4 (.tup [.ref w4])) (.ref u4) := sh_w (d := .tuple [.tuple []]) (.dp (.tup (SqT.of upd_same) (.cons (.tup (SqT.of (sm1 h_u4 _ _ r8)) .nil) .nil))) ⟨by decide +kernel, by decide +kernel, by decide +kernel, by decide +kernel⟩
    replace r1 := r1.same q9
    replace r2 := r2.same q9
    replace r3 := r3.same q9
    replace r4 := q9 _ _ r4
    replace r5 := r5.same q9
    replace r6 := r6.same q9
    replace r7 := r7.same q9
    replace r8 := q9 _ _ r8
    replace s := s.trans q9
    generalize upd A8 u4 (.tup [.ref w4]) = A9 at s q9 r1 r2 r3 r4 r5 r6 r7 r8 r9  ⊢
    refine ⟨by show 1 ≤ sizeLine; decide, fun u5 h_u5 => ?_⟩
    have q10 : Same A9 (upd A9 u5 (.tup [.int 0])) := sm1 h_u5
    have r10 : Sh K (upd A9 u5 (.tup [.int 0])) (.ref u5) := sh_w (d := .tuple [.int 0]) (.dp (.tup (SqT.of upd_same) (.cons (.int _) .nil))) ⟨by decide +kernel, by decide +kernel, by decide +kernel, by decide +kernel⟩
    replace r1 := r1.same q10
    replace r2 := r2.same q10
    replace r3 := r3.same q10
    replace r4 := q10 _ _ r4
    replace r5 := r5.same q10
    replace r6 := r6.same q10
    replace r7 := r7.same q10
    replace r8 := q10 _ _ r8
    replace r9 := r9.same q10
    replace s := s.trans q10
    generalize upd A9 u5 (.tup [.int 0]) = A10 at s q10 r1 r2 r3 r4 r5 r6 r7 r8 r9 r10  ⊢
    refine ⟨by show 1 ≤ sizeLine; decide, fun u6 h_u6 => ?_⟩
    have q11 : Same A10 (upd A10 u6 (.lst [.int 0])) := sm1 h_u6
    have r11 : Sh K (upd A10 u6 (.lst [.int 0])) (.ref u6) := sh_w (d := .list [.int 0]) (.dp (.lst (SqL.of upd_same) (.cons (.int _) .nil))) ⟨by decide +kernel, by decide +kernel, by decide +kernel, by decide +kernel⟩
    replace r1 := r1.same q11
    replace r2 := r2.same q11
    replace r3 := r3.same q11
    replace r4 := q11 _ _ r4
    replace r5 := r5.same q11
    replace r6 := r6.same q11
    replace r7 := r7.same q11
    replace r8 := q11 _ _ r8
    replace r9 := r9.same q11
    replace r10 := r10.same q11
    replace s := s.trans q11
    generalize upd A10 u6 (.lst [.int 0]) = A11 at s q11 r1 r2 r3 r4 r5 r6 r7 r8 r9 r10 r11  ⊢
    refine ⟨by show 1 ≤ sizeLine; decide, fun u7 h_u7 => ?_⟩
    have q12 : Same A11 (upd A11 u7 (.tup [.non])) := sm1 h_u7
    have r12 : Sh K (upd A11 u7 (.tup [.non])) (.ref u7) := sh_w (d := .tuple [.none]) (.dp (.tup (SqT.of upd_same) (.cons .non .nil))) ⟨by decide +kernel, by decide +kernel, by decide +kernel, by decide +kernel⟩
    replace r1 := r1.same q12
    replace r2 := r2.same q12
    replace r3 := r3.same q12
    replace r4 := q12 _ _ r4
    replace r5 := r5.same q12
    replace r6 := r6.same q12
    replace r7 := r7.same q12
    replace r8 := q12 _ _ r8
    replace r9 := r9.same q12
    replace r10 := r10.same q12
    replace r11 := r11.same q12
    replace s := s.trans q12
    generalize upd A11 u7 (.tup [.non]) = A12 at s q12 r1 r2 r3 r4 r5 r6 r7 r8 r9 r10 r11 r12  ⊢
    refine ⟨by show 0 ≤ sizeLine; decide, fun w8 h_w8 => ?_⟩
    have q13 : Same A12 (upd A12 w8 (.lst [])) := sm1 h_w8
    have r13 : (upd A12 w8 (.lst [])) w8 = some (.lst []) := upd_same
    replace r1 := r1.same q13
    replace r2 := r2.same q13
    replace r3 := r3.same q13
    replace r4 := q13 _ _ r4
    replace r5 := r5.same q13
    replace r6 := r6.same q13
    replace r7 := r7.same q13
    replace r8 := q13 _ _ r8
    replace r9 := r9.same q13
    replace r10 := r10.same q13
    replace r11 := r11.same q13
    replace r12 := r12.same q13
    replace s := s.trans q13
    generalize upd A12 w8 (.lst []) = A13 at s q13 r1 r2 r3 r4 r5 r6 r7 r8 r9 r10 r11 r12 r13  ⊢
    refine ⟨by show 1 ≤ sizeLine; decide, fun u8 h_u8 => ?_⟩
    have q14 : Same A13 (upd A13 u8 (.lst [.ref w8])) := sm1 h_u8
    have r14 : Sh K (upd A13 u8 (.lst [.ref w8])) (.ref u8) := sh_w (d := .list [.list []]) (.dp (.lst (SqL.of upd_same) (.cons (.lst (SqL.of (sm1 h_u8 _ _ r13)) .nil) .nil))) ⟨by decide +kernel, by decide +kernel, by decide +kernel, by decide +kernel⟩
    replace r1 := r1.same q14
    replace r2 := r2.same q14
    replace r3 := r3.same q14
    replace r4 := q14 _ _ r4
    replace r5 := r5.same q14
    replace r6 := r6.same q14
    replace r7 := r7.same q14
    replace r8 := q14 _ _ r8
    replace r9 := r9.same q14
    replace r10 := r10.same q14
    replace r11 := r11.same q14
    replace r12 := r12.same q14
    replace r13 := q14 _ _ r13
    replace s := s.trans q14
    generalize upd A13 u8 (.lst [.ref w8]) = A14 at s q14 r1 r2 r3 r4 r5 r6 r7 r8 r9 r10 r11 r12 r13 r14  ⊢
    refine ⟨by show 2 ≤ sizeLine; decide, fun u9 h_u9 => ?_⟩
    have q15 : Same A14 (upd A14 u9 (.tup [.bl true, .bl false])) := sm1 h_u9
    have r15 : Sh K (upd A14 u9 (.tup [.bl true, .bl false])) (.ref u9) := sh_w (d := .tuple [.bool true, .bool false]) (.dp (.tup (SqT.of upd_same) (.cons (.bl _) (.cons (.bl _) .nil)))) ⟨by decide +kernel, by decide +kernel, by decide +kernel, by decide +kernel⟩
    replace r1 := r1.same q15
    replace r2 := r2.same q15
    replace r3 := r3.same q15
    replace r4 := q15 _ _ r4
    replace r5 := r5.same q15
    replace r6 := r6.same q15
    replace r7 := r7.same q15
    replace r8 := q15 _ _ r8
    replace r9 := r9.same q15
    replace r10 := r10.same q15
    replace r11 := r11.same q15
    replace r12 := r12.same q15
    replace r13 := q15 _ _ r13
    replace r14 := r14.same q15
    replace s := s.trans q15
    generalize upd A14 u9 (.tup [.bl true, .bl false]) = A15 at s q15 r1 r2 r3 r4 r5 r6 r7 r8 r9 r10 r11 r12 r13 r14 r15  ⊢
    refine ⟨by show 1 ≤ sizeLine; decide, fun w10 h_w10 => ?_⟩
    have q16 : Same A15 (upd A15 w10 (.tup [.int 0])) := sm1 h_w10
    have r16 : (upd A15 w10 (.tup [.int 0])) w10 = some (.tup [.int 0]) := upd_same
    replace r1 := r1.same q16
    replace r2 := r2.same q16
    replace r3 := r3.same q16
    replace r4 := q16 _ _ r4
    replace r5 := r5.same q16
    replace r6 := r6.same q16
    replace r7 := r7.same q16
    replace r8 := q16 _ _ r8
    replace r9 := r9.same q16
    replace r10 := r10.same q16
    replace r11 := r11.same q16
    replace r12 := r12.same q16
    replace r13 := q16 _ _ r13
    replace r14 := r14.same q16
    replace r15 := r15.same q16
    replace s := s.trans q16
    generalize upd A15 w10 (.tup [.int 0]) = A16 at s q16 r1 r2 r3 r4 r5 r6 r7 r8 r9 r10 r11 r12 r13 r14 r15 r16  ⊢
    refine ⟨by show 1 ≤ sizeLine; decide, fun u10 h_u10 => ?_⟩
    have q17 : Same A16 (upd A16 u10 (.tup [.ref w10])) := sm1 h_u10
    have r17 : Sh K (upd A16 u10 (.tup [.ref w10])) (.ref u10) := sh_w (d := .tuple [.tuple [.int 0]]) (.dp (.tup (SqT.of upd_same) (.cons (.tup (SqT.of (sm1 h_u10 _ _ r16)) (.cons (.int _) .nil)) .nil))) ⟨by decide +kernel, by decide +kernel, by decide +kernel, by decide +kernel⟩
    replace r1 := r1.same q17
    replace r2 := r2.same q17
    replace r3 := r3.same q17
    replace r4 := q17 _ _ r4
    replace r5 := r5.same q17
    replace r6 := r6.same q17
    replace r7 := r7.same q17
    replace r8 := q17 _ _ r8
    replace r9 := r9.same q17
    replace r10 := r10.same q17
    replace r11 := r11.same q17
    replace r12 := r12.same q17
    replace r13 := q17 _ _ r13
    replace r14 := r14.same q17
    replace r15 := r15.same q17
    replace r16 := q17 _ _ r16
    replace s := s.trans q17
    generalize upd A16 u10 (.tup [.ref w10]) = A17 at s q17 r1 r2 r3 r4 r5 r6 r7 r8 r9 r10 r11 r12 r13 r14 r15 r16 r17  ⊢
    refine ⟨by show 10 ≤ sizeLine; decide, fun l2 h_l2 => ?_⟩
    have q18 : Same A17 (upd A17 l2 (.lst [.ref u1, .ref u2, .ref u3, .ref u4, .ref u5, .ref u6, .ref u7, .ref u8, .ref u9, .ref u10])) := sm1 h_l2
    have r18 : (upd A17 l2 (.lst [.ref u1, .ref u2, .ref u3, .ref u4, .ref u5, .ref u6, .ref u7, .ref u8, .ref u9, .ref u10])) l2 = some (.lst [.ref u1, .ref u2, .ref u3, .ref u4, .ref u5, .ref u6, .ref u7, .ref u8, .ref u9, .ref u10]) := upd_same
    replace r1 := r1.same q18
    replace r2 := r2.same q18
    replace r3 := r3.same q18
    replace r4 := q18 _ _ r4
    replace r5 := r5.same q18
    replace r6 := r6.same q18
    replace r7 := r7.same q18
    replace r8 := q18 _ _ r8
    replace r9 := r9.same q18
    replace r10 := r10.same q18
    replace r11 := r11.same q18
    replace r12 := r12.same q18
    replace r13 := q18 _ _ r13
    replace r14 := r14.same q18
    replace r15 := r15.same q18
    replace r16 := q18 _ _ r16
    replace r17 := r17.same q18
    replace s := s.trans q18
    generalize upd A17 l2 (.lst [.ref u1, .ref u2, .ref u3, .ref u4, .ref u5, .ref u6, .ref u7, .ref u8, .ref u9, .ref u10]) = A18 at s q18 r1 r2 r3 r4 r5 r6 r7 r8 r9 r10 r11 r12 r13 r14 r15 r16 r17 r18  ⊢
    refine ⟨l, l2, _, _, rfl, rfl, r4, r18, by show 29 ≤ sizeLine; decide, fun l3 h_l3 => ?_⟩
    have q19 : Same A18 (upd A18 l3 (.lst ([.non, .bl true, .bl false, .int 0, .int 1, .int (-1), .int 2, .int (10 ^ (60 : Int).toNat), .str "", .str "a", .str "ab", .str "ba", .str "A", .str "a b", .str "zz", .str "abcde", .ref t1, .ref t2, .ref t3] ++ [.ref u1, .ref u2, .ref u3, .ref u4, .ref u5, .ref u6, .ref u7, .ref u8, .ref u9, .ref u10]))) := sm1 h_l3
    have r19 : (upd A18 l3 (.lst ([.non, .bl true, .bl false, .int 0, .int 1, .int (-1), .int 2, .int (10 ^ (60 : Int).toNat), .str "", .str "a", .str "ab", .str "ba", .str "A", .str "a b", .str "zz", .str "abcde", .ref t1, .ref t2, .ref t3] ++ [.ref u1, .ref u2, .ref u3, .ref u4, .ref u5, .ref u6, .ref u7, .ref u8, .ref u9, .ref u10]))) l3 = some (.lst ([.non, .bl true, .bl false, .int 0, .int 1, .int (-1), .int 2, .int (10 ^ (60 : Int).toNat), .str "", .str "a", .str "ab", .str "ba", .str "A", .str "a b", .str "zz", .str "abcde", .ref t1, .ref t2, .ref t3] ++ [.ref u1, .ref u2, .ref u3, .ref u4, .ref u5, .ref u6, .ref u7, .ref u8, .ref u9, .ref u10])) := upd_same
    replace r1 := r1.same q19
    replace r2 := r2.same q19
    replace r3 := r3.same q19
    replace r4 := q19 _ _ r4
    replace r5 := r5.same q19
    replace r6 := r6.same q19
    replace r7 := r7.same q19
    replace r8 := q19 _ _ r8
    replace r9 := r9.same q19
    replace r10 := r10.same q19
    replace r11 := r11.same q19
    replace r12 := r12.same q19
    replace r13 := q19 _ _ r13
    replace r14 := r14.same q19
    replace r15 := r15.same q19
    replace r16 := q19 _ _ r16
    replace r17 := r17.same q19
    replace r18 := q19 _ _ r18
    replace s := s.trans q19
    generalize upd A18 l3 (.lst ([.non, .bl true, .bl false, .int 0, .int 1, .int (-1), .int 2, .int (10 ^ (60 : Int).toNat), .str "", .str "a", .str "ab", .str "ba", .str "A", .str "a b", .str "zz", .str "abcde", .ref t1, .ref t2, .ref t3] ++ [.ref u1, .ref u2, .ref u3, .ref u4, .ref u5, .ref u6, .ref u7, .ref u8, .ref u9, .ref u10])) = A19 at s q19 r1 r2 r3 r4 r5 r6 r7 r8 r9 r10 r11 r12 r13 r14 r15 r16 r17 r18 r19  ⊢
    have hp1 := hp.same s
    refine ⟨p, c, n, hp1, hn, .inl ⟨l3, _, rfl, .inl (SqL.of r19), by show 0 < 29; decide, by show 29 < 1000000; decide, fun x H' hx bt hp' => ?_⟩⟩
    refine k x H' (Sh.but hp1 bt ?_) (But.trans (But.of s) bt) hp'
    simp only [List.cons_append, List.nil_append, List.mem_cons, List.not_mem_nil, or_false] at hx
    rcases hx with rfl | rfl | rfl | rfl | rfl | rfl | rfl | rfl | rfl | rfl | rfl | rfl | rfl | rfl | rfl | rfl | rfl | rfl | rfl | rfl | rfl | rfl | rfl | rfl | rfl | rfl | rfl | rfl | rfl
    · exact sh_w (.dp .non) ⟨by decide +kernel, by decide +kernel, by decide +kernel, by decide +kernel⟩
    · exact sh_w (.dp (.bl _)) ⟨by decide +kernel, by decide +kernel, by decide +kernel, by decide +kernel⟩
    · exact sh_w (.dp (.bl _)) ⟨by decide +kernel, by decide +kernel, by decide +kernel, by decide +kernel⟩
    · exact sh_w (.dp (.int _)) ⟨by decide +kernel, by decide +kernel, by decide +kernel, by decide +kernel⟩
    · exact sh_w (.dp (.int _)) ⟨by decide +kernel, by decide +kernel, by decide +kernel, by decide +kernel⟩
    · exact sh_w (.dp (.int _)) ⟨by decide +kernel, by decide +kernel, by decide +kernel, by decide +kernel⟩
    · exact sh_w (.dp (.int _)) ⟨by decide +kernel, by decide +kernel, by decide +kernel, by decide +kernel⟩
    · exact sh_w (.dp (.int _)) ⟨by decide +kernel, by decide +kernel, by decide +kernel, by decide +kernel⟩
    · exact sh_w (.dp (.str _)) ⟨by decide +kernel, by decide +kernel, by decide +kernel, by decide +kernel⟩
    · exact sh_w (.dp (.str _)) ⟨by decide +kernel, by decide +kernel, by decide +kernel, by decide +kernel⟩
    · exact sh_w (.dp (.str _)) ⟨by decide +kernel, by decide +kernel, by decide +kernel, by decide +kernel⟩
    · exact sh_w (.dp (.str _)) ⟨by decide +kernel, by decide +kernel, by decide +kernel, by decide +kernel⟩
    · exact sh_w (.dp (.str _)) ⟨by decide +kernel, by decide +kernel, by decide +kernel, by decide +kernel⟩
    · exact sh_w (.dp (.str _)) ⟨by decide +kernel, by decide +kernel, by decide +kernel, by decide +kernel⟩
    · exact sh_w (.dp (.str _)) ⟨by decide +kernel, by decide +kernel, by decide +kernel, by decide +kernel⟩
    · exact sh_w (.dp (.str _)) ⟨by decide +kernel, by decide +kernel, by decide +kernel, by decide +kernel⟩
    · exact r1
    · exact r2
    · exact r3
    · exact r5
    · exact r6
    · exact r7
    · exact r9
    · exact r10
    · exact r11
    · exact r12
    · exact r14
    · exact r15
    · exact r17
end
end Wf
namespace Wf
open PySem L2
abbrev s_law : Stmt := top 27
abbrev N_law : List Str := ["script", "pen", "bout", "value", "error", "field", "group", "at"]
theorem sc_law : FnScope N_law ["script"] (defScope s_law) := ⟨rfl, rfl, rfl, by decide +kernel, rfl, by decide +kernel, by decide +kernel⟩
theorem dec_int {i j : Int} : decide (V.int i = V.int j) = (i == j) := by
  by_cases h : i = j
  · rw [h, beq_self_eq_true]
    exact decide_eq_true rfl
  · rw [beq_eq_false_iff_ne.mpr h]
    exact decide_eq_false fun z => h (V.int.inj z)
theorem bools_dp {K : PySem.W.Frag} {H : Hp} {bs : List Bool} : DpAll K H (bs.map V.bl) (bs.map PyData.bool) := dpAll_of fun b _ => .bl b
theorem bools_pl (bs : List Bool) : Pl 1 (.list (bs.map PyData.bool)) := pl_list fun d hd => by
  obtain ⟨b, _, rfl⟩ := List.mem_map.mp hd
  exact pl_bool
theorem bools_ne {K : PySem.W.Frag} {H : Hp} {a b : Addr} {bs cs : List Bool} {Q : VK} (h1 : SqL K H a (bs.map V.bl)) (h2 : SqL K H b (cs.map V.bl)) (e : cs = bs) (q : Q (.bl false) H) : rNeD K (.ref a) (.ref b) H Q := by
  subst e
  refine ⟨_, _, .lst h1 bools_dp, .lst h2 bools_dp, (bools_pl _).shaped, (bools_pl _).shaped, ?_⟩
  rw [PySem.SeqAt.eqv_refl _ (bools_pl _).1]
  exact q
def spLaw (K : PySem.W.Frag) : Sp := fun vs H Q _ => ∃ (a : Addr) (ns : List Int), vs = [.ref a] ∧ SqL K H a (ns.map V.int) ∧ ns.length ≤ 63 ∧ ∀ H', Q (.bl true) H'
section
variable {P : Program} {w : World} {K : PySem.W.Frag} {mg : Str → Option Value} {base : Heap}
theorem ok_law {f : Addr} {fd : FuncData} (F : Fun K "law" "law" s_law f fd) (T : TxtE K mg) (VA : VAll P w K mg base) (D_law_pen : Dn P w K mg base 1 "_law_pen" ["script"] (spPen K)) (D_law_odd : Dn P w K mg base 3 "_law_odd" ["pen"] (spOdd K))
    (D_law_named : Dn P w K mg base 3 "_law_named" ["value"] (spNamed K)) (D_law_placed : Dn P w K mg base 3 "_law_placed" ["value"] (spNamed K)) (D_law_groups : Dn P w K mg base 1 "_law_groups" ["error"] (spGroups K)) : FnG P w K mg base CX0 4 f fd ["script"] (spLaw K) := by
  refine FnG.plain F sc_law (fun h => ?_) (fun cdv A outer s H vs Q E hq hr h => ?_)
  · obtain ⟨a, ns, rfl, _⟩ := h
    rfl
  · obtain ⟨M0, m0, w0⟩ := VA.v_InvalidLetters
    obtain ⟨M1, m1, w1⟩ := VA.v_NotFit
    obtain ⟨M2, m2, w2⟩ := VA.v_NotVersion
    obtain ⟨M3, m3, w3, y3⟩ := VA.v_NothingToUndo
    obtain ⟨M4, m4, w4, y4⟩ := VA.v_NothingToRedo
    refine ⟨_, (pss_cons (ps_set (i := 1) sc_law.nd rfl (Or.inl rfl) (pe_cl D_law_pen (hr.mono (by decide)) (pa_cons (pv 0) pa_nil)))
  (pss_cons (ps_for PassesOwn.never rfl (pi_range1 (by rfl) T.z_range (pa_cons (pe_int) pa_nil)) (pg_name (i := 2) sc_law.nd rfl (Or.inl rfl))
   (pss_cons (ps_set (i := 3) sc_law.nd rfl (Or.inl rfl) (pe_cl D_law_odd (hr.mono (by decide)) (pa_cons (pv 1) pa_nil)))
  (pss_cons (ps_for PassesOwn.never rfl (pi_list (pe_op op_cat (pe_cl D_law_named (hr.mono (by decide)) (pa_cons (pv 3) pa_nil)) (pe_cl D_law_placed (hr.mono (by decide)) (pa_cons (pv 3) pa_nil)))) (pg_tup (by rfl) (pgs_cons (pg_name (i := 5) sc_law.nd rfl (Or.inl rfl)) (pgs_cons (pg_name (i := 4) sc_law.nd rfl (Or.inl rfl)) (pgs_cons (pg_name (i := 6) sc_law.nd rfl (Or.inr rfl)) pgs_nil))))
   (pss_one (ps_if (PW.pt (pw_or (pt_cmpR op_ne (pe_callB (cr_reprV hq hr.units) (by rfl) T.z_repr (by decide +kernel) (pa_cons (pv 5) pa_nil)) (pe_callB (cr_reprV hq hr.units) (by rfl) T.z_repr (by decide +kernel) (pa_cons (pv 3) pa_nil)) (nomark _)) (pw_or1 (pt_cmpR (op_neD hr.units) (pe_cl D_law_groups (hr.mono (by decide)) (pa_cons (pv 4) pa_nil)) (pe_lc (own := [("at", 7)]) (g := gName 7) (tt := tYes) (by rfl) sc_law.nd (pi_range1 (by rfl) T.z_range (pa_cons (pe_int) pa_nil)) (blkOk_by (own := [("at", 7)]) (N := N_law) (sc := defScope s_law) (by decide +kernel)) (fun _ _ _ _ _ => (pg_name (i := 7) sc_law.nd rfl (Or.inl rfl))) (fun _ _ _ _ _ => pts_nil) (fun _ _ _ _ _ => (pe_cmpR op_eq (pv 7) (pv 6) (nomark _)))) (nomark _))))) (pss_one (ps_ret (pe_bl))) pss_nil)))
  (pss_cons (ps_for PassesOwn.never rfl (pi_list (pe_lst (pa_cons (pe_v0 m0) (pa_cons (pe_v0 m1) (pa_cons (pe_v0 m2) pa_nil))))) (pg_name (i := 4) sc_law.nd rfl (Or.inl rfl))
   (pss_one (ps_if (pt_cmpR (op_neD hr.units) (pe_cl D_law_groups (hr.mono (by decide)) (pa_cons (pv 4) pa_nil)) (pe_lst (pa_cons (pe_bl) (pa_cons (pe_bl) (pa_cons (pe_bl) (pa_cons (pe_bl) (pa_cons (pe_bl) (pa_cons (pe_bl) pa_nil))))))) (nomark _)) (pss_one (ps_ret (pe_bl))) pss_nil)))
  (pss_one (ps_for PassesOwn.never rfl (pi_list (pe_lst (pa_cons (pe_v0 m3) (pa_cons (pe_v0 m4) pa_nil)))) (pg_name (i := 4) sc_law.nd rfl (Or.inl rfl))
   (pss_one (ps_if (PW.pt (pw_or (pt_cmpR (op_neD hr.units) (pe_cl D_law_groups (hr.mono (by decide)) (pa_cons (pv 4) pa_nil)) (pe_op op_rep (pe_lst (pa_cons (pe_bl) pa_nil)) (pe_int)) (nomark _)) (pw_or1 (pt_not (pt_val (pe_callB call_vi (by rfl) T.z_isinstance (by decide +kernel) (pa_cons (pv 4) (pa_cons (pe_ty (T := "LookupError") T.z_LookupError (by decide +kernel)) pa_nil)))))))) (pss_one (ps_ret (pe_bl))) pss_nil))))))))
  (pss_one (ps_ret (pe_bl))))), ?_⟩
    obtain ⟨a, ns, rfl, hs, hl, k⟩ := h
    -- pen = _law_pen(script)
    refine ⟨_, rfl, a, ns, rfl, hs, hl, fun p c H1 s1 hp0 hp1 => ?_⟩
    refine ⟨4, rfl, by decide, by decide, for_range (n := 4) (fun i σ H' => ∃ v2 v3 v4 v5 v6 v7 : Option V, σ = [some (.ref a), some (.ref p), v2, v3, v4, v5, v6, v7] ∧ Pen H' p c i) ⟨_, _, _, _, _, _, rfl, hp1⟩ ?_ fun σ H' _ => k H'⟩
    rintro i σ H3 hi ⟨v2, v3, v4, v5, v6, v7, rfl, hp3⟩
    -- value = _law_odd(pen)
    refine ⟨_, rfl, p, c, _, rfl, hp3, by omega, fun v H4 sh4 bt4 hp4 => ?_⟩
    -- the errors with a field
    refine ⟨_, rfl, v, rfl, fun l1 ts1 H5 L1 len1 => ?_⟩
    refine ⟨_, rfl, v, rfl, fun l2 ts2 H6 L2 len2 => ?_⟩
    refine ⟨l1, l2, _, _, rfl, rfl, L2.s _ _ L1.l, L2.l, ?_, fun l3 h3 => ?_⟩
    · rw [List.length_map, List.length_map, len1, len2]
      decide
    rw [← List.map_append]
    have s7 : Same H4 (upd H6 l3 (.lst ((ts1 ++ ts2).map V.ref))) := (L1.s.trans L2.s).trans (sm1 h3)
    have e7 : ∀ t ∈ ts1 ++ ts2, Et K (upd H6 l3 (.lst ((ts1 ++ ts2).map V.ref))) v t := fun t ht => by
      rcases List.mem_append.mp ht with ht | ht
      · exact ((L1.e t ht).same L2.s).same (sm1 h3)
      · exact (L2.e t ht).same (sm1 h3)
    have l7 : SqL K (upd H6 l3 (.lst ((ts1 ++ ts2).map V.ref))) l3 ((ts1 ++ ts2).map V.ref) := SqL.of upd_same
    generalize upd H6 l3 (.lst ((ts1 ++ ts2).map V.ref)) = H7 at s7 e7 l7 ⊢
    have hp7 := hp4.same s7
    have sh7 := sh4.same s7
    refine ⟨l3, rfl, ⟨_, l7⟩, for_list (K := K) (a := l3) (xs := (ts1 ++ ts2).map V.ref) (fun j σ H' => ∃ x2 x4 x5 x6 x7 : Option V, σ = [some (.ref a), some (.ref p), x2, some v, x4, x5, x6, x7] ∧ Same H7 H') ⟨_, _, _, _, _, rfl, fun _ _ z => z⟩ ?_ ?_ ?_⟩
    · rintro j σ H' _ ⟨_, _, _, _, _, _, s⟩
      exact s.seq l7
    · rintro j x σ H8 hx ⟨x2, x4, x5, x6, x7, rfl, s8⟩
      rw [List.getElem?_map] at hx
      obtain ⟨t, ht, rfl⟩ := Option.map_eq_some_iff.mp hx
      obtain ⟨e, C, g, et, ve, gr⟩ := (e7 t (List.mem_of_getElem? ht)).same s8
      obtain ⟨d, rp, d1, d2, d3⟩ := sh7.same s8
      refine ⟨t, _, rfl, SqT.of et, rfl, ?_⟩
      refine ⟨_, _, rfl, _, _, rfl, _, _, rfl, rfl, ?_⟩
      refine ⟨_, rfl, v, d, rfl, rp, d1, d2, d3, _, rfl, v, d, rfl, rp, d1, d2, d3, rfl, _, rfl, iteNS rfl ?_⟩
      refine ⟨_, rfl, e, C, _, _, _, _, _, _, rfl, ve, gr, fun l9 H9 s9 n9 e9 => ?_⟩
      refine ⟨6, rfl, by decide, by decide, fun D hD => ?_⟩
      refine lc_range (lo := 0) (n := 6) (fun j H' => Same H9 H' ∧ H' D = some (.lst (((List.range j).map fun m : Nat => ((m : Int) == g)).map V.bl))) ⟨sm1 hD, upd_same⟩ ?_ ?_
      · rintro m H' hm ⟨s, hD'⟩
        refine ⟨rfl, _, rfl, _, rfl, rfl, _, hD', ?_, swr s hD, ?_⟩
        · rw [List.length_map, List.length_map, List.length_range]
          exact Nat.lt_of_lt_of_le hm (by decide)
        · rw [upd_same, List.range_succ, List.map_append, List.map_append]
          rw [show ((0 : Int) + (m : Int)) = (m : Int) from Int.zero_add _, dec_int]
          rfl
      · rintro H10 ⟨s10, hD10⟩
        refine bools_ne (SqL.of (s10 _ _ e9)) (SqL.of hD10) (bs := [(0 : Int) == g, (1 : Int) == g, (2 : Int) == g, (3 : Int) == g, (4 : Int) == g, (5 : Int) == g]) rfl ?_
        exact ⟨_, rfl, iteF ⟨_, _, _, _, _, rfl, (s8.trans s9).trans s10⟩⟩
    rintro σ H8 ⟨x2, x4, x5, x6, x7, rfl, s8⟩
    have hp8 := hp7.same s8
    -- the errors without a field
    refine fun a0 z0 a1 z1 a2 z2 => ⟨by show 3 ≤ sizeLine; decide, fun l hl => ?_⟩
    have q1 := sm1 (o := ExO (.ref M0) a0) z0
    have q2 := sm1 (o := ExO (.ref M1) a1) z1
    have q3 := sm1 (o := ExO (.ref M2) a2) z2
    have q4 := sm1 (o := .lst [.ref a0, .ref a1, .ref a2]) hl
    have g0 : VeA (upd (upd (upd (upd H8 a0 (ExO (.ref M0) a0)) a1 (ExO (.ref M1) a1)) a2 (ExO (.ref M2) a2)) l (.lst [.ref a0, .ref a1, .ref a2])) a0 M0 := .inl (q4 _ _ (q3 _ _ (q2 _ _ upd_same)))
    have g1 : VeA (upd (upd (upd (upd H8 a0 (ExO (.ref M0) a0)) a1 (ExO (.ref M1) a1)) a2 (ExO (.ref M2) a2)) l (.lst [.ref a0, .ref a1, .ref a2])) a1 M1 := .inl (q4 _ _ (q3 _ _ upd_same))
    have g2 : VeA (upd (upd (upd (upd H8 a0 (ExO (.ref M0) a0)) a1 (ExO (.ref M1) a1)) a2 (ExO (.ref M2) a2)) l (.lst [.ref a0, .ref a1, .ref a2])) a2 M2 := .inl (q4 _ _ upd_same)
    have lq : SqL K (upd (upd (upd (upd H8 a0 (ExO (.ref M0) a0)) a1 (ExO (.ref M1) a1)) a2 (ExO (.ref M2) a2)) l (.lst [.ref a0, .ref a1, .ref a2])) l [.ref a0, .ref a1, .ref a2] := SqL.of upd_same
    have s9 := ((q1.trans q2).trans q3).trans q4
    generalize upd (upd (upd (upd H8 a0 (ExO (.ref M0) a0)) a1 (ExO (.ref M1) a1)) a2 (ExO (.ref M2) a2)) l (.lst [.ref a0, .ref a1, .ref a2]) = H9 at g0 g1 g2 lq s9 ⊢
    have hp9 := hp8.same s9
    refine ⟨l, rfl, ⟨_, lq⟩, for_list (K := K) (a := l) (xs := [.ref a0, .ref a1, .ref a2]) (fun j σ H' => ∃ x2 x4 x5 x6 x7 : Option V, σ = [some (.ref a), some (.ref p), x2, some v, x4, x5, x6, x7] ∧ Same H9 H') ⟨_, _, _, _, _, rfl, fun _ _ z => z⟩ ?_ ?_ ?_⟩
    · rintro j σ H' _ ⟨_, _, _, _, _, _, s⟩
      exact s.seq lq
    · rintro j x σ H10 hx ⟨x2, x4, x5, x6, x7, rfl, s10⟩
      have hx : ∃ e C, x = .ref e ∧ VeA H9 e C ∧ Grp K C true false false false false false := by
        have hm := List.mem_of_getElem? hx
        simp only [List.mem_cons, List.not_mem_nil, or_false] at hm
        rcases hm with rfl | rfl | rfl
        · exact ⟨_, _, rfl, g0, w0⟩
        · exact ⟨_, _, rfl, g1, w1⟩
        · exact ⟨_, _, rfl, g2, w2⟩
      obtain ⟨e, C, rfl, ve, gr⟩ := hx
      refine ⟨_, rfl, e, C, _, _, _, _, _, _, rfl, ve.same s10, gr, fun l9 H11 s11 n9 e9 => ?_⟩
      refine ⟨by show 6 ≤ sizeLine; decide, fun l10 hl10 => ?_⟩
      refine bools_ne (SqL.of (sm1 hl10 _ _ e9)) (SqL.of upd_same) (bs := [true, false, false, false, false, false]) (cs := [true, false, false, false, false, false]) rfl ?_
      exact ⟨_, rfl, iteF ⟨_, _, _, _, _, rfl, (s10.trans s11).trans (sm1 hl10)⟩⟩
    rintro σ H10 ⟨x2, x4, x5, x6, x7, rfl, s10⟩
    have hp10 := hp9.same s10
    refine fun a0 z0 a1 z1 => ⟨by show 2 ≤ sizeLine; decide, fun l hl => ?_⟩
    have q1 := sm1 (o := ExO (.ref M3) a0) z0
    have q2 := sm1 (o := ExO (.ref M4) a1) z1
    have q4 := sm1 (o := .lst [.ref a0, .ref a1]) hl
    have g0 : VeA (upd (upd (upd H10 a0 (ExO (.ref M3) a0)) a1 (ExO (.ref M4) a1)) l (.lst [.ref a0, .ref a1])) a0 M3 := .inl (q4 _ _ (q2 _ _ upd_same))
    have g1 : VeA (upd (upd (upd H10 a0 (ExO (.ref M3) a0)) a1 (ExO (.ref M4) a1)) l (.lst [.ref a0, .ref a1])) a1 M4 := .inl (q4 _ _ upd_same)
    have lq : SqL K (upd (upd (upd H10 a0 (ExO (.ref M3) a0)) a1 (ExO (.ref M4) a1)) l (.lst [.ref a0, .ref a1])) l [.ref a0, .ref a1] := SqL.of upd_same
    have s11 := (q1.trans q2).trans q4
    generalize upd (upd (upd H10 a0 (ExO (.ref M3) a0)) a1 (ExO (.ref M4) a1)) l (.lst [.ref a0, .ref a1]) = H11 at g0 g1 lq s11 ⊢
    have hp11 := hp10.same s11
    refine ⟨l, rfl, ⟨_, lq⟩, for_list (K := K) (a := l) (xs := [.ref a0, .ref a1]) (fun j σ H' => ∃ x2 x4 x5 x6 x7 : Option V, σ = [some (.ref a), some (.ref p), x2, some v, x4, x5, x6, x7] ∧ Same H11 H') ⟨_, _, _, _, _, rfl, fun _ _ z => z⟩ ?_ ?_ ?_⟩
    · rintro j σ H' _ ⟨_, _, _, _, _, _, s⟩
      exact s.seq lq
    · rintro j x σ H12 hx ⟨x2, x4, x5, x6, x7, rfl, s12⟩
      have hx : ∃ e C, x = .ref e ∧ VeA H11 e C ∧ Grp K C false false false false false false ∧ PySem.W.kitOne K (.ref C) (.type "LookupError") = some true := by
        have hm := List.mem_of_getElem? hx
        simp only [List.mem_cons, List.not_mem_nil, or_false] at hm
        rcases hm with rfl | rfl
        · exact ⟨_, _, rfl, g0, w3, y3⟩
        · exact ⟨_, _, rfl, g1, w4, y4⟩
      obtain ⟨e, C, rfl, ve, gr, yl⟩ := hx
      refine ⟨_, rfl, e, C, _, _, _, _, _, _, rfl, ve.same s12, gr, fun l9 H13 s13 n9 e9 => ?_⟩
      refine ⟨by show 1 ≤ sizeLine; decide, fun l10 hl10 => ?_⟩
      refine ⟨l10, 6, _, rfl, rfl, upd_same, by decide, by decide, by decide, fun l11 hl11 => ?_⟩
      have s14 := ((s12.trans s13).trans (sm1 (o := .lst [.bl false]) hl10)).trans (sm1 (o := .lst (List.replicate (6 : Int).toNat [V.bl false]).flatten) hl11)
      refine bools_ne (SqL.of (sm1 hl11 _ _ (sm1 hl10 _ _ e9))) (SqL.of upd_same) (bs := [false, false, false, false, false, false]) (cs := [false, false, false, false, false, false]) rfl ?_
      refine ⟨_, rfl, iteF ?_⟩
      refine ⟨_, rfl, e, C, "LookupError", true, rfl, gr.ex, ve.same s14, yl, ?_⟩
      exact ⟨_, rfl, iteF ⟨_, _, _, _, _, rfl, s14⟩⟩
    rintro σ H12 ⟨x2, x4, x5, x6, x7, rfl, s12⟩
    exact ⟨_, _, _, _, _, _, rfl, hp11.same s12⟩
end
end Wf
namespace Wf
open PySem L2
theorem all_mk {l : PySem.W.OpenLaw} {w : World} {K : PySem.W.Frag} {h : Heap} {mg : Str → Option Value} {fa f_law_pen f_law_draw f_law_pick f_law_odd f_law_named f_law_placed f_law_groups f_law C_InvalidWord i_InvalidWord C_InvalidSample i_InvalidSample C_InvalidMachine i_InvalidMachine C_InvalidPoints i_InvalidPoints C_NotComplete i_NotComplete C_NotReduced i_NotReduced C_NotApart i_NotApart C_InvalidText i_InvalidText C_InvalidCommand i_InvalidCommand C_UnknownWord i_UnknownWord C_DuplicateWord i_DuplicateWord C_OutOfRange i_OutOfRange C_TooLarge i_TooLarge C_InvalidLetters C_NotFit C_NotVersion C_NothingToUndo C_NothingToRedo : Addr} (X : K.In h) (G : h.Ns mainGlobals mg) (hfa : mg "law" = some (.ref fa))
    {od_law_pen an_law_pen : Option Addr} {sl_law_pen : Array (Option Value)} {oc_law_pen kV_law_pen dc_law_pen pm_law_pen cd_law_pen ct_law_pen : Value}
    (a_law_pen : PySem.W.nsIn K mainGlobals "_law_pen" = some (some (.ref f_law_pen)))
    (l_law_pen : K.lookup f_law_pen = some ⟨oc_law_pen, od_law_pen, .func (PySem.W.fnOf "_law_pen" "_law_pen" (defArgs s_law_pen) (defBody s_law_pen) (defScope s_law_pen) .none kV_law_pen dc_law_pen pm_law_pen an_law_pen cd_law_pen ct_law_pen), sl_law_pen⟩)
    (c_law_pen : PySem.W.codeIn K cd_law_pen "_law_pen" = true)
    (k_law_pen : PySem.W.keepIn K (.ref f_law_pen) = true)
    {od_law_draw an_law_draw : Option Addr} {sl_law_draw : Array (Option Value)} {oc_law_draw kV_law_draw dc_law_draw pm_law_draw cd_law_draw ct_law_draw : Value}
    (a_law_draw : PySem.W.nsIn K mainGlobals "_law_draw" = some (some (.ref f_law_draw)))
    (l_law_draw : K.lookup f_law_draw = some ⟨oc_law_draw, od_law_draw, .func (PySem.W.fnOf "_law_draw" "_law_draw" (defArgs s_law_draw) (defBody s_law_draw) (defScope s_law_draw) .none kV_law_draw dc_law_draw pm_law_draw an_law_draw cd_law_draw ct_law_draw), sl_law_draw⟩)
    (c_law_draw : PySem.W.codeIn K cd_law_draw "_law_draw" = true)
    (k_law_draw : PySem.W.keepIn K (.ref f_law_draw) = true)
    {od_law_pick an_law_pick : Option Addr} {sl_law_pick : Array (Option Value)} {oc_law_pick kV_law_pick dc_law_pick pm_law_pick cd_law_pick ct_law_pick : Value}
    (a_law_pick : PySem.W.nsIn K mainGlobals "_law_pick" = some (some (.ref f_law_pick)))
    (l_law_pick : K.lookup f_law_pick = some ⟨oc_law_pick, od_law_pick, .func (PySem.W.fnOf "_law_pick" "_law_pick" (defArgs s_law_pick) (defBody s_law_pick) (defScope s_law_pick) .none kV_law_pick dc_law_pick pm_law_pick an_law_pick cd_law_pick ct_law_pick), sl_law_pick⟩)
    (c_law_pick : PySem.W.codeIn K cd_law_pick "_law_pick" = true)
    (k_law_pick : PySem.W.keepIn K (.ref f_law_pick) = true)
    {od_law_odd an_law_odd : Option Addr} {sl_law_odd : Array (Option Value)} {oc_law_odd kV_law_odd dc_law_odd pm_law_odd cd_law_odd ct_law_odd : Value}
    (a_law_odd : PySem.W.nsIn K mainGlobals "_law_odd" = some (some (.ref f_law_odd)))
    (l_law_odd : K.lookup f_law_odd = some ⟨oc_law_odd, od_law_odd, .func (PySem.W.fnOf "_law_odd" "_law_odd" (defArgs s_law_odd) (defBody s_law_odd) (defScope s_law_odd) .none kV_law_odd dc_law_odd pm_law_odd an_law_odd cd_law_odd ct_law_odd), sl_law_odd⟩)
    (c_law_odd : PySem.W.codeIn K cd_law_odd "_law_odd" = true)
    (k_law_odd : PySem.W.keepIn K (.ref f_law_odd) = true)
    {od_law_named an_law_named : Option Addr} {sl_law_named : Array (Option Value)} {oc_law_named kV_law_named dc_law_named pm_law_named cd_law_named ct_law_named : Value}
    (a_law_named : PySem.W.nsIn K mainGlobals "_law_named" = some (some (.ref f_law_named)))
    (l_law_named : K.lookup f_law_named = some ⟨oc_law_named, od_law_named, .func (PySem.W.fnOf "_law_named" "_law_named" (defArgs s_law_named) (defBody s_law_named) (defScope s_law_named) .none kV_law_named dc_law_named pm_law_named an_law_named cd_law_named ct_law_named), sl_law_named⟩)
    (c_law_named : PySem.W.codeIn K cd_law_named "_law_named" = true)
    (k_law_named : PySem.W.keepIn K (.ref f_law_named) = true)
    {od_law_placed an_law_placed : Option Addr} {sl_law_placed : Array (Option Value)} {oc_law_placed kV_law_placed dc_law_placed pm_law_placed cd_law_placed ct_law_placed : Value}
    (a_law_placed : PySem.W.nsIn K mainGlobals "_law_placed" = some (some (.ref f_law_placed)))
    (l_law_placed : K.lookup f_law_placed = some ⟨oc_law_placed, od_law_placed, .func (PySem.W.fnOf "_law_placed" "_law_placed" (defArgs s_law_placed) (defBody s_law_placed) (defScope s_law_placed) .none kV_law_placed dc_law_placed pm_law_placed an_law_placed cd_law_placed ct_law_placed), sl_law_placed⟩)
    (c_law_placed : PySem.W.codeIn K cd_law_placed "_law_placed" = true)
    (k_law_placed : PySem.W.keepIn K (.ref f_law_placed) = true)
    {od_law_groups an_law_groups : Option Addr} {sl_law_groups : Array (Option Value)} {oc_law_groups kV_law_groups dc_law_groups pm_law_groups cd_law_groups ct_law_groups : Value}
    (a_law_groups : PySem.W.nsIn K mainGlobals "_law_groups" = some (some (.ref f_law_groups)))
    (l_law_groups : K.lookup f_law_groups = some ⟨oc_law_groups, od_law_groups, .func (PySem.W.fnOf "_law_groups" "_law_groups" (defArgs s_law_groups) (defBody s_law_groups) (defScope s_law_groups) .none kV_law_groups dc_law_groups pm_law_groups an_law_groups cd_law_groups ct_law_groups), sl_law_groups⟩)
    (c_law_groups : PySem.W.codeIn K cd_law_groups "_law_groups" = true)
    (k_law_groups : PySem.W.keepIn K (.ref f_law_groups) = true)
    {od_law an_law : Option Addr} {sl_law : Array (Option Value)} {oc_law kV_law dc_law pm_law cd_law ct_law : Value}
    (a_law : PySem.W.nsIn K mainGlobals "law" = some (some (.ref f_law)))
    (l_law : K.lookup f_law = some ⟨oc_law, od_law, .func (PySem.W.fnOf "law" "law" (defArgs s_law) (defBody s_law) (defScope s_law) .none kV_law dc_law pm_law an_law cd_law ct_law), sl_law⟩)
    (c_law : PySem.W.codeIn K cd_law "law" = true)
    (k_law : PySem.W.keepIn K (.ref f_law) = true)
    {od_InvalidWord an_InvalidWord : Option Addr} {sl_InvalidWord : Array (Option Value)} {oc_InvalidWord kV_InvalidWord dc_InvalidWord pm_InvalidWord cd_InvalidWord ct_InvalidWord : Value}
    (a_InvalidWord : PySem.W.nsIn K mainGlobals "InvalidWord" = some (some (.ref C_InvalidWord)))
    (x_InvalidWord : PySem.W.excInitIn K C_InvalidWord mroV "ValueError.__new__" = true)
    (w_InvalidWord : PySem.W.excOver K C_InvalidWord mroV = true)
    (s_InvalidWord : PySem.W.findIn K (.ref C_InvalidWord) "__setattr__" = some (some (.builtin "object.__setattr__")))
    (q_InvalidWord : PySem.W.keepIn K (.ref C_InvalidWord) = true)
    (hg_InvalidWord : PySem.W.findIn K (.ref C_InvalidWord) "__getattribute__" = some (some (.builtin "BaseException.__getattribute__")))
    (hk_InvalidWord : PySem.W.findIn K (.ref C_InvalidWord) "__getattr__" = some none)
    (hs_InvalidWord : PySem.W.subIn K (.ref C_InvalidWord) (.type "BaseException") = some true)
    (hd_InvalidWord : PySem.W.hasDictIn K C_InvalidWord = true)
    (ha_InvalidWord : PySem.W.findIn K (.ref C_InvalidWord) "__class__" = some (some (.builtin "object.__class__")))
    (hm_InvalidWord : PySem.W.mroIn K C_InvalidWord (.type "object") = some true)
    (g0_InvalidWord : PySem.W.kitOne K (.ref C_InvalidWord) (.type "ValueError") = some true)
    (g1_InvalidWord : PySem.W.kitOne K (.ref C_InvalidWord) (.type "KeyError") = some false)
    (g2_InvalidWord : PySem.W.kitOne K (.ref C_InvalidWord) (.type "IndexError") = some false)
    (g3_InvalidWord : PySem.W.kitOne K (.ref C_InvalidWord) (.type "ArithmeticError") = some false)
    (g4_InvalidWord : PySem.W.kitOne K (.ref C_InvalidWord) (.type "TypeError") = some false)
    (g5_InvalidWord : PySem.W.kitOne K (.ref C_InvalidWord) (.type "RuntimeError") = some false)
    (n_InvalidWord : PySem.W.findIn K (.ref C_InvalidWord) "word" = some none)
    (i_InvalidWord' : PySem.W.findIn K (.ref C_InvalidWord) "__init__" = some (some (.ref i_InvalidWord)))
    (t_InvalidWord : PySem.W.typeIn K (.ref i_InvalidWord) = some (.type "function"))
    (l_InvalidWord : K.lookup i_InvalidWord = some ⟨oc_InvalidWord, od_InvalidWord, .func (PySem.W.fnOf "__init__" "InvalidWord.__init__" (defArgs s_InvalidWord___init) (defBody s_InvalidWord___init) (defScope s_InvalidWord___init) .none kV_InvalidWord dc_InvalidWord pm_InvalidWord an_InvalidWord cd_InvalidWord ct_InvalidWord), sl_InvalidWord⟩)
    (c_InvalidWord : PySem.W.codeIn K cd_InvalidWord "InvalidWord.__init__" = true)
    (k_InvalidWord : PySem.W.keepIn K (.ref i_InvalidWord) = true)
    {od_InvalidSample an_InvalidSample : Option Addr} {sl_InvalidSample : Array (Option Value)} {oc_InvalidSample kV_InvalidSample dc_InvalidSample pm_InvalidSample cd_InvalidSample ct_InvalidSample : Value}
    (a_InvalidSample : PySem.W.nsIn K mainGlobals "InvalidSample" = some (some (.ref C_InvalidSample)))
    (x_InvalidSample : PySem.W.excInitIn K C_InvalidSample mroV "ValueError.__new__" = true)
    (w_InvalidSample : PySem.W.excOver K C_InvalidSample mroV = true)
    (s_InvalidSample : PySem.W.findIn K (.ref C_InvalidSample) "__setattr__" = some (some (.builtin "object.__setattr__")))
    (q_InvalidSample : PySem.W.keepIn K (.ref C_InvalidSample) = true)
    (hg_InvalidSample : PySem.W.findIn K (.ref C_InvalidSample) "__getattribute__" = some (some (.builtin "BaseException.__getattribute__")))
    (hk_InvalidSample : PySem.W.findIn K (.ref C_InvalidSample) "__getattr__" = some none)
    (hs_InvalidSample : PySem.W.subIn K (.ref C_InvalidSample) (.type "BaseException") = some true)
    (hd_InvalidSample : PySem.W.hasDictIn K C_InvalidSample = true)
    (ha_InvalidSample : PySem.W.findIn K (.ref C_InvalidSample) "__class__" = some (some (.builtin "object.__class__")))
    (hm_InvalidSample : PySem.W.mroIn K C_InvalidSample (.type "object") = some true)
    (g0_InvalidSample : PySem.W.kitOne K (.ref C_InvalidSample) (.type "ValueError") = some true)
    (g1_InvalidSample : PySem.W.kitOne K (.ref C_InvalidSample) (.type "KeyError") = some false)
    (g2_InvalidSample : PySem.W.kitOne K (.ref C_InvalidSample) (.type "IndexError") = some false)
    (g3_InvalidSample : PySem.W.kitOne K (.ref C_InvalidSample) (.type "ArithmeticError") = some false)
    (g4_InvalidSample : PySem.W.kitOne K (.ref C_InvalidSample) (.type "TypeError") = some false)
    (g5_InvalidSample : PySem.W.kitOne K (.ref C_InvalidSample) (.type "RuntimeError") = some false)
    (n_InvalidSample : PySem.W.findIn K (.ref C_InvalidSample) "word" = some none)
    (i_InvalidSample' : PySem.W.findIn K (.ref C_InvalidSample) "__init__" = some (some (.ref i_InvalidSample)))
    (t_InvalidSample : PySem.W.typeIn K (.ref i_InvalidSample) = some (.type "function"))
    (l_InvalidSample : K.lookup i_InvalidSample = some ⟨oc_InvalidSample, od_InvalidSample, .func (PySem.W.fnOf "__init__" "InvalidSample.__init__" (defArgs s_InvalidSample___init) (defBody s_InvalidSample___init) (defScope s_InvalidSample___init) .none kV_InvalidSample dc_InvalidSample pm_InvalidSample an_InvalidSample cd_InvalidSample ct_InvalidSample), sl_InvalidSample⟩)
    (c_InvalidSample : PySem.W.codeIn K cd_InvalidSample "InvalidSample.__init__" = true)
    (k_InvalidSample : PySem.W.keepIn K (.ref i_InvalidSample) = true)
    {od_InvalidMachine an_InvalidMachine : Option Addr} {sl_InvalidMachine : Array (Option Value)} {oc_InvalidMachine kV_InvalidMachine dc_InvalidMachine pm_InvalidMachine cd_InvalidMachine ct_InvalidMachine : Value}
    (a_InvalidMachine : PySem.W.nsIn K mainGlobals "InvalidMachine" = some (some (.ref C_InvalidMachine)))
    (x_InvalidMachine : PySem.W.excInitIn K C_InvalidMachine mroV "ValueError.__new__" = true)
    (w_InvalidMachine : PySem.W.excOver K C_InvalidMachine mroV = true)
    (s_InvalidMachine : PySem.W.findIn K (.ref C_InvalidMachine) "__setattr__" = some (some (.builtin "object.__setattr__")))
    (q_InvalidMachine : PySem.W.keepIn K (.ref C_InvalidMachine) = true)
    (hg_InvalidMachine : PySem.W.findIn K (.ref C_InvalidMachine) "__getattribute__" = some (some (.builtin "BaseException.__getattribute__")))
    (hk_InvalidMachine : PySem.W.findIn K (.ref C_InvalidMachine) "__getattr__" = some none)
    (hs_InvalidMachine : PySem.W.subIn K (.ref C_InvalidMachine) (.type "BaseException") = some true)
    (hd_InvalidMachine : PySem.W.hasDictIn K C_InvalidMachine = true)
    (ha_InvalidMachine : PySem.W.findIn K (.ref C_InvalidMachine) "__class__" = some (some (.builtin "object.__class__")))
    (hm_InvalidMachine : PySem.W.mroIn K C_InvalidMachine (.type "object") = some true)
    (g0_InvalidMachine : PySem.W.kitOne K (.ref C_InvalidMachine) (.type "ValueError") = some true)
    (g1_InvalidMachine : PySem.W.kitOne K (.ref C_InvalidMachine) (.type "KeyError") = some false)
    (g2_InvalidMachine : PySem.W.kitOne K (.ref C_InvalidMachine) (.type "IndexError") = some false)
    (g3_InvalidMachine : PySem.W.kitOne K (.ref C_InvalidMachine) (.type "ArithmeticError") = some false)
    (g4_InvalidMachine : PySem.W.kitOne K (.ref C_InvalidMachine) (.type "TypeError") = some false)
    (g5_InvalidMachine : PySem.W.kitOne K (.ref C_InvalidMachine) (.type "RuntimeError") = some false)
    (n_InvalidMachine : PySem.W.findIn K (.ref C_InvalidMachine) "state" = some none)
    (i_InvalidMachine' : PySem.W.findIn K (.ref C_InvalidMachine) "__init__" = some (some (.ref i_InvalidMachine)))
    (t_InvalidMachine : PySem.W.typeIn K (.ref i_InvalidMachine) = some (.type "function"))
    (l_InvalidMachine : K.lookup i_InvalidMachine = some ⟨oc_InvalidMachine, od_InvalidMachine, .func (PySem.W.fnOf "__init__" "InvalidMachine.__init__" (defArgs s_InvalidMachine___init) (defBody s_InvalidMachine___init) (defScope s_InvalidMachine___init) .none kV_InvalidMachine dc_InvalidMachine pm_InvalidMachine an_InvalidMachine cd_InvalidMachine ct_InvalidMachine), sl_InvalidMachine⟩)
    (c_InvalidMachine : PySem.W.codeIn K cd_InvalidMachine "InvalidMachine.__init__" = true)
    (k_InvalidMachine : PySem.W.keepIn K (.ref i_InvalidMachine) = true)
    {od_InvalidPoints an_InvalidPoints : Option Addr} {sl_InvalidPoints : Array (Option Value)} {oc_InvalidPoints kV_InvalidPoints dc_InvalidPoints pm_InvalidPoints cd_InvalidPoints ct_InvalidPoints : Value}
    (a_InvalidPoints : PySem.W.nsIn K mainGlobals "InvalidPoints" = some (some (.ref C_InvalidPoints)))
    (x_InvalidPoints : PySem.W.excInitIn K C_InvalidPoints mroV "ValueError.__new__" = true)
    (w_InvalidPoints : PySem.W.excOver K C_InvalidPoints mroV = true)
    (s_InvalidPoints : PySem.W.findIn K (.ref C_InvalidPoints) "__setattr__" = some (some (.builtin "object.__setattr__")))
    (q_InvalidPoints : PySem.W.keepIn K (.ref C_InvalidPoints) = true)
    (hg_InvalidPoints : PySem.W.findIn K (.ref C_InvalidPoints) "__getattribute__" = some (some (.builtin "BaseException.__getattribute__")))
    (hk_InvalidPoints : PySem.W.findIn K (.ref C_InvalidPoints) "__getattr__" = some none)
    (hs_InvalidPoints : PySem.W.subIn K (.ref C_InvalidPoints) (.type "BaseException") = some true)
    (hd_InvalidPoints : PySem.W.hasDictIn K C_InvalidPoints = true)
    (ha_InvalidPoints : PySem.W.findIn K (.ref C_InvalidPoints) "__class__" = some (some (.builtin "object.__class__")))
    (hm_InvalidPoints : PySem.W.mroIn K C_InvalidPoints (.type "object") = some true)
    (g0_InvalidPoints : PySem.W.kitOne K (.ref C_InvalidPoints) (.type "ValueError") = some true)
    (g1_InvalidPoints : PySem.W.kitOne K (.ref C_InvalidPoints) (.type "KeyError") = some false)
    (g2_InvalidPoints : PySem.W.kitOne K (.ref C_InvalidPoints) (.type "IndexError") = some false)
    (g3_InvalidPoints : PySem.W.kitOne K (.ref C_InvalidPoints) (.type "ArithmeticError") = some false)
    (g4_InvalidPoints : PySem.W.kitOne K (.ref C_InvalidPoints) (.type "TypeError") = some false)
    (g5_InvalidPoints : PySem.W.kitOne K (.ref C_InvalidPoints) (.type "RuntimeError") = some false)
    (n_InvalidPoints : PySem.W.findIn K (.ref C_InvalidPoints) "point" = some none)
    (i_InvalidPoints' : PySem.W.findIn K (.ref C_InvalidPoints) "__init__" = some (some (.ref i_InvalidPoints)))
    (t_InvalidPoints : PySem.W.typeIn K (.ref i_InvalidPoints) = some (.type "function"))
    (l_InvalidPoints : K.lookup i_InvalidPoints = some ⟨oc_InvalidPoints, od_InvalidPoints, .func (PySem.W.fnOf "__init__" "InvalidPoints.__init__" (defArgs s_InvalidPoints___init) (defBody s_InvalidPoints___init) (defScope s_InvalidPoints___init) .none kV_InvalidPoints dc_InvalidPoints pm_InvalidPoints an_InvalidPoints cd_InvalidPoints ct_InvalidPoints), sl_InvalidPoints⟩)
    (c_InvalidPoints : PySem.W.codeIn K cd_InvalidPoints "InvalidPoints.__init__" = true)
    (k_InvalidPoints : PySem.W.keepIn K (.ref i_InvalidPoints) = true)
    {od_NotComplete an_NotComplete : Option Addr} {sl_NotComplete : Array (Option Value)} {oc_NotComplete kV_NotComplete dc_NotComplete pm_NotComplete cd_NotComplete ct_NotComplete : Value}
    (a_NotComplete : PySem.W.nsIn K mainGlobals "NotComplete" = some (some (.ref C_NotComplete)))
    (x_NotComplete : PySem.W.excInitIn K C_NotComplete mroV "ValueError.__new__" = true)
    (w_NotComplete : PySem.W.excOver K C_NotComplete mroV = true)
    (s_NotComplete : PySem.W.findIn K (.ref C_NotComplete) "__setattr__" = some (some (.builtin "object.__setattr__")))
    (q_NotComplete : PySem.W.keepIn K (.ref C_NotComplete) = true)
    (hg_NotComplete : PySem.W.findIn K (.ref C_NotComplete) "__getattribute__" = some (some (.builtin "BaseException.__getattribute__")))
    (hk_NotComplete : PySem.W.findIn K (.ref C_NotComplete) "__getattr__" = some none)
    (hs_NotComplete : PySem.W.subIn K (.ref C_NotComplete) (.type "BaseException") = some true)
    (hd_NotComplete : PySem.W.hasDictIn K C_NotComplete = true)
    (ha_NotComplete : PySem.W.findIn K (.ref C_NotComplete) "__class__" = some (some (.builtin "object.__class__")))
    (hm_NotComplete : PySem.W.mroIn K C_NotComplete (.type "object") = some true)
    (g0_NotComplete : PySem.W.kitOne K (.ref C_NotComplete) (.type "ValueError") = some true)
    (g1_NotComplete : PySem.W.kitOne K (.ref C_NotComplete) (.type "KeyError") = some false)
    (g2_NotComplete : PySem.W.kitOne K (.ref C_NotComplete) (.type "IndexError") = some false)
    (g3_NotComplete : PySem.W.kitOne K (.ref C_NotComplete) (.type "ArithmeticError") = some false)
    (g4_NotComplete : PySem.W.kitOne K (.ref C_NotComplete) (.type "TypeError") = some false)
    (g5_NotComplete : PySem.W.kitOne K (.ref C_NotComplete) (.type "RuntimeError") = some false)
    (n_NotComplete : PySem.W.findIn K (.ref C_NotComplete) "state" = some none)
    (i_NotComplete' : PySem.W.findIn K (.ref C_NotComplete) "__init__" = some (some (.ref i_NotComplete)))
    (t_NotComplete : PySem.W.typeIn K (.ref i_NotComplete) = some (.type "function"))
    (l_NotComplete : K.lookup i_NotComplete = some ⟨oc_NotComplete, od_NotComplete, .func (PySem.W.fnOf "__init__" "NotComplete.__init__" (defArgs s_NotComplete___init) (defBody s_NotComplete___init) (defScope s_NotComplete___init) .none kV_NotComplete dc_NotComplete pm_NotComplete an_NotComplete cd_NotComplete ct_NotComplete), sl_NotComplete⟩)
    (c_NotComplete : PySem.W.codeIn K cd_NotComplete "NotComplete.__init__" = true)
    (k_NotComplete : PySem.W.keepIn K (.ref i_NotComplete) = true)
    {od_NotReduced an_NotReduced : Option Addr} {sl_NotReduced : Array (Option Value)} {oc_NotReduced kV_NotReduced dc_NotReduced pm_NotReduced cd_NotReduced ct_NotReduced : Value}
    (a_NotReduced : PySem.W.nsIn K mainGlobals "NotReduced" = some (some (.ref C_NotReduced)))
    (x_NotReduced : PySem.W.excInitIn K C_NotReduced mroV "ValueError.__new__" = true)
    (w_NotReduced : PySem.W.excOver K C_NotReduced mroV = true)
    (s_NotReduced : PySem.W.findIn K (.ref C_NotReduced) "__setattr__" = some (some (.builtin "object.__setattr__")))
    (q_NotReduced : PySem.W.keepIn K (.ref C_NotReduced) = true)
    (hg_NotReduced : PySem.W.findIn K (.ref C_NotReduced) "__getattribute__" = some (some (.builtin "BaseException.__getattribute__")))
    (hk_NotReduced : PySem.W.findIn K (.ref C_NotReduced) "__getattr__" = some none)
    (hs_NotReduced : PySem.W.subIn K (.ref C_NotReduced) (.type "BaseException") = some true)
    (hd_NotReduced : PySem.W.hasDictIn K C_NotReduced = true)
    (ha_NotReduced : PySem.W.findIn K (.ref C_NotReduced) "__class__" = some (some (.builtin "object.__class__")))
    (hm_NotReduced : PySem.W.mroIn K C_NotReduced (.type "object") = some true)
    (g0_NotReduced : PySem.W.kitOne K (.ref C_NotReduced) (.type "ValueError") = some true)
    (g1_NotReduced : PySem.W.kitOne K (.ref C_NotReduced) (.type "KeyError") = some false)
    (g2_NotReduced : PySem.W.kitOne K (.ref C_NotReduced) (.type "IndexError") = some false)
    (g3_NotReduced : PySem.W.kitOne K (.ref C_NotReduced) (.type "ArithmeticError") = some false)
    (g4_NotReduced : PySem.W.kitOne K (.ref C_NotReduced) (.type "TypeError") = some false)
    (g5_NotReduced : PySem.W.kitOne K (.ref C_NotReduced) (.type "RuntimeError") = some false)
    (n_NotReduced : PySem.W.findIn K (.ref C_NotReduced) "state" = some none)
    (i_NotReduced' : PySem.W.findIn K (.ref C_NotReduced) "__init__" = some (some (.ref i_NotReduced)))
    (t_NotReduced : PySem.W.typeIn K (.ref i_NotReduced) = some (.type "function"))
    (l_NotReduced : K.lookup i_NotReduced = some ⟨oc_NotReduced, od_NotReduced, .func (PySem.W.fnOf "__init__" "NotReduced.__init__" (defArgs s_NotReduced___init) (defBody s_NotReduced___init) (defScope s_NotReduced___init) .none kV_NotReduced dc_NotReduced pm_NotReduced an_NotReduced cd_NotReduced ct_NotReduced), sl_NotReduced⟩)
    (c_NotReduced : PySem.W.codeIn K cd_NotReduced "NotReduced.__init__" = true)
    (k_NotReduced : PySem.W.keepIn K (.ref i_NotReduced) = true)
    {od_NotApart an_NotApart : Option Addr} {sl_NotApart : Array (Option Value)} {oc_NotApart kV_NotApart dc_NotApart pm_NotApart cd_NotApart ct_NotApart : Value}
    (a_NotApart : PySem.W.nsIn K mainGlobals "NotApart" = some (some (.ref C_NotApart)))
    (x_NotApart : PySem.W.excInitIn K C_NotApart mroV "ValueError.__new__" = true)
    (w_NotApart : PySem.W.excOver K C_NotApart mroV = true)
    (s_NotApart : PySem.W.findIn K (.ref C_NotApart) "__setattr__" = some (some (.builtin "object.__setattr__")))
    (q_NotApart : PySem.W.keepIn K (.ref C_NotApart) = true)
    (hg_NotApart : PySem.W.findIn K (.ref C_NotApart) "__getattribute__" = some (some (.builtin "BaseException.__getattribute__")))
    (hk_NotApart : PySem.W.findIn K (.ref C_NotApart) "__getattr__" = some none)
    (hs_NotApart : PySem.W.subIn K (.ref C_NotApart) (.type "BaseException") = some true)
    (hd_NotApart : PySem.W.hasDictIn K C_NotApart = true)
    (ha_NotApart : PySem.W.findIn K (.ref C_NotApart) "__class__" = some (some (.builtin "object.__class__")))
    (hm_NotApart : PySem.W.mroIn K C_NotApart (.type "object") = some true)
    (g0_NotApart : PySem.W.kitOne K (.ref C_NotApart) (.type "ValueError") = some true)
    (g1_NotApart : PySem.W.kitOne K (.ref C_NotApart) (.type "KeyError") = some false)
    (g2_NotApart : PySem.W.kitOne K (.ref C_NotApart) (.type "IndexError") = some false)
    (g3_NotApart : PySem.W.kitOne K (.ref C_NotApart) (.type "ArithmeticError") = some false)
    (g4_NotApart : PySem.W.kitOne K (.ref C_NotApart) (.type "TypeError") = some false)
    (g5_NotApart : PySem.W.kitOne K (.ref C_NotApart) (.type "RuntimeError") = some false)
    (n_NotApart : PySem.W.findIn K (.ref C_NotApart) "word" = some none)
    (i_NotApart' : PySem.W.findIn K (.ref C_NotApart) "__init__" = some (some (.ref i_NotApart)))
    (t_NotApart : PySem.W.typeIn K (.ref i_NotApart) = some (.type "function"))
    (l_NotApart : K.lookup i_NotApart = some ⟨oc_NotApart, od_NotApart, .func (PySem.W.fnOf "__init__" "NotApart.__init__" (defArgs s_NotApart___init) (defBody s_NotApart___init) (defScope s_NotApart___init) .none kV_NotApart dc_NotApart pm_NotApart an_NotApart cd_NotApart ct_NotApart), sl_NotApart⟩)
    (c_NotApart : PySem.W.codeIn K cd_NotApart "NotApart.__init__" = true)
    (k_NotApart : PySem.W.keepIn K (.ref i_NotApart) = true)
    {od_InvalidText an_InvalidText : Option Addr} {sl_InvalidText : Array (Option Value)} {oc_InvalidText kV_InvalidText dc_InvalidText pm_InvalidText cd_InvalidText ct_InvalidText : Value}
    (a_InvalidText : PySem.W.nsIn K mainGlobals "InvalidText" = some (some (.ref C_InvalidText)))
    (x_InvalidText : PySem.W.excInitIn K C_InvalidText mroV "ValueError.__new__" = true)
    (w_InvalidText : PySem.W.excOver K C_InvalidText mroV = true)
    (s_InvalidText : PySem.W.findIn K (.ref C_InvalidText) "__setattr__" = some (some (.builtin "object.__setattr__")))
    (q_InvalidText : PySem.W.keepIn K (.ref C_InvalidText) = true)
    (hg_InvalidText : PySem.W.findIn K (.ref C_InvalidText) "__getattribute__" = some (some (.builtin "BaseException.__getattribute__")))
    (hk_InvalidText : PySem.W.findIn K (.ref C_InvalidText) "__getattr__" = some none)
    (hs_InvalidText : PySem.W.subIn K (.ref C_InvalidText) (.type "BaseException") = some true)
    (hd_InvalidText : PySem.W.hasDictIn K C_InvalidText = true)
    (ha_InvalidText : PySem.W.findIn K (.ref C_InvalidText) "__class__" = some (some (.builtin "object.__class__")))
    (hm_InvalidText : PySem.W.mroIn K C_InvalidText (.type "object") = some true)
    (g0_InvalidText : PySem.W.kitOne K (.ref C_InvalidText) (.type "ValueError") = some true)
    (g1_InvalidText : PySem.W.kitOne K (.ref C_InvalidText) (.type "KeyError") = some false)
    (g2_InvalidText : PySem.W.kitOne K (.ref C_InvalidText) (.type "IndexError") = some false)
    (g3_InvalidText : PySem.W.kitOne K (.ref C_InvalidText) (.type "ArithmeticError") = some false)
    (g4_InvalidText : PySem.W.kitOne K (.ref C_InvalidText) (.type "TypeError") = some false)
    (g5_InvalidText : PySem.W.kitOne K (.ref C_InvalidText) (.type "RuntimeError") = some false)
    (n_InvalidText : PySem.W.findIn K (.ref C_InvalidText) "line" = some none)
    (i_InvalidText' : PySem.W.findIn K (.ref C_InvalidText) "__init__" = some (some (.ref i_InvalidText)))
    (t_InvalidText : PySem.W.typeIn K (.ref i_InvalidText) = some (.type "function"))
    (l_InvalidText : K.lookup i_InvalidText = some ⟨oc_InvalidText, od_InvalidText, .func (PySem.W.fnOf "__init__" "InvalidText.__init__" (defArgs s_InvalidText___init) (defBody s_InvalidText___init) (defScope s_InvalidText___init) .none kV_InvalidText dc_InvalidText pm_InvalidText an_InvalidText cd_InvalidText ct_InvalidText), sl_InvalidText⟩)
    (c_InvalidText : PySem.W.codeIn K cd_InvalidText "InvalidText.__init__" = true)
    (k_InvalidText : PySem.W.keepIn K (.ref i_InvalidText) = true)
    {od_InvalidCommand an_InvalidCommand : Option Addr} {sl_InvalidCommand : Array (Option Value)} {oc_InvalidCommand kV_InvalidCommand dc_InvalidCommand pm_InvalidCommand cd_InvalidCommand ct_InvalidCommand : Value}
    (a_InvalidCommand : PySem.W.nsIn K mainGlobals "InvalidCommand" = some (some (.ref C_InvalidCommand)))
    (x_InvalidCommand : PySem.W.excInitIn K C_InvalidCommand mroV "ValueError.__new__" = true)
    (w_InvalidCommand : PySem.W.excOver K C_InvalidCommand mroV = true)
    (s_InvalidCommand : PySem.W.findIn K (.ref C_InvalidCommand) "__setattr__" = some (some (.builtin "object.__setattr__")))
    (q_InvalidCommand : PySem.W.keepIn K (.ref C_InvalidCommand) = true)
    (hg_InvalidCommand : PySem.W.findIn K (.ref C_InvalidCommand) "__getattribute__" = some (some (.builtin "BaseException.__getattribute__")))
    (hk_InvalidCommand : PySem.W.findIn K (.ref C_InvalidCommand) "__getattr__" = some none)
    (hs_InvalidCommand : PySem.W.subIn K (.ref C_InvalidCommand) (.type "BaseException") = some true)
    (hd_InvalidCommand : PySem.W.hasDictIn K C_InvalidCommand = true)
    (ha_InvalidCommand : PySem.W.findIn K (.ref C_InvalidCommand) "__class__" = some (some (.builtin "object.__class__")))
    (hm_InvalidCommand : PySem.W.mroIn K C_InvalidCommand (.type "object") = some true)
    (g0_InvalidCommand : PySem.W.kitOne K (.ref C_InvalidCommand) (.type "ValueError") = some true)
    (g1_InvalidCommand : PySem.W.kitOne K (.ref C_InvalidCommand) (.type "KeyError") = some false)
    (g2_InvalidCommand : PySem.W.kitOne K (.ref C_InvalidCommand) (.type "IndexError") = some false)
    (g3_InvalidCommand : PySem.W.kitOne K (.ref C_InvalidCommand) (.type "ArithmeticError") = some false)
    (g4_InvalidCommand : PySem.W.kitOne K (.ref C_InvalidCommand) (.type "TypeError") = some false)
    (g5_InvalidCommand : PySem.W.kitOne K (.ref C_InvalidCommand) (.type "RuntimeError") = some false)
    (n_InvalidCommand : PySem.W.findIn K (.ref C_InvalidCommand) "command" = some none)
    (i_InvalidCommand' : PySem.W.findIn K (.ref C_InvalidCommand) "__init__" = some (some (.ref i_InvalidCommand)))
    (t_InvalidCommand : PySem.W.typeIn K (.ref i_InvalidCommand) = some (.type "function"))
    (l_InvalidCommand : K.lookup i_InvalidCommand = some ⟨oc_InvalidCommand, od_InvalidCommand, .func (PySem.W.fnOf "__init__" "InvalidCommand.__init__" (defArgs s_InvalidCommand___init) (defBody s_InvalidCommand___init) (defScope s_InvalidCommand___init) .none kV_InvalidCommand dc_InvalidCommand pm_InvalidCommand an_InvalidCommand cd_InvalidCommand ct_InvalidCommand), sl_InvalidCommand⟩)
    (c_InvalidCommand : PySem.W.codeIn K cd_InvalidCommand "InvalidCommand.__init__" = true)
    (k_InvalidCommand : PySem.W.keepIn K (.ref i_InvalidCommand) = true)
    {od_UnknownWord an_UnknownWord : Option Addr} {sl_UnknownWord : Array (Option Value)} {oc_UnknownWord kV_UnknownWord dc_UnknownWord pm_UnknownWord cd_UnknownWord ct_UnknownWord : Value}
    (a_UnknownWord : PySem.W.nsIn K mainGlobals "UnknownWord" = some (some (.ref C_UnknownWord)))
    (x_UnknownWord : PySem.W.excInitIn K C_UnknownWord mroK "LookupError.__new__" = true)
    (w_UnknownWord : PySem.W.excOver K C_UnknownWord mroK = true)
    (s_UnknownWord : PySem.W.findIn K (.ref C_UnknownWord) "__setattr__" = some (some (.builtin "object.__setattr__")))
    (q_UnknownWord : PySem.W.keepIn K (.ref C_UnknownWord) = true)
    (hg_UnknownWord : PySem.W.findIn K (.ref C_UnknownWord) "__getattribute__" = some (some (.builtin "BaseException.__getattribute__")))
    (hk_UnknownWord : PySem.W.findIn K (.ref C_UnknownWord) "__getattr__" = some none)
    (hs_UnknownWord : PySem.W.subIn K (.ref C_UnknownWord) (.type "BaseException") = some true)
    (hd_UnknownWord : PySem.W.hasDictIn K C_UnknownWord = true)
    (ha_UnknownWord : PySem.W.findIn K (.ref C_UnknownWord) "__class__" = some (some (.builtin "object.__class__")))
    (hm_UnknownWord : PySem.W.mroIn K C_UnknownWord (.type "object") = some true)
    (g0_UnknownWord : PySem.W.kitOne K (.ref C_UnknownWord) (.type "ValueError") = some false)
    (g1_UnknownWord : PySem.W.kitOne K (.ref C_UnknownWord) (.type "KeyError") = some true)
    (g2_UnknownWord : PySem.W.kitOne K (.ref C_UnknownWord) (.type "IndexError") = some false)
    (g3_UnknownWord : PySem.W.kitOne K (.ref C_UnknownWord) (.type "ArithmeticError") = some false)
    (g4_UnknownWord : PySem.W.kitOne K (.ref C_UnknownWord) (.type "TypeError") = some false)
    (g5_UnknownWord : PySem.W.kitOne K (.ref C_UnknownWord) (.type "RuntimeError") = some false)
    (n_UnknownWord : PySem.W.findIn K (.ref C_UnknownWord) "word" = some none)
    (i_UnknownWord' : PySem.W.findIn K (.ref C_UnknownWord) "__init__" = some (some (.ref i_UnknownWord)))
    (t_UnknownWord : PySem.W.typeIn K (.ref i_UnknownWord) = some (.type "function"))
    (l_UnknownWord : K.lookup i_UnknownWord = some ⟨oc_UnknownWord, od_UnknownWord, .func (PySem.W.fnOf "__init__" "UnknownWord.__init__" (defArgs s_UnknownWord___init) (defBody s_UnknownWord___init) (defScope s_UnknownWord___init) .none kV_UnknownWord dc_UnknownWord pm_UnknownWord an_UnknownWord cd_UnknownWord ct_UnknownWord), sl_UnknownWord⟩)
    (c_UnknownWord : PySem.W.codeIn K cd_UnknownWord "UnknownWord.__init__" = true)
    (k_UnknownWord : PySem.W.keepIn K (.ref i_UnknownWord) = true)
    {od_DuplicateWord an_DuplicateWord : Option Addr} {sl_DuplicateWord : Array (Option Value)} {oc_DuplicateWord kV_DuplicateWord dc_DuplicateWord pm_DuplicateWord cd_DuplicateWord ct_DuplicateWord : Value}
    (a_DuplicateWord : PySem.W.nsIn K mainGlobals "DuplicateWord" = some (some (.ref C_DuplicateWord)))
    (x_DuplicateWord : PySem.W.excInitIn K C_DuplicateWord mroK "LookupError.__new__" = true)
    (w_DuplicateWord : PySem.W.excOver K C_DuplicateWord mroK = true)
    (s_DuplicateWord : PySem.W.findIn K (.ref C_DuplicateWord) "__setattr__" = some (some (.builtin "object.__setattr__")))
    (q_DuplicateWord : PySem.W.keepIn K (.ref C_DuplicateWord) = true)
    (hg_DuplicateWord : PySem.W.findIn K (.ref C_DuplicateWord) "__getattribute__" = some (some (.builtin "BaseException.__getattribute__")))
    (hk_DuplicateWord : PySem.W.findIn K (.ref C_DuplicateWord) "__getattr__" = some none)
    (hs_DuplicateWord : PySem.W.subIn K (.ref C_DuplicateWord) (.type "BaseException") = some true)
    (hd_DuplicateWord : PySem.W.hasDictIn K C_DuplicateWord = true)
    (ha_DuplicateWord : PySem.W.findIn K (.ref C_DuplicateWord) "__class__" = some (some (.builtin "object.__class__")))
    (hm_DuplicateWord : PySem.W.mroIn K C_DuplicateWord (.type "object") = some true)
    (g0_DuplicateWord : PySem.W.kitOne K (.ref C_DuplicateWord) (.type "ValueError") = some false)
    (g1_DuplicateWord : PySem.W.kitOne K (.ref C_DuplicateWord) (.type "KeyError") = some true)
    (g2_DuplicateWord : PySem.W.kitOne K (.ref C_DuplicateWord) (.type "IndexError") = some false)
    (g3_DuplicateWord : PySem.W.kitOne K (.ref C_DuplicateWord) (.type "ArithmeticError") = some false)
    (g4_DuplicateWord : PySem.W.kitOne K (.ref C_DuplicateWord) (.type "TypeError") = some false)
    (g5_DuplicateWord : PySem.W.kitOne K (.ref C_DuplicateWord) (.type "RuntimeError") = some false)
    (n_DuplicateWord : PySem.W.findIn K (.ref C_DuplicateWord) "word" = some none)
    (i_DuplicateWord' : PySem.W.findIn K (.ref C_DuplicateWord) "__init__" = some (some (.ref i_DuplicateWord)))
    (t_DuplicateWord : PySem.W.typeIn K (.ref i_DuplicateWord) = some (.type "function"))
    (l_DuplicateWord : K.lookup i_DuplicateWord = some ⟨oc_DuplicateWord, od_DuplicateWord, .func (PySem.W.fnOf "__init__" "DuplicateWord.__init__" (defArgs s_DuplicateWord___init) (defBody s_DuplicateWord___init) (defScope s_DuplicateWord___init) .none kV_DuplicateWord dc_DuplicateWord pm_DuplicateWord an_DuplicateWord cd_DuplicateWord ct_DuplicateWord), sl_DuplicateWord⟩)
    (c_DuplicateWord : PySem.W.codeIn K cd_DuplicateWord "DuplicateWord.__init__" = true)
    (k_DuplicateWord : PySem.W.keepIn K (.ref i_DuplicateWord) = true)
    {od_OutOfRange an_OutOfRange : Option Addr} {sl_OutOfRange : Array (Option Value)} {oc_OutOfRange kV_OutOfRange dc_OutOfRange pm_OutOfRange cd_OutOfRange ct_OutOfRange : Value}
    (a_OutOfRange : PySem.W.nsIn K mainGlobals "OutOfRange" = some (some (.ref C_OutOfRange)))
    (x_OutOfRange : PySem.W.excInitIn K C_OutOfRange mroI "IndexError.__new__" = true)
    (w_OutOfRange : PySem.W.excOver K C_OutOfRange mroI = true)
    (s_OutOfRange : PySem.W.findIn K (.ref C_OutOfRange) "__setattr__" = some (some (.builtin "object.__setattr__")))
    (q_OutOfRange : PySem.W.keepIn K (.ref C_OutOfRange) = true)
    (hg_OutOfRange : PySem.W.findIn K (.ref C_OutOfRange) "__getattribute__" = some (some (.builtin "BaseException.__getattribute__")))
    (hk_OutOfRange : PySem.W.findIn K (.ref C_OutOfRange) "__getattr__" = some none)
    (hs_OutOfRange : PySem.W.subIn K (.ref C_OutOfRange) (.type "BaseException") = some true)
    (hd_OutOfRange : PySem.W.hasDictIn K C_OutOfRange = true)
    (ha_OutOfRange : PySem.W.findIn K (.ref C_OutOfRange) "__class__" = some (some (.builtin "object.__class__")))
    (hm_OutOfRange : PySem.W.mroIn K C_OutOfRange (.type "object") = some true)
    (g0_OutOfRange : PySem.W.kitOne K (.ref C_OutOfRange) (.type "ValueError") = some false)
    (g1_OutOfRange : PySem.W.kitOne K (.ref C_OutOfRange) (.type "KeyError") = some false)
    (g2_OutOfRange : PySem.W.kitOne K (.ref C_OutOfRange) (.type "IndexError") = some true)
    (g3_OutOfRange : PySem.W.kitOne K (.ref C_OutOfRange) (.type "ArithmeticError") = some false)
    (g4_OutOfRange : PySem.W.kitOne K (.ref C_OutOfRange) (.type "TypeError") = some false)
    (g5_OutOfRange : PySem.W.kitOne K (.ref C_OutOfRange) (.type "RuntimeError") = some false)
    (n_OutOfRange : PySem.W.findIn K (.ref C_OutOfRange) "number" = some none)
    (i_OutOfRange' : PySem.W.findIn K (.ref C_OutOfRange) "__init__" = some (some (.ref i_OutOfRange)))
    (t_OutOfRange : PySem.W.typeIn K (.ref i_OutOfRange) = some (.type "function"))
    (l_OutOfRange : K.lookup i_OutOfRange = some ⟨oc_OutOfRange, od_OutOfRange, .func (PySem.W.fnOf "__init__" "OutOfRange.__init__" (defArgs s_OutOfRange___init) (defBody s_OutOfRange___init) (defScope s_OutOfRange___init) .none kV_OutOfRange dc_OutOfRange pm_OutOfRange an_OutOfRange cd_OutOfRange ct_OutOfRange), sl_OutOfRange⟩)
    (c_OutOfRange : PySem.W.codeIn K cd_OutOfRange "OutOfRange.__init__" = true)
    (k_OutOfRange : PySem.W.keepIn K (.ref i_OutOfRange) = true)
    {od_TooLarge an_TooLarge : Option Addr} {sl_TooLarge : Array (Option Value)} {oc_TooLarge kV_TooLarge dc_TooLarge pm_TooLarge cd_TooLarge ct_TooLarge : Value}
    (a_TooLarge : PySem.W.nsIn K mainGlobals "TooLarge" = some (some (.ref C_TooLarge)))
    (x_TooLarge : PySem.W.excInitIn K C_TooLarge mroA "ArithmeticError.__new__" = true)
    (w_TooLarge : PySem.W.excOver K C_TooLarge mroA = true)
    (s_TooLarge : PySem.W.findIn K (.ref C_TooLarge) "__setattr__" = some (some (.builtin "object.__setattr__")))
    (q_TooLarge : PySem.W.keepIn K (.ref C_TooLarge) = true)
    (hg_TooLarge : PySem.W.findIn K (.ref C_TooLarge) "__getattribute__" = some (some (.builtin "BaseException.__getattribute__")))
    (hk_TooLarge : PySem.W.findIn K (.ref C_TooLarge) "__getattr__" = some none)
    (hs_TooLarge : PySem.W.subIn K (.ref C_TooLarge) (.type "BaseException") = some true)
    (hd_TooLarge : PySem.W.hasDictIn K C_TooLarge = true)
    (ha_TooLarge : PySem.W.findIn K (.ref C_TooLarge) "__class__" = some (some (.builtin "object.__class__")))
    (hm_TooLarge : PySem.W.mroIn K C_TooLarge (.type "object") = some true)
    (g0_TooLarge : PySem.W.kitOne K (.ref C_TooLarge) (.type "ValueError") = some false)
    (g1_TooLarge : PySem.W.kitOne K (.ref C_TooLarge) (.type "KeyError") = some false)
    (g2_TooLarge : PySem.W.kitOne K (.ref C_TooLarge) (.type "IndexError") = some false)
    (g3_TooLarge : PySem.W.kitOne K (.ref C_TooLarge) (.type "ArithmeticError") = some true)
    (g4_TooLarge : PySem.W.kitOne K (.ref C_TooLarge) (.type "TypeError") = some false)
    (g5_TooLarge : PySem.W.kitOne K (.ref C_TooLarge) (.type "RuntimeError") = some false)
    (n_TooLarge : PySem.W.findIn K (.ref C_TooLarge) "limit" = some none)
    (i_TooLarge' : PySem.W.findIn K (.ref C_TooLarge) "__init__" = some (some (.ref i_TooLarge)))
    (t_TooLarge : PySem.W.typeIn K (.ref i_TooLarge) = some (.type "function"))
    (l_TooLarge : K.lookup i_TooLarge = some ⟨oc_TooLarge, od_TooLarge, .func (PySem.W.fnOf "__init__" "TooLarge.__init__" (defArgs s_TooLarge___init) (defBody s_TooLarge___init) (defScope s_TooLarge___init) .none kV_TooLarge dc_TooLarge pm_TooLarge an_TooLarge cd_TooLarge ct_TooLarge), sl_TooLarge⟩)
    (c_TooLarge : PySem.W.codeIn K cd_TooLarge "TooLarge.__init__" = true)
    (k_TooLarge : PySem.W.keepIn K (.ref i_TooLarge) = true)
    (a_InvalidLetters : PySem.W.nsIn K mainGlobals "InvalidLetters" = some (some (.ref C_InvalidLetters)))
    (x_InvalidLetters : PySem.W.excIn K C_InvalidLetters mroV "ValueError.__new__" = true)
    (hg_InvalidLetters : PySem.W.findIn K (.ref C_InvalidLetters) "__getattribute__" = some (some (.builtin "BaseException.__getattribute__")))
    (hk_InvalidLetters : PySem.W.findIn K (.ref C_InvalidLetters) "__getattr__" = some none)
    (hs_InvalidLetters : PySem.W.subIn K (.ref C_InvalidLetters) (.type "BaseException") = some true)
    (hd_InvalidLetters : PySem.W.hasDictIn K C_InvalidLetters = true)
    (ha_InvalidLetters : PySem.W.findIn K (.ref C_InvalidLetters) "__class__" = some (some (.builtin "object.__class__")))
    (hm_InvalidLetters : PySem.W.mroIn K C_InvalidLetters (.type "object") = some true)
    (g0_InvalidLetters : PySem.W.kitOne K (.ref C_InvalidLetters) (.type "ValueError") = some true)
    (g1_InvalidLetters : PySem.W.kitOne K (.ref C_InvalidLetters) (.type "KeyError") = some false)
    (g2_InvalidLetters : PySem.W.kitOne K (.ref C_InvalidLetters) (.type "IndexError") = some false)
    (g3_InvalidLetters : PySem.W.kitOne K (.ref C_InvalidLetters) (.type "ArithmeticError") = some false)
    (g4_InvalidLetters : PySem.W.kitOne K (.ref C_InvalidLetters) (.type "TypeError") = some false)
    (g5_InvalidLetters : PySem.W.kitOne K (.ref C_InvalidLetters) (.type "RuntimeError") = some false)
    (k_InvalidLetters : PySem.W.keepIn K (.ref C_InvalidLetters) = true)
    (a_NotFit : PySem.W.nsIn K mainGlobals "NotFit" = some (some (.ref C_NotFit)))
    (x_NotFit : PySem.W.excIn K C_NotFit mroV "ValueError.__new__" = true)
    (hg_NotFit : PySem.W.findIn K (.ref C_NotFit) "__getattribute__" = some (some (.builtin "BaseException.__getattribute__")))
    (hk_NotFit : PySem.W.findIn K (.ref C_NotFit) "__getattr__" = some none)
    (hs_NotFit : PySem.W.subIn K (.ref C_NotFit) (.type "BaseException") = some true)
    (hd_NotFit : PySem.W.hasDictIn K C_NotFit = true)
    (ha_NotFit : PySem.W.findIn K (.ref C_NotFit) "__class__" = some (some (.builtin "object.__class__")))
    (hm_NotFit : PySem.W.mroIn K C_NotFit (.type "object") = some true)
    (g0_NotFit : PySem.W.kitOne K (.ref C_NotFit) (.type "ValueError") = some true)
    (g1_NotFit : PySem.W.kitOne K (.ref C_NotFit) (.type "KeyError") = some false)
    (g2_NotFit : PySem.W.kitOne K (.ref C_NotFit) (.type "IndexError") = some false)
    (g3_NotFit : PySem.W.kitOne K (.ref C_NotFit) (.type "ArithmeticError") = some false)
    (g4_NotFit : PySem.W.kitOne K (.ref C_NotFit) (.type "TypeError") = some false)
    (g5_NotFit : PySem.W.kitOne K (.ref C_NotFit) (.type "RuntimeError") = some false)
    (k_NotFit : PySem.W.keepIn K (.ref C_NotFit) = true)
    (a_NotVersion : PySem.W.nsIn K mainGlobals "NotVersion" = some (some (.ref C_NotVersion)))
    (x_NotVersion : PySem.W.excIn K C_NotVersion mroV "ValueError.__new__" = true)
    (hg_NotVersion : PySem.W.findIn K (.ref C_NotVersion) "__getattribute__" = some (some (.builtin "BaseException.__getattribute__")))
    (hk_NotVersion : PySem.W.findIn K (.ref C_NotVersion) "__getattr__" = some none)
    (hs_NotVersion : PySem.W.subIn K (.ref C_NotVersion) (.type "BaseException") = some true)
    (hd_NotVersion : PySem.W.hasDictIn K C_NotVersion = true)
    (ha_NotVersion : PySem.W.findIn K (.ref C_NotVersion) "__class__" = some (some (.builtin "object.__class__")))
    (hm_NotVersion : PySem.W.mroIn K C_NotVersion (.type "object") = some true)
    (g0_NotVersion : PySem.W.kitOne K (.ref C_NotVersion) (.type "ValueError") = some true)
    (g1_NotVersion : PySem.W.kitOne K (.ref C_NotVersion) (.type "KeyError") = some false)
    (g2_NotVersion : PySem.W.kitOne K (.ref C_NotVersion) (.type "IndexError") = some false)
    (g3_NotVersion : PySem.W.kitOne K (.ref C_NotVersion) (.type "ArithmeticError") = some false)
    (g4_NotVersion : PySem.W.kitOne K (.ref C_NotVersion) (.type "TypeError") = some false)
    (g5_NotVersion : PySem.W.kitOne K (.ref C_NotVersion) (.type "RuntimeError") = some false)
    (k_NotVersion : PySem.W.keepIn K (.ref C_NotVersion) = true)
    (a_NothingToUndo : PySem.W.nsIn K mainGlobals "NothingToUndo" = some (some (.ref C_NothingToUndo)))
    (x_NothingToUndo : PySem.W.excIn K C_NothingToUndo mroL "LookupError.__new__" = true)
    (hg_NothingToUndo : PySem.W.findIn K (.ref C_NothingToUndo) "__getattribute__" = some (some (.builtin "BaseException.__getattribute__")))
    (hk_NothingToUndo : PySem.W.findIn K (.ref C_NothingToUndo) "__getattr__" = some none)
    (hs_NothingToUndo : PySem.W.subIn K (.ref C_NothingToUndo) (.type "BaseException") = some true)
    (hd_NothingToUndo : PySem.W.hasDictIn K C_NothingToUndo = true)
    (ha_NothingToUndo : PySem.W.findIn K (.ref C_NothingToUndo) "__class__" = some (some (.builtin "object.__class__")))
    (hm_NothingToUndo : PySem.W.mroIn K C_NothingToUndo (.type "object") = some true)
    (g0_NothingToUndo : PySem.W.kitOne K (.ref C_NothingToUndo) (.type "ValueError") = some false)
    (g1_NothingToUndo : PySem.W.kitOne K (.ref C_NothingToUndo) (.type "KeyError") = some false)
    (g2_NothingToUndo : PySem.W.kitOne K (.ref C_NothingToUndo) (.type "IndexError") = some false)
    (g3_NothingToUndo : PySem.W.kitOne K (.ref C_NothingToUndo) (.type "ArithmeticError") = some false)
    (g4_NothingToUndo : PySem.W.kitOne K (.ref C_NothingToUndo) (.type "TypeError") = some false)
    (g5_NothingToUndo : PySem.W.kitOne K (.ref C_NothingToUndo) (.type "RuntimeError") = some false)
    (k_NothingToUndo : PySem.W.keepIn K (.ref C_NothingToUndo) = true)
    (y_NothingToUndo : PySem.W.kitOne K (.ref C_NothingToUndo) (.type "LookupError") = some true)
    (a_NothingToRedo : PySem.W.nsIn K mainGlobals "NothingToRedo" = some (some (.ref C_NothingToRedo)))
    (x_NothingToRedo : PySem.W.excIn K C_NothingToRedo mroL "LookupError.__new__" = true)
    (hg_NothingToRedo : PySem.W.findIn K (.ref C_NothingToRedo) "__getattribute__" = some (some (.builtin "BaseException.__getattribute__")))
    (hk_NothingToRedo : PySem.W.findIn K (.ref C_NothingToRedo) "__getattr__" = some none)
    (hs_NothingToRedo : PySem.W.subIn K (.ref C_NothingToRedo) (.type "BaseException") = some true)
    (hd_NothingToRedo : PySem.W.hasDictIn K C_NothingToRedo = true)
    (ha_NothingToRedo : PySem.W.findIn K (.ref C_NothingToRedo) "__class__" = some (some (.builtin "object.__class__")))
    (hm_NothingToRedo : PySem.W.mroIn K C_NothingToRedo (.type "object") = some true)
    (g0_NothingToRedo : PySem.W.kitOne K (.ref C_NothingToRedo) (.type "ValueError") = some false)
    (g1_NothingToRedo : PySem.W.kitOne K (.ref C_NothingToRedo) (.type "KeyError") = some false)
    (g2_NothingToRedo : PySem.W.kitOne K (.ref C_NothingToRedo) (.type "IndexError") = some false)
    (g3_NothingToRedo : PySem.W.kitOne K (.ref C_NothingToRedo) (.type "ArithmeticError") = some false)
    (g4_NothingToRedo : PySem.W.kitOne K (.ref C_NothingToRedo) (.type "TypeError") = some false)
    (g5_NothingToRedo : PySem.W.kitOne K (.ref C_NothingToRedo) (.type "RuntimeError") = some false)
    (k_NothingToRedo : PySem.W.keepIn K (.ref C_NothingToRedo) = true)
    (y_NothingToRedo : PySem.W.kitOne K (.ref C_NothingToRedo) (.type "LookupError") = some true)
    (spec : PySem.W.specialIn K (.builtin "object.__class__") "__get__" = some (some (.builtin "getset_descriptor.__get__")))
    (take : PySem.W.takesIn K (.builtin "object.__class__") = some true)
    (z_list : PySem.W.nsIn K mainGlobals "list" = some none)
    (z_len : PySem.W.nsIn K mainGlobals "len" = some none)
    (z_abs : PySem.W.nsIn K mainGlobals "abs" = some none)
    (z_range : PySem.W.nsIn K mainGlobals "range" = some none)
    (z_sorted : PySem.W.nsIn K mainGlobals "sorted" = some none)
    (z_repr : PySem.W.nsIn K mainGlobals "repr" = some none)
    (z_isinstance : PySem.W.nsIn K mainGlobals "isinstance" = some none)
    (z_ValueError : PySem.W.nsIn K mainGlobals "ValueError" = some none)
    (z_KeyError : PySem.W.nsIn K mainGlobals "KeyError" = some none)
    (z_IndexError : PySem.W.nsIn K mainGlobals "IndexError" = some none)
    (z_ArithmeticError : PySem.W.nsIn K mainGlobals "ArithmeticError" = some none)
    (z_TypeError : PySem.W.nsIn K mainGlobals "TypeError" = some none)
    (z_RuntimeError : PySem.W.nsIn K mainGlobals "RuntimeError" = some none)
    (z_LookupError : PySem.W.nsIn K mainGlobals "LookupError" = some none)
    : ∃ fd : FuncData, (∀ (t : Shared) (v : Value), BindsTo t fd ⟨[v], []⟩ [("script", v)]) ∧ ∀ base : Heap, K.In base → base.Ns mainGlobals mg → FnG l.prog w K mg base CX0 4 fa fd ["script"] (spLaw K) := by
  have e := hfa.symm.trans (PySem.W.mg_of X G a_law)
  cases e
  have Z_list := PySem.W.mg_none_of X G z_list
  have Z_len := PySem.W.mg_none_of X G z_len
  have Z_abs := PySem.W.mg_none_of X G z_abs
  have Z_range := PySem.W.mg_none_of X G z_range
  have Z_sorted := PySem.W.mg_none_of X G z_sorted
  have Z_repr := PySem.W.mg_none_of X G z_repr
  have Z_isinstance := PySem.W.mg_none_of X G z_isinstance
  have Z_ValueError := PySem.W.mg_none_of X G z_ValueError
  have Z_KeyError := PySem.W.mg_none_of X G z_KeyError
  have Z_IndexError := PySem.W.mg_none_of X G z_IndexError
  have Z_ArithmeticError := PySem.W.mg_none_of X G z_ArithmeticError
  have Z_TypeError := PySem.W.mg_none_of X G z_TypeError
  have Z_RuntimeError := PySem.W.mg_none_of X G z_RuntimeError
  have Z_LookupError := PySem.W.mg_none_of X G z_LookupError
  have T := (⟨⟨Z_list, Z_len, Z_abs, Z_range, Z_sorted⟩, Z_repr, Z_isinstance, Z_ValueError, Z_KeyError, Z_IndexError, Z_ArithmeticError, Z_TypeError, Z_RuntimeError, Z_LookupError⟩ : TxtE K mg)
  have F_law_pen := fun_mk (st := s_law_pen) l_law_pen c_law_pen k_law_pen
  have b_law_pen := F_law_pen.binds (ps := ["script"]) fun _ _ _ _ _ _ us hl => match us, hl with | [_], _ => rfl
  have F_law_draw := fun_mk (st := s_law_draw) l_law_draw c_law_draw k_law_draw
  have b_law_draw := F_law_draw.binds (ps := ["pen", "many"]) fun _ _ _ _ _ _ us hl => match us, hl with | [_, _], _ => rfl
  have F_law_pick := fun_mk (st := s_law_pick) l_law_pick c_law_pick k_law_pick
  have b_law_pick := F_law_pick.binds (ps := ["pen", "some"]) fun _ _ _ _ _ _ us hl => match us, hl with | [_, _], _ => rfl
  have F_law_odd := fun_mk (st := s_law_odd) l_law_odd c_law_odd k_law_odd
  have b_law_odd := F_law_odd.binds (ps := ["pen"]) fun _ _ _ _ _ _ us hl => match us, hl with | [_], _ => rfl
  have F_law_named := fun_mk (st := s_law_named) l_law_named c_law_named k_law_named
  have b_law_named := F_law_named.binds (ps := ["value"]) fun _ _ _ _ _ _ us hl => match us, hl with | [_], _ => rfl
  have F_law_placed := fun_mk (st := s_law_placed) l_law_placed c_law_placed k_law_placed
  have b_law_placed := F_law_placed.binds (ps := ["value"]) fun _ _ _ _ _ _ us hl => match us, hl with | [_], _ => rfl
  have F_law_groups := fun_mk (st := s_law_groups) l_law_groups c_law_groups k_law_groups
  have b_law_groups := F_law_groups.binds (ps := ["error"]) fun _ _ _ _ _ _ us hl => match us, hl with | [_], _ => rfl
  have F_law := fun_mk (st := s_law) l_law c_law k_law
  have b_law := F_law.binds (ps := ["script"]) fun _ _ _ _ _ _ us hl => match us, hl with | [_], _ => rfl
  refine ⟨PySem.W.fnOf "law" "law" (defArgs s_law) (defBody s_law) (defScope s_law) .none kV_law dc_law pm_law an_law cd_law ct_law, fun t v => .of_eq rfl, fun base _ _ => ?_⟩
  have V : VAll l.prog w K mg base := {
    v_InvalidWord := ⟨C_InvalidWord, ⟨⟨⟨_, _, vxb_V, x_InvalidWord, w_InvalidWord⟩, s_InvalidWord, q_InvalidWord, ⟨hg_InvalidWord, hk_InvalidWord, hs_InvalidWord, hd_InvalidWord, ha_InvalidWord, spec, take, hm_InvalidWord⟩⟩, PySem.W.mg_of X G a_InvalidWord, n_InvalidWord, _, _, i_InvalidWord', t_InvalidWord, ok_i_InvalidWord (fun_mk (st := s_InvalidWord___init) l_InvalidWord c_InvalidWord k_InvalidWord), fun _ _ _ => .of_eq rfl, fun _ _ _ => .of_eq rfl⟩, ⟨⟨hg_InvalidWord, hk_InvalidWord, hs_InvalidWord, hd_InvalidWord, ha_InvalidWord, spec, take, hm_InvalidWord⟩, g0_InvalidWord, g1_InvalidWord, g2_InvalidWord, g3_InvalidWord, g4_InvalidWord, g5_InvalidWord⟩⟩
    v_InvalidSample := ⟨C_InvalidSample, ⟨⟨⟨_, _, vxb_V, x_InvalidSample, w_InvalidSample⟩, s_InvalidSample, q_InvalidSample, ⟨hg_InvalidSample, hk_InvalidSample, hs_InvalidSample, hd_InvalidSample, ha_InvalidSample, spec, take, hm_InvalidSample⟩⟩, PySem.W.mg_of X G a_InvalidSample, n_InvalidSample, _, _, i_InvalidSample', t_InvalidSample, ok_i_InvalidSample (fun_mk (st := s_InvalidSample___init) l_InvalidSample c_InvalidSample k_InvalidSample), fun _ _ _ => .of_eq rfl, fun _ _ _ => .of_eq rfl⟩, ⟨⟨hg_InvalidSample, hk_InvalidSample, hs_InvalidSample, hd_InvalidSample, ha_InvalidSample, spec, take, hm_InvalidSample⟩, g0_InvalidSample, g1_InvalidSample, g2_InvalidSample, g3_InvalidSample, g4_InvalidSample, g5_InvalidSample⟩⟩
    v_InvalidMachine := ⟨C_InvalidMachine, ⟨⟨⟨_, _, vxb_V, x_InvalidMachine, w_InvalidMachine⟩, s_InvalidMachine, q_InvalidMachine, ⟨hg_InvalidMachine, hk_InvalidMachine, hs_InvalidMachine, hd_InvalidMachine, ha_InvalidMachine, spec, take, hm_InvalidMachine⟩⟩, PySem.W.mg_of X G a_InvalidMachine, n_InvalidMachine, _, _, i_InvalidMachine', t_InvalidMachine, ok_i_InvalidMachine (fun_mk (st := s_InvalidMachine___init) l_InvalidMachine c_InvalidMachine k_InvalidMachine), fun _ _ _ => .of_eq rfl, fun _ _ _ => .of_eq rfl⟩, ⟨⟨hg_InvalidMachine, hk_InvalidMachine, hs_InvalidMachine, hd_InvalidMachine, ha_InvalidMachine, spec, take, hm_InvalidMachine⟩, g0_InvalidMachine, g1_InvalidMachine, g2_InvalidMachine, g3_InvalidMachine, g4_InvalidMachine, g5_InvalidMachine⟩⟩
    v_InvalidPoints := ⟨C_InvalidPoints, ⟨⟨⟨_, _, vxb_V, x_InvalidPoints, w_InvalidPoints⟩, s_InvalidPoints, q_InvalidPoints, ⟨hg_InvalidPoints, hk_InvalidPoints, hs_InvalidPoints, hd_InvalidPoints, ha_InvalidPoints, spec, take, hm_InvalidPoints⟩⟩, PySem.W.mg_of X G a_InvalidPoints, n_InvalidPoints, _, _, i_InvalidPoints', t_InvalidPoints, ok_i_InvalidPoints (fun_mk (st := s_InvalidPoints___init) l_InvalidPoints c_InvalidPoints k_InvalidPoints), fun _ _ _ => .of_eq rfl, fun _ _ _ => .of_eq rfl⟩, ⟨⟨hg_InvalidPoints, hk_InvalidPoints, hs_InvalidPoints, hd_InvalidPoints, ha_InvalidPoints, spec, take, hm_InvalidPoints⟩, g0_InvalidPoints, g1_InvalidPoints, g2_InvalidPoints, g3_InvalidPoints, g4_InvalidPoints, g5_InvalidPoints⟩⟩
    v_NotComplete := ⟨C_NotComplete, ⟨⟨⟨_, _, vxb_V, x_NotComplete, w_NotComplete⟩, s_NotComplete, q_NotComplete, ⟨hg_NotComplete, hk_NotComplete, hs_NotComplete, hd_NotComplete, ha_NotComplete, spec, take, hm_NotComplete⟩⟩, PySem.W.mg_of X G a_NotComplete, n_NotComplete, _, _, i_NotComplete', t_NotComplete, ok_i_NotComplete (fun_mk (st := s_NotComplete___init) l_NotComplete c_NotComplete k_NotComplete), fun _ _ _ => .of_eq rfl, fun _ _ _ => .of_eq rfl⟩, ⟨⟨hg_NotComplete, hk_NotComplete, hs_NotComplete, hd_NotComplete, ha_NotComplete, spec, take, hm_NotComplete⟩, g0_NotComplete, g1_NotComplete, g2_NotComplete, g3_NotComplete, g4_NotComplete, g5_NotComplete⟩⟩
    v_NotReduced := ⟨C_NotReduced, ⟨⟨⟨_, _, vxb_V, x_NotReduced, w_NotReduced⟩, s_NotReduced, q_NotReduced, ⟨hg_NotReduced, hk_NotReduced, hs_NotReduced, hd_NotReduced, ha_NotReduced, spec, take, hm_NotReduced⟩⟩, PySem.W.mg_of X G a_NotReduced, n_NotReduced, _, _, i_NotReduced', t_NotReduced, ok_i_NotReduced (fun_mk (st := s_NotReduced___init) l_NotReduced c_NotReduced k_NotReduced), fun _ _ _ => .of_eq rfl, fun _ _ _ => .of_eq rfl⟩, ⟨⟨hg_NotReduced, hk_NotReduced, hs_NotReduced, hd_NotReduced, ha_NotReduced, spec, take, hm_NotReduced⟩, g0_NotReduced, g1_NotReduced, g2_NotReduced, g3_NotReduced, g4_NotReduced, g5_NotReduced⟩⟩
    v_NotApart := ⟨C_NotApart, ⟨⟨⟨_, _, vxb_V, x_NotApart, w_NotApart⟩, s_NotApart, q_NotApart, ⟨hg_NotApart, hk_NotApart, hs_NotApart, hd_NotApart, ha_NotApart, spec, take, hm_NotApart⟩⟩, PySem.W.mg_of X G a_NotApart, n_NotApart, _, _, i_NotApart', t_NotApart, ok_i_NotApart (fun_mk (st := s_NotApart___init) l_NotApart c_NotApart k_NotApart), fun _ _ _ => .of_eq rfl, fun _ _ _ => .of_eq rfl⟩, ⟨⟨hg_NotApart, hk_NotApart, hs_NotApart, hd_NotApart, ha_NotApart, spec, take, hm_NotApart⟩, g0_NotApart, g1_NotApart, g2_NotApart, g3_NotApart, g4_NotApart, g5_NotApart⟩⟩
    v_InvalidText := ⟨C_InvalidText, ⟨⟨⟨_, _, vxb_V, x_InvalidText, w_InvalidText⟩, s_InvalidText, q_InvalidText, ⟨hg_InvalidText, hk_InvalidText, hs_InvalidText, hd_InvalidText, ha_InvalidText, spec, take, hm_InvalidText⟩⟩, PySem.W.mg_of X G a_InvalidText, n_InvalidText, _, _, i_InvalidText', t_InvalidText, ok_i_InvalidText (fun_mk (st := s_InvalidText___init) l_InvalidText c_InvalidText k_InvalidText), fun _ _ _ => .of_eq rfl, fun _ _ _ => .of_eq rfl⟩, ⟨⟨hg_InvalidText, hk_InvalidText, hs_InvalidText, hd_InvalidText, ha_InvalidText, spec, take, hm_InvalidText⟩, g0_InvalidText, g1_InvalidText, g2_InvalidText, g3_InvalidText, g4_InvalidText, g5_InvalidText⟩⟩
    v_InvalidCommand := ⟨C_InvalidCommand, ⟨⟨⟨_, _, vxb_V, x_InvalidCommand, w_InvalidCommand⟩, s_InvalidCommand, q_InvalidCommand, ⟨hg_InvalidCommand, hk_InvalidCommand, hs_InvalidCommand, hd_InvalidCommand, ha_InvalidCommand, spec, take, hm_InvalidCommand⟩⟩, PySem.W.mg_of X G a_InvalidCommand, n_InvalidCommand, _, _, i_InvalidCommand', t_InvalidCommand, ok_i_InvalidCommand (fun_mk (st := s_InvalidCommand___init) l_InvalidCommand c_InvalidCommand k_InvalidCommand), fun _ _ _ => .of_eq rfl, fun _ _ _ => .of_eq rfl⟩, ⟨⟨hg_InvalidCommand, hk_InvalidCommand, hs_InvalidCommand, hd_InvalidCommand, ha_InvalidCommand, spec, take, hm_InvalidCommand⟩, g0_InvalidCommand, g1_InvalidCommand, g2_InvalidCommand, g3_InvalidCommand, g4_InvalidCommand, g5_InvalidCommand⟩⟩
    v_UnknownWord := ⟨C_UnknownWord, ⟨⟨⟨_, _, vxb_K, x_UnknownWord, w_UnknownWord⟩, s_UnknownWord, q_UnknownWord, ⟨hg_UnknownWord, hk_UnknownWord, hs_UnknownWord, hd_UnknownWord, ha_UnknownWord, spec, take, hm_UnknownWord⟩⟩, PySem.W.mg_of X G a_UnknownWord, n_UnknownWord, _, _, i_UnknownWord', t_UnknownWord, ok_i_UnknownWord (fun_mk (st := s_UnknownWord___init) l_UnknownWord c_UnknownWord k_UnknownWord), fun _ _ _ => .of_eq rfl, fun _ _ _ => .of_eq rfl⟩, ⟨⟨hg_UnknownWord, hk_UnknownWord, hs_UnknownWord, hd_UnknownWord, ha_UnknownWord, spec, take, hm_UnknownWord⟩, g0_UnknownWord, g1_UnknownWord, g2_UnknownWord, g3_UnknownWord, g4_UnknownWord, g5_UnknownWord⟩⟩
    v_DuplicateWord := ⟨C_DuplicateWord, ⟨⟨⟨_, _, vxb_K, x_DuplicateWord, w_DuplicateWord⟩, s_DuplicateWord, q_DuplicateWord, ⟨hg_DuplicateWord, hk_DuplicateWord, hs_DuplicateWord, hd_DuplicateWord, ha_DuplicateWord, spec, take, hm_DuplicateWord⟩⟩, PySem.W.mg_of X G a_DuplicateWord, n_DuplicateWord, _, _, i_DuplicateWord', t_DuplicateWord, ok_i_DuplicateWord (fun_mk (st := s_DuplicateWord___init) l_DuplicateWord c_DuplicateWord k_DuplicateWord), fun _ _ _ => .of_eq rfl, fun _ _ _ => .of_eq rfl⟩, ⟨⟨hg_DuplicateWord, hk_DuplicateWord, hs_DuplicateWord, hd_DuplicateWord, ha_DuplicateWord, spec, take, hm_DuplicateWord⟩, g0_DuplicateWord, g1_DuplicateWord, g2_DuplicateWord, g3_DuplicateWord, g4_DuplicateWord, g5_DuplicateWord⟩⟩
    v_OutOfRange := ⟨C_OutOfRange, ⟨⟨⟨_, _, vxb_I, x_OutOfRange, w_OutOfRange⟩, s_OutOfRange, q_OutOfRange, ⟨hg_OutOfRange, hk_OutOfRange, hs_OutOfRange, hd_OutOfRange, ha_OutOfRange, spec, take, hm_OutOfRange⟩⟩, PySem.W.mg_of X G a_OutOfRange, n_OutOfRange, _, _, i_OutOfRange', t_OutOfRange, ok_i_OutOfRange (fun_mk (st := s_OutOfRange___init) l_OutOfRange c_OutOfRange k_OutOfRange), fun _ _ _ => .of_eq rfl, fun _ _ _ => .of_eq rfl⟩, ⟨⟨hg_OutOfRange, hk_OutOfRange, hs_OutOfRange, hd_OutOfRange, ha_OutOfRange, spec, take, hm_OutOfRange⟩, g0_OutOfRange, g1_OutOfRange, g2_OutOfRange, g3_OutOfRange, g4_OutOfRange, g5_OutOfRange⟩⟩
    v_TooLarge := ⟨C_TooLarge, ⟨⟨⟨_, _, vxb_A, x_TooLarge, w_TooLarge⟩, s_TooLarge, q_TooLarge, ⟨hg_TooLarge, hk_TooLarge, hs_TooLarge, hd_TooLarge, ha_TooLarge, spec, take, hm_TooLarge⟩⟩, PySem.W.mg_of X G a_TooLarge, n_TooLarge, _, _, i_TooLarge', t_TooLarge, ok_i_TooLarge (fun_mk (st := s_TooLarge___init) l_TooLarge c_TooLarge k_TooLarge), fun _ _ _ => .of_eq rfl, fun _ _ _ => .of_eq rfl⟩, ⟨⟨hg_TooLarge, hk_TooLarge, hs_TooLarge, hd_TooLarge, ha_TooLarge, spec, take, hm_TooLarge⟩, g0_TooLarge, g1_TooLarge, g2_TooLarge, g3_TooLarge, g4_TooLarge, g5_TooLarge⟩⟩
    v_InvalidLetters := ⟨C_InvalidLetters, ⟨⟨_, _, _, _, PySem.F.excBase_ValueError, x_InvalidLetters⟩, ⟨hg_InvalidLetters, hk_InvalidLetters, hs_InvalidLetters, hd_InvalidLetters, ha_InvalidLetters, spec, take, hm_InvalidLetters⟩, k_InvalidLetters, PySem.W.mg_of X G a_InvalidLetters⟩, ⟨⟨hg_InvalidLetters, hk_InvalidLetters, hs_InvalidLetters, hd_InvalidLetters, ha_InvalidLetters, spec, take, hm_InvalidLetters⟩, g0_InvalidLetters, g1_InvalidLetters, g2_InvalidLetters, g3_InvalidLetters, g4_InvalidLetters, g5_InvalidLetters⟩⟩
    v_NotFit := ⟨C_NotFit, ⟨⟨_, _, _, _, PySem.F.excBase_ValueError, x_NotFit⟩, ⟨hg_NotFit, hk_NotFit, hs_NotFit, hd_NotFit, ha_NotFit, spec, take, hm_NotFit⟩, k_NotFit, PySem.W.mg_of X G a_NotFit⟩, ⟨⟨hg_NotFit, hk_NotFit, hs_NotFit, hd_NotFit, ha_NotFit, spec, take, hm_NotFit⟩, g0_NotFit, g1_NotFit, g2_NotFit, g3_NotFit, g4_NotFit, g5_NotFit⟩⟩
    v_NotVersion := ⟨C_NotVersion, ⟨⟨_, _, _, _, PySem.F.excBase_ValueError, x_NotVersion⟩, ⟨hg_NotVersion, hk_NotVersion, hs_NotVersion, hd_NotVersion, ha_NotVersion, spec, take, hm_NotVersion⟩, k_NotVersion, PySem.W.mg_of X G a_NotVersion⟩, ⟨⟨hg_NotVersion, hk_NotVersion, hs_NotVersion, hd_NotVersion, ha_NotVersion, spec, take, hm_NotVersion⟩, g0_NotVersion, g1_NotVersion, g2_NotVersion, g3_NotVersion, g4_NotVersion, g5_NotVersion⟩⟩
    v_NothingToUndo := ⟨C_NothingToUndo, ⟨⟨_, _, _, _, PySem.F.excBase_LookupError, x_NothingToUndo⟩, ⟨hg_NothingToUndo, hk_NothingToUndo, hs_NothingToUndo, hd_NothingToUndo, ha_NothingToUndo, spec, take, hm_NothingToUndo⟩, k_NothingToUndo, PySem.W.mg_of X G a_NothingToUndo⟩, ⟨⟨hg_NothingToUndo, hk_NothingToUndo, hs_NothingToUndo, hd_NothingToUndo, ha_NothingToUndo, spec, take, hm_NothingToUndo⟩, g0_NothingToUndo, g1_NothingToUndo, g2_NothingToUndo, g3_NothingToUndo, g4_NothingToUndo, g5_NothingToUndo⟩, y_NothingToUndo⟩
    v_NothingToRedo := ⟨C_NothingToRedo, ⟨⟨_, _, _, _, PySem.F.excBase_LookupError, x_NothingToRedo⟩, ⟨hg_NothingToRedo, hk_NothingToRedo, hs_NothingToRedo, hd_NothingToRedo, ha_NothingToRedo, spec, take, hm_NothingToRedo⟩, k_NothingToRedo, PySem.W.mg_of X G a_NothingToRedo⟩, ⟨⟨hg_NothingToRedo, hk_NothingToRedo, hs_NothingToRedo, hd_NothingToRedo, ha_NothingToRedo, spec, take, hm_NothingToRedo⟩, g0_NothingToRedo, g1_NothingToRedo, g2_NothingToRedo, g3_NothingToRedo, g4_NothingToRedo, g5_NothingToRedo⟩, y_NothingToRedo⟩ }
  have D_law_pen : Dn l.prog w K mg base 1 "_law_pen" ["script"] (spPen K) := ⟨_, _, ok_pen F_law_pen T.toTxt, PySem.W.mg_of X G a_law_pen, k_law_pen, b_law_pen⟩
  have D_law_draw : Dn l.prog w K mg base 1 "_law_draw" ["pen", "many"] spDraw := ⟨_, _, ok_draw F_law_draw T.toTxt, PySem.W.mg_of X G a_law_draw, k_law_draw, b_law_draw⟩
  have D_law_pick : Dn l.prog w K mg base 2 "_law_pick" ["pen", "some"] (spPick K) := ⟨_, _, ok_pick F_law_pick T.toTxt D_law_draw, PySem.W.mg_of X G a_law_pick, k_law_pick, b_law_pick⟩
  have D_law_odd : Dn l.prog w K mg base 3 "_law_odd" ["pen"] (spOdd K) := ⟨_, _, ok_odd F_law_odd T D_law_pick, PySem.W.mg_of X G a_law_odd, k_law_odd, b_law_odd⟩
  have D_law_named : Dn l.prog w K mg base 3 "_law_named" ["value"] (spNamed K) := ⟨_, _, ok_named F_law_named T V, PySem.W.mg_of X G a_law_named, k_law_named, b_law_named⟩
  have D_law_placed : Dn l.prog w K mg base 3 "_law_placed" ["value"] (spNamed K) := ⟨_, _, ok_placed F_law_placed T V, PySem.W.mg_of X G a_law_placed, k_law_placed, b_law_placed⟩
  have D_law_groups : Dn l.prog w K mg base 1 "_law_groups" ["error"] (spGroups K) := ⟨_, _, ok_groups F_law_groups T, PySem.W.mg_of X G a_law_groups, k_law_groups, b_law_groups⟩
  exact ok_law F_law T V D_law_pen D_law_odd D_law_named D_law_placed D_law_groups
end Wf

open PySem PySem.W PyProof.Rows in
set_option maxRecDepth 100000 in
set_option maxHeartbeats 0 in
theorem PySem.Challenge.cw_wordfit_k23_errors_created_from_fields_holds : PySem.Challenge.rw_wordfit_k23_errors_created_from_fields.Holds := by
  w_on; o_law; k_head; (case hw => w_witness2)
  k_fill
  refine Wf.walkG (l := PySem.Challenge.rw_wordfit_k23_errors_created_from_fields) (sp := Wf.spLaw) (n := 63) (k := 4) (x := "script") rfl (by decide) rfl ⟨rfl, by decide, by decide⟩ (fun w h Y => PySem.W.kIn_of Y) ?F (fun K H a ns hn hs => ⟨a, ns, rfl, hs, hn, fun _ => rfl⟩)
  case F =>
    intro w mg fa h KX G hmg
    refine' Wf.all_mk KX G hmg ?a_law_pen ?l_law_pen ?c_law_pen ?k_law_pen ?a_law_draw ?l_law_draw ?c_law_draw ?k_law_draw ?a_law_pick ?l_law_pick ?c_law_pick ?k_law_pick ?a_law_odd ?l_law_odd ?c_law_odd ?k_law_odd ?a_law_named ?l_law_named ?c_law_named ?k_law_named ?a_law_placed ?l_law_placed ?c_law_placed ?k_law_placed ?a_law_groups ?l_law_groups ?c_law_groups ?k_law_groups ?a_law ?l_law ?c_law ?k_law ?a_InvalidWord ?x_InvalidWord ?w_InvalidWord ?s_InvalidWord ?q_InvalidWord ?hg_InvalidWord ?hk_InvalidWord ?hs_InvalidWord ?hd_InvalidWord ?ha_InvalidWord ?hm_InvalidWord ?g0_InvalidWord ?g1_InvalidWord ?g2_InvalidWord ?g3_InvalidWord ?g4_InvalidWord ?g5_InvalidWord ?n_InvalidWord ?i_InvalidWordq ?t_InvalidWord ?l_InvalidWord ?c_InvalidWord ?k_InvalidWord ?a_InvalidSample ?x_InvalidSample ?w_InvalidSample ?s_InvalidSample ?q_InvalidSample ?hg_InvalidSample ?hk_InvalidSample ?hs_InvalidSample ?hd_InvalidSample ?ha_InvalidSample ?hm_InvalidSample ?g0_InvalidSample ?g1_InvalidSample ?g2_InvalidSample ?g3_InvalidSample ?g4_InvalidSample ?g5_InvalidSample ?n_InvalidSample ?i_InvalidSampleq ?t_InvalidSample ?l_InvalidSample ?c_InvalidSample ?k_InvalidSample ?a_InvalidMachine ?x_InvalidMachine ?w_InvalidMachine ?s_InvalidMachine ?q_InvalidMachine ?hg_InvalidMachine ?hk_InvalidMachine ?hs_InvalidMachine ?hd_InvalidMachine ?ha_InvalidMachine ?hm_InvalidMachine ?g0_InvalidMachine ?g1_InvalidMachine ?g2_InvalidMachine ?g3_InvalidMachine ?g4_InvalidMachine ?g5_InvalidMachine ?n_InvalidMachine ?i_InvalidMachineq ?t_InvalidMachine ?l_InvalidMachine ?c_InvalidMachine ?k_InvalidMachine ?a_InvalidPoints ?x_InvalidPoints ?w_InvalidPoints ?s_InvalidPoints ?q_InvalidPoints ?hg_InvalidPoints ?hk_InvalidPoints ?hs_InvalidPoints ?hd_InvalidPoints ?ha_InvalidPoints ?hm_InvalidPoints ?g0_InvalidPoints ?g1_InvalidPoints ?g2_InvalidPoints ?g3_InvalidPoints ?g4_InvalidPoints ?g5_InvalidPoints ?n_InvalidPoints ?i_InvalidPointsq ?t_InvalidPoints ?l_InvalidPoints ?c_InvalidPoints ?k_InvalidPoints ?a_NotComplete ?x_NotComplete ?w_NotComplete ?s_NotComplete ?q_NotComplete ?hg_NotComplete ?hk_NotComplete ?hs_NotComplete ?hd_NotComplete ?ha_NotComplete ?hm_NotComplete ?g0_NotComplete ?g1_NotComplete ?g2_NotComplete ?g3_NotComplete ?g4_NotComplete ?g5_NotComplete ?n_NotComplete ?i_NotCompleteq ?t_NotComplete ?l_NotComplete ?c_NotComplete ?k_NotComplete ?a_NotReduced ?x_NotReduced ?w_NotReduced ?s_NotReduced ?q_NotReduced ?hg_NotReduced ?hk_NotReduced ?hs_NotReduced ?hd_NotReduced ?ha_NotReduced ?hm_NotReduced ?g0_NotReduced ?g1_NotReduced ?g2_NotReduced ?g3_NotReduced ?g4_NotReduced ?g5_NotReduced ?n_NotReduced ?i_NotReducedq ?t_NotReduced ?l_NotReduced ?c_NotReduced ?k_NotReduced ?a_NotApart ?x_NotApart ?w_NotApart ?s_NotApart ?q_NotApart ?hg_NotApart ?hk_NotApart ?hs_NotApart ?hd_NotApart ?ha_NotApart ?hm_NotApart ?g0_NotApart ?g1_NotApart ?g2_NotApart ?g3_NotApart ?g4_NotApart ?g5_NotApart ?n_NotApart ?i_NotApartq ?t_NotApart ?l_NotApart ?c_NotApart ?k_NotApart ?a_InvalidText ?x_InvalidText ?w_InvalidText ?s_InvalidText ?q_InvalidText ?hg_InvalidText ?hk_InvalidText ?hs_InvalidText ?hd_InvalidText ?ha_InvalidText ?hm_InvalidText ?g0_InvalidText ?g1_InvalidText ?g2_InvalidText ?g3_InvalidText ?g4_InvalidText ?g5_InvalidText ?n_InvalidText ?i_InvalidTextq ?t_InvalidText ?l_InvalidText ?c_InvalidText ?k_InvalidText ?a_InvalidCommand ?x_InvalidCommand ?w_InvalidCommand ?s_InvalidCommand ?q_InvalidCommand ?hg_InvalidCommand ?hk_InvalidCommand ?hs_InvalidCommand ?hd_InvalidCommand ?ha_InvalidCommand ?hm_InvalidCommand ?g0_InvalidCommand ?g1_InvalidCommand ?g2_InvalidCommand ?g3_InvalidCommand ?g4_InvalidCommand ?g5_InvalidCommand ?n_InvalidCommand ?i_InvalidCommandq ?t_InvalidCommand ?l_InvalidCommand ?c_InvalidCommand ?k_InvalidCommand ?a_UnknownWord ?x_UnknownWord ?w_UnknownWord ?s_UnknownWord ?q_UnknownWord ?hg_UnknownWord ?hk_UnknownWord ?hs_UnknownWord ?hd_UnknownWord ?ha_UnknownWord ?hm_UnknownWord ?g0_UnknownWord ?g1_UnknownWord ?g2_UnknownWord ?g3_UnknownWord ?g4_UnknownWord ?g5_UnknownWord ?n_UnknownWord ?i_UnknownWordq ?t_UnknownWord ?l_UnknownWord ?c_UnknownWord ?k_UnknownWord ?a_DuplicateWord ?x_DuplicateWord ?w_DuplicateWord ?s_DuplicateWord ?q_DuplicateWord ?hg_DuplicateWord ?hk_DuplicateWord ?hs_DuplicateWord ?hd_DuplicateWord ?ha_DuplicateWord ?hm_DuplicateWord ?g0_DuplicateWord ?g1_DuplicateWord ?g2_DuplicateWord ?g3_DuplicateWord ?g4_DuplicateWord ?g5_DuplicateWord ?n_DuplicateWord ?i_DuplicateWordq ?t_DuplicateWord ?l_DuplicateWord ?c_DuplicateWord ?k_DuplicateWord ?a_OutOfRange ?x_OutOfRange ?w_OutOfRange ?s_OutOfRange ?q_OutOfRange ?hg_OutOfRange ?hk_OutOfRange ?hs_OutOfRange ?hd_OutOfRange ?ha_OutOfRange ?hm_OutOfRange ?g0_OutOfRange ?g1_OutOfRange ?g2_OutOfRange ?g3_OutOfRange ?g4_OutOfRange ?g5_OutOfRange ?n_OutOfRange ?i_OutOfRangeq ?t_OutOfRange ?l_OutOfRange ?c_OutOfRange ?k_OutOfRange ?a_TooLarge ?x_TooLarge ?w_TooLarge ?s_TooLarge ?q_TooLarge ?hg_TooLarge ?hk_TooLarge ?hs_TooLarge ?hd_TooLarge ?ha_TooLarge ?hm_TooLarge ?g0_TooLarge ?g1_TooLarge ?g2_TooLarge ?g3_TooLarge ?g4_TooLarge ?g5_TooLarge ?n_TooLarge ?i_TooLargeq ?t_TooLarge ?l_TooLarge ?c_TooLarge ?k_TooLarge ?a_InvalidLetters ?x_InvalidLetters ?hg_InvalidLetters ?hk_InvalidLetters ?hs_InvalidLetters ?hd_InvalidLetters ?ha_InvalidLetters ?hm_InvalidLetters ?g0_InvalidLetters ?g1_InvalidLetters ?g2_InvalidLetters ?g3_InvalidLetters ?g4_InvalidLetters ?g5_InvalidLetters ?k_InvalidLetters ?a_NotFit ?x_NotFit ?hg_NotFit ?hk_NotFit ?hs_NotFit ?hd_NotFit ?ha_NotFit ?hm_NotFit ?g0_NotFit ?g1_NotFit ?g2_NotFit ?g3_NotFit ?g4_NotFit ?g5_NotFit ?k_NotFit ?a_NotVersion ?x_NotVersion ?hg_NotVersion ?hk_NotVersion ?hs_NotVersion ?hd_NotVersion ?ha_NotVersion ?hm_NotVersion ?g0_NotVersion ?g1_NotVersion ?g2_NotVersion ?g3_NotVersion ?g4_NotVersion ?g5_NotVersion ?k_NotVersion ?a_NothingToUndo ?x_NothingToUndo ?hg_NothingToUndo ?hk_NothingToUndo ?hs_NothingToUndo ?hd_NothingToUndo ?ha_NothingToUndo ?hm_NothingToUndo ?g0_NothingToUndo ?g1_NothingToUndo ?g2_NothingToUndo ?g3_NothingToUndo ?g4_NothingToUndo ?g5_NothingToUndo ?k_NothingToUndo ?y_NothingToUndo ?a_NothingToRedo ?x_NothingToRedo ?hg_NothingToRedo ?hk_NothingToRedo ?hs_NothingToRedo ?hd_NothingToRedo ?ha_NothingToRedo ?hm_NothingToRedo ?g0_NothingToRedo ?g1_NothingToRedo ?g2_NothingToRedo ?g3_NothingToRedo ?g4_NothingToRedo ?g5_NothingToRedo ?k_NothingToRedo ?y_NothingToRedo ?spec ?take ?z_list ?z_len ?z_abs ?z_range ?z_sorted ?z_repr ?z_isinstance ?z_ValueError ?z_KeyError ?z_IndexError ?z_ArithmeticError ?z_TypeError ?z_RuntimeError ?z_LookupError
    (case a_law_pen => k_is)
    (case l_law_pen => k_is)
    (case c_law_pen => k_is)
    (case k_law_pen => k_is)
    (case a_law_draw => k_is)
    (case l_law_draw => k_is)
    (case c_law_draw => k_is)
    (case k_law_draw => k_is)
    (case a_law_pick => k_is)
    (case l_law_pick => k_is)
    (case c_law_pick => k_is)
    (case k_law_pick => k_is)
    (case a_law_odd => k_is)
    (case l_law_odd => k_is)
    (case c_law_odd => k_is)
    (case k_law_odd => k_is)
    (case a_law_named => k_is)
    (case l_law_named => k_is)
    (case c_law_named => k_is)
    (case k_law_named => k_is)
    (case a_law_placed => k_is)
    (case l_law_placed => k_is)
    (case c_law_placed => k_is)
    (case k_law_placed => k_is)
    (case a_law_groups => k_is)
    (case l_law_groups => k_is)
    (case c_law_groups => k_is)
    (case k_law_groups => k_is)
    (case a_law => k_is)
    (case l_law => k_is)
    (case c_law => k_is)
    (case k_law => k_is)
    (case a_InvalidWord => k_is)
    (case x_InvalidWord => kx_is)
    (case w_InvalidWord => kx_is)
    (case s_InvalidWord => k_is)
    (case q_InvalidWord => k_is)
    (case hg_InvalidWord => k_is)
    (case hk_InvalidWord => k_is)
    (case hs_InvalidWord => k_is)
    (case hd_InvalidWord => k_is)
    (case ha_InvalidWord => k_is)
    (case hm_InvalidWord => k_is)
    (case g0_InvalidWord => kit_is)
    (case g1_InvalidWord => kit_is)
    (case g2_InvalidWord => kit_is)
    (case g3_InvalidWord => kit_is)
    (case g4_InvalidWord => kit_is)
    (case g5_InvalidWord => kit_is)
    (case n_InvalidWord => k_is)
    (case i_InvalidWordq => k_is)
    (case t_InvalidWord => k_is)
    (case l_InvalidWord => k_is)
    (case c_InvalidWord => k_is)
    (case k_InvalidWord => k_is)
    (case a_InvalidSample => k_is)
    (case x_InvalidSample => kx_is)
    (case w_InvalidSample => kx_is)
    (case s_InvalidSample => k_is)
    (case q_InvalidSample => k_is)
    (case hg_InvalidSample => k_is)
    (case hk_InvalidSample => k_is)
    (case hs_InvalidSample => k_is)
    (case hd_InvalidSample => k_is)
    (case ha_InvalidSample => k_is)
    (case hm_InvalidSample => k_is)
    (case g0_InvalidSample => kit_is)
    (case g1_InvalidSample => kit_is)
    (case g2_InvalidSample => kit_is)
    (case g3_InvalidSample => kit_is)
    (case g4_InvalidSample => kit_is)
    (case g5_InvalidSample => kit_is)
    (case n_InvalidSample => k_is)
    (case i_InvalidSampleq => k_is)
    (case t_InvalidSample => k_is)
    (case l_InvalidSample => k_is)
    (case c_InvalidSample => k_is)
    (case k_InvalidSample => k_is)
    (case a_InvalidMachine => k_is)
    (case x_InvalidMachine => kx_is)
    (case w_InvalidMachine => kx_is)
    (case s_InvalidMachine => k_is)
    (case q_InvalidMachine => k_is)
    (case hg_InvalidMachine => k_is)
    (case hk_InvalidMachine => k_is)
    (case hs_InvalidMachine => k_is)
    (case hd_InvalidMachine => k_is)
    (case ha_InvalidMachine => k_is)
    (case hm_InvalidMachine => k_is)
    (case g0_InvalidMachine => kit_is)
    (case g1_InvalidMachine => kit_is)
    (case g2_InvalidMachine => kit_is)
    (case g3_InvalidMachine => kit_is)
    (case g4_InvalidMachine => kit_is)
    (case g5_InvalidMachine => kit_is)
    (case n_InvalidMachine => k_is)
    (case i_InvalidMachineq => k_is)
    (case t_InvalidMachine => k_is)
    (case l_InvalidMachine => k_is)
    (case c_InvalidMachine => k_is)
    (case k_InvalidMachine => k_is)
    (case a_InvalidPoints => k_is)
    (case x_InvalidPoints => kx_is)
    (case w_InvalidPoints => kx_is)
    (case s_InvalidPoints => k_is)
    (case q_InvalidPoints => k_is)
    (case hg_InvalidPoints => k_is)
    (case hk_InvalidPoints => k_is)
    (case hs_InvalidPoints => k_is)
    (case hd_InvalidPoints => k_is)
    (case ha_InvalidPoints => k_is)
    (case hm_InvalidPoints => k_is)
    (case g0_InvalidPoints => kit_is)
    (case g1_InvalidPoints => kit_is)
    (case g2_InvalidPoints => kit_is)
    (case g3_InvalidPoints => kit_is)
    (case g4_InvalidPoints => kit_is)
    (case g5_InvalidPoints => kit_is)
    (case n_InvalidPoints => k_is)
    (case i_InvalidPointsq => k_is)
    (case t_InvalidPoints => k_is)
    (case l_InvalidPoints => k_is)
    (case c_InvalidPoints => k_is)
    (case k_InvalidPoints => k_is)
    (case a_NotComplete => k_is)
    (case x_NotComplete => kx_is)
    (case w_NotComplete => kx_is)
    (case s_NotComplete => k_is)
    (case q_NotComplete => k_is)
    (case hg_NotComplete => k_is)
    (case hk_NotComplete => k_is)
    (case hs_NotComplete => k_is)
    (case hd_NotComplete => k_is)
    (case ha_NotComplete => k_is)
    (case hm_NotComplete => k_is)
    (case g0_NotComplete => kit_is)
    (case g1_NotComplete => kit_is)
    (case g2_NotComplete => kit_is)
    (case g3_NotComplete => kit_is)
    (case g4_NotComplete => kit_is)
    (case g5_NotComplete => kit_is)
    (case n_NotComplete => k_is)
    (case i_NotCompleteq => k_is)
    (case t_NotComplete => k_is)
    (case l_NotComplete => k_is)
    (case c_NotComplete => k_is)
    (case k_NotComplete => k_is)
    (case a_NotReduced => k_is)
    (case x_NotReduced => kx_is)
    (case w_NotReduced => kx_is)
    (case s_NotReduced => k_is)
    (case q_NotReduced => k_is)
    (case hg_NotReduced => k_is)
    (case hk_NotReduced => k_is)
    (case hs_NotReduced => k_is)
    (case hd_NotReduced => k_is)
    (case ha_NotReduced => k_is)
    (case hm_NotReduced => k_is)
    (case g0_NotReduced => kit_is)
    (case g1_NotReduced => kit_is)
    (case g2_NotReduced => kit_is)
    (case g3_NotReduced => kit_is)
    (case g4_NotReduced => kit_is)
    (case g5_NotReduced => kit_is)
    (case n_NotReduced => k_is)
    (case i_NotReducedq => k_is)
    (case t_NotReduced => k_is)
    (case l_NotReduced => k_is)
    (case c_NotReduced => k_is)
    (case k_NotReduced => k_is)
    (case a_NotApart => k_is)
    (case x_NotApart => kx_is)
    (case w_NotApart => kx_is)
    (case s_NotApart => k_is)
    (case q_NotApart => k_is)
    (case hg_NotApart => k_is)
    (case hk_NotApart => k_is)
    (case hs_NotApart => k_is)
    (case hd_NotApart => k_is)
    (case ha_NotApart => k_is)
    (case hm_NotApart => k_is)
    (case g0_NotApart => kit_is)
    (case g1_NotApart => kit_is)
    (case g2_NotApart => kit_is)
    (case g3_NotApart => kit_is)
    (case g4_NotApart => kit_is)
    (case g5_NotApart => kit_is)
    (case n_NotApart => k_is)
    (case i_NotApartq => k_is)
    (case t_NotApart => k_is)
    (case l_NotApart => k_is)
    (case c_NotApart => k_is)
    (case k_NotApart => k_is)
    (case a_InvalidText => k_is)
    (case x_InvalidText => kx_is)
    (case w_InvalidText => kx_is)
    (case s_InvalidText => k_is)
    (case q_InvalidText => k_is)
    (case hg_InvalidText => k_is)
    (case hk_InvalidText => k_is)
    (case hs_InvalidText => k_is)
    (case hd_InvalidText => k_is)
    (case ha_InvalidText => k_is)
    (case hm_InvalidText => k_is)
    (case g0_InvalidText => kit_is)
    (case g1_InvalidText => kit_is)
    (case g2_InvalidText => kit_is)
    (case g3_InvalidText => kit_is)
    (case g4_InvalidText => kit_is)
    (case g5_InvalidText => kit_is)
    (case n_InvalidText => k_is)
    (case i_InvalidTextq => k_is)
    (case t_InvalidText => k_is)
    (case l_InvalidText => k_is)
    (case c_InvalidText => k_is)
    (case k_InvalidText => k_is)
    (case a_InvalidCommand => k_is)
    (case x_InvalidCommand => kx_is)
    (case w_InvalidCommand => kx_is)
    (case s_InvalidCommand => k_is)
    (case q_InvalidCommand => k_is)
    (case hg_InvalidCommand => k_is)
    (case hk_InvalidCommand => k_is)
    (case hs_InvalidCommand => k_is)
    (case hd_InvalidCommand => k_is)
    (case ha_InvalidCommand => k_is)
    (case hm_InvalidCommand => k_is)
    (case g0_InvalidCommand => kit_is)
    (case g1_InvalidCommand => kit_is)
    (case g2_InvalidCommand => kit_is)
    (case g3_InvalidCommand => kit_is)
    (case g4_InvalidCommand => kit_is)
    (case g5_InvalidCommand => kit_is)
    (case n_InvalidCommand => k_is)
    (case i_InvalidCommandq => k_is)
    (case t_InvalidCommand => k_is)
    (case l_InvalidCommand => k_is)
    (case c_InvalidCommand => k_is)
    (case k_InvalidCommand => k_is)
    (case a_UnknownWord => k_is)
    (case x_UnknownWord => kx_is)
    (case w_UnknownWord => kx_is)
    (case s_UnknownWord => k_is)
    (case q_UnknownWord => k_is)
    (case hg_UnknownWord => k_is)
    (case hk_UnknownWord => k_is)
    (case hs_UnknownWord => k_is)
    (case hd_UnknownWord => k_is)
    (case ha_UnknownWord => k_is)
    (case hm_UnknownWord => k_is)
    (case g0_UnknownWord => kit_is)
    (case g1_UnknownWord => kit_is)
    (case g2_UnknownWord => kit_is)
    (case g3_UnknownWord => kit_is)
    (case g4_UnknownWord => kit_is)
    (case g5_UnknownWord => kit_is)
    (case n_UnknownWord => k_is)
    (case i_UnknownWordq => k_is)
    (case t_UnknownWord => k_is)
    (case l_UnknownWord => k_is)
    (case c_UnknownWord => k_is)
    (case k_UnknownWord => k_is)
    (case a_DuplicateWord => k_is)
    (case x_DuplicateWord => kx_is)
    (case w_DuplicateWord => kx_is)
    (case s_DuplicateWord => k_is)
    (case q_DuplicateWord => k_is)
    (case hg_DuplicateWord => k_is)
    (case hk_DuplicateWord => k_is)
    (case hs_DuplicateWord => k_is)
    (case hd_DuplicateWord => k_is)
    (case ha_DuplicateWord => k_is)
    (case hm_DuplicateWord => k_is)
    (case g0_DuplicateWord => kit_is)
    (case g1_DuplicateWord => kit_is)
    (case g2_DuplicateWord => kit_is)
    (case g3_DuplicateWord => kit_is)
    (case g4_DuplicateWord => kit_is)
    (case g5_DuplicateWord => kit_is)
    (case n_DuplicateWord => k_is)
    (case i_DuplicateWordq => k_is)
    (case t_DuplicateWord => k_is)
    (case l_DuplicateWord => k_is)
    (case c_DuplicateWord => k_is)
    (case k_DuplicateWord => k_is)
    (case a_OutOfRange => k_is)
    (case x_OutOfRange => kx_is)
    (case w_OutOfRange => kx_is)
    (case s_OutOfRange => k_is)
    (case q_OutOfRange => k_is)
    (case hg_OutOfRange => k_is)
    (case hk_OutOfRange => k_is)
    (case hs_OutOfRange => k_is)
    (case hd_OutOfRange => k_is)
    (case ha_OutOfRange => k_is)
    (case hm_OutOfRange => k_is)
    (case g0_OutOfRange => kit_is)
    (case g1_OutOfRange => kit_is)
    (case g2_OutOfRange => kit_is)
    (case g3_OutOfRange => kit_is)
    (case g4_OutOfRange => kit_is)
    (case g5_OutOfRange => kit_is)
    (case n_OutOfRange => k_is)
    (case i_OutOfRangeq => k_is)
    (case t_OutOfRange => k_is)
    (case l_OutOfRange => k_is)
    (case c_OutOfRange => k_is)
    (case k_OutOfRange => k_is)
    (case a_TooLarge => k_is)
    (case x_TooLarge => kx_is)
    (case w_TooLarge => kx_is)
    (case s_TooLarge => k_is)
    (case q_TooLarge => k_is)
    (case hg_TooLarge => k_is)
    (case hk_TooLarge => k_is)
    (case hs_TooLarge => k_is)
    (case hd_TooLarge => k_is)
    (case ha_TooLarge => k_is)
    (case hm_TooLarge => k_is)
    (case g0_TooLarge => kit_is)
    (case g1_TooLarge => kit_is)
    (case g2_TooLarge => kit_is)
    (case g3_TooLarge => kit_is)
    (case g4_TooLarge => kit_is)
    (case g5_TooLarge => kit_is)
    (case n_TooLarge => k_is)
    (case i_TooLargeq => k_is)
    (case t_TooLarge => k_is)
    (case l_TooLarge => k_is)
    (case c_TooLarge => k_is)
    (case k_TooLarge => k_is)
    (case a_InvalidLetters => k_is)
    (case x_InvalidLetters => k_exc)
    (case hg_InvalidLetters => k_is)
    (case hk_InvalidLetters => k_is)
    (case hs_InvalidLetters => k_is)
    (case hd_InvalidLetters => k_is)
    (case ha_InvalidLetters => k_is)
    (case hm_InvalidLetters => k_is)
    (case g0_InvalidLetters => kit_is)
    (case g1_InvalidLetters => kit_is)
    (case g2_InvalidLetters => kit_is)
    (case g3_InvalidLetters => kit_is)
    (case g4_InvalidLetters => kit_is)
    (case g5_InvalidLetters => kit_is)
    (case k_InvalidLetters => k_is)
    (case a_NotFit => k_is)
    (case x_NotFit => k_exc)
    (case hg_NotFit => k_is)
    (case hk_NotFit => k_is)
    (case hs_NotFit => k_is)
    (case hd_NotFit => k_is)
    (case ha_NotFit => k_is)
    (case hm_NotFit => k_is)
    (case g0_NotFit => kit_is)
    (case g1_NotFit => kit_is)
    (case g2_NotFit => kit_is)
    (case g3_NotFit => kit_is)
    (case g4_NotFit => kit_is)
    (case g5_NotFit => kit_is)
    (case k_NotFit => k_is)
    (case a_NotVersion => k_is)
    (case x_NotVersion => k_exc)
    (case hg_NotVersion => k_is)
    (case hk_NotVersion => k_is)
    (case hs_NotVersion => k_is)
    (case hd_NotVersion => k_is)
    (case ha_NotVersion => k_is)
    (case hm_NotVersion => k_is)
    (case g0_NotVersion => kit_is)
    (case g1_NotVersion => kit_is)
    (case g2_NotVersion => kit_is)
    (case g3_NotVersion => kit_is)
    (case g4_NotVersion => kit_is)
    (case g5_NotVersion => kit_is)
    (case k_NotVersion => k_is)
    (case a_NothingToUndo => k_is)
    (case x_NothingToUndo => k_exc)
    (case hg_NothingToUndo => k_is)
    (case hk_NothingToUndo => k_is)
    (case hs_NothingToUndo => k_is)
    (case hd_NothingToUndo => k_is)
    (case ha_NothingToUndo => k_is)
    (case hm_NothingToUndo => k_is)
    (case g0_NothingToUndo => kit_is)
    (case g1_NothingToUndo => kit_is)
    (case g2_NothingToUndo => kit_is)
    (case g3_NothingToUndo => kit_is)
    (case g4_NothingToUndo => kit_is)
    (case g5_NothingToUndo => kit_is)
    (case k_NothingToUndo => k_is)
    (case y_NothingToUndo => kit_is)
    (case a_NothingToRedo => k_is)
    (case x_NothingToRedo => k_exc)
    (case hg_NothingToRedo => k_is)
    (case hk_NothingToRedo => k_is)
    (case hs_NothingToRedo => k_is)
    (case hd_NothingToRedo => k_is)
    (case ha_NothingToRedo => k_is)
    (case hm_NothingToRedo => k_is)
    (case g0_NothingToRedo => kit_is)
    (case g1_NothingToRedo => kit_is)
    (case g2_NothingToRedo => kit_is)
    (case g3_NothingToRedo => kit_is)
    (case g4_NothingToRedo => kit_is)
    (case g5_NothingToRedo => kit_is)
    (case k_NothingToRedo => k_is)
    (case y_NothingToRedo => kit_is)
    (case spec => k_is)
    (case take => k_is)
    (case z_list => k_is)
    (case z_len => k_is)
    (case z_abs => k_is)
    (case z_range => k_is)
    (case z_sorted => k_is)
    (case z_repr => k_is)
    (case z_isinstance => k_is)
    (case z_ValueError => k_is)
    (case z_KeyError => k_is)
    (case z_IndexError => k_is)
    (case z_ArithmeticError => k_is)
    (case z_TypeError => k_is)
    (case z_RuntimeError => k_is)
    (case z_LookupError => k_is)
