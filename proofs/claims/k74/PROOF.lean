import PyProof.Rows.All
import Wide.All
import OpenK.AllK
import Wide.FinOn
import HandS.ForMost
import KE.SortData
import KE.SortKeyHeap
import HandS.Conv
import HandS.Zip
import HandS.StrMore
import PyProof.StrLawsIn
import HandS.Dict
import HandS.Iter
import KE.KExcInit
import KE.KExcIs
import HandS.ExcInit
import HandS.ExcValue
import HandS.ExcIs
import HandS.ExcField
import HandS.IsInst
import HandS.TryMany
import HandS.Style
import HandS.Walk
import KE.GoesEnum
import HandS.WordsExc
import KE.KIntText
import KE.KRevSl
import HandS.Codes
import HandS.TupSets
import HandS.SetFor
import HandS.ExcOwn
import HandS.DictComp
import HandS.Property
import HandS.Star
import HandS.OwnEq
import HandS.TupAny
import KE.KSuperObj
import KE.KSuper
import HandS.ClsMeth
import HandS.GenBody
import HandS.GenList
import PyProof.StrOps2
import HandS.Defaults
import HandS.MakeKwOnly
import HandS.Lambda
import HandS.EndTab
import PyProof.EqKinds
import PyProof.NeKinds
import HandS.List
import HandS.DictTup
import KE.KDictDisplayH
import KE.GoesMore
import KE.KeyNested
import HandS.Text
import PySem.Challenge.RW_wordfit_k74_mistakes_found
set_option Elab.async false
set_option maxRecDepth 100000
set_option maxHeartbeats 4000000
set_option linter.all false
/-! defs called where nothing is being shown (no repr is under way) -/
namespace Wf
open PySem PySem.Spec PyProof.Rows L2

/-- nothing is being shown around -/
abbrev Qt (A : Around) : Prop := A.guards = some []

/-- the promise of a def that is called where nothing is being shown -/
structure FnG (P : Program) (w : World) (K : PySem.W.Frag) (mg : Str → Option Value) (base : Heap) (CX : CXT) (k : Nat) (f : Addr) (fd : FuncData) (ps : List Str) (sp : Sp) : Prop where
  many : ∀ {vs H Q E}, sp vs H Q E → vs.length = ps.length
  goes : ∀ {A : Around} {outer : List Env} {s : Shared} {H : Hp} {args : Args} {us : List Value} {vs : List V} {Q : VK} {E : XK}, Qt A → Room k A → Env0 P w K mg base A outer s H →
    BindsTo s fd args (ps.zip us) → Vals vs us → sp vs H Q E → codeAny (model P w) A (.call (.ref f) args) (CR CX outer P w H s Q E) s
section
variable {P : Program} {w : World} {K : PySem.W.Frag} {mg : Str → Option Value} {base : Heap} {CX : CXT} {k : Nat} {f : Addr} {fd : FuncData} {ps : List Str} {sp : Sp}
theorem FnG.of (F : FnOk P w K mg base CX k f fd ps sp) : FnG P w K mg base CX k f fd ps sp :=
  ⟨fun h => F.len _ _ _ _ h, fun _ hr e0 hb r h => F.run _ _ _ _ _ _ _ _ _ hr e0 hb r h⟩
theorem FnG.up {j : Nat} (F : FnG P w K mg base CX j f fd ps sp) (h : j ≤ k) : FnG P w K mg base CX k f fd ps sp :=
  ⟨F.many, fun g hr => F.goes g (hr.mono h)⟩

/-- a def by its body, where nothing is being shown -/
theorem FnG.body {x qual : Str} {st : Stmt} {N : List Str} (F : Fun K x qual st f fd) (S : FnScope N ps (defScope st)) (many : ∀ {vs H Q E}, sp vs H Q E → vs.length = ps.length)
    (B : ∀ (cdv : Value) (A : Around) (outer : List Env) (s : Shared) (H : Hp) (vs : List V) (Q : VK) (E : XK), Qt A → Room k (A.deeper (envOfC qual (defScope st) s.heap.objs.size f cdv)) → sp vs H Q E →
      ∃ t, PSs (cxOf CX P w K mg base N qual (defScope st) f cdv A outer s H E) (defBody st) t ∧ t { nx := fun _ H' => Q .non H', rt := Q } (start N vs) H) :
    FnG P w K mg base CX (k + 1) f fd ps sp := by
  obtain ⟨oc, od, kV, doc, pm, an, cdv, ct, osl, efd, lk, hcd⟩ := F.ex
  subst efd
  refine ⟨many, ?_⟩
  intro A outer s H args us vs Q E hq hr e0 hb r hsp
  have inK : K.In s.heap := e0.mod.kin.keeps (fun b o e => And.left (e0.bs b o e))
  have noL : s.heap.NoLimit := e0.mod.nolimit.keeps (fun b o e => And.left (e0.bs b o e))
  have kinds : ∀ z, z ∈ ps.zip us → (defScope st).names.lookup z.1 = some .local ∨
      ((defScope st).names.lookup z.1 = some .cell ∧ ((cellsFrom (s.heap.objs.size + 1) (defScope st).names []).lookup z.1).isSome = true) := by
    intro z hz
    cases S.par z.1 (List.of_mem_zip hz).1 with
    | inl q => exact Or.inl q
    | inr q => exact Or.inr (And.intro q (PySem.W.cellsFrom_some _ _ _ (Or.inl q)))
  refine codeAny_call_function (Room.depth hr) (inK _ _ lk) rfl S.co S.gen rfl (PySem.W.codeRec_of inK hcd) (hb _ _ _ _ (?_))
  refine wpAny_newFunctionEnv_cells S.kind kinds (fun env he s1 x => ?_)
  subst he
  refine And.intro (noL.keeps x.toInCall.keep) (codeAny_func ?_)
  obtain ⟨t, ht, q⟩ := B cdv A outer s H vs Q E hq (Room.deeper hr _) hsp
  have J := inv_start (CX := CX) (E := E) (P := P) (w := w) (K := K) (mg := mg) (base := base) S hr.hd e0 (many hsp) r x
  refine wpAny_mono (ht.run [] s1 (start N vs) H _ J q) (fun fl s' got => ?_) (fun e s' got => got)
  cases fl with
  | next =>
    obtain ⟨σ', H', J', q'⟩ := got
    exact ⟨.non, H', J'.os, J'.bare, J'.base, J'.hok, rfl, q'⟩
  | ret u =>
    obtain ⟨v, σ', H', J', rv, q'⟩ := got
    exact ⟨v, H', J'.os, J'.bare, J'.base, J'.hok, rv, q'⟩
  | brk => exact (Exists.elim got fun _ g => Exists.elim g fun _ g' => g'.2).elim
  | cont => exact (Exists.elim got fun _ g => Exists.elim g fun _ g' => g'.2).elim
end

section
variable {X : Cx} {CX : CXT} {k : Nat} {f : Addr} {fd : FuncData} {ps : List Str} {sp : Sp} {dvs : List V} {ds : List Value} {E : XK} {x : Str} {p pos : Pos} {e : Expr} {es : List Expr} {t : TA}
theorem FnG.ran {pins : List (Addr × Obj)} {σ : L2.St} {H : Hp} {s : Shared} {Q : VK} {us : List Value} {vs : List V} (F : FnG X.prog X.w X.K X.mg X.base CX k f fd ps sp) (hq : Qt X.A) (hr : Room k X.A) (hb : Binds X.K fd ps ds) (hd : Vals dvs ds)
    (hx : Passes CX X E) (I : Inv X pins σ H s) (r : Vals vs us) (h : sp (vs ++ dvs) H Q E) : wpAny (model X.prog X.w) X.A (call (.ref f) us) (EP X pins σ Q) X.xe s := by
  have r' := Vals.append r hd
  have hl : (us ++ ds).length = ps.length := (Vals.length r').symm.trans (F.many h)
  refine wpAny_call (codeAny_mono (F.goes (us := us ++ ds) (vs := vs ++ dvs) hq hr I.env0 (hb s us I.kIn hl) r' h) (fun r s' got => ?_))
  match r, got with
  | .error e, got => exact hx pins σ H s e s' I got
  | .ok (.ret u), got => exact I.after got
  | .ok .next, got => exact got.elim
  | .ok .brk, got => exact got.elim
  | .ok .cont, got => exact got.elim
/-- f(e, ..) -/
theorem pe_callG (F : FnG X.prog X.w X.K X.mg X.base CX k f fd ps sp) (hq : Qt X.A) (hr : Room k X.A) (hg : Gl X x) (hm : X.mg x = some (.ref f)) (hk : PySem.W.keepIn X.K (.ref f) = true) (hb : Binds X.K fd ps ds) (hd : Vals dvs ds)
    (hx : Passes CX X E) (ha : PA X (e :: es) t) (hdb : (x == ("__debug__" : Str)) = false := by decide) (he : starEach (e :: es) X.env = (false, eval e X.env) :: starEach es X.env := by rfl)
    (hpl : (backTo pos (starEach es X.env)).any (·.1) = false := by rfl) : PE X (.Call (.Name x p) (e :: es) [] pos) (tCall sp dvs E t) :=
  ⟨fun pins s σ H Q I h => wpAny_Call_Name_kw (ld_glob I hg hm (PySem.W.callWith_K (h₀ := X.base) I.ok.mod.kin hk
    (thn (ha.run pos pins s σ H _ I h) fun us s1 ⟨vs, H1, I1, r, q⟩ => ⟨I1.kIn, F.ran hq hr hb hd hx I1 r q⟩) he hpl) hdb)⟩
end
end Wf
namespace Wf
open PySem PySem.Spec PyProof.Rows L2

/-! ### repr of data -/
section
variable {K : PySem.W.Frag} {H : Hp}
mutual
theorem dp_plain : ∀ {d : PyData} {v : V}, Dp K H v d → d.hasDict = false
  | .none, _, _ => rfl
  | .bool _, _, _ => rfl
  | .int _, _, _ => rfl
  | .str _, _, _ => rfl
  | .list ds, _, h => by
    cases h with
    | lst _ a => exact dpAll_plain a
  | .tuple ds, _, h => by
    cases h with
    | tup _ a => exact dpAll_plain a
  | .dict _, _, h => by cases h
theorem dpAll_plain : ∀ {ds : List PyData} {vs : List V}, DpAll K H vs ds → PyData.hasDictAll ds = false
  | [], _, _ => rfl
  | d :: ds, _, h => by
    cases h with
    | cons a b =>
      show (PyData.hasDict d || PyData.hasDictAll ds) = false
      rw [dp_plain a, dpAll_plain b]
      rfl
end
end

section
variable {X : Cx}
def rRepr (K : PySem.W.Frag) : List V → Hp → VK → Prop := fun xs H Q => ∃ v d, xs = [v] ∧ Dp K H v d ∧ d.showable = true ∧ d.depth ≤ 60 ∧ d.shown.length ≤ sizeLine ∧ Q (.str d.shown) H
theorem cr_repr (hq : Qt X.A) (hu : X.A.units + 64 < cLine) : CallR X (.builtin "repr") (rRepr X.K) := by
  intro pins s σ H xs us Q I r h
  obtain ⟨v, d, rfl, hd, sh, dp, sz, q⟩ := h
  obtain ⟨u, rfl, rx⟩ := vals1 r
  obtain ⟨as, rd⟩ := Dp.reads I d v u hd rx
  have np := dp_plain hd
  cases rd with
  | none => exact PySem.P.repr_of_none ⟨.str _, H, I.tok _, ⟨_, rfl⟩, q⟩
  | bool b => exact PySem.P.repr_of_bool ⟨.str _, H, I.tok _, ⟨_, rfl⟩, q⟩
  | int i t => exact PySem.P.repr_of_int (of_decide_eq_true sh) ⟨.str _, H, I.tok _, ⟨_, rfl⟩, q⟩
  | str x t => exact PySem.P.repr_of_str ⟨.str _, H, I.tok _, ⟨_, rfl⟩, q⟩ sz
  | list a b c e => exact repr_of_reads' (Reads.list a b c e) sh (PyData.noDict_hsm np) hq (by omega) (fun _ _ z => z) (fun h' u tk k => ⟨.str _, H, I.kept k, ⟨_, rfl⟩, q⟩) sz
  | tuple a b c e => exact repr_of_reads' (Reads.tuple a b c e) sh (PyData.noDict_hsm np) hq (by omega) (fun _ _ z => z) (fun h' u tk k => ⟨.str _, H, I.kept k, ⟨_, rfl⟩, q⟩) sz
  | dict a b c e f => cases hd
end
end Wf
namespace Wf
open PySem PySem.Spec PyProof.Rows L2 PySem.W PySem.Calls

/-! ### sorted of data, of a list or of a tuple -/
section
variable {prog : Program} {w : World} {A : Around} {E : Value → Shared → Prop} {s : Shared} {β : Type} {vs : List Value} {bs : List β} {enc : β → PyData} {R : Value → β → Prop}

/-- a list or a tuple gathered into a new list -/
theorem gather {l : Addr} {T : String} {o : Obj} {n : Nat} {Q : List Value → Shared → Prop} (hT : T = "list" ∨ T = "tuple") (ho : s.heap.get? l = some o) (hc : o.cls = .type T) (hd : o.data = .seq vs.toArray n) (hL : vs.length ≤ sizeLine)
    (h : Q vs { s with heap := (s.heap.push (seqObj "list" #[] 0)).update s.heap.objs.size (Obj.mapSeq (· ++ vs.toArray)) }) : wpAny (model prog w) A (collect (.ref l)) Q E s := by
  have at0 : (s.heap.push (seqObj "list" #[] 0)).get? s.heap.objs.size = some (seqObj "list" #[] 0) := Heap.get?_push_size _ rfl
  have last : ∀ s', s' = { s with heap := (s.heap.push (seqObj "list" #[] 0)).update s.heap.objs.size (Obj.mapSeq (· ++ vs.toArray)) } → wpAny (model prog w) A (do
      let o ← load s.heap.objs.size
      match o.data with
      | .seq xs _ => pure xs.toList
      | _ => unsupported "internal:collect") Q E s' := by
    intro s' es
    subst es
    refine wpAny_bind (wpAny_load (get?_update_seq at0 _) ?_)
    refine wpAny_pure ?_
    have e : ((#[] : Array Value) ++ vs.toArray).toList = vs := by simp
    show Q ((#[] : Array Value) ++ vs.toArray).toList _
    rw [e]
    exact h
  unfold collect
  refine wpAny_bind (wpAny_runValue (codeAny_builtin F.entry_proto_collect ?_))
  rw [Around.under_plainId F.plain_proto_collect _]
  show wpAny _ A.in1 (do again (.builtin "list.__iadd__" ⟨[← newList [], .ref l], []⟩)) _ _ _
  refine wpAny_bind (wpAny_newList ?_ (Nat.zero_le _))
  refine wpAny_pure ⟨plainId_quiet F.plain_list_iadd _, codeAny_builtin F.entry_list_iadd ?_⟩
  rw [Around.under_plainId F.plain_list_iadd _]
  refine wpAny_mono (wpAny_extend_seq (A := A) (s := { s with heap := s.heap.push (seqObj "list" #[] 0) }) (o := o) (items := vs.toArray) (n := n) (R := fun r s' => r = .ok (.ret (.ref s.heap.objs.size)) ∧ s' = { s with heap := (s.heap.push (seqObj "list" #[] 0)).update s.heap.objs.size (Obj.mapSeq (· ++ vs.toArray)) })
    s.heap.objs.size l (.ref s.heap.objs.size) 0 hT at0 (Heap.get?_push_of_some _ ho) hc hd ⟨rfl, rfl⟩ (by simpa using hL)) (fun fin s' got => ?_) (fun e s' got => ?_)
  · cases fin with
    | done f =>
      obtain ⟨ef, es⟩ := got
      cases ef
      exact last s' es
    | again c =>
      refine ⟨got.1, codeAny_mono got.2 fun r s'' hr => ?_⟩
      obtain ⟨er, es⟩ := hr
      subst er
      exact last s'' es
  · exact absurd got.1 (by simp)

theorem reads_there {h : Heap} : (∀ (d : PyData) (v : Value) (as : List Addr), Reads h v d as → ∀ a ∈ as, ∃ o, h.get? a = some o) := by
  intro d v as r
  refine Reads.rec (motive_1 := fun v d as _ => ∀ a ∈ as, ∃ o, h.get? a = some o) (motive_2 := fun v d as _ => ∀ a ∈ as, ∃ o, h.get? a = some o) ?_ ?_ ?_ ?_ ?_ ?_ ?_ ?_ ?_ r
  · intro a ha; cases ha
  · intro b a ha; cases ha
  · intro i t a ha; cases ha
  · intro x t a ha; cases ha
  · intro a o vs n xs as h1 _ _ _ ih b hb
    cases hb with
    | head => exact ⟨_, h1⟩
    | tail _ hb => exact ih b hb
  · intro a o vs n xs as _ _ _ _ ih b hb
    exact ih b hb
  · intro a o es n kvs as bs h1 _ _ _ _ i1 i2 b hb
    rcases List.mem_append.mp hb with hb | hb
    · cases hb with
      | head => exact ⟨_, h1⟩
      | tail _ hb => exact i1 b hb
    · exact i2 b hb
  · intro a ha; cases ha
  · intro v vs d ds as bs _ _ i1 i2 b hb
    rcases List.mem_append.mp hb with hb | hb
    · exact i1 b hb
    · exact i2 b hb

/-- sorted(t), t a list or a tuple -/
theorem sorted_seqd {l : Addr} {T : String} {o : Obj} {n : Nat} {Q : Value → Shared → Prop} (hT : T = "list" ∨ T = "tuple") (ho : s.heap.get? l = some o) (hc : o.cls = .type T) (hd : o.data = .seq vs.toArray n)
    (e : EachIs R vs bs) (er : EachIs (fun v b => ∃ as, Reads s.heap v (enc b) as) vs bs) (hal : AllAlike (bs.map enc)) (hk : Sortable (bs.map enc)) (hL : bs.length ≤ sizeLine)
    (hu : ∀ b, b ∈ bs → A.units + 4 + (enc b).depth < cLine)
    (h : ∀ out : List Value, EachIs R out (bs.mergeSort (dataLe false enc)) → Q (.ref (s.heap.objs.size + 1)) { s with heap := sortedHeap (copyHeap s.heap vs) (s.heap.objs.size + 1) vs out.toArray }) :
    wpAny (model prog w) A (call (.builtin "sorted") [.ref l]) Q E s := by
  have hL' : vs.length ≤ sizeLine := by rw [e.length]; exact hL
  refine call_function_entry kind_sorted plain_sorted entry_sorted (args_sorted1 _) ?_
  unfold Builtin.«sorted»
  refine wpAny_bind (m := checkCount "sorted" 1 1 _) (wpAny_pure ?_)
  refine wpAny_bind (gather hT ho hc hd hL' ?_)
  refine wpAny_bind (wpAny_newList ?_ hL')
  have hsz : ((s.heap.push (seqObj "list" #[] 0)).update s.heap.objs.size (Obj.mapSeq (· ++ vs.toArray))).objs.size = s.heap.objs.size + 1 := by
    rw [Heap.size_update, size_push']
  show wpAny _ _ _ _ _ { s with heap := copyHeap s.heap vs }
  rw [hsz]
  have at1 := copyHeap_at s.heap vs
  have er1 : EachIs (fun v b => ∃ as, Reads (copyHeap s.heap vs) v (enc b) as ∧ s.heap.objs.size + 1 ∉ as) vs bs := by
    refine EachIs.mono (R := fun v b => ∃ as, Reads s.heap v (enc b) as) (fun v b h => ?_) er
    obtain ⟨as, r⟩ := h
    refine ⟨as, PyProof.Rows.Reads.keeps (fun _ _ => copyHeap_old) r, fun ha => ?_⟩
    obtain ⟨ob, hob⟩ := reads_there _ _ _ r _ ha
    exact absurd (Heap.lt_size hob) (Nat.not_lt_of_le (Nat.le_succ _))
  refine wpAny_bind (wpAny_holding ?_)
  refine list_sort_data (A := A.in1) (s := { s with heap := copyHeap s.heap vs }) (R := R) (enc := enc) (bs := bs) (vs := vs) at1 e er1 hal hk hL ?_ ?_
  · intro b hb
    have := hu b hb
    show A.units + 1 + 1 + (enc b).depth < cLine
    omega
  · intro out hl he
    exact wpAny_pure ⟨_, rfl, h out he⟩
end
end Wf
namespace Wf
open PySem PySem.Spec PyProof.Rows L2

/-! ### sorted, by data -/
/-- things with the data that they are -/
abbrev VD := V × PyData
def leD : VD → VD → Bool := PySem.W.dataLe false (fun p : VD => p.2)
def firsts (ps : List VD) : List V := ps.map (·.1)
def rSortD (K : PySem.W.Frag) : List V → Hp → VK → Prop := fun xs H Q => ∃ (a : Addr) (ps : List VD), xs = [.ref a] ∧ (SqL K H a (firsts ps) ∨ SqT K H a (firsts ps)) ∧ (∀ p ∈ ps, Dp K H p.1 p.2) ∧
  PySem.W.AllAlike (ps.map (·.2)) ∧ PySem.W.Sortable (ps.map (·.2)) ∧ (∀ p ∈ ps, p.2.depth ≤ 20) ∧ ∀ l, H l = none → Q (.ref l) (upd H l (.lst (firsts (ps.mergeSort leD))))

theorem each_of_vals {R : Value → VD → Prop} : ∀ {ps : List VD} {us : List Value}, Vals (firsts ps) us → (∀ p ∈ ps, ∀ u, RelV p.1 u → R u p) → PySem.W.EachIs R us ps
  | [], _, r, _ => by
    cases r
    exact .nil
  | p :: ps, _, r, h => by
    cases r with
    | cons r1 r2 => exact .cons (h p List.mem_cons_self _ r1) (each_of_vals r2 fun q hq => h q (List.mem_cons_of_mem _ hq))
theorem vals_of_each : ∀ {ps : List VD} {us : List Value}, PySem.W.EachIs (fun u (p : VD) => RelV p.1 u) us ps → Vals (firsts ps) us
  | _, _, .nil => .nil
  | _, _, .cons a b => .cons a (vals_of_each b)
theorem vals_of_strs : ∀ {zs : List Str} {us : List Value}, PySem.W.EachIs (fun u (z : Str) => RelV (.str z) u) us zs → Vals (zs.map V.str) us
  | _, _, .nil => .nil
  | _, _, .cons a b => .cons a (vals_of_strs b)
theorem each_of_strs : ∀ {zs : List Str} {us : List Value}, Vals (zs.map V.str) us → PySem.W.EachIs (fun u (z : Str) => RelV (.str z) u) us zs
  | [], _, r => by
    cases r
    exact .nil
  | z :: zs, _, r => by
    cases r with
    | cons r1 r2 => exact .cons r1 (each_of_strs r2)

section
variable {X : Cx}
theorem cr_sortD (hu : X.A.units + 64 < cLine) : CallR X (.builtin "sorted") (rSortD X.K) := by
  intro pins s σ H xs us Q I r h
  obtain ⟨a, ps, rfl, hs, hdp, hal, hsb, hdd, q⟩ := h
  obtain ⟨u, rfl, rx⟩ := vals1 r
  cases rx
  have got : ∃ (its : List Value) (T : String) (o : Obj) (n : Nat), Vals (firsts ps) its ∧ (T = "list" ∨ T = "tuple") ∧ s.heap.get? a = some o ∧ o.cls = .type T ∧ o.data = .seq its.toArray n ∧ (firsts ps).length ≤ sizeLine := by
    rcases hs with hs | hs
    · obtain ⟨its, rv, pl, hz⟩ := I.list hs
      obtain ⟨o, ho, hc, n, hd⟩ := pl.isList
      exact ⟨its, "list", o, n, rv, .inl rfl, ho, hc, hd, hz⟩
    · obtain ⟨its, rv, pl, hz⟩ := I.tuple hs
      obtain ⟨o, ho, hc, n, hd⟩ := pl
      exact ⟨its, "tuple", o, n, rv, .inr rfl, ho, hc, hd, hz⟩
  obtain ⟨its, T, o, n, rv, hT, ho, hc, hd, hz⟩ := got
  have hps : ps.length ≤ sizeLine := by
    unfold firsts at hz
    rw [List.length_map] at hz
    exact hz
  refine sorted_seqd (R := fun u (p : VD) => RelV p.1 u) (enc := fun p : VD => p.2) hT ho hc hd (each_of_vals rv fun p _ u z => z) (each_of_vals rv fun p hp u z => Dp.reads I p.2 p.1 u (hdp p hp) z) hal hsb hps
    (fun b hb => by have := hdd b hb; omega) fun out he => ?_
  have rv2 := vals_of_each he
  obtain ⟨ep, hat⟩ := PyProof.Rows.sortedHeap_at (h := PySem.W.copyHeap s.heap its) (a := s.heap.objs.size + 1) (vs := its) (out := out.toArray) (PySem.W.copyHeap_at s.heap its)
  have hlen : (firsts (ps.mergeSort leD)).length ≤ sizeLine := by
    unfold firsts
    rw [List.length_map, List.length_mergeSort]
    exact hps
  have old : ∀ b ob, s.heap.get? b = some ob → (sortedHeap (PySem.W.copyHeap s.heap its) (s.heap.objs.size + 1) its out.toArray).get? b = some ob := fun b ob e => by
    have hlt := Heap.lt_size e
    have e1 := PySem.W.copyHeap_old (vs := its) e
    rw [PyProof.Rows.sortedHeap_old (Nat.ne_of_lt (Nat.lt_succ_of_lt hlt)) (Heap.lt_size e1)]
    exact e1
  exact ⟨.ref _, upd H (s.heap.objs.size + 1) (.lst (firsts (ps.mergeSort leD))), I.laid (t' := s.toks) old (Nat.le_succ _) ⟨hlen, out, ep, rv2, hat⟩, rfl, q _ (I.hok.fresh (Nat.le_succ _))⟩

/-- sorted(e, key=len), of a list of texts -/
def leLen : Str → Str → Bool := PySem.W.dataLe false (fun z : Str => PyData.int (z.length : Int))
def tSortLen (K : PySem.W.Frag) (t : TA) : TE := fun σ H Q => t σ H fun xs H1 => ∃ (a : Addr) (zs : List Str), xs = [.ref a] ∧ SqL K H1 a (zs.map V.str) ∧ (∀ z ∈ zs, z.length ≤ sizeLine) ∧ ∀ l, H1 l = none → Q (.ref l) (upd H1 l (.lst ((zs.mergeSort leLen).map V.str)))
theorem run_sortLen {pins : List (Addr × Obj)} {σ : L2.St} {H : Hp} {s : Shared} {a : Addr} {zs : List Str} {Q : VK} (I : Inv X pins σ H s) (hu : X.A.units + 64 < cLine) (hs : SqL X.K H a (zs.map V.str)) (hz : ∀ z ∈ zs, z.length ≤ sizeLine)
    (q : ∀ l, H l = none → Q (.ref l) (upd H l (.lst ((zs.mergeSort leLen).map V.str)))) : wpAny (model X.prog X.w) X.A (call (.builtin "sorted") [.ref a] [(Str.ofString "key", .builtin "len")]) (EP X pins σ Q) X.xe s := by
  obtain ⟨its, rv, pl, hzl⟩ := I.list hs
  rw [List.length_map] at hzl
  refine PySem.W.sorted_key_data (R := fun u (z : Str) => RelV (.str z) u) (b := false) (f := .builtin "len") (fun z : Str => PyData.int (z.length : Int)) pl.isList (each_of_strs rv) (PySem.W.AllAlike.of fun b b' => rfl)
    (PySem.W.Sortable.others fun b => ⟨(fun h => by cases h), (fun xs h => by cases h)⟩) hzl (fun x _ => by show X.A.units + 2 + 0 < cLine; omega) (PyProof.Rows.ksk_s1 _ _) (fun _ => PyProof.Rows.ksk_l1 _ _) (fun x => PyProof.Rows.ksk_t4 "len" x)
    (fun v x r hx h tk k => ?_) fun out c h' tk k nf hat hl he => ?_
  · obtain ⟨t, rfl⟩ := r
    have hx2 := hz x hx
    rw [sizeLine_eq] at hx2
    exact PySem.P.len_str (by omega) ⟨h, _, rfl, fun _ _ z => z, Reads.int _ _⟩
  · have rv2 := vals_of_strs he
    exact ⟨.ref _, upd H (s.heap.objs.size + 1) (.lst ((zs.mergeSort leLen).map V.str)), I.laid (t' := tk) k (Nat.le_succ _) ⟨by rw [List.length_map, List.length_mergeSort]; exact hzl, out, c, rv2, hat⟩, rfl, q _ (I.hok.fresh (Nat.le_succ _))⟩
theorem pe_sortLen {e : Expr} {t : TA} {p lp kp pos : Pos} (ha : PA X [e] t) (hu : X.A.units + 64 < cLine) (hg : Gl X "sorted") (hm : X.mg "sorted" = none) (hgl : Gl X "len") (hml : X.mg "len" = none)
    (h1 : backTo pos (starEach [e] X.env) = (false, eval e X.env) :: backTo pos (starEach [] X.env) := by rfl)
    (hall : (backToKw pos (keywordEach [⟨some "key", .Name "len" lp, kp⟩] X.env)).all (·.1.isSome) = true := by rfl) (hnone : (backToKw pos (keywordEach [⟨some "key", .Name "len" lp, kp⟩] X.env)).any (·.1.isNone) = false := by rfl)
    (hpl : (backTo pos (starEach [e] X.env)).any (·.1) = false := by rfl)
    (hks : (backToKw pos (keywordEach [⟨some "key", .Name "len" lp, kp⟩] X.env)).filterMap (·.1) = [Str.ofString "key"] := by rfl) :
    PE X (.Call (.Name "sorted" p) [e] [⟨some "key", .Name "len" lp, kp⟩] pos) (tSortLen X.K t) := by
  refine ⟨fun pins s σ H Q I h => ?_⟩
  refine wpAny_Call_Name_kw (ld_blt I hg hm (by decide +kernel : bootBuiltins "sorted" = some (.builtin "sorted")) ?_ (by decide) (by decide))
  refine PyProof.Rows.callWith_kw ?_ h1 hpl hall hnone
  refine thn (ha.run pos pins s σ H _ I h) fun us s1 got => ?_
  obtain ⟨vs, H1, I1, r, a, zs, rfl, hs, hz, q⟩ := got
  obtain ⟨u, rfl, rx⟩ := vals1 r
  cases rx
  show wpAny _ _ (evalAll [(do let v ← eval (.Name "len" lp) X.env; standAt pos; pure v)]) _ _ s1
  refine wpAny_evalAll_cons (wpAny_bind (ld_blt I1 hgl hml PySem.boot_len ?_ (by decide) (by decide)))
  refine wpAny_bind (wpAny_standAt (wpAny_pure ?_))
  refine wpAny_evalAll_nil ?_
  rw [hks]
  exact run_sortLen I1 hu hs hz q
end
end Wf
namespace Wf
open PySem PySem.Spec PyProof.Rows L2

/-! ### data -/
theorem lay_all : ∀ {ds : List PyData}, (∀ d ∈ ds, d.canLay0 = true) → PyData.canLayAll0 ds = true
  | [], _ => rfl
  | d :: ds, h => by
    show (PyData.canLay0 d && PyData.canLayAll0 ds) = true
    rw [h d List.mem_cons_self, lay_all fun x hx => h x (List.mem_cons_of_mem _ hx)]
    rfl
theorem dep_all {n : Nat} : ∀ {ds : List PyData}, (∀ d ∈ ds, d.depth ≤ n) → PyData.depthAll ds ≤ n
  | [], _ => Nat.zero_le _
  | d :: ds, h => by
    show max (PyData.depth d) (PyData.depthAll ds) ≤ n
    exact Nat.max_le.mpr ⟨h d List.mem_cons_self, dep_all fun x hx => h x (List.mem_cons_of_mem _ hx)⟩
/-- plain data: it can be laid, of small depth -/
def Pl (n : Nat) (d : PyData) : Prop := d.canLay0 = true ∧ d.depth ≤ n
theorem Pl.mono {n m : Nat} {d : PyData} (h : Pl n d) (e : n ≤ m) : Pl m d := ⟨h.1, Nat.le_trans h.2 e⟩
theorem pl_none {n : Nat} : Pl n .none := ⟨rfl, Nat.zero_le _⟩
theorem pl_bool {n : Nat} {b : Bool} : Pl n (.bool b) := ⟨rfl, Nat.zero_le _⟩
theorem pl_int {n : Nat} {i : Int} : Pl n (.int i) := ⟨rfl, Nat.zero_le _⟩
theorem pl_str {n : Nat} {x : Str} (h : PyData.strOk x = true) : Pl n (.str x) := ⟨h, Nat.zero_le _⟩
theorem pl_list {n : Nat} {ds : List PyData} (h : ∀ d ∈ ds, Pl n d) : Pl (n + 1) (.list ds) := ⟨lay_all fun d hd => (h d hd).1, Nat.succ_le_succ (dep_all fun d hd => (h d hd).2)⟩
theorem pl_tup {n : Nat} {ds : List PyData} (h : ∀ d ∈ ds, Pl n d) : Pl (n + 1) (.tuple ds) := ⟨lay_all fun d hd => (h d hd).1, Nat.succ_le_succ (dep_all fun d hd => (h d hd).2)⟩
theorem Pl.shaped {n : Nat} {d : PyData} (h : Pl n d) (e : n ≤ 64 := by decide) : SeqAt.shaped d = true := by
  show (d.canLay0 && decide (d.depth ≤ 64)) = true
  rw [h.1, decide_eq_true (Nat.le_trans h.2 e)]
  rfl
theorem eqv_nil {ds : List PyData} : PyData.eqv (.list ds) (.list []) = ds.isEmpty := by
  cases ds <;> rfl
section
variable {K : PySem.W.Frag} {H H' : Hp}
theorem dpAll_of {α : Type} {f : α → V} {g : α → PyData} : ∀ {xs : List α}, (∀ x ∈ xs, Dp K H (f x) (g x)) → DpAll K H (xs.map f) (xs.map g)
  | [], _ => .nil
  | x :: xs, h => .cons (h x List.mem_cons_self) (dpAll_of fun y hy => h y (List.mem_cons_of_mem _ hy))
theorem dpAll_ints {ns : List Int} : DpAll K H (ns.map V.int) (ns.map PyData.int) := dpAll_of fun i _ => .int i
theorem dpAll_strs {zs : List Str} : DpAll K H (zs.map V.str) (zs.map PyData.str) := dpAll_of fun z _ => .str z
theorem rd_keep {a : Addr} {u : HO} (k : ∀ o, H a = some o → H' a = some o) (h : Rd H a u) : Rd H' a u := by
  rcases h with h | ⟨o, h⟩
  · exact .inl (k _ h)
  · exact .inr ⟨o, k _ h⟩
end
/-- xs == [], xs != [] -/
theorem ints_ne {X : Cx} {H : Hp} {a l : Addr} {ns : List Int} {Q : VK} (h : SqL X.K H a (ns.map V.int)) (hl : SqL X.K H l []) (q : Q (.bl (!ns.isEmpty)) H) : rNeD X.K (.ref a) (.ref l) H Q :=
  ⟨.list (ns.map PyData.int), .list [], .lst h dpAll_ints, .lst hl .nil, (pl_list (n := 0) fun d hd => by
    obtain ⟨i, _, rfl⟩ := List.mem_map.mp hd
    exact pl_int).shaped, (pl_list (n := 0) fun d hd => by cases hd).shaped, by rw [eqv_nil]; simpa using q⟩
end Wf
namespace Wf
open PySem L2
/-! ### a def of the text, to be called by its name -/
structure Dn (P : Program) (w : World) (K : PySem.W.Frag) (mg : Str → Option Value) (base : Heap) (k : Nat) (x : Str) (ps : List Str) (sp : Sp) : Prop where
  ex : ∃ (f : Addr) (fd : FuncData), FnOk P w K mg base CX0 k f fd ps sp ∧ mg x = some (.ref f) ∧ PySem.W.keepIn K (.ref f) = true ∧ Binds K fd ps []
structure DnG (P : Program) (w : World) (K : PySem.W.Frag) (mg : Str → Option Value) (base : Heap) (k : Nat) (x : Str) (ps : List Str) (sp : Sp) : Prop where
  ex : ∃ (f : Addr) (fd : FuncData), FnG P w K mg base CX0 k f fd ps sp ∧ mg x = some (.ref f) ∧ PySem.W.keepIn K (.ref f) = true ∧ Binds K fd ps []
section
variable {X : Cx} {k : Nat} {x : Str} {ps : List Str} {sp : Sp} {p pos : Pos} {e : Expr} {es : List Expr} {t : TA}
theorem pe_cl (D : Dn X.prog X.w X.K X.mg X.base k x ps sp) (hr : Room k X.A) (ha : PA X (e :: es) t) (hg : Gl X x := by rfl) (hdb : (x == ("__debug__" : Str)) = false := by decide)
    (he : starEach (e :: es) X.env = (false, eval e X.env) :: starEach es X.env := by rfl) (hpl : (backTo pos (starEach es X.env)).any (·.1) = false := by rfl) : PE X (.Call (.Name x p) (e :: es) [] pos) (tCall sp [] E0 t) :=
  let ⟨_, _, F, hm, hk, hb⟩ := D.ex
  pe_call F hr hg hm hk hb .nil pass0 ha hdb he hpl
theorem pe_clG (D : DnG X.prog X.w X.K X.mg X.base k x ps sp) (hq : Qt X.A) (hr : Room k X.A) (ha : PA X (e :: es) t) (hg : Gl X x := by rfl) (hdb : (x == ("__debug__" : Str)) = false := by decide)
    (he : starEach (e :: es) X.env = (false, eval e X.env) :: starEach es X.env := by rfl) (hpl : (backTo pos (starEach es X.env)).any (·.1) = false := by rfl) : PE X (.Call (.Name x p) (e :: es) [] pos) (tCall sp [] E0 t) :=
  let ⟨_, _, F, hm, hk, hb⟩ := D.ex
  pe_callG F hq hr hg hm hk hb .nil pass0 ha hdb he hpl
end

/-! ### the pen -/
def penO (c : Addr) (sp mo : Int) : HO := .dK [(.inr "cells", .ref c), (.inr "spot", .int sp), (.inr "more", .int mo)]
/-- a pen at p that has drawn at most n times -/
def Pen (H : Hp) (p c : Addr) (n : Nat) : Prop := ∃ (ns : List Int) (sp mo : Int), H p = some (penO c sp mo) ∧ H c = some (.lst (ns.map V.int)) ∧ ns.length ≤ 63 ∧ 0 ≤ sp ∧ sp ≤ n ∧ 0 ≤ mo
/-- nothing but p has changed -/
def But (p : Addr) (H H' : Hp) : Prop := ∀ b o, b ≠ p → H b = some o → H' b = some o

theorem pen_c {c : Addr} {sp mo : Int} : valV [((.inr "cells" : Key), V.ref c), (.inr "spot", .int sp), (.inr "more", .int mo)] (.inr "cells") = some (.ref c) := by rfl
theorem pen_s {c : Addr} {sp mo : Int} : valV [((.inr "cells" : Key), V.ref c), (.inr "spot", .int sp), (.inr "more", .int mo)] (.inr "spot") = some (.int sp) := by rfl
theorem pen_m {c : Addr} {sp mo : Int} : valV [((.inr "cells" : Key), V.ref c), (.inr "spot", .int sp), (.inr "more", .int mo)] (.inr "more") = some (.int mo) := by rfl
theorem pen_ps {c : Addr} {sp mo z : Int} : putK [((.inr "cells" : Key), V.ref c), (.inr "spot", .int sp), (.inr "more", .int mo)] (.inr "spot") (.int z) = [((.inr "cells" : Key), V.ref c), (.inr "spot", .int z), (.inr "more", .int mo)] := by rfl
theorem pen_pm {c : Addr} {sp mo z : Int} : putK [((.inr "cells" : Key), V.ref c), (.inr "spot", .int sp), (.inr "more", .int mo)] (.inr "more") (.int z) = [((.inr "cells" : Key), V.ref c), (.inr "spot", .int sp), (.inr "more", .int z)] := by rfl
theorem getC {H : Hp} {p c : Addr} {sp mo : Int} (h : H p = some (penO c sp mo)) : DGet H p (.str "cells") (some (.ref c)) := by
  have e := DGet.k (k := .inr "cells") h
  rw [pen_c] at e
  exact e
theorem getS {H : Hp} {p c : Addr} {sp mo : Int} (h : H p = some (penO c sp mo)) : DGet H p (.str "spot") (some (.int sp)) := by
  have e := DGet.k (k := .inr "spot") h
  rw [pen_s] at e
  exact e
theorem getM {H : Hp} {p c : Addr} {sp mo : Int} (h : H p = some (penO c sp mo)) : DGet H p (.str "more") (some (.int mo)) := by
  have e := DGet.k (k := .inr "more") h
  rw [pen_m] at e
  exact e
theorem setS {H : Hp} {p c : Addr} {sp mo : Int} (z : Int) (h : H p = some (penO c sp mo)) : DPut H p (.str "spot") (.int z) (upd H p (penO c z mo)) := by
  have e := DPut.k (k := .inr "spot") (v := .int z) h (by show 3 < sizeLine; decide)
  rw [pen_ps] at e
  exact e
theorem setM {H : Hp} {p c : Addr} {sp mo : Int} (z : Int) (h : H p = some (penO c sp mo)) : DPut H p (.str "more") (.int z) (upd H p (penO c sp z)) := by
  have e := DPut.k (k := .inr "more") (v := .int z) h (by show 3 < sizeLine; decide)
  rw [pen_pm] at e
  exact e
theorem atI_in {α : Type} {xs : List α} {i : Int} (h0 : 0 ≤ i) (h1 : i < (xs.length : Int)) : ∃ y, atI xs i = some y := by
  obtain ⟨j, rfl⟩ := Int.eq_ofNat_of_zero_le h0
  exact ⟨_, atI_nat (List.getElem?_eq_getElem (by omega))⟩
theorem atI_ints {ns : List Int} {i : Int} (h0 : 0 ≤ i) (h1 : i < ((ns.map V.int).length : Int)) : ∃ z : Int, atI (ns.map V.int) i = some (.int z) := by
  obtain ⟨j, rfl⟩ := Int.eq_ofNat_of_zero_le h0
  rw [List.length_map] at h1
  exact ⟨ns[j]'(by omega), atI_nat (by rw [List.getElem?_map, List.getElem?_eq_getElem (by omega)]; rfl)⟩
theorem bnd {z m : Int} (h : 0 < m) (h2 : m < 2 ^ 64) : -(2 ^ 64) < z % m ∧ z % m < 2 ^ 64 := by
  have h3 := Int.emod_nonneg z (show m ≠ 0 by omega)
  have h4 := Int.emod_lt_of_pos z h
  omega
theorem lim {z : Int} (h : 0 ≤ z) (h2 : z < 2 ^ 64) : -(2 ^ 64) < z ∧ z < 2 ^ 64 := by omega
def spPen (K : PySem.W.Frag) : Sp := fun vs H Q _ => ∃ (a : Addr) (ns : List Int), vs = [.ref a] ∧ SqL K H a (ns.map V.int) ∧ ns.length ≤ 63 ∧ ∀ p c H', Same H H' → H p = none → Pen H' p c 0 → Q (.ref p) H'
def spDraw : Sp := fun vs H Q _ => ∃ (p c : Addr) (n : Nat) (many : Int), vs = [.ref p, .int many] ∧ Pen H p c n ∧ n ≤ 1000000 ∧ 0 < many ∧ many ≤ 1000000 ∧
  ∀ (d : Int) (H' : Hp), 0 ≤ d → d < many → But p H H' → Pen H' p c (n + 1) → Q (.int d) H'


/-! ### data as the heap grows -/
theorem sm1 {H : Hp} {l : Addr} {o : HO} (h : H l = none) : Same H (upd H l o) := fun b u e => by
  rw [upd_ne (ne_of_none e h)]
  exact e
/-- what was not there may be written -/
theorem swr {H H' : Hp} {l : Addr} {o : HO} (s : Same H H') (h : H l = none) : Same H (upd H' l o) := fun b u e => by
  rw [upd_ne (ne_of_none e h)]
  exact s b u e
theorem But.refl (p : Addr) (H : Hp) : But p H H := fun _ _ _ h => h
theorem But.trans {p : Addr} {H H1 H2 : Hp} (a : But p H H1) (b : But p H1 H2) : But p H H2 := fun x o n h => b x o n (a x o n h)
theorem But.of {p : Addr} {H H' : Hp} (s : Same H H') : But p H H' := fun b o _ h => s b o h
theorem But.new {p l : Addr} {o : HO} {H H' : Hp} (b : But p H H') (h : H l = none) : But p H (upd H' l o) := fun x u n e => by
  rw [upd_ne (ne_of_none e h)]
  exact b x u n e
theorem But.same {p : Addr} {H H1 H2 : Hp} (a : But p H H1) (b : Same H1 H2) : But p H H2 := fun x o n h => b x o (a x o n h)
theorem Pen.at {H : Hp} {p c : Addr} {n : Nat} (h : Pen H p c n) : ∃ kvs, H p = some (.dK kvs) := let ⟨_, _, _, e, _⟩ := h; ⟨_, e⟩
/-- the pen stays where neither of its places is touched -/
theorem Pen.keep {H H' : Hp} {p c : Addr} {n : Nat} (h : Pen H p c n) (s : ∀ b o, b = p ∨ b = c → H b = some o → H' b = some o) : Pen H' p c n := let ⟨ns, sp, mo, e1, e2, r⟩ := h; ⟨ns, sp, mo, s _ _ (.inl rfl) e1, s _ _ (.inr rfl) e2, r⟩
theorem Pen.cell {H : Hp} {p c : Addr} {n : Nat} (h : Pen H p c n) : ∃ xs, H c = some (.lst xs) := let ⟨_, _, _, _, e, _⟩ := h; ⟨_, e⟩
theorem Pen.same {H H' : Hp} {p c : Addr} {n : Nat} (h : Pen H p c n) (s : Same H H') : Pen H' p c n := let ⟨ns, sp, mo, e1, e2, r⟩ := h; ⟨ns, sp, mo, s _ _ e1, s _ _ e2, r⟩
/-- a new object is none of the pen's -/
theorem Pen.off {H : Hp} {p c l : Addr} {n : Nat} (h : Pen H p c n) (hl : H l = none) : l ≠ p ∧ l ≠ c := by
  obtain ⟨kvs, e⟩ := h.at
  obtain ⟨xs, e2⟩ := h.cell
  refine ⟨fun z => ?_, fun z => ?_⟩
  · rw [z, e] at hl
    cases hl
  · rw [z, e2] at hl
    cases hl
/-- another list is written -/
theorem Pen.wr {H : Hp} {p c l : Addr} {n : Nat} {o : HO} (h : Pen H p c n) (n1 : l ≠ p) (n2 : l ≠ c) : Pen (upd H l o) p c n := h.keep fun b u hb e => by
  have : b ≠ l := by
    rcases hb with rfl | rfl
    · exact n1.symm
    · exact n2.symm
  rw [upd_ne this]
  exact e
theorem Pen.up {H : Hp} {p c : Addr} {n m : Nat} (h : Pen H p c n) (e : n ≤ m) : Pen H p c m := let ⟨ns, sp, mo, e1, e2, a1, a2, a3, a4⟩ := h; ⟨ns, sp, mo, e1, e2, a1, a2, by omega, a4⟩
/-- a fresh place is fresh before -/
theorem But.free {p l c : Addr} {n : Nat} {H H' : Hp} (b : But p H H') (hp : Pen H' p c n) (h : H' l = none) : H l = none := by
  cases q : H l with
  | none => rfl
  | some o =>
    obtain ⟨kvs, e⟩ := hp.at
    have ne : l ≠ p := fun z => by rw [z, e] at h; cases h
    rw [b l o ne q] at h
    cases h
theorem pen_ne {H : Hp} {p a c : Addr} {n : Nat} {o : HO} (hp : Pen H p c n) (h : H a = some o) (d : ∀ kvs, o ≠ .dK kvs) : a ≠ p := fun z => by
  obtain ⟨kvs, e⟩ := hp.at
  rw [z, e] at h
  exact d kvs (Option.some.inj h).symm
theorem But.sql {K : PySem.W.Frag} {H H' : Hp} {p a c : Addr} {n : Nat} {xs : List V} (b : But p H H') (hp : Pen H p c n) (h : SqL K H a xs) : SqL K H' a xs := by
  rcases h with (h | ⟨o, h⟩) | h
  · exact .inl (.inl (b _ _ (pen_ne hp h fun _ z => by cases z) h))
  · exact .inl (.inr ⟨o, b _ _ (pen_ne hp h fun _ z => by cases z) h⟩)
  · exact .inr h
theorem But.sqt {K : PySem.W.Frag} {H H' : Hp} {p a c : Addr} {n : Nat} {xs : List V} (b : But p H H') (hp : Pen H p c n) (h : SqT K H a xs) : SqT K H' a xs := by
  rcases h with (h | ⟨o, h⟩) | h
  · exact .inl (.inl (b _ _ (pen_ne hp h fun _ z => by cases z) h))
  · exact .inl (.inr ⟨o, b _ _ (pen_ne hp h fun _ z => by cases z) h⟩)
  · exact .inr h
/-- what is read stays -/
structure Stay (K : PySem.W.Frag) (H H' : Hp) : Prop where
  l : ∀ a xs, SqL K H a xs → SqL K H' a xs
  t : ∀ a xs, SqT K H a xs → SqT K H' a xs
theorem But.stay {K : PySem.W.Frag} {H H' : Hp} {p c : Addr} {n : Nat} (b : But p H H') (hp : Pen H p c n) : Stay K H H' := ⟨fun _ _ h => b.sql hp h, fun _ _ h => b.sqt hp h⟩
theorem Stay.of {K : PySem.W.Frag} {H H' : Hp} (s : Same H H') : Stay K H H' := ⟨fun a xs h => s.seq h, fun a xs h => by
  rcases h with (h | ⟨o, h⟩) | h
  · exact .inl (.inl (s _ _ h))
  · exact .inl (.inr ⟨o, s _ _ h⟩)
  · exact .inr h⟩
theorem Stay.refl {K : PySem.W.Frag} {H : Hp} : Stay K H H := ⟨fun _ _ h => h, fun _ _ h => h⟩
theorem Stay.trans {K : PySem.W.Frag} {H H1 H2 : Hp} (a : Stay K H H1) (b : Stay K H1 H2) : Stay K H H2 := ⟨fun x xs h => b.l x xs (a.l x xs h), fun x xs h => b.t x xs (a.t x xs h)⟩
mutual
theorem Stay.dp {K : PySem.W.Frag} {H H' : Hp} (s : Stay K H H') : ∀ {d : PyData} {v : V}, Dp K H v d → Dp K H' v d
  | .none, _, h => by
    cases h
    exact .non
  | .bool _, _, h => by
    cases h
    exact .bl _
  | .int _, _, h => by
    cases h
    exact .int _
  | .str _, _, h => by
    cases h
    exact .str _
  | .list ds, _, h => by
    cases h with
    | lst q a => exact .lst (s.l _ _ q) (s.dpAll a)
  | .tuple ds, _, h => by
    cases h with
    | tup q a => exact .tup (s.t _ _ q) (s.dpAll a)
  | .dict _, _, h => by cases h
theorem Stay.dpAll {K : PySem.W.Frag} {H H' : Hp} (s : Stay K H H') : ∀ {ds : List PyData} {vs : List V}, DpAll K H vs ds → DpAll K H' vs ds
  | [], _, h => by
    cases h
    exact .nil
  | d :: ds, _, h => by
    cases h with
    | cons a b => exact .cons (s.dp a) (s.dpAll b)
end
/-- things that are plain data -/
def Dat (K : PySem.W.Frag) (H : Hp) (xs : List V) : Prop := ∀ x ∈ xs, ∃ d, Dp K H x d ∧ Pl 60 d
theorem Dat.all {K : PySem.W.Frag} {H : Hp} : ∀ {xs : List V}, Dat K H xs → ∃ ds, DpAll K H xs ds ∧ ds.length = xs.length ∧ ∀ d ∈ ds, Pl 60 d
  | [], _ => ⟨[], .nil, rfl, fun d hd => by cases hd⟩
  | x :: xs, h => by
    obtain ⟨d, h1, h2⟩ := h x List.mem_cons_self
    obtain ⟨ds, h3, h4, h5⟩ := Dat.all (xs := xs) fun y hy => h y (List.mem_cons_of_mem _ hy)
    refine ⟨d :: ds, .cons h1 h3, congrArg (· + 1) h4, fun e he => ?_⟩
    rcases List.mem_cons.mp he with rfl | he
    · exact h2
    · exact h5 e he
theorem Dat.stay {K : PySem.W.Frag} {H H' : Hp} {xs : List V} (h : Dat K H xs) (s : Stay K H H') : Dat K H' xs := fun x hx => let ⟨d, a, b⟩ := h x hx; ⟨d, s.dp a, b⟩
theorem Dat.sub {K : PySem.W.Frag} {H : Hp} {xs ys : List V} (h : Dat K H xs) (s : ∀ y ∈ ys, y ∈ xs) : Dat K H ys := fun y hy => h y (s y hy)
theorem empty_iff {α β : Type} {xs : List α} {ys : List β} (h : ys.length = xs.length) : ys.isEmpty = xs.isEmpty := by
  cases xs <;> cases ys <;> simp_all
/-- xs != [] -/
theorem data_ne {X : Cx} {H : Hp} {a l : Addr} {xs : List V} {Q : VK} (h : SqL X.K H a xs) (dt : Dat X.K H xs) (hl : SqL X.K H l []) (q : Q (.bl (!xs.isEmpty)) H) : rNeD X.K (.ref a) (.ref l) H Q := by
  obtain ⟨ds, h1, h2, h3⟩ := dt.all
  refine ⟨.list ds, .list [], .lst h h1, .lst hl .nil, (pl_list h3).shaped, (pl_list (n := 0) fun d hd => by cases hd).shaped, ?_⟩
  rw [eqv_nil, empty_iff h2]
  exact q
theorem data_eq {X : Cx} {H : Hp} {a l : Addr} {xs : List V} {Q : VK} (h : SqL X.K H a xs) (dt : Dat X.K H xs) (hl : SqL X.K H l []) (q : Q (.bl xs.isEmpty) H) : rEqD X.K (.ref a) (.ref l) H Q := by
  obtain ⟨ds, h1, h2, h3⟩ := dt.all
  refine ⟨.list ds, .list [], .lst h h1, .lst hl .nil, (pl_list h3).shaped, (pl_list (n := 0) fun d hd => by cases hd).shaped, ?_⟩
  rw [eqv_nil, empty_iff h2]
  exact q
end Wf
namespace Wf
open PySem PySem.Spec PyProof.Rows L2
mutual
/-- no more signs than these are shown -/
def cost : PyData → Nat
  | .none => 5
  | .bool _ => 5
  | .int i => (PyData.int i).shown.length
  | .str x => 10 * x.length + 2
  | .list xs => costs xs + 3
  | .tuple xs => costs xs + 3
  | .dict kvs => (PyData.dict kvs).shown.length
def costs : List PyData → Nat
  | [] => 0
  | x :: xs => cost x + 2 + costs xs
end
theorem shownAll_map : ∀ xs : List PyData, PyData.shownAll xs = xs.map PyData.shown
  | [] => rfl
  | x :: xs => by
    show PyData.shown x :: PyData.shownAll xs = _
    rw [shownAll_map xs]
    rfl
mutual
theorem shown_le : ∀ d : PyData, d.canLay0 = true → d.shown.length ≤ cost d
  | .none, _ => by decide +kernel
  | .bool b, _ => by cases b <;> decide +kernel
  | .int i, _ => by
    show _ ≤ (PyData.int i).shown.length
    exact Nat.le_refl _
  | .str x, h => by
    show (reprText x).length ≤ 10 * x.length + 2
    refine StrLaws.reprText_len x fun c hc => ?_
    have h2 : x.cps.all (· < 0x110000) = true := h
    rw [← Array.all_toList, List.all_eq_true] at h2
    have := h2 c hc
    have := of_decide_eq_true this
    omega
  | .list xs, h => by
    show (listText (PyData.shownAll xs)).length ≤ costs xs + 3
    have h1 := listText_len_le (PyData.shownAll xs)
    have h2 := showns_le xs h
    omega
  | .tuple xs, h => by
    show (tupleText (PyData.shownAll xs)).length ≤ costs xs + 3
    have h1 := tupleText_len_le (PyData.shownAll xs)
    have h2 := showns_le xs h
    omega
  | .dict kvs, _ => by
    show _ ≤ (PyData.dict kvs).shown.length
    exact Nat.le_refl _
theorem showns_le : ∀ xs : List PyData, PyData.canLayAll0 xs = true → ((PyData.shownAll xs).map (·.length)).sum + 2 * (PyData.shownAll xs).length ≤ costs xs
  | [], _ => Nat.le_refl _
  | x :: xs, h => by
    have h' : (PyData.canLay0 x && PyData.canLayAll0 xs) = true := h
    have h1 := shown_le x (Bool.and_eq_true_iff.mp h').1
    have h2 := showns_le xs (Bool.and_eq_true_iff.mp h').2
    show ((PyData.shown x :: PyData.shownAll xs).map (·.length)).sum + 2 * (PyData.shown x :: PyData.shownAll xs).length ≤ cost x + 2 + costs xs
    rw [List.map_cons, List.sum_cons, List.length_cons]
    omega
end
theorem costs_le {n : Nat} : ∀ {ds : List PyData}, (∀ d ∈ ds, cost d ≤ n) → costs ds ≤ ds.length * (n + 2)
  | [], _ => Nat.zero_le _
  | d :: ds, h => by
    have h1 := h d List.mem_cons_self
    have h2 := costs_le (ds := ds) fun x hx => h x (List.mem_cons_of_mem _ hx)
    show cost d + 2 + costs ds ≤ (ds.length + 1) * (n + 2)
    rw [Nat.succ_mul]
    omega
theorem showableAll_of : ∀ {ds : List PyData}, (∀ d ∈ ds, d.showable = true) → PyData.showableAll ds = true
  | [], _ => rfl
  | d :: ds, h => by
    show (PyData.showable d && PyData.showableAll ds) = true
    rw [h d List.mem_cons_self, showableAll_of fun x hx => h x (List.mem_cons_of_mem _ hx)]
    rfl
/-- it can be shown, in so many signs -/
structure Shw (n : Nat) (d : PyData) : Prop where
  s : d.showable = true
  p : d.canLay0 = true
  dp : d.depth ≤ 60
  c : cost d ≤ n
theorem Shw.sz {n : Nat} {d : PyData} (h : Shw n d) (e : n ≤ 16777216) : d.shown.length ≤ sizeLine := by
  rw [sizeLine_eq]
  exact Nat.le_trans (shown_le d h.p) (Nat.le_trans h.c e)
theorem Shw.more {n m : Nat} {d : PyData} (h : Shw n d) (e : n ≤ m) : Shw m d := ⟨h.s, h.p, h.dp, Nat.le_trans h.c e⟩
/-- repr of what is shown -/
theorem shows {K : PySem.W.Frag} {H : Hp} {v : V} {d : PyData} {n : Nat} {Q : VK} (h : Dp K H v d) (s : Shw n d) (e : n ≤ 16777216) (q : Q (.str d.shown) H) : rRepr K [v] H Q := ⟨v, d, rfl, h, s.s, s.dp, s.sz e, q⟩
/-- words: signs that are letters, not too long -/
def Wd (m : Nat) (z : Str) : Prop := z.length ≤ m ∧ ∀ ch ∈ z.cps.toList, 97 ≤ ch ∧ ch ≤ 122
theorem Wd.ok {m : Nat} {z : Str} (h : Wd m z) : PyData.strOk z = true := by
  show z.cps.all (· < 0x110000) = true
  rw [← Array.all_toList, List.all_eq_true]
  intro ch hc
  have := h.2 ch hc
  exact decide_eq_true (by omega)
theorem shw_str {m : Nat} {z : Str} (h : Wd m z) : Shw (10 * m + 2) (.str z) := ⟨rfl, h.ok, Nat.zero_le _, by
  show 10 * z.length + 2 ≤ 10 * m + 2
  have := h.1
  omega⟩
theorem dep_map {α : Type} {f : α → PyData} {xs : List α} (h : ∀ x ∈ xs, (f x).depth ≤ 0) : PyData.depthAll (xs.map f) ≤ 0 := dep_all fun d hd => by
  obtain ⟨x, hx, rfl⟩ := List.mem_map.mp hd
  exact h x hx
theorem costs_words {m n : Nat} {zs : List Str} (h : ∀ z ∈ zs, Wd m z) (hn : zs.length ≤ n) : costs (zs.map PyData.str) ≤ n * (10 * m + 4) := by
  have h1 := costs_le (n := 10 * m + 2) (ds := zs.map PyData.str) fun d hd => by
    obtain ⟨z, hz, rfl⟩ := List.mem_map.mp hd
    exact (shw_str (h z hz)).c
  rw [List.length_map] at h1
  exact Nat.le_trans h1 (Nat.mul_le_mul_right _ hn)
theorem shw_words {m n : Nat} {zs : List Str} (h : ∀ z ∈ zs, Wd m z) (hn : zs.length ≤ n) : Shw (n * (10 * m + 4) + 3) (.list (zs.map PyData.str)) := by
  have hd : ∀ d ∈ zs.map PyData.str, ∃ z ∈ zs, d = PyData.str z := fun d hd => let ⟨z, a, b⟩ := List.mem_map.mp hd; ⟨z, a, b.symm⟩
  refine ⟨showableAll_of fun d q => ?_, lay_all fun d q => ?_, ?_, Nat.add_le_add_right (costs_words h hn) 3⟩
  · obtain ⟨z, _, rfl⟩ := hd d q
    rfl
  · obtain ⟨z, hz, rfl⟩ := hd d q
    exact (h z hz).ok
  · have := dep_map (f := PyData.str) (xs := zs) fun _ _ => Nat.le_refl 0
    show PyData.depthAll _ + 1 ≤ 60
    omega
theorem shw_wordsT {m n : Nat} {zs : List Str} (h : ∀ z ∈ zs, Wd m z) (hn : zs.length ≤ n) : Shw (n * (10 * m + 4) + 3) (.tuple (zs.map PyData.str)) :=
  let a := shw_words h hn
  ⟨a.s, a.p, a.dp, a.c⟩
end Wf
/-! the law itself: it is called where nothing is being shown -/
namespace Wf
open PySem PySem.Spec PyProof.Rows L2
/-- sys.modules is there at the start -/
abbrev Mods (h : Heap) : Prop := ∃ m, h.Ns sysModules m
section
variable {P : Program} {w : World} {K : PySem.W.Frag} {mg : Str → Option Value} {base : Heap} {k : Nat} {f : Addr} {fd : FuncData} {ps : List Str} {sp : Sp}
/-- a def that lets no exception out -/
theorem FnG.plain {x qual : Str} {st : Stmt} {N : List Str} (F : Fun K x qual st f fd) (S : FnScope N ps (defScope st)) (many : ∀ {vs H Q E}, sp vs H Q E → vs.length = ps.length)
    (B : ∀ (cdv : Value) (A : Around) (outer : List Env) (s : Shared) (H : Hp) (vs : List V) (Q : VK) (E : XK), Qt A → Room k (A.deeper (envOfC qual (defScope st) s.heap.objs.size f cdv)) → sp vs H Q E →
      ∃ t, PSs (cxOf CX0 P w K mg base N qual (defScope st) f cdv A outer s H E).nox (defBody st) t ∧ t { nx := fun _ H' => Q .non H', rt := Q } (start N vs) H) :
    FnG P w K mg base CX0 (k + 1) f fd ps sp :=
  FnG.body F S many fun cdv A outer s H vs Q E g r h => let ⟨t, b, q⟩ := B cdv A outer s H vs Q E g r h; ⟨t, b.nox, q⟩
end
/-- an int that the module's top has written -/
theorem pe_gi {X : Cx} {x : Str} {i : Int} {pos : Pos} (h : ∃ t, X.mg x = some (.int i t)) (hg : Gl X x := by rfl) (hd : (x == ("__debug__" : Str)) = false := by decide) : PE X (.Name x pos) (tC (.int i)) :=
  let ⟨_, e⟩ := h
  pe_glob hg e ⟨_, rfl⟩ hd

/-- the one heap at the law's entry: nothing is tracked but the script, where it is not the module's own -/
def entry (K : PySem.W.Frag) (a : Addr) (o : Obj) (xs : List V) : Hp := fun b => if K.lookup a = none ∧ b = a then some (.frz o (.lst xs)) else none
theorem entry_at {K : PySem.W.Frag} {a b : Addr} {o : Obj} {xs : List V} {u : HO} (h : entry K a o xs b = some u) : K.lookup a = none ∧ b = a ∧ u = .frz o (.lst xs) := by
  unfold entry at h
  split at h
  · rename_i c
    exact ⟨c.1, c.2, (Option.some.inj h).symm⟩
  · cases h
theorem entry_no {K : PySem.W.Frag} {a b : Addr} {o : Obj} {xs : List V} (h : b ≠ a ∨ K.lookup a ≠ none) : entry K a o xs b = none := if_neg fun c => h.elim (fun n => n c.2) (fun n => n c.1)
section
variable {P : Program} {w : World} {K : PySem.W.Frag} {mg mb : Str → Option Value} {k : Nat} {fa a : Addr} {fd : FuncData} {x : Str} {sp : Sp} {s : Shared} {us : List Value} {ns : List Int}
theorem law_goes (inK : K.In s.heap) (hm : s.heap.Ns mainGlobals mg) (hb : s.heap.Ns builtinsNs mb) (hbb : ∀ y : Str, y ≠ "__name__" → mb y = bootBuiltins y) (nl : s.heap.NoLimit) (mods : Mods s.heap) (hg : s.gens = #[])
    (ha : s.heap.get? a = some { cls := .type "list", data := .seq us.toArray }) (hi : IntsAre us ns) (hn : ns.length ≤ sizeLine) (room : Room k callerA)
    (F : ∀ base : Heap, K.In base → base.Ns mainGlobals mg → Mods base → FnG P w K mg base CX0 k fa fd [x] sp) (bt : ∀ (t : Shared) (u : Value), BindsTo t fd ⟨[u], []⟩ [(x, u)])
    (hsp : ∀ H : Hp, SqL K H a (ns.map V.int) → sp [.ref a] H (fun v _ => v = .bl true) fun _ _ _ => False) :
    codeAny (model P w) callerA (.call (.ref fa) ⟨[.ref a], []⟩) (fun r t => r = .ok (.ret (.bool true)) ∧ OldK s.heap t.heap ∧ t.os = s.os ∧ AllBare t.gens) s := by
  have vals := vals_ints hi
  let ob : Obj := { cls := .type "list", data := .seq us.toArray }
  let H : Hp := entry K a ob (ns.map V.int)
  have sq : SqL K H a (ns.map V.int) := by
    cases q : K.lookup a with
    | none => exact .inl (.inr ⟨ob, if_pos ⟨q, rfl⟩⟩)
    | some o =>
      have e : o = ob := Option.some.inj ((inK a o q).symm.trans ha)
      subst e
      exact .inr ⟨_, us.toArray, _, q, rfl, rfl, rfl, by rw [List.size_toArray, hi.length]; exact hn, by simpa using vals⟩
  have ok : HOk P w H s.heap := by
    intro b u q
    obtain ⟨_, rfl, rfl⟩ := entry_at q
    exact ⟨ha, by rw [List.length_map]; exact hn, us, _, vals, ha⟩
  have low : ∀ {b : Addr} {o : Obj}, s.heap.get? b = some o → H b = none → (hidT s.heap H).get? b = some o := fun q n => hidT_get q n
  have isD : ∀ {b : Addr} {m : Str → Option Value}, s.heap.Ns b m → (hidT s.heap H).Ns b m := by
    rintro b m ⟨o, es, ep, q, d, r⟩
    refine ⟨o, es, ep, low q (entry_no (.inl fun z => ?_)), d, r⟩
    rw [z, ha] at q
    cases q
    cases d
  have inB : K.In (hidT s.heap H) := fun b o q => low (inK b o q) (entry_no (by
    by_cases z : b = a
    · exact .inr fun n => by rw [← z, q] at n; cases n
    · exact .inl z))
  have lim : (hidT s.heap H).NoLimit := by
    obtain ⟨mc, l1, l2⟩ := nl
    exact ⟨mc, isD l1, l2⟩
  have env : Env0 P w K mg (hidT s.heap H) callerA [] s H :=
    { frames := rfl, mod := ⟨inB, isD hm, ⟨mb, isD hb, hbb⟩, lim⟩, bs := fun b o q => of_hidT q, bsz := Nat.le_of_eq (hidT_size _ _), funs := trivial, frf := fun b q => absurd (show b ∈ ([] : List Addr) from q) (by simp), hok := ok, bare := .of_eq hg }
  refine codeAny_mono ((F _ inB (isD hm) (mods.imp fun _ h => isD h)).goes (us := [.ref a]) (vs := [.ref a]) rfl room env (bt s (.ref a)) (.cons rfl .nil) (hsp H sq)) ?_
  intro r t got
  match r, got with
  | .error _, got => exact got.elim
  | .ok .next, got => exact got.elim
  | .ok .brk, got => exact got.elim
  | .ok .cont, got => exact got.elim
  | .ok (.ret u), got =>
    obtain ⟨v, H', os, bare, un, ok', rv, ev⟩ := got
    have ev' : v = .bl true := ev
    subst ev'
    have eu : u = Value.bool true := rv
    subst eu
    refine ⟨rfl, OldK.of_keep (fun b o q => ?_), os, bare⟩
    cases hb' : H b with
    | none => exact un.keep b o q hb' (fun z => absurd (show b ∈ ([] : List Addr) from z) (by simp)) (fun z => absurd (show b ∈ ([] : List Addr) from z) (by simp))
    | some u =>
      obtain ⟨_, eb, eu⟩ := entry_at hb'
      subst eu
      obtain ⟨g1, _⟩ := ok' b _ (un.frzs b ob _ hb')
      rw [eb] at q g1 ⊢
      rw [ha] at q
      cases q
      exact g1
/-- the goal that the word k_head leaves -/
theorem walkG {l : PySem.W.OpenLaw} {n : Nat} {q : Program} {loose : List Str} {XP : (Str → Option Value) → Heap → Prop} {YP : World → Heap → Prop} {d : DefRec} {K : Params → PySem.W.Frag} {sp : PySem.W.Frag → Sp}
    (no : importsNone q = true) (hn : l.most = some n) (hn2 : n ≤ sizeLine) (hdf : d.params.defaults = []) (room : Room k callerA) (hY : ∀ (w : World) (h : Heap), YP w h → (K w.params).In h)
    (F : ∀ (w : World) (mg : Str → Option Value) (fa : Addr) (h : Heap), (K w.params).In h → h.Ns mainGlobals mg → mg d.name = some (.ref fa) →
      ∃ fd : FuncData, (∀ (t : Shared) (u : Value), BindsTo t fd ⟨[u], []⟩ [(x, u)]) ∧ ∀ base : Heap, (K w.params).In base → base.Ns mainGlobals mg → Mods base → FnG l.prog w (K w.params) mg base CX0 k fa fd [x] (sp (K w.params)))
    (hsp : ∀ (K : PySem.W.Frag) (H : Hp) (a : Addr) (ns : List Int), ns.length ≤ n → SqL K H a (ns.map V.int) → sp K [.ref a] H (fun v _ => v = .bl true) fun _ _ _ => False) :
    PySem.W.WalkO q loose XP YP l.row.toRowW d [] (fun f vs => PySem.call f vs) :=
  Att.attach_call hn hdf fun w s₀ s₁ mg mb fa o pm cd doc a vs ns G Y ho hd hcd hmg hobj hints hlen hg =>
    let ⟨_, bt, hF⟩ := F w mg fa _ (hY w _ Y) G.T.g hmg
    law_goes (hY w _ Y) G.T.g G.T.b G.T.builtins G.T.nolimit ((G.T.seer no).mods.imp fun _ h => h.1) hg hobj hints (Nat.le_trans hlen hn2) room hF bt fun H sq => hsp (K w.params) H a ns hlen sq
end
end Wf
namespace Wf
open PySem PySem.Spec PyProof.Rows L2
/-! ### letters.index(letter) -/
section
variable {x : Str} {c : Nat}
theorem scan_done (y : Str) (n : Nat) : ∀ (l : List Nat) (j k : Nat), (forIn (m := Id) l ((#[j] : Array Nat), k) (StrLaws.occBody x y n 1)).run.fst = #[j]
  | [], _, _ => rfl
  | i :: r, j, k => by
    have no : ¬ ((((#[j] : Array Nat).size < 1 ∧ k ≤ i) ∧ i + y.length ≤ n) ∧ Builtin.Str.subAt x y i = true) := fun z => absurd z.1.1.1 (Nat.lt_irrefl 1)
    simp only [List.forIn_cons, StrLaws.occBody, if_neg no]
    exact scan_done y n r j k
theorem scan_to {j : Nat} (hj : x.cps.toList[j]? = some c) : ∀ (n s : Nat), (∀ i, i < j → x.cps.toList[i]? ≠ some c) → s ≤ j → j < s + n → (forIn (m := Id) (List.range' s n) ((#[] : Array Nat), 0) (StrLaws.occBody x ⟨#[c]⟩ x.length 1)).run.fst = #[j]
  | 0, s, _, h1, h2 => absurd h2 (by omega)
  | n + 1, s, hb, h1, h2 => by
    rw [List.range'_succ]
    rcases Nat.lt_or_ge s j with lt | ge
    · have no : ¬ ((((#[] : Array Nat).size < 1 ∧ 0 ≤ s) ∧ s + (⟨#[c]⟩ : Str).length ≤ x.length) ∧ Builtin.Str.subAt x ⟨#[c]⟩ s = true) := fun z => hb s lt ((StrLaws.subAt_one x c s).mp ⟨z.1.2, z.2⟩)
      simp only [List.forIn_cons, StrLaws.occBody, if_neg no]
      exact scan_to hj n (s + 1) hb (by omega) (by omega)
    · have e : s = j := by omega
      subst e
      obtain ⟨z1, z2⟩ := (StrLaws.subAt_one x c s).mpr hj
      have yes : (((#[] : Array Nat).size < 1 ∧ 0 ≤ s) ∧ s + (⟨#[c]⟩ : Str).length ≤ x.length) ∧ Builtin.Str.subAt x ⟨#[c]⟩ s = true := ⟨⟨⟨by decide, Nat.zero_le _⟩, z1⟩, z2⟩
      simp only [List.forIn_cons, StrLaws.occBody, if_pos yes]
      exact scan_done _ _ _ _ _
theorem index_at {j : Nat} (hj : x.cps.toList[j]? = some c) (hb : ∀ i, i < j → x.cps.toList[i]? ≠ some c) : Txt.index0 x ⟨#[c]⟩ = some j := by
  have lt : j < x.length := by
    obtain ⟨z, _⟩ := List.getElem?_eq_some_iff.mp hj
    rw [Array.length_toList] at z
    exact z
  unfold Txt.index0
  rw [StrLaws.occ_eq, scan_to hj (x.length + 1 - 0) 0 hb (Nat.zero_le _) (by omega)]
  rfl
end
/-- z.index(ch), ch a letter that stands in z first at j -/
theorem mt_letter {X : Cx} (hc : X.calm = true) : MtR X "str.index" (fun x xs H Q => ∃ (z : Str) (ch j : Nat), x = .str z ∧ xs = [.str ⟨#[ch]⟩] ∧ z.cps.toList[j]? = some ch ∧ (∀ i, i < j → z.cps.toList[i]? ≠ some ch) ∧ Q (.int (j : Nat)) H) := by
  intro pins s σ H x xs v us Q I rx rs h
  obtain ⟨z, ch, j, rfl, rfl, hj, hb, q⟩ := h
  refine mt_indexX (W := fun _ _ _ _ => False) hc (fun u s' ⟨_, _, _, _, _, _, _, _, _, _, _, _, _, _, _, _, w⟩ => w.elim) pins s σ H _ _ v us Q I rx rs ⟨z, _, rfl, rfl, fun k hk => ?_, fun n => ?_⟩
  · rw [index_at hj hb] at hk
    cases hk
    exact q
  · rw [index_at hj hb] at n
    cases n
/-! ### over the signs of a text -/
theorem cps_get {z : Str} {i : Nat} : z.cps[i]? = z.cps.toList[i]? := Array.getElem?_toList.symm
theorem for_chars {z : Str} {g : TG} {tb : TS} {D : Ends} {σ : L2.St} {H : Hp} (Pv : Nat → L2.St → Hp → Prop) (first : Pv 0 σ H)
    (each : ∀ i c σ H, z.cps.toList[i]? = some c → Pv i σ H → g (.str ⟨#[c]⟩) σ H fun σ2 H2 => tb { D with nx := Pv (i + 1), ct := Pv (i + 1), bk := D.nx } σ2 H2) (last : ∀ σ H, Pv z.length σ H → D.nx σ H) :
    ∃ W : Nat → Nat → L2.St → Hp → Prop, (∃ m, W 0 m σ H) ∧ ∀ i m σ H, W i m σ H → ((Its z).stop i H ∧ D.nx σ H) ∨
      ((Its z).go i H ∧ ∃ N : L2.St → Hp → Prop, (∀ σ' H', N σ' H' → ∃ m', m' < m ∧ W (i + 1) m' σ' H') ∧ ∀ x H', (Its z).yld i H x H' → g x σ H' fun σ2 H2 => tb { D with nx := N, ct := N, bk := D.nx } σ2 H2) := by
  refine ⟨fun i m σ H => m = z.length - i ∧ i ≤ z.length ∧ Pv i σ H, ⟨_, rfl, Nat.zero_le _, first⟩, fun i m σ H ⟨em, le, p⟩ => ?_⟩
  rcases Nat.lt_or_ge i z.length with lt | ge
  · refine .inr ⟨lt, Pv (i + 1), fun σ' H' p' => ⟨z.length - (i + 1), by omega, rfl, lt, p'⟩, fun x H' ⟨eH, c, hc, ex⟩ => ?_⟩
    subst eH ex
    exact each i c σ _ (cps_get ▸ hc) p
  · obtain rfl : i = z.length := by omega
    exact .inl ⟨Nat.le_refl _, last σ H p⟩
theorem lc_chars {z : Str} {g : TG} {tt : TT} {te : TE} {vs : List Nat} {σ : L2.St} {H1 : Hp} {D : Addr} {Qd : Hp → Prop} (Pv : Nat → Hp → Prop) (first : Pv 0 (upd H1 D (.lst [])))
    (each : ∀ i c H, z.cps.toList[i]? = some c → Pv i H → g (.str ⟨#[c]⟩) (wipe σ vs) H fun σ2 H2 => wipe σ2 vs = wipe σ vs ∧ tt σ2 H2 fun b H3 =>
      if b = true then te σ2 H3 fun y H4 => ∃ acc, H4 D = some (.lst acc) ∧ acc.length < sizeLine ∧ Pv (i + 1) (upd H4 D (.lst (acc ++ [y]))) else Pv (i + 1) H3) (last : ∀ H, Pv z.length H → Qd H) :
    ∃ W : Nat → Nat → Hp → Prop, (∃ m, W 0 m (upd H1 D (.lst []))) ∧ ∀ i m H, W i m H → ((Its z).stop i H ∧ Qd H) ∨
      ((Its z).go i H ∧ ∃ Nx : Hp → Prop, (∀ H', Nx H' → ∃ m', m' < m ∧ W (i + 1) m' H') ∧ ∀ x H', (Its z).yld i H x H' → g x (wipe σ vs) H' fun σ2 H2 => wipe σ2 vs = wipe σ vs ∧ tt σ2 H2 fun b H3 =>
        if b = true then te σ2 H3 fun y H4 => ∃ acc, H4 D = some (.lst acc) ∧ acc.length < sizeLine ∧ Nx (upd H4 D (.lst (acc ++ [y]))) else Nx H3) := by
  refine ⟨fun i m H => m = z.length - i ∧ i ≤ z.length ∧ Pv i H, ⟨_, rfl, Nat.zero_le _, first⟩, fun i m H ⟨em, le, p⟩ => ?_⟩
  rcases Nat.lt_or_ge i z.length with lt | ge
  · refine .inr ⟨lt, Pv (i + 1), fun H' p' => ⟨z.length - (i + 1), by omega, rfl, lt, p'⟩, fun x H' ⟨eH, c, hc, ex⟩ => ?_⟩
    subst eH ex
    exact each i c _ (cps_get ▸ hc) p
  · obtain rfl : i = z.length := by omega
    exact .inl ⟨Nat.le_refl _, last H p⟩
/-! ### tables: rows of numbers and None -/
def oV : Option Nat → V
  | none => .non
  | some n => .int n
/-- at r: a list or a tuple of the rows tb, each a list or a tuple -/
def Rws (K : PySem.W.Frag) (H : Hp) (r : Addr) (tb : List (List (Option Nat))) : Prop := ∃ bs : List Addr, (SqL K H r (bs.map V.ref) ∨ SqT K H r (bs.map V.ref)) ∧ bs.length = tb.length ∧
  ∀ (i : Nat) (b : Addr) (row : List (Option Nat)), bs[i]? = some b → tb[i]? = some row → (SqL K H b (row.map oV) ∨ SqT K H b (row.map oV))
theorem Rws.stay {K : PySem.W.Frag} {H H' : Hp} {r : Addr} {tb : List (List (Option Nat))} (h : Rws K H r tb) (s : Stay K H H') : Rws K H' r tb := by
  obtain ⟨bs, h1, h2, h3⟩ := h
  exact ⟨bs, h1.elim (fun z => .inl (s.l _ _ z)) (fun z => .inr (s.t _ _ z)), h2, fun i b row e1 e2 => (h3 i b row e1 e2).elim (fun z => .inl (s.l _ _ z)) (fun z => .inr (s.t _ _ z))⟩
/-- a table of m columns whose entries are states of it -/
structure TbOk (m : Nat) (tb : List (List (Option Nat))) : Prop where
  pos : 0 < tb.length
  len : ∀ row ∈ tb, row.length = m
  lt : ∀ row ∈ tb, ∀ n, some n ∈ row → n < tb.length
/-- one letter on -/
def stp (zs : List Nat) (tb : List (List (Option Nat))) (s : Option Nat) (c : Nat) : Option Nat := s.bind fun i => (tb.getD i []).getD (zs.idxOf c) none
def ledTo (zs : List Nat) (tb : List (List (Option Nat))) (s : Option Nat) (cs : List Nat) : Option Nat := cs.foldl (stp zs tb) s
theorem stp_lt {zs : List Nat} {tb : List (List (Option Nat))} {m : Nat} (T : TbOk m tb) {s : Option Nat} {c n : Nat} (h : stp zs tb s c = some n) : n < tb.length := by
  unfold stp at h
  cases s with
  | none => cases h
  | some i =>
    simp only [Option.bind_some] at h
    rcases Nat.lt_or_ge i tb.length with lt | ge
    · have e : tb.getD i [] = tb[i] := by rw [List.getD_eq_getElem?_getD, List.getElem?_eq_getElem lt]; rfl
      rw [e, List.getD_eq_getElem?_getD] at h
      cases q : tb[i][List.idxOf c zs]? with
      | none => rw [q] at h; cases h
      | some o =>
        rw [q] at h
        have h : o = some n := h
        subst h
        exact T.lt _ (List.getElem_mem lt) n (List.mem_of_getElem? q)
    · have e : tb.getD i [] = [] := by rw [List.getD_eq_getElem?_getD, List.getElem?_eq_none ge]; rfl
      rw [e] at h
      cases h
theorem led_lt {zs : List Nat} {tb : List (List (Option Nat))} {m : Nat} (T : TbOk m tb) : ∀ (cs : List Nat) (s : Option Nat), (∀ n, s = some n → n < tb.length) → ∀ n, ledTo zs tb s cs = some n → n < tb.length
  | [], _, h, n, e => h n e
  | c :: cs, s, _, n, e => led_lt T cs (stp zs tb s c) (fun _ e2 => stp_lt T e2) n e
theorem led_take {zs : List Nat} {tb : List (List (Option Nat))} {s : Option Nat} {cs : List Nat} {i c : Nat} (h : cs[i]? = some c) : ledTo zs tb s (cs.take (i + 1)) = stp zs tb (ledTo zs tb s (cs.take i)) c := by
  unfold ledTo
  rw [List.take_succ, h, List.foldl_append]
  rfl
theorem idx_at {zs : List Nat} {c : Nat} (h : c ∈ zs) : zs[zs.idxOf c]? = some c ∧ ∀ i, i < zs.idxOf c → zs[i]? ≠ some c := by
  have lt := List.idxOf_lt_length_of_mem h
  refine ⟨by rw [List.getElem?_eq_getElem lt, List.getElem_idxOf lt], fun i hi e => ?_⟩
  obtain ⟨l2, e⟩ := List.getElem?_eq_some_iff.mp e
  have n := List.not_of_lt_findIdx hi
  rw [e] at n
  simp at n
theorem rix_any {K : PySem.W.Frag} {H : Hp} {a : Addr} {xs : List V} {i : Int} {v : V} {Q : VK} (h : SqL K H a xs ∨ SqT K H a xs) (e : atI xs i = some v) (q : Q v H) : rIx K (.ref a) (.int i) H Q :=
  h.elim (fun h => .inl ⟨a, xs, i, v, rfl, rfl, h, e, q⟩) fun h => .inr (.inl ⟨a, xs, i, v, rfl, rfl, h, e, q⟩)
/-- rows[n][index]: the row, and what stands there -/
theorem Rws.row {K : PySem.W.Frag} {H : Hp} {r : Addr} {tb : List (List (Option Nat))} {m n j : Nat} (h : Rws K H r tb) (T : TbOk m tb) (hn : n < tb.length) (hj : j < m) :
    ∃ (bs : List Addr) (b : Addr) (row : List (Option Nat)), (SqL K H r (bs.map V.ref) ∨ SqT K H r (bs.map V.ref)) ∧ atI (bs.map V.ref) (n : Int) = some (.ref b) ∧ (SqL K H b (row.map oV) ∨ SqT K H b (row.map oV)) ∧ atI (row.map oV) (j : Int) = some (oV ((tb.getD n []).getD j none)) := by
  obtain ⟨bs, h1, h2, h3⟩ := h
  have lb : n < bs.length := by omega
  have e1 : bs[n]? = some bs[n] := List.getElem?_eq_getElem lb
  have e2 : tb[n]? = some tb[n] := List.getElem?_eq_getElem hn
  have lj : j < tb[n].length := by rw [T.len _ (List.getElem_mem hn)]; exact hj
  refine ⟨bs, bs[n], tb[n], h1, atI_nat (by rw [List.getElem?_map, e1]; rfl), h3 n _ _ e1 e2, atI_nat ?_⟩
  have e3 : tb.getD n [] = tb[n] := by rw [List.getD_eq_getElem?_getD, e2]; rfl
  rw [e3, List.getElem?_map, List.getD_eq_getElem?_getD, List.getElem?_eq_getElem lj]
  rfl
end Wf
/-! new tables: a list of rows and a list of marks that have just been made -/
namespace Wf
open PySem PySem.Spec PyProof.Rows L2
def mV : Option Bool → V
  | none => .non
  | some b => .bl b
structure Tbl (H0 H : Hp) (z sz : Nat) (full : Bool) (r m : Addr) (bs : List Addr) (tb : List (List (Option Nat))) (ms : List (Option Bool)) : Prop where
  ra : H r = some (.lst (bs.map V.ref))
  ma : H m = some (.lst (ms.map mV))
  rm : r ≠ m
  new : H0 r = none ∧ H0 m = none ∧ ∀ b ∈ bs, H0 b = none ∧ b ≠ r ∧ b ≠ m
  nd : bs.Nodup
  lb : bs.length = tb.length
  row : ∀ q ∈ bs.zip tb, H q.1 = some (.lst (q.2.map oV))
  len : ∀ row ∈ tb, row.length = z
  lt : ∀ row ∈ tb, ∀ x, some x ∈ row → x < sz
  fl : full = true → (∀ row ∈ tb, none ∉ row) ∧ none ∉ ms
section
variable {H0 H H' : Hp} {z sz n : Nat} {full : Bool} {r m p c D : Addr} {bs : List Addr} {tb : List (List (Option Nat))} {ms : List (Option Bool)}
theorem Tbl.but (T : Tbl H0 H z sz full r m bs tb ms) (bt : But p H H') (hp : Pen H p c n) : Tbl H0 H' z sz full r m bs tb ms := by
  obtain ⟨kvs, e⟩ := hp.at
  have np : ∀ {b : Addr} {xs : List V}, H b = some (.lst xs) → b ≠ p := fun q n => by
    rw [n, e] at q
    cases q
  exact { T with ra := bt _ _ (np T.ra) T.ra, ma := bt _ _ (np T.ma) T.ma, row := fun q hq => bt _ _ (np (T.row q hq)) (T.row q hq) }
theorem Tbl.same (T : Tbl H0 H z sz full r m bs tb ms) (s : Same H H') : Tbl H0 H' z sz full r m bs tb ms :=
  { T with ra := s _ _ T.ra, ma := s _ _ T.ma, row := fun q hq => s _ _ (T.row q hq) }
theorem Tbl.mark (T : Tbl H0 H z sz full r m bs tb ms) {x : Option Bool} (hx : full = true → x ≠ none) : Tbl H0 (upd H m (.lst (ms.map mV ++ [mV x]))) z sz full r m bs tb (ms ++ [x]) :=
  { T with
    ra := (upd_ne T.rm).trans T.ra
    ma := by rw [upd_same, List.map_append]; rfl
    row := fun q hq => (upd_ne (T.new.2.2 _ (List.of_mem_zip hq).1).2.2).trans (T.row q hq)
    fl := fun e => ⟨(T.fl e).1, fun hn => (List.mem_append.mp hn).elim (T.fl e).2 fun hn => hx e (List.mem_singleton.mp hn).symm⟩ }
theorem Tbl.add (T : Tbl H0 H z sz full r m bs tb ms) {row : List (Option Nat)} (hD : H D = some (.lst (row.map oV))) (d0 : H0 D = none) (dr : D ≠ r) (dm : D ≠ m) (db : D ∉ bs) (hl : row.length = z) (lt : ∀ x, some x ∈ row → x < sz) (hx : full = true → none ∉ row) :
    Tbl H0 (upd H r (.lst (bs.map V.ref ++ [.ref D]))) z sz full r m (bs ++ [D]) (tb ++ [row]) ms where
  ra := by rw [upd_same, List.map_append]; rfl
  ma := (upd_ne T.rm.symm).trans T.ma
  rm := T.rm
  new := ⟨T.new.1, T.new.2.1, fun b hb => (List.mem_append.mp hb).elim (T.new.2.2 b) fun hb => by rw [List.mem_singleton.mp hb]; exact ⟨d0, dr, dm⟩⟩
  nd := List.nodup_append.mpr ⟨T.nd, List.nodup_cons.mpr ⟨List.not_mem_nil, List.nodup_nil⟩, fun a ha b hb e => db (by rw [← List.mem_singleton.mp hb, ← e]; exact ha)⟩
  lb := by rw [List.length_append, List.length_append, T.lb]; rfl
  row := fun q hq => by
    rw [List.zip_append T.lb] at hq
    rcases List.mem_append.mp hq with hq | hq
    · exact (upd_ne (T.new.2.2 _ (List.of_mem_zip hq).1).2.1).trans (T.row q hq)
    · have e : q = (D, row) := List.mem_singleton.mp hq
      rw [e]
      exact (upd_ne dr).trans hD
  len := fun q hq => (List.mem_append.mp hq).elim (T.len q) fun hq => by rw [List.mem_singleton.mp hq]; exact hl
  lt := fun q hq => (List.mem_append.mp hq).elim (T.lt q) fun hq => by rw [List.mem_singleton.mp hq]; exact lt
  fl := fun e => ⟨fun q hq => (List.mem_append.mp hq).elim ((T.fl e).1 q) fun hq => by rw [List.mem_singleton.mp hq]; exact hx e, (T.fl e).2⟩
theorem Tbl.there (T : Tbl H0 H z sz full r m bs tb ms) {b : Addr} (hb : b ∈ bs) : ∃ xs, H b = some (.lst xs) := by
  obtain ⟨i, hi, e⟩ := List.getElem_of_mem hb
  have e1 : bs[i]? = some b := by rw [List.getElem?_eq_getElem hi, e]
  have e2 : tb[i]? = some (tb[i]'(by rw [← T.lb]; exact hi)) := List.getElem?_eq_getElem _
  exact ⟨_, T.row (b, _) (List.mem_of_getElem? (i := i) (by rw [List.getElem?_zip_eq_some]; exact ⟨e1, e2⟩))⟩
/-- what is new is none of it -/
theorem Tbl.off (T : Tbl H0 H z sz full r m bs tb ms) (h : H D = none) : D ≠ r ∧ D ≠ m ∧ D ∉ bs := ⟨(ne_of_none T.ra h).symm, (ne_of_none T.ma h).symm, fun hb => by
  obtain ⟨xs, e⟩ := T.there hb
  rw [h] at e
  cases e⟩
/-- it is read as one -/
theorem Tbl.rws {K : PySem.W.Frag} (T : Tbl H0 H z sz full r m bs tb ms) : Rws K H r tb := by
  refine ⟨bs, .inl (SqL.of T.ra), T.lb, fun i b row e1 e2 => .inl (SqL.of (T.row (b, row) ?_))⟩
  exact List.mem_of_getElem? (i := i) (by rw [List.getElem?_zip_eq_some]; exact ⟨e1, e2⟩)
theorem Tbl.ok (T : Tbl H0 H z sz full r m bs tb ms) (e : tb.length = sz) (h : 0 < sz) : TbOk z tb := ⟨by omega, T.len, fun row hr n hn => by rw [e]; exact T.lt row hr n hn⟩
theorem Tbl.start (h1 : H r = some (.lst [])) (h2 : H m = some (.lst [])) (n1 : H0 r = none) (n2 : H0 m = none) (ne : r ≠ m) : Tbl H0 H z sz full r m [] [] [] where
  ra := h1
  ma := h2
  rm := ne
  new := ⟨n1, n2, fun b hb => by cases hb⟩
  nd := List.nodup_nil
  lb := rfl
  row := fun q hq => by cases hq
  len := fun q hq => by cases hq
  lt := fun q hq => by cases hq
  fl := fun _ => ⟨fun q hq => absurd hq List.not_mem_nil, List.not_mem_nil⟩
end
def spTable : Sp := fun vs H Q _ => ∃ (p c : Addr) (n : Nat) (z : Str) (sz : Nat) (full : Bool), vs = [.ref p, .str z, .int (sz : Int), .bl full] ∧ Pen H p c n ∧ 0 < sz ∧ sz ≤ 1000 ∧ z.length ≤ 1000 ∧ n + sz * (2 * z.length + 1) < 1000000 ∧
  ∀ (t r m : Addr) (bs : List Addr) (tb : List (List (Option Nat))) (ms : List (Option Bool)) (H' : Hp), But p H H' → Pen H' p c (n + sz * (2 * z.length + 1)) → H t = none → H' t = some (.tup [.ref r, .ref m]) → Tbl H H' z.length sz full r m bs tb ms → tb.length = sz → ms.length = sz → Q (.ref t) H'
/-- a number that depends on a truth -/
theorem tIf_num {σ : L2.St} {H : Hp} {Q : VK} {b : Bool} {i : Nat} {x y : Int} (e : σ[i]? = some (some (.bl b))) (q : Q (.int (if b = true then x else y)) H) : tIf (tB (tVar i)) (tC (.int x)) (tC (.int y)) σ H Q := by
  refine ⟨_, e, b, rfl, ?_⟩
  cases b
  · exact iteF q
  · exact iteT q
/-- in a table without None each word leads somewhere -/
theorem led_some {zs : List Nat} {tb : List (List (Option Nat))} {m : Nat} (T : TbOk m tb) (hm : zs.length = m) (fl : ∀ row ∈ tb, none ∉ row) : ∀ (cs : List Nat) (n : Nat), (∀ c ∈ cs, c ∈ zs) → n < tb.length → ∃ k, ledTo zs tb (some n) cs = some k ∧ k < tb.length
  | [], n, _, h => ⟨n, rfl, h⟩
  | c :: cs, n, hc, h => by
    have e : tb.getD n [] = tb[n] := by rw [List.getD_eq_getElem?_getD, List.getElem?_eq_getElem h]; rfl
    have li : zs.idxOf c < tb[n].length := by rw [T.len _ (List.getElem_mem h), ← hm]; exact List.idxOf_lt_length_of_mem (hc c List.mem_cons_self)
    have st : stp zs tb (some n) c = tb[n][zs.idxOf c] := by
      show (tb.getD n []).getD (zs.idxOf c) none = _
      rw [e, List.getD_eq_getElem?_getD, List.getElem?_eq_getElem li]
      rfl
    cases q : tb[n][zs.idxOf c] with
    | none => exact absurd (by rw [← q]; exact List.getElem_mem li) (fl _ (List.getElem_mem h))
    | some j =>
      have lj : j < tb.length := T.lt _ (List.getElem_mem h) j (by rw [← q]; exact List.getElem_mem li)
      obtain ⟨k, e1, e2⟩ := led_some T hm fl cs j (fun x hx => hc x (List.mem_cons_of_mem _ hx)) lj
      refine ⟨k, ?_, e2⟩
      show ledTo zs tb (stp zs tb (some n) c) cs = some k
      rw [st, q]
      exact e1
end Wf
/-! words in order, samples as the laws draw them -/
namespace Wf
open PySem PySem.Spec PyProof.Rows L2
/-- shorter words first, words of equal length in alphabetical order -/
def ltW (a b : Str) : Prop := a.length < b.length ∨ (a.length = b.length ∧ a.cps.toList < b.cps.toList)
/-- ys are the words ws, each once, in order -/
structure Srt (ys ws : List Str) : Prop where
  mem : ∀ y, y ∈ ys ↔ y ∈ ws
  ord : ys.Pairwise ltW
theorem ltW_irrefl (a : Str) : ¬ ltW a a := fun h => h.elim (fun h => Nat.lt_irrefl _ h) fun h => List.lt_irrefl _ h.2
theorem Srt.nd {ys ws : List Str} (h : Srt ys ws) : ys.Nodup := List.Pairwise.imp (R := ltW) (S := fun a b => a ≠ b) (fun {a b} l e => ltW_irrefl a (by rw [← e] at l; exact l)) h.ord
theorem nodup_sub {α : Type} [BEq α] [LawfulBEq α] : ∀ {ys ws : List α}, ys.Nodup → (∀ y ∈ ys, y ∈ ws) → ys.length ≤ ws.length
  | [], _, _, _ => Nat.zero_le _
  | y :: ys, ws, n, h => by
    have hy := h y List.mem_cons_self
    obtain ⟨n1, n2⟩ := List.nodup_cons.mp n
    have e := nodup_sub (ys := ys) (ws := ws.erase y) n2 fun x hx => (List.mem_erase_of_ne (fun e => n1 (by rw [← e]; exact hx))).mpr (h x (List.mem_cons_of_mem _ hx))
    rw [List.length_erase_of_mem hy] at e
    have := List.length_pos_of_mem hy
    show ys.length + 1 ≤ ws.length
    omega
theorem Srt.len {ys ws : List Str} (h : Srt ys ws) : ys.length ≤ ws.length := nodup_sub h.nd fun y hy => (h.mem y).mp hy
def spSorted (K : PySem.W.Frag) : Sp := fun vs H Q _ => ∃ (a : Addr) (ws : List Str), vs = [.ref a] ∧ SqL K H a (ws.map V.str) ∧ ws.length < 64 ∧ (∀ w ∈ ws, w.length ≤ 1000) ∧ ∀ (l : Addr) (ys : List Str) (H' : Hp), Same H H' → H l = none → H' l = some (.lst (ys.map V.str)) → Srt ys ws → Q (.ref l) H'
/-- a sample as the laws draw it: words in order, over the letters z, some of them True, the others False -/
structure Raw (z : Str) (many most : Nat) (yes no : List Str) : Prop where
  ex : ∃ ws : List Str, ws.Pairwise ltW ∧ ws.length ≤ many ∧ (∀ w ∈ ws, w.length ≤ most ∧ ∀ ch ∈ w.cps.toList, ch ∈ z.cps.toList) ∧ yes.Sublist ws ∧ no.Sublist ws ∧ (yes ++ no).Perm ws
/-- the list of a fresh pair of lists grows -/
theorem upd2 {H : Hp} {a b : Addr} {o u : HO} (n : a ≠ b) (h : H b = some u) : upd H a o b = some u := (upd_ne n.symm).trans h
end Wf
/-! enumerate in a comprehension; the places of words as a dict -/
namespace Wf
open PySem PySem.Spec PyProof.Rows L2
theorem lc_enumW {K : PySem.W.Frag} {a : Addr} {xs : List V} {g : TG} {tt : TT} {te : TE} {vs : List Nat} {σ : L2.St} {H1 : Hp} {D : Addr} {Qd : Hp → Prop} (Pv : Nat → Hp → Prop) (first : Pv 0 (upd H1 D (.lst []))) (stays : ∀ i H, i ≤ xs.length → Pv i H → SqL K H a xs)
    (each : ∀ i x H T, xs[i]? = some x → Pv i H → H T = none → g (.ref T) (wipe σ vs) (upd H T (.tup [.int (i : Nat), x])) fun σ2 H2 => wipe σ2 vs = wipe σ vs ∧ tt σ2 H2 fun b H3 =>
      if b = true then te σ2 H3 fun y H4 => ∃ acc, H4 D = some (.lst acc) ∧ acc.length < sizeLine ∧ Pv (i + 1) (upd H4 D (.lst (acc ++ [y]))) else Pv (i + 1) H3) (last : ∀ H, Pv xs.length H → Qd H) :
    ∃ W : Nat → Nat → Hp → Prop, (∃ m, W 0 m (upd H1 D (.lst []))) ∧ ∀ i m H, W i m H → ((Ite K a).stop i H ∧ Qd H) ∨
      ((Ite K a).go i H ∧ ∃ Nx : Hp → Prop, (∀ H', Nx H' → ∃ m', m' < m ∧ W (i + 1) m' H') ∧ ∀ x H', (Ite K a).yld i H x H' → g x (wipe σ vs) H' fun σ2 H2 => wipe σ2 vs = wipe σ vs ∧ tt σ2 H2 fun b H3 =>
        if b = true then te σ2 H3 fun y H4 => ∃ acc, H4 D = some (.lst acc) ∧ acc.length < sizeLine ∧ Nx (upd H4 D (.lst (acc ++ [y]))) else Nx H3) := by
  refine ⟨fun i m H => m = xs.length - i ∧ i ≤ xs.length ∧ Pv i H, ⟨_, rfl, Nat.zero_le _, first⟩, fun i m H ⟨em, le, p⟩ => ?_⟩
  have sq := stays i H le p
  rcases Nat.lt_or_ge i xs.length with lt | ge
  · refine .inr ⟨⟨xs, xs[i], sq, List.getElem?_eq_getElem lt⟩, Pv (i + 1), fun H' p' => ⟨xs.length - (i + 1), by omega, rfl, lt, p'⟩, fun v H' ⟨T, x, ev, free, eH, at'⟩ => ?_⟩
    subst ev eH
    exact each i x H T (at' xs sq) p free
  · obtain rfl : i = xs.length := by omega
    exact .inl ⟨⟨xs, sq, Nat.le_refl _⟩, last H p⟩
/-- the places of words: word -> number -/
def plc (ys : List Str) (n : Nat) : List (Key × V) := (ys.zipIdx n).map fun p => ((.inr p.1 : Key), V.int (p.2 : Nat))
theorem plc_cons {y : Str} {ys : List Str} {n : Nat} : plc (y :: ys) n = (.inr y, .int (n : Nat)) :: plc ys (n + 1) := rfl
theorem plc_keys : ∀ {ys : List Str} {n : Nat}, (plc ys n).map (·.1) = ys.map .inr
  | [], _ => rfl
  | y :: ys, n => by rw [plc_cons, List.map_cons, List.map_cons, plc_keys]
theorem merge_new : ∀ {more acc : List (Key × V)}, ((acc ++ more).map (·.1)).Nodup → mergeK acc more = acc ++ more
  | [], acc, _ => by rw [List.append_nil]; rfl
  | (k, v) :: more, acc, nd => by
    have nk : ¬ (acc.any fun kv => decide (kv.1 = k)) = true := fun h => by
      obtain ⟨kv, m, e⟩ := List.any_eq_true.mp h
      rw [List.map_append, List.map_cons] at nd
      have := (List.nodup_append.mp nd).2.2 kv.1 (List.mem_map.mpr ⟨kv, m, rfl⟩) k List.mem_cons_self
      exact this (of_decide_eq_true e)
    have e : mergeK acc ((k, v) :: more) = mergeK (acc ++ [(k, v)]) more := by
      show mergeK (putK acc k v) more = _
      unfold putK
      rw [if_neg nk]
    rw [e, merge_new (by rw [List.append_assoc]; exact nd), List.append_assoc]
    rfl
theorem plc_at {z : Str} : ∀ {ys : List Str} {n : Nat}, valV (plc ys n) (.inr z) = (ys.idxOf? z).map fun i => V.int ((n + i : Nat) : Int)
  | [], _ => rfl
  | y :: ys, n => by
    rw [plc_cons, List.idxOf?_cons]
    by_cases h : y = z
    · subst h
      rw [valV_pos rfl, if_pos (beq_self_eq_true _)]
      rfl
    · rw [valV_neg (fun e => h (Sum.inr.inj e)), plc_at, if_neg (by rw [beq_iff_eq]; exact h), Option.map_map]
      congr 1
      funext i
      show V.int _ = V.int _
      rw [show n + 1 + i = n + (i + 1) by omega]
theorem in_words {z : Str} : ∀ {zs : List Str}, inV (.str z) (zs.map V.str) = decide (z ∈ zs)
  | [] => rfl
  | y :: ys => by
    have e : inV (.str z) ((y :: ys).map V.str) = (eqV (.str y) (.str z) || inV (.str z) (ys.map V.str)) := rfl
    have e2 : eqV (.str y) (.str z) = decide (z = y) := by
      show (y == z) = _
      by_cases h : y = z
      · subst h
        rw [beq_self_eq_true]
        exact (decide_eq_true rfl).symm
      · rw [beq_eq_false_iff_ne.mpr h]
        exact (decide_eq_false fun q => h q.symm).symm
    rw [e, e2, in_words, ← Bool.decide_or]
    exact decide_eq_decide.mpr List.mem_cons.symm
theorem flat_words {zs : List Str} : (zs.map V.str).all flatV = true := List.all_eq_true.mpr fun v hv => by
  obtain ⟨z, _, rfl⟩ := List.mem_map.mp hv
  rfl
theorem plc_get {ys : List Str} {n j : Nat} {w : Str} (h : ys[j]? = some w) : (plc ys n)[j]? = some (.inr w, .int ((n + j : Nat) : Int)) := by
  unfold plc
  rw [List.getElem?_map, List.getElem?_zipIdx, h]
  rfl
theorem plc_len {ys : List Str} {n : Nat} : (plc ys n).length = ys.length := by unfold plc; rw [List.length_map, List.length_zipIdx]
theorem pair_up {α β : Type} {R : α → β → Prop} : ∀ {as : List α} {bs : List β}, as.length = bs.length → (∀ (i : Nat) (a : α) (b : β), as[i]? = some a → bs[i]? = some b → R a b) → Paired R as bs
  | [], [], _, _ => .nil
  | [], _ :: _, e, _ => by cases e
  | _ :: _, [], e, _ => by cases e
  | a :: as, b :: bs, e, h => .cons (h 0 a b rfl rfl) (pair_up (Nat.succ.inj e) fun i x y e1 e2 => h (i + 1) x y e1 e2)
theorem got_oV {x : Option Nat} : (x.map fun i => V.int ((0 + i : Nat) : Int)).getD .non = oV x := by
  cases x with
  | none => rfl
  | some i =>
    show V.int _ = V.int _
    rw [Nat.zero_add]
theorem idx_lt {ys : List Str} {w : Str} {i : Nat} (h : ys.idxOf? w = some i) : i < ys.length := (List.findIdx?_eq_some_iff_findIdx_eq.mp h).1
/-- what is at a place of a list that has grown by one -/
theorem grown {α : Type} {xs : List α} {x y : α} {i : Nat} (h : (xs ++ [x])[i]? = some y) : (i < xs.length ∧ xs[i]? = some y) ∨ (i = xs.length ∧ y = x) := by
  rcases Nat.lt_trichotomy i xs.length with lt | eq | gt
  · rw [List.getElem?_append_left lt] at h
    exact .inl ⟨lt, h⟩
  · subst eq
    rw [List.getElem?_append_right (Nat.le_refl _), Nat.sub_self] at h
    exact .inr ⟨rfl, (Option.some.inj h).symm⟩
  · rw [List.getElem?_eq_none (by rw [List.length_append]; exact gt)] at h
    cases h
end Wf
/-! error classes of one's own, called with values by position or by name (own work over the library's facts) -/
namespace PySem.VX
open PySem Builtin Builtin.ObjectAttr
/-- KeyError has no __new__ of its own: an error over it is made by LookupError's -/
abbrev keyMro : List Value := ["KeyError", "LookupError", "Exception", "BaseException", "object"].map .type
theorem key_stores : StoreFacts "KeyError" keyMro "object.__setattr__" "object" := {
  F.store_LookupError with
  mro := by kernel_rfl
  slot := .of (owner := "object") (n := "__setattr__") (by rw [typeLookup_type, builtinLookup_eq_fast] <;> kernel_rfl) (by decide +kernel) (by decide +kernel) (by decide +kernel) (.inl (by decide +kernel)) (by rw [isSubtype_type] <;> kernel_rfl)
  hasOwner := by decide +kernel
  passes := fun _ => by kernel_rfl }

/-- in the heap h: C is a class over the built-in error B whose objects newId makes -/
structure Xc (h : Heap) (C : Addr) (B newId : String) : Prop where
  ex : ∃ nm q N bs bm hd sn sub ab col dd k0 k1 k2 k3 k5 initId bm0, h.get? C = some (excClassObj nm q C N bs bm hd sn sub ab col dd k0 k1 k2 k3 k5 newId) ∧ ExcBaseFacts B newId initId bm0 ∧
    (Value.ref C :: bm).contains (.type B) = true ∧ (Value.ref C :: bm).contains (.type "AttributeError") = false ∧ (Value.ref C :: bm).contains (.type "NameError") = false
/-- the object that is made: its values in a tuple, then itself -/
abbrev two (h : Heap) (C : Addr) (us : List Value) : Heap := (h.push (W.kdv_tup us)).push (HandSPX.excO C h.objs.size)
theorem two_keeps {h : Heap} {C : Addr} {us : List Value} {b : Addr} {o : Obj} (e : h.get? b = some o) : (two h C us).get? b = some o := Heap.get?_push_of_some _ (Heap.get?_push_of_some _ e)
theorem two_at {h : Heap} {C : Addr} {us : List Value} : (two h C us).get? (h.objs.size + 1) = some (HandSPX.excO C h.objs.size) := by heap_get
section
variable {P : Program} {w : World} {A : Around} {E : Value → Shared → Prop} {R : Result → Shared → Prop} {h : Heap} {g : Array GenState} {d : Drawn} {t : Nat} {os : OsState} {C fI : Addr} {B newId : String} {us : List Value} {kw : List (Str × Value)}
theorem Xc.checked {Q : Unit → Shared → Prop} (X : Xc h C B newId) (q : Q () ⟨h, g, d, t, os⟩) : wpAny (model P w) A (checkBuiltinCall newId ⟨.ref C :: us, kw⟩) Q E ⟨h, g, d, t, os⟩ := by
  obtain ⟨_, _, _, _, _, _, _, _, _, _, _, _, _, _, _, _, _, _, at', FB, isB, _, _⟩ := X.ex
  have := FB.noStar
  simp only [checkBuiltinCall, FB.newRow, FB.newKind, FB.newSplit]
  repeat (first | (refine wpAny_isSubtype_exc at' ?_; rw [isB]) | refine wpAny_staticBase_exc at' ?_ | refine wpAny_madeBy_exc at' ?_ | refine wpAny_loadPart_at at' ?_ | simp only [Bool.false_eq_true, bne_self_eq_false, if_false] | wp_step)
  exact q
theorem Xc.fresh (X : Xc h C B newId) (hl : us.length ≤ sizeLine) (q : R (.ok (.ret (.ref (h.objs.size + 1)))) ⟨two h C us, g, d, t, os⟩) : codeAny (model P w) A (.builtin newId ⟨.ref C :: us, kw⟩) R ⟨h, g, d, t, os⟩ := by
  obtain ⟨_, _, _, _, _, _, _, _, _, _, _, _, _, _, _, _, _, _, at', FB, isB, noA, noN⟩ := X.ex
  have := FB.ends
  apply codeAny_builtinAt FB.entry
  unfold Builtin.«BaseException.__new__»
  apply wpAt_bind
  change wpAt _ _ _ (stack >>= _) _ _ _
  apply wpAt_bind
  apply wpAt_stack
  intro _ _
  apply wpAt_of_wpAny
  wp_walk
  apply wpAt_of_wpAny
  rw [FB.owner]
  repeat (first | with_reducible refine wpAny_loadPart_at at' ?_ | with_reducible refine wpAny_madeHere_exc FB.canon at' ?_ | (with_reducible refine wpAny_isSubtype_exc at' ?_; first | rw [noA] | rw [noN] | rw [isB]) | wp_step)
  change R _ _
  rw [Heap.size_push] <;> exact q
/-- what comes back from __init__ -/
abbrev Back (e : Addr) (Q : Value → Shared → Prop) (E : Value → Shared → Prop) : Result → Shared → Prop := fun r s' => match r with
  | .ok (.ret v) => v = .none ∧ Q (.ref e) s'
  | .ok _ => False
  | .error x => E x s'
theorem Xc.made {Q : Fin → Shared → Prop} (X : Xc h C B newId) (hl : us.length ≤ sizeLine) (finds : W.Looks (model P w) h (typeLookup (.ref C) "__init__") (some (.ref fI))) (binds : ∀ v, W.Looks (model P w) h (bindSpecial (.ref fI) v) (.ref fI, [v]))
    (q : codeAny (model P w) A (.call (.ref fI) ⟨.ref (h.objs.size + 1) :: us, kw⟩) (Back (h.objs.size + 1) (fun v => Q (.done (.ret v))) E) ⟨two h C us, g, d, t, os⟩) : wpAny (model P w) A (Builtin.«type.__call__» ⟨.ref C :: us, kw⟩) Q E ⟨h, g, d, t, os⟩ := by
  obtain ⟨_, _, _, _, bm, _, _, _, _, _, _, _, _, _, _, _, _, _, at', FB, _, _, _⟩ := X.ex
  repeat (first | with_reducible refine wpAny_madeBy_exc at' ?_ | with_reducible refine wpAny_loadPart_at at' ?_ | wp_step)
  refine codeAny_call_builtin_code (Code.quiet_builtin _ FB.quiet) (X.checked (X.fresh hl ?_))
  change wpAny _ _ _ _ _ _
  have later := two_keeps (C := C) (us := us) at'
  have self : (Value.ref C :: bm).contains (.ref C) = true := by rw [List.contains_cons, beq_self_eq_true, Bool.true_or]
  have f2 := finds.keeps fun _ _ => two_keeps (C := C) (us := us)
  have b2 := (binds (.ref (h.objs.size + 1))).keeps fun _ _ => two_keeps (C := C) (us := us)
  unfold isInstance
  repeat (first | with_reducible refine wpAny_loadPart_at two_at ?_ | (with_reducible refine wpAny_isSubtype_exc later ?_; rw [self]) | wp_step)
  change wpAny _ _ (typeLookup (.ref C) _) _ _ _
  apply f2.at
  apply wpAny_holding
  apply wpAny_bind
  apply b2.at
  refine wpAny_bind (wpAny_call (codeAny_mono q ?_))
  intro r s' back
  match r, back with
  | .error _, back => exact back
  | .ok (.ret _), ⟨rfl, back⟩ => first | exact wpAny_pure (wpAny_pure back) | (wp_walk; exact back)
/-- C(..): an object of C, given to its __init__ -/
theorem Xc.call (X : Xc h C B newId) (hl : us.length ≤ sizeLine) (finds : W.Looks (model P w) h (typeLookup (.ref C) "__init__") (some (.ref fI))) (binds : ∀ v, W.Looks (model P w) h (bindSpecial (.ref fI) v) (.ref fI, [v]))
    (q : codeAny (model P w) (A.under (.builtin "type.__call__" ⟨.ref C :: us, kw⟩)) (.call (.ref fI) ⟨.ref (h.objs.size + 1) :: us, kw⟩) (Back (h.objs.size + 1) (fun v s' => R (.ok (.ret v)) s') fun x s' => R (.error x) s') ⟨two h C us, g, d, t, os⟩) :
    codeAny (model P w) A (.call (.ref C) ⟨us, kw⟩) R ⟨h, g, d, t, os⟩ := by
  obtain ⟨_, _, _, _, _, _, _, _, _, _, _, _, _, _, _, _, _, _, at', _⟩ := X.ex
  have isT : Shared.TypeIs ⟨h, g, d, t, os⟩ (.ref C) "type" := ⟨_, at', rfl⟩
  have l1 := tc_lookup
  have l2 := tc_bind (.ref C)
  apply codeAny_of_tree
  change wpAny _ _ (callAny (.ref C) _) _ _ _
  repeat (any_goals (first | assumption | with_reducible refine wpAny_loadPart_at at' ?_ | wp_step))
  exact ⟨rfl, codeAny_call_builtin_at (Code.quiet_builtin _ (by decide +kernel)) entry_typeCall (wpAny_check_type_call_sub at' (X.made hl finds binds (codeAny_mono q fun r s' z => match r, z with
    | .error _, z => z
    | .ok (.ret _), z => z)))⟩
end
end PySem.VX
/-! errors of classes of one's own as values: made (by position, by name), their one field stored and read -/
namespace PySem.VX
open PySem.W PyProof.Rows Builtin Builtin.ObjectAttr
/-- what has happened when an object's first field is stored: a dict at dx, named by the object, holds it -/
structure Fld (h h' : Heap) (x dx : Addr) (o : Obj) (f : Str) (v : Value) : Prop where
  keep : ∀ b u, b ≠ x → h.get? b = some u → h'.get? b = some u
  new : h.get? dx = none
  ne : dx ≠ x
  obj : h'.get? x = some { o with dict := some dx }
  dict : h'.Ns1 dx fun y => if y = f then some v else none
section
variable {P : Program} {w : World} {A : Around} {R : Result → Shared → Prop} {h : Heap} {g : Array GenState} {d : Drawn} {t : Nat} {os : OsState} {B : String} {bmB : List Value} {K : W.Frag} {f : Str} {tk : Tok} {v c2 : Value} {x C ta : Addr}
/-- self.f = v where self has no dict: by the library's first half, then the dict is made and filled -/
theorem first_field (SF : StoreFacts B bmB "object.__setattr__" "object") (KI : K.In h) (hx : h.get? x = some (excObj C ta none c2)) (over : excOver K C bmB = true) (hasD : hasDictIn K C = true) (free : takerIn K C f = some none)
    (q : ∀ h' tk' dx, Fld h h' x dx (excObj C ta none c2) f v → R (.ok (.ret .none)) ⟨h', g, d, tk', os⟩) : codeAny (model P w) A (.call (.builtin "object.__setattr__") ⟨[.ref x, .str f tk, v], []⟩) R ⟨h, g, d, t, os⟩ := by
  have lt := Heap.lt_size hx
  refine osa_openX (s := ⟨h, g, d, t, os⟩) (od := none) SF KI ⟨hx, rfl, rfl, trivial⟩ over free fun b => wpAny_bind (wpAny_pure (wpAny_bind ?_))
  obtain ⟨cd, isC, hasD⟩ := any_some hasD
  refine instanceDict_exc (s := ⟨h, g, d, t, os⟩) hx (looks_clsIn KI isC) hasD ?_
  have dictAt : ((h.push (dictOf [] 0)).update x fun o => { o with dict := some h.objs.size }).get? h.objs.size = some (dictOf [] 0) := by
    rw [Heap.get?_update_other _ _ (Nat.ne_of_lt lt)]
    exact Heap.get?_push_size _ rfl
  have objAt : ((h.push (dictOf [] 0)).update x fun o => { o with dict := some h.objs.size }).get? x = some { excObj C ta none c2 with dict := some h.objs.size } := Heap.get?_update_self _ (Heap.get?_push_of_some _ hx) rfl
  refine HandSPX.store_in_new ⟨_, #[], 0, dictAt, rfl, fun e he => absurd he (by simp), fun _ => rfl⟩ fun h' tk' filled same => q h' tk' h.objs.size ?_
  exact {
    keep := fun b u nb e => by
      rw [same.2 b (Nat.ne_of_lt (Heap.lt_size e)), Heap.get?_update_other _ _ (Ne.symm nb)]
      exact Heap.get?_push_of_some _ e
    new := Heap.StaysIn.fresh (base := h) (h := h) fun _ _ z => z
    ne := Nat.ne_of_gt lt
    obj := (same.2 x (Nat.ne_of_lt lt)).trans objAt
    dict := filled }
end
end PySem.VX

namespace Wf
open PySem PySem.Spec PyProof.Rows L2
/-- a built-in error that errors of one's own may stand over -/
structure VxB (bmB : List Value) (newId : String) : Prop where
  sf : ∃ B, StoreFacts B bmB "object.__setattr__" "object"
  nw : ∃ B initId bm0, ExcBaseFacts B newId initId bm0 ∧ bmB.contains (.type B) = true
  na : bmB.contains (.type "AttributeError") = false
  nn : bmB.contains (.type "NameError") = false
abbrev mroV : List Value := [.type "ValueError", .type "Exception", .type "BaseException", .type "object"]
abbrev mroK : List Value := PySem.VX.keyMro
abbrev mroL : List Value := [.type "LookupError", .type "Exception", .type "BaseException", .type "object"]
abbrev mroI : List Value := [.type "IndexError", .type "LookupError", .type "Exception", .type "BaseException", .type "object"]
abbrev mroA : List Value := [.type "ArithmeticError", .type "Exception", .type "BaseException", .type "object"]
theorem vxb_V : VxB mroV "ValueError.__new__" := ⟨⟨_, F.store_ValueError⟩, ⟨_, _, _, F.excBase_ValueError, by decide +kernel⟩, by decide +kernel, by decide +kernel⟩
theorem vxb_K : VxB mroK "LookupError.__new__" := ⟨⟨_, PySem.VX.key_stores⟩, ⟨_, _, _, F.excBase_LookupError, by decide +kernel⟩, by decide +kernel, by decide +kernel⟩
theorem vxb_L : VxB mroL "LookupError.__new__" := ⟨⟨_, F.store_LookupError⟩, ⟨_, _, _, F.excBase_LookupError, by decide +kernel⟩, by decide +kernel, by decide +kernel⟩
theorem vxb_I : VxB mroI "IndexError.__new__" := ⟨⟨_, F.store_IndexError⟩, ⟨_, _, _, F.excBase_IndexError, by decide +kernel⟩, by decide +kernel, by decide +kernel⟩
theorem vxb_A : VxB mroA "ArithmeticError.__new__" := ⟨⟨_, F.store_ArithmeticError⟩, ⟨_, _, _, F.excBase_ArithmeticError, by decide +kernel⟩, by decide +kernel, by decide +kernel⟩
/-- what the written part says of an error class -/
structure VxC (K : PySem.W.Frag) (C : Addr) : Prop where
  over : ∃ bmB newId, VxB bmB newId ∧ PySem.W.excInitIn K C bmB newId = true ∧ PySem.W.excOver K C bmB = true
  sa : PySem.W.findIn K (.ref C) "__setattr__" = some (some (.builtin "object.__setattr__"))
  kC : PySem.W.keepIn K (.ref C) = true
  is : ExcC K C
/-- at a: an error of the class at C with its field f, the value y -/
def Ve (H : Hp) (a C : Addr) (f : Str) (y : V) : Prop := ∃ d, H a = some (exo a C (some d)) ∧ H d = some (exd d [(f, y)])
theorem Ve.same {H H' : Hp} {a C : Addr} {f : Str} {y : V} (h : Ve H a C f y) (s : Same H H') : Ve H' a C f y := let ⟨d, e1, e2⟩ := h; ⟨d, s _ _ e1, s _ _ e2⟩
def spInit (K : PySem.W.Frag) (f : Str) : Sp := fun vs H Q _ => ∃ (a C : Addr) (y : V), vs = [.ref a, y] ∧ H a = some (exo a C none) ∧ VxC K C ∧ PySem.W.takerIn K C f = some none ∧
  ∀ d, H d = none → d ≠ a → Q .non (upd (upd H d (exd d [(f, y)])) a (exo a C (some d)))
/-- self.f = e, the first one -/
def tOv (K : PySem.W.Frag) (f : Str) (to te : TE) : TS := fun D σ H => te σ H fun y H1 => to σ H1 fun x H2 => ∃ a C : Addr, x = .ref a ∧ VxC K C ∧ PySem.W.takerIn K C f = some none ∧
  H2 a = some (exo a C none) ∧ ∀ dx, H2 dx = none → dx ≠ a → D.nx σ (upd (upd H2 dx (exd dx [(f, y)])) a (exo a C (some dx)))
section
variable {X : Cx} {pins : List (Addr × Obj)} {σ : L2.St} {H : Hp} {s : Shared} {a C dx : Addr} {f : Str} {y : V} {u : Value} {Q : Unit → Shared → Prop} {E : Value → Shared → Prop} {A : Around}
/-- the heap that is told of, when an error's first field is stored -/
abbrev told (H : Hp) (a C dx : Addr) (f : Str) (y : V) : Hp := upd (upd H dx (exd dx [(f, y)])) a (exo a C (some dx))
theorem fielded {hp h' : Heap} {g : Array GenState} {dr : Drawn} {t t' : Nat} {os : OsState} {ta : Addr} (I : Inv X pins σ H ⟨hp, g, dr, t, os⟩) (e : H a = some (exo a C none)) (F : PySem.VX.Fld hp h' a dx (PySem.W.excObj C ta none .none) f u) (ry : RelV y u) :
    H dx = none ∧ Inv X pins σ (told H a C dx f y) ⟨h', g, dr, t', os⟩ := by
  have gone : H dx = none := I.hok.gone F.new
  have off : ∀ {b : Addr}, H b = none → b ≠ a := fun n z => by cases (z ▸ n).symm.trans e
  have old : ∀ {b : Addr} {o : Obj}, hp.get? b = some o → b ≠ dx := fun q z => by cases (z ▸ q).symm.trans F.new
  have seen : ∀ {b : Addr} {o : HO}, H b = some o → exo a C none ≠ o → told H a C dx f y b = some o := fun q n => (upd_ne (at_ne e q n)).trans ((upd_ne (ne_of_none q gone)).trans q)
  have there : ∃ o, h'.get? a = some o := ⟨_, F.obj⟩
  refine ⟨gone, I.un (t' := t') ⟨fun b o q n _ _ => F.keep b o (off n) q, fun b o q n _ _ => ⟨_, F.keep b o (off n) q⟩, fun b o q n _ => (upd_ne (off n)).trans ((upd_ne (old q)).trans n),
    fun b o q _ => (Decidable.em (b = a)).elim (fun z => z ▸ there) fun z => ⟨o, F.keep b o z q⟩, fun b xs q => seen q exo_tup, fun b o v q => seen q exo_frz, fun b ps q => ⟨#[], by rw [seen q exo_tbl, Array.append_empty]⟩⟩ fun b o q => ?_⟩
  rcases Decidable.em (b = a) with rfl | nb
  · cases upd_same.symm.trans q
    exact exo_ok F.obj
  rcases Decidable.em (b = dx) with rfl | nd
  · cases ((upd_ne nb).trans upd_same).symm.trans q
    exact exd_ok F.dict (relO_put (fs := []) ry fun _ => trivial)
  · have was : H b = some o := (upd_ne nd).symm.trans ((upd_ne nb).symm.trans q)
    exact (I.hok b o was).stay (fun c v hc z => F.keep c v (hc.elim (fun y => y ▸ nb) fun y => at_ne e y exo_own) z) (fun c hc => seen hc exo_own) fun c xs hc => seen hc exo_tup
theorem ov_new (T : VxC X.K C) (I : Inv X pins σ H s) (e : H a = some (exo a C none)) (hno : PySem.W.takerIn X.K C f = some none) (ry : RelV y u) (h : ∀ dx s', H dx = none → dx ≠ a → Inv X pins σ (told H a C dx f y) s' → Q () s') :
    wpAny (model X.prog X.w) A (setAttr (.ref a) f u) Q E s := by
  obtain ⟨_, _, VB, _, over⟩ := T.over
  obtain ⟨_, SF⟩ := VB.sf
  obtain ⟨ta, at'⟩ := exo_at I.hok e
  obtain ⟨_, _, _, _, _⟩ := s
  refine PySem.W.set_plain (od := none) I.kIn ⟨at', rfl, rfl, trivial⟩ T.sa (PySem.VX.first_field SF I.kIn at' over T.is.hd hno fun h' tk' dx F => ?_)
  obtain ⟨gone, J⟩ := fielded (t' := tk') I e F ry
  exact h dx _ gone F.ne J
variable {o e : Expr} {to te : TE} {p p' pos : Pos}
theorem ps_ov (ho : PE X o to) (he : PE X e te) (hs : swapsWith e (some (.Attribute o f p')) pos.line X.env = pure false := by rfl) : PS X (.Assign [.Attribute o f p'] e pos) (tOv X.K f to te) := by
  refine ⟨fun pins s σ H D I h => ?_⟩
  refine plainObj_wpAny_Assign_Attribute (thn (he.run pins s σ H _ I h) fun v s1 ⟨y, H1, I1, r1, q1⟩ => thn (ho.run pins s1 σ H1 _ I1 q1) fun u s2 ⟨x, H2, I2, r2, a, C, ex, T, hno, ea, q⟩ => ?_) hs
  subst ex
  obtain rfl : u = Value.ref a := r2
  exact ov_new T I2 ea hno r1 fun dx s' n ne J => ⟨σ, _, J, q dx n ne⟩
end
/-- C(e), C(f=e): an error of the class at C -/
def tMkV (C : Addr) (f : Str) (te : TE) : TE := fun σ H Q => te σ H fun y H1 => ∀ a H', Same H1 H' → H1 a = none → Ve H' a C f y → Q (.ref a) H'
def tMkN (C : Addr) (f : Str) (te : TE) : TE := fun σ H Q => te σ H fun y H1 => ∀ a d H', Same H1 H' → H1 a = none → H1 d = none → H' a = some (exo a C (some d)) → H' d = some (exd d [(f, y)]) → Q (.ref a) H'
section
variable {X : Cx} {pins : List (Addr × Obj)} {σ : L2.St} {H1 : Hp} {s1 : Shared} {C fI : Addr} {fd : FuncData} {k : Nat} {f : Str} {y : V} {u : Value} {Q : VK} {x : Str} {e : Expr} {te : TE} {p pos kp : Pos}
theorem ve_callN {us : List Value} {kw : List (Str × Value)} (T : VxC X.K C) (iC : PySem.W.findIn X.K (.ref C) "__init__" = some (some (.ref fI))) (tI : PySem.W.typeIn X.K (.ref fI) = some (.type "function")) (D : FnOk X.prog X.w X.K X.mg X.base CX0 k fI fd ["self", f] (spInit X.K f)) (hr : Room (k + 1) X.A)
    (hno : PySem.W.takerIn X.K C f = some none) (bt : ∀ (t : Shared) (v : Value), X.K.In t.heap → BindsTo t fd ⟨v :: us, kw⟩ (List.zip (["self", f] : List Str) [v, u])) (hl : us.length ≤ 1000) (I : Inv X pins σ H1 s1) (ry : RelV y u)
    (q : ∀ a d H', Same H1 H' → H1 a = none → H1 d = none → H' a = some (exo a C (some d)) → H' d = some (exd d [(f, y)]) → Q (.ref a) H') : wpAny (model X.prog X.w) X.A (call (.ref C) us kw) (EP X pins σ Q) X.xe s1 := by
  obtain ⟨bmB, newId, VB, hi, _⟩ := T.over
  obtain ⟨B, _, _, FB, isB⟩ := VB.nw
  obtain ⟨hp, g, dr, tk, os⟩ := s1
  have XC : PySem.VX.Xc hp C B newId := by
    obtain ⟨nm, N', qn, bs, bm, hd, sn, sub, ab, col, dd, k0, k1, k2, k3, k5, at', like⟩ := PySem.W.excInit_of I.kIn hi
    exact ⟨_, _, _, _, _, _, _, _, _, _, _, _, _, _, _, _, _, _, at', FB, by rw [List.contains_cons, like, isB, Bool.or_true], by rw [List.contains_cons, like, VB.na] <;> rfl, by rw [List.contains_cons, like, VB.nn] <;> rfl⟩
  -- the new object
  obtain ⟨e, ee⟩ : ∃ e, e = hp.objs.size + 1 := ⟨_, rfl⟩
  have big : hp.objs.size ≤ e := by omega
  have gone : H1 e = none := I.hok.fresh big
  have J := I.laid (t' := tk) (a := e) (o := exo e C none) (fun _ _ => PySem.VX.two_keeps (C := C) (us := us)) big (exo_ok (t1 := hp.objs.size) (by rw [ee]; exact PySem.VX.two_at))
  refine wpAny_call (XC.call (by rw [sizeLine_eq]; omega) (PySem.W.looks_findIn I.kIn iC) (fun v => PySem.W.bind_fn I.kIn v tI) ?_)
  rw [← ee]
  -- its __init__
  refine codeAny_mono (D.run (vs := [.ref e, y]) (us := [.ref e, u]) (Q := fun v H2 => v = .non ∧ ∃ d, H1 d = none ∧ d ≠ e ∧ H2 = told (upd H1 e (exo e C none)) e C d f y) (E := fun _ _ _ => False) _ X.stack _ _ _ (hr.make C us kw) (J.env0.make C us kw) (bt _ _ J.kIn) (.cons rfl (.cons ry .nil))
    ⟨e, C, y, rfl, upd_same, T, hno, fun d nd ne => ⟨rfl, d, (upd_ne ne).symm.trans nd, ne, rfl⟩⟩) fun r s' back => ?_
  match r, back with
  | .ok (.ret _), back =>
    obtain ⟨_, _, J2, rel, rfl, d, nd, ne, rfl⟩ := J.after back
    refine ⟨rel, .ref e, _, J2, rfl, q e d _ (fun b o z => ?_) gone nd upd_same ((upd_ne ne).trans upd_same)⟩
    exact (upd_ne (ne_of_none z gone)).trans ((upd_ne (ne_of_none z nd)).trans ((upd_ne (ne_of_none z gone)).trans z))
theorem ve_call {us : List Value} {kw : List (Str × Value)} (T : VxC X.K C) (iC : PySem.W.findIn X.K (.ref C) "__init__" = some (some (.ref fI))) (tI : PySem.W.typeIn X.K (.ref fI) = some (.type "function")) (D : FnOk X.prog X.w X.K X.mg X.base CX0 k fI fd ["self", f] (spInit X.K f)) (hr : Room (k + 1) X.A)
    (hno : PySem.W.takerIn X.K C f = some none) (bt : ∀ (t : Shared) (v : Value), X.K.In t.heap → BindsTo t fd ⟨v :: us, kw⟩ (List.zip (["self", f] : List Str) [v, u])) (hl : us.length ≤ 1000) (I : Inv X pins σ H1 s1) (ry : RelV y u)
    (q : ∀ a H', Same H1 H' → H1 a = none → Ve H' a C f y → Q (.ref a) H') : wpAny (model X.prog X.w) X.A (call (.ref C) us kw) (EP X pins σ Q) X.xe s1 :=
  ve_callN T iC tI D hr hno bt hl I ry fun a d H' s n _ e1 e2 => q a H' s n ⟨d, e1, e2⟩
/-- what the text says of an error class with one field, by its name -/
structure Vn (P : Program) (w : World) (K : PySem.W.Frag) (mg : Str → Option Value) (base : Heap) (x : Str) (C : Addr) (f : Str) : Prop where
  cls : VxC K C
  gC : mg x = some (.ref C)
  no : PySem.W.findIn K (.ref C) f = some none
  init : ∃ (fI : Addr) (fd : FuncData), PySem.W.findIn K (.ref C) "__init__" = some (some (.ref fI)) ∧ PySem.W.typeIn K (.ref fI) = some (.type "function") ∧ FnOk P w K mg base CX0 1 fI fd ["self", f] (spInit K f) ∧
    (∀ (t : Shared) (v u : Value), BindsTo t fd ⟨[v, u], []⟩ (List.zip (["self", f] : List Str) [v, u])) ∧ ∀ (t : Shared) (v u : Value), BindsTo t fd ⟨[v], [(f, u)]⟩ (List.zip (["self", f] : List Str) [v, u])
theorem taker_of {K : PySem.W.Frag} {C : Addr} {f : Str} (h : PySem.W.findIn K (.ref C) f = some none) : PySem.W.takerIn K C f = some none := by
  unfold PySem.W.takerIn
  rw [h]
  rfl
theorem pe_vpos (N : Vn X.prog X.w X.K X.mg X.base x C f) (hr : Room 2 X.A) (he : PE X e te) (hg : Gl X x := by rfl) (hs : starEach [e] X.env = (false, eval e X.env) :: starEach [] X.env := by rfl) (hdb : (x == ("__debug__" : Str)) = false := by decide) :
    PE X (.Call (.Name x p) [e] [] pos) (tMkV C f te) := by
  obtain ⟨fI, fd, iC, tI, F1, hb, _⟩ := N.init
  refine ⟨fun pins s σ H Q I h => ?_⟩
  refine wpAny_Call_Name_kw (ld_glob I hg N.gC ?_ hdb)
  refine PySem.W.callWith_K (h₀ := X.base) I.ok.mod.kin N.cls.kC ?_ hs (by rfl)
  rw [hs]
  change wpAny _ _ (spliced (_ :: backTo pos (starEach [] X.env))) _ _ _
  exact Calls.spliced_cons (thn (he.run pins s σ H _ I h) fun u _ ⟨_, _, J, ry, q⟩ => Calls.spliced_nil ⟨J.kIn, ve_call N.cls iC tI F1 hr (taker_of N.no) (fun t v _ => hb t v u) (by show 1 ≤ 1000; omega) J ry q⟩)
theorem pe_vposN (N : Vn X.prog X.w X.K X.mg X.base x C f) (hr : Room 2 X.A) (he : PE X e te) (hg : Gl X x := by rfl) (hs : starEach [e] X.env = (false, eval e X.env) :: starEach [] X.env := by rfl) (hdb : (x == ("__debug__" : Str)) = false := by decide) :
    PE X (.Call (.Name x p) [e] [] pos) (tMkN C f te) := by
  obtain ⟨fI, fd, iC, tI, F1, hb, _⟩ := N.init
  refine ⟨fun pins s σ H Q I h => ?_⟩
  refine wpAny_Call_Name_kw (ld_glob I hg N.gC ?_ hdb)
  refine PySem.W.callWith_K (h₀ := X.base) I.ok.mod.kin N.cls.kC ?_ hs (by rfl)
  rw [hs]
  change wpAny _ _ (spliced (_ :: backTo pos (starEach [] X.env))) _ _ _
  exact Calls.spliced_cons (thn (he.run pins s σ H _ I h) fun u _ ⟨_, _, J, ry, q⟩ => Calls.spliced_nil ⟨J.kIn, ve_callN N.cls iC tI F1 hr (taker_of N.no) (fun t v _ => hb t v u) (by show 1 ≤ 1000; omega) J ry q⟩)
theorem pe_vkw (N : Vn X.prog X.w X.K X.mg X.base x C f) (hr : Room 2 X.A) (he : PE X e te) (hg : Gl X x := by rfl) (hdb : (x == ("__debug__" : Str)) = false := by decide)
    (hall : (backToKw pos (keywordEach [⟨some f, e, kp⟩] X.env)).all (·.1.isSome) = true := by rfl) (hks : (backToKw pos (keywordEach [⟨some f, e, kp⟩] X.env)).filterMap (·.1) = [f] := by rfl)
    (hpl : ((backTo pos (starEach [] X.env)).any (·.1) || (backToKw pos (keywordEach [⟨some f, e, kp⟩] X.env)).any (·.1.isNone)) = false := by rfl) :
    PE X (.Call (.Name x p) [] [⟨some f, e, kp⟩] pos) (tMkV C f te) := by
  obtain ⟨fI, fd, iC, tI, F1, _, hb⟩ := N.init
  refine ⟨fun pins s σ H Q I h => ?_⟩
  refine wpAny_Call_Name_kw (ld_glob I hg N.gC ?_ hdb)
  refine PySem.W.callWith_KW0 (h₀ := X.base) I.ok.mod.kin N.cls.kC hall ?_ hpl
  have K1 : PK X [⟨some f, e, kp⟩] (tCons te tNil) := pk_cons he pk_nil
  refine thn (K1.run pos pins s σ H (fun vs H1 => match vs with | [y] => ∀ a H', Same H1 H' → H1 a = none → Ve H' a C f y → Q (.ref a) H' | _ => False) I h) fun ws s1 ⟨vs, H1, I1, rz, q1⟩ => ?_
  match vs, rz, q1 with
  | [], _, q1 => exact q1.elim
  | _ :: _ :: _, _, q1 => exact q1.elim
  | [y], rz, q1 =>
  obtain ⟨u, rfl, r1⟩ := vals1 rz
  refine ⟨I1.kIn, ?_⟩
  rw [hks]
  exact ve_call N.cls iC tI F1 hr (taker_of N.no) (fun t v _ => hb t v u) (by show 0 ≤ 1000; omega) I1 r1 q1
end
end Wf
namespace Wf
open PySem PySem.Spec PyProof.Rows L2
/-- e.f, e an error as a value -/
def tVf (K : PySem.W.Frag) (f : Str) (te : TE) : TE := fun σ H Q => te σ H fun x H1 => ∃ (a C : Addr) (y : V), x = .ref a ∧ VxC K C ∧ PySem.W.findIn K (.ref C) f = some none ∧ Ve H1 a C f y ∧ Q y H1
section
variable {X : Cx} {e : Expr} {te : TE} {pos : Pos} {f : Str}
theorem pe_vf (he : PE X e te) (hb : attributeBase e f X.env (eval e X.env) = eval e X.env := by rfl) : PE X (.Attribute e f pos) (tVf X.K f te) := by
  refine ⟨fun pins s σ H Q I h => ?_⟩
  refine attr_of hb (thn (he.run pins s σ H _ I h) fun u s1 ⟨x, H1, I1, rx, a, C, y, ex, T, hno, ⟨d, ea, ed⟩, q⟩ => ?_)
  subst ex
  obtain rfl : u = Value.ref a := rx
  obtain ⟨t1, ho1⟩ := exo_at I1.hok ea
  obtain ⟨mA, hns, hr⟩ := exd_at I1.hok ed
  obtain ⟨od, ho, hl⟩ := lookIn_ns hns
  obtain ⟨u, hu, ru⟩ := RelO.some_of (v := y) (o := mA f) (by have z := hr f; rw [lookup_put, if_pos rfl] at z; exact z)
  have J : PySem.W.InstAt s1.heap a _ C (some od) := ⟨ho1, rfl, rfl, ho⟩
  exact HandSPX.exc_get I1.kIn J T.is.hg T.is.hk T.is.hs (PySem.W.findObj_own T.is.hd hno rfl (by rw [hl, hu])) (handed_of ru) ⟨y, H1, I1.tok _, ru, q⟩
end
/-! ### errors without a field -/
structure Vn0 (K : PySem.W.Frag) (mg : Str → Option Value) (x : Str) (C : Addr) : Prop where
  cls : ∃ B newId initId bmB, ExcBaseFacts B newId initId bmB ∧ PySem.W.excIn K C bmB newId = true
  is : ExcC K C
  kC : PySem.W.keepIn K (.ref C) = true
  gC : mg x = some (.ref C)
/-- at a: an error of the class at C without a field -/
def Ve0 (H : Hp) (a C : Addr) : Prop := H a = some (ExO (.ref C) a)
theorem Ve0.same {H H' : Hp} {a C : Addr} (h : Ve0 H a C) (s : Same H H') : Ve0 H' a C := s _ _ h
section
variable {X : Cx} {C : Addr} {x : Str} {p pos : Pos}
theorem pe_v0 (N : Vn0 X.K X.mg x C) (hg : Gl X x := by rfl) (hdb : (x == ("__debug__" : Str)) = false := by decide) :
    PE X (.Call (.Name x p) [] [] pos) (fun _ H Q => ∀ a, H a = none → Q (.ref a) (upd H a (ExO (.ref C) a))) := by
  obtain ⟨B, newId, initId, bmB, F, q⟩ := N.cls
  refine ⟨fun pins s σ H Q I h => ?_⟩
  refine wpAny_Call_Name_kw (ld_glob I hg N.gC ?_ hdb)
  refine PySem.W.callWith_K0 I.kIn N.kC ?_
  show wpAny _ _ (call (.ref C) []) _ _ _
  obtain ⟨bm, N', nm, qn, bs, hdct, sn, sub, ab, col, dd, k0, k1, k2, k3, k5, mN, hC, hN, hni, T⟩ := exc_obj I.kIn q
  refine wpAny_call_exc_subT F T hC hN hni (fun h' a hm => ?_) (by show 0 ≤ sizeLine; rw [sizeLine_eq]; omega)
  have hn : H a = none := I.hok.gone hm.new
  obtain ⟨t, ht, _, _⟩ := hm.there
  exact ⟨.ref a, upd H a (ExO (.ref C) a), I.laidN hm.keeps hm.new hn (exO_ok ht ⟨rfl, rfl⟩ rfl rfl rfl (show 4 < 6 by decide)), rfl, h a hn⟩
end
/-! ### isinstance(e, T) -/
/-- at a: an error of the class at C -/
def VeA (H : Hp) (a C : Addr) : Prop := Ve0 H a C ∨ ∃ f y, Ve H a C f y
def rVi (K : PySem.W.Frag) : List V → Hp → VK → Prop := fun xs H Q => ∃ (a C : Addr) (T : String) (b : Bool), xs = [.ref a, .ty T] ∧ ExcC K C ∧ VeA H a C ∧ PySem.W.kitOne K (.ref C) (.type T) = some b ∧ Q (.bl b) H
section
variable {X : Cx}
theorem ex_isSome {K : PySem.W.Frag} {C : Addr} (h : PySem.W.hasDictIn K C = true) : (PySem.W.clsIn K C).isSome = true := by
  obtain ⟨cd, hc, _⟩ := PySem.W.any_some h
  rw [hc]
  rfl
theorem call_vi : CallR X (.builtin "isinstance") (rVi X.K) := by
  intro pins s σ H xs us Q I r h
  obtain ⟨a, C, T, b, rfl, E, hv, e, q⟩ := h
  obtain ⟨u1, u2, rfl, r1, r2⟩ := vals2 r
  obtain rfl : u1 = Value.ref a := r1
  obtain rfl : u2 = Value.type T := r2
  have fin : ∀ {ox : Obj} {od : Option Obj}, PySem.W.InstAt s.heap a ox C od → wpAny (model X.prog X.w) X.A (call (.builtin "isinstance") [.ref a, .type T]) (EP X pins σ Q) X.xe s := fun {ox od} J =>
    PySem.W.kia_one (PySem.W.kitx_exc (ex_isSome E.hd) E.hg E.hk E.hs E.ha E.hn E.ht E.hm) I.kIn J e (fun z => nomatch z) fun tk => ⟨.bl b, H, I.tok tk, rfl, q⟩
  rcases hv with h0 | ⟨f, y, d, ea, ed⟩
  · obtain ⟨⟨oe, vs, ho, hz, hd, _⟩, _, _⟩ := (show ObjOk X.prog X.w H s.heap a (ExO (.ref C) a) from I.hok a _ h0)
    exact fin (ox := oe) (od := none) ⟨ho, hz.1, by unfold PySem.W.notCls; rw [hd] <;> rfl, by rw [hz.2]; trivial⟩
  · obtain ⟨t1, ho1⟩ := exo_at I.hok ea
    obtain ⟨mA, hns, hr⟩ := exd_at I.hok ed
    obtain ⟨od, ho, _⟩ := lookIn_ns hns
    exact fin (od := some od) ⟨ho1, rfl, rfl, ho⟩
end
/-- a built-in class by its name -/
theorem pe_ty {X : Cx} {x : Str} {T : String} {pos : Pos} (hm : X.mg x = none) (hv : bootBuiltins x = some (.type T)) (hg : Gl X x := by rfl) (hn : x ≠ "__name__" := by decide) (hd : (x == ("__debug__" : Str)) = false := by decide) : PE X (.Name x pos) (tC (.ty T)) :=
  pe_bltn hg hm hv rfl hn hd
/-- which of the six groups an error's class is in -/
structure Grp (K : PySem.W.Frag) (C : Addr) (b1 b2 b3 b4 b5 b6 : Bool) : Prop where
  ex : ExcC K C
  g1 : PySem.W.kitOne K (.ref C) (.type "ValueError") = some b1
  g2 : PySem.W.kitOne K (.ref C) (.type "KeyError") = some b2
  g3 : PySem.W.kitOne K (.ref C) (.type "IndexError") = some b3
  g4 : PySem.W.kitOne K (.ref C) (.type "ArithmeticError") = some b4
  g5 : PySem.W.kitOne K (.ref C) (.type "TypeError") = some b5
  g6 : PySem.W.kitOne K (.ref C) (.type "RuntimeError") = some b6
end Wf
namespace Wf
open PySem PySem.Spec PyProof.Rows L2
/-! ### repr of data, and of dicts of whole numbers -/
def keyP : Key → PyData
  | .inl i => .int i
  | .inr x => .str x
/-- a dict of whole numbers -/
def dkI (ks : List (Key × Int)) : HO := .dK (ks.map fun p => (p.1, V.int p.2))
def dataI (ks : List (Key × Int)) : PyData := .dict (ks.map fun p => (keyP p.1, PyData.int p.2))
theorem reads_pairs {P : Program} {w : World} {h : Heap} : ∀ {ks : List (Key × Int)} {es : List DictEntry} {vs : List (Key × Value)}, KV (ks.map fun p => (p.1, V.int p.2)) vs → Pairs (mixKind P w) es vs →
    ReadsAll h (es.map (·.key)) (ks.map fun p => keyP p.1) [] ∧ ReadsAll h (es.map (·.val)) (ks.map fun p => PyData.int p.2) []
  | [], es, vs, kv, pr => by
    cases kv
    cases pr
    exact ⟨.nil, .nil⟩
  | (k, i) :: ks, es, vs, kv, pr => by
    cases kv with
    | @cons _ q _ qs h t =>
      cases pr with
      | @cons e _ es' _ hk hv hr =>
        obtain ⟨a, b⟩ := reads_pairs t hr
        obtain ⟨h1, h2⟩ := h
        obtain ⟨tk, h2⟩ := h2
        have h1 : k = q.1 := h1
        have hk : keyIs q.1 e.key = true := hk
        rw [← h1] at hk
        refine ⟨?_, ?_⟩
        · have one : Reads h e.key (keyP k) [] := by
            rcases keyIs_shape hk with ⟨j, t, rfl, e2⟩ | ⟨y, t, rfl, e2⟩
            · rw [e2]; exact .int _ _
            · rw [e2]; exact .str _ _
          exact ReadsAll.cons (as := []) (bs := []) one a
        · have one : Reads h e.val (PyData.int i) [] := by
            rw [hv, h2]
            exact .int _ _
          exact ReadsAll.cons (as := []) (bs := []) one b
/-- what can be shown: data, or a dict of whole numbers -/
inductive Rp (K : PySem.W.Frag) (H : Hp) : V → PyData → Prop
  | dp {v : V} {d : PyData} : Dp K H v d → Rp K H v d
  | dk {a : Addr} {ks : List (Key × Int)} : H a = some (dkI ks) → Rp K H (.ref a) (dataI ks)
theorem Rp.same {K : PySem.W.Frag} {H H' : Hp} {v : V} {d : PyData} (r : Rp K H v d) (s : Same H H') : Rp K H' v d := by
  cases r with
  | dp h => exact .dp ((Stay.of s).dp h)
  | dk h => exact .dk (s _ _ h)
section
variable {X : Cx}
def rReprV (K : PySem.W.Frag) : List V → Hp → VK → Prop := fun xs H Q => ∃ v d, xs = [v] ∧ Rp K H v d ∧ d.showable = true ∧ d.depth ≤ 60 ∧ d.shown.length ≤ sizeLine ∧ Q (.str d.shown) H
theorem cr_reprV (hq : Qt X.A) (hu : X.A.units + 64 < cLine) : CallR X (.builtin "repr") (rReprV X.K) := by
  intro pins s σ H xs us Q I r h
  obtain ⟨v, d, rfl, hd, sh, dp, sz, q⟩ := h
  cases hd with
  | dp hd => exact cr_repr hq hu pins s σ H _ _ Q I r ⟨v, d, rfl, hd, sh, dp, sz, q⟩
  | @dk a ks ea =>
    obtain ⟨u, rfl, rx⟩ := vals1 r
    obtain rfl : u = Value.ref a := rx
    obtain ⟨_, ns, vs, kv, o, es, ep, ho, hx, hd, _, hp, _⟩ := dk_of I.hok ea
    obtain ⟨r1, r2⟩ := reads_pairs (h := s.heap) kv hp
    have q1 : ReadsAll s.heap (es.toList.map (·.key)) ((ks.map fun p : Key × Int => (keyP p.1, PyData.int p.2)).map (·.1)) [] := by rw [List.map_map]; exact r1
    have q2 : ReadsAll s.heap (es.toList.map (·.val)) ((ks.map fun p : Key × Int => (keyP p.1, PyData.int p.2)).map (·.2)) [] := by rw [List.map_map]; exact r2
    have rd : Reads s.heap (.ref a) (.dict (ks.map fun p : Key × Int => (keyP p.1, PyData.int p.2))) ([a] ++ []) := Reads.dict ho hx.1 hd q1 q2
    have dp' : (PyData.dict (ks.map fun p : Key × Int => (keyP p.1, PyData.int p.2))).depth ≤ 60 := dp
    exact repr_of_reads' rd sh (fun _ hm => by
      have e := List.mem_singleton.mp (by simpa using hm)
      rw [e] at ns
      exact absurd ns (by simp)) hq (by omega) (fun _ _ z => z) (fun h' u tk k => ⟨.str _, H, I.kept k, ⟨_, rfl⟩, q⟩) sz
end
end Wf
/-! raise of an error that is made as a value: C(e), C(f=e), C(), a name that holds one -/
namespace Wf
open PySem PySem.Spec PyProof.Rows L2
section
variable {X : Cx} {pins : List (Addr × Obj)} {σ : L2.St} {H : Hp} {s : Shared}
/-- what is told of the object at d is said anew, the heap as it is -/
theorem relabel {d : Addr} {φ : Heap → Prop} {u : HO} (I : Inv X pins σ H s) (hd : H d = some (.ext φ)) (hu : ObjOk X.prog X.w (upd H d u) s.heap d u) : Inv X pins σ (upd H d u) s := by
  have off : ∀ {b : Addr}, H b = none → b ≠ d := fun n z => by cases (z ▸ n).symm.trans hd
  have seen : ∀ {b : Addr} {o : HO}, H b = some o → HO.ext φ ≠ o → upd H d u b = some o := fun q n => (upd_ne (at_ne hd q n)).trans q
  refine I.un (t' := s.toks) (h' := s.heap) ⟨fun _ _ q _ _ _ => q, fun _ o q _ _ _ => ⟨o.slots, q⟩, fun _ _ _ n _ => (upd_ne (off n)).trans n, fun _ o q _ => ⟨o, q⟩, fun _ _ q => seen q (fun z => by cases z), fun _ _ _ q => seen q (fun z => by cases z), fun _ _ q => ⟨#[], by rw [seen q (fun z => by cases z), Array.append_empty]⟩⟩ fun b o q => ?_
  rcases Decidable.em (b = d) with rfl | nb
  · cases upd_same.symm.trans q
    exact hu
  · exact (I.hok b o ((upd_ne nb).symm.trans q)).stay (fun _ _ _ z => z) (fun _ hc => seen hc (fun z => by cases z)) fun _ _ hc => seen hc (fun z => by cases z)
/-- raise e, e an error with a field -/
def tRv (K : PySem.W.Frag) (H0 : Hp) (te : TE) : L2.St → Hp → XK → Prop := fun σ H Q => te σ H fun x H1 => ∃ (a C : Addr) (f : Str) (y : V), x = .ref a ∧ Ve H1 a C f y ∧ H0 a = none ∧ ExcC K C ∧ PySem.W.typeIn K (.ref C) = some (.type "type") ∧
  ∀ d H', Same (del H1 a) (upd H' d (exd d [(f, y)])) → H' a = none → H' d = some (.xd [(f, y)]) → (∀ b, b ≠ d → b ≠ a → H' b = H1 b) → Q (.ref C) (some d) H'
theorem pmk_v {e : Expr} {te : TE} (hx : X.ex = []) (he : PE X e te) : PMk X e (tRv X.K X.H_0 te) := by
  intro pins s σ H Q I h
  refine wpAny_mono (he.run pins s σ H _ I h) (fun u s1 hu => ?_) fun _ _ z => z
  obtain ⟨v, H1, J, rv, a, C, f, y, rfl, ⟨d, ea, ed⟩, h0, ex, ty, q⟩ := hu
  cases rv
  obtain ⟨t1, ho⟩ := exo_at J.hok ea
  have ne : d ≠ a := fun z => by
    obtain ⟨_, ⟨_, _, _, e1, e2, _⟩, _⟩ := exd_at J.hok ed
    rw [z] at e1
    cases ho.symm.trans e1
    cases e2
  obtain ⟨G, gs, ga, J2⟩ := J.untrack ea (fun o z => by cases h0.symm.trans z) hx
  have ed2 : delH H1 a d = some (exd d [(f, y)]) := (delH_ne ne).trans ed
  obtain ⟨mA, dict, rel⟩ := exd_at J2.hok ed2
  have J3 := relabel (u := .xd [(f, y)]) J2 ed2 ⟨mA, dict, rel⟩
  refine ⟨a, _, _, { s1 with heap := G }, _, .ref C, some d, rfl, J3, gs, ga, ho, ⟨rfl, rfl⟩, rfl, rfl, (upd_ne ne.symm).trans delH_same, rfl, J.bare, raises_own ex.hs ty, ?_⟩
  refine q d _ (fun b o z => ?_) ((upd_ne ne.symm).trans delH_same) upd_same fun b n1 n2 => (upd_ne n1).trans (delH_ne n2)
  rcases Decidable.em (b = d) with rfl | nb
  · rw [upd_same, ← z, del_ne ne, ed]
  · rw [upd_ne nb, upd_ne nb]
    exact z
end
end Wf
/-! any data, at any depth: what stands in the heap, shown, asked for its kind -/
namespace Wf
open PySem PySem.Spec PyProof.Rows L2
mutual
inductive Dq (K : PySem.W.Frag) (H : Hp) : V → PyData → Prop
  | non : Dq K H .non .none
  | bl (b : Bool) : Dq K H (.bl b) (.bool b)
  | int (i : Int) : Dq K H (.int i) (.int i)
  | str (x : Str) : Dq K H (.str x) (.str x)
  | lst {a : Addr} {xs : List V} {ds : List PyData} : SqL K H a xs → DqAll K H xs ds → Dq K H (.ref a) (.list ds)
  | tup {a : Addr} {xs : List V} {ds : List PyData} : SqT K H a xs → DqAll K H xs ds → Dq K H (.ref a) (.tuple ds)
  | dk {a : Addr} {ks : List (Key × Int)} {kd : List (PyData × PyData)} : H a = some (dkI ks) → kd = ks.map (fun p => (keyP p.1, PyData.int p.2)) → Dq K H (.ref a) (.dict kd)
inductive DqAll (K : PySem.W.Frag) (H : Hp) : List V → List PyData → Prop
  | nil : DqAll K H [] []
  | cons {v : V} {vs : List V} {d : PyData} {ds : List PyData} : Dq K H v d → DqAll K H vs ds → DqAll K H (v :: vs) (d :: ds)
end
theorem pen_dk {H : Hp} {p c a : Addr} {n : Nat} {ks : List (Key × Int)} (hp : Pen H p c n) (e : H a = some (dkI ks)) : a ≠ p := fun q => by
  obtain ⟨ns, sp, mo, e2, _⟩ := hp
  rw [q, e2] at e
  have e3 : penO c sp mo = dkI ks := Option.some.inj e
  cases ks with
  | nil => cases e3
  | cons k ks =>
    have e4 : [((.inr "cells" : Key), V.ref c), (.inr "spot", .int sp), (.inr "more", .int mo)] = ((k.1, V.int k.2) :: ks.map fun p => (p.1, V.int p.2)) := HO.dK.inj e3
    have e5 := (List.cons.inj e4).1
    cases (Prod.mk.inj e5).2
/-- what is read stays, dicts too -/
structure Sty (K : PySem.W.Frag) (H H' : Hp) : Prop extends Stay K H H' where
  d : ∀ a ks, H a = some (dkI ks) → H' a = some (dkI ks)
section
variable {K : PySem.W.Frag} {H H' H1 H2 : Hp} {p c : Addr} {n : Nat}
theorem Sty.of (s : Same H H') : Sty K H H' := ⟨Stay.of s, fun _ _ e => s _ _ e⟩
theorem But.sty (b : But p H H') (hp : Pen H p c n) : Sty K H H' := ⟨b.stay hp, fun a ks e => b a _ (pen_dk hp e) e⟩
theorem Sty.refl : Sty K H H := ⟨Stay.refl, fun _ _ h => h⟩
theorem Sty.trans (a : Sty K H H1) (b : Sty K H1 H2) : Sty K H H2 := ⟨a.toStay.trans b.toStay, fun x ks h => b.d x ks (a.d x ks h)⟩
mutual
theorem Sty.dq (s : Sty K H H') : ∀ {d : PyData} {v : V}, Dq K H v d → Dq K H' v d
  | .none, _, h => by
    cases h
    exact .non
  | .bool _, _, h => by
    cases h
    exact .bl _
  | .int _, _, h => by
    cases h
    exact .int _
  | .str _, _, h => by
    cases h
    exact .str _
  | .list ds, _, h => by
    cases h with
    | lst q a => exact .lst (s.l _ _ q) (s.dqAll a)
  | .tuple ds, _, h => by
    cases h with
    | tup q a => exact .tup (s.t _ _ q) (s.dqAll a)
  | .dict _, _, h => by
    cases h with
    | dk e k => exact .dk (s.d _ _ e) k
theorem Sty.dqAll (s : Sty K H H') : ∀ {ds : List PyData} {vs : List V}, DqAll K H vs ds → DqAll K H' vs ds
  | [], _, h => by
    cases h
    exact .nil
  | d :: ds, _, h => by
    cases h with
    | cons a b => exact .cons (s.dq a) (s.dqAll b)
end
mutual
theorem Dq.ofDp : ∀ {d : PyData} {v : V}, Dp K H v d → Dq K H v d
  | .none, _, h => by
    cases h
    exact .non
  | .bool _, _, h => by
    cases h
    exact .bl _
  | .int _, _, h => by
    cases h
    exact .int _
  | .str _, _, h => by
    cases h
    exact .str _
  | .list ds, _, h => by
    cases h with
    | lst q a => exact .lst q (DqAll.ofDp a)
  | .tuple ds, _, h => by
    cases h with
    | tup q a => exact .tup q (DqAll.ofDp a)
  | .dict _, _, h => by cases h
theorem DqAll.ofDp : ∀ {ds : List PyData} {vs : List V}, DpAll K H vs ds → DqAll K H vs ds
  | [], _, h => by
    cases h
    exact .nil
  | d :: ds, _, h => by
    cases h with
    | cons a b => exact .cons (Dq.ofDp a) (DqAll.ofDp b)
end
theorem DqAll.len : ∀ {vs : List V} {ds : List PyData}, DqAll K H vs ds → vs.length = ds.length
  | _, _, .nil => rfl
  | _, _, .cons _ b => congrArg (· + 1) b.len
theorem DqAll.get : ∀ {vs : List V} {ds : List PyData} {i : Nat} {v : V}, DqAll K H vs ds → vs[i]? = some v → ∃ d, ds[i]? = some d ∧ Dq K H v d
  | _, _, 0, _, .cons a _, e => ⟨_, rfl, by cases e; exact a⟩
  | _, _, i + 1, _, .cons _ b, e => b.get (i := i) e
theorem DqAll.at : ∀ {vs : List V} {ds : List PyData} {i : Nat} {d : PyData}, DqAll K H vs ds → ds[i]? = some d → ∃ v, vs[i]? = some v ∧ Dq K H v d
  | _, _, 0, _, .cons a _, e => ⟨_, rfl, by cases e; exact a⟩
  | _, _, i + 1, _, .cons _ b, e => b.at (i := i) e
theorem DqAll.set : ∀ {vs : List V} {ds : List PyData} {i : Nat} {v : V} {d : PyData}, DqAll K H vs ds → Dq K H v d → DqAll K H (vs.set i v) (ds.set i d)
  | _, _, _, _, _, .nil, _ => .nil
  | _, _, 0, _, _, .cons _ b, h => .cons h b
  | _, _, i + 1, _, _, .cons a b, h => .cons a (b.set (i := i) h)
theorem DqAll.app : ∀ {vs ws : List V} {ds es : List PyData}, DqAll K H vs ds → DqAll K H ws es → DqAll K H (vs ++ ws) (ds ++ es)
  | _, _, _, _, .nil, h => h
  | _, _, _, _, .cons a b, h => .cons a (b.app h)
theorem DqAll.of {α : Type} {f : α → V} {g : α → PyData} : ∀ {xs : List α}, (∀ x ∈ xs, Dq K H (f x) (g x)) → DqAll K H (xs.map f) (xs.map g)
  | [], _ => .nil
  | x :: xs, h => .cons (h x List.mem_cons_self) (DqAll.of fun y hy => h y (List.mem_cons_of_mem _ hy))
end
section
variable {X : Cx} {pins : List (Addr × Obj)} {σ : L2.St} {H : Hp} {s : Shared}
theorem not_mods {a : Addr} {o : Obj} {n : Array Value} {n2 : _} (M : Mods X.base) (I : Inv X pins σ H s) (e : s.heap.get? a = some o) (d : o.data = .seq n n2) : sysModules ≠ a := fun z => by
  obtain ⟨m, u, es, ep, hu, du, _⟩ := M
  have e2 := I.bk _ _ hu
  rw [z, e] at e2
  cases e2
  rw [d] at du
  cases du
mutual
theorem Dq.reads (M : Mods X.base) (I : Inv X pins σ H s) : ∀ (d : PyData) (v : V) (u : Value), Dq X.K H v d → RelV v u → ∃ as, Reads s.heap u d as ∧ sysModules ∉ as
  | .none, _, _, h, r => by
    cases h
    cases r
    exact ⟨_, Reads.none, List.not_mem_nil⟩
  | .bool b, _, _, h, r => by
    cases h
    cases r
    exact ⟨_, Reads.bool b, List.not_mem_nil⟩
  | .int i, _, _, h, r => by
    cases h
    obtain ⟨t, rfl⟩ := r
    exact ⟨_, Reads.int i t, List.not_mem_nil⟩
  | .str x, _, _, h, r => by
    cases h
    obtain ⟨t, rfl⟩ := r
    exact ⟨_, Reads.str x t, List.not_mem_nil⟩
  | .list ds, _, _, h, r => by
    cases h with
    | lst hs ha =>
      cases r
      obtain ⟨its, rv, ⟨o, n, ho, hc, _, hd⟩, _⟩ := I.list hs
      obtain ⟨as, hr, hn⟩ := Dq.readsAll M I ds _ its ha rv
      exact ⟨_, Reads.list ho hc hd hr, fun z => (List.mem_cons.mp z).elim (not_mods M I ho hd) hn⟩
  | .tuple ds, _, _, h, r => by
    cases h with
    | tup hs ha =>
      cases r
      obtain ⟨its, rv, ⟨o, ho, hc, n, hd⟩, _⟩ := I.tuple hs
      obtain ⟨as, hr, hn⟩ := Dq.readsAll M I ds _ its ha rv
      exact ⟨_, Reads.tuple ho hc hd hr, hn⟩
  | .dict kd, _, _, h, r => by
    cases h with
    | @dk a ks _ ea ek =>
      cases r
      subst ek
      obtain ⟨_, ns, vs, kv, o, es, ep, ho, hx, hd, _, hp, _⟩ := dk_of I.hok ea
      obtain ⟨r1, r2⟩ := reads_pairs (h := s.heap) kv hp
      have q1 : ReadsAll s.heap (es.toList.map (·.key)) ((ks.map fun p : Key × Int => (keyP p.1, PyData.int p.2)).map (·.1)) [] := by rw [List.map_map]; exact r1
      have q2 : ReadsAll s.heap (es.toList.map (·.val)) ((ks.map fun p : Key × Int => (keyP p.1, PyData.int p.2)).map (·.2)) [] := by rw [List.map_map]; exact r2
      refine ⟨_, Reads.dict ho hx.1 hd q1 q2, fun hm => ?_⟩
      have e := List.mem_singleton.mp (by simpa using hm)
      rw [← e] at ns
      exact absurd ns (by simp)
theorem Dq.readsAll (M : Mods X.base) (I : Inv X pins σ H s) : ∀ (ds : List PyData) (vs : List V) (us : List Value), DqAll X.K H vs ds → Vals vs us → ∃ as, ReadsAll s.heap us ds as ∧ sysModules ∉ as
  | [], _, _, h, r => by
    cases h
    cases r
    exact ⟨_, ReadsAll.nil, List.not_mem_nil⟩
  | d :: ds, _, _, h, r => by
    cases h with
    | cons h1 h2 =>
      cases r with
      | cons r1 r2 =>
        obtain ⟨as, q1, n1⟩ := Dq.reads M I d _ _ h1 r1
        obtain ⟨bs, q2, n2⟩ := Dq.readsAll M I ds _ _ h2 r2
        exact ⟨_, ReadsAll.cons q1 q2, fun z => (List.mem_append.mp z).elim n1 n2⟩
end
end
section
variable {X : Cx}
def rReprQ (K : PySem.W.Frag) : List V → Hp → VK → Prop := fun xs H Q => ∃ v d, xs = [v] ∧ Dq K H v d ∧ d.showable = true ∧ d.depth ≤ 60 ∧ d.shown.length ≤ sizeLine ∧ Q (.str d.shown) H
theorem cr_reprQ (M : Mods X.base) (hq : Qt X.A) (hu : X.A.units + 64 < cLine) : CallR X (.builtin "repr") (rReprQ X.K) := by
  intro pins s σ H xs us Q I r h
  obtain ⟨v, d, rfl, hd, sh, dp, sz, q⟩ := h
  obtain ⟨u, rfl, rx⟩ := vals1 r
  obtain ⟨as, rd, nm⟩ := Dq.reads M I d v u hd rx
  cases rd with
  | none => exact PySem.P.repr_of_none ⟨.str _, H, I.tok _, ⟨_, rfl⟩, q⟩
  | bool b => exact PySem.P.repr_of_bool ⟨.str _, H, I.tok _, ⟨_, rfl⟩, q⟩
  | int i t => exact PySem.P.repr_of_int (of_decide_eq_true sh) ⟨.str _, H, I.tok _, ⟨_, rfl⟩, q⟩
  | str x t => exact PySem.P.repr_of_str ⟨.str _, H, I.tok _, ⟨_, rfl⟩, q⟩ sz
  | list a b c e => exact repr_of_reads' (Reads.list a b c e) sh (fun _ => nm) hq (by omega) (fun _ _ z => z) (fun h' u tk k => ⟨.str _, H, I.kept k, ⟨_, rfl⟩, q⟩) sz
  | tuple a b c e => exact repr_of_reads' (Reads.tuple a b c e) sh (fun _ => nm) hq (by omega) (fun _ _ z => z) (fun h' u tk k => ⟨.str _, H, I.kept k, ⟨_, rfl⟩, q⟩) sz
  | dict a b c e f => exact repr_of_reads' (Reads.dict a b c e f) sh (fun _ => nm) hq (by omega) (fun _ _ z => z) (fun h' u tk k => ⟨.str _, H, I.kept k, ⟨_, rfl⟩, q⟩) sz
end
end Wf
/-! values of any kind: isinstance, is True, len, walks over what is a list or a tuple -/
namespace Wf
open PySem PySem.Spec PyProof.Rows L2
/-! ### the pure side -/
def tyN : PyData → String
  | .none => "NoneType"
  | .bool _ => "bool"
  | .int _ => "int"
  | .str _ => "str"
  | .list _ => "list"
  | .tuple _ => "tuple"
  | .dict _ => "dict"
def isStr : PyData → Bool
  | .str _ => true
  | _ => false
def isBool : PyData → Bool
  | .bool _ => true
  | _ => false
def isInt : PyData → Bool
  | .int _ | .bool _ => true
  | _ => false
def isNum : PyData → Bool
  | .int _ => true
  | _ => false
def isSeq : PyData → Bool
  | .list _ | .tuple _ => true
  | _ => false
def isMark : PyData → Bool
  | .none | .bool _ => true
  | _ => false
def its : PyData → List PyData
  | .list ds | .tuple ds => ds
  | _ => []
def isTarget (size : Int) : PyData → Bool
  | .none => true
  | .int i => decide (0 ≤ i) && decide (i < size)
  | _ => false
def isRow (w : Nat) (size : Int) (d : PyData) : Bool := isSeq d && ((its d).length == w) && (its d).all (isTarget size)
theorem isNum_eq (d : PyData) : isNum d = (isInt d && !isBool d) := by cases d <;> rfl
theorem kit_str : ∀ d : PyData, kitB (tyN d) "str" = some (isStr d)
  | .none => (by decide +kernel : kitB "NoneType" "str" = some false)
  | .bool _ => (by decide +kernel : kitB "bool" "str" = some false)
  | .int _ => (by decide +kernel : kitB "int" "str" = some false)
  | .str _ => (by decide +kernel : kitB "str" "str" = some true)
  | .list _ => (by decide +kernel : kitB "list" "str" = some false)
  | .tuple _ => (by decide +kernel : kitB "tuple" "str" = some false)
  | .dict _ => (by decide +kernel : kitB "dict" "str" = some false)
theorem kit_bool : ∀ d : PyData, kitB (tyN d) "bool" = some (isBool d)
  | .none => (by decide +kernel : kitB "NoneType" "bool" = some false)
  | .bool _ => (by decide +kernel : kitB "bool" "bool" = some true)
  | .int _ => (by decide +kernel : kitB "int" "bool" = some false)
  | .str _ => (by decide +kernel : kitB "str" "bool" = some false)
  | .list _ => (by decide +kernel : kitB "list" "bool" = some false)
  | .tuple _ => (by decide +kernel : kitB "tuple" "bool" = some false)
  | .dict _ => (by decide +kernel : kitB "dict" "bool" = some false)
theorem kit_int : ∀ d : PyData, kitB (tyN d) "int" = some (isInt d)
  | .none => (by decide +kernel : kitB "NoneType" "int" = some false)
  | .bool _ => (by decide +kernel : kitB "bool" "int" = some true)
  | .int _ => (by decide +kernel : kitB "int" "int" = some true)
  | .str _ => (by decide +kernel : kitB "str" "int" = some false)
  | .list _ => (by decide +kernel : kitB "list" "int" = some false)
  | .tuple _ => (by decide +kernel : kitB "tuple" "int" = some false)
  | .dict _ => (by decide +kernel : kitB "dict" "int" = some false)
theorem kit_list : ∀ d : PyData, kitB (tyN d) "list" = some (match d with | .list _ => true | _ => false)
  | .none => (by decide +kernel : kitB "NoneType" "list" = some false)
  | .bool _ => (by decide +kernel : kitB "bool" "list" = some false)
  | .int _ => (by decide +kernel : kitB "int" "list" = some false)
  | .str _ => (by decide +kernel : kitB "str" "list" = some false)
  | .list _ => (by decide +kernel : kitB "list" "list" = some true)
  | .tuple _ => (by decide +kernel : kitB "tuple" "list" = some false)
  | .dict _ => (by decide +kernel : kitB "dict" "list" = some false)
theorem kit_tuple : ∀ d : PyData, kitB (tyN d) "tuple" = some (match d with | .tuple _ => true | _ => false)
  | .none => (by decide +kernel : kitB "NoneType" "tuple" = some false)
  | .bool _ => (by decide +kernel : kitB "bool" "tuple" = some false)
  | .int _ => (by decide +kernel : kitB "int" "tuple" = some false)
  | .str _ => (by decide +kernel : kitB "str" "tuple" = some false)
  | .list _ => (by decide +kernel : kitB "list" "tuple" = some false)
  | .tuple _ => (by decide +kernel : kitB "tuple" "tuple" = some true)
  | .dict _ => (by decide +kernel : kitB "dict" "tuple" = some false)
section
variable {K : PySem.W.Frag} {H : Hp}
theorem Dq.ty {v : V} {d : PyData} (h : Dq K H v d) : TyX K H v (.type (tyN d)) := by
  cases h with
  | non => exact .base .non
  | bl b => exact .base (.bl b)
  | int i => exact .base (.int i)
  | str x => exact .base (.str x)
  | lst q _ =>
    rcases q with (e | ⟨o, e⟩) | ⟨o, its, n, e, c, _⟩
    · exact .base (.lst e)
    · exact .base (.frz e)
    · exact .kList e c
  | tup q _ =>
    rcases q with (e | ⟨o, e⟩) | ⟨o, its, n, e, c, _⟩
    · exact .base (.tup e)
    · exact .fTuple e
    · exact .kTuple e c
  | dk e _ => exact .base (.dK e)
/-- what is a list or a tuple, read -/
abbrev Sq (K : PySem.W.Frag) (H : Hp) (a : Addr) (xs : List V) : Prop := SqL K H a xs ∨ SqT K H a xs
theorem Dq.seq {v : V} {d : PyData} (h : Dq K H v d) (s : isSeq d = true) : ∃ a xs, v = .ref a ∧ Sq K H a xs ∧ DqAll K H xs (its d) := by
  cases h with
  | lst q a => exact ⟨_, _, rfl, .inl q, a⟩
  | tup q a => exact ⟨_, _, rfl, .inr q, a⟩
  | non => cases s
  | bl b => cases s
  | int i => cases s
  | str x => cases s
  | dk e _ => cases s
theorem Sq.lenV {a : Addr} {xs : List V} (h : Sq K H a xs) : LenV K (.ref a) H xs.length := h.elim (fun q => .inl ⟨xs, q, rfl⟩) fun q => .inr ⟨xs, q, rfl⟩
theorem Dq.lenV {v : V} {d : PyData} (h : Dq K H v d) (s : isSeq d = true) : LenV K v H (its d).length := by
  obtain ⟨a, xs, rfl, q, r⟩ := h.seq s
  rw [← r.len]
  exact q.lenV
theorem Stay.sq {H' : Hp} {a : Addr} {xs : List V} (s : Stay K H H') (h : Sq K H a xs) : Sq K H' a xs := h.imp (s.l _ _) (s.t _ _)
theorem Sq.ix {a : Addr} {xs : List V} {i : Int} {v : V} {Q : VK} (h : Sq K H a xs) (e : atI xs i = some v) (q : Q v H) : rIx K (.ref a) (.int i) H Q := by
  rcases h with h | h
  · exact .inl ⟨a, xs, i, v, rfl, rfl, h, e, q⟩
  · exact .inr (.inl ⟨a, xs, i, v, rfl, rfl, h, e, q⟩)
end
/-! ### isinstance -/
section
variable {X : Cx}
def rIsD (K : PySem.W.Frag) (T : String) (g : PyData → Bool) : List V → Hp → VK → Prop := fun xs H Q => ∃ v d, xs = [v, .ty T] ∧ Dq K H v d ∧ Q (.bl (g d)) H
theorem call_isD {T : String} {g : PyData → Bool} (hg : ∀ d, kitB (tyN d) T = some (g d)) : CallR X (.builtin "isinstance") (rIsD X.K T g) := by
  intro pins s σ H xs us Q I r h
  obtain ⟨v, d, rfl, hd, q⟩ := h
  exact call_isi pins s σ H _ us Q I r ⟨v, _, _, _, _, rfl, .ty T, hd.ty, kit_ty (hg d), q⟩
def rIsSeq (K : PySem.W.Frag) : List V → Hp → VK → Prop := fun xs H Q => ∃ v d tp, xs = [v, .ref tp] ∧ H tp = some (.tup [.ty "list", .ty "tuple"]) ∧ Dq K H v d ∧ Q (.bl (isSeq d)) H
theorem call_isSeq : CallR X (.builtin "isinstance") (rIsSeq X.K) := by
  intro pins s σ H xs us Q I r h
  obtain ⟨v, d, tp, rfl, e, hd, q⟩ := h
  refine call_isiT pins s σ H _ us Q I r ⟨v, tp, _, _, [.type "list", .type "tuple"], _, rfl, e, .cons (.ty _) (.cons (.ty _) .nil), hd.ty, kitAny_cons (r := isSeq d) (kit_ty (kit_list d)) (fun e1 => kitAny_cons (kit_ty (kit_tuple d)) (fun e2 => ?_) fun e2 => ?_) fun e1 => ?_, q⟩
  · cases d <;> first | rfl | exact absurd (show true = false from e2) (by decide) | exact absurd (show true = false from e1) (by decide)
  · cases d <;> first | rfl | exact absurd (show false = true from e2) (by decide)
  · cases d <;> first | rfl | exact absurd (show false = true from e1) (by decide)
/-- x is True, x is False -/
def rIsQ (K : PySem.W.Frag) : R2 := fun x y H Q => ∃ b d, y = .bl b ∧ Dq K H x d ∧ Q (.bl (decide (x = .bl b))) H
theorem op_isQ : OpR X (compareOp .Is) (rIsQ X.K) := by
  intro pins s σ H x y v u Q I rx ry h
  obtain ⟨b, d, rfl, hd, q⟩ := h
  cases (show u = Value.bool b from ry)
  cases hd with
  | non =>
    cases (show v = Value.none from rx)
    exact wpAny_pure ⟨.bl _, H, I, rfl, q⟩
  | bl a =>
    cases (show v = Value.bool a from rx)
    by_cases e : a = b
    · subst e
      exact wpAny_is_self rfl ⟨.bl true, H, I, rfl, by simpa using q⟩
    · exact wpAny_is_other rfl (fun z => e (Value.bool.inj z)) ⟨.bl false, H, I, rfl, by simpa [e] using q⟩
  | int i =>
    obtain ⟨t, rfl⟩ := rx
    exact wpAny_pure ⟨.bl _, H, I, rfl, q⟩
  | str z =>
    obtain ⟨t, rfl⟩ := rx
    exact wpAny_pure ⟨.bl _, H, I, rfl, q⟩
  | lst _ _ =>
    cases rx
    exact wpAny_pure ⟨.bl _, H, I, rfl, q⟩
  | tup _ _ =>
    cases rx
    exact wpAny_pure ⟨.bl _, H, I, rfl, q⟩
  | dk _ _ =>
    cases rx
    exact wpAny_pure ⟨.bl _, H, I, rfl, q⟩
end
/-! ### calls within a comprehension: readings by name -/
section
variable {X : Cx}
def rTupleOf (K : PySem.W.Frag) : List V → Hp → VK → Prop := fun xs H Q => ∃ p ys, xs = [V.ref p] ∧ ((SqL K H p ys ∧ ∀ l, H l = none → Q (.ref l) (upd H l (.tup ys))) ∨ (SqT K H p ys ∧ Q (.ref p) H))
theorem cr_tupleOf : CallR X (.type "tuple") (rTupleOf X.K) := call_tuple_of
def rListOf (K : PySem.W.Frag) : List V → Hp → VK → Prop := fun xs H Q => ∃ p ys, xs = [V.ref p] ∧ (SqL K H p ys ∨ SqT K H p ys) ∧ ∀ l, H l = none → Q (.ref l) (upd H l (.lst ys))
theorem cr_listOf : CallR X (.type "list") (rListOf X.K) := call_list_of
def rLenOf (K : PySem.W.Frag) : List V → Hp → VK → Prop := fun xs H Q => ∃ x n, xs = [x] ∧ LenV K x H n ∧ Q (.int n) H
theorem cr_lenOf : CallR X (.builtin "len") (rLenOf X.K) := call_len
end
/-! ### walks -/
section
variable {X : Cx} {tg : Expr}
def iSeq (K : PySem.W.Frag) (tl : TE) : TI := fun σ H R => iList K tl σ H R ∨ iTup K tl σ H R
theorem pi_seq {l : Expr} {tl : TE} (hl : PE X l tl) : PI X tg l (iSeq X.K tl) :=
  ⟨fun pins s σ H R I h => h.elim ((pi_list hl).run pins s σ H R I) ((pi_tup hl).run pins s σ H R I)⟩
end
/-- a name that holds a list or a tuple, walked: by any walk that gives its items -/
theorem seq_walk {K : PySem.W.Frag} {σ : L2.St} {H : Hp} {a : Addr} {n : Nat} {xs : List V} {R : It → Hp → Prop} (e : σ[n]? = some (some (.ref a))) (h : Sq K H a xs) (k : ∀ (J : It) (G : Hp → Prop), Walk J xs.length G (YAt xs) → (∀ H', Stay K H H' → G H') → R J H) : iSeq K (tVar n) σ H R := by
  rcases h with h | h
  · exact .inl ⟨_, e, a, rfl, ⟨xs, h⟩, k _ _ walk_list fun H' s => s.l _ _ h⟩
  · exact .inr ⟨_, e, a, rfl, ⟨xs, h⟩, k _ _ walk_tup fun H' s => s.t _ _ h⟩
theorem SqT.off {K : PySem.W.Frag} {H : Hp} {u D : Addr} {zs xs : List V} {o : HO} (h : SqT K H u zs) (e : H D = some (.lst xs)) : SqT K (upd H D o) u zs := by
  rcases h with (h | ⟨q, h⟩) | h
  · exact .inl (.inl ((upd_ne fun z => by
      rw [z, e] at h
      cases h).trans h))
  · exact .inl (.inr ⟨q, (upd_ne fun z => by
      rw [z, e] at h
      cases h).trans h⟩)
  · exact .inr h
theorem SqL.off {K : PySem.W.Frag} {H : Hp} {u D : Addr} {zs : List V} {o : HO} (h : SqL K H u zs) (ne : u ≠ D) : SqL K (upd H D o) u zs := by
  rcases h with (h | ⟨q, h⟩) | h
  · exact .inl (.inl ((upd_ne ne).trans h))
  · exact .inl (.inr ⟨q, (upd_ne ne).trans h⟩)
  · exact .inr h
theorem small1000000 {n : Nat} (h : n < 1000000) : n < sizeLine := Nat.lt_trans h (by decide)
end Wf
/-! errors of one's own raised and caught -/
namespace Wf
open PySem PySem.Spec PyProof.Rows L2
/-- what is there in the first is there in the second -/
def There (H H' : Hp) : Prop := ∀ b, H' b = none → H b = none
theorem There.of {H H' : Hp} (s : Same H H') : There H H' := fun b n => by
  cases e : H b with
  | none => rfl
  | some o =>
    rw [s b o e] at n
    cases n
theorem There.but {p : Addr} {H H' : Hp} (s : But p H H') (e : H' p ≠ none) : There H H' := fun b n => by
  cases q : H b with
  | none => rfl
  | some o =>
    rcases Decidable.em (b = p) with rfl | nb
    · exact absurd n e
    · rw [s b o nb q] at n
      cases n
theorem There.trans {H H1 H2 : Hp} (a : There H H1) (b : There H1 H2) : There H H2 := fun x n => a x (b x n)
/-- a class of errors without a field, by its name -/
structure E0 (K : PySem.W.Frag) (mg : Str → Option Value) (x : Str) (C : Addr) : Prop where
  vn : Vn0 K mg x C
  ty : PySem.W.typeIn K (.ref C) = some (.type "type")
/-- a class of errors with one field, by its name -/
structure E1 (P : Program) (w : World) (K : PySem.W.Frag) (mg : Str → Option Value) (base : Heap) (x : Str) (C : Addr) (f : Str) : Prop where
  vn : Vn P w K mg base x C f
  ty : PySem.W.typeIn K (.ref C) = some (.type "type")
section
variable {X : Cx} {x : Str} {C : Addr} {f : Str} {W : WX} {e : Expr} {te : TE} {p pos pos' : Pos}
/-- raise C() -/
def tR0 (X : Cx) (C : Addr) (W : WX) : TS := fun _ σ H => There X.H_0 H ∧ ∀ H', Same H H' → W (.ref C) none σ H'
theorem ps_r0 (N : E0 X.K X.mg x C) (hx : X.ex = []) (hc : X.calm = true) (tk : Takes X W) (hg : Gl X x := by rfl) (hdb : (x == ("__debug__" : Str)) = false := by decide) : PS X (.Raise (some (.Call (.Name x p) [] [] pos)) none pos') (tR0 X C W) := by
  have mk : PMk X (.Call (.Name x p) [] [] pos) (fun σ H Q => There X.H_0 H ∧ ∀ H', Same H H' → Q (.ref C) none H') := by
    intro pins s σ H Q I h
    refine pmk_ret hx (pe_v0 N.vn hg hdb) pins s σ H Q I ?_
    refine fun a ha => ⟨a, .ref C, rfl, upd_same, fr0_none (h.1 a ha), raises_own N.vn.is.hs N.ty, ?_⟩
    refine h.2 _ fun b o q => ?_
    rw [delH_ne (ne_of_none q ha), upd_ne (ne_of_none q ha)]
    exact q
  exact ps_raise hc tk mk
/-- raise C(e) -/
def tR1 (X : Cx) (C : Addr) (f : Str) (W : WX) (te : TE) : TS := fun _ σ H => te σ H fun y H1 => There X.H_0 H1 ∧ ∀ d H', Same H1 H' → H1 d = none → H' d = some (.xd [(f, y)]) → W (.ref C) (some d) σ H'
theorem pmk_r1 (N : E1 X.prog X.w X.K X.mg X.base x C f) (hr : Room 2 X.A) (he : PE X e te) (hx : X.ex = []) (hg : Gl X x := by rfl) (hs : starEach [e] X.env = (false, eval e X.env) :: starEach [] X.env := by rfl) (hdb : (x == ("__debug__" : Str)) = false := by decide) :
    PMk X (.Call (.Name x p) [e] [] pos) (fun σ H Q => te σ H fun y H1 => There X.H_0 H1 ∧ ∀ d H', Same H1 H' → H1 d = none → H' d = some (.xd [(f, y)]) → Q (.ref C) (some d) H') := by
  intro pins s σ H Q I h
  have big : wpAny (model X.prog X.w) X.A (eval (.Call (.Name x p) [e] [] pos) X.env) (EP X pins σ fun v H2 => ∃ (a d : Addr) (y : V) (H1 : Hp), v = .ref a ∧ There X.H_0 H1 ∧ (∀ d H', Same H1 H' → H1 d = none → H' d = some (.xd [(f, y)]) → Q (.ref C) (some d) H') ∧ Same H1 H2 ∧ H1 a = none ∧ H1 d = none ∧ H2 a = some (exo a C (some d)) ∧ H2 d = some (exd d [(f, y)])) X.xe s := by
    obtain ⟨fI, fd, iC, tI, F1, hb, _⟩ := N.vn.init
    refine wpAny_Call_Name_kw (ld_glob I hg N.vn.gC ?_ hdb)
    refine PySem.W.callWith_K (h₀ := X.base) I.ok.mod.kin N.vn.cls.kC ?_ hs (by rfl)
    rw [hs]
    change wpAny _ _ (spliced (_ :: backTo pos (starEach [] X.env))) _ _ _
    exact Calls.spliced_cons (thn (he.run pins s σ H _ I h) fun u _ ⟨y, H1, J, ry, t, k⟩ => Calls.spliced_nil ⟨J.kIn, ve_callN N.vn.cls iC tI F1 hr (taker_of N.vn.no) (fun t v _ => hb t v u) (by show 1 ≤ 1000; omega) J ry fun a d H' s' na nd e1 e2 => ⟨a, d, y, H1, rfl, t, k, s', na, nd, e1, e2⟩⟩)
  refine wpAny_mono big (fun u s1 hu => ?_) fun _ _ z => z
  · obtain ⟨v, H2, J, rv, a, d, y, H1, rfl, t, k, s2, na, nd, ea, ed⟩ := hu
    cases rv
    obtain ⟨t1, ho⟩ := exo_at J.hok ea
    have ne : d ≠ a := fun z => by
      obtain ⟨_, ⟨_, _, _, e1, e2, _⟩, _⟩ := exd_at J.hok ed
      rw [z] at e1
      cases ho.symm.trans e1
      cases e2
    obtain ⟨G, gs, ga, J2⟩ := J.untrack ea (fun o z => by rw [t a na] at z; cases z) hx
    have ed2 : delH H2 a d = some (exd d [(f, y)]) := (delH_ne ne).trans ed
    obtain ⟨mA, dict, rel⟩ := exd_at J2.hok ed2
    have J3 := relabel (u := .xd [(f, y)]) J2 ed2 ⟨mA, dict, rel⟩
    refine ⟨a, _, _, { s1 with heap := G }, _, .ref C, some d, rfl, J3, gs, ga, ho, ⟨rfl, rfl⟩, rfl, rfl, (upd_ne ne.symm).trans delH_same, rfl, J.bare, raises_own N.vn.cls.is.hs N.ty, ?_⟩
    refine k d _ (fun b o z => ?_) nd upd_same
    rw [upd_ne (ne_of_none z nd), delH_ne (ne_of_none z na)]
    exact s2 _ _ z
theorem ps_r1 (N : E1 X.prog X.w X.K X.mg X.base x C f) (hr : Room 2 X.A) (he : PE X e te) (hx : X.ex = []) (hc : X.calm = true) (tk : Takes X W) (hg : Gl X x := by rfl) (hs : starEach [e] X.env = (false, eval e X.env) :: starEach [] X.env := by rfl) (hdb : (x == ("__debug__" : Str)) = false := by decide) :
    PS X (.Raise (some (.Call (.Name x p) [e] [] pos)) none pos') (tR1 X C f W te) := ps_raise hc tk (pmk_r1 N hr he hx hg hs hdb)
end
/-! ### C(..), C a class of one's own whose __init__ may raise, within a try -/
section
variable {X : Cx} {CX : CXT} {k : Nat} {f C : Addr} {fd : FuncData} {ps : List Str} {sp : Sp} {E : L2.St → XK} {x : Str} {p pos : Pos} {e : Expr} {es : List Expr} {t : TA}
def tMakeS (C : Addr) (sp : Sp) (E : L2.St → XK) (t : TA) : TE := fun σ H Q => t σ H fun vs H1 => ∀ x dx, H1 x = none → H1 dx = none → dx ≠ x → sp (.ref x :: vs) (upd (upd H1 dx (.own x)) x (.ins C dx [])) (fun v H2 => v = .non ∧ Q (.ref x) H2) (E σ)
/-- the call that type's call leads to: the new object, then its __init__ -/
theorem made_then {pins : List (Addr × Obj)} {σ : L2.St} {H : Hp} {s : Shared} {Q : VK} {us : List Value} {vs : List V} {E : XK} (M : Mk X.K C f) (F : FnOk X.prog X.w X.K X.mg X.base CX k f fd ps sp) (hr : Room (k + 1) X.A) (hb : Binds X.K fd ps []) (hx : PassesAt CX X σ E)
    (I : Inv X pins σ H s) (rel : Vals vs us) (want : ∀ x dx, H x = none → H dx = none → dx ≠ x → sp (.ref x :: vs) (upd (upd H dx (.own x)) x (.ins C dx [])) (fun v H2 => v = .non ∧ Q (.ref x) H2) E) : wpAny (model X.prog X.w) X.A (call (.ref C) us) (EP X pins σ Q) X.xe s := by
  let dict := s.heap.objs.size
  let self := dict + 1
  have apart : dict ≠ self := Nat.ne_of_lt (Nat.lt_succ_self _)
  have asked := want self dict (I.hok.fresh (Nat.le_succ dict)) (I.hok.fresh (Nat.le_refl dict)) apart
  have J := Inv.made (C := C) I
  have all : Vals (V.ref self :: vs) (Value.ref self :: us) := .cons rfl rel
  have many := F.len _ _ _ _ asked
  have bound := hb _ (Value.ref self :: us) J.kIn (by rw [List.append_nil, ← all.length]; exact many)
  rw [List.append_nil] at bound
  have run := F.run _ X.stack _ _ ⟨Value.ref self :: us, []⟩ _ _ _ E (hr.make C us []) (J.env0.make C us []) bound all asked
  refine wpAny_call (make_map (f := f) I.kIn M.makes M.init (beq_iff_eq.mp M.fn) (codeAny_mono run fun r s2 out => ?_))
  match r, out with
  | .error e, out => exact hx pins _ _ e s2 J out
  | .ok (.ret _), out =>
    obtain ⟨_, H3, J3, rv, rfl, q⟩ := J.after out
    exact ⟨rv, V.ref self, H3, J3, rfl, q⟩
  | .ok .next, out => exact out.elim
  | .ok .brk, out => exact out.elim
  | .ok .cont, out => exact out.elim
theorem pe_makeS (M : Mk X.K C f) (F : FnOk X.prog X.w X.K X.mg X.base CX k f fd ps sp) (hr : Room (k + 1) X.A) (hg : Gl X x) (hm : X.mg x = some (.ref C)) (hb : Binds X.K fd ps []) (hx : ∀ σ, PassesAt CX X σ (E σ))
    (ha : PA X (e :: es) t) (hdb : (x == ("__debug__" : Str)) = false := by decide) (he : starEach (e :: es) X.env = (false, eval e X.env) :: starEach es X.env := by rfl) (hpl : (backTo pos (starEach es X.env)).any (·.1) = false := by rfl) :
    PE X (.Call (.Name x p) (e :: es) [] pos) (tMakeS C sp E t) := .mk fun pins s σ H Q I h =>
  wpAny_Call_Name_kw (ld_glob I hg hm (PySem.W.callWith_K (h₀ := X.base) I.ok.mod.kin M.kp (thn (ha.run pos pins s σ H _ I h) fun _ _ ⟨_, _, J, rel, want⟩ => ⟨J.kIn, made_then M F hr hb (hx σ) J rel want⟩) he hpl) hdb)
end
/-! ### within an except suite: isinstance(e, T), e.f -/
/-- e's own dict, if it has one, is there -/
def DOk (H : Hp) (d : Option Addr) : Prop := d = none ∨ ∃ dd fs, d = some dd ∧ H dd = some (.xd fs)
def rIsF (K : PySem.W.Frag) (a : Addr) (cls : Value) (d : Option Addr) : List V → Hp → VK → Prop := fun xs H Q => ∃ (D : Addr) (T : String) (b : Bool), xs = [.ref a, .ty T] ∧ cls = .ref D ∧ ExcC K D ∧ PySem.W.kitOne K (.ref D) (.type T) = some b ∧ DOk H d ∧ Q (.bl b) H
/-- the caught object as an instance, with the dict that it may have -/
theorem caught_at {X : Cx} {pins : List (Addr × Obj)} {σ : L2.St} {H : Hp} {s : Shared} {a D : Addr} {oe : Obj} {d : Option Addr} {pn : List (Addr × Obj)} (hz : Zc (.ref D) d oe) (hf : ∃ vs, oe.data = .fields vs) (I : Inv (X.suite a ((a, oe) :: pn)) pins σ H s) :
    (d = none → PySem.W.InstAt s.heap a oe D none) ∧ ∀ dd fs, d = some dd → H dd = some (.xd fs) → ∃ (od : Obj) (m : Str → Option Value), PySem.W.InstAt s.heap a oe D (some od) ∧ (∀ n, RelO (fs.lookup n) (m n)) ∧ ∀ n, PySem.W.lookIn n od = some (m n) := by
  obtain ⟨isC, isD⟩ := hz
  obtain ⟨there, _⟩ := I.pin (a, oe) (List.mem_append.mpr (.inl List.mem_cons_self))
  have plain : PySem.W.notCls oe = true := by
    obtain ⟨vs, hv⟩ := hf
    unfold PySem.W.notCls
    rw [hv] <;> rfl
  refine ⟨fun e => ⟨there, isC, plain, by rw [isD, e]; trivial⟩, fun dd fs e at' => ?_⟩
  obtain ⟨m, ns, rel⟩ := (show ObjOk X.prog X.w H s.heap dd (.xd fs) from I.hok dd _ at')
  obtain ⟨od, hod, look⟩ := lookIn_ns ns
  exact ⟨od, m, ⟨there, isC, plain, by rw [isD, e]; exact hod⟩, rel, look⟩
theorem call_isF {X : Cx} {a : Addr} {oe : Obj} {cls : Value} {d : Option Addr} {pn : List (Addr × Obj)} (hz : Zc cls d oe) (hf : ∃ vs, oe.data = .fields vs) : CallR (X.suite a ((a, oe) :: pn)) (.builtin "isinstance") (rIsF X.K a cls d) := by
  intro pins s σ H xs us Q I r h
  obtain ⟨D, T, b, rfl, rfl, C, e, hd, q⟩ := h
  obtain ⟨_, _, rfl, r1, r2⟩ := vals2 r
  cases r1
  cases r2
  obtain ⟨at0, at1⟩ := caught_at hz hf I
  rcases hd with e0 | ⟨dd, fs, e0, ed⟩
  · exact PySem.W.kia_one (PySem.W.kitx_exc (ex_isSome C.hd) C.hg C.hk C.hs C.ha C.hn C.ht C.hm) I.kIn (at0 e0) e (fun z => nomatch z) fun tk => ⟨.bl b, H, I.tok tk, rfl, q⟩
  · obtain ⟨od, _, J, _⟩ := at1 dd fs e0 ed
    exact PySem.W.kia_one (PySem.W.kitx_exc (ex_isSome C.hd) C.hg C.hk C.hs C.ha C.hn C.ht C.hm) I.kIn J e (fun z => nomatch z) fun tk => ⟨.bl b, H, I.tok tk, rfl, q⟩
def tXg (K : PySem.W.Frag) (a : Addr) (cls : Value) (d : Option Addr) (f : Str) (te : TE) : TE := fun σ H Q => te σ H fun x H1 => x = .ref a ∧ ∃ (C dd : Addr) (fs : List (Str × V)) (v : V), cls = .ref C ∧ ExcC K C ∧ PySem.W.findIn K (.ref C) f = some none ∧ d = some dd ∧ H1 dd = some (.xd fs) ∧ fs.lookup f = some v ∧ Q v H1
theorem pe_xg {X : Cx} {a : Addr} {oe : Obj} {cls : Value} {d : Option Addr} {pn : List (Addr × Obj)} {e : Expr} {te : TE} {pos : Pos} {n : Str}
    (hz : Zc cls d oe) (hf : ∃ vs, oe.data = .fields vs) (he : PE (X.suite a ((a, oe) :: pn)) e te) (hb : attributeBase e n X.env (eval e X.env) = eval e X.env := by rfl) :
    PE (X.suite a ((a, oe) :: pn)) (.Attribute e n pos) (tXg X.K a cls d n te) := .mk fun pins s σ H Q I h => attr_of hb (thn (he.run pins s σ H _ I h) fun _ s1 ⟨_, H1, I1, rx, ex, C, dd, fs, v, ec, T, hno, ed, ea, l, q⟩ => by
  cases ex
  cases rx
  cases ec
  obtain ⟨od, m, J, rel, look⟩ := (caught_at hz hf I1).2 dd fs ed ea
  have rn := rel n
  rw [l] at rn
  obtain ⟨u, hu, ru⟩ := RelO.some_of (v := v) (o := m n) rn
  exact HandSPX.exc_get I1.kIn J T.hg T.hk T.hs (PySem.W.findObj_own T.hd hno rfl (by rw [look, hu])) (handed_of ru) ⟨v, H1, I1.tok _, ru, q⟩)
end Wf
/-! enumerate over what is a list or a tuple -/
namespace Wf
open PySem PySem.Spec PyProof.Rows L2
open PySem.Sem (wp)
/-- what enumerate(v) leaves: v's iterator, then the enumeration itself -/
abbrev enumO (it : Addr) : Obj := { cls := .type "enumerate", data := .fields #[.none, .bool false, .ref it, rawInt 0, .none, .none] }
theorem meets_enum1 {v : Value} {o : Obj} {H : Heap → Prop} (B : Begins v o H) : Meets (Builtin.«enumerate.__new__» ⟨[.type "enumerate", v], []⟩) fun _ R s => H s.heap ∧
    R (.ok (.ret (.ref (s.heap.push o).objs.size))) { s with heap := (s.heap.push o).push (enumO s.heap.objs.size) } := by
  refine .of_wp fun prog w A R s given => ?_
  obtain ⟨hp, g, d, tk, os⟩ := s
  obtain ⟨first, last⟩ := given
  have iter : ∀ {A2 : Around} {E : Value → Shared → Prop} {Q : Value → Shared → Prop}, Q (.ref hp.objs.size) ⟨hp.push o, g, d, tk, os⟩ → wpAny (model prog w) A2 (pyIter v) Q E ⟨hp, g, d, tk, os⟩ := B.iter prog w _ _ ⟨hp, g, d, tk, os⟩ _ first
  have own := sub_enumerate
  wp_walk using iter
  refine wpAny_stack_any fun around => wpAny_pure ?_
  split <;> first
    | (rename_i c _ _ _ _ _
       cases (c == Value.type "enumerate") <;> (wp_walk using iter; exact ⟨_, rfl, last⟩))
    | (wp_walk using iter; exact ⟨_, rfl, last⟩)
theorem call_enum1 {prog : Program} {w : World} {A : Around} {E : Value → Shared → Prop} {s : Shared} {v : Value} {o : Obj} {H : Heap → Prop} {Q : Value → Shared → Prop} (B : Begins v o H) (first : H s.heap)
    (last : ∀ h2, IsEnum h2 (s.heap.objs.size + 1) s.heap.objs.size 0 .none → h2.get? s.heap.objs.size = some o → (∀ b u, s.heap.get? b = some u → h2.get? b = some u) → Q (.ref (s.heap.objs.size + 1)) { s with heap := h2 }) :
    wpAny (model prog w) A (call (.type "enumerate") [v]) Q E s := by
  have size1 : (s.heap.push o).objs.size = s.heap.objs.size + 1 := Heap.size_push ..
  have made : IsEnum ((s.heap.push o).push (enumO s.heap.objs.size)) (s.heap.objs.size + 1) s.heap.objs.size 0 .none := by
    rw [← size1]
    exact Heap.get?_push_size _ rfl
  have post := last _ made (Heap.get?_push_of_some _ (Heap.get?_push_size _ B.free)) fun b u z => Heap.get?_push_of_some _ (Heap.get?_push_of_some _ z)
  refine callType_new F.called_enumerate (by decide) (F.typeCall_enumerate_1 _) (F.newCall_enumerate_1 _) (fun obj => F.args_object_init_2 obj _) F.entry_enumerate_new (meets_enum1 B) ⟨first, ?_⟩
  show _ ∧ _
  rw [size1]
  exact ⟨⟨_, made, rfl⟩, post⟩
/-- the tuple at a as it stands at each turn, each item in a new pair -/
def IteT (K : PySem.W.Frag) (a : Addr) : It where
  go i H := ∃ (xs : List V) (x : V), SqT K H a xs ∧ xs[i]? = some x
  yld i H v H' := ∃ T x, v = .ref T ∧ H T = none ∧ H' = upd H T (.tup [.int (i : Nat), x]) ∧ ∀ xs, SqT K H a xs → xs[i]? = some x
  stop i H := ∃ xs : List V, SqT K H a xs ∧ xs.length ≤ i
/-- an enumeration at e of the tuple at a, by its iterator at t, i items being taken -/
structure EnT (a e t : Addr) (i : Nat) (h : Heap) : Prop where
  en : ∃ old, IsEnum h e t ((i : Nat) : Int) old
  ti : h.IsTupleIter t a i
  et : e ≠ t
  ea : e ≠ a
theorem EnT.pair {e t b : Addr} (h : b ∈ [e, t]) : b = e ∨ b = t := by simpa using h
section
variable {X : Cx} {pins : List (Addr × Obj)} {s : Shared} {σ : L2.St} {H : Hp} {E : Value → Shared → Prop} {a e t : Addr} {i : Nat} {elts : List Expr} {kk : Nat} {tpos : Pos}
theorem EnT.next (ta : a ≠ t) (calm : X.calm = true) (I : Inv X pins σ H s) (fp : ∀ b ∈ [e, t], FpOk X pins H b) (st : EnT a e t i s.heap) {xs : List V} {x : V} (hq : SqT X.K H a xs) (hx : xs[i]? = some x) :
    wpAny (model X.prog X.w) X.A (pyNext (.ref e)) (fun r s1 => ∃ u, r = some u ∧ wpAny (model X.prog X.w) X.A (letOwnedTupleGo (.Tuple elts kk tpos) (.ref e) u) (fun _ s2 => ∃ y H', Inv X pins σ H' s2 ∧ RelV y u ∧ (IteT X.K a).yld i H y H' ∧ EnT a e t (i + 1) s2.heap ∧ ∀ b ∈ [e, t], H' b = none) E s1) E s := by
  obtain ⟨old, en⟩ := st.en
  obtain ⟨vals, rel, isT, _⟩ := I.tuple hq
  obtain ⟨u, hu, ru⟩ := rel.get hx
  let T := s.heap.objs.size
  have le : e < T := Heap.lt_size en
  have lt : t < T := let ⟨_, z, _⟩ := st.ti; Heap.lt_size z
  have inside : i < vals.toArray.size := by
    rw [List.size_toArray]
    exact (List.getElem?_eq_some_iff.mp hu).1
  refine wpAny_pyNext_enum_itemD (Draws.tuple (A := X.A.in1) (I.ok.hd calm) t a ta vals.toArray) en ⟨st.ti, isT⟩ inside st.et (by simp [st.et, st.ea]) fun w h1 tk hw out iter hT _ kept => ?_
  obtain rfl : u = w := Option.some.inj ((show vals.toArray[i]? = some u by simpa using hu).symm.trans hw)
  refine ⟨_, rfl, wpAny_letOwnedTupleGo_enum (s := { s with heap := h1, toks := tk + 1 }) out fun h2 en2 sb => ?_⟩
  have atT : h2.get? T = some { cls := .type "tuple", data := .seq #[.int i tk, u] } := (sb.2 T (Nat.ne_of_gt le)).trans hT
  have okT : ObjOk X.prog X.w (upd H T (.tup [.int (i : Nat), x])) h2 T (.tup [.int (i : Nat), x]) := ⟨by show 2 ≤ sizeLine; decide, [.int i tk, u], .cons ⟨_, rfl⟩ (.cons ru .nil), ⟨_, atT, rfl, _, rfl⟩⟩
  have old2 : ∀ b ob, b ∉ [e, t] → s.heap.get? b = some ob → h2.get? b = some ob := fun b ob nb z => by
    have ne : b ≠ e := fun q => nb (q ▸ List.mem_cons_self)
    have nt : b ≠ t := fun q => nb (q ▸ List.mem_cons_of_mem _ List.mem_cons_self)
    exact (sb.2 b ne).trans (kept b ob ne nt z)
  refine ⟨.ref T, _, I.turnedNew (ch := [e, t]) old2 fp (Nat.le_refl T) okT, rfl, ⟨T, x, rfl, I.hok.fresh (Nat.le_refl T), rfl, fun ys hy => by rw [I.tuple_inj hy hq]; exact hx⟩, ⟨⟨u, ?_⟩, iter.1.at fun ob z => (sb.2 t st.et.symm).trans z, st.et, st.ea⟩, fun b hb => ?_⟩
  · rw [show ((i + 1 : Nat) : Int) = (i : Int) + 1 by omega]
    exact en2
  · have lb : b < T := by
      rcases EnT.pair hb with rfl | rfl
      · exact le
      · exact lt
    rw [upd_ne (Nat.ne_of_lt lb)]
    exact (fp b hb).1
theorem EnT.over (calm : X.calm = true) (I : Inv X pins σ H s) (fp : ∀ b ∈ [e, t], FpOk X pins H b) (st : EnT a e t i s.heap) {xs : List V} (hq : SqT X.K H a xs) (hl : xs.length ≤ i) : wpAny (model X.prog X.w) X.A (pyNext (.ref e)) (fun r s1 => r = none ∧ Inv X pins σ H s1) E s := by
  obtain ⟨old, en⟩ := st.en
  obtain ⟨vals, rel, isT, _⟩ := I.tuple hq
  obtain ⟨c0, c1, c2, c3, c4, c5⟩ := fp t (by simp)
  have many := rel.length
  have outside : vals.toArray[i]? = none := by
    rw [Array.getElem?_eq_none_iff, List.size_toArray]
    omega
  have isE : s.TypeIs (.ref e) "enumerate" := ⟨_, en, rfl⟩
  unfold pyNext
  refine wpAny_bind (wpAny_attempt (wpAny_callSpecial?_slot (name := Str.ofString "__next__") isE F.slot_enumerate_next (wpAny_call_entry F.slot_enumerate_next isE F.entry_enumerate_next ?_ (F.args_enumerate_next_1 _))))
  change wpAny _ _ (field (Value.ref e) 2 >>= _) _ _ s
  refine wpAny_bind (wpAny_field (x := .ref t) en rfl rfl (wpAny_bind (wpAny_nextOf_tuple_end (A := X.A.in1) (I.ok.hd calm) st.ti (show s.heap.IsTuple a vals.toArray from isT) outside fun h1 x grown stop => ?_)))
  obtain ⟨ob, atx, isStop⟩ := stop
  exact wpAny_bind (wpAny_isInstance (T := "StopIteration") (b := true) ⟨ob, atx, isStop⟩ isSubtype_stop (wpAny_pure ⟨rfl, I.turned (t' := s.toks) (fun b u hb z => grown b u hb z) c0 c1 c3 c4 c5⟩))
end
theorem turn_enumT {P : Program} {w : World} {K : PySem.W.Frag} {elts : List Expr} {kk : Nat} {tpos : Pos} (a e t : Addr) (ta : a ≠ t) : Turn P w K (.Tuple elts kk tpos) (IteT K a) [e, t] e (EnT a e t) where
  mem := List.mem_cons_self
  obj i h st b hb := by
    obtain ⟨old, en⟩ := st.en
    obtain ⟨ob, at', _, dt⟩ := st.ti
    rcases EnT.pair hb with rfl | rfl
    · exact ⟨_, en, nofun⟩
    · refine ⟨ob, at', fun v z => ?_⟩
      rw [dt] at z
      cases z
  keep i h h2 st kept := ⟨st.en.imp fun _ z => kept e List.mem_cons_self _ z, st.ti.at fun ob z => kept t (List.mem_cons_of_mem _ List.mem_cons_self) ob z, st.et, st.ea⟩
  item X hP hw hK calm i pins s σ H E I fp st go := by
    subst hP hw hK
    obtain ⟨xs, x, hq, hx⟩ := go
    exact EnT.next ta calm I fp st hq hx
  done X hP hw hK calm i pins s σ H E I fp st stop := by
    subst hP hw hK
    obtain ⟨xs, hq, hl⟩ := stop
    exact EnT.over calm I fp st hq hl
  self A i s Q E st z := let ⟨_, en⟩ := st.en; wpAny_pyIter_enum en z
def iEnT (K : PySem.W.Frag) (ta : TA) : TI := fun σ H R => ta σ H fun vs H1 => ∃ a, vs = [.ref a] ∧ (∃ xs, SqT K H1 a xs) ∧ R (IteT K a) H1
theorem pi_enT {X : Cx} {e : Expr} {ta : TA} {p pos tpos : Pos} {elts : List Expr} {kk : Nat} (hg : Gl X "enumerate") (hm : X.mg "enumerate" = none) (ha : PA X [e] ta) (hs : starEach [e] X.env = [(false, eval e X.env)] := by rfl) :
    PI X (.Tuple elts kk tpos) (.Call (.Name "enumerate" p) [e] [] pos) (iEnT X.K ta) := .mk fun pins s σ H R I h =>
  Call_ (ld_blt I hg hm boot_enumerate (PyProof.Rows.callWith_type1 (thn (ha.run pos pins s σ H _ I h) fun _ s1 ⟨_, H1, J, rel, a, ex, ⟨_, hq⟩, q⟩ => by
    subst ex
    obtain ⟨_, rfl, rfl⟩ := vals1 rel
    obtain ⟨vals, _, isT, _⟩ := J.tuple hq
    have la : a < s1.heap.objs.size := let ⟨_, z, _⟩ := isT; Heap.lt_size z
    refine call_enum1 (begins_tuple a vals.toArray) (show s1.heap.IsTuple a vals.toArray from isT) fun h2 en it old => wpAny_pyIter_enum en ?_
    refine ⟨_, _, _, _, H1, rfl, J.kept (t' := s1.toks) old, turn_enumT a (s1.heap.objs.size + 1) s1.heap.objs.size (Nat.ne_of_lt la), ⟨⟨.none, en⟩, ⟨_, it, rfl, rfl⟩, Nat.succ_ne_self _, Nat.ne_of_gt (Nat.lt_succ_of_lt la)⟩, fun b hb => ?_, q⟩
    have up : s1.heap.objs.size ≤ b := by
      rcases EnT.pair hb with rfl | rfl
      · exact Nat.le_succ _
      · exact Nat.le_refl _
    exact J.fpOk up (J.hok.fresh up)) hs rfl))
def iEnS (K : PySem.W.Frag) (ta : TA) : TI := fun σ H R => iEnum K ta σ H R ∨ iEnT K ta σ H R
theorem pi_enS {X : Cx} {e : Expr} {ta : TA} {p pos tpos : Pos} {elts : List Expr} {kk : Nat} (hg : Gl X "enumerate") (hm : X.mg "enumerate" = none) (ha : PA X [e] ta) (hs : starEach [e] X.env = [(false, eval e X.env)] := by rfl) :
    PI X (.Tuple elts kk tpos) (.Call (.Name "enumerate" p) [e] [] pos) (iEnS X.K ta) :=
  .mk fun pins s σ H R I h => h.elim ((pi_enum hg hm ha hs).run pins s σ H R I) ((pi_enT hg hm ha hs).run pins s σ H R I)
theorem walk_enumT {K : PySem.W.Frag} {a : Addr} {xs : List V} : Walk (IteT K a) xs.length (fun H => SqT K H a xs) (YPair (fun i => some (.int (i : Nat))) (fun i => xs[i]?)) where
  goes i H hi q := ⟨xs, xs[i], q, List.getElem?_eq_getElem hi⟩
  stops H q := ⟨xs, q, Nat.le_refl _⟩
  yields i H v H' _ q y := let ⟨T, x, h1, h2, h3, h4⟩ := y; ⟨T, .int (i : Nat), x, h1, h2, h3, rfl, h4 xs q⟩
/-- a name that holds a list or a tuple, enumerated -/
theorem enum_walk {K : PySem.W.Frag} {σ : L2.St} {H : Hp} {a : Addr} {n : Nat} {xs : List V} {R : It → Hp → Prop} (e : σ[n]? = some (some (.ref a))) (h : Sq K H a xs)
    (k : ∀ (J : It) (G : Hp → Prop), Walk J xs.length G (YPair (fun i => some (.int (i : Nat))) (fun i => xs[i]?)) → (∀ H', Stay K H H' → G H') → R J H) : iEnS K (tCons (tVar n) tNil) σ H R := by
  rcases h with h | h
  · exact .inl ⟨_, e, a, xs, rfl, h, k _ _ walk_enum fun H' s => s.l _ _ h⟩
  · exact .inr ⟨_, e, a, rfl, ⟨xs, h⟩, k _ _ walk_enumT fun H' s => s.t _ _ h⟩
end Wf
/-! several except clauses, each with a name -/
namespace Wf
open PySem PySem.Spec PyProof.Rows L2
/-- what the clauses wish of an exception of the body; i: the slot of the clause's name -/
def wManyAs (K : PySem.W.Frag) (Wout : WX) (D : Ends) : List (Value × Nat × (Addr → Value → Option Addr → TS)) → WX
  | [] => Wout
  | (c, i, ts) :: r => fun cls d σ H => ∃ b, PySem.W.exmOne K cls c = some b ∧
      (b = true → ∀ a, H a = none → ts a cls d { nx := fun σ' H' => D.nx (σ'.set i none) H', rt := D.rt, bk := fun σ' H' => D.bk (σ'.set i none) H', ct := fun σ' H' => D.ct (σ'.set i none) H' } (σ.set i (some (.ref a))) H) ∧
      (b = false → wManyAs K Wout D r cls d σ H)
inductive HdsAs (X : Cx) : List ExceptHandler → List (Value × Nat × (Addr → Value → Option Addr → TS)) → Prop
  | nil : HdsAs X [] []
  | cons {x n : Str} {c : Value} {i : Nat} {ts : Addr → Value → Option Addr → TS} {b₀ : Stmt} {suite : List Stmt} {np pos' : Pos} {hds : List ExceptHandler} {l : List (Value × Nat × (Addr → Value → Option Addr → TS))}
      (hi : X.N[i]? = some n) (hln : X.env.kindOf n = some .local) (hc : Names X x c)
      (hsu : ∀ (a : Addr) (oe : Obj) (cls : Value) (d : Option Addr) (pn : List (Addr × Obj)), Zc cls d oe → (∃ vs, oe.data = .fields vs) → PSs (X.suite a ((a, oe) :: pn)) (b₀ :: suite) (ts a cls d)) (r : HdsAs X hds l) :
      HdsAs X (.ExceptHandler (some (.Name x np)) (some n) (b₀ :: suite) pos' :: hds) ((c, i, ts) :: l)
section
variable {X : Cx} {pins : List (Addr × Obj)} {D : Ends} {Wout : WX}
/-- the caught exception a has landed: what stood before the try stands, and the slots and the heap are those of the raise -/
structure Landed (X : Cx) (pins : List (Addr × Obj)) (a : Addr) (B : Heap) (sI : Shared) (σ : L2.St) (H : Hp) (cls : Value) (d : Option Addr) (s0 s1 : Shared) : Prop where
  inv : Inv X pins σ H sI
  near : ∀ b o, sI.heap.get? b = some o → b ∉ frs X.stack → B.get? b = some o
  up : sI.heap.UpToSlots s1.heap
  fly : HandSPX.FlyingZ B (X.env :: X.outer) a (Zc cls d) s1.heap
  no : H a = none
  os : s1.os = sI.os
  gens : AllBare s1.gens
  loc : a ≠ X.env.locals
  far : a ∉ X.fs
/-- the clauses, one after the other -/
theorem clauses_go {a : Addr} {B : Heap} {sI : Shared} {σ : L2.St} {H : Hp} {cls : Value} {d : Option Addr} {s0 : Shared} (ok : X.Ok) (hs : X.stack = X.env :: X.outer) (hf : X.env.frame = some X.env.locals) (hN : X.N.Nodup) (tk : Takes X Wout) :
    ∀ {hds : List ExceptHandler} {l : List (Value × Nat × (Addr → Value → Option Addr → TS))} {s1 : Shared}, HdsAs X hds l → Landed X pins a B sI σ H cls d s0 s1 → wManyAs X.K Wout D l cls d σ H → wpAny (model X.prog X.w) X.A (handleBy (.ref a) X.env hds) (SP X pins D) X.xe s1
  | [], _, s1, .nil, L, w => by
    obtain ⟨_, _, _, oe, vs, T, oT, ts, at', isZ, isF, one, rest⟩ := id L.fly
    have onward : wpAny (model X.prog X.w) X.A (setFlight (.ref a) X.env.frame) (fun _ s4 => wpAny (model X.prog X.w) X.A (throw (.ref a) : Sem Flow) (SP X pins D) X.xe s4) X.xe s1 := by
      rw [hf]
      refine HandSPX.setFlight_upZ L.fly fun h4 held up4 => wpAny_throw (tk _ _ ⟨a, B, sI, pins, σ, H, cls, d, rfl, L.inv, L.near, L.up.trans up4, .inr (.inr ?_), L.no, L.os, L.gens, w⟩)
      rw [hs]
      exact held
    refine wpAny_handleBy_nil ?_
    unfold PySem.passOn
    refine wpAny_bind (wpAny_field at' isF one ?_)
    rw [if_neg (show ¬ ((Value.ref T == Value.none) = true) from by simp)]
    first
      | exact wpAny_bind onward
      | exact wpAny_bind (wpAny_pure (wpAny_bind onward))
  | _ :: _, _, s1, .cons (x := x) (n := n) (c := c) (i := i) (np := np) (pos' := pos') hi hln hc hsu r, L, w => by
    obtain ⟨yes, told, inside, outside⟩ := w
    obtain ⟨oe, vs, at', isZ, isF⟩ := L.fly.there
    have J := L.inv.landed L.near L.fly.1 L.up L.os L.gens
    have S := J.suite at' isF L.no L.loc L.far
    have type1 : PySem.W.Looks (model X.prog X.w) s1.heap (typeOf (.ref a)) cls := fun _ _ _ _ kept q => wpAny_typeOf_ref (kept _ _ at') (by rw [isZ.1]; exact q)
    refine wpAny_handleBy_cons (codeAny_handlers_test ?_) nofun
    have named : ∀ {Q : Value → Shared → Prop} {E : Value → Shared → Prop}, Q c s1 → wpAny (model X.prog X.w) (X.A.mark (some (.ref a))) (eval (.Name x np) X.env) Q E s1 := fun q =>
      hc.2.2.elim (fun m => ld_glob (X := X.suite a ((a, oe) :: (X.pn ++ pins))) S hc.1 m q hc.2.1) fun ⟨m, v, nn⟩ => ld_blt (X := X.suite a ((a, oe) :: (X.pn ++ pins))) S hc.1 m v q nn hc.2.1
    refine named ((PySem.W.exm_one (M := model X.prog X.w) J.kIn type1 told).here ?_)
    match yes, inside, outside with
    | false, _, outside => exact clauses_go ok hs hf hN tk r L (outside rfl)
    | true, inside, _ =>
      refine codeAny_handlers_suite_as (HandSPX.lands_againZ L.fly fun h4 fly4 up4 => ?_)
      obtain ⟨o4, v4, at4, z4, f4⟩ := fly4.there
      have J4 : Inv X pins σ H { s1 with heap := h4 } := L.inv.landed L.near fly4.1 (L.up.trans up4) L.os L.gens
      have S4 := J4.suite at4 f4 L.no L.loc L.far
      refine store_ok (X := X.suite a ((a, o4) :: (X.pn ++ pins))) (v := .ref a) S4 hN hi (.inl hln) rfl (fun s5 S5 => ?_) (.inr hln)
      refine wpAny_mono ((hsu a o4 cls d (X.pn ++ pins) z4 ⟨_, f4⟩).run [] s5 _ H _ S5 (inside rfl a L.no)) (fun f s6 out => ?_) fun _ _ z => False.elim z
      have close : ∀ {σ6 : L2.St} {H6 : Hp} {Q : Shared → Prop}, Inv (X.suite a ((a, o4) :: (X.pn ++ pins))) [] σ6 H6 s6 → (∀ s7, Inv X pins (σ6.set i none) H6 s7 → Q s7) →
          wpAny (model X.prog X.w) X.A (do bindName X.env n .none; unbindBehindTheSuite X.env n pos') (fun _ s7 => Q s7) X.xe s6 := fun S6 q => gone_ok (S6.unsuite ok) hN hi hln q
      match f, out with
      | .next, ⟨_, _, S6, q⟩ => exact close S6 fun _ J7 => ⟨_, _, J7, q⟩
      | .brk, ⟨_, _, S6, q⟩ => exact close S6 fun _ J7 => ⟨_, _, J7, q⟩
      | .cont, ⟨_, _, S6, q⟩ => exact close S6 fun _ J7 => ⟨_, _, J7, q⟩
      | .ret _, ⟨_, _, _, S6, rel, q⟩ => exact close S6 fun _ J7 => ⟨_, _, _, J7, rel, q⟩
/-- an exception that comes out of the body is noted, lands, and is held against the clauses -/
theorem caught_go {body : List Stmt} {hds : List ExceptHandler} {l : List (Value × Nat × (Addr → Value → Option Addr → TS))} {u : Value} {s' : Shared} {pn : List (Addr × Obj)} {xe : Value → Shared → Prop} (ok : X.Ok) (hs : X.stack = X.env :: X.outer) (hf : X.env.frame = some X.env.locals) (hN : X.N.Nodup) (tk : Takes X Wout) (hh : HdsAs X hds l)
    (air : XE (X.tr (X.pn ++ pins) xe) (wManyAs X.K Wout D l) u s') (back : ∀ {pins' : List (Addr × Obj)} {σ : L2.St} {H : Hp} {s : Shared}, Inv (X.tr (X.pn ++ pins) xe) pins' σ H s → Inv X pins σ H s) :
    wpAny (model X.prog X.w) X.A (noteFrame u X.env) (fun _ s₂ => wpAny (model X.prog X.w) X.A (setFlight u none) (fun _ s₃ => wpAny (model X.prog X.w) X.A (handleBy u X.env hds) (SP X pins D) X.xe s₃) X.xe s₂) X.xe s' := by
  obtain ⟨a, B, sI, pins2, σ, H, cls, d, rfl, J2, near, up, sky, no, os, gens, w⟩ := air
  have J := back J2
  have sky2 : Sky B (X.env :: X.outer) a (Zc cls d) X.env.locals s'.heap := by
    rw [← hs]
    exact sky
  have frames : X.A.frames = some (X.env :: X.outer) := by rw [ok.frames, hs]
  refine Sky.land Zc.steady frames hf sky2 fun h3 fly up3 => ?_
  obtain ⟨oe, vs, at', _, isF⟩ := fly.there
  have free : a ∉ frs (X.env :: X.outer) := fun inFrames => by
    obtain ⟨_, ob, at2, nf⟩ := fly.2.2.1.mem inFrames
    cases at'.symm.trans at2
    exact nf _ isF
  exact clauses_go (s0 := s') ok hs hf hN tk hh {
    inv := J, near := near, up := up.trans up3, fly := fly, no := no, os := os, gens := gens
    loc := fun z => free (List.mem_filterMap.mpr ⟨X.env, List.mem_cons_self, by rw [hf, z]⟩)
    far := fun inFs => let ⟨e, he, q⟩ := List.mem_filterMap.mp inFs; free (List.mem_filterMap.mpr ⟨e, List.mem_cons_of_mem _ he, q⟩) } w
variable {body : List Stmt} {h₀ : ExceptHandler} {hds : List ExceptHandler} {l : List (Value × Nat × (Addr → Value → Option Addr → TS))} {pos : Pos} {tb : WX → TS}
theorem ps_try_manyAs (hs : X.stack = X.env :: X.outer) (hf : X.env.frame = some X.env.locals) (hN : X.N.Nodup) (tk : Takes X Wout)
    (hb : ∀ (W : WX) (pn : List (Addr × Obj)) (xe : Value → Shared → Prop), Takes (X.tr pn xe) W → PassesOwn (model X.prog X.w) X.A X.env xe → PSs (X.tr pn xe) body (tb W))
    (hh : HdsAs X (h₀ :: hds) l) : PS X (.Try body (h₀ :: hds) [] [] pos) (fun D σ H => tb (wManyAs X.K Wout D l) D σ H) := .mk fun pins s σ H D I h => by
  have ok := I.ok
  let xe : Value → Shared → Prop := fun u s₁ => wpAny (model X.prog X.w) X.A (noteFrame u X.env) (fun _ s₂ => wpAny (model X.prog X.w) X.A (setFlight u none) (fun _ s₃ => wpAny (model X.prog X.w) X.A (handleBy u X.env (h₀ :: hds)) (SP X pins D) X.xe s₃) X.xe s₂) X.xe s₁
  have caught : Takes (X.tr (X.pn ++ pins) xe) (wManyAs X.K Wout D l) := fun u s2 air => caught_go (pn := []) (body := body) ok hs hf hN tk hh air fun J => J.ofTry ok
  refine wpAny_Try_except (wpAny_mono ((hb _ _ xe caught PassesOwn.looking).run [] s σ H D (I.toTry _) h) (fun f s1 out => ?_) fun _ _ z => z)
  match f, out with
  | .next, ⟨_, _, J, q⟩ => exact wpAny_execs_nil ⟨_, _, J.ofTry ok, q⟩
  | .brk, ⟨_, _, J, q⟩ => exact ⟨_, _, J.ofTry ok, q⟩
  | .cont, ⟨_, _, J, q⟩ => exact ⟨_, _, J.ofTry ok, q⟩
  | .ret _, ⟨_, _, _, J, rel, q⟩ => exact ⟨_, _, _, J.ofTry ok, rel, q⟩
end
/-! ### classes of the text, made by their names -/
structure Cn (P : Program) (w : World) (K : PySem.W.Frag) (mg : Str → Option Value) (base : Heap) (CX : CXT) (k : Nat) (x : Str) (C : Addr) (ps : List Str) (sp : Sp) : Prop where
  ex : ∃ (f : Addr) (fd : FuncData), Mk K C f ∧ FnOk P w K mg base CX k f fd ps sp ∧ Binds K fd ps []
  g : mg x = some (.ref C)
section
variable {X : Cx} {CX : CXT} {k : Nat} {C : Addr} {ps : List Str} {sp : Sp} {E : L2.St → XK} {x : Str} {p pos : Pos} {e : Expr} {es : List Expr} {t : TA}
theorem pe_mkS (N : Cn X.prog X.w X.K X.mg X.base CX k x C ps sp) (hr : Room (k + 1) X.A) (hx : ∀ σ, PassesAt CX X σ (E σ)) (ha : PA X (e :: es) t) (hg : Gl X x := by rfl) (hdb : (x == ("__debug__" : Str)) = false := by decide)
    (he : starEach (e :: es) X.env = (false, eval e X.env) :: starEach es X.env := by rfl) (hpl : (backTo pos (starEach es X.env)).any (·.1) = false := by rfl) : PE X (.Call (.Name x p) (e :: es) [] pos) (tMakeS C sp E t) :=
  let ⟨_, _, M, F, hb⟩ := N.ex
  pe_makeS M F hr hg N.g hb hx ha hdb he hpl
end
end Wf
/-! with which sign a shown thing begins -/
namespace Wf
open PySem PySem.Spec PyProof.Rows L2
/-- the first sign -/
def hd (z : Str) : Option Nat := z.cps.toList.head?
theorem hd_app {x y : Str} {c : Nat} (h : hd x = some c) : hd (x ++ y) = some c := by
  unfold hd at h ⊢
  rw [show (x ++ y).cps.toList = x.cps.toList ++ y.cps.toList from Array.toList_append]
  cases e : x.cps.toList with
  | nil =>
    rw [e] at h
    cases h
  | cons a r =>
    rw [e] at h
    exact h
theorem hd_from {c : Nat} : ∀ (ts : List Str) (k : Nat) (acc : Str), hd acc = some c → hd (textFrom k acc ts) = some c
  | [], _, _, h => h
  | t :: r, k, acc, h => hd_from r (k + 1) _ (hd_app (hd_app h))
theorem hd_list (ts : List Str) : hd (listText ts) = some 91 := hd_app (hd_from ts 0 _ rfl)
theorem hd_tuple (ts : List Str) : hd (tupleText ts) = some 40 := hd_app (hd_app rfl)
theorem hd_dict (ts : List Str) : hd (dictText ts) = some 123 := hd_app (hd_app rfl)
theorem fold_head {q : Nat} {f : Nat → List Nat} : ∀ (cs : List Nat) (acc : Array Nat), acc.toList.head? = some q → (cs.foldl (fun out c => out ++ (f c).toArray) acc).toList.head? = some q
  | [], _, h => h
  | c :: r, acc, h => fold_head r _ (by
    rw [Array.toList_append]
    cases e : acc.toList with
    | nil =>
      rw [e] at h
      cases h
    | cons a b =>
      rw [e] at h
      exact h)
theorem hd_text (x : Str) : hd (reprText x) = some (reprQuote x) := by
  unfold hd reprText
  rw [Array.toList_push, ← Array.foldl_toList]
  have e := fold_head (f := PySem.Builtin.Str.reprChar (reprQuote x)) x.cps.toList #[reprQuote x] rfl
  cases q : (x.cps.toList.foldl (fun out c => out ++ (PySem.Builtin.Str.reprChar (reprQuote x) c).toArray) #[reprQuote x]).toList with
  | nil =>
    rw [q] at e
    cases e
  | cons a b =>
    rw [q] at e
    exact e
theorem hd_int (i : Int) : ∃ c, hd (PyData.int i).shown = some c ∧ c < 60 := by
  show ∃ c, hd (PySem.Str.ofString (toString i)) = some c ∧ c < 60
  unfold hd
  cases i with
  | ofNat m =>
    have e := PySem.W.KIN.signs_num m
    rw [show (PySem.Str.ofString (toString (Int.ofNat m))).cps.toList = _ from e]
    have l := toDigits_len_ge 10 m
    cases q : Nat.toDigits 10 m with
    | nil =>
      rw [q] at l
      exact absurd l (by decide)
    | cons a b =>
      refine ⟨a.toNat, rfl, ?_⟩
      have r := digit_range (Nat.isDigit_of_mem_toDigits (c := a) (n := m) (b := 10) (by decide) (by decide) (by rw [q]; exact List.mem_cons_self))
      omega
  | negSucc m => exact ⟨45, rfl, by decide⟩
theorem shown_is {d : PyData} : (d.shown = "True" ∨ d.shown = "False" ∨ d.shown = "None") ↔ isMark d = true := by
  have no : ∀ {c : Nat}, hd d.shown = some c → c ≠ 84 → c ≠ 70 → c ≠ 78 → ¬ (d.shown = "True" ∨ d.shown = "False" ∨ d.shown = "None") := fun h n1 n2 n3 z => by
    rcases z with z | z | z
    · rw [z] at h
      exact n1 (Option.some.inj (h.symm.trans rfl))
    · rw [z] at h
      exact n2 (Option.some.inj (h.symm.trans rfl))
    · rw [z] at h
      exact n3 (Option.some.inj (h.symm.trans rfl))
  cases d with
  | none => exact ⟨fun _ => rfl, fun _ => .inr (.inr rfl)⟩
  | bool b => cases b
              · exact ⟨fun _ => rfl, fun _ => .inr (.inl rfl)⟩
              · exact ⟨fun _ => rfl, fun _ => .inl rfl⟩
  | int i =>
    obtain ⟨c, h, l⟩ := hd_int i
    exact ⟨fun z => absurd z (no h (by omega) (by omega) (by omega)), fun z => by cases z⟩
  | str x =>
    have h := hd_text x
    refine ⟨fun z => absurd z (no h ?_ ?_ ?_), fun z => by cases z⟩ <;> (unfold reprQuote; split <;> decide)
  | list xs => exact ⟨fun z => absurd z (no (hd_list _) (by decide) (by decide) (by decide)), fun z => by cases z⟩
  | tuple xs => exact ⟨fun z => absurd z (no (hd_tuple _) (by decide) (by decide) (by decide)), fun z => by cases z⟩
  | dict xs => exact ⟨fun z => absurd z (no (hd_dict _) (by decide) (by decide) (by decide)), fun z => by cases z⟩
end Wf
/-! a text from its end to its beginning -/
namespace Wf
open PySem PySem.Spec PyProof.Rows L2
def revS (z : Str) : Str := ⟨z.cps.toList.reverse.toArray⟩
theorem rev_picked (z : Str) (t : Tok) : slicePicked z none none (some (-1, t)) = sliceRange ((z.length : Int) - 1) (-1) (-1) := rfl
theorem rev_made (z : Str) (t u : Tok) : sliceMade z t none none (some (-1, u)) = .str (revS z) := by
  unfold sliceMade
  rw [if_neg (by
    rw [show ((some ((-1 : Int), u)).map (·.1)).getD 1 = -1 from rfl]
    simp), rev_picked]
  refine congrArg Made.str (congrArg Str.mk ?_)
  rw [show z.length = z.cps.size from rfl, PySem.W.krv_sliceRange, PySem.W.krv_range, List.filterMap_reverse]
  exact congrArg (fun l => (List.reverse l).toArray) (PySem.W.krv_all z.cps)
def tRevS (te : TE) : TE := fun σ H Q => te σ H fun x H1 => ∃ z : Str, x = .str z ∧ z.length ≤ sizeLine ∧ Q (.str (revS z)) H1
theorem pe_revS {X : Cx} {e : Expr} {te : TE} {k : Nat} {p1 p2 p3 pos : Pos} (he : PE X e te) : PE X (.Subscript e (.Slice none none (some (.UnaryOp .USub (.Constant (.int 1) k p1) p2)) p3) pos) (tRevS te) := .mk fun pins s σ H Q I h =>
  Subscript_ (thn (he.run pins s σ H _ I h) fun v s1 ⟨x, H1, I1, rx, z, ex, small, q⟩ => by
    subst ex
    obtain ⟨t, rfl⟩ := rx
    have step : PO X (some (.UnaryOp .USub (.Constant (.int 1) k p1) p2)) (tPart (tUn (rU fun i => .int (-i)) (tC (.int 1)))) := po_some (pe_un un_neg pe_int)
    refine wpAny_Slice (thn (po_none.run pins s1 σ H1 (fun o H2 => o = none ∧ H2 = H1) I1 ⟨rfl, rfl⟩) fun lo s2 ⟨_, G2, I2, plo, e1, e2⟩ => ?_)
    rw [e2] at I2
    rw [e1] at plo
    refine thn (po_none.run pins s2 σ H1 (fun o H3 => o = none ∧ H3 = H1) I2 ⟨rfl, rfl⟩) fun hi s3 ⟨_, G3, I3, phi, e3, e4⟩ => ?_
    rw [e4] at I3
    rw [e3] at phi
    refine thn (step.run pins s3 σ H1 (fun o H4 => o = some (-1) ∧ H4 = H1) I3 ⟨1, rfl, -1, rfl, rfl, rfl⟩) fun st s4 ⟨_, G4, I4, pst, e5, e6⟩ => ?_
    rw [e6] at I4
    rw [e5] at pst
    cases plo
    cases phi
    cases pst with
    | int _ u =>
    let cut : Obj := { cls := .type "slice", data := .fields #[.none, .none, .int (-1) u] }
    have I5 : Inv X pins σ H1 { s4 with heap := s4.heap.push cut } := I4.kept (t' := s4.toks) fun b ob z => Heap.get?_push_of_some _ z
    refine tail_any (ops := [.ref s4.heap.objs.size, .str z t]) (typeIs_str _ _ _) F.slot_str_getitem.lookup ?_ (by with_unfolding_all rfl)
    refine wpAny_getItem_str_slice (l := none) (u := none) (st := some (-1, u)) ⟨cut, Heap.get?_push_size _ rfl, rfl, rfl⟩ rfl ?_
    rw [rev_made]
    refine ⟨?_, .str (revS z), H1, I5.tok _, ⟨_, rfl⟩, q⟩
    show z.cps.toList.reverse.toArray.size ≤ sizeLine
    rw [List.size_toArray, List.length_reverse, Array.length_toList]
    exact small)
end Wf
/-! tables that are changed by place; how much of data is shown -/
namespace Wf
open PySem PySem.Spec PyProof.Rows L2
/-! ### what is shown -/
structure Vw (k n : Nat) (d : PyData) : Prop where
  s : d.showable = true
  dp : d.depth ≤ k
  sz : d.shown.length ≤ n
theorem Vw.more {k n k' n' : Nat} {d : PyData} (h : Vw k n d) (a : k ≤ k') (b : n ≤ n') : Vw k' n' d := ⟨h.s, Nat.le_trans h.dp a, Nat.le_trans h.sz b⟩
theorem shownAll_sum {n : Nat} : ∀ {ds : List PyData}, (∀ d ∈ ds, d.shown.length ≤ n) → ((PyData.shownAll ds).map (·.length)).sum + 2 * (PyData.shownAll ds).length ≤ ds.length * (n + 2)
  | [], _ => Nat.zero_le _
  | d :: ds, h => by
    have h1 := h d List.mem_cons_self
    have h2 := shownAll_sum (ds := ds) fun x hx => h x (List.mem_cons_of_mem _ hx)
    show ((PyData.shown d :: PyData.shownAll ds).map (·.length)).sum + 2 * (PyData.shown d :: PyData.shownAll ds).length ≤ (ds.length + 1) * (n + 2)
    rw [List.map_cons, List.sum_cons, List.length_cons, Nat.add_mul, Nat.one_mul]
    omega
theorem vw_list {k n c : Nat} {ds : List PyData} (hl : ds.length ≤ c) (h : ∀ d ∈ ds, Vw k n d) : Vw (k + 1) (c * (n + 2) + 3) (.list ds) := by
  refine ⟨showableAll_of fun d hd => (h d hd).s, Nat.succ_le_succ (dep_all fun d hd => (h d hd).dp), ?_⟩
  have h1 := listText_len_le (PyData.shownAll ds)
  have h2 := shownAll_sum fun d hd => (h d hd).sz
  have h3 := Nat.mul_le_mul_right (n + 2) hl
  show (listText (PyData.shownAll ds)).length ≤ _
  omega
theorem vw_tuple {k n c : Nat} {ds : List PyData} (hl : ds.length ≤ c) (h : ∀ d ∈ ds, Vw k n d) : Vw (k + 1) (c * (n + 2) + 3) (.tuple ds) := by
  refine ⟨showableAll_of fun d hd => (h d hd).s, Nat.succ_le_succ (dep_all fun d hd => (h d hd).dp), ?_⟩
  have h1 := tupleText_len_le (PyData.shownAll ds)
  have h2 := shownAll_sum fun d hd => (h d hd).sz
  have h3 := Nat.mul_le_mul_right (n + 2) hl
  show (tupleText (PyData.shownAll ds)).length ≤ _
  omega
theorem vw_none : Vw 0 5 .none := ⟨rfl, Nat.le_refl _, by decide +kernel⟩
theorem vw_bool {b : Bool} : Vw 0 5 (.bool b) := ⟨rfl, Nat.le_refl _, by cases b <;> decide +kernel⟩
theorem vw_int {n : Nat} (h : n < 1000000) : Vw 0 10 (.int (n : Int)) := by
  refine ⟨?_, Nat.le_refl _, PySem.W.KT.len_num (by omega) (by omega)⟩
  show decide ((n : Int).natAbs.log2 < 1920) = true
  refine decide_eq_true ?_
  rw [Int.natAbs_natCast]
  have h2 : n.log2 ≤ n := Nat.log2_le_self n
  rcases Nat.eq_zero_or_pos n with rfl | hp
  · decide
  · have := (Nat.log2_lt (n := n) (k := 20) (by omega)).mpr (by omega)
    omega
theorem vw_str {x : Str} {m : Nat} (h : PyData.strOk x = true) (l : x.length ≤ m) : Vw 0 (10 * m + 2) (.str x) := by
  refine ⟨rfl, Nat.le_refl _, ?_⟩
  show (reprText x).length ≤ 10 * m + 2
  refine Nat.le_trans (StrLaws.reprText_len x fun c hc => ?_) (by omega)
  have h2 : x.cps.all (· < 0x110000) = true := h
  rw [← Array.all_toList, List.all_eq_true] at h2
  have := of_decide_eq_true (h2 c hc)
  omega
/-! ### new data -/
/-- what is new in H stands in H' as well -/
def New (H0 H H' : Hp) : Prop := ∀ b o, H0 b = none → H b = some o → H' b = some o
/-- new data: whatever happens to what was there before -/
def NewD (K : PySem.W.Frag) (H0 H : Hp) (v : V) (d : PyData) : Prop := ∀ H', New H0 H H' → Dq K H' v d
def NewAll (K : PySem.W.Frag) (H0 H : Hp) (vs : List V) (ds : List PyData) : Prop := ∀ H', New H0 H H' → DqAll K H' vs ds
section
variable {K : PySem.W.Frag} {H0 H1 H H' : Hp} {v : V} {d : PyData} {vs : List V} {ds : List PyData} {p : Addr}
theorem New.refl : New H0 H H := fun _ _ _ e => e
theorem New.same (s : Same H H') : New H0 H H' := fun b o _ e => s b o e
theorem New.but (s : But p H H') (hp : H0 p ≠ none) : New H0 H H' := fun b o z e => s b o (fun q => hp (q ▸ z)) e
theorem New.upd {o : HO} (hp : H0 p ≠ none) : New H0 H (upd H p o) := fun b u z e => (upd_ne (show b ≠ p from fun q => hp (q ▸ z))).trans e
theorem New.trans (a : New H0 H H1) (b : New H0 H1 H') : New H0 H H' := fun x o z e => b x o z (a x o z e)
theorem NewD.to (h : NewD K H0 H v d) (n : New H0 H H') : NewD K H0 H' v d := fun G m => h G (n.trans m)
theorem NewD.same (h : NewD K H0 H v d) (s : Same H H') : NewD K H0 H' v d := h.to (New.same s)
theorem NewD.but (h : NewD K H0 H v d) (s : But p H H') (hp : H0 p ≠ none) : NewD K H0 H' v d := h.to (New.but s hp)
theorem NewD.dq (h : NewD K H0 H v d) : Dq K H v d := h H New.refl
theorem NewD.old (h : NewD K H1 H v d) (t : There H0 H1) : NewD K H0 H v d := fun G m => h G fun b o z e => m b o (t b z) e
theorem NewAll.to (h : NewAll K H0 H vs ds) (n : New H0 H H') : NewAll K H0 H' vs ds := fun G m => h G (n.trans m)
theorem NewAll.dq (h : NewAll K H0 H vs ds) : DqAll K H vs ds := h H New.refl
theorem NewAll.set (h : NewAll K H0 H vs ds) (hv : NewD K H0 H v d) (i : Nat) : NewAll K H0 H (vs.set i v) (ds.set i d) := fun G m => (h G m).set (hv G m)
theorem NewAll.add (h : NewAll K H0 H vs ds) (hv : NewD K H0 H v d) : NewAll K H0 H (vs ++ [v]) (ds ++ [d]) := fun G m => (h G m).app (.cons (hv G m) .nil)
theorem NewD.int {i : Int} : NewD K H0 H (.int i) (.int i) := fun _ _ => .int i
theorem NewD.bl {b : Bool} : NewD K H0 H (.bl b) (.bool b) := fun _ _ => .bl b
theorem NewD.str {x : Str} : NewD K H0 H (.str x) (.str x) := fun _ _ => .str x
theorem NewD.non : NewD K H0 H .non .none := fun _ _ => .non
theorem NewD.lst {l : Addr} (h : NewAll K H0 H vs ds) (n : H0 l = none) (e : H l = some (.lst vs)) : NewD K H0 H (.ref l) (.list ds) := fun G m => .lst (SqL.of (m _ _ n e)) (h G m)
theorem NewD.tup {l : Addr} (h : NewAll K H0 H vs ds) (n : H0 l = none) (e : H l = some (.tup vs)) : NewD K H0 H (.ref l) (.tuple ds) := fun G m => .tup (SqT.of (m _ _ n e)) (h G m)
end
theorem nodup_at {α : Type} {x : α} : ∀ {l : List α} {i j : Nat}, l.Nodup → l[i]? = some x → l[j]? = some x → i = j
  | [], _, _, _, h, _ => by cases h
  | a :: l, 0, 0, _, _, _ => rfl
  | a :: l, 0, j + 1, nd, h1, h2 => by
    cases h1
    exact absurd (List.mem_of_getElem? (i := j) h2) (List.nodup_cons.mp nd).1
  | a :: l, i + 1, 0, nd, h1, h2 => by
    cases h2
    exact absurd (List.mem_of_getElem? (i := i) h1) (List.nodup_cons.mp nd).1
  | a :: l, i + 1, j + 1, nd, h1, h2 => congrArg (· + 1) (nodup_at (i := i) (j := j) (List.nodup_cons.mp nd).2 h1 h2)
theorem Pen.there {H H' : Hp} {p c : Addr} {n : Nat} (h : Pen H' p c n) (b : But p H H') : There H H' := There.but b (by
  obtain ⟨kvs, e⟩ := h.at
  rw [e]
  exact nofun)
theorem Pen.not {H : Hp} {p c : Addr} {n : Nat} (h : Pen H p c n) : H p ≠ none := by
  obtain ⟨kvs, e⟩ := h.at
  rw [e]
  exact nofun
theorem There.upd {H : Hp} {a : Addr} {o : HO} : There H (upd H a o) := fun b n => by
  rcases Decidable.em (b = a) with rfl | ne
  · rw [upd_same] at n
    cases n
  · exact (upd_ne ne).symm.trans n
theorem DqAll.drop {K : PySem.W.Frag} {H : Hp} : ∀ {vs : List V} {ds : List PyData} (n : Nat), DqAll K H vs ds → DqAll K H (vs.drop n) (ds.drop n)
  | _, _, 0, h => h
  | _, _, _ + 1, .nil => .nil
  | _, _, n + 1, .cons _ b => b.drop n
theorem DqAll.take {K : PySem.W.Frag} {H : Hp} : ∀ {vs : List V} {ds : List PyData} (n : Nat), DqAll K H vs ds → DqAll K H (vs.take n) (ds.take n)
  | _, _, 0, _ => .nil
  | _, _, _ + 1, .nil => .nil
  | _, _, n + 1, .cons a b => .cons a (b.take n)
theorem DqAll.many {K : PySem.W.Frag} {H : Hp} {v : V} {d : PyData} (h : Dq K H v d) : ∀ n : Nat, DqAll K H (List.replicate n v) (List.replicate n d)
  | 0 => .nil
  | n + 1 => .cons h (DqAll.many h n)
/-! ### a list of rows and a list of marks that stand in HB, changed since by place -/
structure Grd (K : PySem.W.Frag) (HB H : Hp) (r m : Addr) (bs : List Addr) (rws : List (List V)) (dws : List (List PyData)) (ws : List V) (dms : List PyData) : Prop where
  hr : HB r ≠ none
  hm : HB m ≠ none
  hb : ∀ b ∈ bs, HB b ≠ none ∧ b ≠ r ∧ b ≠ m
  rm : r ≠ m
  nd : bs.Nodup
  rr : H r = some (.lst (bs.map V.ref))
  mm : H m = some (.lst ws)
  row : ∀ (i : Nat) (b : Addr) (row : List V), bs[i]? = some b → rws[i]? = some row → H b = some (.lst row)
  lb : bs.length = rws.length
  ld : bs.length = dws.length
  nw : ∀ (i : Nat) (row : List V) (ds : List PyData), rws[i]? = some row → dws[i]? = some ds → NewAll K HB H row ds
  nm : NewAll K HB H ws dms
section
variable {K : PySem.W.Frag} {HB H H' : Hp} {r m p c b : Addr} {bs : List Addr} {rws : List (List V)} {dws : List (List PyData)} {ws row : List V} {dms ds : List PyData} {v : V} {d : PyData} {i n : Nat}
theorem Grd.to (G : Grd K HB H r m bs rws dws ws dms) (n : New HB H H') (k : ∀ b xs, (b = r ∨ b = m ∨ b ∈ bs) → H b = some (.lst xs) → H' b = some (.lst xs)) : Grd K HB H' r m bs rws dws ws dms :=
  { G with
    rr := k _ _ (.inl rfl) G.rr
    mm := k _ _ (.inr (.inl rfl)) G.mm
    row := fun i b row e1 e2 => k _ _ (.inr (.inr (List.mem_of_getElem? e1))) (G.row i b row e1 e2)
    nw := fun i row ds e1 e2 => (G.nw i row ds e1 e2).to n
    nm := G.nm.to n }
theorem Grd.same (G : Grd K HB H r m bs rws dws ws dms) (s : Same H H') : Grd K HB H' r m bs rws dws ws dms := G.to (New.same s) fun b xs _ e => s _ _ e
theorem Grd.but (G : Grd K HB H r m bs rws dws ws dms) (s : But p H H') (hp : Pen H p c n) (hb : HB p ≠ none) : Grd K HB H' r m bs rws dws ws dms :=
  G.to (New.but s hb) fun b xs _ e => s _ _ (pen_ne hp e fun _ z => by cases z) e
theorem Grd.setRow (G : Grd K HB H r m bs rws dws ws dms) (j : Nat) (eb : bs[i]? = some b) (er : rws[i]? = some row) (ed : dws[i]? = some ds) (hv : NewD K HB H v d) :
    Grd K HB (upd H b (.lst (row.set j v))) r m bs (rws.set i (row.set j v)) (dws.set i (ds.set j d)) ws dms := by
  have mb := List.mem_of_getElem? eb
  obtain ⟨h1, h2, h3⟩ := G.hb b mb
  have nw : New HB H (upd H b (.lst (row.set j v))) := New.upd h1
  refine { G with rr := (upd_ne h2.symm).trans G.rr, mm := (upd_ne h3.symm).trans G.mm, row := fun k b' row' e1 e2 => ?_, lb := by rw [List.length_set]; exact G.lb, ld := by rw [List.length_set]; exact G.ld, nw := fun k row' ds' e1 e2 => ?_, nm := G.nm.to nw }
  · rcases Decidable.em (k = i) with rfl | ne
    · rw [eb] at e1
      cases e1
      rw [List.getElem?_set_self (by rw [← G.lb]; exact (List.getElem?_eq_some_iff.mp eb).1)] at e2
      cases e2
      exact upd_same
    · rw [List.getElem?_set_ne (Ne.symm ne)] at e2
      have nb : b' ≠ b := fun q => by
        subst q
        exact ne (nodup_at G.nd e1 eb)
      exact (upd_ne nb).trans (G.row k b' row' e1 e2)
  · rcases Decidable.em (k = i) with rfl | ne
    · have l1 : k < rws.length := by rw [← G.lb]; exact (List.getElem?_eq_some_iff.mp eb).1
      have l2 : k < dws.length := by rw [← G.ld]; exact (List.getElem?_eq_some_iff.mp eb).1
      rw [List.getElem?_set_self l1] at e1
      rw [List.getElem?_set_self l2] at e2
      cases e1
      cases e2
      exact ((G.nw k row ds er ed).set hv j).to nw
    · rw [List.getElem?_set_ne (Ne.symm ne)] at e1 e2
      exact (G.nw k row' ds' e1 e2).to nw
theorem Grd.setMark (G : Grd K HB H r m bs rws dws ws dms) (j : Nat) (hv : NewD K HB H v d) : Grd K HB (upd H m (.lst (ws.set j v))) r m bs rws dws (ws.set j v) (dms.set j d) := by
  have nw : New HB H (upd H m (.lst (ws.set j v))) := New.upd G.hm
  exact { G with
    rr := (upd_ne G.rm).trans G.rr
    mm := upd_same
    row := fun k b row e1 e2 => (upd_ne (G.hb b (List.mem_of_getElem? e1)).2.2).trans (G.row k b row e1 e2)
    nw := fun k row ds e1 e2 => (G.nw k row ds e1 e2).to nw
    nm := (G.nm.set hv j).to nw }
theorem Grd.rows (G : Grd K HB H r m bs rws dws ws dms) : DqAll K H (bs.map V.ref) (dws.map PyData.list) := by
  have go : ∀ (as : List Addr) (ts : List (List PyData)), as.length = ts.length → (∀ (i : Nat) (a : Addr) (t : List PyData), as[i]? = some a → ts[i]? = some t → Dq K H (.ref a) (.list t)) → DqAll K H (as.map V.ref) (ts.map PyData.list) := by
    intro as
    induction as with
    | nil =>
      intro ts h _
      cases ts with
      | nil => exact .nil
      | cons _ _ => cases h
    | cons a as ih =>
      intro ts h k
      cases ts with
      | nil => cases h
      | cons t ts => exact .cons (k 0 a t rfl rfl) (ih ts (Nat.succ.inj h) fun i b u e1 e2 => k (i + 1) b u e1 e2)
  refine go bs dws G.ld fun i a t e1 e2 => ?_
  obtain ⟨row, er⟩ : ∃ row, rws[i]? = some row := ⟨_, List.getElem?_eq_getElem (by rw [← G.lb]; exact (List.getElem?_eq_some_iff.mp e1).1)⟩
  exact .lst (SqL.of (G.row i a row e1 er)) (G.nw i row t er e2).dq
theorem Grd.dqR (G : Grd K HB H r m bs rws dws ws dms) : Dq K H (.ref r) (.list (dws.map PyData.list)) := .lst (SqL.of G.rr) G.rows
theorem Grd.dqM (G : Grd K HB H r m bs rws dws ws dms) : Dq K H (.ref m) (.list dms) := .lst (SqL.of G.mm) G.nm.dq
/-- another thing in a row's place -/
theorem Grd.setR (G : Grd K HB H r m bs rws dws ws dms) (j : Nat) (hv : NewD K HB H v d) :
    Dq K (upd H r (.lst ((bs.map V.ref).set j v))) (.ref r) (.list ((dws.map PyData.list).set j d)) ∧ (upd H r (.lst ((bs.map V.ref).set j v))) m = some (.lst ws) ∧ DqAll K (upd H r (.lst ((bs.map V.ref).set j v))) ws dms ∧ New HB H (upd H r (.lst ((bs.map V.ref).set j v))) := by
  have nw : New HB H (upd H r (.lst ((bs.map V.ref).set j v))) := New.upd G.hr
  have G2 : Grd K HB (upd H r (.lst (bs.map V.ref))) r m bs rws dws ws dms := G.to (New.upd G.hr) fun b xs _ e => by
    rcases Decidable.em (b = r) with rfl | ne
    · rw [G.rr] at e
      cases e
      exact upd_same
    · exact (upd_ne ne).trans e
  refine ⟨.lst (SqL.of upd_same) (DqAll.set ?_ (hv _ nw)), (upd_ne G.rm.symm).trans G.mm, G.nm _ nw, nw⟩
  have go : ∀ (as : List Addr) (ts : List (List PyData)), as.length = ts.length → (∀ (i : Nat) (a : Addr) (t : List PyData), as[i]? = some a → ts[i]? = some t → Dq K (upd H r (.lst ((bs.map V.ref).set j v))) (.ref a) (.list t)) → DqAll K (upd H r (.lst ((bs.map V.ref).set j v))) (as.map V.ref) (ts.map PyData.list) := by
    intro as
    induction as with
    | nil =>
      intro ts h _
      cases ts with
      | nil => exact .nil
      | cons _ _ => cases h
    | cons a as ih =>
      intro ts h k
      cases ts with
      | nil => cases h
      | cons t ts => exact .cons (k 0 a t rfl rfl) (ih ts (Nat.succ.inj h) fun i b u e1 e2 => k (i + 1) b u e1 e2)
  refine go bs dws G.ld fun i a t e1 e2 => ?_
  obtain ⟨row, er⟩ : ∃ row, rws[i]? = some row := ⟨_, List.getElem?_eq_getElem (by rw [← G.lb]; exact (List.getElem?_eq_some_iff.mp e1).1)⟩
  exact .lst (SqL.of ((upd_ne (G.hb a (List.mem_of_getElem? e1)).2.1).trans (G.row i a row e1 er))) (G.nw i row t er e2 _ nw)
end
/-- data of a table's numbers and marks -/
def dO : Option Nat → PyData
  | none => .none
  | some n => .int (n : Int)
def dM : Option Bool → PyData
  | none => .none
  | some b => .bool b
theorem dq_o {K : PySem.W.Frag} {H : Hp} (o : Option Nat) : Dq K H (oV o) (dO o) := by
  cases o
  · exact .non
  · exact .int _
theorem dq_m {K : PySem.W.Frag} {H : Hp} (o : Option Bool) : Dq K H (mV o) (dM o) := by
  cases o
  · exact .non
  · exact .bl _
theorem Tbl.grd {K : PySem.W.Frag} {H0 H : Hp} {z sz : Nat} {full : Bool} {r m : Addr} {bs : List Addr} {tb : List (List (Option Nat))} {ms : List (Option Bool)} (T : Tbl H0 H z sz full r m bs tb ms) :
    Grd K H H r m bs (tb.map fun row => row.map oV) (tb.map fun row => row.map dO) (ms.map mV) (ms.map dM) where
  hr := by rw [T.ra]; exact fun z => by cases z
  hm := by rw [T.ma]; exact fun z => by cases z
  hb b hb := by
    obtain ⟨xs, e⟩ := T.there hb
    exact ⟨(by rw [e]; exact nofun), (T.new.2.2 b hb).2⟩
  rm := T.rm
  nd := T.nd
  rr := T.ra
  mm := T.ma
  row i b row e1 e2 := by
    obtain ⟨t, e3, rfl⟩ := Option.map_eq_some_iff.mp (show (tb[i]?).map _ = some row by rw [← List.getElem?_map]; exact e2)
    exact T.row (b, t) (List.mem_of_getElem? (i := i) (by rw [List.getElem?_zip_eq_some]; exact ⟨e1, e3⟩))
  lb := by rw [List.length_map]; exact T.lb
  ld := by rw [List.length_map]; exact T.lb
  nw i row ds e1 e2 := by
    obtain ⟨t, e3, rfl⟩ := Option.map_eq_some_iff.mp (show (tb[i]?).map _ = some row by rw [← List.getElem?_map]; exact e1)
    obtain ⟨t', e4, rfl⟩ := Option.map_eq_some_iff.mp (show (tb[i]?).map _ = some ds by rw [← List.getElem?_map]; exact e2)
    rw [e3] at e4
    cases e4
    exact fun G _ => DqAll.of fun x _ => dq_o x
  nm := fun G _ => DqAll.of fun x _ => dq_m x
end Wf
/-! sets of tuples of whole numbers and texts: what is asked of one element -/
namespace Wf
open PySem PySem.Spec PyProof.Rows L2
/-- at b: the tuple of the keys k (whole numbers and texts) -/
abbrev KT (P : Program) (w : World) (h : Heap) (k : List Key) (b : Addr) : Prop := IsTupleKey (mixKind P w) h k b
/-- a whole number or a text -/
def Plain (v : Value) : Prop := (∃ i t, v = .int i t) ∨ ∃ x t, v = .str x t
section
variable {P : Program} {w : World} {A : Around} {E : Value → Shared → Prop} {s : Shared} {k : List Key} {b : Addr}
theorem plain_items {vs : List Value} (h : ItemsAre (mixKind P w) k vs) : ∀ v ∈ vs, Plain v := by
  induction h with
  | nil => exact fun _ hv => absurd hv List.not_mem_nil
  | cons one _ rest =>
    intro v hv
    rcases List.mem_cons.mp hv with rfl | hv
    · exact (keyIs_shape one).imp (fun ⟨i, t, _, e⟩ => ⟨i, t, e⟩) fun ⟨x, t, _, e⟩ => ⟨x, t, e⟩
    · exact rest v hv
theorem Plain.noClass {v : Value} (h : Plain v) (n : Nat) : ofAClassStatement n v = pure false := by
  rcases h with ⟨i, t, rfl⟩ | ⟨x, t, rfl⟩ <;> cases n <;> rfl
/-- a walk over plain items that meets nothing -/
theorem plain_walk {M : Model} {items : Array Value} {f : Value → Option Bool × PUnit → Sem (ForInStep (Option Bool × PUnit))} {Q : Option Bool × PUnit → Shared → Prop} (each : ∀ v ∈ items.toList, ∀ r : Option Bool × PUnit, r.1 = none → ∃ r' : Option Bool × PUnit, r'.1 = none ∧ f v r = pure (.yield r')) (last : ∀ r : Option Bool × PUnit, r.1 = none → Q r s) :
    wpAny M A (forIn items (none, PUnit.unit) f) Q E s := by
  rw [← Array.forIn_toList]
  refine wpAny_forIn_list f (fun rest r s' => (r.1 = none ∧ s' = s) ∧ ∀ v ∈ rest, v ∈ items.toList) Q (fun v rest r s' ⟨⟨e, es⟩, all⟩ => ?_) (fun r s' ⟨⟨e, es⟩, _⟩ => by rw [es]; exact last r e) _ _ ⟨⟨rfl, rfl⟩, fun _ h => h⟩
  obtain ⟨r', e', q⟩ := each v (all v List.mem_cons_self) r e
  rw [q]
  exact wpAny_pure ⟨⟨e', es⟩, fun u hu => all u (List.mem_cons_of_mem _ hu)⟩
theorem KT.noClass {Q : Bool → Shared → Prop} (h : KT P w s.heap k b) (q : Q false s) : wpAny (model P w) A (ofAClassStatement 8 (.ref b)) Q E s := by
  have ty := h.typeIs
  obtain ⟨o, items, n, ho, _, hd, hi⟩ := h
  have all := plain_items hi
  unfold ofAClassStatement
  refine wpAny_bind (wpAny_typeOf ty ?_)
  simp only [show (("tuple" : String) == "tuple") = true from by decide, if_true, Bool.not_true, Bool.false_eq_true, if_false]
  try refine wpAny_bind (wpAny_pure ?_)
  refine wpAny_bind (wpAny_seqItems ho hd ?_)
  refine wpAny_bind (plain_walk (fun v hv r e => ?_) fun r e => ?_)
  · refine ⟨(none, PUnit.unit), rfl, ?_⟩
    rw [(all v hv).noClass]
    rfl
  · obtain ⟨r1, r2⟩ := r
    cases e
    exact wpAny_pure q
end
end Wf
/-! a set of tuples of whole numbers and texts: its state, and the search for one -/
namespace Wf
open PySem PySem.Spec PyProof.Rows L2
abbrev hk (P : Program) (w : World) (k : List Key) : Int := tupleKeyHash (mixKind P w) k
abbrev El := Addr × List Key
/-- an element as the set's object holds it -/
def ent (P : Program) (w : World) (p : El) : Int × Value := (hk P w p.2, .ref p.1)
/-- the set at a holds the elements L, no key twice -/
structure Sst (P : Program) (w : World) (h : Heap) (a : Addr) (L : List El) (es : Array (Int × Value)) (ep : Nat) (t : SetTable) : Prop where
  ob : ∃ o, h.get? a = some o ∧ o.ExactSet ∧ o.data = .set es ep t
  is : es.toList = L.map (ent P w)
  tab : TabOk t (L.map fun p => hk P w p.2)
  nd : (L.map (·.2)).Nodup
  el : ∀ p ∈ L, KT P w h p.2 p.1
  led : w.params.followText "set-order" = true ∨ t.led = true
  room : L.length * 5 < t.mask * 3
  few : L.length < 64
/-- the c-th place of the way of h -/
abbrev pr (m : Nat) (h : Int) (c : Nat) : SetTable.Probe := nth m (runAt m (SetTable.bits h % (m + 1)) (SetTable.bits h)) c
theorem pr_add (m : Nat) (h : Int) (c q : Nat) : nth m (pr m h c) q = pr m h (c + q) := (nth_add m c _ q).symm
theorem adv_dummy (m : Nat) (p : SetTable.Probe) : (adv m p).dummy = p.dummy := by
  unfold adv
  split <;> rfl
theorem nth_dummy (m : Nat) : ∀ (n : Nat) (p : SetTable.Probe), (nth m p n).dummy = p.dummy
  | 0, _ => rfl
  | n + 1, p => (nth_dummy m n (adv m p)).trans (adv_dummy m p)
def hashes (es : Array (Int × Value)) (i : Nat) : Int := (es[i]?.map (·.1)).getD 0
section
variable {P : Program} {w : World} {A : Around} {E : Value → Shared → Prop} {s : Shared} {a : Addr} {L : List El} {es : Array (Int × Value)} {ep : Nat} {t : SetTable}
theorem Sst.size (R : Sst P w s.heap a L es ep t) : es.size = L.length := by rw [← Array.length_toList, R.is, List.length_map]
theorem Sst.places (R : Sst P w s.heap a L es ep t) : t.place.size = L.length := by rw [R.tab.sz, List.length_map]
theorem fits_of {n : Nat} (h : t.place.size = n) (d : t.dummies = #[]) (le : n ≤ t.mask) : t.fits n = true := by
  unfold SetTable.fits SetTable.fill
  rw [d, h, beq_self_eq_true, Bool.true_and]
  exact decide_eq_true (by show n + 0 ≤ _; omega)
theorem Sst.fits (R : Sst P w s.heap a L es ep t) : t.fits es.size = true := by
  have := R.room
  rw [R.size]
  exact fits_of R.places R.tab.dm (by omega)
theorem Sst.at (R : Sst P w s.heap a L es ep t) {i : Nat} {p : El} (h : L[i]? = some p) : es[i]? = some (ent P w p) := by
  rw [← Array.getElem?_toList, R.is, List.getElem?_map, h]
  rfl
theorem Sst.hash (R : Sst P w s.heap a L es ep t) {i : Nat} {p : El} (h : L[i]? = some p) : hashes es i = hk P w p.2 := by
  unfold hashes
  rw [R.at h]
  rfl
/-- what is met from the c-th place on -/
theorem Sst.met (R : Sst P w s.heap a L es ep t) {h : Int} {K c : Nat} (few : K < 10 * SetTable.turns t.mask) (le : c ≤ K) (free : way t.mask h K ∉ t.place.toList) (full : ∀ q, q < K → way t.mask h q ∈ t.place.toList) :
    (∃ q i p, c ≤ q ∧ q < K ∧ L[i]? = some p ∧ t.slot (way t.mask h q) = .live i ∧ (∀ q' i', c ≤ q' → q' < q → t.place.toList[i']? = some (way t.mask h q') → hashes es i' ≠ h) ∧ t.probe (hashes es) h (pr t.mask h c) = some (.candidate (way t.mask h q) i (pr t.mask h (q + 1)))) ∨
    ((∀ q' i', c ≤ q' → q' < K → t.place.toList[i']? = some (way t.mask h q') → hashes es i' ≠ h) ∧ t.probe (hashes es) h (pr t.mask h c) = some (.empty (way t.mask h K) none)) := by
  have j : ∀ q, (nth t.mask (pr t.mask h c) q).j = way t.mask h (c + q) := fun q => congrArg SetTable.Probe.j (pr_add t.mask h c q)
  have g := go_spec t R.tab.ris R.tab.dm (hashes es) h (10 * SetTable.turns t.mask) (K - c) (pr t.mask h c) (nth_dummy _ _ _) (by omega) (fun q lt => (j q).symm ▸ full _ (by omega)) (by rw [j, Nat.add_sub_cancel' le]; exact free)
  have back : ∀ {n : Nat}, (∀ q' i', q' < n → t.place.toList[i']? = some (nth t.mask (pr t.mask h c) q').j → hashes es i' ≠ h) → ∀ q' i', c ≤ q' → q' < c + n → t.place.toList[i']? = some (way t.mask h q') → hashes es i' ≠ h := fun no q' i' l1 l2 e =>
    no (q' - c) i' (by omega) (by rw [j, Nat.add_sub_cancel' l1]; exact e)
  rcases g with ⟨q, i, lt, pl, _, no, go⟩ | ⟨no, go⟩
  · rw [j] at pl
    have il : i < L.length := by
      have := (List.getElem?_eq_some_iff.mp pl).1
      rw [Array.length_toList, R.places] at this
      exact this
    refine .inl ⟨c + q, i, L[i], Nat.le_add_right _ _, by omega, List.getElem?_eq_getElem il, slot_live R.tab.ris pl, back no, ?_⟩
    rw [j, pr_add] at go
    exact go
  · refine .inr ⟨fun q' i' l1 l2 => back no q' i' l1 (by omega), ?_⟩
    rw [j, Nat.add_sub_cancel' le] at go
    exact go
theorem KT.unseen {k : List Key} {b : Addr} {Q : Bool → Shared → Prop} (h : KT P w s.heap k b) {ys : List Value} (all : ∀ y ∈ ys, ∃ k' c, y = Value.ref c ∧ KT P w s.heap k' c) (q : Q false s) : wpAny (model P w) A (searchCouldBeSeen (.ref b) ys) Q E s := by
  unfold searchCouldBeSeen
  refine wpAny_bind (wpAny_forIn_list _ (fun rest r s' => (r.1 = none ∧ s' = s) ∧ ∀ y ∈ rest, y ∈ ys) _ (fun y rest r s' ⟨⟨e, es⟩, sub⟩ => ?_) (fun r s' ⟨⟨e, es⟩, _⟩ => ?_) _ _ ⟨⟨rfl, rfl⟩, fun _ z => z⟩)
  · subst es
    obtain ⟨k', c, rfl, hc⟩ := all y (sub _ List.mem_cons_self)
    have on : ∀ u ∈ rest, u ∈ ys := fun u hu => sub u (List.mem_cons_of_mem _ hu)
    dsimp only
    split
    · exact wpAny_pure ⟨⟨rfl, rfl⟩, on⟩
    · refine wpAny_bind (wpAny_eqIsQuiet_tuple h ?_)
      rw [if_neg (by decide)]
      refine wpAny_bind (wpAny_eqIsQuiet_tuple hc ?_)
      rw [if_neg (by decide)]
      refine wpAny_bind (h.noClass ?_)
      rw [if_neg (by decide)]
      refine wpAny_bind (hc.noClass ?_)
      rw [if_neg (by decide)]
      exact wpAny_pure ⟨⟨rfl, rfl⟩, on⟩
  · obtain ⟨r1, r2⟩ := r
    cases e
    subst es
    exact wpAny_pure q
end
end Wf
/-! the search for a tuple in a set of tuples -/
namespace Wf
open PySem PySem.Spec PyProof.Rows L2
section
variable {P : Program} {w : World} {A : Around} {E : Value → Shared → Prop} {s : Shared} {a : Addr} {L : List El} {es : Array (Int × Value)} {ep : Nat} {t : SetTable}
theorem Sst.gave (R : Sst P w s.heap a L es ep t) : ¬ t.gaveWay = true := by
  unfold SetTable.gaveWay
  rw [mask_odd R.tab.mok]
  decide
theorem Sst.search (R : Sst P w s.heap a L es ep t) {x : Addr} {k : List Key} (hx : KT P w s.heap k x) (hu : A.units < cLine) {K : Nat} (few : K < 10 * SetTable.turns t.mask) (free : way t.mask (hk P w k) K ∉ t.place.toList) (full : ∀ q, q < K → way t.mask (hk P w k) q ∈ t.place.toList)
    {Q : SetFound → Shared → Prop} (q1 : k ∈ L.map (·.2) → Q (.there none) s) (q0 : k ∉ L.map (·.2) → Q (.free (way t.mask (hk P w k) K) false) s) :
    ∀ (f c : Nat) (stand : Option SetTable.Probe), stand.getD (t.probeStart (hk P w k)) = pr t.mask (hk P w k) c → c ≤ K → K - c < f → (∀ (i : Nat) (p : El), L[i]? = some p → p.2 = k → ∃ c', c ≤ c' ∧ c' < K ∧ t.place.toList[i]? = some (way t.mask (hk P w k) c')) →
      wpAny (model P w) A (setSearchFrom a (.ref x) (hk P w k) true f stand) Q E s
  | 0, c, _, _, _, lt, _ => absurd lt (Nat.not_lt_zero _)
  | f + 1, c, stand, st, le, lt, reach => by
    obtain ⟨o, at', _, data⟩ := R.ob
    rw [setSearchFrom_succ]
    refine wpAny_bind (wpAny_setState_of at' data R.fits ?_)
    dsimp only
    refine wp_if_neg R.gave ?_
    try refine wpAny_bind (wpAny_pure ?_)
    change wpAny _ _ (match t.probe (hashes es) (hk P w k) (stand.getD (t.probeStart (hk P w k))) with | some met => _ | x => _) _ _ _
    rw [st]
    rcases R.met few le free full with ⟨q, i, p, l1, l2, isp, live, none_before, probe⟩ | ⟨none_before, probe⟩ <;> rw [probe] <;> dsimp only
    · -- a candidate
      have one := R.el p (List.mem_of_getElem? isp)
      have look : wpAny (model P w) A (searchRest a (.ref x) (hk P w k) true f es t (way t.mask (hk P w k) q) i (pr t.mask (hk P w k) (q + 1))) Q E s := by
        unfold searchRest
        rw [R.at isp]
        refine wpAny_bind (wpAny_holding (wpAny_eqBool_tuple hu one hx (wpAny_bind (wpAny_setState_of at' data R.fits ?_))))
        dsimp only
        rcases Decidable.em (p.2 = k) with same | other
        · exact wp_if_pos (by rw [decide_eq_true same]; rfl) (wpAny_pure (q1 (List.mem_map.mpr ⟨p, List.mem_of_getElem? isp, same⟩)))
        · refine wp_if_neg (by rw [decide_eq_false other]; decide) ?_
          try refine wpAny_bind (wpAny_pure ?_)
          rw [sameMem]
          simp only [if_true, live, R.at isp]
          refine wpAny_bind (wpAny_isSame_ref_self (wpAny_bind (wpAny_pure ?_)))
          simp only [if_true]
          refine wp_if_neg (by rw [decide_eq_false other]; decide) ?_
          refine R.search hx hu few free full q1 q0 f (q + 1) _ rfl (by omega) (by omega) fun i' p' isp' same' => ?_
          obtain ⟨c', g1, g2, g3⟩ := reach i' p' isp' same'
          refine ⟨c', ?_, g2, g3⟩
          rcases Nat.lt_trichotomy c' q with before | now | later
          · exact absurd ((R.hash isp').trans (by rw [same'])) (none_before c' i' g1 before g3)
          · subst now
            have both := (slot_live R.tab.ris g3).symm.trans live
            injection both with both
            rw [both, isp] at isp'
            cases isp'
            exact absurd same' other
          · exact later
      rcases Bool.eq_false_or_eq_true t.led with on | off
      · refine wp_if_neg (by rw [on]; decide) ?_
        try refine wpAny_bind (wpAny_pure ?_)
        exact look
      · refine wp_if_pos (by rw [off]; rfl) (wpAny_bind (hx.unseen (fun y hy => ?_) ?_))
        · obtain ⟨e, he, rfl⟩ := List.mem_map.mp hy
          have he : e ∈ es.toList := (List.mem_filter.mp (by rw [← Array.toList_filter]; exact he)).1
          rw [R.is] at he
          obtain ⟨p', hp', rfl⟩ := List.mem_map.mp he
          exact ⟨p'.2, p'.1, rfl, R.el p' hp'⟩
        · refine wp_if_neg (by decide) ?_
          try refine wpAny_bind (wpAny_pure ?_)
          exact look
    · -- a free place
      refine wpAny_pure (q0 fun there => ?_)
      obtain ⟨p', hp', same'⟩ := List.mem_map.mp there
      obtain ⟨i', hi', e'⟩ := List.getElem_of_mem hp'
      have isp' : L[i']? = some p' := by rw [List.getElem?_eq_getElem hi', e']
      obtain ⟨c', g1, g2, g3⟩ := reach i' p' isp' same'
      exact none_before c' i' g1 g2 g3 ((R.hash isp').trans (by rw [same']))
theorem Sst.find (R : Sst P w s.heap a L es ep t) {x : Addr} {k : List Key} (hx : KT P w s.heap k x) (hu : A.units < cLine) {Q : SetFound → Shared → Prop} (q1 : k ∈ L.map (·.2) → Q (.there none) s)
    (q0 : ∀ K, k ∉ L.map (·.2) → way t.mask (hk P w k) K ∉ t.place.toList → (∀ q, q < K → way t.mask (hk P w k) q ∈ t.place.toList) → Q (.free (way t.mask (hk P w k) K) false) s) : wpAny (model P w) A (setSearch a (.ref x) (hk P w k) true) Q E s := by
  have room := R.room
  obtain ⟨K, few, free, full⟩ := R.tab.first (by rw [List.length_map]; omega) (hk P w k)
  have small : 10 * SetTable.turns t.mask < 100000 := by
    unfold SetTable.turns
    rcases R.tab.mok with e | e | e <;> rw [e] <;> decide
  unfold setSearch
  refine R.search hx hu few free full q1 (fun z => q0 K z free full) 100000 0 none rfl (Nat.zero_le _) (by omega) fun i p isp same => ?_
  have hi : (L.map fun p => hk P w p.2)[i]? = some (hk P w k) := by
    rw [List.getElem?_map, isp, ← same]
    rfl
  have il : i < t.place.toList.length := by
    rw [Array.length_toList, R.places]
    exact (List.getElem?_eq_some_iff.mp isp).1
  obtain ⟨c, lt, e⟩ := R.tab.before free hi (List.getElem?_eq_getElem il)
  exact ⟨c, Nat.zero_le _, lt, by rw [e, List.getElem?_eq_getElem il]⟩
end
end Wf
/-! a tuple is added to a set of tuples -/
namespace Wf
open PySem PySem.Spec PyProof.Rows L2
theorem fm_map {α β : Type} {f : α → Option β} {g : α → β} : ∀ {l : List α}, (∀ x ∈ l, f x = some (g x)) → l.filterMap f = l.map g
  | [], _ => rfl
  | x :: l, h => by rw [List.filterMap_cons_some (h x List.mem_cons_self), List.map_cons, fm_map fun y hy => h y (List.mem_cons_of_mem _ hy)]
section
variable {P : Program} {w : World} {A : Around} {E : Value → Shared → Prop} {s : Shared} {a : Addr} {L : List El} {es : Array (Int × Value)} {ep : Nat} {t : SetTable}
theorem ents_at (is : es.toList = L.map (ent P w)) (i : Nat) : es[i]? = (L[i]?).map (ent P w) := by rw [← Array.getElem?_toList, is, List.getElem?_map]
theorem ents_size (is : es.toList = L.map (ent P w)) : es.size = L.length := by rw [← Array.length_toList, is, List.length_map]
/-- the elements in another order -/
theorem reorder (is : es.toList = L.map (ent P w)) {order : Array Nat} (pm : order.toList.Perm (List.range L.length)) : ∃ L2 : List El, (order.filterMap (es[·]?)).toList = L2.map (ent P w) ∧ L2.Perm L ∧ (L2.map fun p => hk P w p.2) = order.toList.map fun i => (es.map (·.1)).getD i 0 := by
  refine ⟨order.toList.filterMap fun i => L[i]?, ?_, ?_, ?_⟩
  · rw [Array.toList_filterMap, List.map_filterMap, show (fun i => es[i]?) = fun i => (L[i]?).map (ent P w) from funext (ents_at is)]
  · have e := pm.filterMap fun i => L[i]?
    rw [List.filterMap_getElem?_range_length] at e
    exact e
  · rw [List.map_filterMap]
    refine fm_map fun i hi => ?_
    have lt : i < L.length := List.mem_range.mp (pm.mem_iff.mp hi)
    have e : (es.map (·.1))[i]? = some (hk P w L[i].2) := by
      rw [Array.getElem?_map, ents_at is i, List.getElem?_eq_getElem lt]
      rfl
    rw [List.getElem?_eq_getElem lt, Array.getD_eq_getD_getElem?, e]
    rfl
theorem KT.past {h h' : Heap} {k : List Key} {b : Addr} {o : Obj} (x : KT P w h k b) (at' : h.get? a = some o) (data : o.data = .set es ep t) (same : Heap.SameBut a h h') : KT P w h' k b := by
  obtain ⟨o', items, n, e, c, d, r⟩ := x
  refine ⟨o', items, n, (same.2 b fun z => ?_).trans e, c, d, r⟩
  rw [z, at'] at e
  cases e
  rw [data] at d
  cases d
theorem relaid (room : L.length ≤ t.mask) {o : Obj} (at' : s.heap.get? a = some o) (ex : o.ExactSet) (data : o.data = .set es ep t) (is : es.toList = L.map (ent P w)) (pl : t.place.size = L.length) (dm : t.dummies = #[]) (nd : (L.map (·.2)).Nodup) (el : ∀ p ∈ L, KT P w s.heap p.2 p.1)
    (led : w.params.followText "set-order" = true ∨ t.led = true) (few : L.length < 64) {wanted M : Nat} (size : SetTable.sizeAbove wanted - 1 = M) (mok : MaskOk M) (small : SetTable.sizeAbove wanted ≤ 128) (next : L.length * 5 < M * 3) {Q : Unit → Shared → Prop}
    (q : ∀ h' L' es' ep' t', Heap.SameBut a s.heap h' → Sst P w h' a L' es' ep' t' → L'.Perm L → Q () { s with heap := h' }) : wpAny (model P w) A (setRelay a wanted) Q E s := by
  have n := ents_size is
  obtain ⟨t', order, done, pm, tab, em, eled, _, _⟩ := relaid_ok t (hs := es.map (·.1)) (wanted := wanted) size mok (by rw [Array.size_map, n]; omega)
  rw [Array.size_map, n] at pm
  obtain ⟨L2, is2, pm2, hs2⟩ := reorder is pm
  have n2 : (order.filterMap (es[·]?)).size = es.size := by rw [ents_size is2, pm2.length_eq, n]
  rw [setRelay_eq]
  refine wpAny_bind (wpAny_setState_of at' data (by rw [n]; exact fits_of pl dm room) ?_)
  dsimp only
  refine wp_if_neg (by rw [sizeLine_eq]; omega) ?_
  try refine wpAny_bind (wpAny_pure ?_)
  rw [done]
  refine wpAny_bind (wp_if_neg (by rw [n2, bne_self_eq_false]; decide) ?_)
  try refine wpAny_bind (wpAny_pure ?_)
  refine wpAny_pure (wpAny_storeSet_of at' data ?_ (by rw [n2, n, sizeLine_eq]; omega))
  have same : Heap.SameBut a s.heap (s.heap.update a (Obj.putSet (order.filterMap (es[·]?)) t')) := Heap.SameBut.update ..
  exact q _ L2 _ (ep + 1) t' same {
    ob := ⟨_, store_at at' data, ⟨ex.1, ex.2.1, ex.2.2⟩, rfl⟩
    is := is2
    tab := by rw [hs2]; exact tab
    nd := (pm2.map (·.2)).nodup_iff.mpr nd
    el := fun p hp => (el p (pm2.mem_iff.mp hp)).past at' data same
    led := by rw [eled]; exact led
    room := by rw [pm2.length_eq, em]; exact next
    few := by rw [pm2.length_eq]; exact few } pm2
/-- whatever it says of a value's hash -/
theorem KT.anyHash {k : List Key} {b : Addr} {Q : Bool → Shared → Prop} (h : KT P w s.heap k b) (q : ∀ r, Q r s) : wpAny (model P w) A (hashByValue 8 (.ref b)) Q E s := by
  have ty := h.typeIs
  obtain ⟨o, items, n, ho, _, hd, hi⟩ := h
  have all := plain_items hi
  unfold hashByValue
  refine wpAny_bind (wpAny_specialOf ty F.slot_tuple_hash.lookup ?_)
  refine wpAny_bind (wpAny_seqItems ho hd (wpAny_bind ?_))
  change wpAny _ _ (forIn items _ _) _ _ _
  rw [← Array.forIn_toList]
  refine wpAny_forIn_list _ (fun rest r s' => s' = s ∧ ∀ v ∈ rest, v ∈ items.toList) _ (fun v rest r s' ⟨e, sub⟩ => ?_) (fun r s' ⟨e, _⟩ => ?_) _ _ ⟨rfl, fun _ z => z⟩
  · subst e
    have on : ∀ u ∈ rest, u ∈ items.toList := fun u hu => sub u (List.mem_cons_of_mem _ hu)
    rcases all v (sub v List.mem_cons_self) with ⟨i, tk, rfl⟩ | ⟨x, tk, rfl⟩
    · refine wpAny_bind (wpAny_of_eq (a := true) (by rfl) ?_)
      exact wpAny_pure ⟨rfl, on⟩
    · refine wpAny_bind (wpAny_of_eq (a := false) (by rfl) ?_)
      refine wpAny_pure ?_
      exact wpAny_pure (q _)
  · subst e
    obtain ⟨r1, r2⟩ := r
    cases r1
    · exact wpAny_pure (q _)
    · exact wpAny_pure (q _)
end
end Wf
namespace Wf
open PySem PySem.Spec PyProof.Rows L2
theorem unplain {t : SetTable} {hs : List Int} (T : TabOk t hs) (r : Bool) : TabOk (if r = true then t else { t with plain := false }) hs := by
  cases r
  · exact ⟨T.ris, T.dm, T.sz, T.mok, T.bd, T.reach⟩
  · exact T
section
variable {P : Program} {w : World} {A : Around} {E : Value → Shared → Prop} {s : Shared} {a : Addr} {L : List El} {es : Array (Int × Value)} {ep : Nat} {t : SetTable}
theorem KT.whether {β : Type} {k : List Key} {b : Addr} {c : Bool} {F : Bool → Sem β} {Q : β → Shared → Prop} (h : KT P w s.heap k b) (q : ∀ r, wpAny (model P w) A (F r) Q E s) : wpAny (model P w) A (if c = true then hashByValue 8 (.ref b) >>= F else pure true >>= F) Q E s := by
  cases c
  · exact wp_if_neg (by decide) (wpAny_bind (wpAny_pure (q true)))
  · exact wp_if_pos rfl (wpAny_bind (h.anyHash q))
/-- x, whose key is k, is added -/
theorem Sst.add (R : Sst P w s.heap a L es ep t) {x : Addr} {k : List Key} (hx : KT P w s.heap k x) (hu : A.units < cLine) (few : L.length + 1 < 64) {Q : Bool → Shared → Prop}
    (q : ∀ b h' L' es' ep' t', Heap.SameBut a s.heap h' → Sst P w h' a L' es' ep' t' → (k ∈ L.map (·.2) → L' = L) → (k ∉ L.map (·.2) → L'.Perm ((x, k) :: L)) → Q b { s with heap := h' }) : wpAny (model P w) A (setAddHashed a (.ref x) (hk P w k)) Q E s := by
  obtain ⟨o, at', ex, data⟩ := R.ob
  have n := R.size
  have room := R.room
  unfold setAddHashed
  refine wpAny_holding ?_
  rw [show (100000 : Nat) = 99999 + 1 from rfl, setAddHashedIn_succ]
  refine wpAny_bind (wpAny_setState_of at' data R.fits ?_)
  dsimp only
  refine wp_if_neg (by simp [byScan, Value.scannable]) ?_
  try refine wpAny_bind (wpAny_pure ?_)
  refine wpAny_bind (R.find hx hu (fun there => ?_) fun K new free full => ?_)
  · exact wpAny_pure (q false s.heap L es ep t (Heap.SameBut.refl a s.heap) R (fun _ => rfl) fun z => absurd there z)
  dsimp only
  refine wpAny_bind (wpAny_setState_of at' data R.fits ?_)
  dsimp only
  obtain ⟨p1, p2, p3, p4, p5, _, _, _, p9⟩ := R.tab.put free full
  rw [List.length_map] at p2 p9
  generalize t.put (way t.mask (hk P w k) K) = pt at p1 p3 p4 p5 p9 ⊢
  obtain ⟨t1, b⟩ := pt
  dsimp only at p1 p3 p4 p5 p9 ⊢
  generalize SetTable.below t.place (way t.mask (hk P w k) K) = b' at p1 p2 p3
  subst p1
  refine hx.whether fun r => ?_
  -- the elements, the new one among them
  have is1 : (SetTable.insertAt es b (hk P w k, Value.ref x)).toList = (L.take b ++ (x, k) :: L.drop b).map (ent P w) := by
    rw [SetTable.toList_insertAt, R.is, List.map_append, List.map_cons, List.map_take, List.map_drop]
    rfl
  have pm1 : (L.take b ++ (x, k) :: L.drop b).Perm ((x, k) :: L) := by
    have e : (L.take b ++ (x, k) :: L.drop b).Perm ((x, k) :: (L.take b ++ L.drop b)) := List.perm_middle
    rw [List.take_append_drop] at e
    exact e
  have tab1 : TabOk t1 ((L.take b ++ (x, k) :: L.drop b).map fun p => hk P w p.2) := by
    rw [List.map_append, List.map_cons, List.map_take, List.map_drop]
    exact p3
  generalize L.take b ++ (x, k) :: L.drop b = L1 at is1 pm1 tab1
  generalize SetTable.insertAt es b (hk P w k, Value.ref x) = es1 at is1 ⊢
  have tab2 := unplain tab1 r
  have m2 : (if r = true then t1 else { t1 with plain := false }).mask = t.mask := by cases r <;> exact p4
  have l2 : (if r = true then t1 else { t1 with plain := false }).led = t.led := by cases r <;> exact p5
  have f2 : (if r = true then t1 else { t1 with plain := false }).fill = L.length + 1 := by cases r <;> exact p9
  generalize (if r = true then t1 else { t1 with plain := false }) = t2 at tab2 m2 l2 f2 ⊢
  have len1 : L1.length = L.length + 1 := pm1.length_eq
  have n1 := ents_size is1
  have nd1 : (L1.map (·.2)).Nodup := (pm1.map (·.2)).nodup_iff.mpr (List.nodup_cons.mpr ⟨new, R.nd⟩)
  refine wpAny_bind (wpAny_storeSet_of at' data ?_ (by rw [n1, len1, sizeLine_eq]; omega))
  have same : Heap.SameBut a s.heap (s.heap.update a (Obj.putSet es1 t2)) := Heap.SameBut.update ..
  have at1 := store_at (es' := es1) (t' := t2) at' data
  generalize s.heap.update a (Obj.putSet es1 t2) = h1 at same at1 ⊢
  have el1 : ∀ p ∈ L1, KT P w h1 p.2 p.1 := fun p hp => by
    rcases List.mem_cons.mp (pm1.mem_iff.mp hp) with e | hp
    · rw [e]
      exact hx.past at' data same
    · exact (R.el p hp).past at' data same
  have led1 : w.params.followText "set-order" = true ∨ t2.led = true := by rw [l2]; exact R.led
  have full2 : t2.tooFull = decide ((L.length + 1) * 5 ≥ t.mask * 3) := by
    unfold SetTable.tooFull
    rw [f2, m2]
  have ends : ∀ {h2 : Heap} {L2 es2 ep2 t3}, Heap.SameBut a s.heap h2 → Sst P w h2 a L2 es2 ep2 t3 → L2.Perm L1 → wpAny (model P w) A (pure true) Q E { s with heap := h2 } := fun same2 R2 pm2 => wpAny_pure (q true _ _ _ _ _ same2 R2 (fun z => absurd z new) fun _ => pm2.trans pm1)
  rcases Decidable.em ((L.length + 1) * 5 ≥ t.mask * 3) with more | enough
  · have tight : (t.mask = 7 ∧ L.length = 4) ∨ (t.mask = 31 ∧ L.length = 18) := by rcases R.tab.mok with e | e | e <;> rw [e] at more room <;> omega
    refine wp_if_pos (by rw [full2, decide_eq_true more]; rfl) (wpAny_bind ?_)
    have anew : ∀ {M : Nat}, SetTable.sizeAbove (SetTable.grown (es.size + 1)) = M + 1 → MaskOk M → M + 1 ≤ 128 → L1.length * 5 < M * 3 → wpAny (model P w) A (setRelay a (SetTable.grown (es.size + 1))) (fun _ s' => wpAny (model P w) A (pure true) Q E s') E { s with heap := h1 } := fun {M} e mok le next =>
      relaid (s := { s with heap := h1 }) (by rw [m2]; rcases tight with ⟨e1, e2⟩ | ⟨e1, e2⟩ <;> omega) at1 ⟨ex.1, ex.2.1, ex.2.2⟩ rfl is1 (by rw [tab2.sz, List.length_map]) tab2.dm nd1 el1 led1 (by omega) (by rw [e]; rfl) mok (by rw [e]; exact le) next fun h2 L2 es2 ep2 t3 same2 R2 pm2 => ends (same.trans same2) R2 pm2
    rcases tight with ⟨_, e⟩ | ⟨_, e⟩
    · exact anew (M := 31) (by rw [n, e]; exact size_20) (.inr (.inl rfl)) (by decide) (by omega)
    · exact anew (M := 127) (by rw [n, e]; exact size_76) (.inr (.inr rfl)) (by decide) (by omega)
  · refine wp_if_neg (by rw [full2, decide_eq_false enough]; decide) (ends same ⟨⟨_, at1, ⟨ex.1, ex.2.1, ex.2.2⟩, rfl⟩, is1, tab2, nd1, el1, led1, by rw [m2]; omega, by omega⟩ (List.Perm.refl _))
end
end Wf
/-! set(xs), xs a list of tuples of whole numbers and texts -/
namespace Wf
open PySem PySem.Spec PyProof.Rows L2
/-- L: the first i of ks, each key once -/
structure Col (ks : List El) (i : Nat) (L : List El) : Prop where
  sub : ∀ p ∈ L, p ∈ ks.take i
  cov : ∀ p ∈ ks.take i, p.2 ∈ L.map (·.2)
  le : L.length ≤ i
theorem Col.none {ks : List El} : Col ks 0 [] := ⟨fun p h => absurd h List.not_mem_nil, fun p h => absurd h List.not_mem_nil, Nat.le_refl _⟩
theorem take_one {α : Type} {l : List α} {i : Nat} {x : α} (h : l[i]? = some x) : l.take (i + 1) = l.take i ++ [x] := by
  rw [List.take_succ, h]
  rfl
theorem Col.next {ks L L' : List El} {i : Nat} {p : El} (c : Col ks i L) (h : ks[i]? = some p) (old : p.2 ∈ L.map (·.2) → L' = L) (new : p.2 ∉ L.map (·.2) → L'.Perm (p :: L)) : Col ks (i + 1) L' := by
  have e := take_one h
  rcases Classical.em (p.2 ∈ L.map (·.2)) with is | no
  · rw [old is]
    refine ⟨fun q hq => by rw [e]; exact List.mem_append_left _ (c.sub q hq), fun q hq => ?_, Nat.le_succ_of_le c.le⟩
    rw [e] at hq
    rcases List.mem_append.mp hq with hq | hq
    · exact c.cov q hq
    · rw [List.mem_singleton.mp hq]
      exact is
  · have pm := new no
    refine ⟨fun q hq => ?_, fun q hq => ?_, by rw [pm.length_eq]; exact Nat.succ_le_succ c.le⟩
    · rw [e]
      rcases List.mem_cons.mp (pm.mem_iff.mp hq) with z | z
      · exact List.mem_append_right _ (List.mem_singleton.mpr z)
      · exact List.mem_append_left _ (c.sub q z)
    · rw [e] at hq
      refine (pm.map (·.2)).mem_iff.mpr ?_
      rcases List.mem_append.mp hq with hq | hq
      · exact List.mem_cons_of_mem _ (c.cov q hq)
      · rw [List.mem_singleton.mp hq]
        exact List.mem_cons_self
/-- what stood stands -/
abbrev Kept (h h' : Heap) : Prop := ∀ b o, h.get? b = some o → h'.get? b = some o
theorem KT.kept {P : Program} {w : World} {h h' : Heap} {k : List Key} {b : Addr} (x : KT P w h k b) (s : Kept h h') : KT P w h' k b := let ⟨o, items, n, e, r⟩ := x; ⟨o, items, n, s b o e, r⟩
theorem Sst.kept {P : Program} {w : World} {h h' : Heap} {a : Addr} {L : List El} {es : Array (Int × Value)} {ep : Nat} {t : SetTable} (R : Sst P w h a L es ep t) (s : ∀ o, h.get? a = some o → h'.get? a = some o) (el : ∀ p ∈ L, KT P w h' p.2 p.1) : Sst P w h' a L es ep t :=
  { R with ob := let ⟨o, e, r⟩ := R.ob; ⟨o, s o e, r⟩, el := el }
theorem sst_new {P : Program} {w : World} {h : Heap} {a : Addr} (e : h.get? a = some { cls := .type "set", dict := none, data := .set #[] 0 (.fresh 0 0 (!w.params.followText "set-order")) }) : Sst P w h a [] #[] 0 (.fresh 0 0 (!w.params.followText "set-order")) where
  ob := ⟨_, e, ⟨rfl, rfl, rfl⟩, rfl⟩
  is := rfl
  tab := ⟨List.Pairwise.nil, rfl, rfl, .inl rfl, fun x hx => absurd hx List.not_mem_nil, fun i h j hi => absurd hi (by simp)⟩
  nd := List.nodup_nil
  el := fun p hp => absurd hp List.not_mem_nil
  led := by
    rcases Bool.eq_false_or_eq_true (w.params.followText "set-order") with y | n
    · exact .inl y
    · exact .inr (by show (!_) = true; rw [n]; rfl)
  room := by show 0 * 5 < 7 * 3; decide
  few := by show 0 < 64; decide
/-- nothing but the heap and the tokens has moved -/
abbrev Still (s s' : Shared) : Prop := s'.gens = s.gens ∧ s'.drawn = s.drawn ∧ s'.os = s.os
section
variable {P : Program} {w : World} {A : Around} {E : Value → Shared → Prop}
theorem set_loop {I S : Addr} {fp wr : List Addr} {G : Array GenState → Array GenState → Prop} {n : Nat} {Pv : Nat → Value → Prop} {St : Nat → Shared → Prop} {R : Result → Shared → Prop} (W : WalksS P w A.in1 I fp wr G n Pv St) (hG : ∀ x y, G x y → y = x) (off : S ∉ fp) {ks : List El} (len : ks.length = n) (few : n < 64)
    (val : ∀ i v, Pv i v → ∃ p, ks[i]? = some p ∧ v = .ref p.1) {h0 : Heap} (el : ∀ p ∈ ks, KT P w h0 p.2 p.1) (S0 : h0.get? S = none) (wr0 : ∀ b ∈ wr, h0.get? b = none) (hu : A.in1.units < cLine) (s0 : Shared)
    (fin : ∀ s' L es ep t, Still s0 s' → Kept h0 s'.heap → Sst P w s'.heap S L es ep t → Col ks n L → R (.ok (.ret .none)) s') :
    ∀ (m i : Nat) (s : Shared), i + m = n → St i s → Still s0 s → Kept h0 s.heap → (∃ L es ep t, Sst P w s.heap S L es ep t ∧ Col ks i L) → codeAny (model P w) A (.builtin "set.update.loop" ⟨[.ref S, .ref I], []⟩) R s := by
  have offw : S ∉ wr := fun z => off (W.sub _ z)
  have keep : ∀ {s s' : Shared}, Moved wr G s s' → Kept h0 s.heap → Kept h0 s'.heap := fun mv k b o e => mv.heap b o (fun z => by cases (wr0 b z).symm.trans e) (k b o e)
  have still : ∀ {s s' : Shared}, Moved wr G s s' → Still s0 s → Still s0 s' := fun mv z => ⟨(hG _ _ mv.gens).trans z.1, mv.drawn.trans z.2.1, mv.os.trans z.2.2⟩
  have on : ∀ {i : Nat} {L : List El}, Col ks i L → ∀ p ∈ L, p ∈ ks := fun c p hp => List.mem_of_mem_take (c.sub p hp)
  intro m
  induction m with
  | zero =>
    rintro i s e st sl kp ⟨L, es, ep, t, hS, c⟩
    obtain rfl : i = n := e
    refine codeAny_builtin F.entry_set_update_loop ?_
    rw [Around.under_plainId F.plain_set_update_loop _]
    change wpAny _ A.in1 (pyNext (.ref I) >>= _) _ _ s
    exact wpAny_bind (W.done s _ _ st fun s' mv => wpAny_pure (fin s' L es ep t (still mv sl) (keep mv kp) (hS.kept (fun o z => mv.heap S o offw z) fun p hp => (el p (on c p hp)).kept (keep mv kp)) c))
  | succ m ih =>
    rintro i s e st sl kp ⟨L, es, ep, t, hS, c⟩
    refine codeAny_builtin F.entry_set_update_loop ?_
    rw [Around.under_plainId F.plain_set_update_loop _]
    change wpAny _ A.in1 (pyNext (.ref I) >>= _) _ _ s
    refine wpAny_bind (W.item i s _ _ (by omega) st fun v s' pv st' mv => ?_)
    obtain ⟨p, isp, rfl⟩ := val i v pv
    have kp' := keep mv kp
    have sl' := still mv sl
    have hS' := hS.kept (fun o z => mv.heap S o offw z) fun q hq => (el q (on c q hq)).kept kp'
    have hx := (el p (List.mem_of_getElem? isp)).kept kp'
    change wpAny _ A.in1 (holding [Value.ref p.1] (setAdd S (.ref p.1)) >>= _) _ _ s'
    refine wpAny_bind (wpAny_holding ?_)
    unfold setAdd
    refine wpAny_holding (wpAny_bind (wpAny_pyHash_tuple hu hx ?_))
    refine Sst.add (s := { s' with toks := s'.toks + (p.2.length + 1) }) hS' hx hu (by have := c.le; omega) fun b h' L' es' ep' t' same hS2 old new => ?_
    have past : ∀ b o, b ≠ S → s'.heap.get? b = some o → h'.get? b = some o := fun b o z q => (same.2 b z).trans q
    have kp2 : Kept h0 h' := fun b o z => past b o (fun y => by cases (y ▸ z).symm.trans S0) (kp' b o z)
    exact wpAny_pure ⟨plainId_quiet F.plain_set_update_loop _, ih (i + 1) _ (by omega) (W.frame _ s' h' _ st' (Nat.le_add_right _ _) fun b hb o z => past b o (fun y => off (y ▸ hb)) z) sl' kp2 ⟨L', es', ep', t', hS2, c.next isp old new⟩⟩
end
end Wf
set_option maxHeartbeats 6400000
namespace Wf
open PySem PySem.Spec PyProof.Rows L2
abbrev blank (w : World) : Obj := { cls := .type "set", dict := none, data := .set #[] 0 (.fresh 0 0 (!w.params.followText "set-order")) }
section
variable {P : Program} {w : World} {A : Around} {E : Value → Shared → Prop} {s : Shared}
theorem no_more {h : Heap} {b : Addr} (le : h.objs.size ≤ b) : h.get? b = none := by
  cases e : h.get? b with
  | none => rfl
  | some o => exact absurd (Heap.lt_size e) (Nat.not_lt.mpr le)
/-- set.__init__(S, xs) of a new set at S -/
theorem set_fill {l S : Addr} {items : Array Value} {ks : List El} {Q : Value → Shared → Prop} (hh : A.handled = none) (hl : s.heap.IsList l items) (is : items.toList = ks.map fun p => Value.ref p.1) (el : ∀ p ∈ ks, KT P w s.heap p.2 p.1) (few : ks.length < 64) (hu : A.units + 3 < cLine) (hS : S = s.heap.objs.size)
    (q : ∀ (h' : Heap) (tk : Nat) L es ep t, Sst P w h' S L es ep t → Col ks ks.length L → Kept s.heap h' → Q .none { s with heap := h', toks := tk }) :
    codeAny (model P w) A (.call (.builtin "set.__init__") ⟨[.ref S, .ref l], []⟩) (wants Q E) { s with heap := s.heap.push (blank w) } := by
  have at' : (s.heap.push (blank w)).get? S = some (blank w) := by rw [hS]; exact Heap.get?_push_size _ rfl
  have ty : Shared.TypeIs { s with heap := s.heap.push (blank w) } (.ref S) "set" := ⟨_, at', rfl⟩
  have many : ks.length = items.size := by rw [← Array.length_toList, is, List.length_map]
  refine codeAny_call_builtin F.called_set.init.plain F.entry_set_init (check_set_init_1 ty ?_)
  obtain ⟨⟨oc, od, dt, sl⟩, e1, e2, n, e3⟩ := hl
  dsimp only at e2 e3
  subst e2 e3
  have lt : l < s.heap.objs.size := Heap.lt_size e1
  have hol : (s.heap.push (blank w)).get? l = some { cls := .type "list", dict := od, data := .seq items n, slots := sl } := Heap.get?_push_of_some _ e1
  have f1 := F.sub_list_set
  have f2 := F.sub_list_frozenset
  have f3 : (Value.type "list" == Value.type "dict") = false := by decide
  unfold Builtin.«set.__init__» noKeywords Builtin.Frozenset.updateFrom
  generalize hPI : pyIter = PI
  wp_walk
  subst hPI
  refine wpAny_pyIter_list ⟨_, hol, rfl, n, rfl⟩ (wpAny_bind (wpAny_runValue ?_))
  have sz : (s.heap.push (blank w)).objs.size = s.heap.objs.size + 1 := Heap.size_push ..
  have nI : l ≠ (s.heap.push (blank w)).objs.size := by rw [sz]; exact Nat.ne_of_lt (Nat.lt_succ_of_lt lt)
  have hh2 : A.in1.in1.handled = none := by simp [hh]
  have W := (Walks.list (prog := P) (w := w) hh2 (s.heap.push (blank w)).objs.size l nI items).toS
  refine set_loop (A := A.in1) W (fun x y e => e) ?_ many (by omega) (fun i v hv => ?_) el (no_more (Nat.le_of_eq hS.symm)) (fun b hb => no_more ?_) (by show A.units + 1 + 1 < cLine; omega) s (fun s' L es ep t still kept hS2 c => ?_) items.size 0 _ (Nat.zero_add _) ⟨⟨_, Heap.get?_push_size _ rfl, rfl, rfl⟩, ⟨_, Heap.get?_push_of_some _ hol, rfl, n, rfl⟩⟩ ⟨rfl, rfl, rfl⟩
    (fun b o e => Heap.get?_push_of_some _ (Heap.get?_push_of_some _ e)) ⟨[], #[], 0, _, sst_new (Heap.get?_push_of_some _ at'), Col.none⟩
  · rw [sz, hS]
    intro z
    rcases List.mem_cons.mp z with z | z
    · exact absurd z (Nat.ne_of_lt (Nat.lt_succ_self _))
    · exact absurd (List.mem_singleton.mp z) (Nat.ne_of_gt lt)
  · have e : items.toList[i]? = some v := by rw [Array.getElem?_toList]; exact hv
    rw [is, List.getElem?_map] at e
    obtain ⟨p, e1, e2⟩ := Option.map_eq_some_iff.mp e
    exact ⟨p, e1, e2.symm⟩
  · rw [List.mem_singleton.mp hb, sz]
    exact Nat.le_succ _
  · obtain ⟨h', g', d', tk', os'⟩ := s'
    obtain ⟨rfl, rfl, rfl⟩ := still
    rw [← many] at c
    exact wpAny_pure (wpAny_pure (q h' tk' L es ep t hS2 c kept))
/-- set(xs) -/
theorem set_of {l : Addr} {items : Array Value} {ks : List El} {Q : Value → Shared → Prop} (hh : A.handled = none) (hl : s.heap.IsList l items) (is : items.toList = ks.map fun p => Value.ref p.1) (el : ∀ p ∈ ks, KT P w s.heap p.2 p.1) (few : ks.length < 64) (hu : A.units + 5 < cLine)
    (q : ∀ (h' : Heap) (tk : Nat) L es ep t, Sst P w h' s.heap.objs.size L es ep t → Col ks ks.length L → Kept s.heap h' → Q (.ref s.heap.objs.size) { s with heap := h', toks := tk }) : wpAny (model P w) A (call (.type "set") [.ref l]) Q E s := by
  obtain ⟨c, tl, mro⟩ := F.called_set.mro
  have m1 := F.called_set.made
  have m2 := F.called_set.sub
  have m3 := F.called_set.notType
  have m4 := F.called_set.canCreate
  have m5 := F.typeCall_set_1 (.ref l)
  refine wpAny_call (codeAny_of_tree ?_)
  change wpAny _ _ (callAny (.type "set") _) _ _ _
  refine wpAny_pure ⟨Code.quiet_builtin _ (by decide +kernel), codeAny_builtin F.entry_type_call ?_⟩
  rw [Around.under_plain (weight_type_call_type "set" [.ref l] []) rfl]
  repeat (any_goals (first | assumption | wp_step))
  refine codeAny_mono (code_set_led1 (.ref l) (E := E) (Q₁ := fun obj s1 => obj = .ref s.heap.objs.size ∧ s1 = { s with heap := s.heap.push (blank w) }) ⟨rfl, rfl⟩) fun r s1 back => ?_
  match r, back with
  | .error _, back => exact back
  | .ok (.ret _), ⟨e1, e2⟩ =>
    subst e1 e2
    have ty : Shared.TypeIs { s with heap := s.heap.push (blank w) } (.ref s.heap.objs.size) "set" := ⟨_, Heap.get?_push_size _ rfl, rfl⟩
    have n1 := F.called_set.init.lookup
    have n2 := F.called_set.init.bind (.ref s.heap.objs.size)
    repeat (any_goals (first | assumption | wp_step))
    refine codeAny_mono (set_fill (A := A.in1) (E := E) (Q := fun v s' => v = .none ∧ Q (.ref s.heap.objs.size) s') (by simp [hh]) hl is el few (by show A.units + 1 + 3 < cLine; omega) rfl fun h' tk L es ep t R c kp => ⟨rfl, q h' tk L es ep t R c kp⟩) fun r2 s2 back2 => ?_
    match r2, back2 with
    | .error _, back2 => exact back2
    | .ok (.ret _), ⟨e1, z⟩ =>
      subst e1
      repeat (any_goals (first | assumption | wp_step))
end
end Wf
/-! sorted(S), S a set of tuples (length, word) -/
namespace Wf
open PySem PySem.Spec PyProof.Rows L2
/-- the tuple at the address, and its word -/
abbrev At := Addr × Str
def kw (q : At) : El := (q.1, [.inl (q.2.length : Int), .inr q.2])
def dW (z : Str) : PyData := .tuple [.int (z.length : Int), .str z]
def leA : At → At → Bool := PySem.W.dataLe false fun q : At => dW q.2
theorem of_perm_map {α β : Type} {f : α → β} : ∀ {l : List α} {ys : List β}, ys.Perm (l.map f) → ∃ l' : List α, ys = l'.map f ∧ l'.Perm l
  | [], ys, h => ⟨[], by rw [List.map_nil] at h; exact List.Perm.eq_nil h, .refl _⟩
  | a :: l, ys, h => by
    obtain ⟨s, t, rfl⟩ := List.append_of_mem (h.mem_iff.mpr List.mem_cons_self)
    have less : (s ++ t).Perm (l.map f) := List.Perm.cons_inv (List.perm_middle.symm.trans h)
    obtain ⟨l', e, pm⟩ := of_perm_map less
    obtain ⟨l1, l2, rfl, e1, e2⟩ := List.map_eq_append_iff.mp e.symm
    exact ⟨l1 ++ a :: l2, by rw [List.map_append, List.map_cons, e1, e2], List.perm_middle.trans (List.Perm.cons a pm)⟩
section
variable {P : Program} {w : World} {A : Around} {E : Value → Shared → Prop} {s : Shared}
theorem kt_reads {h : Heap} {q : At} (x : KT P w h (kw q).2 q.1) : Reads h (.ref q.1) (dW q.2) [] := by
  obtain ⟨o, items, n, e, c, d, it⟩ := x
  have it : ItemsAre (mixKind P w) [.inl (q.2.length : Int), .inr q.2] items.toList := it
  cases hl : items.toList with
  | nil => rw [hl] at it; cases it
  | cons v1 r =>
    rw [hl] at it
    cases it with
    | cons k1 it =>
      cases it with
      | @cons _ v2 _ r2 k2 it =>
        cases it
        obtain ⟨t1, rfl⟩ : ∃ t1, v1 = Value.int (q.2.length : Int) t1 := by
          rcases keyIs_shape (show keyIs (.inl (q.2.length : Int)) v1 = true from k1) with ⟨i, t, e1, e2⟩ | ⟨y, t, e1, _⟩
          · cases e1
            exact ⟨t, e2⟩
          · cases e1
        obtain ⟨t2, rfl⟩ : ∃ t2, v2 = Value.str q.2 t2 := by
          rcases keyIs_shape (show keyIs (.inr q.2) v2 = true from k2) with ⟨i, t, e1, _⟩ | ⟨y, t, e1, e2⟩
          · cases e1
          · cases e1
            exact ⟨t, e2⟩
        refine Reads.tuple e c d ?_
        rw [hl]
        exact ReadsAll.cons (as := []) (bs := []) (Reads.int _ _) (ReadsAll.cons (as := []) (bs := []) (Reads.str _ _) .nil)
theorem each_refs {R : Value → At → Prop} : ∀ {qs : List At}, (∀ q ∈ qs, R (.ref q.1) q) → PySem.W.EachIs R (qs.map fun q => Value.ref q.1) qs
  | [], _ => .nil
  | q :: qs, h => .cons (h q List.mem_cons_self) (each_refs fun p hp => h p (List.mem_cons_of_mem _ hp))
theorem refs_each : ∀ {qs : List At} {vs : List Value}, PySem.W.EachIs (fun v (q : At) => v = .ref q.1) vs qs → vs = qs.map fun q => Value.ref q.1
  | _, _, .nil => rfl
  | _, _, .cons a b => by rw [a, refs_each b]; rfl
theorem sorted_set {a : Addr} {qs : List At} {es : Array (Int × Value)} {ep : Nat} {t : SetTable} {Q : Value → Shared → Prop} (R : Sst P w s.heap a (qs.map kw) es ep t) (hh : A.handled = none) (hu : A.units + 64 < cLine)
    (q : ∀ s' p (out : Array Value) (c : Nat) (qs' : List At), Kept s.heap s'.heap → s'.gens = s.gens → s'.os = s.os → s.heap.objs.size ≤ p → s'.heap.get? p = some (seqObj "list" out c) → out.toList = (qs'.mergeSort leA).map (fun q => Value.ref q.1) → qs'.Perm qs → Q (.ref p) s') :
    wpAny (model P w) A (call (.builtin "sorted") [.ref a]) Q E s := by
  obtain ⟨o, at', ex, data⟩ := R.ob
  have n := R.size
  have few := R.few
  rw [List.length_map] at n few
  refine Calls.call_function_entry kind_sorted plain_sorted entry_sorted (args_sorted1 _) ?_
  unfold Builtin.«sorted»
  refine wpAny_bind (m := checkCount "sorted" 1 1 _) (wpAny_pure ?_)
  refine wpAny_bind (collect_set (A := A.in1) hh ⟨o, at', ex.1, data⟩ R.fits (by unfold scanBound; omega) R.tab.ris R.led fun s1 vs kept big gens os pm => ?_)
  rw [R.is, List.map_map, List.map_map] at pm
  obtain ⟨qs1, rfl, pm1⟩ := of_perm_map (f := fun q : At => Value.ref q.1) pm
  have len1 : qs1.length < 64 := by rw [pm1.length_eq]; exact few
  refine wpAny_bind (wpAny_newList ?_ (by rw [List.length_map, sizeLine_eq]; omega))
  generalize hvs : qs1.map (fun q => Value.ref q.1) = vs
  have hat : (s1.heap.push (seqObj "list" vs.toArray 0)).get? s1.heap.objs.size = some (seqObj "list" vs.toArray 0) := Heap.get?_push_size _ rfl
  have rd : ∀ q ∈ qs1, Reads (s1.heap.push (seqObj "list" vs.toArray 0)) (.ref q.1) (dW q.2) [] := fun q hq => kt_reads (P := P) (w := w) ((R.el (kw q) (List.mem_map.mpr ⟨q, pm1.mem_iff.mp hq, rfl⟩)).kept fun b u z => Heap.get?_push_of_some _ (kept b u z))
  have e1 : PySem.W.EachIs (fun v (q : At) => v = .ref q.1) vs qs1 := by rw [← hvs]; exact each_refs fun _ _ => rfl
  have e2 : PySem.W.EachIs (fun v (q : At) => ∃ as, Reads (s1.heap.push (seqObj "list" vs.toArray 0)) v (dW q.2) as ∧ s1.heap.objs.size ∉ as) vs qs1 := by
    have := each_refs (R := fun v (q : At) => ∃ as, Reads (s1.heap.push (seqObj "list" vs.toArray 0)) v (dW q.2) as ∧ s1.heap.objs.size ∉ as) fun q hq => ⟨[], rd q hq, List.not_mem_nil⟩
    rw [hvs] at this
    exact this
  refine wpAny_bind (wpAny_holding ?_)
  refine PySem.W.list_sort_data (A := A.in1) (s := { s1 with heap := s1.heap.push (seqObj "list" vs.toArray 0) }) (enc := fun q : At => dW q.2) hat e1 e2 (PySem.W.AllAlike.of fun b b' => rfl) (PySem.W.Sortable.tuples fun b => ⟨_, _, rfl⟩) (by rw [sizeLine_eq]; omega) (fun b _ => by show A.units + 1 + 1 + 1 < cLine; omega) fun out len eo => ?_
  obtain ⟨c, hc⟩ := sortedHeap_at (vs := vs) (out := out.toArray) hat
  refine wpAny_pure ⟨_, rfl, q _ s1.heap.objs.size out.toArray c qs1 (fun b u z => ?_) gens os big hc (refs_each eo) pm1⟩
  have z1 := kept b u z
  have lt := Heap.lt_size z1
  change (sortedHeap (s1.heap.push (seqObj "list" vs.toArray 0)) s1.heap.objs.size vs out.toArray).get? b = some u
  rw [sortedHeap_old (Nat.ne_of_lt lt) (by rw [size_push']; exact Nat.lt_succ_of_lt lt)]
  exact Heap.get?_push_of_some _ z1
end
end Wf
/-! sorted(set(xs)), xs a list of tuples (length, word): the rule -/
namespace Wf
open PySem PySem.Spec PyProof.Rows L2
/-! ### the order -/
theorem lt_texts (a b : Str) : PySem.W.dataLt (.str a) (.str b) = !decide (b.cps.toList ≤ a.cps.toList) := by
  have e := congrFun (congrFun (PySem.W.dataLe_str (fun p : Str => p)) b) a
  rw [PySem.W.dataLe_eq] at e
  have e2 : (!PySem.W.dataLt (.str a) (.str b)) = decide (b.cps.toList ≤ a.cps.toList) := e
  rw [← e2, Bool.not_not]
theorem lt_ints (i j : Int) : PySem.W.dataLt (.int i) (.int j) = decide (i < j) := by
  have e := congrFun (congrFun (PySem.W.dataLe_int (fun p : Int => p)) j) i
  rw [PySem.W.dataLe_eq] at e
  have e2 : (!PySem.W.dataLt (.int i) (.int j)) = decide (j ≤ i) := e
  rw [← Bool.not_not (b := PySem.W.dataLt (.int i) (.int j)), e2, ← decide_not]
  exact decide_eq_decide.mpr (by omega)
theorem leA_eq (p q : At) : leA p q = decide (p.2.length < q.2.length ∨ (p.2.length = q.2.length ∧ p.2.cps.toList ≤ q.2.cps.toList)) := by
  obtain ⟨a1, a⟩ := p
  obtain ⟨b1, b⟩ := q
  have e : leA (a1, a) (b1, b) = !PySem.W.dataLt (dW b) (dW a) := rfl
  rw [e]
  unfold dW
  rw [PySem.W.dataLt_pair rfl rfl, lt_texts, lt_ints]
  show (!(if ((b.length : Int) == (a.length : Int)) = true then (if (b == a) = true then false else !decide (a.cps.toList ≤ b.cps.toList)) else decide ((b.length : Int) < (a.length : Int)))) = decide (a.length < b.length ∨ (a.length = b.length ∧ a.cps.toList ≤ b.cps.toList))
  by_cases hl : a.length = b.length
  · rw [if_pos (by rw [hl]; exact beq_self_eq_true _)]
    by_cases hab : b = a
    · subst hab
      rw [if_pos (beq_self_eq_true _)]
      exact (decide_eq_true (.inr ⟨rfl, List.le_refl _⟩)).symm
    · rw [if_neg (by simpa using hab), Bool.not_not]
      exact decide_eq_decide.mpr ⟨fun h => .inr ⟨hl, h⟩, fun h => h.elim (fun h => by omega) (fun h => h.2)⟩
  · rw [if_neg (by rw [beq_iff_eq]; omega), ← decide_not]
    exact decide_eq_decide.mpr ⟨fun h => .inl (by omega), fun h => h.elim (fun h => by omega) (fun h => absurd h.1 hl)⟩
theorem leA_strict {p q : At} (h : leA p q = true) (ne : p.2 ≠ q.2) : ltW p.2 q.2 := by
  rw [leA_eq, decide_eq_true_iff] at h
  refine h.imp id fun ⟨e, le⟩ => ⟨e, ?_⟩
  rcases List.le_iff_lt_or_eq.mp le with lt | eq
  · exact lt
  · exact absurd (PyProof.Rows.str_eq_of_lists eq) ne
/-- qs: of the tuples ps one for each word, in order -/
structure Sel (ps qs : List At) : Prop where
  sub : ∀ q ∈ qs, q ∈ ps
  cov : ∀ p ∈ ps, ∃ q ∈ qs, q.2 = p.2
  ord : qs.Pairwise fun p q => ltW p.2 q.2
theorem at_kw {ps : List At} : ∀ {L : List El}, (∀ p ∈ L, p ∈ ps.map kw) → ∃ qs : List At, L = qs.map kw ∧ ∀ q ∈ qs, q ∈ ps
  | [], _ => ⟨[], rfl, fun q h => absurd h List.not_mem_nil⟩
  | p :: L, h => by
    obtain ⟨q, hq, e⟩ := List.mem_map.mp (h p List.mem_cons_self)
    obtain ⟨qs, e2, sub⟩ := at_kw (L := L) fun x hx => h x (List.mem_cons_of_mem _ hx)
    exact ⟨q :: qs, by rw [e2, List.map_cons, e], fun x hx => (List.mem_cons.mp hx).elim (fun z => z ▸ hq) (sub x)⟩
theorem sel_of {ps qs qs' : List At} (c : Col (ps.map kw) (ps.map kw).length (qs.map kw)) (nd : ((qs.map kw).map (·.2)).Nodup) (sub : ∀ q ∈ qs, q ∈ ps) (pm : qs'.Perm qs) : Sel ps (qs'.mergeSort leA) := by
  have pm2 : (qs'.mergeSort leA).Perm qs := (List.mergeSort_perm _ _).trans pm
  have apart : (qs'.mergeSort leA).Pairwise fun p q => p.2 ≠ q.2 := by
    have nd2 : (((qs'.mergeSort leA).map kw).map (·.2)).Nodup := ((pm2.map kw).map (·.2)).nodup_iff.mpr nd
    rw [List.map_map] at nd2
    exact (List.pairwise_map.mp nd2).imp fun {p q} ne e => ne (by show (kw p).2 = (kw q).2; unfold kw; rw [e])
  refine ⟨fun q hq => sub q (pm2.mem_iff.mp hq), fun p hp => ?_, ?_⟩
  · have := c.cov (kw p) (by rw [List.take_length]; exact List.mem_map.mpr ⟨p, hp, rfl⟩)
    obtain ⟨e, he, e2⟩ := List.mem_map.mp this
    obtain ⟨q, hq, rfl⟩ := List.mem_map.mp he
    refine ⟨q, pm2.mem_iff.mpr hq, ?_⟩
    have e3 : ([.inl (q.2.length : Int), .inr q.2] : List Key) = [.inl (p.2.length : Int), .inr p.2] := e2
    exact Sum.inr.inj (List.cons.inj (List.cons.inj e3).2).1
  · exact ((PySem.W.sort_pairwise (PySem.W.sortLe_total _ false _) qs').and apart).imp fun {p q} ⟨le, ne⟩ => leA_strict le ne
/-! ### the rule -/
def tSortSet (K : PySem.W.Frag) (te : TE) : TE := fun σ H Q => te σ H fun x H1 => ∃ (l : Addr) (ps : List At), x = .ref l ∧ SqL K H1 l (ps.map fun q => V.ref q.1) ∧ (∀ q ∈ ps, SqT K H1 q.1 [.int (q.2.length : Int), .str q.2]) ∧ ps.length < 64 ∧
  ∀ r qs, H1 r = none → Sel ps qs → Q (.ref r) (upd H1 r (.lst (qs.map fun q => V.ref q.1)))
theorem refs_vals : ∀ {qs : List At} {us : List Value}, Vals (qs.map fun q => V.ref q.1) us → us = qs.map fun q => Value.ref q.1
  | [], _, r => by
    cases r
    rfl
  | q :: qs, _, r => by
    cases r with
    | cons a b =>
      cases a
      rw [refs_vals b]
      rfl
theorem vals_refs' : ∀ (qs : List At), Vals (qs.map fun q => V.ref q.1) (qs.map fun q => Value.ref q.1)
  | [] => .nil
  | q :: qs => .cons rfl (vals_refs' qs)
section
variable {X : Cx} {pins : List (Addr × Obj)} {σ : L2.St} {H : Hp} {s : Shared}
theorem kt_of (I : Inv X pins σ H s) {q : At} (h : SqT X.K H q.1 [.int (q.2.length : Int), .str q.2]) : KT X.prog X.w s.heap (kw q).2 q.1 := by
  obtain ⟨its, rv, ⟨o, ho, hc, n, hd⟩, _⟩ := I.tuple h
  refine ⟨o, its.toArray, n, ho, hc, hd, ?_⟩
  cases rv with
  | cons r1 rv =>
    cases rv with
    | cons r2 rv =>
      cases rv
      obtain ⟨t1, rfl⟩ := r1
      obtain ⟨t2, rfl⟩ := r2
      exact .cons (mixKind_int X.prog X.w _ t1) (.cons (mixKind_str X.prog X.w _ t2) .nil)
theorem pe_sortSet {e : Expr} {te : TE} {p p2 q pos : Pos} (hc : X.calm = true) (hu : X.A.units + 64 < cLine) (hg : Gl X "sorted") (hm : X.mg "sorted" = none) (hg2 : Gl X "set") (hm2 : X.mg "set" = none) (he : PE X e te)
    (na : starEach [e] X.env = (false, eval e X.env) :: starEach [] X.env := by rfl) : PE X (.Call (.Name "sorted" p) [.Call (.Name "set" p2) [e] [] q] [] pos) (tSortSet X.K te) := by
  refine ⟨fun pins s σ H Q I h => Call_ (ld_blt I hg hm (by decide +kernel : bootBuiltins "sorted" = some (.builtin "sorted")) ?_)⟩
  refine PyProof.Rows.callWith_builtin1 (PyProof.Rows.args_cons (Call_ (ld_blt I hg2 hm2 PyProof.Rows.boot_set ?_)) rfl) rfl rfl
  refine PyProof.Rows.callWith_type1 (PyProof.Rows.args_cons (thn (he.run pins s σ H _ I h) fun v s1 ⟨x, H1, J, rx, l, ps, ex, hl, el, few, k⟩ => PyProof.Rows.args_nil ?_) na) na rfl
  subst ex
  obtain rfl : v = Value.ref l := rx
  obtain ⟨its, rv, pl, _⟩ := J.list hl
  have is := refs_vals rv
  refine set_of (ks := ps.map kw) (J.ok.hd hc) pl.isList (by rw [List.map_map]; exact is) (fun p hp => ?_) (by rw [List.length_map]; exact few) (by omega) fun h' tk L es ep t R c kp => ?_
  · obtain ⟨q, hq, rfl⟩ := List.mem_map.mp hp
    exact kt_of J (el q hq)
  refine PyProof.Rows.args_nil ?_
  obtain ⟨qs, rfl, sub⟩ := at_kw fun p hp => List.mem_of_mem_take (c.sub p hp)
  have J2 : Inv X pins σ H1 { s1 with heap := h', toks := tk } := J.kept kp
  refine sorted_set (s := { s1 with heap := h', toks := tk }) R (J2.ok.hd hc) hu fun s2 r out cap qs' kp2 gens os big hr eo pm => ?_
  have free : H1 r = none := J2.hok.fresh big
  have nd := R.nd
  have small : (qs'.mergeSort leA).length ≤ 63 := by
    have := R.few
    rw [List.length_map] at this
    rw [List.length_mergeSort, pm.length_eq]
    omega
  have rel : Vals ((qs'.mergeSort leA).map fun q => V.ref q.1) out.toList := by rw [eo]; exact vals_refs' _
  obtain ⟨h2, g2, d2, t2, os2⟩ := s2
  dsimp only at gens os
  subst gens os
  have J3 : Inv X pins σ (upd H1 r (.lst ((qs'.mergeSort leA).map fun q => V.ref q.1))) ⟨h2, s1.gens, d2, t2, s1.os⟩ :=
    Inv.call (s := { s1 with heap := h', toks := tk }) (ch := []) J2 (Un.laid kp2 big free) (J2.hok.laid kp2 big ⟨by rw [List.length_map, sizeLine_eq]; omega, out.toList, cap, rel, hr⟩) J2.bare (fun _ z => nomatch z)
  exact ⟨.ref r, _, J3, rfl, k r _ free (sel_of c nd sub pm)⟩
end
end Wf
/-! word order -/
namespace Wf
open PySem L2
/-! ### the mathematics: sorted alphabetically, then by length, is sorted by (length, word) -/
def leS (a b : Str) : Bool := leD (.str a, .str a) (.str b, .str b)
def pair (z : Str) : PyData := .tuple [.int (z.length : Int), .str z]
def leP (a b : Str) : Bool := leD (.non, pair a) (.non, pair b)
def wordOrder (zs : List Str) : List Str := (zs.mergeSort leS).mergeSort leLen
theorem leS_eq (a b : Str) : leS a b = decide (a.cps.toList ≤ b.cps.toList) := by
  have e := congrFun (congrFun (PySem.W.dataLe_str (fun p : Str => p)) a) b
  exact e
theorem leLen_eq (a b : Str) : leLen a b = decide (a.length ≤ b.length) := by
  have e := congrFun (congrFun (PySem.W.dataLe_int (fun p : Str => (p.length : Int))) a) b
  rw [leLen, e]
  simp
theorem total_of {β : Type} (k : β → PyData) : PySem.W.TotalLe (PySem.W.dataLe false k) := PySem.W.sortLe_total _ false _
theorem lt_str (a b : Str) : PySem.W.dataLt (.str a) (.str b) = !decide (b.cps.toList ≤ a.cps.toList) := by
  have e := congrFun (congrFun (PySem.W.dataLe_str (fun p : Str => p)) b) a
  rw [PySem.W.dataLe_eq] at e
  have e2 : (!PySem.W.dataLt (.str a) (.str b)) = decide (b.cps.toList ≤ a.cps.toList) := e
  rw [← e2, Bool.not_not]
theorem lt_int (i j : Int) : PySem.W.dataLt (.int i) (.int j) = decide (i < j) := by
  have e := congrFun (congrFun (PySem.W.dataLe_int (fun p : Int => p)) j) i
  rw [PySem.W.dataLe_eq] at e
  have e2 : (!PySem.W.dataLt (.int i) (.int j)) = decide (j ≤ i) := e
  rw [← Bool.not_not (b := PySem.W.dataLt (.int i) (.int j)), e2, ← decide_not]
  exact decide_eq_decide.mpr (by omega)
theorem cps_inj {a b : Str} (h : a.cps.toList = b.cps.toList) : a = b := PyProof.Rows.str_eq_of_lists h
theorem leP_eq (a b : Str) : leP a b = decide (a.length < b.length ∨ (a.length = b.length ∧ a.cps.toList ≤ b.cps.toList)) := by
  have e : leP a b = !PySem.W.dataLt (pair b) (pair a) := rfl
  rw [e]
  unfold pair
  rw [PySem.W.dataLt_pair rfl rfl, lt_str, lt_int]
  show (!(if ((b.length : Int) == (a.length : Int)) = true then (if (b == a) = true then false else !decide (a.cps.toList ≤ b.cps.toList)) else decide ((b.length : Int) < (a.length : Int)))) = _
  by_cases hl : a.length = b.length
  · have h1 : ((b.length : Int) == (a.length : Int)) = true := by rw [hl]; exact beq_self_eq_true _
    rw [if_pos h1]
    by_cases hab : b = a
    · subst hab
      rw [if_pos (beq_self_eq_true _)]
      exact (decide_eq_true (.inr ⟨rfl, List.le_refl _⟩)).symm
    · rw [if_neg (by simpa using hab), Bool.not_not]
      exact decide_eq_decide.mpr ⟨fun h => .inr ⟨hl, h⟩, fun h => h.elim (fun h => by omega) (fun h => h.2)⟩
  · have h1 : ¬ ((b.length : Int) == (a.length : Int)) = true := by
      rw [beq_iff_eq]
      omega
    rw [if_neg h1, ← decide_not]
    exact decide_eq_decide.mpr ⟨fun h => .inl (by omega), fun h => h.elim (fun h => by omega) (fun h => absurd h.1 hl)⟩
theorem leP_total : PySem.W.TotalLe leP := total_of pair
theorem leLen_total : PySem.W.TotalLe leLen := total_of _
theorem leS_total : PySem.W.TotalLe leS := total_of PyData.str
theorem same_P {a c : Str} : PySem.W.sameRank leP c a = true ↔ a = c := by
  unfold PySem.W.sameRank
  rw [Bool.and_eq_true, leP_eq, leP_eq, decide_eq_true_iff, decide_eq_true_iff]
  constructor
  · rintro ⟨h1, h2⟩
    rcases h1 with h1 | ⟨e1, h1⟩
    · rcases h2 with h2 | ⟨e2, _⟩ <;> omega
    · rcases h2 with h2 | ⟨_, h2⟩
      · omega
      · exact cps_inj (List.le_antisymm h2 h1)
  · rintro rfl
    exact ⟨.inr ⟨rfl, List.le_refl _⟩, .inr ⟨rfl, List.le_refl _⟩⟩
theorem filter_same {p : Str → Bool} {c : Str} (hp : ∀ a, p a = true ↔ a = c) {l m : List Str} (h : l.Perm m) : l.filter p = m.filter p := by
  have e : ∀ xs : List Str, xs.filter p = List.replicate (xs.filter p).length c := fun xs =>
    List.eq_replicate_of_mem fun b hb => (hp b).mp (List.mem_filter.mp hb).2
  rw [e l, e m, (h.filter p).length_eq]
theorem order_eq (zs : List Str) : wordOrder zs = zs.mergeSort leP := by
  refine PySem.W.sort_unique leP_total ?_ fun c => filter_same (fun a => same_P) ?_
  · refine List.pairwise_iff_forall_sublist.mpr fun {a b} hs => ?_
    have h1 : leLen a b = true := List.pairwise_iff_forall_sublist.mp (PySem.W.sort_pairwise leLen_total _) hs
    rw [leP_eq]
    rw [leLen_eq] at h1
    have h1' := of_decide_eq_true h1
    by_cases hl : a.length = b.length
    · have h2 : ([a, b].filter (PySem.W.sameRank leLen a)).Sublist ((wordOrder zs).filter (PySem.W.sameRank leLen a)) := hs.filter _
      have ea : PySem.W.sameRank leLen a a = true := PySem.W.sameRank_self leLen_total a
      have eb : PySem.W.sameRank leLen a b = true := by
        unfold PySem.W.sameRank
        rw [leLen_eq, leLen_eq, decide_eq_true (by omega : a.length ≤ b.length), decide_eq_true (by omega : b.length ≤ a.length)]
        rfl
      rw [List.filter_cons_of_pos ea, List.filter_cons_of_pos eb, List.filter_nil] at h2
      unfold wordOrder at h2
      rw [PySem.W.sort_stable leLen_total] at h2
      have h3 := h2.trans List.filter_sublist
      have h4 : leS a b = true := List.pairwise_iff_forall_sublist.mp (PySem.W.sort_pairwise leS_total _) h3
      rw [leS_eq] at h4
      exact decide_eq_true (.inr ⟨hl, of_decide_eq_true h4⟩)
    · exact decide_eq_true (.inl (by omega))
  · exact (List.mergeSort_perm _ _).trans (List.mergeSort_perm _ _)
end Wf
/-! a def of the text that may raise, called by its name in a def that may -/
namespace Wf
open PySem L2
structure DnX (P : Program) (w : World) (K : PySem.W.Frag) (mg : Str → Option Value) (base : Heap) (k : Nat) (x : Str) (ps : List Str) (sp : Sp) : Prop where
  ex : ∃ (f : Addr) (fd : FuncData), FnOk P w K mg base (L2.CX P w) k f fd ps sp ∧ mg x = some (.ref f) ∧ PySem.W.keepIn K (.ref f) = true ∧ Binds K fd ps []
section
variable {X : Cx} {k : Nat} {x : Str} {ps : List Str} {sp : Sp} {W : WX} {p pos : Pos} {e : Expr} {es : List Expr} {t : TA}
theorem pe_clX (D : DnX X.prog X.w X.K X.mg X.base k x ps sp) (hr : Room k X.A) (tk : Takes X W) (ha : PA X (e :: es) t) (hg : Gl X x := by rfl) (hdb : (x == ("__debug__" : Str)) = false := by decide)
    (he : starEach (e :: es) X.env = (false, eval e X.env) :: starEach es X.env := by rfl) (hpl : (backTo pos (starEach es X.env)).any (·.1) = false := by rfl) : PE X (.Call (.Name x p) (e :: es) [] pos) (tCallS sp (WE W) t) :=
  let ⟨_, _, F, hm, hk, hb⟩ := D.ex
  pe_callS F hr hg hm hk hb (fun σ => passAt tk σ) ha hdb he hpl
end
end Wf
/-! dicts of words to marks; the beginnings of words -/
namespace Wf
open PySem L2
def mkK (ms : List (Str × Bool)) : List (Key × V) := ms.map fun p => ((.inr p.1 : Key), V.bl p.2)
def keysM (ms : List (Str × Bool)) : List Str := ms.map (·.1)
/-- in its place, or at the end -/
def putW (ms : List (Str × Bool)) (w : Str) (b : Bool) : List (Str × Bool) := if (ms.any fun p => decide (p.1 = w)) = true then ms.map (fun p => if p.1 = w then (p.1, b) else p) else ms ++ [(w, b)]
theorem mk_len {ms : List (Str × Bool)} : (mkK ms).length = ms.length := List.length_map _
theorem key_eq {a b : Str} : decide ((.inr a : Key) = .inr b) = decide (a = b) := by
  by_cases h : a = b
  · rw [h]
    simp
  · rw [decide_eq_false h]
    exact decide_eq_false fun z => h (Sum.inr.inj z)
theorem any_mk {ms : List (Str × Bool)} {w : Str} : ((mkK ms).any fun kv => decide (kv.1 = .inr w)) = ms.any fun p => decide (p.1 = w) := by
  unfold mkK
  rw [List.any_map]
  congr 1
  funext p
  exact key_eq
theorem put_mk {ms : List (Str × Bool)} {w : Str} {b : Bool} : putK (mkK ms) (.inr w) (.bl b) = mkK (putW ms w b) := by
  unfold putK putW
  rw [any_mk]
  split
  · unfold mkK
    rw [List.map_map, List.map_map]
    congr 1
    funext p
    show (if (.inr p.1 : Key) = .inr w then ((.inr p.1 : Key), V.bl b) else (.inr p.1, .bl p.2)) = ((.inr (if p.1 = w then (p.1, b) else p).1 : Key), V.bl (if p.1 = w then (p.1, b) else p).2)
    by_cases h : p.1 = w
    · rw [if_pos h, if_pos (congrArg Sum.inr h)]
    · rw [if_neg h, if_neg fun z => h (Sum.inr.inj z)]
  · unfold mkK
    rw [List.map_append]
    rfl
theorem any_keys {ms : List (Str × Bool)} {w : Str} : (ms.any fun p => decide (p.1 = w)) = decide (w ∈ keysM ms) := by
  rw [Bool.eq_iff_iff, List.any_eq_true, decide_eq_true_iff]
  unfold keysM
  rw [List.mem_map]
  exact ⟨fun ⟨p, h, e⟩ => ⟨p, h, of_decide_eq_true e⟩, fun ⟨p, h, e⟩ => ⟨p, h, decide_eq_true e⟩⟩
theorem keys_set {ms : List (Str × Bool)} {w : Str} {b : Bool} : keysM (putW ms w b) = if w ∈ keysM ms then keysM ms else keysM ms ++ [w] := by
  unfold putW
  rw [any_keys]
  by_cases h : w ∈ keysM ms
  · rw [if_pos (decide_eq_true h), if_pos h]
    unfold keysM
    rw [List.map_map]
    refine List.map_congr_left fun p _ => ?_
    show (if p.1 = w then (p.1, b) else p).1 = p.1
    split <;> rfl
  · rw [if_neg (fun z => h (of_decide_eq_true z)), if_neg h]
    unfold keysM
    rw [List.map_append]
    rfl
theorem set_mem {ms : List (Str × Bool)} {w x : Str} {b : Bool} : x ∈ keysM (putW ms w b) ↔ x ∈ keysM ms ∨ x = w := by
  rw [keys_set]
  split
  · rename_i h
    exact ⟨.inl, fun z => z.elim id fun e => e ▸ h⟩
  · rw [List.mem_append, List.mem_singleton]
theorem set_nodup {ms : List (Str × Bool)} {w : Str} {b : Bool} (h : (keysM ms).Nodup) : (keysM (putW ms w b)).Nodup := by
  rw [keys_set]
  split
  · exact h
  · rename_i n
    refine List.nodup_append.mpr ⟨h, List.nodup_cons.mpr ⟨List.not_mem_nil, List.nodup_nil⟩, fun a ha c hc e => ?_⟩
    rw [List.mem_singleton.mp hc] at e
    exact n (e ▸ ha)
theorem set_len {ms : List (Str × Bool)} {w : Str} {b : Bool} : (putW ms w b).length ≤ ms.length + 1 := by
  unfold putW
  split
  · rw [List.length_map]
    omega
  · rw [List.length_append]
    exact Nat.le_refl _
/-- the mark of a word -/
def markOf : List (Str × Bool) → Str → Option Bool
  | [], _ => none
  | p :: ms, w => if p.1 = w then some p.2 else markOf ms w
theorem val_mk {w : Str} : ∀ {ms : List (Str × Bool)}, valV (mkK ms) (.inr w) = (markOf ms w).map V.bl
  | [] => rfl
  | p :: ms => by
    rw [show mkK (p :: ms) = (.inr p.1, .bl p.2) :: mkK ms from rfl]
    unfold markOf
    by_cases h : p.1 = w
    · rw [valV_pos (congrArg Sum.inr h), if_pos h]
      rfl
    · rw [valV_neg (fun z => h (Sum.inr.inj z)), if_neg h, val_mk]
theorem mark_app {x : Str} {more : List (Str × Bool)} : ∀ {ms : List (Str × Bool)}, markOf (ms ++ more) x = (markOf ms x).or (markOf more x)
  | [] => by cases h : markOf more x <;> simp [markOf, h]
  | p :: ms => by
    show (if p.1 = x then some p.2 else markOf (ms ++ more) x) = Option.or (if p.1 = x then some p.2 else markOf ms x) _
    split
    · rfl
    · exact mark_app
theorem mark_no {x : Str} : ∀ {ms : List (Str × Bool)}, x ∉ keysM ms → markOf ms x = none
  | [], _ => rfl
  | p :: ms, h => by
    show (if p.1 = x then some p.2 else markOf ms x) = none
    rw [if_neg fun e => h (by rw [← e]; exact List.mem_cons_self)]
    exact mark_no fun z => h (List.mem_cons_of_mem _ z)
theorem mark_map {w x : Str} {b : Bool} : ∀ {ms : List (Str × Bool)}, w ∈ keysM ms → markOf (ms.map fun p => if p.1 = w then (p.1, b) else p) x = if x = w then some b else markOf ms x
  | [], h => absurd h List.not_mem_nil
  | p :: ms, h => by
    rw [List.map_cons]
    show (if (if p.1 = w then (p.1, b) else p).1 = x then some (if p.1 = w then (p.1, b) else p).2 else markOf (ms.map fun p => if p.1 = w then (p.1, b) else p) x) = if x = w then some b else (if p.1 = x then some p.2 else markOf ms x)
    by_cases e : p.1 = w
    · rw [if_pos e]
      by_cases ex : x = w
      · rw [if_pos (show (p.1, b).1 = x from e.trans ex.symm), if_pos ex]
      · rw [if_neg (show ¬(p.1, b).1 = x from fun z => ex (z.symm.trans e)), if_neg ex, if_neg fun z : p.1 = x => ex (z.symm.trans e)]
        by_cases m : w ∈ keysM ms
        · rw [mark_map m, if_neg ex]
        · rw [show ms.map (fun p => if p.1 = w then (p.1, b) else p) = ms from (List.map_congr_left fun q hq => if_neg fun z => m (List.mem_map.mpr ⟨q, hq, z⟩)).trans (List.map_id ms)]
    · have m : w ∈ keysM ms := (List.mem_cons.mp h).elim (fun z => absurd z.symm e) id
      rw [if_neg e, mark_map m]
      by_cases ep : p.1 = x
      · rw [if_pos ep, if_neg fun z : x = w => e (ep.trans z), if_pos ep]
      · rw [if_neg ep, if_neg ep]
theorem mark_put {w x : Str} {b : Bool} {ms : List (Str × Bool)} : markOf (putW ms w b) x = if x = w then some b else markOf ms x := by
  unfold putW
  rw [any_keys]
  by_cases m : w ∈ keysM ms
  · rw [if_pos (decide_eq_true m)]
    exact mark_map m
  · rw [if_neg fun z => m (of_decide_eq_true z), mark_app]
    show Option.or (markOf ms x) (if w = x then some b else none) = _
    by_cases ex : x = w
    · rw [if_pos ex, if_pos ex.symm, mark_no (by rw [ex]; exact m)]
      rfl
    · rw [if_neg ex, if_neg fun z => ex z.symm, Option.or_none]
/-- the first k signs -/
def tk (w : Str) (k : Nat) : Str := ⟨(w.cps.toList.take k).toArray⟩
def prefs (ws : List Str) : List Str := "" :: ws.flatMap fun w => (List.range w.length).map fun k => tk w (k + 1)
theorem cut_text {w : Str} {k : Nat} : cutS w none (some (k : Int)) = tk w k := by
  unfold cutS tk
  rw [show HT.sIx w.length 0 none = 0 from rfl, HT.sIx_nat, List.drop_zero, Nat.sub_zero]
  congr 1
  rcases Nat.le_total k w.length with h | h
  · rw [Nat.min_eq_left h]
  · rw [Nat.min_eq_right h, List.take_of_length_le (by rw [Array.length_toList]; exact Nat.le_refl _), List.take_of_length_le (by rw [Array.length_toList]; exact h)]
theorem tk_len {w : Str} {k : Nat} : (tk w k).length ≤ w.length := by
  show (w.cps.toList.take k).toArray.size ≤ w.cps.size
  rw [List.size_toArray, List.length_take, Array.length_toList]
  omega
theorem tk_zero {w : Str} : tk w 0 = "" := rfl
theorem prefs_mem {ws : List Str} {x : Str} : x ∈ prefs ws ↔ x = "" ∨ ∃ w ∈ ws, ∃ k, k ≤ w.length ∧ x = tk w k := by
  unfold prefs
  rw [List.mem_cons, List.mem_flatMap]
  constructor
  · rintro (h | ⟨w, hw, h⟩)
    · exact .inl h
    · obtain ⟨k, hk, rfl⟩ := List.mem_map.mp h
      exact .inr ⟨w, hw, k + 1, List.mem_range.mp hk, rfl⟩
  · rintro (h | ⟨w, hw, k, hk, rfl⟩)
    · exact .inl h
    · cases k with
      | zero => exact .inl tk_zero
      | succ k => exact .inr ⟨w, hw, List.mem_map.mpr ⟨k, List.mem_range.mpr hk, rfl⟩⟩
/-! ### sorted lists are told by their members -/
theorem ltW_trans {a b c : Str} (h : ltW a b) (g : ltW b c) : ltW a c := by
  rcases h with h | ⟨h, h2⟩ <;> rcases g with g | ⟨g, g2⟩
  · exact .inl (by omega)
  · exact .inl (by omega)
  · exact .inl (by omega)
  · exact .inr ⟨by omega, List.lt_trans h2 g2⟩
theorem sorted_one : ∀ {ys zs : List Str}, ys.Pairwise ltW → zs.Pairwise ltW → (∀ x, x ∈ ys ↔ x ∈ zs) → ys = zs
  | [], [], _, _, _ => rfl
  | [], z :: zs, _, _, h => absurd ((h z).mpr List.mem_cons_self) List.not_mem_nil
  | y :: ys, [], _, _, h => absurd ((h y).mp List.mem_cons_self) List.not_mem_nil
  | y :: ys, z :: zs, h1, h2, h => by
    obtain ⟨a1, a2⟩ := List.pairwise_cons.mp h1
    obtain ⟨b1, b2⟩ := List.pairwise_cons.mp h2
    have e : y = z := by
      rcases List.mem_cons.mp ((h y).mp List.mem_cons_self) with e | m
      · exact e
      · rcases List.mem_cons.mp ((h z).mpr List.mem_cons_self) with e | m2
        · exact e.symm
        · exact absurd (ltW_trans (b1 y m) (a1 z m2)) (ltW_irrefl z)
    subst e
    refine congrArg (y :: ·) (sorted_one a2 b2 fun x => ⟨fun m => ?_, fun m => ?_⟩)
    · rcases List.mem_cons.mp ((h x).mp (List.mem_cons_of_mem _ m)) with e | m2
      · exact absurd (a1 x m) (by rw [e]; exact ltW_irrefl y)
      · exact m2
    · rcases List.mem_cons.mp ((h x).mpr (List.mem_cons_of_mem _ m)) with e | m2
      · exact absurd (b1 x m) (by rw [e]; exact ltW_irrefl y)
      · exact m2
theorem Srt.one {ys zs us vs : List Str} (a : Srt ys us) (b : Srt zs vs) (h : ∀ x, x ∈ us ↔ x ∈ vs) : ys = zs := sorted_one a.ord b.ord fun x => (a.mem x).trans ((h x).trans (b.mem x).symm)
/-- what stands once each, in word order -/
theorem order_srt {ks : List Str} (h : ks.Nodup) : Srt (wordOrder ks) ks := by
  have p : (wordOrder ks).Perm ks := (List.mergeSort_perm _ _).trans (List.mergeSort_perm _ _)
  refine ⟨fun x => p.mem_iff, ?_⟩
  rw [order_eq]
  have le : (ks.mergeSort leP).Pairwise fun a b => leP a b = true := PySem.W.sort_pairwise leP_total _
  have nd : (ks.mergeSort leP).Nodup := (List.mergeSort_perm _ _).nodup_iff.mpr h
  refine (List.Pairwise.and le nd).imp fun {a b} hh => ?_
  have h1 := of_decide_eq_true ((leP_eq a b).symm.trans hh.1)
  rcases h1 with h1 | ⟨h1, h2⟩
  · exact .inl h1
  · refine .inr ⟨h1, ?_⟩
    rcases List.le_iff_lt_or_eq.mp h2 with h3 | h3
    · exact h3
    · exact absurd (cps_inj h3) hh.2
end Wf
/-! a dict comprehension over anything that can be walked; the marks of a sample -/
namespace Wf
open PySem L2
/-- one turn of it: what comes next is Nx -/
abbrev DTurn (g : TG) (tt : TT) (tk tv : TE) (vs : List Nat) (σ : L2.St) (D : Addr) (Nx : Hp → Prop) (x : V) (H' : Hp) : Prop :=
  g x (wipe σ vs) H' fun σ2 H2 => wipe σ2 vs = wipe σ vs ∧ tt σ2 H2 fun b H3 => if b = true then tk σ2 H3 fun y H4 => tv σ2 H4 fun z H5 => ∃ kvs k, y = kV k ∧ H5 D = some (.dK kvs) ∧ kvs.length < sizeLine ∧ Nx (upd H5 D (.dK (putK kvs k z))) else Nx H3
theorem dc_walk {J : It} {n : Nat} {G : Hp → Prop} {Y : Nat → Hp → V → Hp → Prop} {g : TG} {tt : TT} {tk tv : TE} {vs : List Nat} {σ : L2.St} {H0 : Hp} {D : Addr} {Qd : Hp → Prop} (wk : Walk J n G Y) (Iv : Nat → Hp → Prop) (start : Iv 0 H0) (stays : ∀ i H, Iv i H → G H)
    (turn : ∀ i x H H', i < n → Iv i H → Y i H x H' → DTurn g tt tk tv vs σ D (Iv (i + 1)) x H') (done : ∀ H, Iv n H → Qd H) :
    ∃ W : Nat → Nat → Hp → Prop, (∃ m, W 0 m H0) ∧ ∀ i m H, W i m H → (J.stop i H ∧ Qd H) ∨ (J.go i H ∧ ∃ Nx : Hp → Prop, (∀ H', Nx H' → ∃ m', m' < m ∧ W (i + 1) m' H') ∧ ∀ x H', J.yld i H x H' → DTurn g tt tk tv vs σ D Nx x H') := by
  refine ⟨fun i m H => i + m = n ∧ Iv i H, ⟨n, Nat.zero_add n, start⟩, fun i m H ⟨em, iv⟩ => ?_⟩
  have g1 := stays i H iv
  cases m with
  | zero =>
    have ei : i = n := em
    rw [ei] at iv ⊢
    exact .inl ⟨wk.stops H g1, done H iv⟩
  | succ m =>
    have il : i < n := by omega
    exact .inr ⟨wk.goes i H il g1, Iv (i + 1), fun H' z => ⟨m, Nat.lt_succ_self m, by omega, z⟩, fun x H' y => turn i x H H' il iv (wk.yields i H x H' il g1 y)⟩
/-! ### the marks -/
def allTrue (ws : List Str) : List (Str × Bool) := ws.foldl (fun ms w => putW ms w true) []
def andFalse (ms : List (Str × Bool)) (ws : List Str) : List (Str × Bool) := ws.foldl (fun ms w => putW ms w false) ms
theorem allTrue_step {ws : List Str} {w : Str} {j : Nat} (h : ws[j]? = some w) : allTrue (ws.take (j + 1)) = putW (allTrue (ws.take j)) w true := by
  unfold allTrue
  rw [List.take_succ, h, List.foldl_append]
  rfl
theorem andFalse_step {ms : List (Str × Bool)} {ws : List Str} {w : Str} {j : Nat} (h : ws[j]? = some w) : andFalse ms (ws.take (j + 1)) = putW (andFalse ms (ws.take j)) w false := by
  unfold andFalse
  rw [List.take_succ, h, List.foldl_append]
  rfl
theorem fold_nodup {b : Bool} : ∀ {ws : List Str} {ms : List (Str × Bool)}, (keysM ms).Nodup → (keysM (ws.foldl (fun ms w => putW ms w b) ms)).Nodup
  | [], _, h => h
  | _ :: ws, _, h => fold_nodup (ws := ws) (set_nodup h)
theorem fold_len {b : Bool} : ∀ {ws : List Str} {ms : List (Str × Bool)}, (ws.foldl (fun ms w => putW ms w b) ms).length ≤ ms.length + ws.length
  | [], _ => Nat.le_refl _
  | w :: ws, ms => by
    have h1 := fold_len (b := b) (ws := ws) (ms := putW ms w b)
    have h2 := set_len (ms := ms) (w := w) (b := b)
    rw [List.foldl_cons, List.length_cons]
    omega
theorem fold_mark {b : Bool} {x : Str} : ∀ {ws : List Str} {ms : List (Str × Bool)}, markOf (ws.foldl (fun ms w => putW ms w b) ms) x = if x ∈ ws then some b else markOf ms x
  | [], ms => by
    rw [if_neg List.not_mem_nil]
    rfl
  | w :: ws, ms => by
    rw [List.foldl_cons, fold_mark, mark_put]
    by_cases h : x ∈ ws
    · rw [if_pos h, if_pos (List.mem_cons_of_mem _ h)]
    · rw [if_neg h]
      by_cases e : x = w
      · rw [if_pos e, if_pos (by rw [e]; exact List.mem_cons_self)]
      · rw [if_neg e, if_neg fun z => (List.mem_cons.mp z).elim e h]
theorem fold_keys {b : Bool} {x : Str} : ∀ {ws : List Str} {ms : List (Str × Bool)}, x ∈ keysM (ws.foldl (fun ms w => putW ms w b) ms) ↔ x ∈ keysM ms ∨ x ∈ ws
  | [], ms => ⟨.inl, fun z => z.elim id fun z => absurd z List.not_mem_nil⟩
  | w :: ws, ms => by
    rw [List.foldl_cons, fold_keys, set_mem, List.mem_cons, or_assoc]
/-- what stands in word order, however often, goes in in word order -/
theorem fold_sorted {b : Bool} : ∀ {ws : List Str} {ms : List (Str × Bool)}, ws.Pairwise (fun a c => leP a c = true) → (keysM ms).Pairwise ltW → (∀ k ∈ keysM ms, ∀ w ∈ ws, leP k w = true) → (keysM (ws.foldl (fun ms w => putW ms w b) ms)).Pairwise ltW
  | [], _, _, h, _ => h
  | w :: ws, ms, p, h, k => by
    obtain ⟨p1, p2⟩ := List.pairwise_cons.mp p
    rw [List.foldl_cons]
    refine fold_sorted (ws := ws) (ms := putW ms w b) p2 ?_ fun x hx u hu => ?_
    · rw [keys_set]
      split
      · exact h
      · rename_i n
        refine List.pairwise_append.mpr ⟨h, List.pairwise_singleton _ _, fun a ha c hc => ?_⟩
        rw [List.mem_singleton.mp hc]
        have h1 := of_decide_eq_true ((leP_eq a w).symm.trans (k a ha w List.mem_cons_self))
        rcases h1 with h1 | ⟨h1, h2⟩
        · exact .inl h1
        · rcases List.le_iff_lt_or_eq.mp h2 with h3 | h3
          · exact .inr ⟨h1, h3⟩
          · exact absurd (cps_inj h3) fun e => n (e ▸ ha)
    · rcases set_mem.mp hx with m | rfl
      · exact k x m u (List.mem_cons_of_mem _ hu)
      · exact p1 u hu
theorem order_mem {zs : List Str} {x : Str} : x ∈ wordOrder zs ↔ x ∈ zs := ((List.mergeSort_perm _ _).trans (List.mergeSort_perm _ _)).mem_iff
theorem order_len {zs : List Str} : (wordOrder zs).length = zs.length := ((List.mergeSort_perm _ _).trans (List.mergeSort_perm _ _)).length_eq
theorem order_le {zs : List Str} : (wordOrder zs).Pairwise fun a b => leP a b = true := by
  rw [order_eq]
  exact PySem.W.sort_pairwise leP_total _
/-- words that are not there yet stand behind -/
theorem fold_app {b : Bool} {ms : List (Str × Bool)} : ∀ {ws : List Str} {acc : List (Str × Bool)}, (∀ w ∈ ws, w ∉ keysM ms) → ws.foldl (fun ms w => putW ms w b) (ms ++ acc) = ms ++ ws.foldl (fun ms w => putW ms w b) acc
  | [], _, _ => rfl
  | w :: ws, acc, h => by
    have n := h w List.mem_cons_self
    have e : putW (ms ++ acc) w b = ms ++ putW acc w b := by
      unfold putW
      have e1 : ms.any (fun p => decide (p.1 = w)) = false := by
        rw [any_keys]
        exact decide_eq_false n
      have e2 : ms.map (fun p => if p.1 = w then (p.1, b) else p) = ms := (List.map_congr_left fun q hq => if_neg fun z => n (List.mem_map.mpr ⟨q, hq, z⟩)).trans (List.map_id ms)
      rw [List.any_append, e1, Bool.false_or]
      split
      · rw [List.map_append, e2]
      · rw [List.append_assoc]
    rw [List.foldl_cons, List.foldl_cons, e]
    exact fold_app fun x hx => h x (List.mem_cons_of_mem _ hx)
/-- the marks of a sample with these words -/
def marksOf (yw nw : List Str) : List (Str × Bool) := andFalse (allTrue (wordOrder yw)) (wordOrder nw)
structure Marks (yw nw : List Str) (ms : List (Str × Bool)) (ys ns : List Str) : Prop where
  mo : ∀ x, markOf ms x = if x ∈ nw then some false else if x ∈ yw then some true else none
  ks : keysM ms = ys ++ ns
  ys : Srt ys yw
  ns : Srt ns nw
  nd : (keysM ms).Nodup
theorem marks_of {yw nw : List Str} (dis : ∀ w ∈ nw, w ∉ yw) : ∃ ys ns, Marks yw nw (marksOf yw nw) ys ns := by
  have kA : ∀ x, x ∈ keysM (allTrue (wordOrder yw)) ↔ x ∈ yw := fun x => by
    unfold allTrue
    rw [fold_keys, order_mem]
    exact ⟨fun z => z.elim (fun z => absurd z List.not_mem_nil) id, .inr⟩
  have kB : ∀ x, x ∈ keysM (andFalse [] (wordOrder nw)) ↔ x ∈ nw := fun x => by
    unfold andFalse
    rw [fold_keys, order_mem]
    exact ⟨fun z => z.elim (fun z => absurd z List.not_mem_nil) id, .inr⟩
  have e : marksOf yw nw = allTrue (wordOrder yw) ++ andFalse [] (wordOrder nw) := by
    unfold marksOf andFalse
    have h := fold_app (b := false) (ms := allTrue (wordOrder yw)) (ws := wordOrder nw) (acc := []) fun w hw z => dis w (order_mem.mp hw) ((kA w).mp z)
    rw [List.append_nil] at h
    exact h
  refine ⟨keysM (allTrue (wordOrder yw)), keysM (andFalse [] (wordOrder nw)), fun x => ?_, ?_, ⟨kA, fold_sorted order_le List.Pairwise.nil fun k hk => absurd hk List.not_mem_nil⟩, ⟨kB, fold_sorted order_le List.Pairwise.nil fun k hk => absurd hk List.not_mem_nil⟩, ?_⟩
  · unfold marksOf andFalse
    rw [fold_mark]
    by_cases h : x ∈ nw
    · rw [if_pos h, if_pos (order_mem.mpr h)]
    · rw [if_neg h, if_neg fun z => h (order_mem.mp z)]
      unfold allTrue
      rw [fold_mark]
      by_cases h2 : x ∈ yw
      · rw [if_pos h2, if_pos (order_mem.mpr h2)]
      · rw [if_neg h2, if_neg fun z => h2 (order_mem.mp z)]
        rfl
  · rw [e]
    unfold keysM
    rw [List.map_append]
  · unfold marksOf andFalse
    exact fold_nodup (fold_nodup List.nodup_nil)
theorem Marks.yes {yw nw ys ns : List Str} {ms : List (Str × Bool)} (h : Marks yw nw ms ys ns) (dis : ∀ w ∈ nw, w ∉ yw) : (keysM ms).filter (fun w => markOf ms w == some true) = ys := by
  rw [h.ks, List.filter_append]
  have a : ys.filter (fun w => markOf ms w == some true) = ys := List.filter_eq_self.mpr fun w hw => by
    have m := (h.ys.mem w).mp hw
    rw [h.mo, if_neg fun z => dis w z m, if_pos m]
    rfl
  have b : ns.filter (fun w => markOf ms w == some true) = [] := List.filter_eq_nil_iff.mpr fun w hw => by
    rw [h.mo, if_pos ((h.ns.mem w).mp hw)]
    decide
  rw [a, b, List.append_nil]
theorem Marks.no {yw nw ys ns : List Str} {ms : List (Str × Bool)} (h : Marks yw nw ms ys ns) (dis : ∀ w ∈ nw, w ∉ yw) : (keysM ms).filter (fun w => !(markOf ms w == some true)) = ns := by
  rw [h.ks, List.filter_append]
  have a : ns.filter (fun w => !(markOf ms w == some true)) = ns := List.filter_eq_self.mpr fun w hw => by
    rw [h.mo, if_pos ((h.ns.mem w).mp hw)]
    rfl
  have b : ys.filter (fun w => !(markOf ms w == some true)) = [] := List.filter_eq_nil_iff.mpr fun w hw => by
    have m := (h.ys.mem w).mp hw
    rw [h.mo, if_neg fun z => dis w z m, if_pos m]
    decide
  rw [a, b, List.nil_append]
end Wf
/-! walks over a dict of marks, under its lock -/
namespace Wf
open PySem L2
theorem mark_at {w : Str} {b : Bool} : ∀ {ms : List (Str × Bool)} {i : Nat}, (keysM ms).Nodup → ms[i]? = some (w, b) → markOf ms w = some b
  | [], _, _, h => by cases h
  | p :: ms, 0, _, h => by
    cases h
    show (if w = w then some b else _) = _
    rw [if_pos rfl]
  | p :: ms, i + 1, nd, h => by
    obtain ⟨n1, n2⟩ := List.nodup_cons.mp nd
    have m : w ∈ keysM ms := List.mem_map.mpr ⟨(w, b), List.mem_of_getElem? (i := i) h, rfl⟩
    show (if p.1 = w then some p.2 else markOf ms w) = _
    rw [if_neg fun e : p.1 = w => n1 (show p.1 ∈ keysM ms from e ▸ m)]
    exact mark_at n2 h
theorem mk_at {ms : List (Str × Bool)} {i : Nat} {key : Key} {val : V} (h : (mkK ms)[i]? = some (key, val)) : ∃ w b, ms[i]? = some (w, b) ∧ key = .inr w ∧ val = .bl b := by
  unfold mkK at h
  rw [List.getElem?_map] at h
  obtain ⟨p, hp, e⟩ := Option.map_eq_some_iff.mp h
  exact ⟨p.1, p.2, hp, (Prod.mk.inj e).1.symm, (Prod.mk.inj e).2.symm⟩
theorem keys_take {ms : List (Str × Bool)} {i : Nat} {w : Str} {b : Bool} (h : ms[i]? = some (w, b)) : (keysM ms).take (i + 1) = (keysM ms).take i ++ [w] := by
  rw [List.take_succ, show (keysM ms)[i]? = some w from by
    unfold keysM
    rw [List.getElem?_map, h]
    rfl]
  rfl
theorem unlock {H H' : Hp} {D : Addr} {od : Obj} {u : HO} (e : H D = some u) (s : Same (upd H D (.frz od u)) H') : Same H (upd H' D u) := fun b o h => by
  rcases Decidable.em (b = D) with rfl | ne
  · rw [e] at h
    rw [upd_same]
    exact h
  · exact (upd_ne ne).trans (s b o ((upd_ne ne).trans h))
theorem But.fresh {H H' : Hp} {x t : Addr} {o : HO} (bt : But x H H') (ex : H' x = some o) (h : H' t = none) : H t = none := by
  cases q : H t with
  | none => rfl
  | some u =>
    have ne : t ≠ x := fun e => by rw [e, ex] at h; cases h
    rw [bt t u ne q] at h
    cases h
theorem get_frz {H : Hp} {D : Addr} {od : Obj} {ms : List (Str × Bool)} {w : Str} {b : Bool} (e : H D = some (.frz od (.dK (mkK ms)))) (m : markOf ms w = some b) : DGet H D (.str w) (some (.bl b)) :=
  .inl ⟨mkK ms, .inr w, .inr ⟨od, e⟩, rfl, by rw [val_mk, m]; rfl⟩
end Wf
/-! a == b by the __eq__ of a's class, whatever b is; classes called where nothing may be raised -/
namespace Wf
open PySem PySem.Spec PyProof.Rows L2
section
variable {X : Cx} {CX : CXT} {k : Nat} {C f : Addr} {fd : FuncData} {ps : List Str} {sp : Sp} {E : XK} {x : Str} {p pos : Pos} {e : Expr} {es : List Expr} {t : TA} {dvs : List V}
def rEqOwn (K : PySem.W.Frag) (C : Addr) (sp : Sp) (E : XK) : R2 := fun x y H Q => ∃ a dx fs t, x = .ref a ∧ H a = some (.ins C dx fs) ∧ TyX K H y t ∧ PySem.W.notFirst K C t = true ∧ sp [.ref a, y] H (fun v H' => ∃ b, v = .bl b ∧ Q v H') E
theorem op_eqOwn (F : FnOk X.prog X.w X.K X.mg X.base CX k f fd ps sp) (hr : Room k X.A) (at_ : PySem.W.findIn X.K (.ref C) "__eq__" = some (some (.ref f))) (fn : PySem.W.isFn X.K (.ref f) = true) (hb : Binds X.K fd ps []) (hx : Passes CX X E) : OpR X (compareOp .Eq) (rEqOwn X.K C sp E) := by
  intro pins s σ H x y v u Q I rx ry want
  obtain ⟨a, dx, fs, ty, rfl, ea, yt, nf, want⟩ := want
  cases rx
  obtain ⟨mA, inst, _⟩ := ins_get I.hok ea
  obtain ⟨od, at2, _⟩ := inst.look
  obtain ⟨fr, stands⟩ := I.fr
  obtain ⟨Pk, kit, held, _⟩ := kit_of I ry yt
  show wpAny (model X.prog X.w) X.A (richCompare .Eq (.ref a) u) (EP X pins σ Q) X.xe s
  refine PySem.W.cmp_K (op := .Eq) (tb := ty) hr.units0 stands I.ok.mod.kin at2 (kit.ty _ _ I.kIn held) nf at_ fn ?_
  refine wpAny_mono (run_fn (vs := [.ref a, y]) (us := [.ref a, u]) F hr hb .nil hx I (.cons rfl (.cons ry .nil)) want) (fun w s' got => ?_) fun _ _ z => z
  obtain ⟨v, H', I', rv, b, rfl, q⟩ := got
  have ew : w = Value.bool b := rv
  subst ew
  exact ⟨.bl b, H', I', rfl, q⟩
/-- nothing may be raised: a def that could, doesn't -/
theorem passN : Passes (L2.CX X.prog X.w) X L2.E0 := fun _ _ _ _ _ _ _ h => by
  obtain ⟨_, _, _, _, _, _, _, _, _, _, _, _, z⟩ := h
  exact z.elim
/-- a class of the text, to be made by its name; the defaults dvs fill up -/
structure CnD (P : Program) (w : World) (K : PySem.W.Frag) (mg : Str → Option Value) (base : Heap) (CX : CXT) (k : Nat) (x : Str) (C : Addr) (ps : List Str) (sp : Sp) (dvs : List V) : Prop where
  ex : ∃ (f : Addr) (fd : FuncData) (ds : List Value), Mk K C f ∧ FnOk P w K mg base CX k f fd ps sp ∧ Binds K fd ps ds ∧ Vals dvs ds
  gC : mg x = some (.ref C)
theorem pe_mkD (N : CnD X.prog X.w X.K X.mg X.base CX k x C ps sp dvs) (hr : Room (k + 1) X.A) (hx : Passes CX X E) (ha : PA X (e :: es) t) (hg : Gl X x := by rfl) (hdb : (x == ("__debug__" : Str)) = false := by decide)
    (he : starEach (e :: es) X.env = (false, eval e X.env) :: starEach es X.env := by rfl) (hpl : (backTo pos (starEach es X.env)).any (·.1) = false := by rfl) : PE X (.Call (.Name x p) (e :: es) [] pos) (tMake C sp dvs E t) :=
  let ⟨_, _, _, M, F, hb, hd⟩ := N.ex
  pe_make M F hr hg N.gC hb hd hx ha hdb he hpl
end
end Wf
/-! what is shown of words of letters tells the words -/
namespace Wf
open PySem L2
/-- signs of the alphabet only -/
def Abc (w : Str) : Prop := ∀ c ∈ w.cps.toList, 97 ≤ c ∧ c ≤ 122
def sgs (x : Str) : List Nat := x.cps.toList
theorem sgs_app (a b : Str) : sgs (a ++ b) = sgs a ++ sgs b := Array.toList_append
theorem sgs_inj {a b : Str} (h : sgs a = sgs b) : a = b := cps_inj h
theorem char_abc : ∀ c, c < 123 → 97 ≤ c → PySem.Builtin.Str.reprChar 39 c = [c] := by decide +kernel
theorem fold_abc : ∀ (l : List Nat) (acc : Array Nat), (∀ c ∈ l, 97 ≤ c ∧ c ≤ 122) → (l.foldl (fun out c => out ++ (PySem.Builtin.Str.reprChar 39 c).toArray) acc).toList = acc.toList ++ l
  | [], acc, _ => (List.append_nil _).symm
  | c :: r, acc, h => by
    have hc := h c List.mem_cons_self
    rw [List.foldl_cons, fold_abc r _ fun d hd => h d (List.mem_cons_of_mem _ hd), char_abc c (by omega) hc.1, Array.toList_append, List.append_assoc]
    rfl
theorem quote_abc {w : Str} (h : Abc w) : reprQuote w = 39 := by
  unfold reprQuote
  have no : w.cps.contains 39 = false := by
    cases e : w.cps.contains 39 with
    | false => rfl
    | true =>
      have m : (39 : Nat) ∈ w.cps := by simpa using e
      have := h 39 (Array.mem_toList_iff.mpr m)
      omega
  rw [no, Bool.false_and]
  rfl
theorem sgs_word {w : Str} (h : Abc w) : sgs (reprText w) = 39 :: (sgs w ++ [39]) := by
  unfold sgs reprText
  rw [quote_abc h, Array.toList_push, ← Array.foldl_toList, fold_abc _ _ h]
  rfl
/-- a word and its quotes -/
def qt (w : Str) : List Nat := 39 :: (sgs w ++ [39])
theorem word_cut : ∀ {u v a b : List Nat}, (∀ c ∈ u, 97 ≤ c) → (∀ c ∈ v, 97 ≤ c) → u ++ 39 :: a = v ++ 39 :: b → u = v ∧ a = b
  | [], [], _, _, _, _, h => ⟨rfl, (List.cons.inj h).2⟩
  | [], y :: _, _, _, _, hv, h => by
    have e : 39 = y := (List.cons.inj h).1
    have := hv y List.mem_cons_self
    omega
  | x :: _, [], _, _, hu, _, h => by
    have e : x = 39 := (List.cons.inj h).1
    have := hu x List.mem_cons_self
    omega
  | x :: u, y :: v, a, b, hu, hv, h => by
    obtain ⟨e1, e2⟩ := List.cons.inj h
    obtain ⟨e3, e4⟩ := word_cut (fun c hc => hu c (List.mem_cons_of_mem _ hc)) (fun c hc => hv c (List.mem_cons_of_mem _ hc)) e2
    exact ⟨by rw [e1, e3], e4⟩
theorem qt_cut {u v : Str} {a b : List Nat} (hu : Abc u) (hv : Abc v) (h : qt u ++ a = qt v ++ b) : u = v ∧ a = b := by
  unfold qt at h
  rw [List.cons_append, List.cons_append, List.append_assoc, List.append_assoc] at h
  obtain ⟨e1, e2⟩ := word_cut (fun c hc => (hu c hc).1) (fun c hc => (hv c hc).1) (List.cons.inj h).2
  exact ⟨sgs_inj e1, e2⟩
/-- the words behind the first -/
def enc (ws : List Str) : List Nat := ws.flatMap fun w => 44 :: 32 :: qt w
theorem enc_cut : ∀ {us vs : List Str} {a b : List Nat}, (∀ w ∈ us, Abc w) → (∀ w ∈ vs, Abc w) → enc us ++ 93 :: a = enc vs ++ 93 :: b → us = vs ∧ a = b
  | [], [], _, _, _, _, h => ⟨rfl, (List.cons.inj h).2⟩
  | [], v :: vs, _, _, _, _, h => by
    unfold enc at h
    rw [List.flatMap_cons] at h
    exact absurd (List.cons.inj h).1 (by decide)
  | u :: us, [], _, _, _, _, h => by
    unfold enc at h
    rw [List.flatMap_cons] at h
    exact absurd (List.cons.inj h).1 (by decide)
  | u :: us, v :: vs, a, b, hu, hv, h => by
    have ex : ∀ w ws, enc (w :: ws) = 44 :: 32 :: (qt w ++ enc ws) := fun w ws => by
      unfold enc
      rw [List.flatMap_cons]
      rfl
    rw [ex, ex] at h
    have h2 : (qt u ++ enc us) ++ 93 :: a = (qt v ++ enc vs) ++ 93 :: b := (List.cons.inj (List.cons.inj h).2).2
    rw [List.append_assoc, List.append_assoc] at h2
    obtain ⟨e1, e2⟩ := qt_cut (hu u List.mem_cons_self) (hv v List.mem_cons_self) h2
    obtain ⟨e3, e4⟩ := enc_cut (fun w hw => hu w (List.mem_cons_of_mem _ hw)) (fun w hw => hv w (List.mem_cons_of_mem _ hw)) e2
    exact ⟨by rw [e1, e3], e4⟩
/-- what stands between the brackets -/
def inner : List Str → List Nat
  | [] => []
  | w :: ws => qt w ++ enc ws
theorem inner_cut : ∀ {us vs : List Str} {a b : List Nat}, (∀ w ∈ us, Abc w) → (∀ w ∈ vs, Abc w) → inner us ++ 93 :: a = inner vs ++ 93 :: b → us = vs ∧ a = b
  | [], [], _, _, _, _, h => ⟨rfl, (List.cons.inj h).2⟩
  | [], v :: vs, _, _, _, _, h => absurd (List.cons.inj h).1 (by decide)
  | u :: us, [], _, _, _, _, h => absurd (List.cons.inj h).1 (by decide)
  | u :: us, v :: vs, a, b, hu, hv, h => by
    unfold inner at h
    rw [List.append_assoc, List.append_assoc] at h
    obtain ⟨e1, e2⟩ := qt_cut (hu u List.mem_cons_self) (hv v List.mem_cons_self) h
    obtain ⟨e3, e4⟩ := enc_cut (fun w hw => hu w (List.mem_cons_of_mem _ hw)) (fun w hw => hv w (List.mem_cons_of_mem _ hw)) e2
    exact ⟨by rw [e1, e3], e4⟩
theorem from_sg : ∀ (ts : List Str) (k : Nat) (acc : Str), 0 < k → sgs (textFrom k acc ts) = sgs acc ++ ts.flatMap fun t => 44 :: 32 :: sgs t
  | [], _, _, _ => (List.append_nil _).symm
  | t :: ts, k, acc, hk => by
    show sgs (textFrom (k + 1) (acc ++ (if k > 0 then ", " else "" : String) ++ t) ts) = _
    rw [from_sg ts (k + 1) _ (Nat.succ_pos k), if_pos hk, sgs_app, sgs_app, List.flatMap_cons]
    show sgs acc ++ [44, 32] ++ sgs t ++ _ = _
    rw [List.append_assoc, List.append_assoc]
    rfl
theorem shown_words : ∀ ws : List Str, (∀ w ∈ ws, Abc w) → sgs (PyData.shown (.list (ws.map PyData.str))) = 91 :: (inner ws ++ [93])
  | [], _ => rfl
  | w :: ws, h => by
    have all : ∀ us : List Str, (∀ u ∈ us, Abc u) → (PyData.shownAll (us.map PyData.str)).flatMap (fun t => 44 :: 32 :: sgs t) = enc us := fun us => by
      induction us with
      | nil => intro _; rfl
      | cons u us ih =>
        intro hu
        show 44 :: 32 :: sgs (reprText u) ++ (PyData.shownAll (us.map PyData.str)).flatMap _ = _
        rw [ih fun x hx => hu x (List.mem_cons_of_mem _ hx), sgs_word (hu u List.mem_cons_self)]
        rfl
    show sgs (textFrom (0 + 1) (("[" : Str) ++ (if 0 > 0 then ", " else "" : String) ++ reprText w) (PyData.shownAll (ws.map PyData.str)) ++ "]") = _
    rw [sgs_app, from_sg _ _ _ (Nat.succ_pos 0), all ws fun x hx => h x (List.mem_cons_of_mem _ hx), sgs_app, sgs_app, sgs_word (h w List.mem_cons_self)]
    show [91] ++ [] ++ qt w ++ enc ws ++ [93] = 91 :: (qt w ++ enc ws ++ [93])
    simp
/-- (letters, list of words, list of words) -/
def rawD (z : Str) (ys ns : List Str) : PyData := .tuple [.str z, .list (ys.map PyData.str), .list (ns.map PyData.str)]
theorem shown_raw {z : Str} {ys ns : List Str} (hz : Abc z) (hy : ∀ w ∈ ys, Abc w) (hn : ∀ w ∈ ns, Abc w) : sgs (rawD z ys ns).shown = 40 :: (qt z ++ 44 :: 32 :: 91 :: (inner ys ++ 93 :: 44 :: 32 :: 91 :: (inner ns ++ [93, 41]))) := by
  show sgs (("(" : Str) ++ Str.join ", " [reprText z, PyData.shown (.list (ys.map PyData.str)), PyData.shown (.list (ns.map PyData.str))] ++ ")") = _
  have e : Str.join ", " [reprText z, PyData.shown (.list (ys.map PyData.str)), PyData.shown (.list (ns.map PyData.str))] = reprText z ++ ((", " : String) : Str) ++ (PyData.shown (.list (ys.map PyData.str)) ++ ((", " : String) : Str) ++ PyData.shown (.list (ns.map PyData.str))) := rfl
  rw [e, sgs_app, sgs_app, sgs_app, sgs_app, sgs_app, sgs_app, sgs_word hz, shown_words ys hy, shown_words ns hn]
  show [40] ++ (39 :: (sgs z ++ [39]) ++ [44, 32] ++ (91 :: (inner ys ++ [93]) ++ [44, 32] ++ 91 :: (inner ns ++ [93]))) ++ [41] = _
  unfold qt
  simp
theorem raw_inj {z z' : Str} {ys ns ys' ns' : List Str} (hz : Abc z) (hy : ∀ w ∈ ys, Abc w) (hn : ∀ w ∈ ns, Abc w) (hz' : Abc z') (hy' : ∀ w ∈ ys', Abc w) (hn' : ∀ w ∈ ns', Abc w) :
    (rawD z ys ns).shown = (rawD z' ys' ns').shown ↔ z = z' ∧ ys = ys' ∧ ns = ns' := by
  constructor
  · intro h
    have h1 := congrArg sgs h
    rw [shown_raw hz hy hn, shown_raw hz' hy' hn'] at h1
    obtain ⟨e1, h2⟩ := qt_cut hz hz' (List.cons.inj h1).2
    have h3 := (List.cons.inj (List.cons.inj (List.cons.inj h2).2).2).2
    obtain ⟨e2, h4⟩ := inner_cut hy hy' h3
    have h5 := (List.cons.inj (List.cons.inj (List.cons.inj h4).2).2).2
    exact ⟨e1, e2, (inner_cut hn hn' h5).1⟩
  · rintro ⟨rfl, rfl, rfl⟩
    rfl
end Wf
/-! properties and methods of a class of the text, by their names -/
namespace Wf
open PySem PySem.Spec PyProof.Rows L2
structure Pr (P : Program) (w : World) (K : PySem.W.Frag) (mg : Str → Option Value) (base : Heap) (C : Addr) (x : Str) (sp : Sp) : Prop where
  ex : ∃ (p g : Addr) (fd : FuncData), PropOf K C x p g ∧ FnOk P w K mg base CX0 1 g fd ["self"] sp ∧ Binds K fd ["self"] []
structure Mt (P : Program) (w : World) (K : PySem.W.Frag) (mg : Str → Option Value) (base : Heap) (k : Nat) (C : Addr) (x : Str) (ps : List Str) (sp : Sp) : Prop where
  ex : ∃ (g : Addr) (fd : FuncData), Meth K C x g ∧ FnOk P w K mg base CX0 k g fd ps sp ∧ Binds K fd ps []
section
variable {X : Cx} {C : Addr} {x : Str} {k : Nat} {ps : List Str} {sp : Sp} {e o : Expr} {es : List Expr} {pos apos : Pos} {ta : TE} {t : TA} {pl : Sem Bool}
theorem pe_pr (N : Pr X.prog X.w X.K X.mg X.base C x sp) (cl : Cls X.K C) (hr : Room 2 X.A) (he : PE X e ta) (hab : attributeBase e x X.env (eval e X.env) = eval e X.env := by rfl) : PE X (.Attribute e x pos) (tProp C sp [] L2.E0 ta) :=
  let ⟨_, _, _, hp, F, hb⟩ := N.ex
  pe_prop he cl hp F hr hb .nil pass0 hab
theorem pe_mt (N : Mt X.prog X.w X.K X.mg X.base k C x ps sp) (cl : Cls X.K C) (hr : Room k X.A) (he : PE X o ta) (ha : PA X (e :: es) t)
    (ht : eval (.Call (.Attribute o x apos) (e :: es) [] pos) X.env = (do
      let ov ← eval o X.env
      standAt apos.atName
      let (f, first) ← holding [ov] (getMethod ov x pl)
      callWith pos f first (backTo pos (starEach (e :: es) X.env)) (backToKw pos (keywordEach [] X.env))) := by rfl)
    (hst : starEach (e :: es) X.env = (false, eval e X.env) :: starEach es X.env := by rfl) (hpl : (backTo pos (starEach es X.env)).any (·.1) = false := by rfl) : PE X (.Call (.Attribute o x apos) (e :: es) [] pos) (tMeth C x sp [] L2.E0 ta t) :=
  let ⟨_, _, hm, F, hb⟩ := N.ex
  pe_meth he cl hm F hr hb .nil pass0 ha hst hpl ht
end
end Wf
/-! a != b by the own __eq__; defs with a star parameter, with a keyword-only one beside it; methods called with keywords -/
namespace Wf
open PySem PySem.Spec PyProof.Rows L2
section
variable {M : Model} {prog : Program} {w : World} {A : Around} {E : Value → Shared → Prop} {s : Shared} {K : PySem.W.Frag} {x C f : Addr} {b tb : Value} {ox : Obj} {od : Option Obj} {h₀ : Heap} {L : Addr} {m : Str → Option Value}
theorem ifBound_objNe {args : List Value} {Q : Option Value → Shared → Prop} (X : K.In s.heap) (I : PySem.W.InstAt s.heap x ox C od) (hs : PySem.W.findIn K (.ref C) "__ne__" = some (some (.builtin "object.__ne__")))
    (h : wpAny M A (call (.builtin "object.__ne__") (.ref x :: args)) (fun v => Q (some v)) E s) : wpAny M A (callSpecialIfBound? (.ref x) "__ne__" args) Q E s := by
  simp only [callSpecialIfBound?, bindSpecialIfBound?]
  refine wpAny_holding (wpAny_bind (wpAny_bind (wpAny_bind (I.type.here ((PySem.W.looks_findIn X hs).here ?_)))))
  refine wpAny_bind (wpAny_askSetting (wpAny_ite ?_))
  have fin : wpAny M A (call (.builtin "object.__ne__") ([.ref x] ++ args) >>= fun v => pure (some v)) Q E s := wpAny_bind (wpAny_mono h (fun v s' h' => wpAny_pure h') fun _ _ h' => h')
  split
  · exact wpAny_bind (wpAny_of_eq (F.cmp_object.ne.bind _) (wpAny_pure (by exact fin)))
  · exact wpAny_tryCatch (wpAny_bind (wpAny_of_eq (F.cmp_object.ne.bind _) (wpAny_pure (by exact fin))))
theorem entry_objNe {Q : Fin → Shared → Prop} (hu : A.units < cLine) (X : K.In s.heap) (I : PySem.W.InstAt s.heap x ox C od) (hs : PySem.W.findIn K (.ref C) "__eq__" = some (some (.ref f))) (hf : PySem.W.isFn K (.ref f) = true)
    (h : wpAny (model prog w) A (call (.ref f) [.ref x, b]) (fun v s' => ∃ c, v = .bool c ∧ Q (.done (.ret (.bool (!c)))) s') E s) :
    wpAny (model prog w) A (Builtin.«object.__ne__» ⟨[.ref x, b], []⟩) Q E s := by
  unfold Builtin.«object.__ne__»
  repeat (first
    | with_reducible refine wpAny_cRoomFor hu ?_
    | (refine wpAny_bind (m := callSpecialIfBound? (.ref x) (Str.ofString "__eq__") [b])
        (PySem.W.ifBound_K X I hs hf (wpAny_mono h (fun r s' hr => by
          obtain ⟨c, rfl, hq⟩ := hr
          repeat (first | exact hq | exact wpAny_pure hq | exact wpAny_truthy_bool hq | (refine wpAny_bind (m := truthy (.bool _)) (wpAny_truthy_bool ?_)) | wp_step)) fun _ _ e => e)))
    | wp_step)
theorem call_objNe {Q : Value → Shared → Prop} (hu : A.units + 1 < cLine) (X : K.In s.heap) (I : PySem.W.InstAt s.heap x ox C od) (hm : PySem.W.mroIn K C (.type "object") = some true) (hs : PySem.W.findIn K (.ref C) "__eq__" = some (some (.ref f))) (hf : PySem.W.isFn K (.ref f) = true)
    (h : wpAny (model prog w) A.in1 (call (.ref f) [.ref x, b]) (fun v s' => ∃ c, v = .bool c ∧ Q (.bool (!c)) s') E s) :
    wpAny (model prog w) A (call (.builtin "object.__ne__") [.ref x, b]) Q E s :=
  wpAny_call (codeAny_call_builtin F.cmp_object.ne.plain F.cmpEntry_ne (PySem.W.check_slot F.cmpKind_ne F.cmpSplit_ne (I.type.andThen (PySem.W.looks_mroIn X hm)) (F.cmpArgs_ne _ _) (entry_objNe (A := A.in1) hu X I hs hf h)))
theorem ne_K {Q : Value → Shared → Prop} (hu : A.units + 1 < cLine) (F : Fr h₀ L s.heap m) (X₀ : K.In h₀) (I : PySem.W.InstAt s.heap x ox C od) (hb : PySem.W.Looks (model prog w) s.heap (typeOf b) tb) (hn : PySem.W.notFirst K C tb = true)
    (hs : PySem.W.findIn K (.ref C) "__eq__" = some (some (.ref f))) (hf : PySem.W.isFn K (.ref f) = true) (hs2 : PySem.W.findIn K (.ref C) "__ne__" = some (some (.builtin "object.__ne__"))) (hm : PySem.W.mroIn K C (.type "object") = some true)
    (h : wpAny (model prog w) A.in1 (call (.ref f) [.ref x, b]) (fun v s' => ∃ c, v = .bool c ∧ Q (.bool (!c)) s') E s) : wpAny (model prog w) A (richCompare .NotEq (.ref x) b) Q E s := by
  have X := X₀.keeps F.keep
  have one : wpAny (model prog w) A (tryCompare (.ref x) "__ne__" b) (fun r s' => ∃ v, r = some v ∧ Q v s') E s := by
    unfold tryCompare
    refine wpAny_bind (ifBound_objNe X I hs2 (call_objNe hu X I hm hs hf (wpAny_mono h (fun v s' hv => ?_) fun _ _ e => e)))
    obtain ⟨c, rfl, hq⟩ := hv
    exact ⟨c, rfl, wpAny_pure ⟨_, rfl, hq⟩⟩
  unfold richCompare
  simp only [oneThing_ref]
  refine wpAny_holding (wpAny_bind (wpAny_cRoomFor (by omega) ?_))
  rw [cmpInfo_NotEq]
  dsimp only
  refine wpAny_bind (I.type.here (wpAny_bind (hb.here ?_)))
  split
  · rename_i q
    have e : PySem.W.subIn K tb (.ref C) = some false := by
      rcases Bool.or_eq_true_iff.mp hn with e | e
      · rw [beq_iff_eq.mp e] at q; simp at q
      · exact beq_iff_eq.mp e
    refine wpAny_bind ((PySem.W.looks_subIn X e).here ?_)
    simp only [Bool.false_eq_true, if_false]
    refine wpAny_bind (wpAny_mono one (fun r s' z => ?_) fun _ _ e => e)
    obtain ⟨v, rfl, hq⟩ := z
    exact wpAny_pure hq
  · refine wpAny_bind (wpAny_pure ?_)
    simp only [Bool.false_eq_true, if_false]
    refine wpAny_bind (wpAny_mono one (fun r s' z => ?_) fun _ _ e => e)
    obtain ⟨v, rfl, hq⟩ := z
    exact wpAny_pure hq
end
section
variable {X : Cx} {CX : CXT} {k : Nat} {C f : Addr} {fd : FuncData} {ps : List Str} {sp : Sp} {E : XK}
def rNeOwn (K : PySem.W.Frag) (C : Addr) (sp : Sp) (E : XK) : R2 := fun x y H Q => ∃ a dx fs t, x = .ref a ∧ H a = some (.ins C dx fs) ∧ TyX K H y t ∧ PySem.W.notFirst K C t = true ∧ sp [.ref a, y] H (fun v H' => ∃ b, v = .bl b ∧ Q (.bl (!b)) H') E
theorem op_neOwn (F : FnOk X.prog X.w X.K X.mg X.base CX k f fd ps sp) (hr : Room (k + 1) X.A) (at_ : PySem.W.findIn X.K (.ref C) "__eq__" = some (some (.ref f))) (atn : PySem.W.findIn X.K (.ref C) "__ne__" = some (some (.builtin "object.__ne__")))
    (mo : PySem.W.mroIn X.K C (.type "object") = some true) (fn : PySem.W.isFn X.K (.ref f) = true) (hb : Binds X.K fd ps []) (hx : Passes CX X E) : OpR X (compareOp .NotEq) (rNeOwn X.K C sp E) := by
  intro pins s σ H x y v u Q I rx ry want
  obtain ⟨a, dx, fs, ty, rfl, ea, yt, nf, want⟩ := want
  cases rx
  obtain ⟨mA, inst, _⟩ := ins_get I.hok ea
  obtain ⟨od, at2, _⟩ := inst.look
  obtain ⟨fr, stands⟩ := I.fr
  obtain ⟨Pk, kit, held, _⟩ := kit_of I ry yt
  show wpAny (model X.prog X.w) X.A (richCompare .NotEq (.ref a) u) (EP X pins σ Q) X.xe s
  refine ne_K (tb := ty) (by have := hr.un; omega) stands I.ok.mod.kin at2 (kit.ty _ _ I.kIn held) nf at_ fn atn mo ?_
  have hl : [Value.ref a, u].length = ps.length := (F.len _ _ _ _ want : [V.ref a, y].length = ps.length)
  refine wpAny_call (codeAny_mono (F.run X.A.in1 X.stack s H ⟨[.ref a, u], []⟩ [.ref a, u] [.ref a, y] _ E hr.in1 I.env0.in1 (hb s [.ref a, u] I.kIn hl) (.cons rfl (.cons ry .nil)) want) fun r s' hq => ?_)
  cases r with
  | error e => exact hx pins σ H s e s' I hq
  | ok fl =>
    cases fl with
    | ret u =>
      obtain ⟨v, H', I', rv, b, rfl, q⟩ := I.after hq
      have ew : u = Value.bool b := rv
      subst ew
      exact ⟨b, rfl, .bl (!b), H', I', rfl, q⟩
    | next => exact False.elim hq
    | brk => exact False.elim hq
    | cont => exact False.elim hq
end
/-! ### promises by positional values and keywords -/
abbrev SpK := List V → List V → Hp → VK → XK → Prop
def FnK (P : Program) (w : World) (K : PySem.W.Frag) (mg : Str → Option Value) (base : Heap) (CX : CXT) (k : Nat) (f : Addr) (ks : List Str) (sp : SpK) : Prop :=
  ∀ (A : Around) (outer : List Env) (s : Shared) (H : Hp) (us ws : List Value) (vs zs : List V) (Q : VK) (E : XK), Room k A → Env0 P w K mg base A outer s H → Vals vs us → Vals zs ws → ws.length = ks.length → sp vs zs H Q E →
    codeAny (model P w) A (.call (.ref f) ⟨us, ks.zip ws⟩) (CR CX outer P w H s Q E) s
/-! f(a, .., *v, k = m) with the keyword written: a, .. one parameter (self) -/
section
variable {P : Program} {w : World} {K : PySem.W.Frag} {mg : Str → Option Value} {base : Heap} {CX : CXT} {k : Nat} {f : Addr} {name qual : Str} {params : Arguments} {body : List Stmt} {scope : Scope} {dV kV doc pm cdv ct oc : Value} {an od : Option Addr}
  {osl : Array (Option Value)} {N : List Str} {sp : Sp}
theorem fn_star1k {p1 pk pv : Str} (lk : K.lookup f = some ⟨oc, od, .func (PySem.W.fnOf name qual params body scope dV kV doc pm an cdv ct), osl⟩) (hcd : PySem.W.codeIn K cdv qual = true) (S : FnScope N [p1, pk, pv] scope) (hCX : StX.CXUp CX)
    (hb : ∀ (a m : Value) (rest : List Value), bindArgs (PySem.W.fnOf name qual params body scope dV kV doc pm an cdv ct) ⟨a :: rest, [(pk, m)]⟩ = (newTuple rest >>= fun t => pure [(p1, a), (pk, m), (pv, t)]))
    (hbody : ∀ (A : Around) (outer : List Env) (s : Shared) (H : Hp) (vs : List V) (Q : VK) (E : XK), Room k (A.deeper (envOfC qual scope s.heap.objs.size f cdv)) → sp vs H Q E →
      ∃ t, PSs (cxOf CX P w K mg base N qual scope f cdv A outer s H E) body t ∧ t { nx := fun _ H' => Q .non H', rt := Q } (start N vs) H) :
    FnK P w K mg base CX (k + 1) f [pk] (fun vs zs H Q E => ∃ a m rest, vs = a :: rest ∧ zs = [m] ∧ rest.length ≤ sizeLine ∧ ∀ p, H p = Option.none → sp [a, m, V.ref p] (upd H p (.tup rest)) Q E) := by
  intro A outer s H us ws vs zs Q E hr e0 r rz hl hsp
  obtain ⟨a, m, rest, rfl, rfl, hz, hq⟩ := hsp
  obtain ⟨u, us, rfl, ra, r2⟩ : ∃ u us', us = u :: us' ∧ RelV a u ∧ Vals rest us' := by
    cases r with
    | cons x y => exact ⟨_, _, rfl, x, y⟩
  obtain ⟨mv, rfl, rm⟩ := rz.one
  have hn : H s.heap.objs.size = Option.none := e0.hok.fresh (Nat.le_refl _)
  have hl2 : us.length ≤ sizeLine := by rw [← r2.length]; exact hz
  refine StX.run_bnd lk hcd S hr e0 (G := fun xs H2 => ∃ p, H p = Option.none ∧ xs = [a, m, V.ref p] ∧ H2 = upd H p (.tup rest)) (fun A' Ex Q' h => ?_) fun s2 H2 xs ⟨p, hp, ex, eH⟩ hr' => ?_
  · show wpAny _ _ (bindArgs _ ⟨u :: us, [(pk, mv)]⟩) _ _ _
    rw [hb]
    refine wpAny_bind (wpAny_newTuple (wpAny_pure ?_) hl2)
    have new : ObjOk P w (upd H s.heap.objs.size (.tup rest)) (s.heap.push ({ cls := .type "tuple", data := .seq us.toArray } : Obj)) s.heap.objs.size (.tup rest) := ⟨hz, us, r2, ⟨_, Heap.get?_push_size _ rfl, rfl, _, rfl⟩⟩
    have un := StX.un_laid (fs := frs outer) (s := s) (o := ({ cls := .type "tuple", data := .seq us.toArray } : Obj)) (u := .tup rest) hn
    exact h _ _ [a, m, V.ref s.heap.objs.size] [u, mv, Value.ref s.heap.objs.size] (StX.env0_laid e0 new) un rfl (fun e s' => hCX outer s H _ _ E e s' un (fun b o q => Heap.get?_push_of_some _ q) rfl) (.cons ra (.cons rm (.cons rfl .nil))) rfl ⟨_, hn, rfl, rfl⟩
  · subst ex eH
    exact hbody A outer s2 _ _ Q E hr' (hq p hp)
/-- the same, the keyword left out: its default m0 stands in the dict of defaults -/
theorem fn_star1d {p1 pk pv : Str} {D : Addr} {m0 : V} {u0 : Value} (lk : K.lookup f = some ⟨oc, od, .func (PySem.W.fnOf name qual params body scope dV (.ref D) doc pm an cdv ct), osl⟩) (hcd : PySem.W.codeIn K cdv qual = true) (S : FnScope N [p1, pk, pv] scope) (hCX : StX.CXUp CX)
    (hd : PySem.W.nsIn K D pk = some (some u0)) (rd : RelV m0 u0)
    (hb : ∀ (a : Value) (rest : List Value), ∃ (β γ : Type) (k1 : Option Value → Sem β) (k2 : β → Sem γ) (k3 : γ → Sem (List (Str × Value))) (b : β), bindArgs (PySem.W.fnOf name qual params body scope dV (.ref D) doc pm an cdv ct) ⟨a :: rest, []⟩ = ((nsGet D pk >>= k1) >>= k2) >>= k3 ∧ k1 (some u0) = pure b ∧
      (k2 b >>= k3) = (newTuple rest >>= fun t => pure [(p1, a), (pk, u0), (pv, t)]))
    (hbody : ∀ (A : Around) (outer : List Env) (s : Shared) (H : Hp) (vs : List V) (Q : VK) (E : XK), Room k (A.deeper (envOfC qual scope s.heap.objs.size f cdv)) → sp vs H Q E →
      ∃ t, PSs (cxOf CX P w K mg base N qual scope f cdv A outer s H E) body t ∧ t { nx := fun _ H' => Q .non H', rt := Q } (start N vs) H) :
    FnR P w K mg base CX (k + 1) f (fun vs H Q E => ∃ a rest, vs = a :: rest ∧ rest.length ≤ sizeLine ∧ ∀ p, H p = Option.none → sp [a, m0, V.ref p] (upd H p (.tup rest)) Q E) := by
  intro A outer s H us vs Q E hr e0 r hsp
  obtain ⟨a, rest, rfl, hz, hq⟩ := hsp
  obtain ⟨u, us, rfl, ra, r2⟩ : ∃ u us', us = u :: us' ∧ RelV a u ∧ Vals rest us' := by
    cases r with
    | cons x y => exact ⟨_, _, rfl, x, y⟩
  have hn : H s.heap.objs.size = Option.none := e0.hok.fresh (Nat.le_refl _)
  have hl2 : us.length ≤ sizeLine := by rw [← r2.length]; exact hz
  have inK : K.In s.heap := e0.mod.kin.keeps fun b o e => (e0.bs b o e).1
  refine StX.run_bnd lk hcd S hr e0 (G := fun xs H2 => ∃ p, H p = Option.none ∧ xs = [a, m0, V.ref p] ∧ H2 = upd H p (.tup rest)) (fun A' Ex Q' h => ?_) fun s2 H2 xs ⟨p, hp, ex, eH⟩ hr' => ?_
  · obtain ⟨β, γ, k1, k2, k3, b, e1, e2, e3⟩ := hb u us
    have l1 : PySem.W.Looks (model P w) s.heap (nsGet D pk >>= k1) b := (PySem.W.looks_nsIn inK hd).andThen (PySem.W.Looks.of_pure e2)
    rw [e1, bind_assoc]
    refine wpAny_bind (l1.here ?_)
    rw [e3]
    refine wpAny_bind (wpAny_newTuple (wpAny_pure ?_) hl2)
    have new : ObjOk P w (upd H s.heap.objs.size (.tup rest)) (s.heap.push ({ cls := .type "tuple", data := .seq us.toArray } : Obj)) s.heap.objs.size (.tup rest) := ⟨hz, us, r2, ⟨_, Heap.get?_push_size _ rfl, rfl, _, rfl⟩⟩
    have un := StX.un_laid (fs := frs outer) (s := s) (o := ({ cls := .type "tuple", data := .seq us.toArray } : Obj)) (u := .tup rest) hn
    exact h _ _ [a, m0, V.ref s.heap.objs.size] [u, u0, Value.ref s.heap.objs.size] (StX.env0_laid e0 new) un rfl (fun e s' => hCX outer s H _ _ E e s' un (fun b o q => Heap.get?_push_of_some _ q) rfl) (.cons ra (.cons rd (.cons rfl .nil))) rfl ⟨_, hn, rfl, rfl⟩
  · subst ex eH
    exact hbody A outer s2 _ _ Q E hr' (hq p hp)
end
/-! ### methods, by what they promise of any values -/
structure MtR (P : Program) (w : World) (K : PySem.W.Frag) (mg : Str → Option Value) (base : Heap) (CX : CXT) (k : Nat) (C : Addr) (x : Str) (sp : Sp) : Prop where
  ex : ∃ g : Addr, Meth K C x g ∧ FnR P w K mg base CX k g sp
structure MtK (P : Program) (w : World) (K : PySem.W.Frag) (mg : Str → Option Value) (base : Heap) (CX : CXT) (k : Nat) (C : Addr) (x : Str) (ks : List Str) (sp : SpK) : Prop where
  ex : ∃ g : Addr, Meth K C x g ∧ FnK P w K mg base CX k g ks sp
def tMethK (C : Addr) (m : Str) (n : Nat) (sp : SpK) (E : XK) (ta : TE) (t tk : TA) : TE := fun σ H Q => ta σ H fun x H1 => ∃ a dx fs, x = .ref a ∧ H1 a = some (.ins C dx fs) ∧ fs.lookup m = none ∧ t σ H1 fun vs H2 => tk σ H2 fun zs H3 => zs.length = n ∧ sp (x :: vs) zs H3 Q E
section
variable {X : Cx} {CX : CXT} {C : Addr} {x : Str} {k : Nat} {ks : List Str} {sp : Sp} {spk : SpK} {E : XK} {e o : Expr} {es : List Expr} {kws : List Keyword} {pos apos : Pos} {ta : TE} {t tk : TA} {pl : Sem Bool}
theorem pe_mtR (N : MtR X.prog X.w X.K X.mg X.base CX k C x sp) (cl : Cls X.K C) (hr : Room k X.A) (hx : Passes CX X E) (he : PE X o ta) (ha : PA X (e :: es) t)
    (hst : starEach (e :: es) X.env = (false, eval e X.env) :: starEach es X.env := by rfl) (hpl : (backTo pos (starEach es X.env)).any (·.1) = false := by rfl)
    (ht : eval (.Call (.Attribute o x apos) (e :: es) [] pos) X.env = (do
      let ov ← eval o X.env
      standAt apos.atName
      let (f, first) ← holding [ov] (getMethod ov x pl)
      callWith pos f first (backTo pos (starEach (e :: es) X.env)) (backToKw pos (keywordEach [] X.env))) := by rfl) : PE X (.Call (.Attribute o x apos) (e :: es) [] pos) (tMethR C x sp E ta t) :=
  let ⟨_, hm, F⟩ := N.ex
  pe_methR he cl hm F hr hx ha hst hpl ht
theorem run_fnK {f : Addr} {pins : List (Addr × Obj)} {σ : L2.St} {H : Hp} {s : Shared} {Q : VK} {us ws : List Value} {vs zs : List V} (F : FnK X.prog X.w X.K X.mg X.base CX k f ks spk) (hr : Room k X.A) (hx : Passes CX X E) (I : Inv X pins σ H s) (r : Vals vs us) (rz : Vals zs ws) (l : zs.length = ks.length) (h : spk vs zs H Q E) :
    wpAny (model X.prog X.w) X.A (call (.ref f) us (ks.zip ws)) (EP X pins σ Q) X.xe s := by
  refine wpAny_call (codeAny_mono (F X.A X.stack s H us ws vs zs Q E hr I.env0 r rz (rz.length.symm.trans l) h) fun r s' hq => ?_)
  cases r with
  | error e => exact hx pins σ H s e s' I hq
  | ok fl =>
    cases fl with
    | ret u => exact I.after hq
    | next => exact False.elim hq
    | brk => exact False.elim hq
    | cont => exact False.elim hq
theorem pe_mtK (N : MtK X.prog X.w X.K X.mg X.base CX k C x ks spk) (cl : Cls X.K C) (hr : Room k X.A) (hx : Passes CX X E) (he : PE X o ta) (ha : PA X (e :: es) t) (hkw : PK X kws tk)
    (hall : (backToKw pos (keywordEach kws X.env)).all (·.1.isSome) = true := by rfl) (hks : (backToKw pos (keywordEach kws X.env)).filterMap (·.1) = ks := by rfl)
    (hst : starEach (e :: es) X.env = (false, eval e X.env) :: starEach es X.env := by rfl)
    (hpl : ((backTo pos (starEach (e :: es) X.env)).any (·.1) || (backToKw pos (keywordEach kws X.env)).any (·.1.isNone)) = false := by rfl)
    (ht : eval (.Call (.Attribute o x apos) (e :: es) kws pos) X.env = (do
      let ov ← eval o X.env
      standAt apos.atName
      let (f, first) ← holding [ov] (getMethod ov x pl)
      callWith pos f first (backTo pos (starEach (e :: es) X.env)) (backToKw pos (keywordEach kws X.env))) := by rfl) : PE X (.Call (.Attribute o x apos) (e :: es) kws pos) (tMethK C x ks.length spk E ta t tk) := by
  obtain ⟨g, hm, F⟩ := N.ex
  refine ⟨fun pins s σ H Q I h => ?_⟩
  refine PySem.W.methodCall_KW (pl := pl) (thn (he.run pins s σ H _ I h) fun u s1 ⟨y, H1, I1, rx, a, dx, fs, ex, ea, l, q⟩ => ?_) ht
  subst ex
  obtain rfl : u = Value.ref a := rx
  refine getmeth_ok I1 ea cl hm l ?_
  refine PySem.W.callWith_KW (first := [.ref a]) (h₀ := X.base) I.ok.mod.kin hm.kp hall (thn (ha.run pos pins s1 σ H1 _ I1 q) fun us s2 ⟨vs, H2, I2, r, q2⟩ => ?_) hpl hst
  refine thn (hkw.run pos pins s2 σ H2 _ I2 q2) fun ws s3 ⟨zs, H3, I3, rz, l3, q3⟩ => ⟨I3.kIn, ?_⟩
  rw [hks]
  exact run_fnK (us := .ref a :: us) (vs := .ref a :: vs) F hr hx I3 (.cons rfl r) rz l3 q3
end
end Wf
/-! an __init__ that says super().__init__(..): a def with a cell of its class -/
namespace Wf
open PySem PySem.Spec PyProof.Rows L2
/-! ### the frame of a def with a closure -/
theorem own_cells : ∀ (ns : List (Str × NameKind)) (n : Nat) (a : List (Str × Addr)), cellsFrom n ns a = cellsFrom n ns [] ++ a
  | [], _, _ => rfl
  | (x, k) :: ns, n, a => by
    unfold cellsFrom
    split
    · rw [own_cells ns (n + 1) ((x, n) :: a), own_cells ns (n + 1) [(x, n)], List.append_assoc]
      rfl
    · exact own_cells ns n a
def envF (qual : Str) (scope : Scope) (L f : Addr) (cd : Value) (clo : List (Str × Addr)) : Env :=
  { scope := scope, locals := L, globals := mainGlobals, cells := cellsFrom (L + 1) scope.names clo, qual := qual ++ ".<locals>.", func := some f, code := cd, frame := some L, builtins := builtinsNs }
theorem look_app {α : Type} {x : Str} : ∀ {l m : List (Str × α)}, (l ++ m).lookup x = (l.lookup x).or (m.lookup x)
  | [], m => by cases h : m.lookup x <;> simp [h]
  | (y, a) :: l, m => by
    rw [List.cons_append, List.lookup_cons, List.lookup_cons]
    cases x == y with
    | true => rfl
    | false => exact look_app
section
variable {M : Model} {A : Around} {E : Value → Shared → Prop} {s₀ : Shared} {env : Env} {cs : List (Str × Addr)}
theorem bindF (kf : env.scope.kind = .function) (up : ∀ n c, cs.lookup n = some c → env.cells.lookup n = some c) (g : Str × Value → PUnit → Sem (ForInStep PUnit)) (eg : ∀ n v u, g (n, v) u = (do storeName env n v; pure (.yield ⟨⟩))) :
    ∀ (bs : List (Str × Value)) (m cm : Str → Option Value) (s : Shared) (Q : PUnit → Shared → Prop), InCallC s₀ env.locals m cs cm s → (∀ b ∈ bs, env.kindOf b.1 = some .local ∨ (env.kindOf b.1 = some .cell ∧ (cs.lookup b.1).isSome = true)) →
      (∀ s', InCallC s₀ env.locals (bindL env.kindOf bs m) cs (bindC env.kindOf bs cm) s' → Q ⟨⟩ s') → wpAny M A (forIn bs ⟨⟩ g) Q E s := by
  intro bs
  induction bs with
  | nil =>
    intro m cm s Q i _ q
    rw [List.forIn_nil]
    exact wpAny_pure (q s i)
  | cons b bs ih =>
    obtain ⟨n, v⟩ := b
    intro m cm s Q i kinds q
    have later := fun b hb => kinds b (List.mem_cons_of_mem _ hb)
    rw [List.forIn_cons, eg]
    refine wpAny_bind (wpAny_bind ?_)
    have fr : ∀ {b : Addr} {o : Obj}, s₀.heap.get? b = some o → b ≠ env.locals := fun {b o} e z => absurd (Heap.lt_size e) (Nat.not_lt_of_le (z ▸ i.toInCall.fresh))
    rcases kinds (n, v) List.mem_cons_self with kl | ⟨kc, hc⟩
    · refine wpAny_storeName_local kl i.toInCall.ns (fun h' n' same => wpAny_pure (ih _ _ _ Q (⟨⟨?_, n', fun b o e => ?_, i.toInCall.fresh⟩, fun x c e => ?_, i.apart, i.above⟩ : InCallC s₀ env.locals (fun y => if y = n then some v else m y) cs cm _) later fun s' j => q s' ?_)) (by rw [kf]; rfl)
      · obtain ⟨h₁, t, rfl⟩ := i.toInCall.same
        exact ⟨h', _, rfl⟩
      · exact same.extBut b o (fr e) (i.toInCall.keep b o e)
      · exact (i.cell x c e).sameBut same (Nat.ne_of_gt (i.above x c (mem_of_lookup e)))
      · unfold bindL bindC
        rw [if_pos kl, if_pos kl]
        exact j
    · obtain ⟨c, ec⟩ := Option.isSome_iff_exists.mp hc
      have low := i.above n c (mem_of_lookup ec)
      refine wpAny_storeName_cell kf kc (up n c ec) (i.cell n c ec) fun h' c' same => wpAny_pure (ih _ _ _ Q (⟨⟨?_, i.toInCall.ns.sameBut same (Nat.ne_of_lt low), fun b o e => ?_, i.toInCall.fresh⟩, fun x d e => ?_, i.apart, i.above⟩ : InCallC s₀ env.locals m cs (fun y => if y = n then some v else cm y) _) later fun s' j => q s' ?_)
      · obtain ⟨h₁, t, rfl⟩ := i.toInCall.same
        exact ⟨h', _, rfl⟩
      · exact same.extBut b o (fun z => absurd (Heap.lt_size e) (Nat.not_lt_of_le (Nat.le_of_lt (Nat.lt_of_le_of_lt i.toInCall.fresh (z ▸ low))))) (i.toInCall.keep b o e)
      · rcases Decidable.em (x = n) with rfl | ne
        · rw [ec] at e
          cases e
          rw [if_pos rfl]
          exact c'
        · rw [if_neg ne]
          exact (i.cell x d e).sameBut same fun z => ne (name_of_addr i.apart (mem_of_lookup e) (by rw [z]; exact mem_of_lookup ec))
      · have kn : ¬ env.kindOf n = some .local := by
          rw [kc]
          decide
        unfold bindL bindC
        rw [if_neg kn, if_neg kn]
        exact j
end
section
variable {M : Model} {A : Around} {E : Value → Shared → Prop} {s : Shared}
theorem frameF {scope : Scope} {binds : List (Str × Value)} {qual : Str} {f : Addr} {cd : Value} {clo : List (Str × Addr)} {Q : Env → Shared → Prop} (kf : scope.kind = .function)
    (kinds : ∀ b ∈ binds, scope.names.lookup b.1 = some .local ∨ (scope.names.lookup b.1 = some .cell ∧ ((cellsFrom (s.heap.objs.size + 1) scope.names []).lookup b.1).isSome = true))
    (q : ∀ s', InCallC s s.heap.objs.size (bindL (envF qual scope s.heap.objs.size f cd clo).kindOf binds fun _ => none) (cellsFrom (s.heap.objs.size + 1) scope.names []) (bindC (envF qual scope s.heap.objs.size f cd clo).kindOf binds fun _ => none) s' → Q (envF qual scope s.heap.objs.size f cd clo) s') :
    wpAny M A (newFunctionEnv scope mainGlobals clo binds (qual ++ ".<locals>.") (some f) cd none builtinsNs) Q E s := by
  simp only [newFunctionEnv, Option.isSome_none, Bool.false_eq_true, if_false]
  have sz : (s.heap.push { cls := .type "frame", data := .dict #[] }).objs.size = s.heap.objs.size + 1 := Heap.size_push ..
  refine wpAny_bind (wpAny_alloc (wpAny_bind (wpAny_layCells _ (fun x k l => by cases e : k == NameKind.cell <;> simp [e]) _ _ _ _ ?_)))
  have good := cellsFrom_ok scope.names (s.heap.push { cls := .type "frame", data := .dict #[] }) (s.heap.objs.size + 1) [] ⟨fun _ _ z => (nomatch z), List.Pairwise.nil⟩ (Nat.le_of_eq sz.symm)
  rw [sz] at good
  have en : (cellsFrom ({ s with heap := s.heap.push { cls := .type "frame", data := .dict #[] } } : Shared).heap.objs.size scope.names clo) = (envF qual scope s.heap.objs.size f cd clo).cells := by
    show cellsFrom (s.heap.push { cls := .type "frame", data := .dict #[] }).objs.size scope.names clo = cellsFrom (s.heap.objs.size + 1) scope.names clo
    rw [sz]
  rw [en]
  have keep : ∀ b o, s.heap.get? b = some o → (pushCells (s.heap.push { cls := .type "frame", data := .dict #[] }) scope.names).get? b = some o := fun b o e => pushCells_keeps _ _ b o (Heap.get?_push_of_some _ e)
  refine wpAny_bind (bindF (env := envF qual scope s.heap.objs.size f cd clo) (cs := cellsFrom (s.heap.objs.size + 1) scope.names []) (s₀ := s) kf (fun n c e => ?_) _ (fun _ _ _ => rfl) binds (fun _ => none) (fun _ => none) _ _ ?_ kinds fun s' j => wpAny_pure (q s' j))
  · show (cellsFrom (s.heap.objs.size + 1) scope.names clo).lookup n = some c
    rw [own_cells, look_app, e]
    rfl
  · exact ⟨⟨⟨_, _, rfl⟩, (Heap.Ns.new s.heap (.type "frame")).keeps (pushCells_keeps _ _), keep, Nat.le_refl _⟩, fun n c e => (good.empty n c (mem_of_lookup e)).1, good.apart, fun n c e => (good.empty n c e).2⟩
end
/-- a def's names, the class's cell among them -/
structure FnScopeF (N P : List Str) (sc : Scope) : Prop where
  kind : sc.kind = .function
  co : sc.isCoroutine = false
  gen : sc.isGenerator = false
  nd : N.Nodup
  pre : N.take P.length = P
  par : ∀ x ∈ P, sc.names.lookup x = some .local ∨ sc.names.lookup x = some .cell
  free : ∀ y ∈ sc.names, y.2 = .free → y.1 = "__class__"
  cls : sc.names.lookup ("__class__" : Str) = some NameKind.free
  clsF : ∀ y ∈ sc.names, y.1 = "__class__" → y.2 = .free
/-- the context of such a def's body -/
def cxF (CX : CXT) (P : Program) (w : World) (K : PySem.W.Frag) (mg : Str → Option Value) (base : Heap) (N : List Str) (qual : Str) (scope : Scope) (f : Addr) (cd : Value) (cc : Addr) (A : Around) (outer : List Env) (s : Shared) (H : Hp) (E : XK) : Cx :=
  { prog := P, w := w, K := K, mg := mg, base := base, A := A.deeper (envF qual scope s.heap.objs.size f cd [("__class__", cc)]), N := N, s_0 := s, H_0 := H, env := envF qual scope s.heap.objs.size f cd [("__class__", cc)], outer := outer,
    stack := envF qual scope s.heap.objs.size f cd [("__class__", cc)] :: outer, ex := [], calm := true, fn := fun x => !(x == "__class__"), pn := [],
    xe := fun e s' => wpAny (model P w) (A.deeper (envF qual scope s.heap.objs.size f cd [("__class__", cc)])) (leaving (envF qual scope s.heap.objs.size f cd [("__class__", cc)]) e) (fun _ s'' => CX outer H s E e s'') (fun e' s'' => CX outer H s E e' s'') s' }
theorem no_own {ns : List (Str × NameKind)} {n : Nat} {x : Str} (h : ∀ k, (x, k) ∈ ns → k ≠ .cell) : (cellsFrom n ns []).lookup x = none := by
  have gen : ∀ (ns : List (Str × NameKind)) (n : Nat), (∀ k, (x, k) ∈ ns → k ≠ .cell) → (cellsFrom n ns []).lookup x = none := by
    intro ns
    induction ns with
    | nil => intro _ _; rfl
    | cons y ns ih =>
      intro n h
      obtain ⟨y, k⟩ := y
      unfold cellsFrom
      have h' := fun k hk => h k (List.mem_cons_of_mem _ hk)
      split
      · rename_i hk
        rw [own_cells, look_app, ih _ h', Option.none_or]
        have ne : (x == y) = false := by
          rw [beq_eq_false_iff_ne]
          rintro rfl
          exact h k List.mem_cons_self (beq_iff_eq.mp hk)
        rw [List.lookup_cons, ne]
        rfl
      · exact ih n h'
  exact gen ns n h
section
variable {CX : CXT} {P : Program} {w : World} {K : PySem.W.Frag} {mg : Str → Option Value} {base : Heap} {N ps : List Str} {qual : Str} {scope : Scope} {f cc : Addr} {cd : Value} {A : Around} {outer : List Env} {s s1 : Shared} {H : Hp} {E : XK} {us : List Value} {vs : List V} {oc : Obj} {D : Addr}
/-- at the entry -/
theorem invF_start (S : FnScopeF N ps scope) (hd : A.handled = none) (e0 : Env0 P w K mg base A outer s H) (hl : vs.length = ps.length) (r : Vals vs us) (lc : K.lookup cc = some oc) (dc : oc.data = .cell (some (.ref D)))
    (x : InCallC s s.heap.objs.size (bindL (envF qual scope s.heap.objs.size f cd [("__class__", cc)]).kindOf (ps.zip us) fun _ => none) (cellsFrom (s.heap.objs.size + 1) scope.names []) (bindC (envF qual scope s.heap.objs.size f cd [("__class__", cc)]).kindOf (ps.zip us) fun _ => none) s1) :
    Inv (cxF CX P w K mg base N qual scope f cd cc A outer s H E) [] (start N vs) H s1 := by
  obtain ⟨h1, tk, rfl, hk⟩ := x.done
  have hpl : ps.length ≤ N.length := by
    have e := congrArg List.length S.pre
    rw [List.length_take] at e
    omega
  have ndP : ps.Nodup := by
    rw [← S.pre]
    exact S.nd.sublist (List.take_sublist _ _)
  have inB : ∀ b o, K.lookup b = some o → s.heap.get? b = some o ∧ H b = none := fun b o e => e0.bs b o (e0.mod.kin b o e)
  have atc := inB cc oc lc
  have lowc : cc < s.heap.objs.size := Heap.lt_size atc.1
  -- a cell is one of the def's own or the class's
  have two : ∀ {y : Str} {c : Addr}, (cellsFrom (s.heap.objs.size + 1) scope.names [("__class__", cc)]).lookup y = some c → (cellsFrom (s.heap.objs.size + 1) scope.names []).lookup y = some c ∨ (y = "__class__" ∧ c = cc) := fun {y c} e => by
    rw [own_cells, look_app] at e
    cases q : (cellsFrom (s.heap.objs.size + 1) scope.names []).lookup y with
    | some d =>
      rw [q] at e
      exact .inl e
    | none =>
      rw [q, Option.none_or, List.lookup_cons] at e
      cases z : y == ("__class__" : Str) with
      | true =>
        rw [z] at e
        exact .inr ⟨beq_iff_eq.mp z, (Option.some.inj e).symm⟩
      | false =>
        rw [z] at e
        cases e
  have own : ∀ {y : Str} {c : Addr}, (cellsFrom (s.heap.objs.size + 1) scope.names []).lookup y = some c → (cellsFrom (s.heap.objs.size + 1) scope.names [("__class__", cc)]).lookup y = some c := fun {y c} e => by
    rw [own_cells, look_app, e]
    rfl
  have clsC : (cellsFrom (s.heap.objs.size + 1) scope.names [("__class__", cc)]).lookup ("__class__" : Str) = some cc := by
    rw [own_cells, look_app, no_own fun k hk e => by
      have := S.clsF _ hk rfl
      rw [show k = NameKind.free from this] at e
      cases e]
    rfl
  have above : ∀ {y : Str} {c : Addr}, (cellsFrom (s.heap.objs.size + 1) scope.names []).lookup y = some c → s.heap.objs.size < c := fun {y c} e => x.above y c (mem_of_lookup e)
  have noA : ∀ b : Addr, b ∉ (cxF CX P w K mg base N qual scope f cd cc A outer s H E).ex := fun b z => absurd (show b ∈ ([] : List Addr) from z) (by simp)
  have cells : ∀ y c, (cellsFrom (s.heap.objs.size + 1) scope.names [("__class__", cc)]).lookup y = some c → ∃ v, h1.IsCell c v := fun y c e => by
    rcases two e with q | ⟨_, rfl⟩
    · exact ⟨_, x.cell y c q⟩
    · exact ⟨_, oc, hk _ _ atc.1, dc⟩
  have freeCells : ∀ y c, (cellsFrom (s.heap.objs.size + 1) scope.names [("__class__", cc)]).lookup y = some c → H c = none := fun y c e => by
    rcases two e with q | ⟨_, rfl⟩
    · exact e0.hok.fresh (Nat.le_of_lt (above q))
    · exact atc.2
  have look : ∀ (i : Nat) (y : Str) (v : V), N[i]? = some y → (start N vs)[i]? = some (some v) → Vis scope y → ∃ u, RelV v u ∧ Look (envF qual scope s.heap.objs.size f cd [("__class__", cc)]) h1 (bindL (envF qual scope s.heap.objs.size f cd [("__class__", cc)]).kindOf (ps.zip us) fun _ => none) y u := fun i y v e1 e2 _ => by
    have hi : i < vs.length := by
      rcases Nat.lt_or_ge i vs.length with l | l
      · exact l
      · unfold L2.start at e2
        rw [List.getElem?_append_right (by rw [List.length_map]; exact l), List.getElem?_replicate] at e2
        split at e2 <;> cases e2
    have ha : vs[i]? = some v := by
      unfold L2.start at e2
      rw [List.getElem?_append_left (by rw [List.length_map]; exact hi), List.getElem?_map] at e2
      obtain ⟨a, q1, q2⟩ := Option.map_eq_some_iff.mp e2
      rw [q1, ← Option.some.inj q2]
    obtain ⟨u, hu, rv⟩ := r.get ha
    have hp : ps[i]? = some y := by
      rw [← S.pre, List.getElem?_take_of_lt (by omega)]
      exact e1
    refine ⟨u, rv, ?_⟩
    rcases S.par y (List.mem_of_getElem? hp) with q | q
    · exact .inl ⟨q, bindL_get ndP hp hu q⟩
    · obtain ⟨c, e⟩ := cell_has (n := s.heap.objs.size + 1) q
      have z := x.cell y c e
      rw [bindC_get ndP hp hu (by show scope.names.lookup y ≠ _; rw [q]; decide)] at z
      exact .inr ⟨.inl q, c, own e, z⟩
  have okX : (cxF CX P w K mg base N qual scope f cd cc A outer s H E).Ok :=
    { mod := e0.mod, kind := S.kind, glob := rfl, blt := rfl, above := Nat.le_refl _
      inj := fun y z c h1 h2 => by
        rcases two h1 with a | ⟨a, ea⟩ <;> rcases two h2 with b | ⟨b, eb⟩
        · exact name_of_addr x.apart (mem_of_lookup a) (mem_of_lookup b)
        · have q := above a
          rw [eb] at q
          exact absurd lowc (Nat.not_lt_of_le (Nat.le_of_lt q))
        · have q := above b
          rw [ea] at q
          exact absurd lowc (Nat.not_lt_of_le (Nat.le_of_lt q))
        · rw [a, b]
      has := fun y hy => by
        rcases (show scope.names.lookup y = some .cell ∨ scope.names.lookup y = some .free from hy) with q | q
        · obtain ⟨c, e⟩ := cell_has (n := s.heap.objs.size + 1) q
          exact ⟨c, own e⟩
        · have := S.free _ (mem_of_lookup q) rfl
          exact ⟨cc, by rw [show y = "__class__" from this]; exact clsC⟩
      cab := fun y c hf h => by
        rcases two h with q | ⟨rfl, _⟩
        · exact Nat.le_of_lt (above q)
        · exact absurd (show (!(("__class__" : Str) == "__class__")) = true from hf) (by decide)
      hd := fun _ => hd, frames := Around.frames_deeper e0.frames, stk := .inr ⟨rfl, rfl⟩, exf := fun b z => absurd z (noA b), bs := e0.bs, bsz := e0.bsz, noex := fun b _ _ => noA b, exfs := fun b z => absurd z (noA b), funs := e0.funs, frf := e0.frf }
  exact
    { ok := okX, os := rfl, bare := e0.bare, base := Un.kept hk, loc := ⟨_, x.toInCall.ns, look⟩, cell := cells, free := e0.hok.fresh (Nat.le_refl _), freeC := freeCells
      pin := fun p hp => absurd (show p ∈ ([] : List (Addr × Obj)) from hp) (by simp), hok := e0.hok.kept hk
      len := by
        unfold L2.start
        show _ = N.length
        rw [List.length_append, List.length_map, List.length_replicate]
        omega }
end
/-! ### statements, where the def's own code is at the top -/
structure PSsF (X : Cx) (c : Code) (sts : List Stmt) (t : TS) : Prop where
  run : ∀ (pins : List (Addr × Obj)) (s : Shared) (σ : L2.St) (H : Hp) (D : Ends), Inv X pins σ H s → t D σ H → PySem.wpAt (model X.prog X.w) X.A c (execs sts X.env) (SP X pins D) X.xe s
theorem psf_of {X : Cx} {c : Code} {sts : List Stmt} {t : TS} (h : PSs X sts t) : PSsF X c sts t := ⟨fun pins s σ H D I q => PySem.wpAt_of_wpAny (h.run pins s σ H D I q)⟩
theorem psf_cons {X : Cx} {c : Code} {st : Stmt} {rest : List Stmt} {t u : TS} (h : PS X st t) (g : PSsF X c rest u) : PSsF X c (st :: rest) (tSeq t u) := by
  refine ⟨fun pins s σ H D I q => PySem.ks_wpAt_execs_cons (PySem.wpAt_of_wpAny (thn (h.run pins s σ H { D with nx := u D } I q) fun fl s' z => ?_))⟩
  cases fl with
  | next =>
    obtain ⟨σ', H', J, z⟩ := z
    exact g.run pins s' σ' H' D J z
  | ret _ => exact z
  | brk => exact z
  | cont => exact z
/-- B is the class behind C; its __init__ stands at g -/
structure Sup (K : PySem.W.Frag) (C B g : Addr) : Prop where
  mro : ∃ cC cB, PySem.W.clsIn K C = some cC ∧ PySem.W.clsIn K B = some cB ∧ cC.mro = .ref C :: cB.mro
  init : PySem.W.findIn K (.ref B) "__init__" = some (some (.ref g))
  sub : PySem.W.mroIn K C (.ref C) = some true
  any : PySem.W.nsIn K cStatics "thirdparty.any" = some none
  ty : PySem.W.typeIn K (.ref g) = some (.type "function")
  fn : PySem.W.fnIn K g = true
theorem Sup.along {K : PySem.W.Frag} {C B g : Addr} (S : Sup K C B g) {cd : ClassData} (h : PySem.W.clsIn K C = some cd) : PySem.W.alongIn K "__init__" ((cd.mro.dropWhile (· != .ref C)).drop 1) = some (some (.ref g)) := by
  obtain ⟨cC, cB, h1, h2, h3⟩ := S.mro
  rw [h] at h1
  cases h1
  rw [h3, List.dropWhile_cons, show ((Value.ref C : Value) != .ref C) = false from by simp, if_neg Bool.false_ne_true, List.drop_one, List.tail_cons]
  have e := S.init
  unfold PySem.W.clsIn at h2
  cases q : K.lookup B with
  | none =>
    rw [q] at h2
    cases h2
  | some o =>
    obtain ⟨a, b, d, sl⟩ := o
    rw [q] at h2
    simp only [PySem.W.findIn, q] at e
    cases d <;> first | cases h2 | skip
    exact e
/-- what the code at the top must say -/
structure SupX (X : Cx) (f kd cc C : Addr) (sf : Str) : Prop where
  ks : X.env.kindOf "super" = some .globalImplicit
  kc : X.env.kindOf "__class__" = some .free
  fu : X.env.func = some f
  fd : ∃ o fd ar, X.K.lookup f = some o ∧ o.data = .func fd ∧ (fd.params.posonlyargs ++ fd.params.args).head? = some ar ∧ ar.arg = sf
  co : X.env.code = .ref kd
  file : ∃ o vs z tk, X.K.lookup kd = some o ∧ o.data = .fields vs ∧ vs[2]? = some (.str z tk) ∧ ((X.prog.main.file : Str) == z) = true
  top : (X.prog.main.scope.names.lookup ("super" : Str)).isSome = false
  cl : X.env.cells.lookup ("__class__" : Str) = some cc
  cell : ∃ o, X.K.lookup cc = some o ∧ o.data = .cell (some (.ref C))
  ms : X.mg "super" = none
  n0 : X.N[0]? = some sf
  v0 : Vis X.env.scope sf
  nd : (sf == ("__classdict__" : Str)) = false
def tSup (C : Addr) (sp : Sp) (E : XK) (t : TA) (u : TS) : TS := fun D σ H => ∃ a dx fs, σ[0]? = some (some (.ref a)) ∧ H a = some (.ins C dx fs) ∧ t σ H fun vs H1 => sp (.ref a :: vs) H1 (fun _ H2 => u D σ H2) E
theorem psf_super {X : Cx} {CX : CXT} {k : Nat} {f kd cc C B g : Addr} {sf : Str} {sp : Sp} {E : XK} {body rest : List Stmt} {e : Expr} {es : List Expr} {t : TA} {u : TS} {p0 p1 apos cpos pos : Pos} {pl : Sem Bool} (N : SupX X f kd cc C sf) (S : Sup X.K C B g) (F : FnR X.prog X.w X.K X.mg X.base CX k g sp) (hr : Room k X.A) (hx : Passes CX X E)
    (ha : PA X (e :: es) t) (hrest : PSs X rest u)
    (hst : starEach (e :: es) X.env = (false, eval e X.env) :: starEach es X.env := by rfl) (hpl : (backTo cpos (starEach es X.env)).any (·.1) = false := by rfl) (hi : interactive X.env = false := by rfl)
    (hs : swapsWith (.Call (.Attribute (.Call (.Name "super" p0) [] [] p1) "__init__" apos) (e :: es) [] cpos) none pos.line X.env = pure false := by rfl)
    (hev : eval (.Call (.Attribute (.Call (.Name "super" p0) [] [] p1) "__init__" apos) (e :: es) [] cpos) X.env = (do
      let ov ← attributeBase (.Call (.Name "super" p0) [] [] p1) "__init__" X.env (eval (.Call (.Name "super" p0) [] [] p1) X.env)
      standAt apos.atName
      let (f, first) ← holding [ov] (getMethod ov "__init__" pl)
      callWith cpos f first (backTo cpos (starEach (e :: es) X.env)) []) := by rfl) :
    PSsF X (.func body X.env) (.Expr (.Call (.Attribute (.Call (.Name "super" p0) [] [] p1) "__init__" apos) (e :: es) [] cpos) pos :: rest) (tSup C sp E t u) := by
  refine ⟨fun pins s σ H D I h => ?_⟩
  obtain ⟨a, dx, fs, es0, ea, h⟩ := h
  obtain ⟨of, fd, ar, lf, df, hp, har⟩ := N.fd
  obtain ⟨ok, vs, z, tk, lk, dk, hz, hfile⟩ := N.file
  obtain ⟨oc, lc, dc⟩ := N.cell
  obtain ⟨cC, cB, hC, hB, hm⟩ := S.mro
  subst har
  have KI := I.kIn
  obtain ⟨mA, O, _⟩ := ins_get I.hok ea
  obtain ⟨od, J, _⟩ := O.look
  obtain ⟨m, hn, hl⟩ := I.loc
  obtain ⟨ua, ra, la⟩ := hl 0 ar.arg (.ref a) N.n0 es0 N.v0
  obtain rfl : ua = Value.ref a := ra
  obtain ⟨oC, hC1, hC2⟩ : ∃ o, s.heap.get? C = some o ∧ o.data = .cls cC := by
    have hC' := hC
    unfold PySem.W.clsIn at hC'
    cases q : X.K.lookup C with
    | none =>
      rw [q] at hC'
      cases hC'
    | some o =>
      obtain ⟨b1, b2, d, b4⟩ := o
      rw [q] at hC'
      cases d <;> first | cases hC' | skip
      exact ⟨_, KI _ _ q, rfl⟩
  have aC : a ≠ C := fun q => by
    rw [q, (show H C = none from by
      have hC' := hC
      unfold PySem.W.clsIn at hC'
      cases w : X.K.lookup C with
      | none => rw [w] at hC'; cases hC'
      | some o => exact (I.bs C o (I.mod.kin _ _ w)).2)] at ea
    cases ea
  obtain ⟨og, hg, cg⟩ : ∃ o, s.heap.get? g = some o ∧ o.cls = .type "function" := by
    have w : (X.K.lookup g).map (·.cls) = some (.type "function") := S.ty
    obtain ⟨o, q1, q2⟩ := Option.map_eq_some_iff.mp w
    exact ⟨o, KI _ _ q1, q2⟩
  refine PySem.ks_wpAt_execs_cons (PySem.ks_wpAt_Expr_any (PySem.ks_wpAt_MethodCall (pl := pl) (PySem.ks_wpAt_super_base N.ks N.kc (by decide) N.fu (KI _ _ lf) df hp N.co (KI _ _ lk) dk hz hfile N.top ?_) hev) hi hs)
  have gl : ∀ {Q : Value → Shared → Prop}, Q (.type "super") s → wpAny (model X.prog X.w) X.A (loadName X.env "super") Q X.xe s := fun {Q} q => by
    obtain ⟨mb, b1, b2⟩ := I.mod.blt
    refine PySem.W.ks_loadName_global I.ok.kind N.ks ?_
    exact Calls.loadGlobal_builtin (by rw [I.ok.glob]; exact I.mod.glob.keeps I.bk) N.ms (by rw [I.ok.blt]; exact b1.keeps I.bk) ((b2 "super" (by decide)).trans (by decide +kernel)) q
  refine gl ⟨rfl, ?_⟩
  refine wpAny_loadName_free I.ok.kind N.kc N.cl ⟨oc, KI _ _ lc, dc⟩ ?_
  have self : ∀ {Q : Value → Shared → Prop}, Q (.ref a) s → wpAny (model X.prog X.w) X.A (loadName X.env ar.arg) Q X.xe s := fun {Q} q => by
    rcases la with ⟨hk, hmv⟩ | ⟨hk, c, hc, hcell⟩
    · exact wpAny_loadName_local I.ok.kind hk hn hmv q
    · rcases hk with hk | hk
      · exact wpAny_loadName_cell I.ok.kind hk hc hcell q
      · exact wpAny_loadName_free I.ok.kind hk hc hcell q N.nd
  refine self ?_
  obtain ⟨hh, gg, d, tt, os⟩ := s
  refine PySem.ks_wpAny_isType_cls hC1 hC2 ⟨rfl, ?_⟩
  refine PySem.ks_wpAny_call_super hC1 hC2 J.at_ J.cls (fun c q => by cases q) (PySem.W.looks_mroIn KI S.sub) fun h1 e1 k1 => ?_
  have I1 : Inv X pins σ H ⟨h1, gg, d, tt, os⟩ := I.kept (t' := tt) k1
  refine PySem.ks_wpAny_getMethod_super e1 (PySem.W.looks_opaque I1.kIn S.any) (l₀ := cC.mro) (fun A Q E s k q => wpAny_bind ((PySem.W.looks_clsIn I1.kIn hC) A _ E s k (wpAny_pure q))) rfl I1.kIn (S.along hC) (k1 _ _ hg) cg aC (by decide) ?_
  have I2 : Inv X ((h1.objs.size, PySem.W.methodObj (.ref g) (.ref a)) :: pins) σ H ⟨h1.push (PySem.W.methodObj (.ref g) (.ref a)), gg, d, tt + 1, os⟩ :=
    ClX.pin_new I1 (fun _ _ z => Heap.get?_push_of_some _ z) (Nat.le_refl _) (Heap.get?_push_size h1 rfl) (fun v z => nomatch z)
  refine ClX.callwith_cm (C := a) I2 (ClX.base_none I1 (Nat.le_refl _)) S.fn (thn (ha.run cpos _ _ σ H _ I2 h) fun us s3 ⟨ws, H1, I3, rv, q⟩ => ⟨⟨ClX.pin_at I3, I3.kIn⟩, ?_⟩) hst hpl
  refine thn (ClX.run_cm (C := a) F hr hx I3 rv q) fun v s4 ⟨y, H2, I4, ry, q2⟩ => ?_
  exact PySem.wpAt_of_wpAny (hrest.run pins s4 σ H2 D I4 q2)
/-- a def with the cell of its class -/
abbrev fnOfF (name qual : Str) (params : Arguments) (body : List Stmt) (scope : Scope) (cc : Addr) (dV kV doc pm : Value) (an : Option Addr) (cdv ct : Value) : FuncData :=
  { PySem.W.fnOf name qual params body scope dV kV doc pm an cdv ct with closure := [("__class__", cc)] }
section
variable {CX : CXT} {P : Program} {w : World} {K : PySem.W.Frag} {mg : Str → Option Value} {base : Heap} {k : Nat} {f cc D : Addr} {name qual : Str} {params : Arguments} {body : List Stmt} {scope : Scope} {dV kV doc pm cdv ct oc : Value} {an od : Option Addr} {osl : Array (Option Value)} {ocell : Obj} {N ps : List Str} {sp : Sp}
theorem fnF (lk : K.lookup f = some ⟨oc, od, .func (fnOfF name qual params body scope cc dV kV doc pm an cdv ct), osl⟩) (hcd : PySem.W.codeIn K cdv qual = true) (S : FnScopeF N ps scope) (lc : K.lookup cc = some ocell) (dc : ocell.data = .cell (some (.ref D))) (len : ∀ vs H Q E, sp vs H Q E → vs.length = ps.length)
    (hbody : ∀ (A : Around) (outer : List Env) (s : Shared) (H : Hp) (vs : List V) (Q : VK) (E : XK), Room k (A.deeper (envF qual scope s.heap.objs.size f cdv [("__class__", cc)])) → sp vs H Q E →
      ∃ t, PSsF (cxF CX P w K mg base N qual scope f cdv cc A outer s H E) (.func body (envF qual scope s.heap.objs.size f cdv [("__class__", cc)])) body t ∧ t { nx := fun _ H' => Q .non H', rt := Q } (L2.start N vs) H) :
    FnOk P w K mg base CX (k + 1) f (fnOfF name qual params body scope cc dV kV doc pm an cdv ct) ps sp := by
  refine ⟨len, fun A outer s H args us vs Q E hr e0 hb r hsp => ?_⟩
  have inK : K.In s.heap := e0.mod.kin.keeps fun b o e => (e0.bs b o e).1
  have noL : s.heap.NoLimit := e0.mod.nolimit.keeps fun b o e => (e0.bs b o e).1
  have kinds : ∀ b ∈ ps.zip us, scope.names.lookup b.1 = some .local ∨ (scope.names.lookup b.1 = some .cell ∧ ((cellsFrom (s.heap.objs.size + 1) scope.names []).lookup b.1).isSome = true) := fun b hb => by
    rcases S.par b.1 (List.of_mem_zip hb).1 with q | q
    · exact .inl q
    · exact .inr ⟨q, PySem.W.cellsFrom_some _ _ _ (.inl q)⟩
  refine codeAny_call_function hr.depth (inK _ _ lk) rfl S.co S.gen rfl (PySem.W.codeRec_of inK hcd) (hb _ _ _ _ ?_)
  refine frameF S.kind kinds fun s1 x => ⟨noL.keeps x.toInCall.keep, PySem.ks_codeAny_funcAt ?_⟩
  obtain ⟨t, ht, q⟩ := hbody A outer s H vs Q E (hr.deeper _) hsp
  have I := invF_start (CX := CX) (E := E) (P := P) (w := w) (mg := mg) (base := base) S hr.hd e0 (len _ _ _ _ hsp) r lc dc x
  refine PySem.wpAt_mono (ht.run [] s1 (L2.start N vs) H _ I q) (fun fl s' z => ?_) fun e s' z => z
  cases fl with
  | next =>
    obtain ⟨σ', H', J, z⟩ := z
    exact ⟨.non, H', J.os, J.bare, J.base, J.hok, rfl, z⟩
  | ret u =>
    obtain ⟨v, σ', H', J, rv, z⟩ := z
    exact ⟨v, H', J.os, J.bare, J.base, J.hok, rv, z⟩
  | brk =>
    obtain ⟨_, _, _, z⟩ := z
    exact z.elim
  | cont =>
    obtain ⟨_, _, _, z⟩ := z
    exact z.elim
end
end Wf
/-! what is shown of (letters, rows, marks) tells them -/
namespace Wf
open PySem L2
/-- , or ] or ) -/
def Dl (a : List Nat) : Prop := ∃ c r, a = c :: r ∧ (c = 44 ∨ c = 93 ∨ c = 41)
/-- what is shown begins with no such sign, and tells where it ends -/
structure Cut {α : Type} (tok : α → List Nat) (g : α → Prop) : Prop where
  cut : ∀ x y a b, g x → g y → Dl a → Dl b → tok x ++ a = tok y ++ b → x = y ∧ a = b
  hd : ∀ x, g x → ∃ c r, tok x = c :: r ∧ c ≠ 44 ∧ c ≠ 93 ∧ c ≠ 41
/-- signs that are none of the three -/
theorem flat_cut : ∀ {u v a b : List Nat}, (∀ c ∈ u, c ≠ 44 ∧ c ≠ 93 ∧ c ≠ 41) → (∀ c ∈ v, c ≠ 44 ∧ c ≠ 93 ∧ c ≠ 41) → Dl a → Dl b → u ++ a = v ++ b → u = v ∧ a = b
  | [], [], _, _, _, _, _, _, h => ⟨rfl, h⟩
  | [], y :: v, a, b, _, hv, ⟨c, r, ea, hc⟩, _, h => by
    rw [ea] at h
    have e : c = y := (List.cons.inj h).1
    have := hv y List.mem_cons_self
    omega
  | x :: u, [], a, b, hu, _, _, ⟨c, r, eb, hc⟩, h => by
    rw [eb] at h
    have e : x = c := (List.cons.inj h).1
    have := hu x List.mem_cons_self
    omega
  | x :: u, y :: v, a, b, hu, hv, da, db, h => by
    obtain ⟨e1, e2⟩ := List.cons.inj h
    obtain ⟨e3, e4⟩ := flat_cut (fun c hc => hu c (List.mem_cons_of_mem _ hc)) (fun c hc => hv c (List.mem_cons_of_mem _ hc)) da db e2
    exact ⟨by rw [e1, e3], e4⟩
theorem cut_flat {α : Type} {tok : α → List Nat} {g : α → Prop} (inj : ∀ x y, g x → g y → tok x = tok y → x = y) (ne : ∀ x, g x → tok x ≠ []) (no : ∀ x, g x → ∀ c ∈ tok x, c ≠ 44 ∧ c ≠ 93 ∧ c ≠ 41) : Cut tok g := by
  refine ⟨fun x y a b gx gy da db h => ?_, fun x gx => ?_⟩
  · obtain ⟨e1, e2⟩ := flat_cut (no x gx) (no y gy) da db h
    exact ⟨inj x y gx gy e1, e2⟩
  · cases q : tok x with
    | nil => exact absurd q (ne x gx)
    | cons c r => exact ⟨c, r, rfl, no x gx c (by rw [q]; exact List.mem_cons_self)⟩
/-- the items behind the first -/
def encT {α : Type} (tok : α → List Nat) (xs : List α) : List Nat := xs.flatMap fun x => 44 :: 32 :: tok x
def innT {α : Type} (tok : α → List Nat) : List α → List Nat
  | [] => []
  | x :: xs => tok x ++ encT tok xs
def lstT {α : Type} (tok : α → List Nat) (xs : List α) : List Nat := 91 :: (innT tok xs ++ [93])
section
variable {α : Type} {tok : α → List Nat} {g : α → Prop}
theorem encT_dl {xs : List α} {a : List Nat} : Dl (encT tok xs ++ 93 :: a) := by
  cases xs with
  | nil => exact ⟨93, a, rfl, .inr (.inl rfl)⟩
  | cons x xs =>
    unfold encT
    rw [List.flatMap_cons]
    exact ⟨44, _, rfl, .inl rfl⟩
theorem encT_cut (C : Cut tok g) : ∀ {xs ys : List α} {a b : List Nat}, (∀ x ∈ xs, g x) → (∀ y ∈ ys, g y) → encT tok xs ++ 93 :: a = encT tok ys ++ 93 :: b → xs = ys ∧ a = b
  | [], [], _, _, _, _, h => ⟨rfl, (List.cons.inj h).2⟩
  | [], y :: ys, _, _, _, _, h => by
    unfold encT at h
    rw [List.flatMap_cons] at h
    exact absurd (List.cons.inj h).1 (by decide)
  | x :: xs, [], _, _, _, _, h => by
    unfold encT at h
    rw [List.flatMap_cons] at h
    exact absurd (List.cons.inj h).1 (by decide)
  | x :: xs, y :: ys, a, b, hx, hy, h => by
    have ex : ∀ w ws, encT tok (w :: ws) = 44 :: 32 :: (tok w ++ encT tok ws) := fun w ws => by
      unfold encT
      rw [List.flatMap_cons]
      rfl
    rw [ex, ex] at h
    have h2 : (tok x ++ encT tok xs) ++ 93 :: a = (tok y ++ encT tok ys) ++ 93 :: b := (List.cons.inj (List.cons.inj h).2).2
    rw [List.append_assoc, List.append_assoc] at h2
    obtain ⟨e1, e2⟩ := C.cut x y _ _ (hx x List.mem_cons_self) (hy y List.mem_cons_self) encT_dl encT_dl h2
    obtain ⟨e3, e4⟩ := encT_cut C (fun w hw => hx w (List.mem_cons_of_mem _ hw)) (fun w hw => hy w (List.mem_cons_of_mem _ hw)) e2
    exact ⟨by rw [e1, e3], e4⟩
theorem innT_cut (C : Cut tok g) : ∀ {xs ys : List α} {a b : List Nat}, (∀ x ∈ xs, g x) → (∀ y ∈ ys, g y) → innT tok xs ++ 93 :: a = innT tok ys ++ 93 :: b → xs = ys ∧ a = b
  | [], [], _, _, _, _, h => ⟨rfl, (List.cons.inj h).2⟩
  | [], y :: ys, a, b, _, hy, h => by
    obtain ⟨c, r, e, _, n, _⟩ := C.hd y (hy y List.mem_cons_self)
    have h : 93 :: a = (tok y ++ encT tok ys) ++ 93 :: b := h
    rw [e] at h
    exact absurd (List.cons.inj h).1.symm n
  | x :: xs, [], a, b, hx, _, h => by
    obtain ⟨c, r, e, _, n, _⟩ := C.hd x (hx x List.mem_cons_self)
    have h : (tok x ++ encT tok xs) ++ 93 :: a = 93 :: b := h
    rw [e] at h
    exact absurd (List.cons.inj h).1 n
  | x :: xs, y :: ys, a, b, hx, hy, h => by
    unfold innT at h
    rw [List.append_assoc, List.append_assoc] at h
    obtain ⟨e1, e2⟩ := C.cut x y _ _ (hx x List.mem_cons_self) (hy y List.mem_cons_self) encT_dl encT_dl h
    obtain ⟨e3, e4⟩ := encT_cut C (fun w hw => hx w (List.mem_cons_of_mem _ hw)) (fun w hw => hy w (List.mem_cons_of_mem _ hw)) e2
    exact ⟨by rw [e1, e3], e4⟩
theorem cut_list (C : Cut tok g) : Cut (lstT tok) (fun xs => ∀ x ∈ xs, g x) := by
  refine ⟨fun xs ys a b gx gy _ _ h => ?_, fun xs _ => ⟨91, _, rfl, by decide, by decide, by decide⟩⟩
  unfold lstT at h
  have h2 : (innT tok xs ++ [93]) ++ a = (innT tok ys ++ [93]) ++ b := (List.cons.inj h).2
  rw [List.append_assoc, List.append_assoc] at h2
  exact innT_cut C gx gy h2
end
/-! ### the kinds of items -/
def tokO : Option Nat → List Nat
  | none => sgs (PyData.shown .none)
  | some n => sgs (PyData.shown (.int (n : Int)))
def tokB : Option Bool → List Nat
  | none => sgs (PyData.shown .none)
  | some b => sgs (PyData.shown (.bool b))
def noSep (l : List Nat) : Bool := !l.isEmpty && l.all fun c => c != 44 && c != 93 && c != 41
theorem noSep_of {l : List Nat} (h : noSep l = true) : l ≠ [] ∧ ∀ c ∈ l, c ≠ 44 ∧ c ≠ 93 ∧ c ≠ 41 := by
  unfold noSep at h
  rw [Bool.and_eq_true] at h
  refine ⟨fun e => by rw [e] at h; exact absurd h.1 (by decide), fun c hc => ?_⟩
  have := List.all_eq_true.mp h.2 c hc
  simp only [Bool.and_eq_true, bne_iff_ne] at this
  exact ⟨this.1.1, this.1.2, this.2⟩
def allO : List (Option Nat) := none :: (List.range 100).map some
theorem allO_mem {o : Option Nat} (h : ∀ n, o = some n → n < 100) : o ∈ allO := by
  cases o with
  | none => exact List.mem_cons_self
  | some n => exact List.mem_cons_of_mem _ (List.mem_map.mpr ⟨n, List.mem_range.mpr (h n rfl), rfl⟩)
theorem tokO_nd : (allO.map tokO).Nodup := by decide +kernel
theorem tokO_ok : (allO.map tokO).all noSep = true := by decide +kernel
theorem inj_of_nodup {α β : Type} {f : α → β} : ∀ {l : List α}, (l.map f).Nodup → ∀ x ∈ l, ∀ y ∈ l, f x = f y → x = y
  | [], _, x, hx, _, _, _ => absurd hx List.not_mem_nil
  | z :: l, nd, x, hx, y, hy, e => by
    rw [List.map_cons] at nd
    obtain ⟨n1, n2⟩ := List.nodup_cons.mp nd
    rcases List.mem_cons.mp hx with ex | lx <;> rcases List.mem_cons.mp hy with ey | ly
    · rw [ex, ey]
    · rw [ex] at e
      exact absurd (List.mem_map.mpr ⟨y, ly, e.symm⟩) n1
    · rw [ey] at e
      exact absurd (List.mem_map.mpr ⟨x, lx, e⟩) n1
    · exact inj_of_nodup n2 x lx y ly e
/-- a number below a hundred, or none -/
def SmO (o : Option Nat) : Prop := ∀ n, o = some n → n < 100
theorem cutO : Cut tokO SmO := cut_flat (fun x y gx gy e => inj_of_nodup tokO_nd x (allO_mem gx) y (allO_mem gy) e) (fun x gx => (noSep_of (List.all_eq_true.mp tokO_ok _ (List.mem_map.mpr ⟨x, allO_mem gx, rfl⟩))).1) (fun x gx => (noSep_of (List.all_eq_true.mp tokO_ok _ (List.mem_map.mpr ⟨x, allO_mem gx, rfl⟩))).2)
theorem cutB : Cut tokB (fun _ => True) := by
  have nd : (([none, some true, some false] : List (Option Bool)).map tokB).Nodup := by decide +kernel
  have ok : (([none, some true, some false] : List (Option Bool)).map tokB).all noSep = true := by decide +kernel
  have m : ∀ o : Option Bool, o ∈ ([none, some true, some false] : List (Option Bool)) := fun o => by
    cases o with
    | none => exact List.mem_cons_self
    | some b => cases b <;> simp
  exact cut_flat (fun x y _ _ e => inj_of_nodup nd x (m x) y (m y) e) (fun x _ => (noSep_of (List.all_eq_true.mp ok _ (List.mem_map.mpr ⟨x, m x, rfl⟩))).1) (fun x _ => (noSep_of (List.all_eq_true.mp ok _ (List.mem_map.mpr ⟨x, m x, rfl⟩))).2)
end Wf
/-! methods that may raise -/
namespace Wf
open PySem PySem.Spec PyProof.Rows L2
structure MtX (P : Program) (w : World) (K : PySem.W.Frag) (mg : Str → Option Value) (base : Heap) (k : Nat) (C : Addr) (x : Str) (ps : List Str) (sp : Sp) : Prop where
  ex : ∃ (g : Addr) (fd : FuncData), Meth K C x g ∧ FnOk P w K mg base (L2.CX P w) k g fd ps sp ∧ Binds K fd ps []
def tMethX (C : Addr) (m : Str) (sp : Sp) (E : L2.St → XK) (ta : TE) (t : TA) : TE := fun σ H Q => ta σ H fun x H1 => ∃ a dx fs, x = .ref a ∧ H1 a = some (.ins C dx fs) ∧ fs.lookup m = none ∧ t σ H1 fun vs H2 => sp (.ref a :: vs) H2 Q (E σ)
section
variable {X : Cx} {C : Addr} {x : Str} {k : Nat} {ps : List Str} {sp : Sp} {W : WX} {E : XK} {e o : Expr} {es : List Expr} {pos apos : Pos} {ta : TE} {t : TA} {pl : Sem Bool}
/-- in a def that may raise the same -/
theorem pe_mtX (N : MtX X.prog X.w X.K X.mg X.base k C x ps sp) (cl : Cls X.K C) (hr : Room k X.A) (tk : Takes X W) (he : PE X o ta) (ha : PA X (e :: es) t)
    (ht : eval (.Call (.Attribute o x apos) (e :: es) [] pos) X.env = (do
      let ov ← eval o X.env
      standAt apos.atName
      let (f, first) ← holding [ov] (getMethod ov x pl)
      callWith pos f first (backTo pos (starEach (e :: es) X.env)) (backToKw pos (keywordEach [] X.env))) := by rfl)
    (hst : starEach (e :: es) X.env = (false, eval e X.env) :: starEach es X.env := by rfl) (hpl : (backTo pos (starEach es X.env)).any (·.1) = false := by rfl) : PE X (.Call (.Attribute o x apos) (e :: es) [] pos) (tMethX C x sp (WE W) ta t) := by
  obtain ⟨g, fd, hm, F, hb⟩ := N.ex
  refine ⟨fun pins s σ H Q I h => ?_⟩
  refine PySem.W.methodCall_KW (pl := pl) (thn (he.run pins s σ H _ I h) fun u s1 ⟨y, H1, I1, rx, a, dx, fs, ex, ea, l, q⟩ => ?_) ht
  subst ex
  obtain rfl : u = Value.ref a := rx
  refine getmeth_ok I1 ea cl hm l ?_
  refine PySem.W.callWith_K (first := [.ref a]) (h₀ := X.base) I.ok.mod.kin hm.kp (thn (ha.run pos pins s1 σ H1 _ I1 q) fun us s2 ⟨vs, H2, I2, r, q2⟩ => ⟨I2.kIn, ?_⟩) hst hpl
  exact run_fnS (E := WE W) (us := .ref a :: us) (vs := .ref a :: vs) F hr hb (passAt tk σ) I2 (.cons rfl r) q2
/-- where nothing is raised -/
theorem pe_mtN (N : MtX X.prog X.w X.K X.mg X.base k C x ps sp) (cl : Cls X.K C) (hr : Room k X.A) (hx : Passes (L2.CX X.prog X.w) X E) (he : PE X o ta) (ha : PA X (e :: es) t)
    (ht : eval (.Call (.Attribute o x apos) (e :: es) [] pos) X.env = (do
      let ov ← eval o X.env
      standAt apos.atName
      let (f, first) ← holding [ov] (getMethod ov x pl)
      callWith pos f first (backTo pos (starEach (e :: es) X.env)) (backToKw pos (keywordEach [] X.env))) := by rfl)
    (hst : starEach (e :: es) X.env = (false, eval e X.env) :: starEach es X.env := by rfl) (hpl : (backTo pos (starEach es X.env)).any (·.1) = false := by rfl) : PE X (.Call (.Attribute o x apos) (e :: es) [] pos) (tMeth C x sp [] E ta t) :=
  let ⟨_, _, hm, F, hb⟩ := N.ex
  pe_meth he cl hm F hr hb .nil hx ha hst hpl ht
end
end Wf
/-! a step taken again and again: from the value that comes again on, the same values are passed in turn -/
namespace Wf
open PySem L2
section
variable {α : Type} {f : α → α} {s : α}
def itr (f : α → α) (s : α) : Nat → α
  | 0 => s
  | n + 1 => f (itr f s n)
theorem itr_add {a : Nat} : ∀ {b : Nat}, itr f s (a + b) = itr f (itr f s a) b
  | 0 => rfl
  | b + 1 => by
    show f (itr f s (a + b)) = f (itr f (itr f s a) b)
    rw [itr_add]
theorem itr_per {i k t : Nat} (h : itr f s k = itr f s i) (l : i ≤ k) (ht : i ≤ t) : itr f s (t + (k - i)) = itr f s t := by
  have e1 : t + (k - i) = k + (t - i) := by omega
  have e2 : t = i + (t - i) := by omega
  rw [e1, itr_add, h, ← itr_add, ← e2]
theorem itr_many {i k t : Nat} (h : itr f s k = itr f s i) (l : i ≤ k) (ht : i ≤ t) : ∀ q : Nat, itr f s (t + q * (k - i)) = itr f s t
  | 0 => by rw [Nat.zero_mul, Nat.add_zero]
  | q + 1 => by
    rw [Nat.succ_mul, ← Nat.add_assoc, itr_per h l (by omega), itr_many h l ht q]
theorem itr_mod {i k t : Nat} (h : itr f s k = itr f s i) (l : i < k) (ht : i ≤ t) : itr f s t = itr f s (i + (t - i) % (k - i)) := by
  have e := Nat.mod_add_div (t - i) (k - i)
  have e1 : t = (i + (t - i) % (k - i)) + (t - i) / (k - i) * (k - i) := by
    rw [Nat.mul_comm ((t - i) / (k - i))]
    omega
  have e2 := itr_many (t := i + (t - i) % (k - i)) h (Nat.le_of_lt l) (by omega) ((t - i) / (k - i))
  rw [← e1] at e2
  exact e2
/-- the values passed before the k-th -/
def passed (f : α → α) (s : α) (k : Nat) : List α := (List.range k).map (itr f s)
theorem passed_succ {k : Nat} : passed f s (k + 1) = passed f s k ++ [itr f s k] := by
  unfold passed
  rw [List.range_succ, List.map_append]
  rfl
theorem passed_at {k j : Nat} (h : j < k) : (passed f s k)[j]? = some (itr f s j) := by
  unfold passed
  rw [List.getElem?_map, List.getElem?_eq_getElem (by rw [List.length_range]; exact h), List.getElem_range]
  rfl
theorem passed_len {k : Nat} : (passed f s k).length = k := by
  unfold passed
  rw [List.length_map, List.length_range]
theorem passed_nodup {k : Nat} (h : (passed f s k).Nodup) (n : itr f s k ∉ passed f s k) : (passed f s (k + 1)).Nodup := by
  rw [passed_succ]
  exact List.nodup_append.mpr ⟨h, List.nodup_cons.mpr ⟨List.not_mem_nil, List.nodup_nil⟩, fun a ha b hb e => n (by rw [← List.mem_singleton.mp hb, ← e]; exact ha)⟩
theorem passed_mem {k : Nat} {x : α} : x ∈ passed f s k ↔ ∃ j, j < k ∧ itr f s j = x := by
  unfold passed
  rw [List.mem_map]
  exact ⟨fun ⟨j, hj, e⟩ => ⟨j, List.mem_range.mp hj, e⟩, fun ⟨j, hj, e⟩ => ⟨j, List.mem_range.mpr hj, e⟩⟩
end
/-- no more different values than there are -/
theorem passed_few {f : Option Nat → Option Nat} {s : Option Nat} {n k : Nat} (h : (passed f s k).Nodup) (r : ∀ j, ∀ m, itr f s j = some m → m < n) : k ≤ n + 1 := by
  have e := nodup_sub (ys := passed f s k) (ws := none :: (List.range n).map some) h fun y hy => by
    obtain ⟨j, _, rfl⟩ := passed_mem.mp hy
    cases q : itr f s j with
    | none => exact List.mem_cons_self
    | some m => exact List.mem_cons_of_mem _ (List.mem_map.mpr ⟨m, List.mem_range.mpr (r j m q), rfl⟩)
  rw [passed_len, List.length_cons, List.length_map, List.length_range] at e
  exact e
end Wf
/-! a word repeated leads where its step, repeated, leads -/
namespace Wf
open PySem L2
section
variable {zs : List Nat} {tb : List (List (Option Nat))}
theorem led_app {s : Option Nat} {a b : List Nat} : ledTo zs tb s (a ++ b) = ledTo zs tb (ledTo zs tb s a) b := by
  unfold ledTo
  exact List.foldl_append
theorem itr_step {α : Type} {f : α → α} {s : α} {n : Nat} : itr f (f s) n = itr f s (n + 1) := by
  rw [Nat.add_comm, itr_add]
  rfl
theorem led_rep {cs : List Nat} : ∀ {n : Nat} {s : Option Nat}, ledTo zs tb s (List.replicate n cs).flatten = itr (fun s => ledTo zs tb s cs) s n
  | 0, _ => rfl
  | n + 1, s => by
    rw [List.replicate_succ, List.flatten_cons, led_app, led_rep, itr_step (f := fun s => ledTo zs tb s cs)]
/-- repeated and repeated again -/
theorem itr_itr {α : Type} {f : α → α} {s : α} {m : Nat} : ∀ {n : Nat}, itr (fun x => itr f x m) s n = itr f s (n * m)
  | 0 => by rw [Nat.zero_mul]; rfl
  | n + 1 => by
    show itr f (itr (fun x => itr f x m) s n) m = _
    rw [itr_itr, ← itr_add, Nat.succ_mul]
end
end Wf
/-! N1: a `for` in a generator's body, with yields in it. -/
namespace L2
open PySem PySem.Spec PyProof.Rows GenW

def tGFor (wi : TI) (g : TG) (tb : TGn) : TGn := fun D ys σ H => wi σ H fun J H1 => ∃ W : Nat → Nat → List V → St → Hp → Prop, (∃ m, W 0 m ys σ H1) ∧ ∀ i m ys σ H, W i m ys σ H →
  (J.stop i H ∧ D.nx ys σ H) ∨ (J.go i H ∧ ∃ N : List V → St → Hp → Prop, (∀ ys' σ' H', N ys' σ' H' → ∃ m', m' < m ∧ W (i + 1) m' ys' σ' H') ∧
    ∀ x H', J.yld i H x H' → g x σ H' fun σ2 H2 => tb { D with nx := N, ct := N, bk := D.nx } ys σ2 H2)

theorem seg_runOwn {M : Model} {A : Around} {R : GenEnd} {Y : Protocol} {n : Nat} {s₀ : Shared} {c c' : Code} {fs : List Frame} {s : Shared} {env : Env} {K : Flow → Sem PySem.Fin} {J : Value → Sem PySem.Fin} {gd : Bool → Bool} {lv : List Value → List Value}
    (h : ∀ p, Seg M A R Y n s₀ c' (M.den c') (.ret (fun r => ((match r with | .ok f => (.pure f : Sem Flow) | .error e => .raise e).onRaise (cameBack env)).wrap K J gd lv) none (gd false) (lv []) c p [] :: fs) s) :
    Seg M A R Y n s₀ c ((runOwn c' env).wrap K J gd lv) fs s := seg_call h

section
variable {X : Cx}
theorem gs_for {tg iter : Expr} {body : List Stmt} {wi : TI} {g : TG} {tb : TGn} {pos : Pos} (hp : PassesOwn (model X.prog X.w) X.A X.env X.xe) (hc : X.calm = true) (hi : PI X tg iter wi) (hg : PG X tg g) (hb : GSs X body tb)
    (hs : ∀ x, foldedSetIterable iter X.env x = pure x := by intro _; rfl) : GS X (.For tg iter body [] pos) (tGFor wi g tb) := by
  refine ⟨fun A S ip R n ys s₀ c fs K J gd lv s σ H D gc hn k hI ht => ?_⟩
  obtain ⟨acc, cc, r, I⟩ := hI
  rw [exec_For]
  refine seg_bind_wrap (wpAny_standAt ?_)
  refine seg_bind_wrap ?_
  rw [gc.over]
  refine wpAny_mono (hi.run _ s σ H _ I ht) (fun v s1 h1 => ?_) fun x s' hx => k.exc n s₀ x s' hx
  rw [hs v]
  refine seg_bind_wrap (wpAny_pure ?_)
  refine seg_bind_wrap (wpAny_standAt ?_)
  refine seg_bind_wrap (wpAny_holding ?_)
  rw [gc.over]
  refine wpAny_mono h1 (fun itv s2 h2 => ?_) fun x s' hx => k.exc n s₀ x s' hx
  obtain ⟨it, fp, tn, Jt, H2, e, I2, T, st2, f2, W, ⟨m0, w0⟩, turn⟩ := h2
  subst e
  refine seg_runOwn fun p => ?_
  have gl := fun (kk : Result → Sem PySem.Fin) => gc_loop (k := kk) (c' := .forLoop tg (.ref it) body [] X.env) (l := lv []) (kp := []) (p := p) gc rfl rfl
  have stat : ∀ {acc : Array Value} {cc : Nat} {H' : Hp}, (∀ b ∈ fp, H' b = none) → ∀ b ∈ fp, FpOk X ((S, lstObj acc cc) :: ip) H' b := fun {acc cc H'} hn b hb => by
    obtain ⟨q1, q2, q3, q4, q5, q6⟩ := f2 b hb
    refine ⟨hn b hb, q2, q3, q4, q5, fun q hq => ?_⟩
    rcases List.mem_append.mp hq with z | z
    · exact q6 q (List.mem_append_left _ z)
    · rcases List.mem_cons.mp z with z | z
      · rw [z]; have q7 := q6 _ (List.mem_append_right _ List.mem_cons_self); exact q7
      · exact q6 q (List.mem_append_right _ (List.mem_cons_of_mem _ z))
  have apS : ∀ b ∈ fp, b ≠ S := fun b hb z => by
    obtain ⟨_, _, _, _, _, q6⟩ := f2 b hb
    exact q6 _ (List.mem_append_right _ List.mem_cons_self) z.symm
  have loop : ∀ (m n : Nat) (i : Nat) (ys : List V) (s₀ s : Shared) (σ : St) (H : Hp), n + ys.length = sizeLine → W i m ys σ H → GI X S ip ys σ H s → tn i s.heap → (∀ b ∈ fp, H b = none) →
      Seg (model X.prog X.w) A R (GY X S) n s₀ (.forLoop tg (.ref it) body [] X.env) ((model X.prog X.w).den (.forLoop tg (.ref it) body [] X.env))
        (.ret (fun r => ((match r with | .ok f => (.pure f : Sem Flow) | .error e => .raise e).onRaise (cameBack X.env)).wrap K J gd lv) none (gd false) (lv []) c p [] :: fs) s := by
    intro m
    induction m using Nat.strongRecOn with
    | ind m ih =>
      intro n i ys s₀ s3 σ3 H3 hn w3 hI st3 fr3
      have ee : ∀ (n : Nat) (s₀ : Shared) (x : Value) (s' : Shared), X.xe x s' → Seg (model X.prog X.w) A R (GY X S) n s₀ (.forLoop tg (.ref it) body [] X.env)
          ((do noteFrame x X.env; theTreesLotGoes x : Sem Unit).wrap (fun _ => .raise x) .raise id id)
          (.ret (fun r => ((match r with | .ok f => (.pure f : Sem Flow) | .error e => .raise e).onRaise (cameBack X.env)).wrap K J gd lv) none (gd false) (lv []) c p [] :: fs) s' := fun n s₀ x s' hx => by
        refine seg_wrap ?_
        rw [(gl _).over]
        refine wpAny_bind (wpAny_mono (hp x s' hx) (fun _ s'' hcb => wpAny_theTreesLotGoes ?_) fun y s'' hcb => ?_)
        · exact seg_leaf (.error x) (seg_cameBack gc k hcb)
        · exact seg_leaf (.error y) (seg_cameBack gc k hcb)
      obtain ⟨acc, cc, r, I3⟩ := hI
      show Seg _ A R _ n s₀ _ ((forTurn tg (.ref it) body [] X.env).onRaise (fun x => do noteFrame x X.env; theTreesLotGoes x)) _ s3
      unfold forTurn
      rw [Sem.onRaise_eq_wrap]
      simp only [Sem.bind_eq_wrap]
      refine seg_bind_wrap (wpAny_standAt ?_)
      refine seg_bind_wrap (wpAny_onRaise ?_)
      rw [(gl _).over]
      rcases turn i m ys σ3 H3 w3 with ⟨stop, qn⟩ | ⟨go, N, hN, step⟩
      · refine wpAny_mono (T.done X rfl rfl rfl hc i _ s3 σ3 H3 X.xe I3 (stat fr3) st3 stop) (fun r s4 ⟨hr, I4⟩ => ?_) fun x s' hx => wpAny_standAt (ee n s₀ x s' hx)
        subst hr
        show Seg _ A R _ n s₀ _ (.pure (.again (.block [] X.env))) _ s4
        refine seg_again rfl ?_
        exact seg_leaf (.ok .next) (k.ok n ys s₀ s4 .next hn ⟨σ3, H3, ⟨acc, cc, r, I4⟩, qn⟩)
      · refine wpAny_mono (T.item X rfl rfl rfl hc i _ s3 σ3 H3 X.xe I3 (stat fr3) st3 go) (fun r s4 ⟨u, hr, h4⟩ => ?_) fun x s' hx => wpAny_standAt (ee n s₀ x s' hx)
        subst hr
        refine seg_bind_wrap ?_
        rw [(gl _).over]
        refine wpAny_mono h4 (fun _ s5 ⟨x, H5, I5, r5, y5, st5, fr5⟩ => ?_) fun x s' hx => ee n s₀ x s' hx
        have I5' := I5.pinned (stat fr5) (T.obj _ _ st5)
        refine seg_bind_wrap ?_
        rw [(gl _).over]
        refine wpAny_mono (hg.run _ s5 σ3 H5 x u _ I5' r5 (step x H5 y5)) (fun _ s6 ⟨σ6, H6, I6, q6⟩ => ?_) fun x s' hx => ee n s₀ x s' hx
        rw [Sem.bind_eq_wrap', Sem.wrap_wrap]
        have gc2 : ∀ kk, GC X S (ip ++ pinsAt fp s5.heap) A (.forLoop tg (.ref it) body [] X.env) (.ret kk none (gd false) (lv []) c p [] :: fs) id := fun kk => by
          obtain ⟨z1, z2, z3, z4, z5, z6, z7⟩ := gl kk
          refine ⟨z1, fun q hq => ?_, z3, z4, z5, z6, z7⟩
          rcases List.mem_append.mp hq with z | z
          · exact z2 q z
          · exact apS q.1 (of_pinsAt z).1
        have back : ∀ {ys' : List V} {σ' : St} {H' : Hp} {s' : Shared}, GI X S (ip ++ pinsAt fp s5.heap) ys' σ' H' s' → GI X S ip ys' σ' H' s' ∧ tn (i + 1) s'.heap ∧ ∀ b ∈ fp, H' b = none := fun {ys' σ' H' s'} hI' => by
          obtain ⟨acc', cc', r', I'⟩ := hI'
          refine ⟨⟨acc', cc', r', Inv.unpinned (pins := (S, lstObj acc' cc') :: ip) I'⟩, T.keep _ _ _ st5 fun b hb o e => ?_, fun b hb => ?_⟩
          · exact (I'.pin (b, o) (List.mem_append_right _ (List.mem_cons_of_mem _ (List.mem_append_right _ (mem_pinsAt hb e))))).1
          · obtain ⟨o, e, d⟩ := T.obj _ _ st5 b hb
            exact (I'.pin (b, o) (List.mem_append_right _ (List.mem_cons_of_mem _ (List.mem_append_right _ (mem_pinsAt hb e))))).2.1
        refine hb.run A S (ip ++ pinsAt fp s5.heap) R n ys s₀ _ _ _ _ _ _ s6 σ6 H6 { D with nx := N, ct := N, bk := D.nx } (gc2 _) hn ⟨fun n' ys' s₀' s7 f hn' hs' => ?_, fun n' s₀' x s7 hx => ?_⟩ ⟨acc, cc, r, I6⟩ q6
        · cases f with
          | next =>
            obtain ⟨σ7, H7, I7, n7⟩ := hs'
            obtain ⟨m', hm, w7⟩ := hN ys' σ7 H7 n7
            obtain ⟨b1, b2, b3⟩ := back I7
            exact seg_again rfl (ih m' hm n' (i + 1) ys' s₀' s7 σ7 H7 hn' w7 b1 b2 b3)
          | cont =>
            obtain ⟨σ7, H7, I7, n7⟩ := hs'
            obtain ⟨m', hm, w7⟩ := hN ys' σ7 H7 n7
            obtain ⟨b1, b2, b3⟩ := back I7
            exact seg_again rfl (ih m' hm n' (i + 1) ys' s₀' s7 σ7 H7 hn' w7 b1 b2 b3)
          | brk =>
            obtain ⟨σ7, H7, I7, n7⟩ := hs'
            exact seg_leaf (.ok .next) (k.ok n' ys' s₀' s7 .next hn' ⟨σ7, H7, (back I7).1, n7⟩)
          | ret u =>
            obtain ⟨v7, σ7, H7, I7, r7, n7⟩ := hs'
            exact seg_leaf (.ok (.ret u)) (k.ok n' ys' s₀' s7 (.ret u) hn' ⟨v7, σ7, H7, (back I7).1, r7, n7⟩)
        · exact ee n' s₀' x s7 hx
  exact loop m0 n 0 ys s₀ s2 σ H2 hn w0 (by exact ⟨acc, cc, r, I2⟩) st2 (fun b hb => (f2 b hb).1)
end
end L2
/-! N2: generators of the text; properties and methods where an object is of one of several classes. -/
namespace Wf
open PySem PySem.Spec PyProof.Rows L2
section
variable {P : Program} {w : World} {K : PySem.W.Frag} {mg : Str → Option Value} {base : Heap}
/-- a generator def of the text -/
theorem Fun.gen {x qual : Str} {st : Stmt} {f : Addr} {fd : FuncData} {N ps : List Str} {k : Nat} {sp : SpG} (F : Fun K x qual st f fd) (S : GScope N ps (defScope st)) (len : ∀ vs H Q E, sp vs H Q E → vs.length = ps.length)
    (hbody : ∀ (cdv : Value) (A : Around) (outer : List Env) (s : Shared) (H : Hp) (vs : List V) (Q : List V → Hp → Prop) (E : XK) (pn : List (Addr × Obj)), Room k (A.deeper (envOfC qual (defScope st) s.heap.objs.size f cdv)) → sp vs H Q E →
      ∃ t, GSs (gcxOf P w K mg base N qual (defScope st) f cdv A outer s H E pn) (defBody st) t ∧ t { nx := fun ys _ H' => Q ys H', rt := fun ys v H' => v = .non ∧ Q ys H' } [] (start N vs) H) : GFn P w K mg base (k + 1) f fd ps sp := by
  obtain ⟨oc, od, kV, doc, pm, an, cdv, ct, osl, rfl, lk, hcd⟩ := F.ex
  exact gfn_of lk hcd S len fun A outer s H vs Q E pn hr hsp => hbody cdv A outer s H vs Q E pn hr hsp
end
/-- over the signs of a text, with yields -/
theorem for_charsG {z : Str} {g : TG} {tb : TGn} {D : GEnds} {ys : List V} {σ : L2.St} {H : Hp} (Pv : Nat → List V → L2.St → Hp → Prop) (first : Pv 0 ys σ H)
    (each : ∀ i c ys σ H, z.cps.toList[i]? = some c → Pv i ys σ H → g (.str ⟨#[c]⟩) σ H fun σ2 H2 => tb { D with nx := Pv (i + 1), ct := Pv (i + 1), bk := D.nx } ys σ2 H2) (last : ∀ ys σ H, Pv z.length ys σ H → D.nx ys σ H) :
    ∃ W : Nat → Nat → List V → L2.St → Hp → Prop, (∃ m, W 0 m ys σ H) ∧ ∀ i m ys σ H, W i m ys σ H → ((Its z).stop i H ∧ D.nx ys σ H) ∨
      ((Its z).go i H ∧ ∃ N : List V → L2.St → Hp → Prop, (∀ ys' σ' H', N ys' σ' H' → ∃ m', m' < m ∧ W (i + 1) m' ys' σ' H') ∧ ∀ x H', (Its z).yld i H x H' → g x σ H' fun σ2 H2 => tb { D with nx := N, ct := N, bk := D.nx } ys σ2 H2) := by
  refine ⟨fun i m ys σ H => m = z.length - i ∧ i ≤ z.length ∧ Pv i ys σ H, ⟨_, rfl, Nat.zero_le _, first⟩, fun i m ys σ H ⟨em, le, p⟩ => ?_⟩
  rcases Nat.lt_or_ge i z.length with lt | ge
  · refine .inr ⟨lt, Pv (i + 1), fun ys' σ' H' p' => ⟨z.length - (i + 1), by omega, rfl, lt, p'⟩, fun x H' ⟨eH, c, hc, ex⟩ => ?_⟩
    subst eH ex
    exact each i c ys σ _ (cps_get ▸ hc) p
  · obtain rfl : i = z.length := by omega
    exact .inl ⟨Nat.le_refl _, last ys σ H p⟩

/-! ### objects of one of several classes -/
def tPropS (S : Addr → Prop) (sp : Addr → Sp) (ta : TE) : TE := fun σ H Q => ta σ H fun x H1 => ∃ a dx fs C, x = .ref a ∧ H1 a = some (.ins C dx fs) ∧ S C ∧ sp C [.ref a] H1 Q L2.E0
def tMethS (S : Addr → Prop) (m : Str) (sp : Addr → Sp) (E : XK) (ta : TE) (t : TA) : TE := fun σ H Q => ta σ H fun x H1 => ∃ a dx fs C, x = .ref a ∧ H1 a = some (.ins C dx fs) ∧ S C ∧ fs.lookup m = none ∧ t σ H1 fun vs H2 => sp C (.ref a :: vs) H2 Q E
def tMethGS (S : Addr → Prop) (m : Str) (sp : Addr → SpG) (E : XK) (ta : TE) (t : TA) : TGen := fun σ H cont => ta σ H fun x H1 => ∃ a dx fs C, x = .ref a ∧ H1 a = some (.ins C dx fs) ∧ S C ∧ fs.lookup m = none ∧ t σ H1 fun vs H2 => sp C (.ref a :: vs) H2 cont E
/-- a generator method by its name -/
structure MtG (P : Program) (w : World) (K : PySem.W.Frag) (mg : Str → Option Value) (base : Heap) (k : Nat) (C : Addr) (x : Str) (ps : List Str) (sp : SpG) : Prop where
  ex : ∃ (g : Addr) (fd : FuncData), Meth K C x g ∧ GFn P w K mg base k g fd ps sp ∧ Binds K fd ps []
section
variable {X : Cx} {S : Addr → Prop} {x : Str} {k : Nat} {ps : List Str} {sp : Addr → Sp} {spg : Addr → SpG} {E : XK} {e o : Expr} {es : List Expr} {pos apos : Pos} {ta : TE} {t : TA} {pl : Sem Bool}
theorem pe_prS (N : ∀ C, S C → Pr X.prog X.w X.K X.mg X.base C x (sp C)) (cl : ∀ C, S C → Cls X.K C) (hr : Room 2 X.A) (he : PE X e ta) (hab : attributeBase e x X.env (eval e X.env) = eval e X.env := by rfl) : PE X (.Attribute e x pos) (tPropS S sp ta) := by
  refine ⟨fun pins s σ H Q I h => ?_⟩
  refine attr_of hab (thn (he.run pins s σ H _ I h) fun u s1 ⟨y, H1, I1, rx, a, dx, fs, C, ex, ea, hS, q⟩ => ?_)
  subst ex
  obtain rfl : u = Value.ref a := rx
  obtain ⟨p, g, fd, hp, F, hb⟩ := (N C hS).ex
  exact getprop_ok (dvs := []) (ds := []) I1 ea (cl C hS) hp F hr hb .nil pass0 q
theorem pe_mtS (N : ∀ C, S C → MtX X.prog X.w X.K X.mg X.base k C x ps (sp C)) (cl : ∀ C, S C → Cls X.K C) (hr : Room k X.A) (hx : Passes (L2.CX X.prog X.w) X E) (he : PE X o ta) (ha : PA X (e :: es) t)
    (ht : eval (.Call (.Attribute o x apos) (e :: es) [] pos) X.env = (do
      let ov ← eval o X.env
      standAt apos.atName
      let (f, first) ← holding [ov] (getMethod ov x pl)
      callWith pos f first (backTo pos (starEach (e :: es) X.env)) (backToKw pos (keywordEach [] X.env))) := by rfl)
    (hst : starEach (e :: es) X.env = (false, eval e X.env) :: starEach es X.env := by rfl) (hpl : (backTo pos (starEach es X.env)).any (·.1) = false := by rfl) : PE X (.Call (.Attribute o x apos) (e :: es) [] pos) (tMethS S x sp E ta t) := by
  refine ⟨fun pins s σ H Q I h => ?_⟩
  refine PySem.W.methodCall_KW (pl := pl) (thn (he.run pins s σ H _ I h) fun u s1 ⟨y, H1, I1, rx, a, dx, fs, C, ex, ea, hS, l, q⟩ => ?_) ht
  subst ex
  obtain rfl : u = Value.ref a := rx
  obtain ⟨g, fd, hm, F, hb⟩ := (N C hS).ex
  refine getmeth_ok I1 ea (cl C hS) hm l ?_
  refine PySem.W.callWith_K (first := [.ref a]) (h₀ := X.base) I.ok.mod.kin hm.kp (thn (ha.run pos pins s1 σ H1 _ I1 q) fun us s2 ⟨vs, H2, I2, r, q2⟩ => ⟨I2.kIn, ?_⟩) hst hpl
  exact run_fn (dvs := []) (ds := []) (us := .ref a :: us) (vs := .ref a :: vs) F hr hb .nil hx I2 (.cons rfl r) (by rw [List.append_nil]; exact q2)
/-- o.m(e, ..) of a generator method -/
theorem pgen_mtS (N : ∀ C, S C → MtG X.prog X.w X.K X.mg X.base k C x ps (spg C)) (cl : ∀ C, S C → Cls X.K C) (hr : Room k X.A) (he : PE X o ta) (ha : PA X (e :: es) t)
    (hst : starEach (e :: es) X.env = (false, eval e X.env) :: starEach es X.env := by rfl) (hpl : (backTo pos (starEach es X.env)).any (·.1) = false := by rfl)
    (ht : eval (.Call (.Attribute o x apos) (e :: es) [] pos) X.env = (do
      let ov ← eval o X.env
      standAt apos.atName
      let (f, first) ← holding [ov] (getMethod ov x pl)
      callWith pos f first (backTo pos (starEach (e :: es) X.env)) (backToKw pos (keywordEach [] X.env))) := by rfl) :
    PGen X k (.Call (.Attribute o x apos) (e :: es) [] pos) (tMethGS S x spg E ta t) E := by
  refine ⟨fun pins s σ H cont I h => ?_⟩
  refine PySem.W.methodCall_KW (pl := pl) (thn (he.run pins s σ H _ I h) fun u s1 ⟨y, H1, I1, rx, a, dx, fs, C, ex, ea, hS, l, q⟩ => ?_) ht
  subst ex
  obtain rfl : u = Value.ref a := rx
  obtain ⟨g, fd, hm, F, hb⟩ := (N C hS).ex
  refine getmeth_ok I1 ea (cl C hS) hm l ?_
  refine PySem.W.callWith_K (first := [.ref a]) (h₀ := X.base) I.ok.mod.kin hm.kp (thn (ha.run pos pins s1 σ H1 _ I1 q) fun us s2 ⟨vs, H2, I2, r, q2⟩ => ⟨I2.kIn, ?_⟩) hst hpl
  exact run_gfn (dvs := []) (ds := []) (us := .ref a :: us) (vs := .ref a :: vs) F hr hb .nil I2 (.cons rfl r) (by rw [List.append_nil]; exact q2)
/-- nothing ends an iterator where nothing is raised -/
theorem noStop0 {K : PySem.W.Frag} : NoStop K L2.E0 := fun _ _ _ h => h.elim
end
/-! ### promises that are matched by their names alone -/
structure Sealed (sp : Sp) (vs : List V) (H : Hp) (Q : VK) (E : XK) : Prop where
  h : sp vs H Q E
structure SealedG (sp : SpG) (vs : List V) (H : Hp) (Q : List V → Hp → Prop) (E : XK) : Prop where
  h : sp vs H Q E
section
variable {P : Program} {w : World} {K : PySem.W.Frag} {mg : Str → Option Value} {base : Heap} {CX : CXT} {k : Nat} {C f : Addr} {fd : FuncData} {x : Str} {ps : List Str} {sp sp' : Sp} {spg : SpG}
theorem MtX.sealed (N : MtX P w K mg base k C x ps sp) : MtX P w K mg base k C x ps (Sealed sp) :=
  let ⟨g, fd, hm, F, hb⟩ := N.ex
  ⟨g, fd, hm, FnOk.imp F fun _ _ _ _ y => y.h, hb⟩
theorem MtG.sealed (N : MtG P w K mg base k C x ps spg) : MtG P w K mg base k C x ps (SealedG spg) :=
  let ⟨g, fd, hm, F, hb⟩ := N.ex
  ⟨g, fd, hm, ⟨fun vs H Q E y => F.len vs H Q E y.h, fun A outer s H args us vs Q E hr e b r y => F.run A outer s H args us vs Q E hr e b r y.h⟩, hb⟩
theorem Dn.sealed (D : Dn P w K mg base k x ps sp) : Dn P w K mg base k x ps (Sealed sp) :=
  let ⟨g, fd, F, r⟩ := D.ex
  ⟨g, fd, FnOk.imp F fun _ _ _ _ y => y.h, r⟩
end
end Wf
/-! N3: a text repeated; defs with a star or with keywords called by their names. -/
namespace Wf
open PySem PySem.Spec PyProof.Rows L2
/-- a text, n times -/
def repS (z : Str) (n : Nat) : Str := ⟨(List.replicate n z.cps.toList).flatten.toArray⟩
theorem repS_cps {z : Str} {n : Nat} : (repS z n).cps.toList = (List.replicate n z.cps.toList).flatten := rfl
theorem repS_len {z : Str} {n : Nat} : (repS z n).length = n * z.length := by
  show ((List.replicate n z.cps.toList).flatten.toArray).size = _
  rw [List.size_toArray, List.length_flatten, List.map_replicate, List.sum_replicate_nat, Array.length_toList]
  rfl
theorem repS_in {z : Str} {n : Nat} {c : Nat} (h : c ∈ (repS z n).cps.toList) : c ∈ z.cps.toList := by
  rw [repS_cps] at h
  obtain ⟨l, hl, hc⟩ := List.mem_flatten.mp h
  rw [(List.mem_replicate.mp hl).2] at hc
  exact hc
theorem rep_arr (its : List Nat) : ∀ (k : Nat) (acc : List Nat), List.foldl (fun x1 x2 => x1 ++ x2) acc.toArray (List.replicate k its.toArray) = (acc ++ (List.replicate k its).flatten).toArray
  | 0, acc => by simp
  | k + 1, acc => by
    have e : acc.toArray ++ its.toArray = (acc ++ its).toArray := by simp
    rw [List.replicate_succ, List.foldl_cons, e, rep_arr its k, List.replicate_succ, List.flatten_cons, List.append_assoc]
def rMulS : R2 := fun x y H Q => ∃ (z : Str) (k : Nat), x = .str z ∧ y = .int (k : Int) ∧ k ≤ 1000 ∧ z.length ≤ 1000 ∧ Q (.str (repS z k)) H
section
variable {X : Cx}
theorem op_mul_str : OpR X (binaryOp .Mult) rMulS := by
  intro pins s σ H x y v u Q I rx ry h
  obtain ⟨z, k, rfl, rfl, hk, hz, q⟩ := h
  obtain ⟨t, rfl⟩ := rx
  obtain ⟨t', rfl⟩ := ry
  refine PySem.P.mul_str ?_ (fun h1 _ => ?_) (fun h1 _ => ?_) ?_
  · rw [decide_eq_false (by omega), decide_eq_false (by omega)]
    rfl
  · have e : (2 ^ 63 - 1 : Int) / (k : Int) ≥ (2 ^ 63 - 1 : Int) / 1000 := by
      have h2 : (0 : Int) < (k : Int) := by omega
      rw [ge_iff_le, Int.le_ediv_iff_mul_le h2]
      have h3 : (k : Int) ≤ 1000 := by omega
      have h4 : (2 ^ 63 - 1 : Int) / 1000 * (k : Int) ≤ (2 ^ 63 - 1 : Int) / 1000 * 1000 := Int.mul_le_mul_of_nonneg_left h3 (by decide)
      exact Int.le_trans h4 (by decide)
    have e2 : (2 ^ 63 - 1 : Int) / 1000 = 9223372036854775 := by decide
    rw [e2] at e
    omega
  · have : z.length * (k : Int).toNat ≤ 1000 * 1000 := Nat.mul_le_mul hz (by rw [Int.toNat_natCast]; exact hk)
    show decide (z.length * (k : Int).toNat > sizeLine) = false
    exact decide_eq_false (by rw [sizeLine_eq]; omega)
  · have fin : ∀ (tk : Tok) (n' : Nat), EP X pins σ Q (.str (repS z k) tk) { s with toks := n' } := fun tk n' => ⟨.str (repS z k), H, I.tok _, ⟨_, rfl⟩, q⟩
    split
    · rename_i h1
      have k0 : k = 0 := by omega
      subst k0
      exact ⟨by decide, ⟨.str (repS z 0), H, I.tok _, ⟨_, rfl⟩, q⟩⟩
    · split
      · rename_i h1 h2
        have e : repS z k = z := by
          rcases Bool.or_eq_true_iff.mp h2 with h | h
          · have k1 : k = 1 := by have := beq_iff_eq.mp h; omega
            subst k1
            show (⟨(List.replicate 1 z.cps.toList).flatten.toArray⟩ : Str) = z
            simp
          · have z0 : z.cps = #[] := Array.eq_empty_of_size_eq_zero (beq_iff_eq.mp h)
            show (⟨(List.replicate k z.cps.toList).flatten.toArray⟩ : Str) = z
            obtain ⟨zc⟩ := z
            have z0 : zc = #[] := z0
            subst z0
            simp
        rw [e] at q
        exact ⟨.str z, H, I, ⟨_, rfl⟩, q⟩
      · have e : (List.foldl (fun x1 x2 => x1 ++ x2) #[] (List.replicate (k : Int).toNat z.cps)) = (List.replicate k z.cps.toList).flatten.toArray := by
          have := rep_arr z.cps.toList k []
          rw [List.nil_append] at this
          exact this
        rw [e]
        refine ⟨?_, ⟨.str (repS z k), H, I.tok _, ⟨_, rfl⟩, q⟩⟩
        show (repS z k).length ≤ sizeLine
        rw [repS_len, sizeLine_eq]
        have : k * z.length ≤ 1000 * 1000 := Nat.mul_le_mul hk hz
        omega
end
/-! ### defs called by their names -/
/-- a def with a star parameter, that may raise -/
structure DnR (P : Program) (w : World) (K : PySem.W.Frag) (mg : Str → Option Value) (base : Heap) (k : Nat) (x : Str) (sp : Sp) : Prop where
  ex : ∃ f : Addr, FnR P w K mg base (L2.CX P w) k f sp ∧ mg x = some (.ref f) ∧ PySem.W.keepIn K (.ref f) = true
/-- a def with keywords: n values by position, the keywords ks -/
structure DnK (P : Program) (w : World) (K : PySem.W.Frag) (mg : Str → Option Value) (base : Heap) (k : Nat) (x : Str) (ps : List Str) (sp : Sp) (n : Nat) (ks : List Str) (gV : List V → List V → List V) : Prop where
  ex : ∃ (f : Addr) (fd : FuncData) (g : List Value → List Value → List Value), FnOk P w K mg base (L2.CX P w) k f fd ps sp ∧ mg x = some (.ref f) ∧ PySem.W.keepIn K (.ref f) = true ∧ KBn K fd ps n ks g gV
/-- a def whose last parameters have defaults -/
structure DnD (P : Program) (w : World) (K : PySem.W.Frag) (mg : Str → Option Value) (base : Heap) (k : Nat) (x : Str) (ps : List Str) (sp : Sp) (dvs : List V) : Prop where
  ex : ∃ (f : Addr) (fd : FuncData) (ds : List Value), FnOk P w K mg base (L2.CX P w) k f fd ps sp ∧ mg x = some (.ref f) ∧ PySem.W.keepIn K (.ref f) = true ∧ Binds K fd ps ds ∧ Vals dvs ds
section
variable {X : Cx} {k n : Nat} {x : Str} {ps ks : List Str} {sp : Sp} {W : WX} {E : XK} {dvs : List V} {gV : List V → List V → List V} {p pos : Pos} {e : Expr} {es : List Expr} {kws : List Keyword} {t tk : TA}
theorem pe_clR (D : DnR X.prog X.w X.K X.mg X.base k x sp) (hr : Room k X.A) (tk : Takes X W) (ha : PA X (e :: es) t) (hg : Gl X x := by rfl) (hdb : (x == ("__debug__" : Str)) = false := by decide)
    (he : starEach (e :: es) X.env = (false, eval e X.env) :: starEach es X.env := by rfl) (hpl : (backTo pos (starEach es X.env)).any (·.1) = false := by rfl) : PE X (.Call (.Name x p) (e :: es) [] pos) (tCallS sp (WE W) t) := by
  obtain ⟨f, F, hm, hk⟩ := D.ex
  refine ⟨fun pins s σ H Q I h => ?_⟩
  refine wpAny_Call_Name_kw (ld_glob I hg hm ?_ hdb)
  refine PySem.W.callWith_K (h₀ := X.base) I.ok.mod.kin hk (thn (ha.run pos pins s σ H _ I h) fun us s1 ⟨vs, H1, I1, r, q⟩ => ⟨I1.kIn, ?_⟩) he hpl
  refine wpAny_call (codeAny_mono (F X.A X.stack s1 H1 us vs Q (WE W σ) hr I1.env0 r q) fun r s' hq => ?_)
  cases r with
  | error e => exact (passAt tk σ) pins H1 s1 e s' I1 hq
  | ok fl =>
    cases fl with
    | ret u => exact I1.after hq
    | next => exact False.elim hq
    | brk => exact False.elim hq
    | cont => exact False.elim hq
theorem pe_clK (D : DnK X.prog X.w X.K X.mg X.base k x ps sp n ks gV) (hr : Room k X.A) (hx : Passes (L2.CX X.prog X.w) X E) (ha : PA X (e :: es) t) (hkw : PK X kws tk) (hg : Gl X x := by rfl) (hall : (backToKw pos (keywordEach kws X.env)).all (·.1.isSome) = true := by rfl) (hks : (backToKw pos (keywordEach kws X.env)).filterMap (·.1) = ks := by rfl)
    (hdb : (x == ("__debug__" : Str)) = false := by decide) (he : starEach (e :: es) X.env = (false, eval e X.env) :: starEach es X.env := by rfl)
    (hpl : ((backTo pos (starEach (e :: es) X.env)).any (·.1) || (backToKw pos (keywordEach kws X.env)).any (·.1.isNone)) = false := by rfl) :
    PE X (.Call (.Name x p) (e :: es) kws pos) (tCallN n ks.length sp gV E t tk) :=
  let ⟨_, _, _, F, hm, hk, hb⟩ := D.ex
  pe_callN F hr hg hm hk hb hx ha hkw hall hks hdb he hpl
theorem pe_clD (D : DnD X.prog X.w X.K X.mg X.base k x ps sp dvs) (hr : Room k X.A) (hx : Passes (L2.CX X.prog X.w) X E) (ha : PA X (e :: es) t) (hg : Gl X x := by rfl) (hdb : (x == ("__debug__" : Str)) = false := by decide)
    (he : starEach (e :: es) X.env = (false, eval e X.env) :: starEach es X.env := by rfl) (hpl : (backTo pos (starEach es X.env)).any (·.1) = false := by rfl) : PE X (.Call (.Name x p) (e :: es) [] pos) (tCall sp dvs E t) :=
  let ⟨_, _, _, F, hm, hk, hb, hd⟩ := D.ex
  pe_call F hr hg hm hk hb hd hx ha hdb he hpl
end
section
variable {P : Program} {w : World} {K : PySem.W.Frag} {mg : Str → Option Value} {base : Heap} {k n : Nat} {x : Str} {ps ks : List Str} {sp : Sp} {dvs : List V} {gV : List V → List V → List V}
theorem DnK.sealed (D : DnK P w K mg base k x ps sp n ks gV) : DnK P w K mg base k x ps (Sealed sp) n ks gV :=
  let ⟨f, fd, g, F, r⟩ := D.ex
  ⟨f, fd, g, FnOk.imp F fun _ _ _ _ y => y.h, r⟩
theorem DnD.sealed (D : DnD P w K mg base k x ps sp dvs) : DnD P w K mg base k x ps (Sealed sp) dvs :=
  let ⟨f, fd, ds, F, r⟩ := D.ex
  ⟨f, fd, ds, FnOk.imp F fun _ _ _ _ y => y.h, r⟩
end
end Wf
/-! lambdas: tables of code objects through a law -/
namespace Wf
open PySem PySem.Spec PyProof.Rows L2
/-! ### tables stay -/
section
variable {T : List (Addr × Str)} {H H' H1 : Hp} {p c : Addr} {n : Nat} {K : PySem.W.Frag}
theorem tabs_same (t : LamX.Tabs T H) (s : Same H H') : LamX.Tabs T H' := LamX.Tabs.ext t s
theorem tabs_but (t : LamX.Tabs T H) (b : But p H H') (hp : Pen H p c n) : LamX.Tabs T H' := fun q hq => by
  obtain ⟨ps, told, three, known⟩ := t q hq
  refine ⟨ps, b _ _ (pen_ne hp told nofun) told, three, fun pos cv hc => ?_⟩
  obtain ⟨cc, e1, e2⟩ := known pos cv hc
  exact ⟨cc, e1, b _ _ (pen_ne hp e2 fun kvs z => by unfold LamX.CodeO at z; cases z) e2⟩
/-- where all but the tables stays, data stays -/
theorem ext_sty (e : LamX.ExtN H H') : Sty K H H' := by
  refine ⟨⟨fun a xs h => ?_, fun a xs h => ?_⟩, fun a ks h => e _ _ h nofun⟩
  · rcases h with (h | ⟨o, h⟩) | h
    · exact .inl (.inl (e _ _ h nofun))
    · exact .inl (.inr ⟨o, e _ _ h nofun⟩)
    · exact .inr h
  · rcases h with (h | ⟨o, h⟩) | h
    · exact .inl (.inl (e _ _ h nofun))
    · exact .inl (.inr ⟨o, e _ _ h nofun⟩)
    · exact .inr h
theorem ext_of (s : Same H H') : LamX.ExtN H H' := LamX.ExtN.of s
theorem Pen.ext (hp : Pen H p c n) (e : LamX.ExtN H H') : Pen H' p c n :=
  let ⟨ns, sp, mo, e1, e2, r⟩ := hp
  ⟨ns, sp, mo, e _ _ e1 nofun, e _ _ e2 nofun, r⟩
end
/-! ### the end of a law whose defs make lambdas: cs, the code objects of the makers with their tables -/
section
variable {P : Program} {w : World} {K : PySem.W.Frag} {mg mb : Str → Option Value} {k : Nat} {fa a : Addr} {fd : FuncData} {x : Str} {sp : Sp} {s : Shared} {us : List Value} {ns : List Int} {cs : List (Addr × Addr)}
/-- a table with nothing in it -/
abbrev noTab : Obj := { cls := .none, data := .fields #[] }
/-- tracked at the law's entry: the script, if it is not the module's own, and the tables -/
def entryT (K : PySem.W.Frag) (a : Addr) (o : Obj) (xs : List V) (ts : List Addr) : Hp := fun b => if b ∈ ts then some (.tbl #[]) else entry K a o xs b
theorem entryT_tab {o : Obj} {xs : List V} {ts : List Addr} {b : Addr} (h : b ∈ ts) : entryT K a o xs ts b = some (.tbl #[]) := if_pos h
theorem entryT_off {o : Obj} {xs : List V} {ts : List Addr} {b : Addr} (h : b ∉ ts) : entryT K a o xs ts b = entry K a o xs b := if_neg h
theorem law_goesT (inK : K.In s.heap) (hm : s.heap.Ns mainGlobals mg) (hb : s.heap.Ns builtinsNs mb) (hbb : ∀ y : Str, y ≠ "__name__" → mb y = bootBuiltins y) (nl : s.heap.NoLimit) (mods : Mods s.heap) (hg : s.gens = #[])
    (empty : ∀ q ∈ cs, s.heap.get? q.2 = some noTab) (offK : ∀ q ∈ cs, K.lookup q.2 = none) (code : ∀ q ∈ cs, PySem.W.CodeHd s.heap q.1 q.2)
    (main : ∃ (bm : Addr) (ob : Obj), mg "__builtins__" = some (.ref bm) ∧ bm ≠ builtinsNs ∧ s.heap.get? bm = some ob ∧ ob.cls = .type "module" ∧ ob.dict = some builtinsNs ∧ ob.data = .plain)
    (ha : s.heap.get? a = some { cls := .type "list", data := .seq us.toArray }) (hi : IntsAre us ns) (hn : ns.length ≤ sizeLine) (room : Room k callerA)
    (F : ∀ base : Heap, K.In base → base.Ns mainGlobals mg → Mods base → (∀ q ∈ cs, LamX.TabB base mg q.1 q.2) → FnG P w K mg base CX0 k fa fd [x] sp) (bt : ∀ (t : Shared) (u : Value), BindsTo t fd ⟨[u], []⟩ [(x, u)])
    (hsp : ∀ H : Hp, (∀ q ∈ cs, H q.2 = some (.tbl #[])) → SqL K H a (ns.map V.int) → sp [.ref a] H (fun v _ => v = .bl true) fun _ _ _ => False) :
    codeAny (model P w) callerA (.call (.ref fa) ⟨[.ref a], []⟩) (fun r t => r = .ok (.ret (.bool true)) ∧ OldK s.heap t.heap ∧ t.os = s.os ∧ AllBare t.gens) s := by
  have vals := vals_ints hi
  obtain ⟨ts, ets⟩ : ∃ ts, ts = cs.map (·.2) := ⟨_, rfl⟩
  have inT : ∀ {q}, q ∈ cs → q.2 ∈ ts := fun {q} h => by rw [ets]; exact List.mem_map.mpr ⟨q, h, rfl⟩
  have ofT : ∀ {b}, b ∈ ts → ∃ q ∈ cs, q.2 = b := fun {b} h => by rw [ets] at h; exact List.mem_map.mp h
  have tabAt : ∀ {b}, b ∈ ts → s.heap.get? b = some noTab := fun {b} h => by
    obtain ⟨q, hq, e⟩ := ofT h
    rw [← e]
    exact empty q hq
  have aOff : a ∉ ts := fun h => by
    have e := tabAt h
    rw [ha] at e
    cases congrArg Obj.data (Option.some.inj e)
  let ob : Obj := { cls := .type "list", data := .seq us.toArray }
  let H : Hp := entryT K a ob (ns.map V.int) ts
  have Ha : H a = entry K a ob (ns.map V.int) a := entryT_off aOff
  have sq : SqL K H a (ns.map V.int) := by
    cases q : K.lookup a with
    | none => exact .inl (.inr ⟨ob, Ha.trans (if_pos ⟨q, rfl⟩)⟩)
    | some o =>
      have e : o = ob := Option.some.inj ((inK a o q).symm.trans ha)
      subst e
      exact .inr ⟨_, us.toArray, _, q, rfl, rfl, rfl, by rw [List.size_toArray, hi.length]; exact hn, by simpa using vals⟩
  have kinds : ∀ {b u}, H b = some u → (b ∈ ts ∧ u = .tbl #[]) ∨ (b ∉ ts ∧ K.lookup a = none ∧ b = a ∧ u = .frz ob (.lst (ns.map V.int))) := fun {b u} h => by
    by_cases t : b ∈ ts
    · exact .inl ⟨t, Option.some.inj (h.symm.trans (entryT_tab t))⟩
    · exact .inr ⟨t, entry_at ((entryT_off t).symm.trans h)⟩
  have ok : HOk P w H s.heap := by
    intro b u q
    rcases kinds q with ⟨t, rfl⟩ | ⟨_, _, rfl, rfl⟩
    · exact tabAt t
    · exact ⟨ha, by rw [List.length_map]; exact hn, us, _, vals, ha⟩
  have low : ∀ {b : Addr} {o : Obj}, s.heap.get? b = some o → H b = none → (hidT s.heap H).get? b = some o := fun q n => hidT_get q n
  -- what is neither a list nor an empty record is not tracked
  have free : ∀ {b : Addr} {o : Obj}, s.heap.get? b = some o → o.data ≠ ob.data → o.data ≠ noTab.data → H b = none := fun {b o} q n1 n2 => by
    cases hu : H b with
    | none => rfl
    | some u =>
      exfalso
      rcases kinds hu with ⟨t, _⟩ | ⟨_, _, e, _⟩
      · exact n2 (congrArg Obj.data (Option.some.inj (q.symm.trans (tabAt t))))
      · rw [e] at q
        exact n1 (congrArg Obj.data (Option.some.inj (q.symm.trans ha)))
  have isD : ∀ {b : Addr} {m : Str → Option Value}, s.heap.Ns b m → (hidT s.heap H).Ns b m := by
    rintro b m ⟨o, es, ep, q, d, r⟩
    exact ⟨o, es, ep, low q (free q (by rw [d]; exact nofun) (by rw [d]; exact nofun)), d, r⟩
  have inB : K.In (hidT s.heap H) := fun b o q => low (inK b o q) (by
    cases hu : H b with
    | none => rfl
    | some u =>
      exfalso
      rcases kinds hu with ⟨t, _⟩ | ⟨_, no, e, _⟩
      · obtain ⟨z, hz, ez⟩ := ofT t
        have := offK z hz
        rw [ez, q] at this
        cases this
      · rw [e, no] at q
        cases q)
  have lim : (hidT s.heap H).NoLimit := by
    obtain ⟨mc, l1, l2⟩ := nl
    exact ⟨mc, isD l1, l2⟩
  have tb : ∀ q ∈ cs, LamX.TabB (hidT s.heap H) mg q.1 q.2 := fun q hq => by
    have eT := empty q hq
    refine ⟨?_, ?_, fun z => ?_⟩
    · obtain ⟨oc, vs, fi, tf, fl, tg, fr, tx, tt, get, c1, dat, at11, more⟩ := code q hq
      refine ⟨oc, vs, fi, tf, fl, tg, fr, tx, tt, low get (free get (by rw [dat]; exact nofun) fun z => ?_), c1, dat, at11, more⟩
      rw [dat] at z
      have z2 : vs = #[] := Data.fields.inj z
      rw [z2] at at11
      cases at11
    · obtain ⟨bm, om, m1, m2, get, m4, m5, m6⟩ := main
      refine ⟨bm, om, m1, m2, fun z => ?_, fun z => ?_, low get (free get (by rw [m6]; exact nofun) (by rw [m6]; exact nofun)), m4, m5, m6⟩
      · obtain ⟨o, es, ep, q, d, _⟩ := hm
        rw [z] at get
        cases q.symm.trans get
        rw [m6] at d
        cases d
      · rw [z] at get
        cases eT.symm.trans get
        cases m6
    · obtain ⟨o, es, ep, g1, d, _⟩ := hm
      rw [z] at g1
      cases eT.symm.trans g1
      cases d
  have env : Env0 P w K mg (hidT s.heap H) callerA [] s H :=
    { frames := rfl, mod := ⟨inB, isD hm, ⟨mb, isD hb, hbb⟩, lim⟩, bs := fun b o q => of_hidT q, bsz := Nat.le_of_eq (hidT_size _ _), funs := trivial, frf := fun b q => absurd (show b ∈ ([] : List Addr) from q) (by simp), hok := ok, bare := .of_eq hg }
  refine codeAny_mono ((F _ inB (isD hm) (mods.imp fun _ h => isD h) tb).goes (us := [.ref a]) (vs := [.ref a]) rfl room env (bt s (.ref a)) (.cons rfl .nil) (hsp H (fun q hq => entryT_tab (inT hq)) sq)) ?_
  intro r t got
  match r, got with
  | .error _, got => exact got.elim
  | .ok .next, got => exact got.elim
  | .ok .brk, got => exact got.elim
  | .ok .cont, got => exact got.elim
  | .ok (.ret u), got =>
    obtain ⟨v, H', os, bare, un, ok', rv, ev⟩ := got
    have ev' : v = .bl true := ev
    subst ev'
    have eu : u = Value.bool true := rv
    subst eu
    have same : ∀ b o, b ∉ ts → s.heap.get? b = some o → t.heap.get? b = some o := fun b o out q => by
      cases hu : H b with
      | none => exact un.keep b o q hu (fun z => absurd (show b ∈ ([] : List Addr) from z) (by simp)) (fun z => absurd (show b ∈ ([] : List Addr) from z) (by simp))
      | some u =>
        rcases kinds hu with ⟨i, _⟩ | ⟨_, _, e, eu⟩
        · exact absurd i out
        · subst eu
          obtain ⟨g1, _⟩ := ok' b _ (un.frzs b ob _ hu)
          rw [e] at q g1 ⊢
          cases ha.symm.trans q
          exact g1
    have longer : ∀ b, b ∈ ts → ∃ ps : Array Value, t.heap.get? b = some { cls := .none, data := .fields ps } := fun b i => by
      obtain ⟨ps, e⟩ := un.tbls b #[] (entryT_tab i)
      exact ⟨_, ok' b _ e⟩
    refine ⟨rfl, ⟨fun b o q => ?_, fun b o q => ?_⟩, os, bare⟩
    · by_cases i : b ∈ ts
      · obtain ⟨ps, e⟩ := longer b i
        obtain ⟨z, hz, ez⟩ := ofT i
        subst ez
        cases (empty z hz).symm.trans q
        exact .inr (.inl ⟨PySem.W.CodeHd.tab (code z hz) (empty z hz) |>.isCodeTable, rfl, #[], ps, rfl, e.trans (by rw [Array.empty_append])⟩)
      · exact .inl (same b o i q)
    · by_cases i : b ∈ ts
      · obtain ⟨ps, e⟩ := longer b i
        exact ⟨_, e⟩
      · exact ⟨o, same b o i q⟩
end
end Wf
/-! Q1: defs that hand lambdas to a def of the text; the def that calls what it got, in a try -/
namespace Wf
open PySem PySem.Spec PyProof.Rows L2
/-- the table of code objects of a code object -/
def codeTab (K : PySem.W.Frag) (c : Addr) : Addr := match K.lookup c with
  | some ⟨_, _, .fields vs, _⟩ => (match vs.toList[11]? with
    | some (Value.ref P) => P
    | _ => 0)
  | _ => 0
/-- no two tables of the list are one -/
def uniqB : List (Addr × Str) → Bool
  | [] => true
  | p :: r => r.all (fun q => !decide (q.1 = p.1)) && uniqB r
theorem uniq_of : ∀ {T : List (Addr × Str)}, uniqB T = true → ∀ p ∈ T, ∀ q ∈ T, p.1 = q.1 → p.2 = q.2
  | [], _, _, h, _, _, _ => absurd h List.not_mem_nil
  | a :: r, u, p, hp, q, hq, e => by
    unfold uniqB at u
    rw [Bool.and_eq_true, List.all_eq_true] at u
    have no : ∀ x ∈ r, x.1 ≠ a.1 := fun x hx z => by
      have := u.1 x hx
      rw [z] at this
      simp at this
    rcases List.mem_cons.mp hp with rfl | mp <;> rcases List.mem_cons.mp hq with rfl | mq
    · rfl
    · exact absurd e.symm (no q mq)
    · exact absurd e (no p mp)
    · exact uniq_of u.2 p mp q mq e
/-- a def that hands lambdas on: its code object is known -/
structure FunL (K : PySem.W.Frag) (x qual : Str) (st : Stmt) (f : Addr) (fd : FuncData) (c : Addr) : Prop where
  ex : ∃ (oc : Value) (od : Option Addr) (kV doc pm : Value) (an : Option Addr) (ct : Value) (osl : Array (Option Value)),
    fd = PySem.W.fnOf x qual (defArgs st) (defBody st) (defScope st) .none kV doc pm an (.ref c) ct ∧ K.lookup f = some ⟨oc, od, .func fd, osl⟩ ∧ PySem.W.codeIn K (.ref c) qual = true
  kp : PySem.W.keepIn K (.ref f) = true
section
variable {P : Program} {w : World} {K : PySem.W.Frag} {mg : Str → Option Value} {base : Heap} {k : Nat} {f c : Addr} {fd : FuncData} {ps : List Str} {sp : Sp}
theorem FnG.plainL {x qual : Str} {st : Stmt} {N : List Str} (F : FunL K x qual st f fd c) (S : FnScope N ps (defScope st)) (many : ∀ {vs H Q E}, sp vs H Q E → vs.length = ps.length)
    (B : ∀ (A : Around) (outer : List Env) (s : Shared) (H : Hp) (vs : List V) (Q : VK) (E : XK), Qt A → Room k (A.deeper (envOfC qual (defScope st) s.heap.objs.size f (.ref c))) → sp vs H Q E →
      ∃ t, PSs (cxOf CX0 P w K mg base N qual (defScope st) f (.ref c) A outer s H E).nox (defBody st) t ∧ t { nx := fun _ H' => Q .non H', rt := Q } (start N vs) H) :
    FnG P w K mg base CX0 (k + 1) f fd ps sp := by
  obtain ⟨oc, od, kV, doc, pm, an, ct, osl, efd, lk, hcd⟩ := F.ex
  subst efd
  refine ⟨many, ?_⟩
  intro A outer s H args us vs Q E hq hr e0 hb r hsp
  have inK : K.In s.heap := e0.mod.kin.keeps (fun b o e => And.left (e0.bs b o e))
  have noL : s.heap.NoLimit := e0.mod.nolimit.keeps (fun b o e => And.left (e0.bs b o e))
  have kinds : ∀ z, z ∈ ps.zip us → (defScope st).names.lookup z.1 = some .local ∨
      ((defScope st).names.lookup z.1 = some .cell ∧ ((cellsFrom (s.heap.objs.size + 1) (defScope st).names []).lookup z.1).isSome = true) := by
    intro z hz
    cases S.par z.1 (List.of_mem_zip hz).1 with
    | inl q => exact Or.inl q
    | inr q => exact Or.inr (And.intro q (PySem.W.cellsFrom_some _ _ _ (Or.inl q)))
  refine codeAny_call_function (Room.depth hr) (inK _ _ lk) rfl S.co S.gen rfl (PySem.W.codeRec_of inK hcd) (hb _ _ _ _ (?_))
  refine wpAny_newFunctionEnv_cells S.kind kinds (fun env he s1 x => ?_)
  subst he
  refine And.intro (noL.keeps x.toInCall.keep) (codeAny_func ?_)
  obtain ⟨t, ht', q⟩ := B A outer s H vs Q E hq (Room.deeper hr _) hsp
  have ht := ht'.nox
  have J := inv_start (CX := CX0) (E := E) (P := P) (w := w) (K := K) (mg := mg) (base := base) S hr.hd e0 (many hsp) r x
  refine wpAny_mono (ht.run [] s1 (start N vs) H _ J q) (fun fl s' got => ?_) (fun e s' got => got)
  cases fl with
  | next =>
    obtain ⟨σ', H', J', q'⟩ := got
    exact ⟨.non, H', J'.os, J'.bare, J'.base, J'.hok, rfl, q'⟩
  | ret u =>
    obtain ⟨v, σ', H', J', rv, q'⟩ := got
    exact ⟨v, H', J'.os, J'.bare, J'.base, J'.hok, rv, q'⟩
  | brk => exact (Exists.elim got fun _ g => Exists.elim g fun _ g' => g'.2).elim
  | cont => exact (Exists.elim got fun _ g => Exists.elim g fun _ g' => g'.2).elim
end
/-! ### the def that calls what it got -/
abbrev TLm := (XK → Hp → VK → Prop) → Hp → VK → Prop
/-- call(), in the context of the def at g -/
def ActR (P : Program) (w : World) (K : PySem.W.Frag) (mg : Str → Option Value) (base : Heap) (A : Around) (stk : List Env) (Ng : List Str) (x : Str) (sg : Scope) (g : Addr) (cdg : Value) (a q : Str) (s : Shared) (H : Hp) (f c' : Addr) (tl : XK → Hp → VK → Prop) : Prop :=
  ∀ (W : WX) (pn : List (Addr × Obj)) (xe : Value → Shared → Prop) (E : XK) (p1 p2 : Pos), Takes ((cxOf C8.CX0 P w K mg base Ng x sg g cdg A stk s H C8.E0).tr pn xe) W → (∀ cls d σ' H', E cls d H' → W cls d σ' H') →
    PE ((cxOf C8.CX0 P w K mg base Ng x sg g cdg A stk s H C8.E0).tr pn xe) (.Call (.Name a p1) [] [] p2) (fun σZ HZ Q => σZ[0]? = some (some (.ref f)) ∧ HZ c' = some (LamX.CodeO c' q) ∧ tl E HZ Q)
structure Cau (P : Program) (w : World) (K : PySem.W.Frag) (mg : Str → Option Value) (base : Heap) (k : Nat) (x a : Str) (TT : TLm) : Prop where
  ex : ∃ (g : Addr) (pg : Arguments) (bg : List Stmt) (sg : Scope) (dV kV doc pm cdv ct oc : Value) (an od : Option Addr) (osl : Array (Option Value)) (Ng : List Str), mg x = some (.ref g) ∧ PySem.W.keepIn K (.ref g) = true ∧
    K.lookup g = some ⟨oc, od, .func (PySem.W.fnOf x x pg bg sg dV kV doc pm an cdv ct), osl⟩ ∧ PySem.W.codeIn K cdv x = true ∧ L2.Binds K (PySem.W.fnOf x x pg bg sg dV kV doc pm an cdv ct) [a] [] ∧ FnScope Ng [a] sg ∧ Ng[0]? = some a ∧ Vis sg a ∧
    ∀ (A : Around) (stk : List Env) (q : Str) (f c' : Addr) (s : Shared) (H : Hp) (Q : VK) (tl : XK → Hp → VK → Prop), Qt A → Room k (A.deeper (envOfC x sg s.heap.objs.size g cdv)) → ActR P w K mg base A stk Ng x sg g cdv a q s H f c' tl →
      H c' = some (LamX.CodeO c' q) → TT tl H Q → ∃ t, PSs (cxOf C8.CX0 P w K mg base Ng x sg g cdv A stk s H C8.E0).nox bg t ∧ t { nx := fun _ H' => Q .non H', rt := Q } (L2.start Ng [.ref f]) H
theorem Cau.of {P : Program} {w : World} {K : PySem.W.Frag} {mg : Str → Option Value} {base : Heap} {k : Nat} {x a : Str} {TT : TLm} {st : Stmt} {g : Addr} {fd : FuncData} {Ng : List Str} (F : Fun K x x st g fd) (S : FnScope Ng [a] (defScope st)) (hm : mg x = some (.ref g)) (hb : L2.Binds K fd [a] []) (h0 : Ng[0]? = some a) (hv : Vis (defScope st) a)
    (G : ∀ (cdv : Value) (A : Around) (stk : List Env) (q : Str) (f c' : Addr) (s : Shared) (H : Hp) (Q : VK) (tl : XK → Hp → VK → Prop), Qt A → Room k (A.deeper (envOfC x (defScope st) s.heap.objs.size g cdv)) → ActR P w K mg base A stk Ng x (defScope st) g cdv a q s H f c' tl →
      H c' = some (LamX.CodeO c' q) → TT tl H Q → ∃ t, PSs (cxOf C8.CX0 P w K mg base Ng x (defScope st) g cdv A stk s H C8.E0).nox (defBody st) t ∧ t { nx := fun _ H' => Q .non H', rt := Q } (L2.start Ng [.ref f]) H) : Cau P w K mg base k x a TT := by
  obtain ⟨oc, od, kV, doc, pm, an, cdv, ct, osl, efd, lk, hcd⟩ := F.ex
  subst efd
  exact ⟨g, _, _, _, _, _, _, _, _, _, _, _, _, _, _, hm, F.kp, lk, hcd, hb, S, h0, hv, G cdv⟩
/-- where an exception comes out the slots are as many as ever -/
theorem takes_len {X : Cx} {W : WX} (tk : Takes X W) : Takes X (fun cls d σ H => σ.length = X.N.length → W cls d σ H) := fun u s' ⟨a, B, sI, pins, σ, H, cls, d, e, I, nb, up, sky, na, os, ag, w⟩ => tk u s' ⟨a, B, sI, pins, σ, H, cls, d, e, I, nb, up, sky, na, os, ag, w I.len⟩
/-- what call() is, where W is wished of its exceptions -/
def tAct (n : Nat) (f c' : Addr) (q : Str) (tl : XK → Hp → VK → Prop) (W : WX) : TE := fun σ H Q => ∃ Ech : XK, (∀ cls d (σ' : L2.St) H', σ'.length = n → Ech cls d H' → W cls d σ' H') ∧ σ[0]? = some (some (.ref f)) ∧ H c' = some (LamX.CodeO c' q) ∧ tl Ech H Q
theorem pe_act0 {P : Program} {w : World} {K : PySem.W.Frag} {mg : Str → Option Value} {base : Heap} {A : Around} {stk : List Env} {Ng : List Str} {x : Str} {sg : Scope} {g : Addr} {cdg : Value} {a q : Str} {s : Shared} {H : Hp} {f c' : Addr} {tl : XK → Hp → VK → Prop} {W : WX} {pn : List (Addr × Obj)} {xe : Value → Shared → Prop} {p1 p2 : Pos}
    (act : ActR P w K mg base A stk Ng x sg g cdg a q s H f c' tl) (tk : Takes ((cxOf C8.CX0 P w K mg base Ng x sg g cdg A stk s H C8.E0).tr pn xe) W) : PE ((cxOf C8.CX0 P w K mg base Ng x sg g cdg A stk s H C8.E0).tr pn xe) (.Call (.Name a p1) [] [] p2) (tAct Ng.length f c' q tl W) :=
  ⟨fun pins s σ H Q I h => let ⟨Ech, hW, h1, h2, h3⟩ := h; (act _ pn xe Ech p1 p2 (takes_len tk) fun cls d σ' H' e l => hW cls d σ' H' l e).run pins s σ H Q I ⟨h1, h2, h3⟩⟩
section
variable {X : Cx}
/-- x(lambda: body) -/
theorem pe_lamG {T : List (Addr × Str)} {TT : TLm} {x a : Str} {c P : Addr} {k : Nat} {params : Arguments} {body : Expr} {scope : Scope} {t : XK → TE} {p lpos pos : Pos} (D : Cau X.prog X.w X.K X.mg X.base k x a TT) (hq : Qt X.A) (hr : Room (k + 1) X.A) (hr2 : Room 2 X.A) {j : Nat} (hrj : Room (j + 2) X.A)
    (TB : LamX.TabB X.base X.mg c P) (hmT : (P, X.env.qual ++ "<lambda>") ∈ T) (hu : uniqB T = true)
    (hbody : ∀ (A : Around) (outer : List Env) (s : Shared) (H : Hp) (E : XK) (f c' : Addr), Room j (A.deeper (LamX.lamEnv X scope s.heap.objs.size f c')) → PE (LamX.lamCx X A outer s H E scope f c') body (t E))
    (hg : Gl X x := by rfl) (hcode : X.env.code = .ref c := by rfl) (L : LamX.LamS X.env.scope scope := by exact LamX.lamS_by (by kernel_rfl)) (hdef : defaultsOf params X.env = ([], []) := by rfl)
    (hbind : ∀ (q : Str) (cl : List (Str × Addr)) (pm cv ctv : Value), bindArgs (PySem.W.kla_fn "<lambda>" q params body scope cl pm cv ctv) ⟨[], []⟩ = pure [] := by exact fun _ _ _ _ _ => rfl)
    (hdb : (x == ("__debug__" : Str)) = false := by decide) (hd : (a == ("__debug__" : Str)) = false := by decide) (hcd : (a == ("__classdict__" : Str)) = false := by decide) :
    PE X (.Call (.Name x p) [.Lambda params body scope lpos] [] pos) (LamX.tLam T TT t) := by
  obtain ⟨g, pg, bg, sg, dV, kV, doc, pm, cdv, ct, oc, an, od, osl, Ng, hm, hk, lk, hcg, hb, Sg, hNg, hva, G⟩ := D.ex
  exact LamX.pe_lamcall hg hm hk lk hcg hb Sg hNg hva (fun f c' s H Q tl act hc h => G X.A X.stack _ f c' s H Q tl hq (hr.deeper _) act hc h) TB hcode hmT (fun p hp e => uniq_of hu p hp _ hmT e) hrj L hdef hbind hbody hdb hd hcd
end
/-! ### methods without a positional argument -/
section
variable {X : Cx} {CX : CXT} {C : Addr} {x : Str} {k : Nat} {ks : List Str} {sp : Sp} {spk : SpK} {E : XK} {o : Expr} {kws : List Keyword} {pos apos : Pos} {ta : TE} {tk : TA} {pl : Sem Bool}
theorem pe_mtR0 (N : MtR X.prog X.w X.K X.mg X.base CX k C x sp) (cl : Cls X.K C) (hr : Room k X.A) (hx : Passes CX X E) (he : PE X o ta)
    (ht : eval (.Call (.Attribute o x apos) [] [] pos) X.env = (do
      let ov ← eval o X.env
      standAt apos.atName
      let (f, first) ← holding [ov] (getMethod ov x pl)
      callWith pos f first (backTo pos (starEach [] X.env)) (backToKw pos (keywordEach [] X.env))) := by rfl) : PE X (.Call (.Attribute o x apos) [] [] pos) (tMethR C x sp E ta tNil) := by
  obtain ⟨g, hm, F⟩ := N.ex
  refine ⟨fun pins s σ H Q I h => ?_⟩
  refine PySem.W.methodCall_KW (pl := pl) (thn (he.run pins s σ H _ I h) fun u s1 ⟨y, H1, I1, rx, a, dx, fs, ex, ea, l, q⟩ => ?_) ht
  subst ex
  obtain rfl : u = Value.ref a := rx
  refine getmeth_ok I1 ea cl hm l ?_
  exact PySem.W.callWith_K0 (first := [.ref a]) I1.kIn hm.kp (wpAny_call (run_fnR (us := [.ref a]) (vs := [.ref a]) F hr hx I1 (.cons rfl .nil) q))
theorem pe_mtK0 (N : MtK X.prog X.w X.K X.mg X.base CX k C x ks spk) (cl : Cls X.K C) (hr : Room k X.A) (hx : Passes CX X E) (he : PE X o ta) (hkw : PK X kws tk)
    (hall : (backToKw pos (keywordEach kws X.env)).all (·.1.isSome) = true := by rfl) (hks : (backToKw pos (keywordEach kws X.env)).filterMap (·.1) = ks := by rfl)
    (hpl : ((backTo pos (starEach [] X.env)).any (·.1) || (backToKw pos (keywordEach kws X.env)).any (·.1.isNone)) = false := by rfl)
    (ht : eval (.Call (.Attribute o x apos) [] kws pos) X.env = (do
      let ov ← eval o X.env
      standAt apos.atName
      let (f, first) ← holding [ov] (getMethod ov x pl)
      callWith pos f first (backTo pos (starEach [] X.env)) (backToKw pos (keywordEach kws X.env))) := by rfl) : PE X (.Call (.Attribute o x apos) [] kws pos) (tMethK C x ks.length spk E ta tNil tk) := by
  obtain ⟨g, hm, F⟩ := N.ex
  refine ⟨fun pins s σ H Q I h => ?_⟩
  refine PySem.W.methodCall_KW (pl := pl) (thn (he.run pins s σ H _ I h) fun u s1 ⟨y, H1, I1, rx, a, dx, fs, ex, ea, l, q⟩ => ?_) ht
  subst ex
  obtain rfl : u = Value.ref a := rx
  refine getmeth_ok I1 ea cl hm l ?_
  refine PySem.W.callWith_KW0 (first := [.ref a]) (h₀ := X.base) I1.ok.mod.kin hm.kp hall (thn (hkw.run pos pins s1 σ H1 _ I1 q) fun ws s3 ⟨zs, H3, I3, rz, l3, q3⟩ => ⟨I3.kIn, ?_⟩) hpl
  rw [hks]
  exact run_fnK (us := [.ref a]) (vs := [.ref a]) F hr hx I3 (.cons rfl .nil) rz l3 q3
end
/-! ### what stays where only tables grow -/
theorem ext_same {H H1 H2 : Hp} (a : LamX.ExtN H H1) (b : Same H1 H2) : LamX.ExtN H H2 := a.trans (ext_of b)
end Wf
/-! Q2: the end of a law whose defs make lambdas -/
namespace Wf
open PySem PySem.Spec PyProof.Rows L2
/-- the code object of a def of the module's top; its table -/
def codeAt (K : PySem.W.Frag) (x : Str) : Addr := match PySem.W.nsIn K mainGlobals x with
  | some (some (Value.ref f)) => (match K.lookup f with
    | some ⟨_, _, .func fd, _⟩ => (match fd.code with
      | Value.ref c => c
      | _ => 0)
    | _ => 0)
  | _ => 0
def tabAt (K : PySem.W.Frag) (x : Str) : Addr := codeTab K (codeAt K x)
/-- xs: the makers, each with the lambdas' qualified name -/
def tabsOf (K : PySem.W.Frag) (xs : List (Str × Str)) : List (Addr × Str) := xs.map fun p => (tabAt K p.1, p.2)
def csOk (K : PySem.W.Frag) (ts : List Addr) (xs : List (Str × Str)) : Bool :=
  (xs.all fun p => decide (tabAt K p.1 ∈ ts) && (K.lookup (tabAt K p.1)).isNone && PySem.W.codeHdIn K (codeAt K p.1) (tabAt K p.1)) && uniqB (tabsOf K xs)
section
variable {x : Str} {k : Nat}
theorem walkT {l : PySem.W.OpenLaw} {n : Nat} {q : Program} {loose : List Str} {XP : (Str → Option Value) → Heap → Prop} {YP : World → Heap → Prop} {d : DefRec} {K : Params → PySem.W.Frag} {xs : List (Str × Str)} {sp : PySem.W.Frag → Sp}
    (no : importsNone q = true) (hn : l.most = some n) (hn2 : n ≤ sizeLine) (hdf : d.params.defaults = []) (room : Room k callerA)
    (hY : ∀ (w : World) (h : Heap), YP w h → ∃ ts : List Addr, (K w.params).In h ∧ (∀ P ∈ ts, h.get? P = some noTab) ∧ csOk (K w.params) ts xs = true)
    (F : ∀ (w : World) (mg : Str → Option Value) (fa : Addr) (h : Heap), (K w.params).In h → h.Ns mainGlobals mg → mg d.name = some (.ref fa) → uniqB (tabsOf (K w.params) xs) = true →
      ∃ fd : FuncData, (∀ (t : Shared) (u : Value), BindsTo t fd ⟨[u], []⟩ [(x, u)]) ∧ ∀ base : Heap, (K w.params).In base → base.Ns mainGlobals mg → Mods base → (∀ p ∈ xs, LamX.TabB base mg (codeAt (K w.params) p.1) (tabAt (K w.params) p.1)) → FnG l.prog w (K w.params) mg base CX0 k fa fd [x] (sp (K w.params)))
    (hsp : ∀ (K : PySem.W.Frag) (H : Hp) (a : Addr) (ns : List Int), ns.length ≤ n → LamX.Tabs (tabsOf K xs) H → SqL K H a (ns.map V.int) → sp K [.ref a] H (fun v _ => v = .bl true) fun _ _ _ => False) :
    PySem.W.WalkO q loose XP YP l.row.toRowW d [] (fun f vs => PySem.call f vs) :=
  Att.attach_call hn hdf fun w s₀ s₁ mg mb fa o pm cd doc a vs ns G Y ho hd hcd hmg hobj hints hlen hg => by
    obtain ⟨ts, inK, empty, ok⟩ := hY w _ Y
    unfold csOk at ok
    rw [Bool.and_eq_true, List.all_eq_true] at ok
    obtain ⟨each, uq⟩ := ok
    have each' : ∀ p ∈ xs, tabAt (K w.params) p.1 ∈ ts ∧ (K w.params).lookup (tabAt (K w.params) p.1) = none ∧ PySem.W.codeHdIn (K w.params) (codeAt (K w.params) p.1) (tabAt (K w.params) p.1) = true := fun p hp => by
      have := each p hp
      simp only [Bool.and_eq_true, decide_eq_true_eq, Option.isNone_iff_eq_none] at this
      exact ⟨this.1.1, this.1.2, this.2⟩
    obtain ⟨_, bt, hF⟩ := F w mg fa _ inK G.T.g hmg uq
    refine law_goesT (cs := xs.map fun p => (codeAt (K w.params) p.1, tabAt (K w.params) p.1)) inK G.T.g G.T.b G.T.builtins G.T.nolimit ((G.T.seer no).mods.imp fun _ h => h.1) hg (fun q hq => ?_) (fun q hq => ?_) (fun q hq => ?_) G.T.bmain hobj hints (Nat.le_trans hlen hn2) room
      (fun base i1 i2 i3 tb => hF base i1 i2 i3 fun p hp => tb _ (List.mem_map.mpr ⟨p, hp, rfl⟩)) bt fun H em sq => hsp (K w.params) H a ns hlen (fun p hp => ?_) sq
    · obtain ⟨p, hp, rfl⟩ := List.mem_map.mp hq
      exact empty _ (each' p hp).1
    · obtain ⟨p, hp, rfl⟩ := List.mem_map.mp hq
      exact (each' p hp).2.1
    · obtain ⟨p, hp, rfl⟩ := List.mem_map.mp hq
      exact PySem.W.codeHd_of_K inK (each' p hp).2.2
    · unfold tabsOf at hp
      obtain ⟨p', hp', rfl⟩ := List.mem_map.mp hp
      exact LamX.TabS.nil (em (codeAt (K w.params) p'.1, tabAt (K w.params) p'.1) (List.mem_map.mpr ⟨p', hp', rfl⟩))
end
end Wf
/-! Q3: xs != [] whatever stands in xs; any data in a list of texts -/
namespace PySem.SeqAt
theorem str_eq_not_dict (b : Str) (u : Tok) (l : Addr) (c : Value) (es : Array DictEntry) (n : Nat) (dd : Option Addr) (sl : Array (Option Value)) :
    Meets (Builtin.«str.__eq__» ⟨[.str b u, .ref l], []⟩) (fun _ R s => s.heap.get? l = some { cls := c, dict := dd, data := .dict es n, slots := sl } ∧ R (.ok (.ret .notImplemented)) s) :=
  .of_wp fun prog w A R s h => by obtain ⟨hp, g, d, tk, os⟩ := s; obtain ⟨hl, h⟩ := h; wp_walk using wpAny_loadPart' hl, wpAny_load hl; exact ⟨_, rfl, h⟩
theorem dict_eq_not_str (l : Addr) (es : Array DictEntry) (n : Nat) (dd : Option Addr) (sl : Array (Option Value)) (b : Str) (u : Tok) :
    Meets (Builtin.«dict.__eq__» ⟨[.ref l, .str b u], []⟩) (fun _ R s => s.heap.get? l = some { cls := .type "dict", dict := dd, data := .dict es n, slots := sl } ∧ R (.ok (.ret .notImplemented)) s) :=
  .of_wp fun prog w A R s h => by
    obtain ⟨hp, g, d, tk, os⟩ := s
    obtain ⟨hl, h⟩ := h
    wp_walk using wpAny_loadPart' hl, wpAny_load hl
    refine wpAny_of_eq F.sub_str_dict ?_
    show wpAny _ _ (if (!false) = true then _ else _) _ _ _
    wp_walk
    exact ⟨_, rfl, h⟩
section
variable {A : Around} {s : Shared}
theorem RcAt.str_dictO {l : Addr} {es : Array DictEntry} {n : Nat} {dd : Option Addr} {sl : Array (Option Value)} (b : Str) (u : Tok) (ho : s.heap.get? l = some { cls := .type "dict", dict := dd, data := .dict es n, slots := sl }) (hu : A.units < cLine) : RcAt A s (.str b u) (.ref l) false := fun prog w E Q h => by
  exact rc_eq_decline_or (k := false) (typeIs_str s b u) ⟨_, ho, rfl⟩ (by decide) F.sub_dict_str F.slot_str_eq F.slot_dict_eq_refl
    (fun _ hq => call_meets F.slot_str_eq (typeIs_str s b u) F.entry_str_eq (F.args_str_eq_2 _ _) (str_eq_not_dict b u l (.type "dict") es n dd sl) ⟨ho, hq⟩)
    (fun _ hq => call_meets F.slot_dict_eq_refl ⟨_, ho, rfl⟩ F.entry_dict_eq (F.args_dict_eq_2 _ _) (dict_eq_not_str l es n dd sl b u) ⟨ho, hq⟩)
    (fun _ hq => wpAny_of_eq (rfl : isSame (.str b u) (.ref l) = pure false) hq) (.inr hu) h
theorem EqAt.str_dictO {l : Addr} {es : Array DictEntry} {n : Nat} {dd : Option Addr} {sl : Array (Option Value)} (b : Str) (u : Tok) (ho : s.heap.get? l = some { cls := .type "dict", dict := dd, data := .dict es n, slots := sl }) (hu : A.units < cLine) : EqAt A s (.str b u) (.ref l) false := fun prog w E Q h => by
  unfold eqBool
  refine wpAny_holding ?_
  refine wpAny_ite_split (fun hab => absurd (eq_of_beq hab) nofun) (fun _ => ?_)
  exact wpAny_bind (RcAt.str_dictO b u ho hu prog w E _ (wpAny_truthy_bool h))
end
end PySem.SeqAt
namespace Wf
open PySem PySem.Spec PyProof.Rows L2
section
variable {X : Cx}
/-- xs != [], whatever stands in xs -/
def rNeE (K : PySem.W.Frag) : R2 := fun x y H Q => ∃ a b xs, x = .ref a ∧ y = .ref b ∧ SqL K H a xs ∧ SqL K H b [] ∧ Q (.bl (!xs.isEmpty)) H
theorem op_neE (hu : X.A.units + 64 < cLine) : OpR X (compareOp .NotEq) (rNeE X.K) := by
  intro pins s σ H x y v u Q I rx ry h
  obtain ⟨a, b, xs, rfl, rfl, ha, hb, q⟩ := h
  obtain rfl : v = Value.ref a := rx
  obtain rfl : u = Value.ref b := ry
  obtain ⟨its, r, pl, _⟩ := I.list ha
  obtain ⟨its2, r2, pl2, _⟩ := I.list hb
  obtain rfl : its2 = [] := by cases r2; rfl
  have hu1 : X.A.units < cLine := by omega
  cases xs with
  | nil =>
    obtain rfl : its = [] := by cases r; rfl
    exact SeqAt.RcNeAt.lists (e := fun _ => true) pl.isList pl2.isList rfl hu1 (fun j h1 _ => absurd h1 (Nat.not_lt_zero j)) _ _ _ _ ⟨.bl _, H, I, rfl, q⟩
  | cons z zs =>
    obtain ⟨i0, is, rfl⟩ : ∃ i0 is, its = i0 :: is := by cases r; exact ⟨_, _, rfl⟩
    exact SeqAt.RcNeAt.lists_lengths pl.isList pl2.isList rfl hu1 _ _ _ _ ⟨.bl _, H, I, rfl, q⟩
/-- a != b of any data that can be held side by side -/
def rNeQ (K : PySem.W.Frag) : R2 := fun x y H Q => ∃ d e, Dq K H x d ∧ Dq K H y e ∧ SeqAt.shaped d = true ∧ SeqAt.shaped e = true ∧ Q (.bl (!PyData.eqv d e)) H
theorem op_neQ (M : Mods X.base) (hu : X.A.units + 64 < cLine) : OpR X (compareOp .NotEq) (rNeQ X.K) := by
  intro pins s σ H x y v u Q I rx ry h
  obtain ⟨d, e, hd, he, sd, se, q⟩ := h
  obtain ⟨as, r1, _⟩ := Dq.reads M I d x v hd rx
  obtain ⟨bs, r2, _⟩ := Dq.reads M I e y u he ry
  exact SeqAt.compareNe_shaped r1 r2 sd se hu ⟨.bl _, H, I, rfl, q⟩
/-- whether a value is one of the texts -/
def isTx (ws : List Str) : PyData → Bool
  | .str w => decide (w ∈ ws)
  | _ => false
def rInT (K : PySem.W.Frag) (neg : Bool) : R2 := fun x y H Q => ∃ p ws d, y = .ref p ∧ SqL K H p (ws.map V.str) ∧ Dq K H x d ∧ Q (.bl (if neg then !isTx ws d else isTx ws d)) H
/-- one text held against a value -/
def txU (d : PyData) (u : Value) : Bool := match u, d with
  | .str w _, .str z => w == z
  | _, _ => false
theorem any_txU {d : PyData} : ∀ {ws : List Str} {us : List Value}, Vals (ws.map V.str) us → us.any (txU d) = isTx ws d
  | [], us, r => by
    cases r
    cases d <;> rfl
  | w :: ws, us, r => by
    cases r with
    | cons a t =>
      obtain ⟨tk, rfl⟩ : ∃ tk, _ = Value.str w tk := a
      rw [List.any_cons, any_txU t]
      cases d with
      | str z =>
        show ((w == z) || decide (z ∈ ws)) = decide (z ∈ w :: ws)
        by_cases e : w = z
        · subst e
          rw [beq_self_eq_true, Bool.true_or]
          exact (decide_eq_true List.mem_cons_self).symm
        · rw [beq_eq_false_iff_ne.mpr e, Bool.false_or]
          exact decide_eq_decide.mpr ⟨List.mem_cons_of_mem _, fun h => (List.mem_cons.mp h).elim (fun z => absurd z.symm e) id⟩
      | _ => rfl
theorem mem_text : ∀ {ws : List Str} {us : List Value}, Vals (ws.map V.str) us → ∀ u ∈ us, ∃ w tk, u = Value.str w tk
  | [], us, r, u, hu => by
    cases r
    cases hu
  | w :: ws, us, r, u, hu => by
    cases r with
    | cons a t =>
      rcases List.mem_cons.mp hu with rfl | m
      · obtain ⟨tk, e⟩ : ∃ tk, _ = Value.str w tk := a
        exact ⟨_, _, e⟩
      · exact mem_text t u m
theorem eqAt_tx {pins : List (Addr × Obj)} {σ : L2.St} {H : Hp} {s : Shared} {A : Around} (I : Inv X pins σ H s) (hu : A.units < cLine) {x : V} {v : Value} {d : PyData} (hd : Dq X.K H x d) (rx : RelV x v) (w : Str) (tk : Tok) : SeqAt.EqAt A s (.str w tk) v (txU d (.str w tk)) := by
  cases hd with
  | non =>
    obtain rfl : v = Value.none := rx
    exact SeqAt.EqAt.str_none w tk
  | bl b =>
    obtain rfl : v = Value.bool b := rx
    exact SeqAt.EqAt.str_bool w tk b
  | int i =>
    obtain ⟨t, rfl⟩ : ∃ t, v = Value.int i t := rx
    exact SeqAt.EqAt.str_int w tk i t
  | str z =>
    obtain ⟨t, rfl⟩ : ∃ t, v = Value.str z t := rx
    exact SeqAt.EqAt.str_str w tk z t
  | lst hs _ =>
    cases rx
    obtain ⟨its, _, pl, _⟩ := I.list hs
    exact SeqAt.EqAt.str_list w tk pl.isList hu
  | tup hs _ =>
    cases rx
    obtain ⟨its, _, pl, _⟩ := I.tuple hs
    exact SeqAt.EqAt.str_tuple w tk pl hu
  | dk ea ek =>
    cases rx
    obtain ⟨_, ns, vs, kv, o, es, ep, ho, hx, hdt, _⟩ := dk_of I.hok ea
    obtain ⟨cls, dd, data, sl⟩ := o
    have e1 : cls = .type "dict" := hx.1
    have e2 : data = .dict es ep := hdt
    subst e1 e2
    exact SeqAt.EqAt.str_dictO w tk ho hu
theorem op_inT (hu : X.A.units + 64 < cLine) : OpR X (compareOp .In) (rInT X.K false) := by
  intro pins s σ H x y v u Q I rx ry h
  obtain ⟨p, ws, d, rfl, hq, hd, q⟩ := h
  obtain rfl : u = Value.ref p := ry
  obtain ⟨its, r, pl, hz⟩ := I.list hq
  refine SeqAt.in_listAt (txU d) pl.isList (fun u hu2 => ?_) ⟨.bl _, H, I, rfl, ?_⟩
  · obtain ⟨w, tk, rfl⟩ := mem_text r u (by simpa using hu2)
    exact eqAt_tx I (show X.A.units + 1 < cLine by omega) hd rx w tk
  · rw [show its.toArray.any (txU d) = its.any (txU d) by simp, any_txU r]
    exact q
theorem op_notInT (hu : X.A.units + 64 < cLine) : OpR X (compareOp .NotIn) (rInT X.K true) := by
  intro pins s σ H x y v u Q I rx ry h
  obtain ⟨p, ws, d, rfl, hq, hd, q⟩ := h
  obtain rfl : u = Value.ref p := ry
  obtain ⟨its, r, pl, hz⟩ := I.list hq
  refine SeqAt.notIn_listAt (txU d) pl.isList (fun u hu2 => ?_) ⟨.bl _, H, I, rfl, ?_⟩
  · obtain ⟨w, tk, rfl⟩ := mem_text r u (by simpa using hu2)
    exact eqAt_tx I (show X.A.units + 1 < cLine by omega) hd rx w tk
  · rw [show its.toArray.any (txU d) = its.any (txU d) by simp, any_txU r]
    exact q
end
end Wf
/-! Q4: except (A, B) as e; the exception object stays known behind the suite -/
namespace Wf
open PySem PySem.Spec PyProof.Rows L2
section
variable {X : Cx} {pins : List (Addr × Obj)} {σ : L2.St} {H : Hp} {s : Shared} {a : Addr} {u : HO}
/-- a thing that is new to the frame is tracked from here on -/
theorem inv_track (I : Inv X pins σ H s) (hn : H a = none) (new : X.s_0.heap.get? a = none) (loc : a ≠ X.env.locals) (nc : ∀ x c, X.env.cells.lookup x = some c → a ≠ c) (pn : ∀ p ∈ X.pn ++ pins, p.1 ≠ a) (ok : ObjOk X.prog X.w (upd H a u) s.heap a u) : Inv X pins σ (upd H a u) s := by
  refine ⟨I.ok, I.os, I.bare, ⟨I.base.keep, I.base.slot, fun b o e n hx => ?_, I.base.there, fun b xs e => ?_, fun b o v e => ?_, fun b ps e => ?_⟩, I.loc, I.cell, (upd_ne loc.symm).trans I.free, fun x c e => (upd_ne (nc x c e).symm).trans (I.freeC x c e), fun p hp => ?_, I.hok.laidN (fun _ _ e => e) hn ok, I.len⟩
  · have ne : b ≠ a := fun z => by rw [z, new] at e; cases e
    exact (upd_ne ne).trans (I.base.free b o e n hx)
  · have h := I.base.tups b xs e
    exact (upd_ne (ne_of_none h hn)).trans h
  · have h := I.base.frzs b o v e
    exact (upd_ne (ne_of_none h hn)).trans h
  · obtain ⟨more, h⟩ := I.base.tbls b ps e
    exact ⟨more, (upd_ne (ne_of_none h hn)).trans h⟩
  · obtain ⟨h1, h2, h3⟩ := I.pin p hp
    exact ⟨h1, (upd_ne (pn p hp)).trans h2, h3⟩
end
/-- an exception object: its class and its dict -/
def exO (a : Addr) (cls : Value) (d : Option Addr) : HO := .ext fun h => ∃ o vs, h.get? a = some o ∧ Zc cls d o ∧ o.data = .fields vs
theorem exO_ok {P : Program} {w : World} {H : Hp} {h : Heap} {a : Addr} {cls : Value} {d : Option Addr} {o : Obj} {vs : Array Value} (e : h.get? a = some o) (z : Zc cls d o) (f : o.data = .fields vs) : ObjOk P w H h a (exO a cls d) :=
  ⟨⟨o, vs, e, z, f⟩, ⟨o, e⟩, fun h1 h2 ⟨o1, vs1, e1, z1, f1⟩ k => ⟨o1, vs1, k _ e1, z1, f1⟩⟩
theorem flying_kept {base h h' : Heap} {l : List Env} {e : Addr} {Z : Obj → Prop} (x : HandSPX.FlyingZ base l e Z h) (k : ∀ b o, h.get? b = some o → h'.get? b = some o) : HandSPX.FlyingZ base l e Z h' := by
  obtain ⟨f1, f2, f3, oe, vs, T, oT, ts, he, hz, hd, h1, hn, hne, hT, hdT, h3⟩ := x
  exact ⟨fun b o q => k b o (f1 b o q), f2, f3.of_keeps fun b o q _ => ⟨o, k b o q, rfl⟩, oe, vs, T, oT, ts, k _ _ he, hz, hd, h1, hn, hne, k _ _ hT, hdT, h3⟩
theorem Landed.kept {X : Cx} {pins : List (Addr × Obj)} {a : Addr} {B : Heap} {sI : Shared} {σ : L2.St} {H : Hp} {cls : Value} {d : Option Addr} {s0 s1 : Shared} {h' : Heap} (L : Landed X pins a B sI σ H cls d s0 s1) (k : ∀ b o, s1.heap.get? b = some o → h'.get? b = some o) : Landed X pins a B sI σ H cls d s0 { s1 with heap := h' } :=
  { inv := L.inv, near := L.near, up := L.up.trans (Heap.UpToSlots.of_keeps k), fly := flying_kept L.fly k, no := L.no, os := L.os, gens := L.gens, loc := L.loc, far := L.far }
/-! ### the test of a clause -/
def TestT (X : Cx) (t : Expr) (cs : List Value) : Prop := ∀ (a : Addr) (pl pins : List (Addr × Obj)) (σ : L2.St) (H : Hp) (s : Shared) (cls : Value) (b : Bool) (Q : Bool → Shared → Prop) (E : Value → Shared → Prop), Inv (X.suite a pl) pins σ H s →
  PySem.W.Looks (model X.prog X.w) s.heap (typeOf (.ref a)) cls → PySem.W.exmAny X.K cls cs = some b → (∀ h' : Heap, (∀ q o, s.heap.get? q = some o → h'.get? q = some o) → Q b { s with heap := h' }) →
  wpAny (model X.prog X.w) (X.A.mark (some (.ref a))) (eval t X.env) (fun c s1 => wpAny (model X.prog X.w) (X.A.mark (some (.ref a))) (excMatches (.ref a) c) Q E s1) E s
theorem names_ld {X : Cx} {x : Str} {c : Value} {a : Addr} {pl pins : List (Addr × Obj)} {σ : L2.St} {H : Hp} {s : Shared} {Q : Value → Shared → Prop} {E : Value → Shared → Prop} {np : Pos} (hc : Names X x c) (S : Inv (X.suite a pl) pins σ H s) (q : Q c s) : wpAny (model X.prog X.w) (X.A.mark (some (.ref a))) (eval (.Name x np) X.env) Q E s :=
  hc.2.2.elim (fun m => ld_glob (X := X.suite a pl) S hc.1 m q hc.2.1) fun ⟨m, v, nn⟩ => ld_blt (X := X.suite a pl) S hc.1 m v q nn hc.2.1
theorem test_one {X : Cx} {x : Str} {c : Value} {np : Pos} (hc : Names X x c) : TestT X (.Name x np) [c] := fun a pl pins σ H s cls b Q E S ty ex q => by
  obtain ⟨b1, d1, e1, e2, rfl⟩ := PySem.W.exmAny_cons ex
  cases (show PySem.W.exmAny X.K cls [] = some false from rfl).symm.trans e2
  rw [Bool.or_false] at q
  exact names_ld hc S ((PySem.W.exm_one (M := model X.prog X.w) S.kIn ty e1).here (q s.heap fun _ _ z => z))
theorem test_two {X : Cx} {x1 x2 : Str} {c1 c2 : Value} {p1 p2 tpos : Pos} {kk : Nat} (n1 : Names X x1 c1) (n2 : Names X x2 c2) : TestT X (.Tuple [.Name x1 p1, .Name x2 p2] kk tpos) [c1, c2] := fun a pl pins σ H s cls b Q E S ty ex q => by
  refine wpAny_Tuple ?_
  refine wpAny_items_cons (names_ld n1 S ?_)
  refine wpAny_items_cons (names_ld n2 S ?_)
  refine wpAny_items_nil ⟨by size_fits, ?_⟩
  have kp : ∀ q o, s.heap.get? q = some o → (s.heap.push { cls := .type "tuple", data := .seq [c1, c2].toArray }).get? q = some o := fun _ _ z => Heap.get?_push_of_some _ z
  exact (PySem.W.exm_tup2 (S.kIn.keeps kp) (ty.keeps kp) (Heap.get?_push_size s.heap rfl) ex).here (q _ kp)
theorem test_three {X : Cx} {x1 x2 x3 : Str} {c1 c2 c3 : Value} {p1 p2 p3 tpos : Pos} {kk : Nat} (n1 : Names X x1 c1) (n2 : Names X x2 c2) (n3 : Names X x3 c3) : TestT X (.Tuple [.Name x1 p1, .Name x2 p2, .Name x3 p3] kk tpos) [c1, c2, c3] := fun a pl pins σ H s cls b Q E S ty ex q => by
  refine wpAny_Tuple ?_
  refine wpAny_items_cons (names_ld n1 S ?_)
  refine wpAny_items_cons (names_ld n2 S ?_)
  refine wpAny_items_cons (names_ld n3 S ?_)
  refine wpAny_items_nil ⟨by size_fits, ?_⟩
  have kp : ∀ q o, s.heap.get? q = some o → (s.heap.push { cls := .type "tuple", data := .seq [c1, c2, c3].toArray }).get? q = some o := fun _ _ z => Heap.get?_push_of_some _ z
  exact (PySem.W.exm_tup3 (S.kIn.keeps kp) (ty.keeps kp) (Heap.get?_push_size s.heap rfl) ex).here (q _ kp)
end Wf
namespace Wf
open PySem PySem.Spec PyProof.Rows L2
/-! ### the clauses; behind a suite that runs through the exception object stays known -/
def wManyT (K : PySem.W.Frag) (Wout : WX) (D : Ends) : List (List Value × Nat × (Addr → Value → Option Addr → TS)) → WX
  | [] => Wout
  | (cs, i, ts) :: r => fun cls d σ H => ∃ b, PySem.W.exmAny K cls cs = some b ∧
      (b = true → ∀ a, H a = none → ts a cls d { nx := fun σ' H' => H' a = none → D.nx (σ'.set i none) (upd H' a (exO a cls d)), rt := D.rt, bk := fun σ' H' => D.bk (σ'.set i none) H', ct := fun σ' H' => D.ct (σ'.set i none) H' } (σ.set i (some (.ref a))) H) ∧
      (b = false → wManyT K Wout D r cls d σ H)
inductive HdsT (X : Cx) : List ExceptHandler → List (List Value × Nat × (Addr → Value → Option Addr → TS)) → Prop
  | nil : HdsT X [] []
  | cons {t : Expr} {n : Str} {cs : List Value} {i : Nat} {ts : Addr → Value → Option Addr → TS} {b₀ : Stmt} {suite : List Stmt} {pos' : Pos} {hds : List ExceptHandler} {l : List (List Value × Nat × (Addr → Value → Option Addr → TS))}
      (hi : X.N[i]? = some n) (hln : X.env.kindOf n = some .local) (hc : TestT X t cs)
      (hsu : ∀ (a : Addr) (oe : Obj) (cls : Value) (d : Option Addr) (pn : List (Addr × Obj)), Zc cls d oe → (∃ vs, oe.data = .fields vs) → PSs (X.suite a ((a, oe) :: pn)) (b₀ :: suite) (ts a cls d)) (r : HdsT X hds l) :
      HdsT X (.ExceptHandler (some t) (some n) (b₀ :: suite) pos' :: hds) ((cs, i, ts) :: l)
section
variable {X : Cx} {pins : List (Addr × Obj)} {D : Ends} {Wout : WX}
theorem Landed.out {a : Addr} {B : Heap} {sI : Shared} {σ : L2.St} {H : Hp} {cls : Value} {d : Option Addr} {s0 s1 : Shared} (L : Landed X pins a B sI σ H cls d s0 s1) (hs : X.stack = X.env :: X.outer) (hf : X.env.frame = some X.env.locals) : sI.heap.get? a = none := by
  cases e : sI.heap.get? a with
  | none => rfl
  | some o =>
    have free : a ∉ frs X.stack := fun inF => by
      rw [hs] at inF
      obtain ⟨v, hv, q⟩ := List.mem_filterMap.mp inF
      rcases List.mem_cons.mp hv with rfl | m
      · rw [hf] at q
        exact L.loc (Option.some.inj q).symm
      · exact L.far (List.mem_filterMap.mpr ⟨v, m, q⟩)
    have := L.near a o e free
    rw [L.fly.2.1] at this
    cases this
theorem clausesT_go {a : Addr} {B : Heap} {sI : Shared} {σ : L2.St} {H : Hp} {cls : Value} {d : Option Addr} {s0 : Shared} (ok : X.Ok) (hs : X.stack = X.env :: X.outer) (hf : X.env.frame = some X.env.locals) (hex : X.ex = []) (hN : X.N.Nodup) (tk : Takes X Wout) :
    ∀ {hds : List ExceptHandler} {l : List (List Value × Nat × (Addr → Value → Option Addr → TS))} {s1 : Shared}, HdsT X hds l → Landed X pins a B sI σ H cls d s0 s1 → wManyT X.K Wout D l cls d σ H → wpAny (model X.prog X.w) X.A (handleBy (.ref a) X.env hds) (SP X pins D) X.xe s1
  | [], _, s1, .nil, L, w => clauses_go (l := []) ok hs hf hN tk .nil L w
  | _ :: _, _, s1, .cons (i := i) (n := n) (pos' := pos') hi hln hc hsu r, L, w => by
    obtain ⟨yes, told, inside, outside⟩ := w
    obtain ⟨oe, vs, at', isZ, isF⟩ := L.fly.there
    have J := L.inv.landed L.near L.fly.1 L.up L.os L.gens
    have S := J.suite at' isF L.no L.loc L.far
    have type1 : PySem.W.Looks (model X.prog X.w) s1.heap (typeOf (.ref a)) cls := fun _ _ _ _ kept q => wpAny_typeOf_ref (kept _ _ at') (by rw [isZ.1]; exact q)
    refine wpAny_handleBy_cons (codeAny_handlers_test ?_) nofun
    refine hc a _ _ _ _ s1 cls yes _ _ S type1 told fun h' kp => ?_
    have L := L.kept kp
    match yes, inside, outside with
    | false, _, outside => exact clausesT_go ok hs hf hex hN tk r L (outside rfl)
    | true, inside, _ =>
      refine codeAny_handlers_suite_as (HandSPX.lands_againZ L.fly fun h4 fly4 up4 => ?_)
      obtain ⟨o4, v4, at4, z4, f4⟩ := fly4.there
      have J4 : Inv X pins σ H { s1 with heap := h4 } := L.inv.landed L.near fly4.1 (L.up.trans up4) L.os L.gens
      have S4 := J4.suite at4 f4 L.no L.loc L.far
      refine store_ok (X := X.suite a ((a, o4) :: (X.pn ++ pins))) (v := .ref a) S4 hN hi (.inl hln) rfl (fun s5 S5 => ?_) (.inr hln)
      refine wpAny_mono ((hsu a o4 cls d (X.pn ++ pins) z4 ⟨_, f4⟩).run [] s5 _ H _ S5 (inside rfl a L.no)) (fun f s6 out => ?_) fun _ _ z => False.elim z
      have close : ∀ {σ6 : L2.St} {H6 : Hp} {Q : Shared → Prop}, Inv X pins σ6 H6 s6 → (∀ s7, Inv X pins (σ6.set i none) H6 s7 → Q s7) →
          wpAny (model X.prog X.w) X.A (do bindName X.env n .none; unbindBehindTheSuite X.env n pos') (fun _ s7 => Q s7) X.xe s6 := fun S6 q => gone_ok S6 hN hi hln q
      match f, out with
      | .next, ⟨σ6, H6, S6, q⟩ =>
        have U := S6.unsuite ok
        have pin := S6.pin (a, o4) (List.mem_append_left _ List.mem_cons_self)
        have gone := L.out hs hf
        refine close (inv_track (u := exO a cls d) U pin.2.1 ?_ L.loc (fun x c e z => ?_) (fun p hp z => ?_) (exO_ok pin.1 z4 f4)) fun _ J7 => ⟨_, _, J7, q pin.2.1⟩
        · cases e : X.s_0.heap.get? a with
          | none => rfl
          | some o =>
            obtain ⟨o', h⟩ := L.inv.base.there a o e (by rw [hex]; exact List.not_mem_nil)
            rw [gone] at h
            cases h
        · obtain ⟨v, hv⟩ := U.cell x c e
          rw [← z] at hv
          obtain ⟨ob, g1, g2⟩ := hv
          have e1 : ob = o4 := Option.some.inj (g1.symm.trans pin.1)
          rw [e1] at g2
          exact pin.2.2.2.2 v g2
        · have h := (L.inv.pin p hp).1
          rw [z, gone] at h
          cases h
      | .brk, ⟨_, _, S6, q⟩ => exact close (S6.unsuite ok) fun _ J7 => ⟨_, _, J7, q⟩
      | .cont, ⟨_, _, S6, q⟩ => exact close (S6.unsuite ok) fun _ J7 => ⟨_, _, J7, q⟩
      | .ret _, ⟨_, _, _, S6, rel, q⟩ => exact close (S6.unsuite ok) fun _ J7 => ⟨_, _, _, J7, rel, q⟩
/-- an exception that comes out of the body is noted, lands, and is held against the clauses -/
theorem caughtT_go {body : List Stmt} {hds : List ExceptHandler} {l : List (List Value × Nat × (Addr → Value → Option Addr → TS))} {u : Value} {s' : Shared} {pn : List (Addr × Obj)} {xe : Value → Shared → Prop} (ok : X.Ok) (hs : X.stack = X.env :: X.outer) (hf : X.env.frame = some X.env.locals) (hex : X.ex = []) (hN : X.N.Nodup) (tk : Takes X Wout) (hh : HdsT X hds l)
    (air : XE (X.tr (X.pn ++ pins) xe) (wManyT X.K Wout D l) u s') (back : ∀ {pins' : List (Addr × Obj)} {σ : L2.St} {H : Hp} {s : Shared}, Inv (X.tr (X.pn ++ pins) xe) pins' σ H s → Inv X pins σ H s) :
    wpAny (model X.prog X.w) X.A (noteFrame u X.env) (fun _ s₂ => wpAny (model X.prog X.w) X.A (setFlight u none) (fun _ s₃ => wpAny (model X.prog X.w) X.A (handleBy u X.env hds) (SP X pins D) X.xe s₃) X.xe s₂) X.xe s' := by
  obtain ⟨a, B, sI, pins2, σ, H, cls, d, rfl, J2, near, up, sky, no, os, gens, w⟩ := air
  have J := back J2
  have sky2 : Sky B (X.env :: X.outer) a (Zc cls d) X.env.locals s'.heap := by
    rw [← hs]
    exact sky
  have frames : X.A.frames = some (X.env :: X.outer) := by rw [ok.frames, hs]
  refine Sky.land Zc.steady frames hf sky2 fun h3 fly up3 => ?_
  obtain ⟨oe, vs, at', _, isF⟩ := fly.there
  have free : a ∉ frs (X.env :: X.outer) := fun inFrames => by
    obtain ⟨_, ob, at2, nf⟩ := fly.2.2.1.mem inFrames
    cases at'.symm.trans at2
    exact nf _ isF
  exact clausesT_go (s0 := s') ok hs hf hex hN tk hh {
    inv := J, near := near, up := up.trans up3, fly := fly, no := no, os := os, gens := gens
    loc := fun z => free (List.mem_filterMap.mpr ⟨X.env, List.mem_cons_self, by rw [hf, z]⟩)
    far := fun inFs => let ⟨e, he, q⟩ := List.mem_filterMap.mp inFs; free (List.mem_filterMap.mpr ⟨e, List.mem_cons_of_mem _ he, q⟩) } w
variable {body : List Stmt} {h₀ : ExceptHandler} {hds : List ExceptHandler} {l : List (List Value × Nat × (Addr → Value → Option Addr → TS))} {pos : Pos} {tb : WX → TS}
/-- try: .. except (A, B) as e: ..; the exception object stays known behind the suite -/
theorem ps_try_kept (hs : X.stack = X.env :: X.outer) (hf : X.env.frame = some X.env.locals) (hex : X.ex = []) (hN : X.N.Nodup) (tk : Takes X Wout)
    (hb : ∀ (W : WX) (pn : List (Addr × Obj)) (xe : Value → Shared → Prop), Takes (X.tr pn xe) W → PassesOwn (model X.prog X.w) X.A X.env xe → PSs (X.tr pn xe) body (tb W))
    (hh : HdsT X (h₀ :: hds) l) : PS X (.Try body (h₀ :: hds) [] [] pos) (fun D σ H => tb (wManyT X.K Wout D l) D σ H) := .mk fun pins s σ H D I h => by
  have ok := I.ok
  let xe : Value → Shared → Prop := fun u s₁ => wpAny (model X.prog X.w) X.A (noteFrame u X.env) (fun _ s₂ => wpAny (model X.prog X.w) X.A (setFlight u none) (fun _ s₃ => wpAny (model X.prog X.w) X.A (handleBy u X.env (h₀ :: hds)) (SP X pins D) X.xe s₃) X.xe s₂) X.xe s₁
  have caught : Takes (X.tr (X.pn ++ pins) xe) (wManyT X.K Wout D l) := fun u s2 air => caughtT_go (pn := []) (body := body) ok hs hf hex hN tk hh air fun J => J.ofTry ok
  refine wpAny_Try_except (wpAny_mono ((hb _ _ xe caught PassesOwn.looking).run [] s σ H D (I.toTry _) h) (fun f s1 out => ?_) fun _ _ z => z)
  match f, out with
  | .next, ⟨_, _, J, q⟩ => exact wpAny_execs_nil ⟨_, _, J.ofTry ok, q⟩
  | .brk, ⟨_, _, J, q⟩ => exact ⟨_, _, J.ofTry ok, q⟩
  | .cont, ⟨_, _, J, q⟩ => exact ⟨_, _, J.ofTry ok, q⟩
  | .ret _, ⟨_, _, _, J, rel, q⟩ => exact ⟨_, _, _, J.ofTry ok, rel, q⟩
end
end Wf
namespace Wf
open PySem PySem.Spec PyProof.Rows L2
/-! ### a kept exception: isinstance(e, T), e.f -/
theorem kept_at {X : Cx} {pins : List (Addr × Obj)} {σ : L2.St} {H : Hp} {s : Shared} {a D : Addr} {d : Option Addr} (e0 : H a = some (exO a (.ref D) d)) (I : Inv X pins σ H s) :
    ∃ oe : Obj, (d = none → PySem.W.InstAt s.heap a oe D none) ∧ ∀ dd fs, d = some dd → H dd = some (.xd fs) → ∃ (od : Obj) (m : Str → Option Value), PySem.W.InstAt s.heap a oe D (some od) ∧ (∀ n, RelO (fs.lookup n) (m n)) ∧ ∀ n, PySem.W.lookIn n od = some (m n) := by
  obtain ⟨⟨oe, vs, there, ⟨isC, isD⟩, hv⟩, _, _⟩ := I.hok a _ e0
  have plain : PySem.W.notCls oe = true := by
    unfold PySem.W.notCls
    rw [hv] <;> rfl
  refine ⟨oe, fun e => ⟨there, isC, plain, by rw [isD, e]; trivial⟩, fun dd fs e at' => ?_⟩
  obtain ⟨m, ns, rel⟩ := (show ObjOk X.prog X.w H s.heap dd (.xd fs) from I.hok dd _ at')
  obtain ⟨od, hod, look⟩ := lookIn_ns ns
  exact ⟨od, m, ⟨there, isC, plain, by rw [isD, e]; exact hod⟩, rel, look⟩
/-- isinstance of it: T a built-in class or one of the text -/
def rIsK (K : PySem.W.Frag) : List V → Hp → VK → Prop := fun xs H Q => ∃ (a D : Addr) (d : Option Addr) (b : Bool), H a = some (exO a (.ref D) d) ∧ ExcC K D ∧ DOk H d ∧ Q (.bl b) H ∧
  ((∃ T : String, xs = [.ref a, .ty T] ∧ PySem.W.kitOne K (.ref D) (.type T) = some b) ∨ ∃ C : Addr, xs = [.ref a, .ref C] ∧ PySem.W.kitOne K (.ref D) (.ref C) = some b)
theorem call_isK {X : Cx} : CallR X (.builtin "isinstance") (rIsK X.K) := by
  intro pins s σ H xs us Q I r h
  obtain ⟨a, D, d, b, e0, C, hd, q, h⟩ := h
  obtain ⟨oe, at0, at1⟩ := kept_at e0 I
  rcases h with ⟨T, rfl, e⟩ | ⟨C2, rfl, e⟩ <;> obtain ⟨_, _, rfl, r1, r2⟩ := vals2 r <;> cases r1 <;> cases r2
  all_goals
    rcases hd with e1 | ⟨dd, fs, e1, ed⟩
    · exact PySem.W.kia_one (PySem.W.kitx_exc (ex_isSome C.hd) C.hg C.hk C.hs C.ha C.hn C.ht C.hm) I.kIn (at0 e1) e (fun z => nomatch z) fun tk => ⟨.bl b, H, I.tok tk, rfl, q⟩
    · obtain ⟨od, _, J, _⟩ := at1 dd fs e1 ed
      exact PySem.W.kia_one (PySem.W.kitx_exc (ex_isSome C.hd) C.hg C.hk C.hs C.ha C.hn C.ht C.hm) I.kIn J e (fun z => nomatch z) fun tk => ⟨.bl b, H, I.tok tk, rfl, q⟩
def tXk (K : PySem.W.Frag) (f : Str) (te : TE) : TE := fun σ H Q => te σ H fun x H1 => ∃ (a C dd : Addr) (fs : List (Str × V)) (v : V), x = .ref a ∧ H1 a = some (exO a (.ref C) (some dd)) ∧ ExcC K C ∧ PySem.W.findIn K (.ref C) f = some none ∧ H1 dd = some (.xd fs) ∧ fs.lookup f = some v ∧ Q v H1
theorem pe_xk {X : Cx} {e : Expr} {te : TE} {pos : Pos} {n : Str} (he : PE X e te) (hb : attributeBase e n X.env (eval e X.env) = eval e X.env := by rfl) :
    PE X (.Attribute e n pos) (tXk X.K n te) := .mk fun pins s σ H Q I h => attr_of hb (thn (he.run pins s σ H _ I h) fun _ s1 ⟨_, H1, I1, rx, a, C, dd, fs, v, ex, e0, T, hno, ea, l, q⟩ => by
  cases ex
  cases rx
  obtain ⟨oe, _, at1⟩ := kept_at e0 I1
  obtain ⟨od, m, J, rel, look⟩ := at1 dd fs rfl ea
  have rn := rel n
  rw [l] at rn
  obtain ⟨u, hu, ru⟩ := RelO.some_of (v := v) (o := m n) rn
  exact HandSPX.exc_get I1.kIn J T.hg T.hk T.hs (PySem.W.findObj_own T.hd hno rfl (by rw [look, hu])) (handed_of ru) ⟨v, H1, I1.tok _, ru, q⟩)
end Wf
namespace Wf
open PySem PySem.Spec PyProof.Rows L2
/-- a class of the text by its name -/
theorem pe_cls {X : Cx} {x : Str} {C : Addr} {pos : Pos} (hm : X.mg x = some (.ref C)) (hg : Gl X x := by rfl) (hd : (x == ("__debug__" : Str)) = false := by decide) : PE X (.Name x pos) (tC (.ref C)) := pe_glob (v := .ref C) hg hm rfl hd
theorem any_two {K : PySem.W.Frag} {cls c1 c2 : Value} {b1 b2 : Bool} (h1 : PySem.W.exmOne K cls c1 = some b1) (h2 : PySem.W.exmOne K cls c2 = some b2) : PySem.W.exmAny K cls [c1, c2] = some (b1 || b2) := by
  unfold PySem.W.exmAny PySem.W.exmAny PySem.W.exmAny
  rw [h1, h2]
  cases b2 <;> rfl
theorem any_one {K : PySem.W.Frag} {cls c1 : Value} {b1 : Bool} (h1 : PySem.W.exmOne K cls c1 = some b1) : PySem.W.exmAny K cls [c1] = some b1 := by
  unfold PySem.W.exmAny PySem.W.exmAny
  rw [h1]
  cases b1 <;> rfl
end Wf
/-! Q5: list.count over flat items -/
namespace Wf
open PySem PySem.Spec PyProof.Rows L2
section
variable {X : Cx}
def rCntF (K : PySem.W.Frag) : V → List V → Hp → VK → Prop := fun x xs H Q => ∃ (a : Addr) (ys : List V) (y : V), x = .ref a ∧ xs = [y] ∧ SqL K H a ys ∧ flatV y = true ∧ ys.all flatV = true ∧ Q (.int (ys.countP fun z => eqV z y : Nat)) H
theorem mt_countF : L2.MtR X "list.count" (rCntF X.K) := by
  intro pins s σ H x xs v us Q I rx rxs h
  obtain ⟨a, ys, y, rfl, rfl, hs, fy, fys, q⟩ := h
  cases rx
  obtain ⟨u, rfl, ru⟩ := rxs.one
  obtain ⟨its, rv, ⟨⟨cls, dd, data, sl⟩, n, ho, hc, hdn, hd⟩, hlen⟩ := I.list hs
  simp only at hc hd
  subst hc hd
  have hvl := rv.length
  have em : its.map (eqU y) = ys.map (fun z => eqV z y) := by
    refine List.ext_getElem (by rw [List.length_map, List.length_map]; omega) fun m h1 h2 => ?_
    rw [List.getElem_map, List.getElem_map]
    have hmy : m < ys.length := by rwa [List.length_map] at h2
    obtain ⟨u2, hu2, ru2⟩ := rv.get (List.getElem?_eq_getElem hmy)
    obtain ⟨_, hme⟩ := List.getElem?_eq_some_iff.mp hu2
    rw [hme]
    exact eqU_of ru2 (flat_at fys (List.getElem?_eq_getElem hmy))
  have ec : its.countP (eqU y) = ys.countP fun z => eqV z y := by
    have h1 : (its.map (eqU y)).countP id = its.countP (eqU y) := List.countP_map
    have h2 : (ys.map fun z => eqV z y).countP id = ys.countP fun z => eqV z y := List.countP_map
    rw [← h1, ← h2, em]
  refine call_meets PySem.F.slot_list_count ⟨_, ho, rfl⟩ PySem.F.entry_list_count (PySem.F.args_list_count_2 _ _)
    (SeqAt.list_countAt a its.toArray n dd sl u (eqU y)) ⟨ho, fun u' hu' => mem_eqAt ru fy rv fys u' (by simpa using hu'), ?_⟩
  refine ⟨.int ((ys.countP fun z => eqV z y) : Nat), H, I.tok _, ⟨s.toks, ?_⟩, q⟩
  show Value.int ((its.toArray.toList.countP (eqU y) : Nat) : Int) s.toks = Value.int (((ys.countP fun z => eqV z y) : Nat) : Int) s.toks
  rw [show its.toArray.toList = its from rfl, ec]
end
end Wf
/-! T1: dicts whose keys are tuples of states, None among them -/
namespace Wf
open PySem PySem.Spec PyProof.Rows L2
theorem no_beq {x : String} : ¬ ((some (Value.builtin x) == some Value.none) = true) := by
  rw [beq_builtin_none]
  exact Bool.false_ne_true
/-- the hash of None -/
theorem hash_none {prog : Program} {w : World} {A : Around} {E : Value → Shared → Prop} {s : Shared} {Q : Int → Shared → Prop} (h : Q 0xFCA86420 { s with toks := s.toks + 1 }) : wpAny (model prog w) A (pyHash .none) Q E s := by
  have ht := typeIs_none s
  have sl := PySem.F.slot_NoneType_hash
  have big : (decide (-(2 : Int) ^ 63 ≤ 0xFCA86420) && decide ((0xFCA86420 : Int) < 2 ^ 63)) = true := by decide
  have room : ([Value.none].any Value.onHeap) = false := rfl
  unfold pyHash
  refine wpAny_bind ?_
  rw [cRoomFor, if_neg (by rw [room]; exact Bool.false_ne_true)]
  refine wpAny_pure (wpAny_bind (wpAny_specialOf ht sl.lookup ?_))
  rw [if_neg no_beq]
  refine wpAny_bind (wpAny_specialOf ht sl.lookup ?_)
  show wpAny _ _ (callSpecialIfBoundUnlessNone? .none "__hash__" _ >>= _) Q E s
  refine wpAny_bind (wpAny_callSpecialIfBoundUnlessNone?_slot ht sl (wpAny_call_entry sl ht PySem.F.entry_NoneType_hash (show wpAny _ _ (do ret (← mkInt 0xFCA86420)) _ _ s from wpAny_ret_mkInt ?_) (PySem.F.args_NoneType_hash_1 _)))
  show wpAny _ _ (if (decide (-(2 : Int) ^ 63 ≤ 0xFCA86420) && decide ((0xFCA86420 : Int) < 2 ^ 63)) = true then _ else _) Q E _
  rw [if_pos big]
  exact wpAny_pure h
def okIs : Option Nat → Value → Bool
  | none, .none => true
  | some n, .int j _ => decide (j = (n : Int))
  | _, _ => false
def okH : Option Nat → Int
  | none => 0xFCA86420
  | some n => hashInt n
theorem okIs_shape {k : Option Nat} {v : Value} (h : okIs k v = true) : (k = none ∧ v = .none) ∨ ∃ (n : Nat) (t : Tok), k = some n ∧ v = .int (n : Int) t := by
  cases k with
  | none => cases v <;> first | exact .inl ⟨rfl, rfl⟩ | cases h
  | some n => cases v <;> first | exact .inr ⟨n, _, rfl, by rw [of_decide_eq_true h]⟩ | cases h
/-- whole numbers and None as keys -/
def optKind (P : Program) (w : World) : PySem.KeyKind P w (Option Nat) where
  is := okIs
  hash := okH
  inj := fun v a b ha hb => by
    rcases okIs_shape ha with ⟨rfl, rfl⟩ | ⟨n, t, rfl, rfl⟩ <;> rcases okIs_shape hb with ⟨rfl, e⟩ | ⟨m, u, rfl, e⟩
    · rfl
    · cases e
    · cases e
    · injection e with e1 _
      rw [Int.ofNat.inj e1]
  byValue := fun k v h => by rcases okIs_shape h with ⟨rfl, rfl⟩ | ⟨n, t, rfl, rfl⟩ <;> rfl
  pyHash := fun hv h => by
    rcases okIs_shape hv with ⟨rfl, rfl⟩ | ⟨n, t, rfl, rfl⟩
    · exact hash_none h
    · exact wpAny_pyHash_int h
  eqBool := fun hu hv h => by
    rcases okIs_shape hu with ⟨rfl, rfl⟩ | ⟨n, t, rfl, rfl⟩ <;> rcases okIs_shape hv with ⟨rfl, rfl⟩ | ⟨m, u, rfl, rfl⟩
    · unfold PySem.eqBool
      refine wpAny_holding (wpAny_ite_split (fun _ => wpAny_bind (wpAny_rule (wpAny_pure h))) fun n => absurd ?_ n)
      rfl
    · exact SeqAt.EqAt.none_int _ _ _ _ _ _ h
    · exact SeqAt.EqAt.int_none _ _ _ _ _ _ h
    · refine wpAny_eqBool_int ?_
      rw [show ((n : Int) == (m : Int)) = decide (some n = some m) from by
        rw [Bool.eq_iff_iff, beq_iff_eq, decide_eq_true_iff]
        exact ⟨fun e => by rw [Int.ofNat.inj e], fun e => by cases e; rfl⟩]
      exact h
  «strs» := fun k x t v h => by cases k <;> cases h
/-! ### the dict as it stands -/
abbrev KO := List (Option Nat)
abbrev OP : List (KO × Addr × V) → List (KO × Addr × Value) → Prop := Paired fun p q => p.1 = q.1 ∧ p.2.1 = q.2.1 ∧ RelV p.2.2 q.2.2
/-- the dict at a: keys, the places of their tuples, values -/
def dtoF (P : Program) (w : World) (a : Addr) (kvs : List (KO × Addr × V)) (h : Heap) : Prop := kvs.length ≤ sizeLine ∧ (a == sysModules) = false ∧
  ∃ xs, OP kvs xs ∧ ∃ o es ep, h.get? a = some o ∧ o.ExactDict ∧ o.data = .dict es ep ∧ es.toList = xs.map (entryOfKey (tupleKind (optKind P w))) ∧ (xs.map (·.1)).Nodup
def dto (P : Program) (w : World) (a : Addr) (kvs : List (KO × Addr × V)) : HO := .ext (dtoF P w a kvs)
/-- .. and its keys stand where they stood -/
structure DTat (P : Program) (w : World) (H : Hp) (a : Addr) (kvs : List (KO × Addr × V)) : Prop where
  e : H a = some (dto P w a kvs)
  k : ∀ p ∈ kvs, H p.2.1 = some (.tup (p.1.map oV))
def getO (kvs : List (KO × Addr × V)) (k : KO) : Option V := (kvs.find? fun p => decide (p.1 = k)).map (·.2.2)
def putO (kvs : List (KO × Addr × V)) (k : KO) (b : Addr) (v : V) : List (KO × Addr × V) := if (getO kvs k).isSome then kvs.map (fun p => if p.1 = k then (p.1, p.2.1, v) else p) else kvs ++ [(k, b, v)]
theorem OP.get {kvs : List (KO × Addr × V)} {xs : List (KO × Addr × Value)} (r : OP kvs xs) (k : KO) : RelO (getO kvs k) ((atKey xs k).map (·.2)) := by
  unfold getO atKey
  induction r with
  | nil => exact True.intro
  | @cons p q ps qs h t ih =>
    obtain ⟨h1, h2, h3⟩ := h
    rw [List.find?_cons, List.find?_cons, ← h1]
    cases decide (p.1 = k) with
    | true => exact h3
    | false => exact ih
theorem OP.repl {kvs : List (KO × Addr × V)} {xs : List (KO × Addr × Value)} (r : OP kvs xs) {k : KO} {y : V} {u : Value} (ry : RelV y u) : OP (kvs.map fun p => if p.1 = k then (p.1, p.2.1, y) else p) (xs.map (putAt k u)) := by
  induction r with
  | nil => exact .nil
  | @cons p q ps qs h t ih =>
    obtain ⟨h1, h2, h3⟩ := h
    refine .cons ?_ ih
    unfold putAt
    dsimp only
    by_cases z : p.1 = k
    · rw [if_pos z, if_pos (h1.symm.trans z)]
      exact ⟨h1, h2, ry⟩
    · rw [if_neg z, if_neg fun y => z (h1.trans y)]
      exact ⟨h1, h2, h3⟩
theorem OP.put {kvs : List (KO × Addr × V)} {xs : List (KO × Addr × Value)} (r : OP kvs xs) (k : KO) (b : Addr) {y : V} {u : Value} (ry : RelV y u) : OP (putO kvs k b y) (storedH xs k b u) := by
  have e : (getO kvs k).isSome = (atKey xs k).isSome := by
    rw [(r.get k).isSome_eq, Option.isSome_map]
  unfold putO storedH
  rw [e]
  cases (atKey xs k).isSome with
  | false => exact Paired.snoc r ⟨rfl, rfl, ry⟩
  | true => exact r.repl ry
theorem putO_len {kvs : List (KO × Addr × V)} {k : KO} {b : Addr} {v : V} : (putO kvs k b v).length ≤ kvs.length + 1 := by
  unfold putO
  split
  · rw [List.length_map]
    omega
  · rw [List.length_append]
    exact Nat.le_refl _
theorem items_opt {ks : KO} {its : List Value} (r : Vals (ks.map oV) its) {P : Program} {w : World} : ItemsAre (optKind P w) ks its := by
  induction ks generalizing its with
  | nil =>
    cases r
    exact .nil
  | cons k ks ih =>
    cases r with
    | @cons _ u _ _ h t =>
      refine .cons ?_ (ih t)
      cases k with
      | none =>
        have e : u = .none := h
        subst e
        rfl
      | some n =>
        obtain ⟨tk, e⟩ := (show ∃ t, u = Value.int (n : Int) t from h)
        subst e
        exact decide_eq_true rfl
section
variable {X : Cx} {pins : List (Addr × Obj)} {σ : L2.St} {H : Hp} {s : Shared} {a b : Addr} {kvs : List (KO × Addr × V)} {k : KO} {v : V} {r : Value} {A : Around} {E : Value → Shared → Prop}
theorem opt_key {P : Program} {w : World} {h : Heap} (ok : HOk P w H h) (e : H b = some (.tup (k.map oV))) : (tupleKind (optKind P w)).is h k b := by
  obtain ⟨_, its, r, o, h1, h2, n, h3⟩ := (show ObjOk P w H h b (.tup (k.map oV)) from ok b _ e)
  exact ⟨o, its.toArray, n, h1, h2, h3, by simpa using items_opt r⟩
theorem DTat.of {P : Program} {w : World} {h : Heap} (D : DTat P w H a kvs) (ok : HOk P w H h) : kvs.length ≤ sizeLine ∧ (a == sysModules) = false ∧ ∃ xs, OP kvs xs ∧ h.DictOfH (tupleKind (optKind P w)) a xs := by
  obtain ⟨⟨z, y, xs, r, o, es, ep, h1, h2, h3, h4, h5⟩, -⟩ := (show ObjOk P w H h a (dto P w a kvs) from ok a _ D.e)
  refine ⟨z, y, xs, r, o, es, ep, h1, h2, h3, h4, ?_, h5⟩
  have k := D.k
  clear h4 h5 h3 z D
  induction r with
  | nil => exact nofun
  | @cons p q ps qs hq t ih =>
    intro x hx
    rcases List.mem_cons.mp hx with rfl | hx
    · have e := k p List.mem_cons_self
      rw [hq.1, hq.2.1] at e
      exact opt_key ok e
    · exact ih (fun p hp => k p (List.mem_cons_of_mem _ hp)) x hx
/-- d[k], there -/
theorem o_getItem {Q : Value → Shared → Prop} (hu : A.units + 1 < cLine) (I : Inv X pins σ H s) (D : DTat X.prog X.w H a kvs) (eb : H b = some (.tup (k.map oV))) (g : getO kvs k = some v) (h : ∀ w' s', Inv X pins σ H s' → RelV v w' → Q w' s') : wpAny (model X.prog X.w) A (getItem (.ref a) (.ref b)) Q E s := by
  obtain ⟨z, hd, xs, rel, dd⟩ := D.of I.hok
  obtain ⟨w', hw, rw'⟩ := RelO.some_of (v := v) (o := (atKey xs k).map (·.2)) (by rw [← g]; exact rel.get k)
  obtain ⟨p, hp, rfl⟩ := Option.map_eq_some_iff.mp hw
  exact wpAny_getItem_heap (tupleKind_room_in1 hu) (opt_key I.hok eb) dd hp (h _ _ (I.tok _) rw')
theorem o_in {Q : Value → Shared → Prop} (hu : A.units + 1 < cLine) (I : Inv X pins σ H s) (D : DTat X.prog X.w H a kvs) (eb : H b = some (.tup (k.map oV))) (h : ∀ s', Inv X pins σ H s' → Q (.bool (getO kvs k).isSome) s') : wpAny (model X.prog X.w) A (compareOp .In (.ref b) (.ref a)) Q E s := by
  obtain ⟨z, hd, xs, rel, dd⟩ := D.of I.hok
  refine wpAny_in_heap (tupleKind_room_in1 hu) (opt_key I.hok eb) hd dd ?_
  have q := (rel.get k).isSome_eq
  rw [Option.isSome_map] at q
  rw [← q]
  exact h _ (I.tok _)
theorem o_notIn {Q : Value → Shared → Prop} (hu : A.units + 1 < cLine) (I : Inv X pins σ H s) (D : DTat X.prog X.w H a kvs) (eb : H b = some (.tup (k.map oV))) (h : ∀ s', Inv X pins σ H s' → Q (.bool (!(getO kvs k).isSome)) s') : wpAny (model X.prog X.w) A (compareOp .NotIn (.ref b) (.ref a)) Q E s := by
  obtain ⟨z, hd, xs, rel, dd⟩ := D.of I.hok
  refine wpAny_notIn_heap (tupleKind_room_in1 hu) (opt_key I.hok eb) hd dd ?_
  have q := (rel.get k).isSome_eq
  rw [Option.isSome_map] at q
  rw [← q]
  exact h _ (I.tok _)
theorem o_setItem {Q : Unit → Shared → Prop} (hu : A.units + 1 < cLine) (I : Inv X pins σ H s) (D : DTat X.prog X.w H a kvs) (eb : H b = some (.tup (k.map oV))) (few : kvs.length < sizeLine) (rv : RelV v r) (h : ∀ s', Inv X pins σ (upd H a (dto X.prog X.w a (putO kvs k b v))) s' → Q () s') : wpAny (model X.prog X.w) A (setItem (.ref a) (.ref b) r) Q E s := by
  obtain ⟨z, hd, xs, rel, dd⟩ := D.of I.hok
  have hz : xs.length ≤ sizeLine := by rw [← Paired.length rel]; exact z
  have hl : (putO kvs k b v).length ≤ sizeLine := Nat.le_trans putO_len few
  refine wpAny_setItem_heap (hsz := hz) (tupleKind_room_in1 hu) (opt_key I.hok eb) dd fun h' dd' hs => h _ ?_
  obtain ⟨q, es, ep, hq, h2, h3, h4, _, h5⟩ := dd'
  refine d_write I (by rw [D.e]; exact True.intro) hs ⟨q, hq⟩ ⟨⟨hl, hd, _, rel.put k b rv, q, es, ep, hq, h2, h3, h4, h5⟩, ⟨q, hq⟩, ?_⟩
  rintro h1 h2 ⟨f1, f2, ys, f3, o, es, ep, f4, f5⟩ kp
  exact ⟨f1, f2, ys, f3, o, es, ep, kp _ f4, f5⟩
end
/-! ### readings and rules -/
def tOGet (P : Program) (w : World) (td ty : TE) : TE := fun σ H Q => td σ H fun x H1 => ty σ H1 fun y H2 => ∃ a b kvs k v, x = .ref a ∧ y = .ref b ∧ DTat P w H2 a kvs ∧ H2 b = some (.tup (k.map oV)) ∧ getO kvs k = some v ∧ Q v H2
def tOIn (P : Program) (w : World) (ty td : TE) : TE := fun σ H Q => ty σ H fun y H1 => td σ H1 fun x H2 => ∃ a b kvs k, x = .ref a ∧ y = .ref b ∧ DTat P w H2 a kvs ∧ H2 b = some (.tup (k.map oV)) ∧ Q (.bl (getO kvs k).isSome) H2
def tONotIn (P : Program) (w : World) (ty td : TE) : TE := fun σ H Q => ty σ H fun y H1 => td σ H1 fun x H2 => ∃ a b kvs k, x = .ref a ∧ y = .ref b ∧ DTat P w H2 a kvs ∧ H2 b = some (.tup (k.map oV)) ∧ Q (.bl (!(getO kvs k).isSome)) H2
def sOPut (P : Program) (w : World) (td ty tv : TE) : TS := fun D σ H => tv σ H fun v H1 => td σ H1 fun x H2 => ty σ H2 fun y H3 => ∃ a b kvs k, x = .ref a ∧ y = .ref b ∧ DTat P w H3 a kvs ∧ H3 b = some (.tup (k.map oV)) ∧ kvs.length < sizeLine ∧ D.nx σ (upd H3 a (dto P w a (putO kvs k b v)))
/-- {key: value} -/
def tODisp (P : Program) (w : World) (tk tv : TE) : TE := fun σ H Q => ∀ p, H p = none → tk σ (upd H p (dto P w p [])) fun x H1 => tv σ H1 fun y H2 => H2 p = some (dto P w p []) ∧ ∃ b k, x = .ref b ∧ H2 b = some (.tup (k.map oV)) ∧ Q (.ref p) (upd H2 p (dto P w p [(k, b, y)]))
section
variable {X : Cx} {o i e value : Expr} {pos pos' tpos : Pos} {td ty tv : TE}
theorem dt_type {pins : List (Addr × Obj)} {σ : L2.St} {H : Hp} {s : Shared} {a : Addr} {kvs : List (KO × Addr × V)} (I : Inv X pins σ H s) (D : DTat X.prog X.w H a kvs) : s.TypeIs (.ref a) "dict" := by
  obtain ⟨_, _, xs, _, ob, _, _, h1, h2, _⟩ := D.of I.hok
  exact ⟨ob, h1, h2.1⟩
theorem pe_oget (hu : X.A.units + 1 < cLine) (ho : PE X o td) (hi : PE X i ty) (hs : NoSl i) : PE X (.Subscript o i pos) (tOGet X.prog X.w td ty) := by
  refine ⟨fun pins s σ H Q I h => subD_of PySem.F.slot_dict_getitem.lookup hs (thn (ho.run pins s σ H _ I h) fun u s1 ⟨x, H1, I1, rx, q1⟩ => thn (hi.run pins s1 σ H1 _ I1 q1) fun iv s2 ⟨y, H2, I2, ry, a, b, kvs, k, v, ex, ey, D, eb, g, q2⟩ => ?_)⟩
  subst ex ey
  obtain rfl : u = Value.ref a := rx
  obtain rfl : iv = Value.ref b := ry
  exact ⟨dt_type I2 D, o_getItem hu I2 D eb g fun w' s3 I3 rw' => ⟨v, H2, I3, rw', q2⟩⟩
theorem pc_oin (hu : X.A.units + 1 < cLine) (hi : PE X i ty) (ho : PE X o td) : PC X .In i o (tOIn X.prog X.w ty td) := by
  refine ⟨fun pins s σ H Q I h => thn (hi.run pins s σ H _ I h) fun iv s1 ⟨y, H1, I1, ry, q1⟩ => thn (ho.run pins s1 σ H1 _ I1 q1) fun u s2 ⟨x, H2, I2, rx, a, b, kvs, k, ex, ey, D, eb, q2⟩ => ?_⟩
  subst ex ey
  obtain rfl : u = Value.ref a := rx
  obtain rfl : iv = Value.ref b := ry
  exact o_in hu I2 D eb fun s3 I3 => ⟨.bl _, H2, I3, rfl, q2⟩
theorem pc_onotin (hu : X.A.units + 1 < cLine) (hi : PE X i ty) (ho : PE X o td) : PC X .NotIn i o (tONotIn X.prog X.w ty td) := by
  refine ⟨fun pins s σ H Q I h => thn (hi.run pins s σ H _ I h) fun iv s1 ⟨y, H1, I1, ry, q1⟩ => thn (ho.run pins s1 σ H1 _ I1 q1) fun u s2 ⟨x, H2, I2, rx, a, b, kvs, k, ex, ey, D, eb, q2⟩ => ?_⟩
  subst ex ey
  obtain rfl : u = Value.ref a := rx
  obtain rfl : iv = Value.ref b := ry
  exact o_notIn hu I2 D eb fun s3 I3 => ⟨.bl _, H2, I3, rfl, q2⟩
theorem ps_oput (hu : X.A.units + 1 < cLine) (ho : PE X o td) (hi : PE X i ty) (hv : PE X value tv) (hs : swapsWith value (some (.Subscript o i pos')) pos.line X.env = pure false) : PS X (.Assign [.Subscript o i pos'] value pos) (sOPut X.prog X.w td ty tv) := by
  refine ⟨fun pins s σ H D I h => wpAny_Assign_Subscript (thn (hv.run pins s σ H _ I h) fun r s1 ⟨v, H1, I1, rv, q1⟩ => thn (ho.run pins s1 σ H1 _ I1 q1) fun u s2 ⟨x, H2, I2, rx, q2⟩ => thn (hi.run pins s2 σ H2 _ I2 q2) fun iv s3 ⟨y, H3, I3, ry, a, b, kvs, k, ex, ey, DT, eb, few, q3⟩ => ?_) hs⟩
  subst ex ey
  obtain rfl : u = Value.ref a := rx
  obtain rfl : iv = Value.ref b := ry
  exact o_setItem hu I3 DT eb few rv fun s4 I4 => ⟨σ, _, I4, q3⟩
theorem dto_nil {P : Program} {w : World} {H : Hp} (h : Heap) (hb : sysModules < h.objs.size) : ObjOk P w H (h.push { cls := .type "dict", data := .dict #[] }) h.objs.size (dto P w h.objs.size []) := by
  have e0 : (h.push { cls := .type "dict", data := .dict #[] }).get? h.objs.size = some { cls := .type "dict", data := .dict #[] } := Heap.get?_push_size _ rfl
  refine ⟨⟨Nat.zero_le _, beq_eq_false_iff_ne.mpr (Nat.ne_of_gt hb), [], .nil, _, #[], 0, e0, ⟨rfl, rfl, rfl⟩, rfl, rfl, List.nodup_nil⟩, ⟨_, e0⟩, ?_⟩
  rintro h1 h2 ⟨f1, f2, ys, f3, o, es, ep, f4, f5⟩ kp
  exact ⟨f1, f2, ys, f3, o, es, ep, kp _ f4, f5⟩
theorem pe_odisp {ke ve : Expr} {tk tv : TE} (hu : X.A.units < cLine) (hk : PE X ke tk) (hv : PE X ve tv) : PE X (.Dict [some ke] [ve] pos) (tODisp X.prog X.w tk tv) := by
  refine ⟨fun pins s σ H Q I q => ?_⟩
  have hn := I.hok.fresh (Nat.le_refl s.heap.objs.size)
  have I1 := I.laid (a := s.heap.objs.size) (o := dto X.prog X.w s.heap.objs.size []) (h' := s.heap.push { cls := .type "dict", data := .dict #[] }) (t' := s.toks) (fun b o q => Heap.get?_push_of_some _ q) (Nat.le_refl _) (dto_nil s.heap I.big)
  have h0 : pairTrees [some ke] [ve] X.env pos ≠ [] := nofun
  rw [arm_eval_Dict, zip_pairTrees [some ke] [ve] X.env pos rfl rfl, dictDisplay_pairs _ h0 (by show 1 < 17; decide)]
  refine wpAny_bind (wpAny_standAt (wpAny_bind (wpAny_subDictH (knd := tupleKind (optKind X.prog X.w)) (Q := fun d s' => wpAny (model X.prog X.w) X.A (pure (Value.ref d)) (EP X pins σ Q) X.xe s') hu (by show 1 ≤ 15; decide) ?_)))
  refine pairTrees_cons_walk (thn (hk.run pins _ σ _ _ I1 (q _ hn)) fun u s1 ⟨x, H1, I2, rx, q1⟩ => thn (hv.run pins s1 σ H1 _ I2 q1) fun u2 s2 ⟨y, H2, I3, ry, e2, b, k, ex, eb, q2⟩ => pairTrees_nil_walk ?_)
  subst ex
  obtain rfl : u = Value.ref b := rx
  have D : DTat X.prog X.w H2 s.heap.objs.size [] := ⟨e2, fun p hp => absurd hp List.not_mem_nil⟩
  obtain ⟨z, hd, xs, rel, dd⟩ := D.of I3.hok
  cases rel
  refine ⟨[(k, b, u2)], ⟨rfl, rfl, opt_key I3.hok eb, True.intro⟩, dd, fun h' tk dd' hs => wpAny_pure ⟨.ref s.heap.objs.size, _, ?_, rfl, q2⟩⟩
  obtain ⟨o, es, ep, ho, h2, h3, h4, _, h5⟩ := dd'
  refine d_write I3 (by rw [e2]; exact True.intro) hs ⟨o, ho⟩ ⟨⟨by show 1 ≤ sizeLine; decide, hd, [(k, b, u2)], .cons ⟨rfl, rfl, ry⟩ .nil, o, es, ep, ho, h2, h3, h4, h5⟩, ⟨o, ho⟩, ?_⟩
  rintro h1 h2 ⟨f1, f2, ys, f3, o, es, ep, f4, f5⟩ kp
  exact ⟨f1, f2, ys, f3, o, es, ep, kp _ f4, f5⟩
end
end Wf
/-! T2: for key, value in a dict of such keys -/
namespace Wf
open PySem PySem.Spec PyProof.Rows L2
/-- the entries of the locked dict at d, each a new pair -/
def ItiO (P : Program) (w : World) (d : Addr) (o : Obj) (kvs : List (KO × Addr × V)) : It :=
  ⟨fun i H => H d = some (.frz o (dto P w d kvs)) ∧ i < kvs.length, fun i H x H' => ∃ T p, kvs[i]? = some p ∧ x = .ref T ∧ H T = none ∧ H' = upd H T (.tup [.ref p.2.1, p.2.2]), fun i H => H d = some (.frz o (dto P w d kvs)) ∧ kvs.length ≤ i⟩
theorem frzO {X : Cx} {pins : List (Addr × Obj)} {σ : L2.St} {H : Hp} {s : Shared} {d : Addr} {o : Obj} {kvs : List (KO × Addr × V)} (I : Inv X pins σ H s) (h : H d = some (.frz o (dto X.prog X.w d kvs))) :
    (d == sysModules) = false ∧ s.heap.get? d = some o ∧ o.ExactDict ∧ ∃ (es : Array DictEntry) (ep : Nat), o.data = .dict es ep ∧ es.size = kvs.length ∧ ∀ (i : Nat) (p : KO × Addr × V), kvs[i]? = some p → ∃ en : DictEntry, es[i]? = some en ∧ en.key = .ref p.2.1 ∧ RelV p.2.2 en.val := by
  obtain ⟨hd, ⟨z, hs, xs, pr, o', es, ep, ho, hx, hdt, he, _⟩, -⟩ := I.hok d _ h
  rw [hd] at ho
  cases ho
  refine ⟨hs, hd, hx, es, ep, hdt, ?_, fun i p e => ?_⟩
  · have l1 : es.size = xs.length := size_of_entries he
    have l2 : kvs.length = xs.length := Paired.length pr
    omega
  · obtain ⟨b, hb, e1, e2, e3⟩ := paired_get pr e
    have q := PySem.entry_at he i
    rw [hb] at q
    exact ⟨_, q, by rw [e2]; rfl, e3⟩
theorem turn_itemsO {P : Program} {w : World} {K : PySem.W.Frag} {d : Addr} {o : Obj} {es : Array DictEntry} {ep : Nat} {kvs : List (KO × Addr × V)} {elts : List Expr} {kk : Nat} {tpos : Pos} (it : Addr) (hod : o.data = .dict es ep) (hsz0 : es.size = kvs.length) :
    Turn P w K (.Tuple elts kk tpos) (ItiO P w d o kvs) [it] it (fun i h => ∃ ok ov, IsItemIter h it d i es.size ep ok ov) where
  mem := List.mem_singleton.mpr rfl
  obj := fun i h st b hb => by
    obtain ⟨ok, ov, e⟩ := st
    rw [List.mem_singleton.mp hb]
    exact ⟨_, e, fun v z => nomatch z⟩
  keep := fun i h h' st k => by
    obtain ⟨ok, ov, e⟩ := st
    exact ⟨ok, ov, k it (List.mem_singleton.mpr rfl) _ e⟩
  item := by
    rintro X rfl rfl rfl hc i pins s σ H E I hf st hg
    obtain ⟨hd, hi⟩ := hg
    obtain ⟨hs, hgd, hx, es', ep', hdt, hsz, ent⟩ := frzO I hd
    obtain ⟨rfl, rfl⟩ := dict_ep hod hdt
    obtain ⟨p, hp⟩ : ∃ p, kvs[i]? = some p := ⟨kvs[i], List.getElem?_eq_getElem hi⟩
    obtain ⟨en, hen, ek, rv⟩ := ent i p hp
    obtain ⟨hlt, een⟩ := Array.getElem?_eq_some_iff.mp hen
    obtain ⟨ok, ov, he⟩ := st
    have itl : it < s.heap.objs.size := Heap.lt_size he
    refine DT.nextI he ⟨o, hgd, hx, hdt⟩ hlt fun h' ho hT hz hk => ?_
    refine ⟨_, rfl, wpAny_letOwnedTupleGo_items (s := { s with heap := h' }) ho fun h'' he' sb => ?_⟩
    have hT2 := (sb.2 _ (Nat.ne_of_gt itl)).trans hT
    rw [een] at hT2
    have new : ObjOk X.prog X.w (upd H s.heap.objs.size (.tup [.ref p.2.1, p.2.2])) h'' s.heap.objs.size (.tup [.ref p.2.1, p.2.2]) := ⟨by show 2 ≤ sizeLine; decide, [en.key, en.val], .cons ek (.cons rv .nil), ⟨_, hT2, rfl, _, rfl⟩⟩
    have I1 := I.turnedNew (t' := s.toks) (ch := [it]) (h' := h'') (fun b ob hb e => (sb.2 b fun z => hb (List.mem_singleton.mpr z)).trans (hk b ob (fun z => hb (List.mem_singleton.mpr z)) e)) hf (Nat.le_refl _) new
    refine ⟨.ref s.heap.objs.size, _, I1, rfl, ⟨_, p, hp, rfl, I.hok.fresh (Nat.le_refl _), rfl⟩, ⟨_, _, he'⟩, fun b hb => ?_⟩
    rw [List.mem_singleton.mp hb, upd_ne (Nat.ne_of_lt itl)]
    exact (hf it (List.mem_singleton.mpr rfl)).1
  done := by
    rintro X rfl rfl rfl hc i pins s σ H E I hf st hg
    obtain ⟨hd, hi⟩ := hg
    obtain ⟨f0, f1, f2, f3, f4, f5⟩ := hf it (List.mem_singleton.mpr rfl)
    obtain ⟨hs, hgd, hx, es', ep', hdt, hsz, ent⟩ := frzO I hd
    obtain ⟨rfl, rfl⟩ := dict_ep hod hdt
    obtain ⟨ok, ov, he⟩ := st
    exact DT.endI (I.ok.hd hc) he ⟨o, hgd, hx, hdt⟩ (by omega) fun h' eb => ⟨rfl, I.turned (t' := s.toks) (fun b ob hb e => eb b ob hb e) f0 f1 f3 f4 f5⟩
  self := fun A i s Q E st h => by
    obtain ⟨_, _, e⟩ := st
    exact PySem.W.kcp_self e h
/-- for key, value in d.items(), d a dict that nothing else reads again -/
def iItemsO (P : Program) (w : World) (td : TE) : TI := fun σ H R => td σ H fun x H1 => ∃ d kvs, x = .ref d ∧ H1 d = some (dto P w d kvs) ∧ ∀ o, R (ItiO P w d o kvs) (upd H1 d (.frz o (dto P w d kvs)))
theorem pi_itemsO {X : Cx} {e : Expr} {td : TE} {apos cpos : Pos} {elts : List Expr} {kk : Nat} {tpos : Pos} (he : PE X e td) (hbase : attributeBase e "items" X.env (eval e X.env) = eval e X.env := by rfl) (hline : (apos.endLine == cpos.line) = true := by rfl) :
    PI X (.Tuple elts kk tpos) (.Call (.Attribute e "items" apos) [] [] cpos) (iItemsO X.prog X.w td) := by
  refine ⟨fun pins s σ H R I h => wpAny_Call_method (T := "dict") (id := "dict.items") hbase rfl hline PySem.F.plainAttrs_dict PySem.F.slot_dict_items PySem.F.type_dict_items (thn (he.run pins s σ H _ I h) fun u s1 ⟨x, H1, I1, rx, d, kvs, ex, hd, q⟩ => ?_)⟩
  subst ex
  obtain rfl : u = Value.ref d := rx
  obtain ⟨o, I0⟩ := I1.lock hd True.intro
  have hd0 : (upd H1 d (.frz o (dto X.prog X.w d kvs))) d = some (.frz o (dto X.prog X.w d kvs)) := upd_same
  obtain ⟨hs, hgd, hx, es, ep, hdt, hsz, ent⟩ := frzO I0 hd0
  have raw : DT.Raw s1.heap d es ep := ⟨o, hgd, hx, hdt⟩
  have ty := raw.typeIs
  refine ⟨ty, fun b z => by cases z; exact ⟨o, hgd, hx.2.1⟩, ?_⟩
  have I2 := I0.kept (h' := s1.heap.push { cls := .type "dict_items", data := .fields #[.ref d] }) (t' := s1.toks) fun b ob q => Heap.get?_push_of_some _ q
  have fin : wpAny (model X.prog X.w) X.A (pyIter (.ref s1.heap.objs.size)) (PIE X pins σ (.Tuple elts kk tpos) R) X.xe { s1 with heap := s1.heap.push { cls := .type "dict_items", data := .fields #[.ref d] } } := by
    exact DT.iterI (d := d) ⟨_, Heap.get?_push_size _ rfl, rfl, rfl⟩ (raw.push _) (pi_one (tk := s1.toks) I2 _ (turn_itemsO _ hdt hsz) ⟨.none, .none, Heap.get?_push_size _ rfl⟩ (q o))
  exact method_meetsIn PySem.F.slot_dict_items PySem.F.entry_dict_items rfl (PySem.evalArgs_none ⟨rfl, ty, PySem.F.args_dict_items_1 _, _, DT.meetsItems (es := es) (ep := ep) hs, raw, fin⟩)
end Wf
/-! T3: zip of lists, tuples and texts in any mix -/
namespace Wf
open PySem PySem.Spec PyProof.Rows L2
/-- what is walked -/
inductive Src where
  | lst (a : Addr) (xs : List V)
  | tup (a : Addr) (xs : List V)
  | txt (z : Str)
namespace Src
def at_ (K : PySem.W.Frag) (H : Hp) : Src → Prop
  | .lst a xs => SqL K H a xs
  | .tup a xs => SqT K H a xs
  | .txt _ => True
def items : Src → List V
  | .lst _ xs => xs
  | .tup _ xs => xs
  | .txt z => z.cps.toList.map fun c => .str ⟨#[c]⟩
def val : Src → V
  | .lst a _ => .ref a
  | .tup a _ => .ref a
  | .txt z => .str z
/-- its own place, if it has one -/
def own : Src → List Addr
  | .lst a _ => [a]
  | .tup a _ => [a]
  | .txt _ => []
/-- the iterator as it stands -/
def it (S : Src) (v : Value) (c : Addr) (i : Nat) (h : Heap) : Prop := match S with
  | .lst a _ => h.IsListIter c a i
  | .tup a _ => h.IsTupleIter c a i
  | .txt z => ∃ t, v = .str z t ∧ h.IsStrIter c (strIterType z) z t i
theorem it_obj {S : Src} {v : Value} {c : Addr} {i : Nat} {h : Heap} (x : S.it v c i h) : ∃ o, h.get? c = some o ∧ ∀ u, o.data ≠ .cell u := by
  cases S with
  | lst a xs => obtain ⟨o, e, _, d⟩ := x; exact ⟨o, e, fun u z => by rw [d] at z; cases z⟩
  | tup a xs => obtain ⟨o, e, _, d⟩ := x; exact ⟨o, e, fun u z => by rw [d] at z; cases z⟩
  | txt z => obtain ⟨t, _, o, e, _, d⟩ := x; exact ⟨o, e, fun u z => by rw [d] at z; cases z⟩
theorem it_keep {S : Src} {v : Value} {c : Addr} {i : Nat} {h h' : Heap} (x : S.it v c i h) (k : ∀ o, h.get? c = some o → h'.get? c = some o) : S.it v c i h' := by
  cases S with
  | lst a xs => obtain ⟨o, e, r⟩ := x; exact ⟨o, k o e, r⟩
  | tup a xs => obtain ⟨o, e, r⟩ := x; exact ⟨o, k o e, r⟩
  | txt z => obtain ⟨t, ev, o, e, r⟩ := x; exact ⟨t, ev, o, k o e, r⟩
/-- drawn from, one item after another -/
theorem draws {X : Cx} {pins : List (Addr × Obj)} {σ : L2.St} {H : Hp} {s : Shared} (I : Inv X pins σ H s) {A : Around} (hh : A.handled = none) {S : Src} {v : Value} {c : Addr} (hS : S.at_ X.K H) (rv : RelV S.val v) (hc : c ∉ S.own) :
    ∃ (Pr : Nat → Value → Prop) (St : Nat → Heap → Prop), Draws X.prog X.w A c (c :: S.own) S.items.length Pr St ∧ (∀ i h, (∀ b ∈ S.own, h.get? b = s.heap.get? b) → S.it v c i h → St i h) ∧ (∀ i h, St i h → S.it v c i h) ∧ ∀ i u, Pr i u → ∃ x, S.items[i]? = some x ∧ RelV x u := by
  cases S with
  | lst a xs =>
    obtain ⟨its, rl, p, _⟩ := I.list hS
    have n := rl.length
    have hne : a ≠ c := fun e => hc (by rw [e]; exact List.mem_singleton.mpr rfl)
    refine ⟨fun i u => its.toArray[i]? = some u, fun i h => h.IsListIter c a i ∧ h.IsList a its.toArray, ?_, ?_, ?_, ?_⟩
    · have D := Draws.list (prog := X.prog) (w := X.w) hh c a hne its.toArray
      rwa [show its.toArray.size = (Src.lst a xs).items.length from n.symm] at D
    · intro i h k x
      refine ⟨x, ?_⟩
      exact p.isList.at fun o e => (k a (List.mem_singleton.mpr rfl)).trans e
    · exact fun i h x => x.1
    · intro i u hu
      have hl : i < xs.length := by
        have := (Array.getElem?_eq_some_iff.mp hu).1
        rw [List.size_toArray] at this
        omega
      obtain ⟨u2, h2, r2⟩ := rl.get (List.getElem?_eq_getElem hl)
      rw [List.getElem?_toArray, h2] at hu
      cases hu
      exact ⟨_, List.getElem?_eq_getElem hl, r2⟩
  | tup a xs =>
    obtain ⟨its, rl, p, _⟩ := I.tuple hS
    have n := rl.length
    have hne : a ≠ c := fun e => hc (by rw [e]; exact List.mem_singleton.mpr rfl)
    refine ⟨fun i u => its.toArray[i]? = some u, fun i h => h.IsTupleIter c a i ∧ h.IsTuple a its.toArray, ?_, ?_, ?_, ?_⟩
    · have D := Draws.tuple (prog := X.prog) (w := X.w) hh c a hne its.toArray
      rwa [show its.toArray.size = (Src.tup a xs).items.length from n.symm] at D
    · intro i h k x
      refine ⟨x, ?_⟩
      exact (show s.heap.IsTuple a its.toArray from p).at fun o e => (k a (List.mem_singleton.mpr rfl)).trans e
    · exact fun i h x => x.1
    · intro i u hu
      have hl : i < xs.length := by
        have := (Array.getElem?_eq_some_iff.mp hu).1
        rw [List.size_toArray] at this
        omega
      obtain ⟨u2, h2, r2⟩ := rl.get (List.getElem?_eq_getElem hl)
      rw [List.getElem?_toArray, h2] at hu
      cases hu
      exact ⟨_, List.getElem?_eq_getElem hl, r2⟩
  | txt z =>
    obtain ⟨t, ev⟩ := (show ∃ t, v = Value.str z t from rv)
    refine ⟨fun i u => ∃ ch tk, z.cps[i]? = some ch ∧ u = .str ⟨#[ch]⟩ tk, fun i h => h.IsStrIter c (strIterType z) z t i, ?_, ?_, ?_, ?_⟩
    · have n : (Src.txt z).items.length = z.cps.size := by
        show (z.cps.toList.map _).length = _
        rw [List.length_map, Array.length_toList]
      rw [n]
      show Draws _ _ _ c [c] _ _ _
      unfold strIterType
      split
      · exact Draws.strAscii hh c z t
      · exact Draws.strWide hh c z t
    · rintro i h _ ⟨t2, e2, x⟩
      rw [ev] at e2
      cases e2
      exact x
    · exact fun i h x => ⟨t, ev, x⟩
    · rintro i u ⟨ch, tk, h1, rfl⟩
      refine ⟨.str ⟨#[ch]⟩, ?_, tk, rfl⟩
      show (z.cps.toList.map _)[i]? = _
      rw [List.getElem?_map, Array.getElem?_toList, h1]
      rfl
end Src
/-- pairs of both, each a new tuple -/
def ItzG (K : PySem.W.Frag) (S1 S2 : Src) : It :=
  ⟨fun i H => S1.at_ K H ∧ S2.at_ K H ∧ i < S1.items.length ∧ i < S2.items.length,
    fun i H v H' => ∃ T x y, v = .ref T ∧ H T = none ∧ H' = upd H T (.tup [x, y]) ∧ S1.items[i]? = some x ∧ S2.items[i]? = some y,
    fun i H => S1.at_ K H ∧ S2.at_ K H ∧ i ≤ S1.items.length ∧ i ≤ S2.items.length ∧ (i = S1.items.length ∨ i = S2.items.length)⟩
/-- the zip as it stands -/
def ZipSt (S1 S2 : Src) (v1 v2 : Value) (z TI TO i1 i2 : Addr) (i : Nat) (h : Heap) : Prop := IsZip h z TI TO .none ∧ IsTupOf2 h TI (.ref i1) (.ref i2) ∧ (∃ a b, IsTupOf2 h TO a b) ∧ S1.it v1 i1 i h ∧ S2.it v2 i2 i h
theorem five {P : Addr → Prop} {a b c d e : Addr} (h1 : P a) (h2 : P b) (h3 : P c) (h4 : P d) (h5 : P e) : ∀ x ∈ [a, b, c, d, e], P x := fun x hx => by
  simp only [List.mem_cons, List.not_mem_nil, or_false] at hx
  rcases hx with rfl | rfl | rfl | rfl | rfl
  · exact h1
  · exact h2
  · exact h3
  · exact h4
  · exact h5
theorem own1 {i z : Addr} {S : Src} (h : z ∉ i :: S.own) : z ∉ S.own := fun m => h (List.mem_cons_of_mem _ m)
theorem turn_zipG {P : Program} {w : World} {K : PySem.W.Frag} {elts : List Expr} {kk : Nat} {tpos : Pos} {S1 S2 : Src} {v1 v2 : Value} {z TI TO i1 i2 : Addr} (D : ZipSep2 z TI TO i1 i2 (i1 :: S1.own) (i2 :: S2.own)) (n1 : i1 ∉ S1.own) (n2 : i2 ∉ S2.own) (r1 : RelV S1.val v1) (r2 : RelV S2.val v2) :
    Turn P w K (.Tuple elts kk tpos) (ItzG K S1 S2) [z, TI, TO, i1, i2] z (ZipSt S1 S2 v1 v2 z TI TO i1 i2) where
  mem := List.mem_cons_self
  obj := fun i h st => by
    obtain ⟨hz, hTI, ⟨x, y, hTO⟩, h1, h2⟩ := st
    exact five ⟨_, hz, fun v q => nomatch q⟩ ⟨_, hTI, fun v q => nomatch q⟩ ⟨_, hTO, fun v q => nomatch q⟩ (Src.it_obj h1) (Src.it_obj h2)
  keep := fun i h h' st k => by
    obtain ⟨hz, hTI, ⟨x, y, hTO⟩, h1, h2⟩ := st
    exact ⟨k z (by simp) _ hz, k TI (by simp) _ hTI, ⟨x, y, k TO (by simp) _ hTO⟩, Src.it_keep h1 (k i1 (by simp)), Src.it_keep h2 (k i2 (by simp))⟩
  item := by
    rintro X rfl rfl rfl hc i pins s σ H E I hf ⟨hz, hTI, ⟨x0, y0, hTO⟩, h1, h2⟩ ⟨a1, a2, lt1, lt2⟩
    have hh : X.A.in1.handled = none := I.ok.hd hc
    obtain ⟨P1, St1, D1, m1, e1, g1⟩ := Src.draws I hh a1 r1 n1
    obtain ⟨P2, St2, D2, m2, e2, g2⟩ := Src.draws I hh a2 r2 n2
    have zl : z < s.heap.objs.size := Heap.lt_size hz
    refine wpAny_pyNext_zipD2_item D D1 D2 hz hTI hTO (m1 _ _ (fun _ _ => rfl) h1) (m2 _ _ (fun _ _ => rfl) h2) lt1 lt2 fun x1 x2 h' tk p1 p2 z' TO' s1' s2' hT hsz hk => ?_
    refine ⟨_, rfl, wpAny_letOwnedTupleGo_zip (s := { s with heap := h', toks := tk }) z' fun h'' z'' sb => ?_⟩
    obtain ⟨x, ix, rx⟩ := g1 i x1 p1
    obtain ⟨y, iy, ry⟩ := g2 i x2 p2
    have hT2 : IsTupOf2 h'' s.heap.objs.size x1 x2 := (sb.2 _ (Nat.ne_of_gt zl)).trans hT
    have new : ObjOk X.prog X.w (upd H s.heap.objs.size (.tup [x, y])) h'' s.heap.objs.size (.tup [x, y]) := ⟨by show 2 ≤ sizeLine; decide, [x1, x2], .cons rx (.cons ry .nil), ⟨_, hT2, rfl, _, rfl⟩⟩
    have back : ∀ c o, c ∉ [z, TI, TO, i1, i2] → s.heap.get? c = some o → h''.get? c = some o := fun c o hb q => by
      simp only [List.mem_cons, List.not_mem_nil, or_false, not_or] at hb
      exact (sb.2 c hb.1).trans (hk c o hb.1 hb.2.2.1 hb.2.2.2.1 hb.2.2.2.2 q)
    have I1 := I.turnedNew (t' := tk) (ch := [z, TI, TO, i1, i2]) (h' := h'') back hf (Nat.le_refl _) new
    refine ⟨.ref s.heap.objs.size, _, I1, rfl, ⟨_, x, y, rfl, I.hok.fresh (Nat.le_refl _), rfl, ix, iy⟩, ⟨z'', ?_, ⟨x1, x2, ?_⟩, ?_, ?_⟩, fun c hcm => ?_⟩
    · exact (sb.2 _ D.TIz).trans (hk _ _ D.TIz D.TITO D.TIi1 D.TIi2 hTI)
    · exact (sb.2 _ D.TOz).trans TO'
    · exact Src.it_keep (e1 _ _ s1') fun o q => (sb.2 _ D.zi1.symm).trans q
    · exact Src.it_keep (e2 _ _ s2') fun o q => (sb.2 _ D.zi2.symm).trans q
    · have lt : ∀ c ∈ [z, TI, TO, i1, i2], c < s.heap.objs.size := five zl (Heap.lt_size hTI) (Heap.lt_size hTO) (let ⟨_, e, _⟩ := Src.it_obj h1; Heap.lt_size e) (let ⟨_, e, _⟩ := Src.it_obj h2; Heap.lt_size e)
      rw [upd_ne (Nat.ne_of_lt (lt c hcm))]
      exact (hf c hcm).1
  done := by
    rintro X rfl rfl rfl hc i pins s σ H E I hf ⟨hz, hTI, ⟨x0, y0, hTO⟩, h1, h2⟩ ⟨a1, a2, le1, le2, hend⟩
    have hh : X.A.in1.handled = none := I.ok.hd hc
    obtain ⟨P1, St1, D1, m1, e1, g1⟩ := Src.draws I hh a1 r1 n1
    obtain ⟨P2, St2, D2, m2, e2, g2⟩ := Src.draws I hh a2 r2 n2
    refine wpAny_pyNext_zipD2_end D D1 D2 hz hTI hTO (m1 _ _ (fun _ _ => rfl) h1) (m2 _ _ (fun _ _ => rfl) h2) le1 le2 hend fun h' tk hk => ⟨rfl, I.turnedL (t' := tk) (ch := [z, TI, TO, i1, i2]) (fun c o hb q => ?_) hf⟩
    simp only [List.mem_cons, List.not_mem_nil, or_false, not_or] at hb
    exact hk c o hb.1 hb.2.2.1 hb.2.2.2.1 hb.2.2.2.2 q
  self := fun A i s Q E st h => wpAny_pyIter_zip st.1 h
theorem Src.begins {X : Cx} {pins : List (Addr × Obj)} {σ : L2.St} {H : Hp} {s : Shared} (I : Inv X pins σ H s) {S : Src} {v : Value} (hS : S.at_ X.K H) (rv : RelV S.val v) : ∃ (o : Obj) (B : Heap → Prop), Begins v o B ∧ B s.heap ∧ ∀ h c, h.get? c = some o → S.it v c 0 h := by
  cases S with
  | lst a xs =>
    obtain ⟨its, rl, p, _⟩ := I.list hS
    obtain rfl : v = Value.ref a := rv
    exact ⟨_, _, begins_list a its.toArray, p.isList, fun h c e => ⟨_, e, rfl, rfl⟩⟩
  | tup a xs =>
    obtain ⟨its, rl, p, _⟩ := I.tuple hS
    obtain rfl : v = Value.ref a := rv
    exact ⟨_, _, begins_tuple a its.toArray, p, fun h c e => ⟨_, e, rfl, rfl⟩⟩
  | txt z =>
    obtain ⟨t, rfl⟩ := (show ∃ t, v = Value.str z t from rv)
    exact ⟨_, _, begins_text z t, True.intro, fun h c e => ⟨t, rfl, _, e, rfl, rfl⟩⟩
theorem Src.own_lt {X : Cx} {pins : List (Addr × Obj)} {σ : L2.St} {H : Hp} {s : Shared} (I : Inv X pins σ H s) {S : Src} (hS : S.at_ X.K H) : ∀ b ∈ S.own, b < s.heap.objs.size := fun b hb => by
  cases S with
  | lst a xs =>
    obtain ⟨its, rl, p, _⟩ := I.list hS
    rw [List.mem_singleton.mp hb]
    exact p.lt
  | tup a xs =>
    obtain ⟨its, rl, p, _⟩ := I.tuple hS
    obtain ⟨o, ho, _⟩ := p
    rw [List.mem_singleton.mp hb]
    exact Heap.lt_size ho
  | txt z => exact absurd hb List.not_mem_nil
def iZipG (K : PySem.W.Frag) (ta : TA) : TI := fun σ H R => ta σ H fun vs H1 => ∃ S1 S2 : Src, vs = [S1.val, S2.val] ∧ S1.at_ K H1 ∧ S2.at_ K H1 ∧ R (ItzG K S1 S2) H1
/-- for a, b in zip(x, y) -/
theorem pi_zipG {X : Cx} {e e2 : Expr} {ta : TA} {p pos tpos : Pos} {elts : List Expr} {kk : Nat} (hg : Gl X "zip") (hm : X.mg "zip" = none) (ha : PA X [e, e2] ta)
    (hs : starEach [e, e2] X.env = (false, eval e X.env) :: starEach [e2] X.env := by rfl) (hpl : (backTo pos (starEach [e2] X.env)).any (·.1) = false := by rfl) : PI X (.Tuple elts kk tpos) (.Call (.Name "zip" p) [e, e2] [] pos) (iZipG X.K ta) := by
  refine ⟨fun pins s σ H R I h => Call_ (ld_blt I hg hm PyProof.Rows.boot_zip (PyProof.Rows.callWith_type1 (thn (ha.run pos pins s σ H _ I h) fun us s1 ⟨vs, H1, I1, rr, S1, S2, ex, a1, a2, q⟩ => ?_) hs hpl))⟩
  subst ex
  obtain ⟨u1, t1, rfl, r1, rr⟩ : ∃ u r, us = u :: r ∧ RelV S1.val u ∧ Vals [S2.val] r := match us, rr with | _ :: _, .cons h t => ⟨_, _, rfl, h, t⟩
  obtain ⟨u2, rfl, r2⟩ := rr.one
  obtain ⟨o1, B1, b1, h1, k1⟩ := Src.begins I1 a1 r1
  obtain ⟨o2, B2, b2, h2, k2⟩ := Src.begins I1 a2 r2
  refine zip_begins2 b1 b2 h1 h2 fun h' hz hTI hTO g1 g2 hsz hk => wpAny_pyIter_zip hz ?_
  have I2 : Inv X pins σ H1 { s1 with heap := h' } := I1.kept (t' := s1.toks) hk
  have o1 := Src.own_lt I1 a1
  have o2 := Src.own_lt I1 a2
  have fresh : ∀ k : Nat, FpOk X pins H1 (s1.heap.objs.size + k) := fun k => I1.fpOk (Nat.le_add_right _ _) (I1.hok.fresh (Nat.le_add_right _ _))
  refine ⟨s1.heap.objs.size + 4, [s1.heap.objs.size + 4, s1.heap.objs.size + 2, s1.heap.objs.size + 3, s1.heap.objs.size, s1.heap.objs.size + 1], _, ItzG X.K S1 S2, H1, rfl, I2, turn_zipG (zip_sep2 o1 o2) (fun m => Nat.lt_irrefl _ (o1 _ m)) (fun m => Nat.lt_irrefl _ (Nat.lt_trans (Nat.lt_succ_self _) (o2 _ m))) r1 r2, ⟨hz, hTI, ⟨_, _, hTO⟩, k1 _ _ g1, k2 _ _ g2⟩, five (fresh 4) (fresh 2) (fresh 3) (fresh 0) (fresh 1), q⟩
end Wf
/-! T4: list(zip(x, y)) -/
namespace Wf
open PySem PySem.Spec PyProof.Rows L2 PySem.Calls PySem.W
/-- a zip whose last pair T is held by somebody -/
def ZO (h : Heap) (z TI TO T : Addr) (f : Bool) : Prop := h.get? z = some { cls := .type "zip", dict := none, data := .fields #[rawInt T, .bool f, .bool false, .ref TI, .ref TO], slots := #[] }
section
variable {prog : Program} {w : World} {A : Around} {E : Value → Shared → Prop} {s : Shared} {z TI TO T i1 i2 : Addr} {f : Bool} {oT : Obj} {fp1 fp2 : List Addr} {n1 n2 i : Nat} {P1 P2 : Nat → Value → Prop} {St1 St2 : Nat → Heap → Prop}
/-- the pair is out: it isn't used again -/
theorem zo_free {Q : Bool → Shared → Prop} (hz : ZO s.heap z TI TO T f) (hT : s.heap.get? T = some oT) (h : ∀ h', ZO h' z TI TO T true → Heap.SameBut z s.heap h' → Q false { s with heap := h' }) : wpAny (model prog w) A (Builtin.SmallTypes.ownedTupleIsFree (.ref z)) Q E s := by
  unfold Builtin.SmallTypes.ownedTupleIsFree
  refine wpAny_bind (wpAny_field hz rfl (x := rawInt T) rfl (show wpAny _ _ (loadIfAlive ((T : Int).toNat) >>= _) _ _ _ from ?_))
  rw [Int.toNat_natCast]
  refine wpAny_bind (kdx_alive hT ?_)
  refine wpAny_ite_split (fun e => absurd e Bool.false_ne_true) fun _ => wpAny_bind (wpAny_field hz rfl (x := .bool f) rfl ?_)
  cases f with
  | true => exact wpAny_ite_split (fun e => absurd e Bool.false_ne_true) fun _ => wpAny_pure (h s.heap hz (Heap.SameBut.refl _ _))
  | false => exact wpAny_ite_split (fun _ => wpAny_bind (wpAny_setField_rec hz (by show 1 < 5; decide) fun h' z' sb => wpAny_pure (h h' z' sb))) fun e => absurd rfl e
theorem zo_item {Q : Value → Shared → Prop} (S : ZipSep2 z TI TO i1 i2 fp1 fp2) (D1 : Draws prog w A i1 fp1 n1 P1 St1) (D2 : Draws prog w A i2 fp2 n2 P2 St2) (hz : ZO s.heap z TI TO T f) (hTI : IsTupOf2 s.heap TI (.ref i1) (.ref i2)) (hT : s.heap.get? T = some oT) (Tz : T ≠ z)
    (st1 : St1 i s.heap) (st2 : St2 i s.heap) (lt1 : i < n1) (lt2 : i < n2)
    (hQ : ∀ x1 x2 h' tk, P1 i x1 → P2 i x2 → ZO h' z TI TO T true → St1 (i + 1) h' → St2 (i + 1) h' → IsTupOf2 h' s.heap.objs.size x1 x2 → h'.objs.size = s.heap.objs.size + 1 → (∀ c o, c ≠ z → c ≠ i1 → c ≠ i2 → s.heap.get? c = some o → h'.get? c = some o) → Q (.ref s.heap.objs.size) { s with heap := h', toks := tk }) :
    wpAny (model prog w) A (Builtin.«zip.__next__» ⟨[.ref z], []⟩) (fun fin s' => ∃ v, fin = .done (.ret v) ∧ Q v s') E s := by
  refine (show wpAny _ _ (field (.ref z) 2 >>= _) _ _ _ from wpAny_bind (wpAny_field hz rfl (x := .bool false) rfl (show wpAny _ _ (field (.ref z) 3 >>= _) _ _ _ from wpAny_bind (wpAny_field hz rfl (x := .ref TI) rfl (wpAny_bind (wpAny_seqItems hTI rfl ?_))))))
  refine (show wpAny _ _ (Builtin.SmallTypes.ownedTupleIsFree (.ref z) >>= _) _ _ _ from wpAny_bind (zo_free hz hT fun g1 z1 b1 => ?_))
  refine wpAny_ite_split (fun e => absurd e Bool.false_ne_true) fun _ => wpAny_bind ?_
  rw [← Array.forIn_toList]
  simp only [List.forIn_cons, List.forIn_nil]
  have s1 : St1 i g1 := D1.over st1 b1 S.zf1
  have s2 : St2 i g1 := D2.over st2 b1 S.zf2
  refine wpAny_bind (wpAny_bind (wpAny_holding ?_))
  refine (show wpAny _ _ (Builtin.SmallTypes.nextOf (.ref i1) >>= _) _ _ _ from wpAny_bind (D1.item i _ _ _ lt1 s1 fun x1 g2 tk1 p1 s1' b2 => wpAny_pure ?_))
  refine wpAny_pure ?_
  refine wpAny_bind (wpAny_bind (wpAny_holding ?_))
  have s2' : St2 i g2 := D2.over s2 b2 S.sep1_2
  refine (show wpAny _ _ (Builtin.SmallTypes.nextOf (.ref i2) >>= _) _ _ _ from wpAny_bind (D2.item i _ _ _ lt2 s2' fun x2 g3 tk2 p2 s2'' b3 => wpAny_pure ?_))
  refine wpAny_pure (wpAny_pure (wpAny_bind (wpAny_newTuple (hsz := by show 2 ≤ sizeLine; decide) (wpAny_pure ⟨_, rfl, ?_⟩))))
  have sz : g3.objs.size = s.heap.objs.size := b3.1.trans (b2.1.trans b1.1)
  have up : ∀ c o, g3.get? c = some o → (g3.push { cls := .type "tuple", data := .seq #[x1, x2] }).get? c = some o := fun c o e => Heap.get?_push_of_some _ e
  have old : ∀ c o, c ≠ z → c ≠ i1 → c ≠ i2 → s.heap.get? c = some o → g3.get? c = some o := fun c o n0 n1 n2 e => b3.extBut _ _ n2 (b2.extBut _ _ n1 (b1.extBut _ _ n0 e))
  have z3 : ZO g3 z TI TO T true := b3.extBut _ _ S.zi2 (b2.extBut _ _ S.zi1 z1)
  have new : IsTupOf2 (g3.push { cls := .type "tuple", data := .seq #[x1, x2] }) g3.objs.size x1 x2 := Heap.get?_push_size _ rfl
  show Q (.ref g3.objs.size) _
  rw [sz] at new ⊢
  refine hQ x1 x2 (g3.push { cls := .type "tuple", data := .seq #[x1, x2] }) tk2 p1 p2 (up _ _ z3) (D1.frame _ _ _ (D1.over s1' b3 S.sep2_1) fun b _ o e => up b o e) (D2.frame _ _ _ s2'' fun b _ o e => up b o e) new (by rw [Heap.size_push, sz]) fun c o n0 n1 n2 e => up c o (old c o n0 n1 n2 e)
theorem zo_end {Q : PySem.Fin → Shared → Prop} (S : ZipSep2 z TI TO i1 i2 fp1 fp2) (D1 : Draws prog w A i1 fp1 n1 P1 St1) (D2 : Draws prog w A i2 fp2 n2 P2 St2) (hz : ZO s.heap z TI TO T f) (hTI : IsTupOf2 s.heap TI (.ref i1) (.ref i2)) (hT : s.heap.get? T = some oT) (Tz : T ≠ z)
    (st1 : St1 n1 s.heap) (hE : ∀ h' e, (∀ c o, c ≠ z → c ≠ i1 → s.heap.get? c = some o → h'.get? c = some o) → (∃ o, h'.get? e = some o ∧ o.cls = .type "StopIteration") → E (.ref e) { s with heap := h' }) :
    wpAny (model prog w) A (Builtin.«zip.__next__» ⟨[.ref z], []⟩) Q E s := by
  refine (show wpAny _ _ (field (.ref z) 2 >>= _) _ _ _ from wpAny_bind (wpAny_field hz rfl (x := .bool false) rfl (show wpAny _ _ (field (.ref z) 3 >>= _) _ _ _ from wpAny_bind (wpAny_field hz rfl (x := .ref TI) rfl (wpAny_bind (wpAny_seqItems hTI rfl ?_))))))
  refine (show wpAny _ _ (Builtin.SmallTypes.ownedTupleIsFree (.ref z) >>= _) _ _ _ from wpAny_bind (zo_free hz hT fun g1 z1 b1 => ?_))
  refine wpAny_ite_split (fun e => absurd e Bool.false_ne_true) fun _ => wpAny_bind ?_
  rw [← Array.forIn_toList]
  simp only [List.forIn_cons, List.forIn_nil]
  have s1 : St1 n1 g1 := D1.over st1 b1 S.zf1
  refine wpAny_bind (wpAny_bind (wpAny_holding ?_))
  refine (show wpAny _ _ (Builtin.SmallTypes.nextOf (.ref i1) >>= _) _ _ _ from wpAny_bind (D1.done _ _ _ s1 fun g2 e b2 he => ?_))
  exact hE g2 e (fun c o n0 n1 q => b2 _ _ n1 (b1.extBut _ _ n0 q)) he
theorem zo_next {Q : Option Value → Shared → Prop} (S : ZipSep2 z TI TO i1 i2 fp1 fp2) (D1 : Draws prog w A.in1 i1 fp1 n1 P1 St1) (D2 : Draws prog w A.in1 i2 fp2 n2 P2 St2) (hz : ZO s.heap z TI TO T f) (hTI : IsTupOf2 s.heap TI (.ref i1) (.ref i2)) (hT : s.heap.get? T = some oT) (Tz : T ≠ z)
    (st1 : St1 i s.heap) (st2 : St2 i s.heap) (lt1 : i < n1) (lt2 : i < n2)
    (hQ : ∀ x1 x2 h' tk, P1 i x1 → P2 i x2 → ZO h' z TI TO T true → St1 (i + 1) h' → St2 (i + 1) h' → IsTupOf2 h' s.heap.objs.size x1 x2 → h'.objs.size = s.heap.objs.size + 1 → (∀ c o, c ≠ z → c ≠ i1 → c ≠ i2 → s.heap.get? c = some o → h'.get? c = some o) → Q (some (.ref s.heap.objs.size)) { s with heap := h', toks := tk }) :
    wpAny (model prog w) A (pyNext (.ref z)) Q E s := by
  have ty : s.TypeIs (.ref z) "zip" := ⟨_, hz, rfl⟩
  unfold pyNext
  exact wpAny_bind (wpAny_attempt (wpAny_callSpecial?_slot (name := Str.ofString "__next__") ty PySem.F.slot_zip_next (wpAny_call_entry PySem.F.slot_zip_next ty PySem.F.entry_zip_next (zo_item S D1 D2 hz hTI hT Tz st1 st2 lt1 lt2 fun x1 x2 h' tk a b c d e g m n => wpAny_pure (hQ x1 x2 h' tk a b c d e g m n)) (PySem.F.args_zip_next_1 _))))
theorem zo_stop {Q : Option Value → Shared → Prop} (S : ZipSep2 z TI TO i1 i2 fp1 fp2) (D1 : Draws prog w A.in1 i1 fp1 n1 P1 St1) (D2 : Draws prog w A.in1 i2 fp2 n2 P2 St2) (hz : ZO s.heap z TI TO T f) (hTI : IsTupOf2 s.heap TI (.ref i1) (.ref i2)) (hT : s.heap.get? T = some oT) (Tz : T ≠ z)
    (st1 : St1 n1 s.heap) (hQ : ∀ h', (∀ c o, c ≠ z → c ≠ i1 → s.heap.get? c = some o → h'.get? c = some o) → Q none { s with heap := h' }) :
    wpAny (model prog w) A (pyNext (.ref z)) Q E s := by
  have ty : s.TypeIs (.ref z) "zip" := ⟨_, hz, rfl⟩
  unfold pyNext
  refine wpAny_bind (wpAny_attempt (wpAny_callSpecial?_slot (name := Str.ofString "__next__") ty PySem.F.slot_zip_next (wpAny_call_entry PySem.F.slot_zip_next ty PySem.F.entry_zip_next (zo_end S D1 D2 hz hTI hT Tz st1 fun h' e k he => ?_) (PySem.F.args_zip_next_1 _))))
  obtain ⟨o, ho, hc⟩ := he
  exact wpAny_bind (wpAny_isInstance (T := "StopIteration") (b := true) ⟨o, ho, hc⟩ isSubtype_stop (wpAny_pure (hQ _ k)))
end
/-- the pairs that were made: one behind another, in new places -/
structure ZMade (P1 P2 : Nat → Value → Prop) (lo : Addr) (h : Heap) (as : List Addr) : Prop where
  rise : as.Pairwise (· < ·)
  above : ∀ a ∈ as, lo < a
  pairs : ∀ (j : Nat) (a : Addr), as[j]? = some a → ∃ x1 x2, P1 j x1 ∧ P2 j x2 ∧ IsTupOf2 h a x1 x2
/-- the zip, behind so many pairs that are all held -/
def ZAny (z TI TO i1 i2 : Addr) (h : Heap) (as : List Addr) : Prop := IsTupOf2 h TI (.ref i1) (.ref i2) ∧ ((as = [] ∧ IsZip h z TI TO .none ∧ ∃ a b, IsTupOf2 h TO a b) ∨ ∃ T f, T ∈ as ∧ ZO h z TI TO T f)
section
variable {prog : Program} {w : World} {A : Around} {E : Value → Shared → Prop} {s : Shared} {z TI TO i1 i2 lo : Addr} {fp1 fp2 : List Addr} {n i : Nat} {P1 P2 : Nat → Value → Prop} {St1 St2 : Nat → Heap → Prop} {as : List Addr}
theorem ZMade.alive {h : Heap} (m : ZMade P1 P2 lo h as) {a : Addr} (ha : a ∈ as) : ∃ o, h.get? a = some o := by
  obtain ⟨j, hj⟩ := List.mem_iff_getElem?.mp ha
  obtain ⟨_, _, _, _, e⟩ := m.pairs j a hj
  exact ⟨_, e⟩
theorem za_next {Q : Option Value → Shared → Prop} (S : ZipSep2 z TI TO i1 i2 fp1 fp2) (D1 : Draws prog w A.in1 i1 fp1 n P1 St1) (D2 : Draws prog w A.in1 i2 fp2 n P2 St2) (za : ZAny z TI TO i1 i2 s.heap as) (m : ZMade P1 P2 lo s.heap as) (zl : z < lo)
    (st1 : St1 i s.heap) (st2 : St2 i s.heap) (lt : i < n)
    (hQ : ∀ x1 x2 h' tk, P1 i x1 → P2 i x2 → ZAny z TI TO i1 i2 h' (as ++ [s.heap.objs.size]) → St1 (i + 1) h' → St2 (i + 1) h' → IsTupOf2 h' s.heap.objs.size x1 x2 → h'.objs.size = s.heap.objs.size + 1 → (∀ c o, c ≠ z → c ≠ TO → c ≠ i1 → c ≠ i2 → s.heap.get? c = some o → h'.get? c = some o) → Q (some (.ref s.heap.objs.size)) { s with heap := h', toks := tk }) :
    wpAny (model prog w) A (pyNext (.ref z)) Q E s := by
  obtain ⟨hTI, ⟨rfl, hz, a, b, hTO⟩ | ⟨T, f, hT, hz⟩⟩ := za
  · exact wpAny_pyNext_zipD2_item S D1 D2 hz hTI hTO st1 st2 lt lt fun x1 x2 h' tk p1 p2 z' TO' s1 s2 t sz k => hQ x1 x2 h' tk p1 p2 ⟨k _ _ S.TIz S.TITO S.TIi1 S.TIi2 hTI, .inr ⟨_, false, List.mem_singleton.mpr rfl, z'⟩⟩ s1 s2 t sz k
  · obtain ⟨oT, eT⟩ := m.alive hT
    exact zo_next S D1 D2 hz hTI eT (Nat.ne_of_gt (Nat.lt_trans zl (m.above T hT))) st1 st2 lt lt fun x1 x2 h' tk p1 p2 z' s1 s2 t sz k => hQ x1 x2 h' tk p1 p2 ⟨k _ _ S.TIz S.TIi1 S.TIi2 hTI, .inr ⟨T, true, List.mem_append_left _ hT, z'⟩⟩ s1 s2 t sz fun c o n0 _ n1 n2 e => k c o n0 n1 n2 e
theorem za_stop {Q : Option Value → Shared → Prop} (S : ZipSep2 z TI TO i1 i2 fp1 fp2) (D1 : Draws prog w A.in1 i1 fp1 n P1 St1) (D2 : Draws prog w A.in1 i2 fp2 n P2 St2) (za : ZAny z TI TO i1 i2 s.heap as) (m : ZMade P1 P2 lo s.heap as) (zl : z < lo)
    (st1 : St1 n s.heap) (st2 : St2 n s.heap) (hQ : ∀ h' tk, (∀ c o, c ≠ z → c ≠ TO → c ≠ i1 → c ≠ i2 → s.heap.get? c = some o → h'.get? c = some o) → Q none { s with heap := h', toks := tk }) :
    wpAny (model prog w) A (pyNext (.ref z)) Q E s := by
  obtain ⟨hTI, ⟨rfl, hz, a, b, hTO⟩ | ⟨T, f, hT, hz⟩⟩ := za
  · exact wpAny_pyNext_zipD2_end S D1 D2 hz hTI hTO st1 st2 (Nat.le_refl _) (Nat.le_refl _) (.inl rfl) hQ
  · obtain ⟨oT, eT⟩ := m.alive hT
    exact zo_stop S D1 D2 hz hTI eT (Nat.ne_of_gt (Nat.lt_trans zl (m.above T hT))) st1 fun h' k => hQ h' s.toks fun c o n0 _ n1 _ e => k c o n0 n1 e
end
section
variable {prog : Program} {w : World} {A : Around} {s : Shared} {R : Result → Shared → Prop} {z TI TO i1 i2 L : Addr} {fp1 fp2 : List Addr} {n : Nat} {P1 P2 : Nat → Value → Prop} {St1 St2 : Nat → Heap → Prop}
/-- L.extend(zip): the loop -/
theorem zip_loop (S : ZipSep2 z TI TO i1 i2 fp1 fp2) (D1 : Draws prog w A.in1.in1 i1 fp1 n P1 St1) (D2 : Draws prog w A.in1.in1 i2 fp2 n P2 St2) (below : ∀ c ∈ [z, TI, TO, i1, i2], c < L) (f1 : ∀ c ∈ fp1, c < L) (f2 : ∀ c ∈ fp2, c < L) (few : n ≤ sizeLine) (res : Value) {h0 : Heap}
    (hR : ∀ h' tk acc c as, (∀ b o, b ∉ [L, z, TO, i1, i2] → h0.get? b = some o → h'.get? b = some o) → h'.get? L = some { cls := .type "list", dict := none, data := .seq acc c, slots := #[] } → as.length = n → ZMade P1 P2 L h' as → acc.toList = as.map Value.ref → R (.ok (.ret res)) { s with heap := h', toks := tk }) :
    ∀ (k i : Nat) (h : Heap) (tk c : Nat) (acc : Array Value) (as : List Addr), n - i = k → i ≤ n → ZAny z TI TO i1 i2 h as → St1 i h → St2 i h → (∀ b o, b ∉ [L, z, TO, i1, i2] → h0.get? b = some o → h.get? b = some o) →
      h.get? L = some { cls := .type "list", dict := none, data := .seq acc c, slots := #[] } → acc.toList = as.map Value.ref → as.length = i → ZMade P1 P2 L h as → codeAny (model prog w) A (.builtin "list.extend.loop" ⟨[.ref L, .ref z, res], []⟩) R { s with heap := h, toks := tk } := by
  have zL : z < L := below z (by simp)
  have bl : ∀ c ∈ [z, TI, TO, i1, i2], L ≠ c := fun c hc => Nat.ne_of_gt (below c hc)
  intro k
  induction k with
  | zero =>
    intro i h tk c acc as hk hi za s1 s2 keep hL hacc la m
    obtain rfl : i = n := by omega
    refine codeAny_builtin PySem.F.entry_extend_loop ?_
    rw [Around.under_plainId PySem.F.plain_extend_loop]
    refine (show wpAny _ A.in1 (pyNext (.ref z) >>= _) _ _ _ from wpAny_bind (za_stop (s := { s with heap := h, toks := tk }) S D1 D2 za m zL s1 s2 fun h' tk' kp => wpAny_pure (hR h' tk' acc c as (fun b o nb e => ?_) (kp L _ (bl z (by simp)) (bl TO (by simp)) (bl i1 (by simp)) (bl i2 (by simp)) hL) la ⟨m.rise, m.above, fun j a hj => ?_⟩ hacc)))
    · have nb2 := nb
      simp only [List.mem_cons, List.not_mem_nil, or_false, not_or] at nb2
      exact kp b o nb2.2.1 nb2.2.2.1 nb2.2.2.2.1 nb2.2.2.2.2 (keep b o nb e)
    · obtain ⟨x1, x2, p1, p2, e⟩ := m.pairs j a hj
      have ga := m.above a (List.mem_of_getElem? hj)
      have gt : ∀ c ∈ [z, TI, TO, i1, i2], a ≠ c := fun c hc => Nat.ne_of_gt (Nat.lt_trans (below c hc) ga)
      exact ⟨x1, x2, p1, p2, kp a _ (gt z (by simp)) (gt TO (by simp)) (gt i1 (by simp)) (gt i2 (by simp)) e⟩
  | succ k ih =>
    intro i h tk c acc as hk hi za s1 s2 keep hL hacc la m
    have lt : i < n := by omega
    have asz : acc.size = i := by rw [← Array.length_toList, hacc, List.length_map, la]
    have Ll : L < h.objs.size := Heap.lt_size hL
    refine codeAny_builtin PySem.F.entry_extend_loop ?_
    rw [Around.under_plainId PySem.F.plain_extend_loop]
    refine (show wpAny _ A.in1 (pyNext (.ref z) >>= _) _ _ _ from wpAny_bind (za_next (s := { s with heap := h, toks := tk }) S D1 D2 za m zL s1 s2 lt fun x1 x2 h' tk' p1 p2 za' s1' s2' t sz kp => ?_))
    dsimp only at t sz kp za' ⊢
    have hL' := kp L _ (bl z (by simp)) (bl TO (by simp)) (bl i1 (by simp)) (bl i2 (by simp)) hL
    have up : ∀ b o, b ≠ L → h'.get? b = some o → (h'.update L (Obj.mapSeq (·.push (Value.ref h.objs.size)))).get? b = some o := fun b o nb e => (Heap.get?_update_other _ _ nb.symm).trans e
    have zs : ∀ c ∈ [z, TI, TO, i1, i2], c ≠ L := fun c hc => (bl c hc).symm
    have za2 : ZAny z TI TO i1 i2 (h'.update L (Obj.mapSeq (·.push (Value.ref h.objs.size)))) (as ++ [h.objs.size]) := by
      obtain ⟨a, b | ⟨T, f, hT, hz⟩⟩ := za'
      · exact absurd b.1 (by simp)
      · exact ⟨up _ _ (zs TI (by simp)) a, .inr ⟨T, f, hT, up _ _ (zs z (by simp)) hz⟩⟩
    have keep2 : ∀ b o, b ∉ [L, z, TO, i1, i2] → h0.get? b = some o → (h'.update L (Obj.mapSeq (·.push (Value.ref h.objs.size)))).get? b = some o := fun b o nb e => by
      have nb2 := nb
      simp only [List.mem_cons, List.not_mem_nil, or_false, not_or] at nb2
      exact up b o nb2.1 (kp b o nb2.2.1 nb2.2.2.1 nb2.2.2.2.1 nb2.2.2.2.2 (keep b o nb e))
    have m2 : ZMade P1 P2 L (h'.update L (Obj.mapSeq (·.push (Value.ref h.objs.size)))) (as ++ [h.objs.size]) := by
      refine ⟨List.pairwise_append.mpr ⟨m.rise, List.pairwise_singleton _ _, fun a ha b hb => ?_⟩, fun a ha => ?_, fun j b hj => ?_⟩
      · rw [List.mem_singleton.mp hb]
        obtain ⟨o, e⟩ := m.alive ha
        exact Heap.lt_size e
      · rcases List.mem_append.mp ha with ha | ha
        · exact m.above a ha
        · rw [List.mem_singleton.mp ha]
          exact Ll
      · by_cases q : j < as.length
        · rw [List.getElem?_append_left q] at hj
          obtain ⟨y1, y2, q1, q2, e⟩ := m.pairs j b hj
          have ga := m.above b (List.mem_of_getElem? hj)
          have gt : ∀ c ∈ [z, TI, TO, i1, i2], b ≠ c := fun c hc => Nat.ne_of_gt (Nat.lt_trans (below c hc) ga)
          exact ⟨y1, y2, q1, q2, up _ _ (Nat.ne_of_gt ga) (kp b _ (gt z (by simp)) (gt TO (by simp)) (gt i1 (by simp)) (gt i2 (by simp)) e)⟩
        · rw [List.getElem?_append_right (by omega)] at hj
          obtain ⟨q0, e⟩ := List.getElem?_eq_some_iff.mp hj
          have j0 : j - as.length = 0 := by
            have : [h.objs.size].length = 1 := rfl
            omega
          have eb : h.objs.size = b := by
            rw [← e]
            simp only [j0, List.getElem_cons_zero]
          have ji : j = i := by omega
          subst ji
          rw [← eb]
          exact ⟨x1, x2, p1, p2, up _ _ (Nat.ne_of_gt Ll) t⟩
    refine (show wpAny _ A.in1 (updateSeq L (·.push (Value.ref h.objs.size)) >>= _) _ _ _ from wpAny_bind (wpAny_updateSeq hL' rfl (wpAny_pure ⟨plainId_quiet PySem.F.plain_extend_loop _, ih (i + 1) _ tk' _ (acc.push (Value.ref h.objs.size)) (as ++ [h.objs.size]) (by omega) lt za2 (D1.over s1' (Heap.SameBut.update ..) fun q => Nat.lt_irrefl _ (f1 _ q)) (D2.over s2' (Heap.SameBut.update ..) fun q => Nat.lt_irrefl _ (f2 _ q)) keep2 (Heap.get?_update_self _ hL' rfl) (by rw [Array.toList_push, hacc, List.map_append]; rfl) (by rw [List.length_append, la]; rfl) m2⟩) (by rw [asz]; omega) (by show (acc.push (Value.ref h.objs.size)).size ≤ sizeLine + 1; rw [Array.size_push, asz]; omega)))
end
theorem zip_no_len : typeLookup (.type "zip") "__len__" = pure none := by
  rw [typeLookup_type, builtinLookup_eq_fast]
  kernel_rfl
theorem zip_no_hint : typeLookup (.type "zip") "__length_hint__" = pure none := by
  rw [typeLookup_type, builtinLookup_eq_fast]
  kernel_rfl
section
variable {prog : Program} {w : World} {A : Around} {s : Shared} {R : Result → Shared → Prop} {z TI TO i1 i2 L : Addr} {fp1 fp2 : List Addr} {n : Nat} {P1 P2 : Nat → Value → Prop} {St1 St2 : Nat → Heap → Prop}
theorem zip_extend (S : ZipSep2 z TI TO i1 i2 fp1 fp2) (D1 : Draws prog w A.in1.in1 i1 fp1 n P1 St1) (D2 : Draws prog w A.in1.in1 i2 fp2 n P2 St2) (below : ∀ c ∈ [z, TI, TO, i1, i2], c < L) (f1 : ∀ c ∈ fp1, c < L) (f2 : ∀ c ∈ fp2, c < L) (few : n ≤ sizeLine) (res : Value) {c0 : Nat}
    (hz : IsZip s.heap z TI TO .none) (za : ZAny z TI TO i1 i2 s.heap []) (s1 : St1 0 s.heap) (s2 : St2 0 s.heap) (hL : s.heap.get? L = some { cls := .type "list", data := .seq #[] c0 })
    (hR : ∀ h' tk acc c as, (∀ b o, b ∉ [L, z, TO, i1, i2] → s.heap.get? b = some o → h'.get? b = some o) → h'.get? L = some { cls := .type "list", dict := none, data := .seq acc c, slots := #[] } → as.length = n → ZMade P1 P2 L h' as → acc.toList = as.map Value.ref → R (.ok (.ret res)) { s with heap := h', toks := tk }) :
    wpAny (model prog w) A.in1 (Builtin.List.listExtendWith (.ref L) (.ref z) res) (fun fin s' => match fin with | .done f => R (.ok f) s' | .again c' => c'.quiet = true ∧ codeAny (model prog w) A c' R s') (fun e s' => R (.error e) s') s := by
  have zL : z < L := below z (by simp)
  have ty : s.TypeIs (.ref z) "zip" := ⟨_, hz, rfl⟩
  have go : ∀ (h : Heap) (c1 : Nat), (∀ b o, b ≠ L → s.heap.get? b = some o → h.get? b = some o) → h.get? L = some { cls := .type "list", dict := none, data := .seq #[] c1, slots := #[] } → codeAny (model prog w) A (.builtin "list.extend.loop" ⟨[.ref L, .ref z, res], []⟩) R { s with heap := h } := fun h c1 k e => by
    have kz : ∀ c ∈ [z, TI, TO, i1, i2], c ≠ L := fun c hc => Nat.ne_of_lt (below c hc)
    obtain ⟨a, b | ⟨T, f, hT, _⟩⟩ := za
    · obtain ⟨_, b1, x, y, b2⟩ := b
      refine zip_loop (h0 := s.heap) S D1 D2 below f1 f2 few res hR n 0 h s.toks c1 #[] [] (Nat.sub_zero _) (Nat.zero_le _) ⟨k _ _ (kz TI (by simp)) a, .inl ⟨rfl, k _ _ (kz z (by simp)) b1, x, y, k _ _ (kz TO (by simp)) b2⟩⟩ (D1.frame _ _ _ s1 fun b hb o e => k b o (Nat.ne_of_lt (f1 b hb)) e) (D2.frame _ _ _ s2 fun b hb o e => k b o (Nat.ne_of_lt (f2 b hb)) e) (fun b o nb e => k b o (fun q => nb (by simp [q])) e) e rfl rfl ⟨List.Pairwise.nil, fun _ ha => absurd ha List.not_mem_nil, fun j a hj => by cases hj⟩
    · exact absurd hT List.not_mem_nil
  unfold Builtin.List.listExtendWith
  refine wpAny_bind (wpAny_typeOf ty ?_)
  have e1 : Builtin.List.listSameRef (.ref L) (.ref z) = false := by simp [Builtin.List.listSameRef, Nat.ne_of_gt zL]
  have e2 : ((Value.type "zip" == Value.type "list") || (Value.type "zip" == Value.type "tuple")) = false := by decide
  simp only [e1, e2, Bool.false_or, Bool.or_false, Bool.false_eq_true, if_false]
  refine wpAny_bind (wpAny_pyIter_zip hz (wpAny_bind (wpAny_holding ?_)))
  unfold Builtin.List.listLengthHint
  refine wpAny_bind (wpAny_specialOf ty zip_no_len ?_)
  refine (show wpAny _ A.in1 (specialOf (Value.ref z) (Str.ofString "__length_hint__") >>= _) _ _ _ from wpAny_bind (wpAny_specialOf ty zip_no_hint (wpAny_pure ?_)))
  refine (show wpAny _ A.in1 (rule "list.extend.makes-room" >>= fun _ => Builtin.List.listTouch (.ref L) >>= fun _ => again (.builtin "list.extend.loop" ⟨[.ref L, .ref z, res], []⟩)) _ _ _ from wpAny_bind (wpAny_rule (wpAny_bind ?_)))
  show wpAny _ A.in1 (updateSeq L (·.push Value.none) >>= fun _ => updateSeq L (·.pop)) _ _ _
  refine wpAny_bind (wpAny_updateSeq hL rfl ?_)
  have h2 := Heap.get?_update_self (Obj.mapSeq (·.push Value.none)) hL rfl
  refine wpAny_updateSeq (hz := by seq_fits) h2 rfl ?_
  have h3 := Heap.get?_update_self (Obj.mapSeq (·.pop)) h2 rfl
  exact wpAny_pure ⟨plainId_quiet PySem.F.plain_extend_loop _, go _ _ (fun b o nb e => (Heap.get?_update_other _ _ nb.symm).trans ((Heap.get?_update_other _ _ nb.symm).trans e)) h3⟩
theorem zip_init (S : ZipSep2 z TI TO i1 i2 fp1 fp2) (D1 : Draws prog w A.in1.in1 i1 fp1 n P1 St1) (D2 : Draws prog w A.in1.in1 i2 fp2 n P2 St2) (below : ∀ c ∈ [z, TI, TO, i1, i2], c < L) (f1 : ∀ c ∈ fp1, c < L) (f2 : ∀ c ∈ fp2, c < L) (few : n ≤ sizeLine)
    (hz : IsZip s.heap z TI TO .none) (za : ZAny z TI TO i1 i2 s.heap []) (s1 : St1 0 s.heap) (s2 : St2 0 s.heap) (hL : s.heap.get? L = some { cls := .type "list", data := .seq #[] })
    (hR : ∀ h' tk acc c as, (∀ b o, b ∉ [L, z, TO, i1, i2] → s.heap.get? b = some o → h'.get? b = some o) → h'.get? L = some { cls := .type "list", dict := none, data := .seq acc c, slots := #[] } → as.length = n → ZMade P1 P2 L h' as → acc.toList = as.map Value.ref → R (.ok (.ret .none)) { s with heap := h', toks := tk }) :
    wpAny (model prog w) A.in1 (Builtin.«list.__init__» ⟨[.ref L, .ref z], []⟩) (fun fin s' => match fin with | .done f => R (.ok f) s' | .again c' => c'.quiet = true ∧ codeAny (model prog w) A c' R s') (fun e s' => R (.error e) s') s := by
  have kz : ∀ c ∈ [z, TI, TO, i1, i2], c ≠ L := fun c hc => Nat.ne_of_lt (below c hc)
  refine (show wpAny _ A.in1 (do let old ← Builtin.List.listItems (.ref L); Builtin.List.listUpdate (.ref L) (fun _ => #[]); letGo old.toList.reverse; Builtin.List.listExtendWith (.ref L) (.ref z) .none) _ _ s from wpAny_bind ?_)
  unfold Builtin.List.listItems
  refine wpAny_bind (wpAny_seqItems hL rfl (wpAny_pure ?_))
  refine (show wpAny _ A.in1 (updateSeq L (fun _ => #[]) >>= fun _ => letGo (#[] : Array Value).toList.reverse >>= fun _ => Builtin.List.listExtendWith (.ref L) (.ref z) .none) _ _ s from wpAny_bind (wpAny_updateSeq hL rfl ?_))
  have h2 := Heap.get?_update_self (Obj.mapSeq (fun _ => (#[] : Array Value))) hL rfl
  have oth : ∀ b o, b ≠ L → s.heap.get? b = some o → (s.heap.update L (Obj.mapSeq (fun _ => (#[] : Array Value)))).get? b = some o := fun b o nb e => (Heap.get?_update_other _ _ nb.symm).trans e
  have za2 : ZAny z TI TO i1 i2 (s.heap.update L (Obj.mapSeq (fun _ => (#[] : Array Value)))) [] := by
    obtain ⟨a, b | ⟨T, f, hT, _⟩⟩ := za
    · obtain ⟨_, b1, x, y, b2⟩ := b
      exact ⟨oth _ _ (kz TI (by simp)) a, .inl ⟨rfl, oth _ _ (kz z (by simp)) b1, x, y, oth _ _ (kz TO (by simp)) b2⟩⟩
    · exact absurd hT List.not_mem_nil
  refine wpAny_bind (wpAny_letGo (zip_extend S D1 D2 below f1 f2 few .none (oth _ _ (kz z (by simp)) hz) za2 (D1.frame _ _ _ s1 fun b hb o e => oth b o (Nat.ne_of_lt (f1 b hb)) e) (D2.frame _ _ _ s2 fun b hb o e => oth b o (Nat.ne_of_lt (f2 b hb)) e) h2 fun h' tk acc c as k => hR h' tk acc c as fun b o nb e => k b o nb (oth b o (fun q => nb (by simp [q])) e)))
end
section
variable {prog : Program} {w : World} {A : Around} {E : Value → Shared → Prop} {s : Shared} {z TI TO i1 i2 : Addr} {fp1 fp2 : List Addr} {n : Nat} {P1 P2 : Nat → Value → Prop} {St1 St2 : Nat → Heap → Prop}
/-- list(zip) -/
theorem call_list_zip {Q : Value → Shared → Prop} (S : ZipSep2 z TI TO i1 i2 fp1 fp2) (D1 : Draws prog w A.in1.in1.in1 i1 fp1 n P1 St1) (D2 : Draws prog w A.in1.in1.in1 i2 fp2 n P2 St2) (f1 : ∀ c ∈ fp1, c < s.heap.objs.size) (f2 : ∀ c ∈ fp2, c < s.heap.objs.size) (few : n ≤ sizeLine)
    (hz : IsZip s.heap z TI TO .none) (hTI : IsTupOf2 s.heap TI (.ref i1) (.ref i2)) (hTO : ∃ a b, IsTupOf2 s.heap TO a b) (s1 : St1 0 s.heap) (s2 : St2 0 s.heap)
    (hQ : ∀ h' tk acc c as, (∀ b o, b ∉ [z, TO, i1, i2] → s.heap.get? b = some o → h'.get? b = some o) → h'.get? s.heap.objs.size = some { cls := .type "list", dict := none, data := .seq acc c, slots := #[] } → as.length = n → ZMade P1 P2 s.heap.objs.size h' as → acc.toList = as.map Value.ref → Q (.ref s.heap.objs.size) { s with heap := h', toks := tk }) :
    wpAny (model prog w) A (call (.type "list") [.ref z]) Q E s := by
  have below : ∀ c ∈ [z, TI, TO, i1, i2], c < s.heap.objs.size := five (Heap.lt_size hz) (Heap.lt_size hTI) (let ⟨_, _, e⟩ := hTO; Heap.lt_size e) (f1 _ S.mem1) (f2 _ S.mem2)
  refine callType_codes (Q₁ := fun obj s₁ => obj = .ref s.heap.objs.size ∧ s₁ = { s with heap := s.heap.push { cls := .type "list", data := .seq #[] } }) PySem.F.called_list (PySem.F.typeCall_list_1 _) PySem.F.entry_list_init (code_list_new _ ⟨rfl, rfl⟩) fun obj s₁ h₁ => ?_
  obtain ⟨rfl, rfl⟩ := h₁
  have hL : (s.heap.push { cls := .type "list", data := .seq #[] }).get? s.heap.objs.size = some { cls := .type "list", data := .seq #[] } := Heap.get?_push_size _ rfl
  have up : ∀ b o, s.heap.get? b = some o → (s.heap.push { cls := .type "list", data := .seq #[] }).get? b = some o := fun b o e => Heap.get?_push_of_some _ e
  obtain ⟨x, y, hTO⟩ := hTO
  refine ⟨⟨_, hL, rfl⟩, PySem.F.args_list_init_2 _ _, zip_init (A := A.in1) S D1 D2 below f1 f2 few (up _ _ hz) ⟨up _ _ hTI, .inl ⟨rfl, up _ _ hz, x, y, up _ _ hTO⟩⟩ (D1.frame _ _ _ s1 fun b _ o e => up b o e) (D2.frame _ _ _ s2 fun b _ o e => up b o e) hL fun h' tk acc c as k e la m ha => ⟨rfl, hQ h' tk acc c as (fun b o nb q => ?_) e la m ha⟩⟩
  refine k b o (fun hb => ?_) (up b o q)
  rcases List.mem_cons.mp hb with e | hb
  · rw [e] at q
    exact absurd (Heap.lt_size q) (Nat.lt_irrefl _)
  · exact nb hb
end
/-- list(zip(x, y)), x and y of one length -/
def tListZ (K : PySem.W.Frag) (ta : TA) : TE := fun σ H Q => ta σ H fun vs H1 => ∃ S1 S2 : Src, vs = [S1.val, S2.val] ∧ S1.at_ K H1 ∧ S2.at_ K H1 ∧ S2.items.length = S1.items.length ∧ S1.items.length ≤ sizeLine ∧
  ∀ (l : Addr) (as : List Addr) (H' : Hp), Same H1 H' → H1 l = none → H' l = some (.lst (as.map V.ref)) → as.length = S1.items.length → (∀ a ∈ as, H1 a = none) → (∀ (j : Nat) (x y : V), S1.items[j]? = some x → S2.items[j]? = some y → ∃ a, as[j]? = some a ∧ H' a = some (.tup [x, y])) → Q (.ref l) H'
theorem pe_listZ {X : Cx} {e e2 : Expr} {ta : TA} {p p2 pos pos2 : Pos} (hc : X.calm = true) (hg : Gl X "list") (hm : X.mg "list" = none) (hgz : Gl X "zip") (hmz : X.mg "zip" = none) (ha : PA X [e, e2] ta)
    (he : starEach [Expr.Call (.Name "zip" p2) [e, e2] [] pos2] X.env = (false, eval (.Call (.Name "zip" p2) [e, e2] [] pos2) X.env) :: starEach [] X.env := by rfl) (hs : starEach [e, e2] X.env = (false, eval e X.env) :: starEach [e2] X.env := by rfl) (hpl : (backTo pos2 (starEach [e2] X.env)).any (·.1) = false := by rfl) :
    PE X (.Call (.Name "list" p) [.Call (.Name "zip" p2) [e, e2] [] pos2] [] pos) (tListZ X.K ta) := by
  refine ⟨fun pins s σ H Q I hq => wpAny_Call_Name_kw (ld_blt I hg hm PyProof.Rows.boot_list (PyProof.Rows.callWith_type1 ?_ he rfl) (by decide) (by decide))⟩
  rw [he]
  refine (show wpAny _ _ (spliced ((false, eval (.Call (.Name "zip" p2) [e, e2] [] pos2) X.env) :: backTo pos (starEach [] X.env))) _ _ s from Calls.spliced_cons ?_)
  refine Call_ (ld_blt I hgz hmz PyProof.Rows.boot_zip (PyProof.Rows.callWith_type1 (thn (ha.run pos2 pins s σ H _ I hq) fun us s1 ⟨vs, H1, I1, rr, S1, S2, ex, a1, a2, en, few, q⟩ => ?_) hs hpl))
  subst ex
  obtain ⟨u1, t1, rfl, r1, rr⟩ : ∃ u r, us = u :: r ∧ RelV S1.val u ∧ Vals [S2.val] r := match us, rr with | _ :: _, .cons h t => ⟨_, _, rfl, h, t⟩
  obtain ⟨u2, rfl, r2⟩ := rr.one
  obtain ⟨o1, B1, b1, h1, k1⟩ := Src.begins I1 a1 r1
  obtain ⟨o2, B2, b2, h2, k2⟩ := Src.begins I1 a2 r2
  refine zip_begins2 b1 b2 h1 h2 fun h' hz hTI hTO g1 g2 hsz hk => Calls.spliced_nil ?_
  have I2 : Inv X pins σ H1 { s1 with heap := h' } := I1.kept (t' := s1.toks) hk
  have w1 := Src.own_lt I1 a1
  have w2 := Src.own_lt I1 a2
  have n1 : s1.heap.objs.size ∉ S1.own := fun m => Nat.lt_irrefl _ (w1 _ m)
  have n2 : s1.heap.objs.size + 1 ∉ S2.own := fun m => Nat.lt_irrefl _ (Nat.lt_trans (Nat.lt_succ_self _) (w2 _ m))
  have hh : X.A.in1.in1.in1.handled = none := I.ok.hd hc
  obtain ⟨P1, St1, D1, m1, e1, p1⟩ := Src.draws I2 hh a1 r1 n1
  obtain ⟨P2, St2, D2, m2, e2', p2'⟩ := Src.draws I2 hh a2 r2 n2
  rw [en] at D2
  have lt5 : ∀ k : Nat, k < 5 → s1.heap.objs.size + k < h'.objs.size := fun k h => by rw [hsz]; omega
  refine call_list_zip (s := { s1 with heap := h' }) (zip_sep2 w1 w2) D1 D2 (fun c hcm => ?_) (fun c hcm => ?_) few hz hTI ⟨_, _, hTO⟩ (m1 _ _ (fun _ _ => rfl) (k1 _ _ g1)) (m2 _ _ (fun _ _ => rfl) (k2 _ _ g2)) fun h'' tk acc c as kp hL la m hacc => ?_
  · rcases List.mem_cons.mp hcm with rfl | hcm
    · exact lt5 0 (by decide)
    · exact Nat.lt_trans (w1 c hcm) (lt5 0 (by decide))
  · rcases List.mem_cons.mp hcm with rfl | hcm
    · exact lt5 1 (by decide)
    · exact Nat.lt_trans (w2 c hcm) (lt5 0 (by decide))
  have ge : ∀ b ∈ [s1.heap.objs.size + 4, s1.heap.objs.size + 3, s1.heap.objs.size, s1.heap.objs.size + 1], s1.heap.objs.size ≤ b := fun b hb => by
    simp only [List.mem_cons, List.not_mem_nil, or_false] at hb
    rcases hb with rfl | rfl | rfl | rfl
    · exact Nat.le_add_right _ _
    · exact Nat.le_add_right _ _
    · exact Nat.le_refl _
    · exact Nat.le_add_right _ _
  have up : ∀ b o, s1.heap.get? b = some o → h''.get? b = some o := fun b o q => kp b o (fun hb => Nat.lt_irrefl _ (Nat.lt_of_lt_of_le (Heap.lt_size q) (ge b hb))) (hk b o q)
  have NL : s1.heap.objs.size ≤ h'.objs.size := Nat.le_of_lt (lt5 0 (by decide))
  have lenA : (as.map V.ref).length ≤ sizeLine := by rw [List.length_map, la]; exact few
  have refs : ∀ xs : List Addr, Vals (xs.map V.ref) (xs.map Value.ref) := fun xs => by
    induction xs with
    | nil => exact .nil
    | cons a xs ih => exact .cons rfl ih
  have I3 := I1.laid (a := h'.objs.size) (o := .lst (as.map V.ref)) (h' := h'') (t' := tk) up NL ⟨lenA, acc.toList, c, by rw [hacc]; exact refs as, hL⟩
  have hLn : H1 h'.objs.size = none := I1.hok.fresh NL
  have asN : ∀ a ∈ as, s1.heap.objs.size ≤ a ∧ a ≠ h'.objs.size := fun a ha => ⟨Nat.le_trans NL (Nat.le_of_lt (m.above a ha)), Nat.ne_of_gt (m.above a ha)⟩
  have nd : as.Nodup := List.Pairwise.imp (fun h => Nat.ne_of_lt h) m.rise
  obtain ⟨H2, I4, old, tups⟩ := L2.DX.takeT (P := fun a vs => ∃ j x y, as[j]? = some a ∧ S1.items[j]? = some x ∧ S2.items[j]? = some y ∧ vs = [x, y]) I1 as _ I3 nd fun a ha => by
    obtain ⟨j, hj⟩ := List.mem_iff_getElem?.mp ha
    obtain ⟨x1, x2, q1, q2, et⟩ := m.pairs j a hj
    obtain ⟨x, ix, rx⟩ := p1 j x1 q1
    obtain ⟨y, iy, ry⟩ := p2' j x2 q2
    exact ⟨(asN a ha).1, (upd_ne (asN a ha).2).trans (I1.hok.fresh (asN a ha).1), [x, y], ⟨j, x, y, hj, ix, iy, rfl⟩, fun H2 => ⟨by show 2 ≤ sizeLine; decide, [x1, x2], .cons rx (.cons ry .nil), _, et, rfl, _, rfl⟩⟩
  refine ⟨.ref h'.objs.size, H2, I4, rfl, q h'.objs.size as H2 (fun b o eb => old b o ((upd_ne (ne_of_none eb hLn)).trans eb)) hLn (old _ _ upd_same) la (fun a ha => I1.hok.fresh (asN a ha).1) fun j x y jx jy => ?_⟩
  have jl : j < as.length := by rw [la]; exact (List.getElem?_eq_some_iff.mp jx).1
  have hj : as[j]? = some (as[j]'jl) := List.getElem?_eq_getElem jl
  obtain ⟨vs, ⟨j2, x', y', q0, q1, q2, rfl⟩, ea⟩ := tups _ (List.mem_of_getElem? hj)
  obtain ⟨jl2, ej2⟩ := List.getElem?_eq_some_iff.mp q0
  have jj : j2 = j := (List.getElem_inj nd).mp ej2
  subst jj
  rw [jx] at q1
  rw [jy] at q2
  cases q1
  cases q2
  exact ⟨_, hj, ea⟩
end Wf
/-! J1: all states that words lead to, with their least words, found one after another -/
namespace Wf
open PySem L2
/-! ### words in order -/
def ltL (a b : List Nat) : Prop := a.length < b.length ∨ (a.length = b.length ∧ a < b)
def leL (a b : List Nat) : Prop := ltL a b ∨ a = b
theorem ltL_irrefl (a : List Nat) : ¬ ltL a a := fun h => h.elim (fun h => Nat.lt_irrefl _ h) fun h => List.lt_irrefl _ h.2
theorem ltL_trans {a b c : List Nat} (h : ltL a b) (g : ltL b c) : ltL a c := by
  rcases h with h | ⟨h1, h2⟩ <;> rcases g with g | ⟨g1, g2⟩
  · exact .inl (Nat.lt_trans h g)
  · exact .inl (by omega)
  · exact .inl (by omega)
  · exact .inr ⟨by omega, List.lt_trans h2 g2⟩
theorem leL_trans {a b c : List Nat} (h : leL a b) (g : leL b c) : leL a c := by
  rcases h with h | rfl
  · rcases g with g | rfl
    · exact .inl (ltL_trans h g)
    · exact .inl h
  · exact g
theorem leL_antisymm {a b : List Nat} (h : leL a b) (g : leL b a) : a = b := by
  rcases h with h | h
  · rcases g with g | g
    · exact absurd (ltL_trans h g) (ltL_irrefl _)
    · exact g.symm
  · exact h
theorem ltL_nil {a : List Nat} (h : a ≠ []) : ltL [] a := .inl (List.length_pos_iff.mpr h)
theorem leL_nil {a : List Nat} : leL [] a := by
  cases a with
  | nil => exact .inr rfl
  | cons x a => exact .inl (ltL_nil (List.cons_ne_nil _ _))
theorem lt_snoc : ∀ {a b : List Nat} {c d : Nat}, a.length = b.length → a < b → a ++ [c] < b ++ [d]
  | [], [], _, _, _, h => absurd h (List.lt_irrefl _)
  | x :: a, [], _, _, e, _ => by cases e
  | [], y :: b, _, _, e, _ => by cases e
  | x :: a, y :: b, c, d, e, h => by
    rw [List.cons_append, List.cons_append]
    rcases List.cons_lt_cons_iff.mp h with h | ⟨rfl, h2⟩
    · exact List.cons_lt_cons_iff.mpr (.inl h)
    · exact List.cons_lt_cons_iff.mpr (.inr ⟨rfl, lt_snoc (Nat.succ.inj e) h2⟩)
theorem lt_last : ∀ {a : List Nat} {c d : Nat}, c < d → a ++ [c] < a ++ [d]
  | [], _, _, h => List.cons_lt_cons_iff.mpr (.inl h)
  | x :: a, _, _, h => List.cons_lt_cons_iff.mpr (.inr ⟨rfl, lt_last h⟩)
theorem ltL_snoc {a b : List Nat} {c d : Nat} (h : ltL a b) : ltL (a ++ [c]) (b ++ [d]) := by
  rcases h with h | ⟨h1, h2⟩
  · exact .inl (by rw [List.length_append, List.length_append]; exact Nat.succ_lt_succ h)
  · exact .inr ⟨by rw [List.length_append, List.length_append, h1]; rfl, lt_snoc h1 h2⟩
theorem ltL_last {a : List Nat} {c d : Nat} (h : c < d) : ltL (a ++ [c]) (a ++ [d]) := .inr ⟨by rw [List.length_append, List.length_append]; rfl, lt_last h⟩
theorem leL_snoc {a b : List Nat} {c : Nat} (h : leL a b) : leL (a ++ [c]) (b ++ [c]) := by
  rcases h with h | rfl
  · exact .inl (ltL_snoc h)
  · exact .inr rfl
/-! ### the search -/
section
variable {α : Type} {step : α → Nat → α} {keep : α → Bool} {start : α} {zs : List Nat}
/-- what was found so far: at_ entries are done, of the next one k letters -/
structure Bfs (step : α → Nat → α) (keep : α → Bool) (start : α) (zs : List Nat) (fd : List (α × List Nat)) (at_ k : Nat) : Prop where
  first : fd[0]? = some (start, [])
  led : ∀ p ∈ fd, p.2.foldl step start = p.1
  over : ∀ p ∈ fd, ∀ c ∈ p.2, c ∈ zs
  kept : ∀ p ∈ fd, keep p.1 = true
  nd : (fd.map (·.1)).Nodup
  asc : (fd.map (·.2)).Pairwise ltL
  from_ : ∀ p ∈ fd, p.2 = [] ∨ ∃ i j q c, fd[i]? = some q ∧ zs[j]? = some c ∧ (i < at_ ∨ (i = at_ ∧ j < k)) ∧ p.2 = q.2 ++ [c]
  done : ∀ i j q c, fd[i]? = some q → zs[j]? = some c → (i < at_ ∨ (i = at_ ∧ j < k)) → keep (step q.1 c) = true → ∃ p ∈ fd, p.1 = step q.1 c ∧ leL p.2 (q.2 ++ [c])
theorem Bfs.begin (h : keep start = true) : Bfs step keep start zs [(start, [])] 0 0 := by
  refine ⟨rfl, fun p hp => ?_, fun p hp => ?_, fun p hp => ?_, List.nodup_cons.mpr ⟨List.not_mem_nil, List.nodup_nil⟩, List.pairwise_singleton _ _, fun p hp => ?_, fun i j q c _ _ h => by omega⟩
  · rw [List.mem_singleton.mp hp]
    rfl
  · rw [List.mem_singleton.mp hp]
    exact fun c hc => absurd hc List.not_mem_nil
  · rw [List.mem_singleton.mp hp]
    exact h
  · rw [List.mem_singleton.mp hp]
    exact .inl rfl
variable {fd : List (α × List Nat)} {at_ k c : Nat} {q : α × List Nat}
theorem Bfs.next (B : Bfs step keep start zs fd at_ zs.length) : Bfs step keep start zs fd (at_ + 1) 0 :=
  { B with
    from_ := fun p hp => (B.from_ p hp).imp id fun ⟨i, j, q, c, h1, h2, h3, h4⟩ => ⟨i, j, q, c, h1, h2, .inl (by omega), h4⟩
    done := fun i j q c h1 h2 h3 h4 => B.done i j q c h1 h2 (by have := (List.getElem?_eq_some_iff.mp h2).1; omega) h4 }
theorem Bfs.asc_at (B : Bfs step keep start zs fd at_ k) {i j : Nat} {p r : α × List Nat} (hp : fd[i]? = some p) (hr : fd[j]? = some r) (h : i < j) : ltL p.2 r.2 := by
  obtain ⟨hi, ei⟩ := List.getElem?_eq_some_iff.mp hp
  obtain ⟨hj, ej⟩ := List.getElem?_eq_some_iff.mp hr
  have := List.pairwise_iff_getElem.mp B.asc i j (by rw [List.length_map]; exact hi) (by rw [List.length_map]; exact hj) h
  rw [List.getElem_map, List.getElem_map, ei, ej] at this
  exact this
/-- all that was found is less than what comes now -/
theorem Bfs.below (up : zs.Pairwise (· < ·)) (B : Bfs step keep start zs fd at_ k) (hq : fd[at_]? = some q) (hc : zs[k]? = some c) : ∀ p ∈ fd, ltL p.2 (q.2 ++ [c]) := fun p hp => by
  rcases B.from_ p hp with e | ⟨i, j, r, d, h1, h2, h3, h4⟩
  · rw [e]
    exact ltL_nil (by simp)
  · rw [h4]
    rcases h3 with h3 | ⟨rfl, h3⟩
    · exact ltL_snoc (B.asc_at h1 hq h3)
    · rw [hq] at h1
      cases h1
      obtain ⟨lj, ej⟩ := List.getElem?_eq_some_iff.mp h2
      obtain ⟨lk, ek⟩ := List.getElem?_eq_some_iff.mp hc
      have := List.pairwise_iff_getElem.mp up j k lj lk h3
      rw [ej, ek] at this
      exact ltL_last this
theorem Bfs.skip (up : zs.Pairwise (· < ·)) (B : Bfs step keep start zs fd at_ k) (hq : fd[at_]? = some q) (hc : zs[k]? = some c) (h : keep (step q.1 c) = false ∨ step q.1 c ∈ fd.map (·.1)) : Bfs step keep start zs fd at_ (k + 1) :=
  { B with
    from_ := fun p hp => (B.from_ p hp).imp id fun ⟨i, j, q, c, h1, h2, h3, h4⟩ => ⟨i, j, q, c, h1, h2, by omega, h4⟩
    done := fun i j r d h1 h2 h3 h4 => by
      by_cases e : i < at_ ∨ (i = at_ ∧ j < k)
      · exact B.done i j r d h1 h2 e h4
      · obtain ⟨rfl, rfl⟩ : i = at_ ∧ j = k := by omega
        rw [hq] at h1
        cases h1
        rw [hc] at h2
        cases h2
        rcases h with h | h
        · rw [h] at h4
          cases h4
        · obtain ⟨p, hp, ep⟩ := List.mem_map.mp h
          exact ⟨p, hp, ep, .inl (B.below up hq hc p hp)⟩ }
theorem Bfs.push (up : zs.Pairwise (· < ·)) (B : Bfs step keep start zs fd at_ k) (hq : fd[at_]? = some q) (hc : zs[k]? = some c) (hk : keep (step q.1 c) = true) (new : step q.1 c ∉ fd.map (·.1)) : Bfs step keep start zs (fd ++ [(step q.1 c, q.2 ++ [c])]) at_ (k + 1) := by
  have qm := List.mem_of_getElem? hq
  have lt : at_ < fd.length := (List.getElem?_eq_some_iff.mp hq).1
  have old : ∀ {i : Nat} {p : α × List Nat}, fd[i]? = some p → (fd ++ [(step q.1 c, q.2 ++ [c])])[i]? = some p := fun {i p} h => by
    rw [List.getElem?_append_left (List.getElem?_eq_some_iff.mp h).1]
    exact h
  have mem : ∀ p ∈ fd ++ [(step q.1 c, q.2 ++ [c])], p ∈ fd ∨ p = (step q.1 c, q.2 ++ [c]) := fun p hp => (List.mem_append.mp hp).imp id List.mem_singleton.mp
  refine ⟨old B.first, fun p hp => ?_, fun p hp => ?_, fun p hp => ?_, ?_, ?_, fun p hp => ?_, fun i j r d h1 h2 h3 h4 => ?_⟩
  · rcases mem p hp with h | rfl
    · exact B.led p h
    · show (q.2 ++ [c]).foldl step start = _
      rw [List.foldl_append, B.led q qm]
      rfl
  · rcases mem p hp with h | rfl
    · exact B.over p h
    · intro d hd
      rcases List.mem_append.mp hd with h | h
      · exact B.over q qm d h
      · rw [List.mem_singleton.mp h]
        exact List.mem_of_getElem? hc
  · rcases mem p hp with h | rfl
    · exact B.kept p h
    · exact hk
  · rw [List.map_append]
    exact List.nodup_append.mpr ⟨B.nd, List.nodup_cons.mpr ⟨List.not_mem_nil, List.nodup_nil⟩, fun a ha b hb e => new (by rw [← show b = step q.1 c from List.mem_singleton.mp hb, ← e]; exact ha)⟩
  · rw [List.map_append]
    refine List.pairwise_append.mpr ⟨B.asc, List.pairwise_singleton _ _, fun a ha b hb => ?_⟩
    obtain ⟨p, hp, rfl⟩ := List.mem_map.mp ha
    rw [show b = q.2 ++ [c] from List.mem_singleton.mp hb]
    exact B.below up hq hc p hp
  · rcases mem p hp with h | rfl
    · exact (B.from_ p h).imp id fun ⟨i, j, q, c, h1, h2, h3, h4⟩ => ⟨i, j, q, c, old h1, h2, by omega, h4⟩
    · exact .inr ⟨at_, k, q, c, old hq, hc, .inr ⟨rfl, Nat.lt_succ_self _⟩, rfl⟩
  · have li : i < fd.length := by omega
    have h1 : fd[i]? = some r := by
      rw [List.getElem?_append_left li] at h1
      exact h1
    by_cases e : i < at_ ∨ (i = at_ ∧ j < k)
    · obtain ⟨p, hp, r1, r2⟩ := B.done i j r d h1 h2 e h4
      exact ⟨p, List.mem_append_left _ hp, r1, r2⟩
    · obtain ⟨rfl, rfl⟩ : i = at_ ∧ j = k := by omega
      rw [hq] at h1
      cases h1
      rw [hc] at h2
      cases h2
      exact ⟨_, List.mem_append_right _ (List.mem_singleton.mpr rfl), rfl, .inr rfl⟩
/-- at its end every word's state was found, by a word that is not greater -/
theorem Bfs.all (B : Bfs step keep start zs fd fd.length 0) (stay : ∀ s c, keep s = false → keep (step s c) = false) : ∀ (n : Nat) (v : List Nat), v.length = n → (∀ c ∈ v, c ∈ zs) → keep (v.foldl step start) = true → ∃ p ∈ fd, p.1 = v.foldl step start ∧ leL p.2 v
  | 0, v, e, _, _ => by
    rw [List.length_eq_zero_iff.mp e]
    exact ⟨_, List.mem_of_getElem? B.first, rfl, .inr rfl⟩
  | n + 1, v, e, o, h => by
    obtain ⟨u, c, rfl⟩ : ∃ u c, v = u ++ [c] := ⟨v.dropLast, v.getLast (by intro z; rw [z] at e; cases e), (List.dropLast_concat_getLast _).symm⟩
    rw [List.length_append] at e
    rw [List.foldl_append] at h ⊢
    have hu : keep (u.foldl step start) = true := by
      cases q : keep (u.foldl step start) with
      | true => rfl
      | false =>
        have := stay _ c q
        rw [show keep (step (u.foldl step start) c) = true from h] at this
        cases this
    obtain ⟨p, hp, ep, lp⟩ := B.all stay n u (Nat.succ.inj e) (fun d hd => o d (List.mem_append_left _ hd)) hu
    obtain ⟨i, hi⟩ := List.mem_iff_getElem?.mp hp
    obtain ⟨j, hj⟩ := List.mem_iff_getElem?.mp (o c (List.mem_append_right _ (List.mem_singleton.mpr rfl)))
    obtain ⟨r, hr, er, lr⟩ := B.done i j p c hi hj (.inl (List.getElem?_eq_some_iff.mp hi).1) (by rw [ep]; exact h)
    exact ⟨r, hr, by rw [er, ep]; rfl, leL_trans lr (leL_snoc lp)⟩
end
/-! ### the least word of a kind -/
def Lst (zs : List Nat) (Bad : List Nat → Prop) : Option (List Nat) → Prop
  | some w => (∀ c ∈ w, c ∈ zs) ∧ Bad w ∧ ∀ v, (∀ c ∈ v, c ∈ zs) → Bad v → leL w v
  | none => ∀ v, (∀ c ∈ v, c ∈ zs) → ¬ Bad v
theorem Lst.uniq {zs : List Nat} {B1 B2 : List Nat → Prop} {r1 r2 : Option (List Nat)} (h1 : Lst zs B1 r1) (h2 : Lst zs B2 r2) (e : ∀ v, (∀ c ∈ v, c ∈ zs) → (B1 v ↔ B2 v)) : r1 = r2 := by
  cases r1 with
  | none =>
    cases r2 with
    | none => rfl
    | some w => exact absurd ((e w h2.1).mpr h2.2.1) (h1 w h2.1)
  | some w =>
    cases r2 with
    | none => exact absurd ((e w h1.1).mp h1.2.1) (h2 w h1.1)
    | some u => rw [leL_antisymm (h1.2.2 u h2.1 ((e u h2.1).mpr h2.2.1)) (h2.2.2 w h1.1 ((e w h1.1).mp h1.2.1))]
theorem Bfs.least {α : Type} {step : α → Nat → α} {keep : α → Bool} {start : α} {zs : List Nat} {fd : List (α × List Nat)} (B : Bfs step keep start zs fd fd.length 0) (stay : ∀ s c, keep s = false → keep (step s c) = false) {bad : α → Bool} (hb : ∀ s, bad s = true → keep s = true) :
    Lst zs (fun v => bad (v.foldl step start) = true) ((fd.find? fun p => bad p.1).map (·.2)) := by
  cases q : fd.find? fun p => bad p.1 with
  | none =>
    intro v o h
    obtain ⟨p, hp, ep, _⟩ := B.all stay _ v rfl o (hb _ h)
    have := List.find?_eq_none.mp q p hp
    rw [ep] at this
    exact this h
  | some p =>
    obtain ⟨hb1, l1, l2, el, nb⟩ := List.find?_eq_some_iff_append.mp q
    have pm : p ∈ fd := List.mem_of_find?_eq_some q
    refine ⟨B.over p pm, by show bad (p.2.foldl step start) = true; rw [B.led p pm]; exact hb1, fun v o h => ?_⟩
    obtain ⟨r, hr, er, lr⟩ := B.all stay _ v rfl o (hb _ h)
    refine leL_trans ?_ lr
    have asc := B.asc
    rw [el, List.map_append, List.map_cons] at asc
    rw [el] at hr
    rcases List.mem_append.mp hr with m | m
    · have := nb r m
      rw [er, h] at this
      cases this
    · rcases List.mem_cons.mp m with rfl | m
      · exact .inr rfl
      · exact .inl ((List.pairwise_cons.mp (List.pairwise_append.mp asc).2.1).1 _ (List.mem_map.mpr ⟨r, m, rfl⟩))
end Wf
/-! T5: walks over zips and over dicts of states; states of several machines at once -/
namespace Wf
open PySem PySem.Spec PyProof.Rows L2
theorem walk_zipG {K : PySem.W.Frag} {S1 S2 : Src} (h : S2.items.length = S1.items.length) : Walk (ItzG K S1 S2) S1.items.length (fun H => S1.at_ K H ∧ S2.at_ K H) (YPair (fun i => S1.items[i]?) (fun i => S2.items[i]?)) :=
  ⟨fun i H hi q => ⟨q.1, q.2, hi, by rw [h]; exact hi⟩, fun H q => ⟨q.1, q.2, Nat.le_refl _, by rw [h]; exact Nat.le_refl _, .inl rfl⟩, fun i H x H' _ _ y => y⟩
theorem walk_itemsO {P : Program} {w : World} {d : Addr} {o : Obj} {kvs : List (KO × Addr × V)} : Walk (ItiO P w d o kvs) kvs.length (fun H => H d = some (.frz o (dto P w d kvs))) (fun i H x H' => ∃ T p, kvs[i]? = some p ∧ x = .ref T ∧ H T = none ∧ H' = upd H T (.tup [.ref p.2.1, p.2.2])) :=
  ⟨fun i H hi q => ⟨q, hi⟩, fun H q => ⟨q, Nat.le_refl _⟩, fun i H x H' _ _ y => y⟩
/-- a letter on, in each of several machines -/
def jstp (zs : List Nat) (tbs : List (List (List (Option Nat)))) (ss : KO) (c : Nat) : KO := List.zipWith (fun tb s => stp zs tb s c) tbs ss
theorem jstp_len {zs : List Nat} {c : Nat} : ∀ {tbs : List (List (List (Option Nat)))} {ss : KO}, ss.length = tbs.length → (jstp zs tbs ss c).length = tbs.length := fun {tbs ss} h => by
  unfold jstp
  rw [List.length_zipWith, h, Nat.min_self]
theorem zip_led {zs : List Nat} {v : List Nat} {c : Nat} : ∀ {tbs : List (List (List (Option Nat)))} {ss : KO}, List.zipWith (fun tb s => ledTo zs tb s v) tbs (List.zipWith (fun tb s => stp zs tb s c) tbs ss) = List.zipWith (fun tb s => ledTo zs tb s (c :: v)) tbs ss
  | [], _ => rfl
  | _ :: _, [] => rfl
  | tb :: tbs, s :: ss => congrArg (ledTo zs tb s (c :: v) :: ·) (zip_led (tbs := tbs) (ss := ss))
theorem zip_nil {zs : List Nat} : ∀ {tbs : List (List (List (Option Nat)))} {ss : KO}, ss.length = tbs.length → List.zipWith (fun tb s => ledTo zs tb s []) tbs ss = ss
  | [], [], _ => rfl
  | [], _ :: _, h => by cases h
  | _ :: _, [], h => by cases h
  | tb :: tbs, s :: ss, h => congrArg (s :: ·) (zip_nil (tbs := tbs) (ss := ss) (Nat.succ.inj h))
/-- a word on, in each of them -/
theorem j_led {zs : List Nat} {tbs : List (List (List (Option Nat)))} : ∀ (v : List Nat) {ss : KO}, ss.length = tbs.length → v.foldl (jstp zs tbs) ss = List.zipWith (fun tb s => ledTo zs tb s v) tbs ss
  | [], ss, h => (zip_nil h).symm
  | c :: v, ss, h => by
    show v.foldl (jstp zs tbs) (jstp zs tbs ss c) = _
    rw [j_led v (jstp_len h)]
    exact zip_led
theorem zip_const {α β γ : Type} {f : α → β → γ} {b : β} : ∀ {xs : List α}, List.zipWith f xs (List.replicate xs.length b) = xs.map fun x => f x b
  | [] => rfl
  | x :: xs => congrArg (f x b :: ·) (zip_const (xs := xs))
def jstart (n : Nat) : KO := List.replicate n (some 0)
theorem j_word {zs : List Nat} {tbs : List (List (List (Option Nat)))} (v : List Nat) : v.foldl (jstp zs tbs) (jstart tbs.length) = tbs.map fun tb => ledTo zs tb (some 0) v := by
  rw [j_led v (by unfold jstart; rw [List.length_replicate])]
  exact zip_const
/-- all states that several machines may have at once -/
def allJ : List (List (List (Option Nat))) → List KO
  | [] => [[]]
  | tb :: tbs => (none :: (List.range tb.length).map some).flatMap fun o => (allJ tbs).map (o :: ·)
theorem mem_allJ {tbs : List (List (List (Option Nat)))} : ∀ {ss : KO}, ss.length = tbs.length → (∀ (i : Nat) (tb : List (List (Option Nat))) (n : Nat), tbs[i]? = some tb → ss[i]? = some (some n) → n < tb.length) → ss ∈ allJ tbs := by
  induction tbs with
  | nil =>
    intro ss h _
    rw [List.length_eq_zero_iff.mp h]
    exact List.mem_singleton.mpr rfl
  | cons tb tbs ih =>
    intro ss h lt
    cases ss with
    | nil => cases h
    | cons o ss =>
      refine List.mem_flatMap.mpr ⟨o, ?_, List.mem_map.mpr ⟨ss, ih (Nat.succ.inj h) fun i tb n e1 e2 => lt (i + 1) tb n e1 e2, rfl⟩⟩
      cases o with
      | none => exact List.mem_cons_self
      | some n => exact List.mem_cons_of_mem _ (List.mem_map.mpr ⟨n, List.mem_range.mpr (lt 0 tb n rfl rfl), rfl⟩)
theorem allJ_len {m : Nat} : ∀ {tbs : List (List (List (Option Nat)))}, (∀ tb ∈ tbs, tb.length ≤ m) → (allJ tbs).length ≤ (m + 1) ^ tbs.length
  | [], _ => Nat.le_refl _
  | tb :: tbs, h => by
    have ih := allJ_len (tbs := tbs) fun t ht => h t (List.mem_cons_of_mem _ ht)
    have h0 := h tb List.mem_cons_self
    have sum : ∀ (xs : List (Option Nat)), (xs.flatMap fun o => (allJ tbs).map (o :: ·)).length = xs.length * (allJ tbs).length := fun xs => by
      induction xs with
      | nil => simp
      | cons x xs ih2 =>
        rw [List.flatMap_cons, List.length_append, List.length_map, ih2, List.length_cons, Nat.succ_mul, Nat.add_comm]
    show (List.flatMap _ _).length ≤ _
    rw [sum, List.length_cons, List.length_map, List.length_range, List.length_cons, Nat.pow_succ, Nat.mul_comm]
    exact Nat.mul_le_mul ih (by omega)
/-- found words are not long -/
theorem Bfs.short {α : Type} {step : α → Nat → α} {keep : α → Bool} {start : α} {zs : List Nat} {fd : List (α × List Nat)} {at_ k : Nat} (B : Bfs step keep start zs fd at_ k) : ∀ (i : Nat) (p : α × List Nat), fd[i]? = some p → p.2.length ≤ i := by
  intro i
  induction i using Nat.strongRecOn with
  | ind i ih =>
    intro p hp
    rcases B.from_ p (List.mem_of_getElem? hp) with e | ⟨i2, j, q, c, h1, h2, h3, h4⟩
    · rw [e]
      exact Nat.zero_le _
    · rw [h4, List.length_append]
      have lt : i2 < i := by
        rcases Nat.lt_trichotomy i2 i with g | g | g
        · exact g
        · subst g
          rw [hp] at h1
          cases h1
          have := congrArg List.length h4
          rw [List.length_append] at this
          have : [c].length = 1 := rfl
          omega
        · have := B.asc_at hp h1 g
          rw [h4] at this
          rcases this with q | ⟨q, _⟩
          · rw [List.length_append] at q
            omega
          · rw [List.length_append] at q
            have : [c].length = 1 := rfl
            omega
      have := ih i2 lt q h1
      show _ + 1 ≤ i
      omega
/-- the states that were found are states of the machines -/
theorem Bfs.few {zs : List Nat} {tbs : List (List (List (Option Nat)))} {keep : KO → Bool} {fd : List (KO × List Nat)} {at_ k m w : Nat} (B : Bfs (jstp zs tbs) keep (jstart tbs.length) zs fd at_ k) (ok : ∀ tb ∈ tbs, TbOk w tb) (pos : ∀ tb ∈ tbs, 0 < tb.length) (h : ∀ tb ∈ tbs, tb.length ≤ m) : fd.length ≤ (m + 1) ^ tbs.length := by
  have e := nodup_sub (ys := fd.map (·.1)) (ws := allJ tbs) B.nd fun s hs => by
    obtain ⟨p, hp, rfl⟩ := List.mem_map.mp hs
    rw [← B.led p hp, j_word]
    refine mem_allJ (by rw [List.length_map]) fun i tb n e1 e2 => ?_
    rw [List.getElem?_map, e1] at e2
    have tm := List.mem_of_getElem? e1
    exact led_lt (zs := zs) (ok tb tm) p.2 (some 0) (fun n z => by cases z; exact pos tb tm) n (Option.some.inj e2)
  rw [List.length_map] at e
  exact Nat.le_trans e (allJ_len h)
end Wf
/-! T6: enumerate over lists, tuples and texts alike -/
namespace Wf
open PySem PySem.Spec PyProof.Rows L2
/-- what is walked, each item in a new pair with its number -/
def IteG (K : PySem.W.Frag) (S : Src) : It :=
  ⟨fun i H => S.at_ K H ∧ i < S.items.length, fun i H v H' => ∃ T x, v = .ref T ∧ H T = none ∧ H' = upd H T (.tup [.int (i : Nat), x]) ∧ S.items[i]? = some x, fun i H => S.at_ K H ∧ i = S.items.length⟩
structure EnG (S : Src) (v : Value) (e t : Addr) (i : Nat) (h : Heap) : Prop where
  en : ∃ old, IsEnum h e t ((i : Nat) : Int) old
  ti : S.it v t i h
theorem turn_enumG {P : Program} {w : World} {K : PySem.W.Frag} {elts : List Expr} {kk : Nat} {tpos : Pos} {S : Src} {v : Value} {e t : Addr} (et : e ≠ t) (eo : e ∉ S.own) (to : t ∉ S.own) (rv : RelV S.val v) : Turn P w K (.Tuple elts kk tpos) (IteG K S) [e, t] e (EnG S v e t) where
  mem := List.mem_cons_self
  obj i h st b hb := by
    obtain ⟨old, en⟩ := st.en
    rcases EnT.pair hb with rfl | rfl
    · exact ⟨_, en, nofun⟩
    · exact Src.it_obj st.ti
  keep i h h2 st kept := ⟨st.en.imp fun _ z => kept e List.mem_cons_self _ z, Src.it_keep st.ti (kept t (List.mem_cons_of_mem _ List.mem_cons_self))⟩
  item := by
    rintro X rfl rfl rfl calm i pins s σ H E I fp st ⟨hq, lt⟩
    obtain ⟨old, en⟩ := st.en
    have hh : X.A.in1.handled = none := I.ok.hd calm
    obtain ⟨Pr, St, D, m1, m2, m3⟩ := Src.draws I hh hq rv to
    have le : e < s.heap.objs.size := Heap.lt_size en
    have ltt : t < s.heap.objs.size := let ⟨_, z, _⟩ := Src.it_obj st.ti; Heap.lt_size z
    refine wpAny_pyNext_enum_itemD D en (m1 _ _ (fun _ _ => rfl) st.ti) lt et (fun m => (List.mem_cons.mp m).elim et eo) fun w h1 tk hw out iter hT _ kept => ?_
    obtain ⟨x, ix, rx⟩ := m3 i w hw
    refine ⟨_, rfl, wpAny_letOwnedTupleGo_enum (s := { s with heap := h1, toks := tk + 1 }) out fun h2 en2 sb => ?_⟩
    have atT := (sb.2 s.heap.objs.size (Nat.ne_of_gt le)).trans hT
    have okT : ObjOk X.prog X.w (upd H s.heap.objs.size (.tup [.int (i : Nat), x])) h2 s.heap.objs.size (.tup [.int (i : Nat), x]) := ⟨by show 2 ≤ sizeLine; decide, [.int i tk, w], .cons ⟨_, rfl⟩ (.cons rx .nil), ⟨_, atT, rfl, _, rfl⟩⟩
    have old2 : ∀ b ob, b ∉ [e, t] → s.heap.get? b = some ob → h2.get? b = some ob := fun b ob nb z => (sb.2 b fun q => nb (q ▸ List.mem_cons_self)).trans (kept b ob (fun q => nb (q ▸ List.mem_cons_self)) (fun q => nb (q ▸ List.mem_cons_of_mem _ List.mem_cons_self)) z)
    refine ⟨.ref s.heap.objs.size, _, I.turnedNew (ch := [e, t]) old2 fp (Nat.le_refl _) okT, rfl, ⟨_, x, rfl, I.hok.fresh (Nat.le_refl _), rfl, ix⟩, ⟨⟨w, ?_⟩, Src.it_keep (m2 _ _ iter) fun o z => (sb.2 t et.symm).trans z⟩, fun b hb => ?_⟩
    · rw [show ((i + 1 : Nat) : Int) = (i : Int) + 1 by omega]
      exact en2
    · have lb : b < s.heap.objs.size := by
        rcases EnT.pair hb with rfl | rfl
        · exact le
        · exact ltt
      rw [upd_ne (Nat.ne_of_lt lb)]
      exact (fp b hb).1
  done := by
    rintro X rfl rfl rfl calm i pins s σ H E I fp st ⟨hq, rfl⟩
    obtain ⟨old, en⟩ := st.en
    have hh : X.A.in1.handled = none := I.ok.hd calm
    obtain ⟨Pr, St, D, m1, m2, m3⟩ := Src.draws I hh hq rv to
    obtain ⟨c0, c1, c2, c3, c4, c5⟩ := fp t (by simp)
    have isE : s.TypeIs (.ref e) "enumerate" := ⟨_, en, rfl⟩
    unfold pyNext
    refine wpAny_bind (wpAny_attempt (wpAny_callSpecial?_slot (name := Str.ofString "__next__") isE F.slot_enumerate_next (wpAny_call_entry F.slot_enumerate_next isE F.entry_enumerate_next ?_ (F.args_enumerate_next_1 _))))
    change wpAny _ _ (field (Value.ref e) 2 >>= _) _ _ s
    refine wpAny_bind (wpAny_field (x := .ref t) en rfl rfl (wpAny_bind (D.done s _ _ (m1 _ _ (fun _ _ => rfl) st.ti) fun h1 x grown stop => ?_)))
    obtain ⟨ob, atx, isStop⟩ := stop
    exact wpAny_bind (wpAny_isInstance (T := "StopIteration") (b := true) ⟨ob, atx, isStop⟩ isSubtype_stop (wpAny_pure ⟨rfl, I.turned (t' := s.toks) (fun b u hb z => grown b u hb z) c0 c1 c3 c4 c5⟩))
  self A i s Q E st z := let ⟨_, en⟩ := st.en; wpAny_pyIter_enum en z
def iEnG (K : PySem.W.Frag) (ta : TA) : TI := fun σ H R => ta σ H fun vs H1 => ∃ S : Src, vs = [S.val] ∧ S.at_ K H1 ∧ R (IteG K S) H1
theorem pi_enG {X : Cx} {e : Expr} {ta : TA} {p pos tpos : Pos} {elts : List Expr} {kk : Nat} (hg : Gl X "enumerate") (hm : X.mg "enumerate" = none) (ha : PA X [e] ta) (hs : starEach [e] X.env = [(false, eval e X.env)] := by rfl) : PI X (.Tuple elts kk tpos) (.Call (.Name "enumerate" p) [e] [] pos) (iEnG X.K ta) := .mk fun pins s σ H R I h =>
  Call_ (ld_blt I hg hm boot_enumerate (PyProof.Rows.callWith_type1 (thn (ha.run pos pins s σ H _ I h) fun _ s1 ⟨_, H1, J, rel, S, ex, hq, q⟩ => by
    subst ex
    obtain ⟨u, rfl, ru⟩ := rel.one
    obtain ⟨o1, B1, b1, h1, k1⟩ := Src.begins J hq ru
    have lo := Src.own_lt J hq
    refine call_enum1 b1 h1 fun h2 en it old => wpAny_pyIter_enum en ?_
    have nt : s1.heap.objs.size ∉ S.own := fun m => Nat.lt_irrefl _ (lo _ m)
    have ne : s1.heap.objs.size + 1 ∉ S.own := fun m => Nat.lt_irrefl _ (Nat.lt_trans (Nat.lt_succ_self _) (lo _ m))
    refine ⟨_, _, _, _, H1, rfl, J.kept (t' := s1.toks) old, turn_enumG (e := s1.heap.objs.size + 1) (t := s1.heap.objs.size) (Nat.succ_ne_self _) ne nt ru, ⟨⟨.none, en⟩, k1 _ _ it⟩, fun b hb => ?_, q⟩
    have up : s1.heap.objs.size ≤ b := by
      rcases EnT.pair hb with rfl | rfl
      · exact Nat.le_succ _
      · exact Nat.le_refl _
    exact J.fpOk up (J.hok.fresh up)) hs rfl))
theorem walk_enumG {K : PySem.W.Frag} {S : Src} : Walk (IteG K S) S.items.length (fun H => S.at_ K H) (YPair (fun i => some (.int (i : Nat))) (fun i => S.items[i]?)) where
  goes i H hi q := ⟨q, hi⟩
  stops H q := ⟨q, rfl⟩
  yields i H v H' _ q y := let ⟨T, x, h1, h2, h3, h4⟩ := y; ⟨T, .int (i : Nat), x, h1, h2, h3, rfl, h4⟩
end Wf
/-! T7: tuples of states, sought in a list of such -/
namespace Wf
open PySem PySem.Spec PyProof.Rows L2
def nkO : Option Nat → NestedKey
  | none => .none
  | some n => .num (n : Int)
theorem nkO_beq (a b : Option Nat) : NestedKey.beq (nkO a) (nkO b) = decide (a = b) := by
  cases a with
  | none => cases b with
    | none => rfl
    | some m => rfl
  | some n => cases b with
    | none => rfl
    | some m =>
      show NestedKey.beq (.num (n : Int)) (.num (m : Int)) = _
      unfold NestedKey.beq
      exact decide_eq_decide.mpr ⟨fun e => by rw [Int.ofNat.inj e], fun e => by cases e; rfl⟩
theorem nkO_all : ∀ (a b : KO), NestedKey.beqAll (a.map nkO) (b.map nkO) = decide (a = b)
  | [], [] => rfl
  | [], _ :: _ => rfl
  | _ :: _, [] => rfl
  | a :: as, b :: bs => by
    show NestedKey.beqAll (nkO a :: as.map nkO) (nkO b :: bs.map nkO) = _
    rw [NestedKey.beqAll, nkO_beq, nkO_all as bs, ← Bool.decide_and]
    exact decide_eq_decide.mpr ⟨fun ⟨h1, h2⟩ => by rw [h1, h2], fun e => by cases e; exact ⟨rfl, rfl⟩⟩
theorem nk_vals {h : Heap} : ∀ {k : KO} {us : List Value}, Vals (k.map oV) us → NestedAll h (k.map nkO) us
  | [], us, r => by cases r; exact .nil
  | o :: k, us, r => by
    cases r with
    | cons a t =>
      refine .cons ?_ (nk_vals t)
      cases o with
      | none =>
        obtain rfl : _ = Value.none := a
        exact .none
      | some n =>
        obtain ⟨t, rfl⟩ : ∃ t, _ = Value.int (n : Int) t := a
        exact .int _ _
theorem nk_depth : ∀ (k : KO), NestedKey.depthAll (k.map nkO) = 0
  | [] => rfl
  | o :: k => by
    show max (NestedKey.depth (nkO o)) (NestedKey.depthAll (k.map nkO)) = 0
    rw [nk_depth k]
    cases o <;> rfl
section
variable {X : Cx}
theorem nk_at {pins : List (Addr × Obj)} {σ : L2.St} {H : Hp} {s : Shared} (I : Inv X pins σ H s) {a : Addr} {k : KO} (h : SqT X.K H a (k.map oV)) : NestedIs s.heap (.tup (k.map nkO)) (.ref a) := by
  obtain ⟨its, r, pl, _⟩ := I.tuple h
  obtain ⟨o, ho, hc, n, hd⟩ := pl
  exact .tup ho hc hd (by simpa using nk_vals r)
def rInO (K : PySem.W.Frag) (neg : Bool) : R2 := fun x y H Q => ∃ (a p : Addr) (os : List Addr) (kss : List KO) (k : KO), x = .ref a ∧ y = .ref p ∧ SqT K H a (k.map oV) ∧ SqL K H p (os.map V.ref) ∧ os.length = kss.length ∧ (∀ (i : Nat) (o : Addr) (ks : KO), os[i]? = some o → kss[i]? = some ks → SqT K H o (ks.map oV)) ∧ Q (.bl (if neg then !decide (k ∈ kss) else decide (k ∈ kss))) H
theorem vals_ref : ∀ {os : List Addr} {us : List Value}, Vals (os.map V.ref) us → us = os.map Value.ref
  | [], us, r => by cases r; rfl
  | o :: os, us, r => by
    cases r with
    | cons a t =>
      have e : _ = Value.ref o := a
      rw [e, vals_ref t]
      rfl
theorem any_ko {f : Value → Bool} {k : KO} : ∀ {os : List Addr} {kss : List KO}, os.length = kss.length → (∀ (i : Nat) (o : Addr) (ks : KO), os[i]? = some o → kss[i]? = some ks → f (.ref o) = decide (ks = k)) → (os.map Value.ref).any f = decide (k ∈ kss)
  | [], [], _, _ => rfl
  | [], _ :: _, h, _ => by cases h
  | _ :: _, [], h, _ => by cases h
  | o :: os, ks :: kss, h, g => by
    rw [List.map_cons, List.any_cons, g 0 o ks rfl rfl, any_ko (Nat.succ.inj h) (fun i o ks h1 h2 => g (i + 1) o ks h1 h2), ← Bool.decide_or]
    exact decide_eq_decide.mpr ⟨fun h => List.mem_cons.mpr (h.imp Eq.symm id), fun h => (List.mem_cons.mp h).imp Eq.symm id⟩
theorem eq_ko {pins : List (Addr × Obj)} {σ : L2.St} {H : Hp} {s : Shared} (I : Inv X pins σ H s) (hu : X.A.units + 64 < cLine) {a o : Addr} {k ks : KO} (h1 : SqT X.K H a (k.map oV)) (h2 : SqT X.K H o (ks.map oV)) : SeqAt.EqAt X.A.in1 s (.ref o) (.ref a) (decide (ks = k)) := by
  refine SeqAt.EqAt.cast (eqAt_key (.tup (ks.map nkO)) (.tup (k.map nkO)) X.A.in1 s _ _ (nk_at I h2) (nk_at I h1) ?_) ?_
  · show X.A.in1.units + min (NestedKey.depthAll _ + 1) (NestedKey.depthAll _ + 1) < cLine
    rw [nk_depth, nk_depth, Around.in1_units]
    show X.A.units + 1 + 1 < cLine
    omega
  · show NestedKey.beq (.tup (ks.map nkO)) (.tup (k.map nkO)) = _
    rw [NestedKey.beq, nkO_all]
theorem in_ko {pins : List (Addr × Obj)} {σ : L2.St} {H : Hp} {s : Shared} (I : Inv X pins σ H s) (hu : X.A.units + 64 < cLine) {a : Addr} {os : List Addr} {kss : List KO} {k : KO} (ha : SqT X.K H a (k.map oV)) (le : os.length = kss.length) (ent : ∀ (i : Nat) (o : Addr) (ks : KO), os[i]? = some o → kss[i]? = some ks → SqT X.K H o (ks.map oV)) :
    ∃ f : Value → Bool, (∀ u ∈ os.map Value.ref, SeqAt.EqAt X.A.in1 s u (.ref a) (f u)) ∧ (os.map Value.ref).any f = decide (k ∈ kss) := by
  classical
  have pick : ∀ u : Value, ∃ b : Bool, (∀ (i : Nat) (o : Addr) (ks : KO), os[i]? = some o → kss[i]? = some ks → u = .ref o → b = decide (ks = k)) := fun u => by
    by_cases h : ∃ (i : Nat) (o : Addr) (ks : KO), os[i]? = some o ∧ kss[i]? = some ks ∧ u = .ref o
    · obtain ⟨i, o, ks, h1, h2, rfl⟩ := h
      refine ⟨decide (ks = k), fun j o' ks' g1 g2 e => ?_⟩
      cases e
      have n1 := nk_at I (ent i o ks h1 h2)
      have n2 := nk_at I (ent j o ks' g1 g2)
      have e := NestedIs.inj _ _ _ n1 n2
      have e2 : ks.map nkO = ks'.map nkO := by injection e
      have e3 : ks = ks' := of_decide_eq_true ((nkO_all ks ks').symm.trans (by rw [e2]; exact NestedKey.beqAll_self _))
      rw [e3]
    · exact ⟨false, fun i o ks h1 h2 e => absurd ⟨i, o, ks, h1, h2, e⟩ h⟩
  refine ⟨fun u => Classical.choose (pick u), fun u hu2 => ?_, any_ko le fun i o ks h1 h2 => Classical.choose_spec (pick (.ref o)) i o ks h1 h2 rfl⟩
  obtain ⟨o, ho, rfl⟩ := List.mem_map.mp hu2
  obtain ⟨i, hi⟩ := List.mem_iff_getElem?.mp ho
  obtain ⟨ks, hk⟩ : ∃ ks, kss[i]? = some ks := ⟨_, List.getElem?_eq_getElem (by rw [← le]; exact (List.getElem?_eq_some_iff.mp hi).1)⟩
  show SeqAt.EqAt X.A.in1 s (.ref o) (.ref a) (Classical.choose (pick (.ref o)))
  rw [Classical.choose_spec (pick (.ref o)) i o ks hi hk rfl]
  exact eq_ko I hu ha (ent i o ks hi hk)
theorem op_notInO (hu : X.A.units + 64 < cLine) : OpR X (compareOp .NotIn) (rInO X.K true) := by
  intro pins s σ H x y v u Q I rx ry h
  obtain ⟨a, p, os, kss, k, rfl, rfl, ha, hq, le, ent, q⟩ := h
  obtain rfl : v = Value.ref a := rx
  obtain rfl : u = Value.ref p := ry
  obtain ⟨its, r, pl, hz⟩ := I.list hq
  obtain rfl := vals_ref r
  obtain ⟨f, h1, h2⟩ := in_ko I hu ha le ent
  refine SeqAt.notIn_listAt f pl.isList (fun u hu2 => h1 u (by simpa using hu2)) ⟨.bl _, H, I, rfl, ?_⟩
  rw [show (os.map Value.ref).toArray.any f = (os.map Value.ref).any f by simp, h2]
  exact q
end
end Wf
/-! T8: x is not True, x is not False -/
namespace Wf
open PySem PySem.Spec PyProof.Rows L2
section
variable {X : Cx}
def rIsNotB : R2 := fun x y H Q => ∃ b, y = .bl b ∧ (x = .non ∨ ∃ a, x = .bl a) ∧ Q (.bl (!decide (x = .bl b))) H
theorem op_isNotB : OpR X (compareOp .IsNot) rIsNotB := by
  intro pins s σ H x y v u Q I rx ry h
  obtain ⟨b, rfl, hd, q⟩ := h
  cases (show u = Value.bool b from ry)
  rcases hd with rfl | ⟨a, rfl⟩
  · cases (show v = Value.none from rx)
    exact wpAny_pure ⟨.bl _, H, I, rfl, q⟩
  · cases (show v = Value.bool a from rx)
    by_cases e : a = b
    · subst e
      exact wpAny_isNot_self rfl ⟨.bl false, H, I, rfl, by simpa using q⟩
    · exact wpAny_isNot_other rfl (fun z => e (Value.bool.inj z)) ⟨.bl true, H, I, rfl, by simpa [e] using q⟩
end
end Wf
namespace Wf
open PySem L2
def top (i : Nat) : Stmt := PySem.Challenge.pw_wordfit_k74_mistakes_found.main.body.getD i (.Pass ⟨0, 0, 0, 0⟩)
/-- what the top has, beside the defs -/
structure Txt (K : PySem.W.Frag) (mg : Str → Option Value) : Prop where
  z_list : mg "list" = none
  z_len : mg "len" = none
  z_abs : mg "abs" = none
  z_range : mg "range" = none
  z_sorted : mg "sorted" = none
  z_repr : mg "repr" = none
  z_isinstance : mg "isinstance" = none
  z_tuple : mg "tuple" = none
  z_str : mg "str" = none
  z_int : mg "int" = none
  z_bool : mg "bool" = none
  z_all : mg "all" = none
  z_any : mg "any" = none
  z_enumerate : mg "enumerate" = none
  z_dict : mg "dict" = none
  z_set : mg "set" = none
  z_max : mg "max" = none
  z_min : mg "min" = none
  z_ValueError : mg "ValueError" = none
  z_KeyError : mg "KeyError" = none
  z_IndexError : mg "IndexError" = none
  z_ArithmeticError : mg "ArithmeticError" = none
  z_LookupError : mg "LookupError" = none
abbrev s_law_pen : Stmt := top 48
abbrev N_law_pen : List Str := ["script"]
theorem sc_law_pen : FnScope N_law_pen ["script"] (defScope s_law_pen) := ⟨rfl, rfl, rfl, by decide +kernel, rfl, by decide +kernel, by decide +kernel⟩
abbrev s_law_draw : Stmt := top 49
abbrev N_law_draw : List Str := ["pen", "many", "digit", "spot", "cell", "mix"]
theorem sc_law_draw : FnScope N_law_draw ["pen", "many"] (defScope s_law_draw) := ⟨rfl, rfl, rfl, by decide +kernel, rfl, by decide +kernel, by decide +kernel⟩
section
variable {P : Program} {w : World} {K : PySem.W.Frag} {mg : Str → Option Value} {base : Heap}
theorem ok_pen {f : Addr} {fd : FuncData} (F : Fun K "_law_pen" "_law_pen" s_law_pen f fd) (T : Txt K mg) : FnOk P w K mg base CX0 1 f fd ["script"] (spPen K) := by
  refine F.ok sc_law_pen (fun vs H Q E h => ?_) (fun cdv A outer s H vs Q E hr h => ?_)
  · obtain ⟨a, ns, rfl, _⟩ := h
    rfl
  · obtain ⟨a, ns, rfl, hs, hl, k⟩ := h
    refine ⟨_, (pss_one (ps_ret (pe_disp (pps_cons (pe_str) (pe_callTy call_list_of (by rfl) T.z_list (by decide +kernel) (pa_cons (pe_slice sl_list (pv 0) po_none (po_some (pe_int))) pa_nil)) (pps_cons (pe_str) (pe_int) (pps_cons (pe_str) (pe_int) pps_nil))) (by rfl) (by rfl) (fun z => by cases z) (by decide)))), ?_⟩
    intro p hp
    have s0 : Same H (upd H p (.dK [])) := fun b o e => by rw [upd_ne (ne_of_none e hp)]; exact e
    refine ⟨_, rfl, _, rfl, a, _, rfl, s0.seq hs, fun c hc => ?_⟩
    have pc : p ≠ c := ne_of_none upd_same hc
    have hc0 : H c = none := by rw [upd_ne pc.symm] at hc; exact hc
    refine ⟨c, _, rfl, .inl (SqL.of upd_same), fun l hl' => ?_⟩
    have ec : cutV (ns.map V.int) none (some 63) = ns.map V.int := by
      unfold cutV
      have e1 : HT.sIx (ns.map V.int).length 0 Option.none = 0 := rfl
      have e2 : HT.sIx (ns.map V.int).length (ns.map V.int).length (some 63) = ns.length := by
        rw [List.length_map]
        have e3 := HT.sIx_nat ns.length ns.length 63
        refine Eq.trans e3 ?_
        omega
      rw [e1, e2, List.drop_zero, Nat.sub_zero]
      exact List.take_of_length_le (by rw [List.length_map]; exact Nat.le_refl _)
    rw [ec] at hl' ⊢
    have lp : l ≠ p := fun z => by
      rw [z, upd_ne pc, upd_same] at hl'
      cases hl'
    have lc : l ≠ c := fun z => by
      rw [z, upd_same] at hl'
      cases hl'
    have hl0 : H l = none := by
      rw [upd_ne lc, upd_ne lp] at hl'
      exact hl'
    refine ⟨by rw [upd_ne lp.symm, upd_ne pc, upd_same], [(.inr "cells", .ref l), (.inr "spot", .int 0), (.inr "more", .int 0)], rfl, by show 3 ≤ 15; decide, ?_⟩
    refine k p l _ (fun b o e => ?_) hp ⟨ns, 0, 0, upd_same, by rw [upd_ne lp, upd_same], hl, Int.le_refl 0, Int.le_refl 0, Int.le_refl 0⟩
    rw [upd_ne (ne_of_none e hp), upd_ne (ne_of_none e hl0), upd_ne (ne_of_none e hc0), upd_ne (ne_of_none e hp)]
    exact e
theorem ok_draw {f : Addr} {fd : FuncData} (F : Fun K "_law_draw" "_law_draw" s_law_draw f fd) (T : Txt K mg) : FnOk P w K mg base CX0 1 f fd ["pen", "many"] spDraw := by
  refine F.ok sc_law_draw (fun vs H Q E h => ?_) (fun cdv A outer s H vs Q E hr h => ?_)
  · obtain ⟨p, c, n, many, rfl, _⟩ := h
    rfl
  · obtain ⟨p, c, n, many, rfl, ⟨ns, sp, mo, hp, hc, hl, s0, s1, m0⟩, hn, g0, g1, k⟩ := h
    have hu := hu_of hr
    refine ⟨_, (pss_cons (ps_if (pt_cmpR op_gt (pe_dget hu (pv 0) (pe_str) (fun _ _ => rfl)) (pe_int) (nomark _)) (pss_cons (ps_set (i := 2) sc_law_draw.nd rfl (Or.inl rfl) (pe_op op_mod (pe_dget hu (pv 0) (pe_str) (fun _ _ => rfl)) (pv 1)))
  (pss_cons (ps_dput hu (pv 0) (pe_str) (pe_op op_fdiv (pe_dget hu (pv 0) (pe_str) (fun _ _ => rfl)) (pv 1)) rfl)
  (pss_one (ps_ret (pv 2))))) pss_nil)
  (pss_cons (ps_set (i := 3) sc_law_draw.nd rfl (Or.inl rfl) (pe_dget hu (pv 0) (pe_str) (fun _ _ => rfl)))
  (pss_cons (ps_dput hu (pv 0) (pe_str) (pe_op op_add (pv 3) (pe_int)) rfl)
  (pss_cons (ps_set (i := 4) sc_law_draw.nd rfl (Or.inl rfl) (pe_ifExp (pt_cmpR (op_neD hr.units) (pe_dget hu (pv 0) (pe_str) (fun _ _ => rfl)) (pe_lst pa_nil) (nomark _)) (pe_ix ix_list (pe_dget hu (pv 0) (pe_str) (fun _ _ => rfl)) (pe_op op_mod (pv 3) (pe_callB call_len_seq (by rfl) T.z_len PySem.boot_len (pa_cons (pe_dget hu (pv 0) (pe_str) (fun _ _ => rfl)) pa_nil))) (fun _ _ => rfl)) (pe_op op_add (pe_op op_mul (pe_int) (pv 3)) (pe_int))))
  (pss_cons (ps_if (PW.pt (pw_and (pt_cmpR op_lt (pv 3) (pe_callB call_len_seq (by rfl) T.z_len PySem.boot_len (pa_cons (pe_dget hu (pv 0) (pe_str) (fun _ _ => rfl)) pa_nil)) (nomark _)) (pw_and1 (pt_cmpR op_ge (pe_callB call_abs (by rfl) T.z_abs (by decide +kernel) (pa_cons (pv 4) pa_nil)) (pe_op op_pow (pe_int) (pe_int)) (nomark _))))) (pss_cons (ps_dput hu (pv 0) (pe_str) (pe_op op_fdiv (pe_op op_sub (pe_callB call_abs (by rfl) T.z_abs (by decide +kernel) (pa_cons (pv 4) pa_nil)) (pe_op op_pow (pe_int) (pe_int))) (pv 1)) rfl)
  (pss_one (ps_ret (pe_op op_mod (pe_op op_sub (pe_callB call_abs (by rfl) T.z_abs (by decide +kernel) (pa_cons (pv 4) pa_nil)) (pe_op op_pow (pe_int) (pe_int))) (pv 1))))) pss_nil)
  (pss_cons (ps_set (i := 5) sc_law_draw.nd rfl (Or.inl rfl) (pe_op op_mod (pe_op op_add (pe_op op_add (pe_op op_add (pe_op op_mul (pe_op op_mod (pv 4) (pe_int)) (pe_int)) (pe_op op_mul (pe_op op_mul (pe_int) (pv 3)) (pv 3))) (pe_op op_mul (pe_int) (pv 3))) (pe_int)) (pe_int)))
  (pss_cons (ps_set (i := 5) sc_law_draw.nd rfl (Or.inl rfl) (pe_op op_mod (pe_op op_add (pe_op op_add (pe_op op_add (pe_op op_mul (pv 5) (pv 5)) (pe_op op_mul (pe_int) (pv 5))) (pe_op op_mul (pe_int) (pv 3))) (pe_int)) (pe_int)))
  (pss_one (ps_ret (pe_op op_mod (pe_op op_fdiv (pe_op op_mod (pe_op op_mul (pv 5) (pe_op op_add (pv 5) (pe_int))) (pe_int)) (pe_int)) (pv 1))))))))))), ?_⟩
    have pc : c ≠ p := ne_of hc hp (by intro z; cases z)
    refine ⟨_, rfl, p, .int mo, rfl, getM hp, _, _, rfl, rfl, _, rfl, ?_⟩
    refine ite2 (fun hm => ?_) (fun hm => ?_)
    · have hm' : 0 < mo := of_decide_eq_true hm
      refine ⟨_, rfl, p, .int mo, rfl, getM hp, _, rfl, _, _, rfl, rfl, g0, ?_⟩
      refine ⟨_, rfl, p, .int mo, rfl, getM hp, _, rfl, _, _, rfl, rfl, ⟨g0, by omega⟩, _, rfl, p, _, rfl, setM _ hp, ?_⟩
      refine ⟨_, rfl, ?_⟩
      refine k _ _ (Int.emod_nonneg _ (by omega)) (Int.emod_lt_of_pos _ g0) (fun b o hb e => by rw [upd_ne hb]; exact e) ⟨ns, sp, _, upd_same, by rw [upd_ne pc]; exact hc, hl, s0, by omega, Int.ediv_nonneg m0 (by omega)⟩
    · refine ⟨_, rfl, p, .int sp, rfl, getS hp, ?_⟩
      refine ⟨_, rfl, _, _, rfl, rfl, _, rfl, p, _, rfl, setS _ hp, ?_⟩
      have hp1 : (upd H p (penO c (sp + 1) mo)) p = some (penO c (sp + 1) mo) := upd_same
      have hc1 : (upd H p (penO c (sp + 1) mo)) c = some (.lst (ns.map V.int)) := by rw [upd_ne pc]; exact hc
      generalize hH1 : upd H p (penO c (sp + 1) mo) = H1 at hp1 hc1 ⊢
      refine ⟨_, rfl, p, _, rfl, getC hp1, Nat.zero_le _, fun l hl' => ?_⟩
      have lp : p ≠ l := ne_of_none hp1 hl'
      have lc : c ≠ l := ne_of_none hc1 hl'
      have hp2 : (upd H1 l (.lst [])) p = some (penO c (sp + 1) mo) := by rw [upd_ne lp]; exact hp1
      have hc2 : (upd H1 l (.lst [])) c = some (.lst (ns.map V.int)) := by rw [upd_ne lc]; exact hc1
      have hl0 : H l = none := by
        rw [← hH1, upd_ne lp.symm] at hl'
        exact hl'
      have bt : But p H (upd H1 l (.lst [])) := fun b o hb e => by
        rw [upd_ne (ne_of_none e hl0), ← hH1, upd_ne hb]
        exact e
      refine ints_ne (SqL.of hc2) (SqL.of upd_same) ?_
      generalize upd H1 l (.lst []) = H2 at hp2 hc2 bt ⊢
      have ns0 : (ns.length : Int) = 0 ∨ 0 < (ns.length : Int) := by omega
      refine ⟨_, rfl, ?_⟩
      have bounds : ∀ z : Int, 0 ≤ z % 2147483647 ∧ z % 2147483647 < 2147483647 := fun z => ⟨Int.emod_nonneg _ (by decide), Int.emod_lt_of_pos _ (by decide)⟩
      -- what follows, whatever the cell is
      have kd : ∀ d : Int, 0 ≤ d → d < many → Q (.int d) H2 := fun d d0 d1 => k d H2 d0 d1 bt ⟨ns, sp + 1, mo, hp2, hc2, hl, by omega, by omega, m0⟩
      have km : ∀ d mo' : Int, 0 ≤ d → d < many → 0 ≤ mo' → Q (.int d) (upd H2 p (penO c (sp + 1) mo')) := fun d mo' d0 d1 m1 => k d _ d0 d1 (fun b o hb e => by rw [upd_ne hb]; exact bt b o hb e)
        ⟨ns, sp + 1, mo', upd_same, by rw [upd_ne pc]; exact hc2, hl, by omega, by omega, m1⟩
      cases hns : ns.isEmpty with
      | true =>
        refine iteF ?_
        refine ⟨_, rfl, _, _, rfl, rfl, .inl ⟨by decide, by decide⟩, _, _, rfl, rfl, ?_⟩
        refine ⟨_, rfl, _, rfl, p, _, rfl, getC hp2, c, _, rfl, .inl (SqL.of hc2), _, _, rfl, rfl, _, rfl, ?_⟩
        refine ite2 (fun _ => ?_) (fun _ => ?_)
        · refine ⟨_, rfl, _, rfl, _, _, rfl, rfl, ⟨by decide, by decide, by decide⟩, _, _, rfl, rfl, _, rfl, ?_⟩
          refine ite2 (fun hbig => ?_) (fun _ => ?_)
          · have hbig' := of_decide_eq_true hbig
            refine ⟨_, rfl, _, rfl, _, _, rfl, rfl, ⟨by decide, by decide, by decide⟩, _, _, rfl, rfl, _, rfl, _, _, rfl, rfl, ⟨g0, by omega⟩, _, rfl, p, _, rfl, setM _ hp2, ?_⟩
            refine ⟨_, rfl, _, rfl, _, _, rfl, rfl, ⟨by decide, by decide, by decide⟩, _, _, rfl, rfl, _, rfl, _, _, rfl, rfl, g0, ?_⟩
            exact km _ _ (Int.emod_nonneg _ (by omega)) (Int.emod_lt_of_pos _ g0) (Int.ediv_nonneg (Int.sub_nonneg_of_le hbig') (by omega))
          · refine ⟨_, rfl, _, _, rfl, rfl, (by decide : (0 : Int) < 2147483647), _, _, rfl, rfl, .inl (bnd (by decide) (by decide)), _, rfl, _, _, rfl, rfl, .inl ⟨by decide, by decide⟩, _, rfl, _, _, rfl, rfl, .inl (lim (by omega) (by omega)), _, _, rfl, rfl, _, rfl, _, _, rfl, rfl, .inl ⟨by decide, by decide⟩, _, _, rfl, rfl, _, _, rfl, rfl, _, _, rfl, rfl, (by decide : (0 : Int) < 2147483629), ?_⟩
            refine ⟨_, rfl, _, rfl, _, _, rfl, rfl, .inl (bnd (by decide) (by decide)), _, rfl, _, _, rfl, rfl, .inl ⟨by decide, by decide⟩, _, _, rfl, rfl, _, rfl, _, _, rfl, rfl, .inl ⟨by decide, by decide⟩, _, _, rfl, rfl, _, _, rfl, rfl, _, _, rfl, rfl, (by decide : (0 : Int) < 2147483587), ?_⟩
            refine ⟨_, rfl, _, rfl, _, _, rfl, rfl, _, _, rfl, rfl, .inl (bnd (by decide) (by decide)), _, _, rfl, rfl, (by decide : (0 : Int) < 2147483579), _, _, rfl, rfl, ⟨by decide, by decide⟩, _, rfl, _, _, rfl, rfl, g0, ?_⟩
            exact kd _ (Int.emod_nonneg _ (by omega)) (Int.emod_lt_of_pos _ g0)
        · refine iteF ?_
          refine ⟨_, rfl, _, _, rfl, rfl, (by decide : (0 : Int) < 2147483647), _, _, rfl, rfl, .inl (bnd (by decide) (by decide)), _, rfl, _, _, rfl, rfl, .inl ⟨by decide, by decide⟩, _, rfl, _, _, rfl, rfl, .inl (lim (by omega) (by omega)), _, _, rfl, rfl, _, rfl, _, _, rfl, rfl, .inl ⟨by decide, by decide⟩, _, _, rfl, rfl, _, _, rfl, rfl, _, _, rfl, rfl, (by decide : (0 : Int) < 2147483629), ?_⟩
          refine ⟨_, rfl, _, rfl, _, _, rfl, rfl, .inl (bnd (by decide) (by decide)), _, rfl, _, _, rfl, rfl, .inl ⟨by decide, by decide⟩, _, _, rfl, rfl, _, rfl, _, _, rfl, rfl, .inl ⟨by decide, by decide⟩, _, _, rfl, rfl, _, _, rfl, rfl, _, _, rfl, rfl, (by decide : (0 : Int) < 2147483587), ?_⟩
          refine ⟨_, rfl, _, rfl, _, _, rfl, rfl, _, _, rfl, rfl, .inl (bnd (by decide) (by decide)), _, _, rfl, rfl, (by decide : (0 : Int) < 2147483579), _, _, rfl, rfl, ⟨by decide, by decide⟩, _, rfl, _, _, rfl, rfl, g0, ?_⟩
          exact kd _ (Int.emod_nonneg _ (by omega)) (Int.emod_lt_of_pos _ g0)
      | false =>
        refine iteT ?_
        have ne0 : ns ≠ [] := fun z => by rw [z] at hns; cases hns
        have lpos : 0 < ns.length := List.length_pos_iff.mpr ne0
        have lpos' : (0 : Int) < ((ns.map V.int).length : Int) := by rw [List.length_map]; omega
        obtain ⟨cell, hcell⟩ := atI_ints (ns := ns) (Int.emod_nonneg sp (by omega)) (Int.emod_lt_of_pos sp lpos')
        refine ⟨_, rfl, p, _, rfl, getC hp2, _, rfl, ⟨_, rfl, p, _, rfl, getC hp2, c, _, rfl, .inl (SqL.of hc2), _, _, rfl, rfl, lpos', c, _, _, _, rfl, rfl, SqL.of hc2, hcell, ?_⟩⟩
        refine ⟨_, rfl, _, rfl, p, _, rfl, getC hp2, c, _, rfl, .inl (SqL.of hc2), _, _, rfl, rfl, _, rfl, ?_⟩
        refine ite2 (fun _ => ?_) (fun _ => ?_)
        · refine ⟨_, rfl, _, rfl, _, _, rfl, rfl, ⟨by decide, by decide, by decide⟩, _, _, rfl, rfl, _, rfl, ?_⟩
          refine ite2 (fun hbig => ?_) (fun _ => ?_)
          · have hbig' := of_decide_eq_true hbig
            refine ⟨_, rfl, _, rfl, _, _, rfl, rfl, ⟨by decide, by decide, by decide⟩, _, _, rfl, rfl, _, rfl, _, _, rfl, rfl, ⟨g0, by omega⟩, _, rfl, p, _, rfl, setM _ hp2, ?_⟩
            refine ⟨_, rfl, _, rfl, _, _, rfl, rfl, ⟨by decide, by decide, by decide⟩, _, _, rfl, rfl, _, rfl, _, _, rfl, rfl, g0, ?_⟩
            exact km _ _ (Int.emod_nonneg _ (by omega)) (Int.emod_lt_of_pos _ g0) (Int.ediv_nonneg (Int.sub_nonneg_of_le hbig') (by omega))
          · refine ⟨_, rfl, _, _, rfl, rfl, (by decide : (0 : Int) < 2147483647), _, _, rfl, rfl, .inl (bnd (by decide) (by decide)), _, rfl, _, _, rfl, rfl, .inl ⟨by decide, by decide⟩, _, rfl, _, _, rfl, rfl, .inl (lim (by omega) (by omega)), _, _, rfl, rfl, _, rfl, _, _, rfl, rfl, .inl ⟨by decide, by decide⟩, _, _, rfl, rfl, _, _, rfl, rfl, _, _, rfl, rfl, (by decide : (0 : Int) < 2147483629), ?_⟩
            refine ⟨_, rfl, _, rfl, _, _, rfl, rfl, .inl (bnd (by decide) (by decide)), _, rfl, _, _, rfl, rfl, .inl ⟨by decide, by decide⟩, _, _, rfl, rfl, _, rfl, _, _, rfl, rfl, .inl ⟨by decide, by decide⟩, _, _, rfl, rfl, _, _, rfl, rfl, _, _, rfl, rfl, (by decide : (0 : Int) < 2147483587), ?_⟩
            refine ⟨_, rfl, _, rfl, _, _, rfl, rfl, _, _, rfl, rfl, .inl (bnd (by decide) (by decide)), _, _, rfl, rfl, (by decide : (0 : Int) < 2147483579), _, _, rfl, rfl, ⟨by decide, by decide⟩, _, rfl, _, _, rfl, rfl, g0, ?_⟩
            exact kd _ (Int.emod_nonneg _ (by omega)) (Int.emod_lt_of_pos _ g0)
        · refine iteF ?_
          refine ⟨_, rfl, _, _, rfl, rfl, (by decide : (0 : Int) < 2147483647), _, _, rfl, rfl, .inl (bnd (by decide) (by decide)), _, rfl, _, _, rfl, rfl, .inl ⟨by decide, by decide⟩, _, rfl, _, _, rfl, rfl, .inl (lim (by omega) (by omega)), _, _, rfl, rfl, _, rfl, _, _, rfl, rfl, .inl ⟨by decide, by decide⟩, _, _, rfl, rfl, _, _, rfl, rfl, _, _, rfl, rfl, (by decide : (0 : Int) < 2147483629), ?_⟩
          refine ⟨_, rfl, _, rfl, _, _, rfl, rfl, .inl (bnd (by decide) (by decide)), _, rfl, _, _, rfl, rfl, .inl ⟨by decide, by decide⟩, _, _, rfl, rfl, _, rfl, _, _, rfl, rfl, .inl ⟨by decide, by decide⟩, _, _, rfl, rfl, _, _, rfl, rfl, _, _, rfl, rfl, (by decide : (0 : Int) < 2147483587), ?_⟩
          refine ⟨_, rfl, _, rfl, _, _, rfl, rfl, _, _, rfl, rfl, .inl (bnd (by decide) (by decide)), _, _, rfl, rfl, (by decide : (0 : Int) < 2147483579), _, _, rfl, rfl, ⟨by decide, by decide⟩, _, rfl, _, _, rfl, rfl, g0, ?_⟩
          exact kd _ (Int.emod_nonneg _ (by omega)) (Int.emod_lt_of_pos _ g0)
end
end Wf
namespace Wf
open PySem L2
abbrev s_InvalidMachine___init : Stmt := inClass (top 3) 0
abbrev N_InvalidMachine___init : List Str := ["self", "state"]
theorem sc_InvalidMachine___init : FnScope N_InvalidMachine___init ["self", "state"] (defScope s_InvalidMachine___init) := ⟨rfl, rfl, rfl, by decide +kernel, rfl, by decide +kernel, by decide +kernel⟩
abbrev s_InvalidText___init : Stmt := inClass (top 4) 0
abbrev N_InvalidText___init : List Str := ["self", "line"]
theorem sc_InvalidText___init : FnScope N_InvalidText___init ["self", "line"] (defScope s_InvalidText___init) := ⟨rfl, rfl, rfl, by decide +kernel, rfl, by decide +kernel, by decide +kernel⟩
abbrev s_TooLarge___init : Stmt := inClass (top 5) 0
abbrev N_TooLarge___init : List Str := ["self", "limit"]
theorem sc_TooLarge___init : FnScope N_TooLarge___init ["self", "limit"] (defScope s_TooLarge___init) := ⟨rfl, rfl, rfl, by decide +kernel, rfl, by decide +kernel, by decide +kernel⟩
section
variable {P : Program} {w : World} {K : PySem.W.Frag} {mg : Str → Option Value} {base : Heap} {fI : Addr} {fd : FuncData}
theorem ok_i_InvalidMachine (F : Fun K "__init__" "InvalidMachine.__init__" s_InvalidMachine___init fI fd) : FnOk P w K mg base CX0 1 fI fd ["self", "state"] (spInit K "state") := by
  refine F.ok sc_InvalidMachine___init (fun vs H Q E h => ?_) (fun cdv A outer s H vs Q E hr h => ?_)
  · obtain ⟨a, C, y, rfl, _⟩ := h
    rfl
  · refine ⟨_, (pss_one (ps_ov (pv 0) (pv 1))), ?_⟩
    obtain ⟨a, C, y, rfl, ea, T, hno, k⟩ := h
    exact ⟨_, rfl, _, rfl, a, C, rfl, T, hno, ea, fun d nd ne => k d nd ne⟩
theorem ok_i_InvalidText (F : Fun K "__init__" "InvalidText.__init__" s_InvalidText___init fI fd) : FnOk P w K mg base CX0 1 fI fd ["self", "line"] (spInit K "line") := by
  refine F.ok sc_InvalidText___init (fun vs H Q E h => ?_) (fun cdv A outer s H vs Q E hr h => ?_)
  · obtain ⟨a, C, y, rfl, _⟩ := h
    rfl
  · refine ⟨_, (pss_one (ps_ov (pv 0) (pv 1))), ?_⟩
    obtain ⟨a, C, y, rfl, ea, T, hno, k⟩ := h
    exact ⟨_, rfl, _, rfl, a, C, rfl, T, hno, ea, fun d nd ne => k d nd ne⟩
theorem ok_i_TooLarge (F : Fun K "__init__" "TooLarge.__init__" s_TooLarge___init fI fd) : FnOk P w K mg base CX0 1 fI fd ["self", "limit"] (spInit K "limit") := by
  refine F.ok sc_TooLarge___init (fun vs H Q E h => ?_) (fun cdv A outer s H vs Q E hr h => ?_)
  · obtain ⟨a, C, y, rfl, _⟩ := h
    rfl
  · refine ⟨_, (pss_one (ps_ov (pv 0) (pv 1))), ?_⟩
    obtain ⟨a, C, y, rfl, ea, T, hno, k⟩ := h
    exact ⟨_, rfl, _, rfl, a, C, rfl, T, hno, ea, fun d nd ne => k d nd ne⟩
end
end Wf
namespace Wf
open PySem L2
abbrev s_law_pick : Stmt := top 50
abbrev N_law_pick : List Str := ["pen", "some"]
theorem sc_law_pick : FnScope N_law_pick ["pen", "some"] (defScope s_law_pick) := ⟨rfl, rfl, rfl, by decide +kernel, rfl, by decide +kernel, by decide +kernel⟩
abbrev s_law_shuffled : Stmt := top 51
abbrev N_law_shuffled : List Str := ["pen", "some", "rest", "found"]
theorem sc_law_shuffled : FnScope N_law_shuffled ["pen", "some"] (defScope s_law_shuffled) := ⟨rfl, rfl, rfl, by decide +kernel, rfl, by decide +kernel, by decide +kernel⟩
def spPick (K : PySem.W.Frag) : Sp := fun vs H Q _ => ∃ (p c : Addr) (n : Nat), Pen H p c n ∧ n < 1000000 ∧
  ((∃ (a : Addr) (xs : List V), vs = [.ref p, .ref a] ∧ (SqL K H a xs ∨ SqT K H a xs) ∧ 0 < xs.length ∧ xs.length < 1000000 ∧ ∀ (x : V) (H' : Hp), x ∈ xs → But p H H' → Pen H' p c (n + 1) → Q x H') ∨
   (∃ z : Str, vs = [.ref p, .str z] ∧ 0 < z.length ∧ z.length < 1000000 ∧ ∀ (ch : Nat) (H' : Hp), ch ∈ z.cps.toList → But p H H' → Pen H' p c (n + 1) → Q (.str ⟨#[ch]⟩) H'))
def spShuffled (K : PySem.W.Frag) : Sp := fun vs H Q _ => ∃ (p c a : Addr) (n : Nat) (xs : List V), vs = [.ref p, .ref a] ∧ Pen H p c n ∧ (SqL K H a xs ∨ SqT K H a xs) ∧ xs.length ≤ 10000 ∧ n + xs.length < 1000000 ∧ Dat K H xs ∧
  ∀ (l : Addr) (ys : List V) (H' : Hp), But p H H' → Pen H' p c (n + xs.length) → H l = none → H' l = some (.lst ys) → ys.Perm xs → Q (.ref l) H'
theorem atI_mem {α : Type} {xs : List α} {i : Int} {y : α} (h : atI xs i = some y) : y ∈ xs := by
  unfold atI at h
  obtain ⟨j, _, hj⟩ := Option.bind_eq_some_iff.mp h
  exact List.mem_of_getElem? hj
theorem seqIx {j n : Nat} (h : j < n) : seqIndex? (j : Int) n = some j := by
  have e : ixN n (j : Int) = some j := by
    unfold ixN
    rw [if_pos (by omega), if_pos (by omega)]
    simp
  exact (ixN_seq e).1
theorem take_out {α : Type} : ∀ {xs : List α} {j : Nat} (h : j < xs.length), (xs[j] :: xs.eraseIdx j).Perm xs
  | x :: xs, 0, _ => List.Perm.refl _
  | x :: xs, j + 1, h => by
    have e := take_out (xs := xs) (j := j) (Nat.lt_of_succ_lt_succ h)
    exact (List.Perm.swap x _ _).trans (List.Perm.cons x e)
section
variable {P : Program} {w : World} {K : PySem.W.Frag} {mg : Str → Option Value} {base : Heap}
theorem ok_pick {f : Addr} {fd : FuncData} (F : Fun K "_law_pick" "_law_pick" s_law_pick f fd) (T : Txt K mg) (D_law_draw : Dn P w K mg base 1 "_law_draw" ["pen", "many"] spDraw) : FnOk P w K mg base CX0 2 f fd ["pen", "some"] (spPick K) := by
  refine F.ok sc_law_pick (fun vs H Q E h => ?_) (fun cdv A outer s H vs Q E hr h => ?_)
  · obtain ⟨p, c, n, _, _, ⟨a, xs, rfl, _⟩ | ⟨z, rfl, _⟩⟩ := h <;> rfl
  · refine ⟨_, (pss_one (ps_ret (pe_ix ix_seq (pv 1) (pe_cl D_law_draw (hr.mono (by decide)) (pa_cons (pv 0) (pa_cons (pe_callB call_len (by rfl) T.z_len PySem.boot_len (pa_cons (pv 1) pa_nil)) pa_nil))) (fun _ _ => rfl)))), ?_⟩
    obtain ⟨p, c, n, hp, hn, ⟨a, xs, rfl, hs, l0, l1, k⟩ | ⟨z, rfl, l0, l1, k⟩⟩ := h
    · have hlen : LenV K (.ref a) H xs.length := hs.elim (fun h => .inl ⟨xs, h, rfl⟩) (fun h => .inr ⟨xs, h, rfl⟩)
      refine ⟨_, rfl, _, rfl, _, rfl, _, _, rfl, hlen, p, c, n, _, rfl, hp, by omega, by omega, by omega, fun d H' d0 d1 bt hp' => ?_⟩
      obtain ⟨y, hy⟩ := atI_in d0 d1
      rcases hs with hs | hs
      · exact .inl ⟨a, xs, d, y, rfl, rfl, bt.sql hp hs, hy, k y H' (atI_mem hy) bt hp'⟩
      · exact .inr (.inl ⟨a, xs, d, y, rfl, rfl, bt.sqt hp hs, hy, k y H' (atI_mem hy) bt hp'⟩)
    · have hz : z.length ≤ sizeLine := by rw [sizeLine_eq]; omega
      refine ⟨_, rfl, _, rfl, _, rfl, _, _, rfl, ⟨hz, rfl⟩, p, c, n, _, rfl, hp, by omega, by omega, by omega, fun d H' d0 d1 bt hp' => ?_⟩
      obtain ⟨ch, hc⟩ := atI_in (xs := z.cps.toList) d0 (by rw [Array.length_toList]; exact d1)
      exact .inr (.inr ⟨z, d, ch, rfl, rfl, hz, hc, k ch H' (atI_mem hc) bt hp'⟩)
theorem ok_shuffled {f : Addr} {fd : FuncData} (F : Fun K "_law_shuffled" "_law_shuffled" s_law_shuffled f fd) (T : Txt K mg) (D_law_draw : Dn P w K mg base 1 "_law_draw" ["pen", "many"] spDraw) : FnOk P w K mg base CX0 2 f fd ["pen", "some"] (spShuffled K) := by
  refine F.ok sc_law_shuffled (fun vs H Q E h => ?_) (fun cdv A outer s H vs Q E hr h => ?_)
  · obtain ⟨p, c, a, n, xs, rfl, _⟩ := h
    rfl
  · refine ⟨_, (pss_cons (ps_par (i := 2) (j := 3) (by rfl) sc_law_shuffled.nd rfl rfl (by decide) rfl rfl (pa_cons (pe_callTy call_list_of (by rfl) T.z_list (by decide +kernel) (pa_cons (pv 1) pa_nil)) (pa_cons (pe_lst pa_nil) pa_nil)) (by rfl))
  (pss_cons (ps_while PassesOwn.never (pt_cmpR (op_neD hr.units) (pv 2) (pe_lst pa_nil) (nomark _)) (pss_one (ps_expr (pe_bm PySem.F.plainAttrs_list PySem.F.slot_list_append PySem.F.type_list_append mt_append (pv 3) (pa_cons (pe_bm PySem.F.plainAttrs_list PySem.F.slot_list_pop PySem.F.type_list_pop mt_popAt (pv 2) (pa_cons (pe_cl D_law_draw (hr.mono (by decide)) (pa_cons (pv 0) (pa_cons (pe_callB call_len_seq (by rfl) T.z_len PySem.boot_len (pa_cons (pv 2) pa_nil)) pa_nil))) pa_nil)) pa_nil)))))
  (pss_one (ps_ret (pv 3))))), ?_⟩
    obtain ⟨p, c, a, n, xs, rfl, hp, hs, hl, hn, hd, k⟩ := h
    refine ⟨_, rfl, a, xs, rfl, hs, fun r hr0 => ?_⟩
    refine ⟨Nat.zero_le _, fun g hg0 => ?_⟩
    refine ⟨_, _, rfl, ?_⟩
    have rg : r ≠ g := ne_of_none upd_same hg0
    have hg1 : H g = none := by rw [upd_ne rg.symm] at hg0; exact hg0
    have rp : r ≠ p := fun z => by
      obtain ⟨kvs, e⟩ := hp.at
      rw [z, e] at hr0
      cases hr0
    have gp : g ≠ p := fun z => by
      obtain ⟨kvs, e⟩ := hp.at
      rw [z, e] at hg1
      cases hg1
    have cr : c ≠ r := fun z => by
      obtain ⟨ys, e⟩ := hp.cell
      rw [z, hr0] at e
      cases e
    have cg : c ≠ g := fun z => by
      obtain ⟨ys, e⟩ := hp.cell
      rw [z, hg1] at e
      cases e
    refine while_by (fun σ H' => ∃ (rs gs : List V), σ = [some (.ref p), some (.ref a), some (.ref r), some (.ref g)] ∧ But p H H' ∧ Pen H' p c (n + gs.length) ∧ H' r = some (.lst rs) ∧ H' g = some (.lst gs) ∧ (gs ++ rs).Perm xs)
      (fun _ H' => match H' r with | some (.lst rs) => rs.length | _ => 0) ?_ ?_ ?_
    · have s2 : Same H (upd (upd H r (.lst xs)) g (.lst [])) := fun b o e => by rw [upd_ne (ne_of_none e hg1), upd_ne (ne_of_none e hr0)]; exact e
      exact ⟨xs, [], rfl, But.of s2, hp.same s2, by rw [upd_ne rg, upd_same], upd_same, List.Perm.refl _⟩
    · rintro σ H' ⟨rs, gs, rfl, bt, hp', hr1, hg2, pm⟩
      have plen : gs.length + rs.length = xs.length := by rw [← List.length_append]; exact pm.length_eq
      have dt : Dat K H' rs := (hd.sub fun y hy => pm.mem_iff.mp (List.mem_append_right _ hy)).stay (bt.stay hp)
      refine ⟨_, rfl, Nat.zero_le _, fun l hl0 => ?_⟩
      have rl : r ≠ l := ne_of_none hr1 hl0
      have gl : g ≠ l := ne_of_none hg2 hl0
      have s3 : Same H' (upd H' l (.lst [])) := fun b o e => by rw [upd_ne (ne_of_none e hl0)]; exact e
      refine data_ne (SqL.of (s3 _ _ hr1)) (dt.stay (Stay.of s3)) (SqL.of upd_same) ?_
      have bt3 := bt.same s3
      have hp3 := hp'.same s3
      have hr3 := s3 _ _ hr1
      have hg3 := s3 _ _ hg2
      have mu : (match H' r with | some (.lst rs) => rs.length | _ => 0) = rs.length := by rw [hr1]
      rw [mu]
      generalize upd H' l (.lst []) = H3 at bt3 hp3 hr3 hg3 ⊢
      refine ⟨_, rfl, ?_⟩
      cases hrs : rs with
      | nil =>
        refine iteF ?_
        refine ⟨_, rfl, ?_⟩
        subst hrs
        rw [List.append_nil] at pm
        refine k g gs H3 bt3 ?_ hg1 hg3 pm
        rw [← pm.length_eq]
        exact hp3
      | cons z zs =>
        refine iteT ?_
        have rpos : 0 < rs.length := by rw [hrs]; exact Nat.succ_pos _
        rw [← hrs]
        refine ⟨_, rfl, .inl ⟨rfl, _, SqL.of hg3⟩, _, rfl, .inl ⟨rfl, _, SqL.of hr3⟩, _, rfl, _, rfl, r, _, rfl, .inl (SqL.of hr3), p, c, _, _, rfl, hp3, by omega, by omega, by omega, fun d H4 d0 d1 bt4 hp4 => ?_⟩
        obtain ⟨j, rfl⟩ := Int.eq_ofNat_of_zero_le d0
        have hj : j < rs.length := by omega
        have hr4 : H4 r = some (.lst rs) := bt4 _ _ rp hr3
        have hg4 : H4 g = some (.lst gs) := bt4 _ _ gp hg3
        refine ⟨r, rs, (j : Int), j, rs[j], rfl, rfl, hr4, by omega, by omega, seqIx hj, List.getElem?_eq_getElem hj, ?_⟩
        refine ⟨g, gs, _, rfl, rfl, by rw [upd_ne rg.symm]; exact hg4, ?_, ?_⟩
        · have : gs.length ≤ 10000 := by omega
          exact Nat.lt_of_le_of_lt this (by decide)
        · refine ⟨⟨rs.eraseIdx j, gs ++ [rs[j]], rfl, fun b o hb e => ?_, ?_, by rw [upd_ne rg, upd_same], upd_same, ?_⟩, ?_⟩
          · rw [upd_ne (ne_of_none e hg1), upd_ne (ne_of_none e hr0)]
            exact bt4 b o hb (bt3 b o hb e)
          · rw [List.length_append, ← Nat.add_assoc]
            refine hp4.keep fun b o hb e => ?_
            have n1 : b ≠ g := by
              rcases hb with rfl | rfl
              · exact gp.symm
              · exact fun z => cg z
            have n2 : b ≠ r := by
              rcases hb with rfl | rfl
              · exact rp.symm
              · exact fun z => cr z
            rw [upd_ne n1, upd_ne n2]
            exact e
          · have e1 : (rs.eraseIdx j).Perm (rs.eraseIdx j) := List.Perm.refl _
            have e2 : (rs[j] :: rs.eraseIdx j).Perm rs := take_out hj
            rw [List.append_assoc]
            exact (List.Perm.append_left gs e2).trans pm
          · show (match (upd (upd H4 r (.lst (rs.eraseIdx j))) g (.lst (gs ++ [rs[j]]))) r with | some (.lst rs) => rs.length | _ => 0) < rs.length
            rw [upd_ne rg, upd_same]
            show (rs.eraseIdx j).length < rs.length
            rw [List.length_eraseIdx_of_lt hj]
            omega
    · intro σ H' Q' Q'' hQ h
      obtain ⟨v, e, z, kk⟩ := h
      refine ⟨v, e, z, fun l hl0 => ?_⟩
      obtain ⟨d, e', a1, a2, a3, a4, b, eb, q⟩ := kk l hl0
      exact ⟨d, e', a1, a2, a3, a4, b, eb, hQ _ _ q⟩
end
end Wf
namespace Wf
open PySem L2
abbrev s_law_letters : Stmt := top 52
abbrev N_law_letters : List Str := ["pen", "most", "alphabet", "places", "at"]
theorem sc_law_letters : FnScope N_law_letters ["pen", "most"] (defScope s_law_letters) := ⟨rfl, rfl, rfl, by decide +kernel, rfl, by decide +kernel, by decide +kernel⟩
/-- letters: in ascending order, all different -/
def Ltrs (z : Str) (most : Nat) : Prop := z.cps.toList.Pairwise (· < ·) ∧ (∀ ch ∈ z.cps.toList, 97 ≤ ch ∧ ch ≤ 122) ∧ 1 ≤ z.length ∧ z.length ≤ most
def spLetters : Sp := fun vs H Q _ => ∃ (p c : Addr) (n : Nat) (most : Int), vs = [.ref p, .int most] ∧ Pen H p c n ∧ n < 900000 ∧ 1 ≤ most ∧ most ≤ 26 ∧
  ∀ (z : Str) (H' : Hp), But p H H' → Pen H' p c (n + 27) → Ltrs z most.toNat → Q (.str z) H'
def spWord : Sp := fun vs H Q _ => ∃ (p c : Addr) (n : Nat) (z : Str) (most : Int), vs = [.ref p, .str z, .int most] ∧ Pen H p c n ∧ n < 900000 ∧ 0 < z.length ∧ z.length < 1000 ∧ 0 ≤ most ∧ most < 1000 ∧
  ∀ (y : Str) (H' : Hp), But p H H' → Pen H' p c (n + 1 + most.toNat) → y.length ≤ most.toNat → (∀ ch ∈ y.cps.toList, ch ∈ z.cps.toList) → Q (.str y) H'
theorem perm_of_map {α β : Type} {f : α → β} : ∀ {l : List α} {ys : List β}, ys.Perm (l.map f) → ∃ l' : List α, ys = l'.map f ∧ l'.Perm l
  | [], ys, h => ⟨[], by rw [List.map_nil] at h; exact List.Perm.eq_nil h, .refl _⟩
  | a :: l, ys, h => by
    have hm : f a ∈ ys := h.mem_iff.mpr List.mem_cons_self
    obtain ⟨s, t, rfl⟩ := List.append_of_mem hm
    have h2 : (s ++ t).Perm (l.map f) := by
      have h3 : (f a :: (s ++ t)).Perm (f a :: l.map f) := (List.perm_middle.symm).trans h
      exact List.Perm.cons_inv h3
    obtain ⟨l', e, pm⟩ := perm_of_map h2
    obtain ⟨l1, l2, rfl, e1, e2⟩ := List.map_eq_append_iff.mp e.symm
    refine ⟨l1 ++ a :: l2, by rw [List.map_append, List.map_cons, e1, e2], List.perm_middle.trans (List.Perm.cons a pm)⟩
theorem cut_front {α : Type} {f : α → V} {ns : List α} {k : Int} (h : 0 ≤ k) : cutV (ns.map f) none (some k) = (ns.take k.toNat).map f := by
  unfold cutV
  have e1 : HT.sIx (ns.map f).length 0 Option.none = 0 := rfl
  have e2 : HT.sIx (ns.map f).length (ns.map f).length (some k) = min k.toNat ns.length := by
    rw [List.length_map]
    obtain ⟨j, rfl⟩ := Int.eq_ofNat_of_zero_le h
    exact HT.sIx_nat ns.length ns.length j
  rw [e1, e2, List.drop_zero, Nat.sub_zero, ← List.map_take]
  congr 1
  by_cases q : k.toNat ≤ ns.length
  · rw [Nat.min_eq_left q]
  · rw [Nat.min_eq_right (by omega), List.take_of_length_le (Nat.le_refl _), List.take_of_length_le (by omega)]
theorem str_app (x y : Str) : (x ++ y).cps.toList = x.cps.toList ++ y.cps.toList := Array.toList_append
theorem join_empty : ∀ ys : List Str, (Txt.join ("" : Str) ys).cps.toList = ys.flatMap fun y => y.cps.toList
  | [] => rfl
  | [y] => by
    show y.cps.toList = [y].flatMap _
    simp
  | y :: z :: r => by
    have e := join_empty (z :: r)
    have e2 : Txt.join ("" : Str) (y :: z :: r) = y ++ ("" : Str) ++ Txt.join ("" : Str) (z :: r) := by
      unfold Txt.join
      rw [StrLaws.glued_eq_join, StrLaws.glued_eq_join]
      rfl
    rw [e2, str_app, str_app, e]
    show (y.cps.toList ++ []) ++ _ = _
    rw [List.append_nil]
    simp
/-- 0 to 25 -/
def i26 : List Int := (List.range 26).map fun i => (0 : Int) + (i : Nat)
theorem rg26 : rgV 0 26 = i26.map V.int := by
  unfold rgV i26
  rw [List.map_map]
  rfl
theorem i26_nd : i26.Nodup := by decide
theorem i26_in : ∀ i ∈ i26, 0 ≤ i ∧ i ≤ 25 := by decide
theorem i26_len : i26.length = 26 := by decide
def abc : Str := "abcdefghijklmnopqrstuvwxyz"
theorem abc_at : ∀ i ∈ i26, atI abc.cps.toList i = some (97 + i.toNat) := by decide +kernel
/-- one letter, by its place -/
def sg (i : Int) : Str := ⟨#[97 + i.toNat]⟩
theorem sg_all : ∀ ks : List Int, ((ks.map sg).flatMap fun y : Str => y.cps.toList) = ks.map fun i => 97 + i.toNat
  | [] => rfl
  | i :: ks => by
    rw [List.map_cons, List.flatMap_cons, sg_all ks]
    rfl
theorem sg_len (ks : List Int) : ((ks.map sg).map (·.length)).sum = ks.length := by
  induction ks with
  | nil => rfl
  | cons i ks ih =>
    rw [List.map_cons, List.map_cons, List.sum_cons, ih, List.length_cons]
    show 1 + ks.length = ks.length + 1
    omega
theorem asc_of {ks : List Int} (h : ks.Pairwise (· ≤ ·)) (nd : ks.Nodup) (b : ∀ i ∈ ks, 0 ≤ i) : (ks.map fun i => 97 + i.toNat).Pairwise (· < ·) := by
  rw [List.pairwise_map]
  have h2 : ks.Pairwise fun a b => a ≤ b ∧ a ≠ b := h.and nd
  refine List.Pairwise.imp_of_mem (fun ha hb hab => ?_) h2
  have := b _ ha
  have := b _ hb
  omega
theorem ones {z : Str} : ∀ {ys : List Str}, (∀ y ∈ ys, ∃ ch ∈ z.cps.toList, y = (⟨#[ch]⟩ : Str)) → (ys.map (·.length)).sum = ys.length
  | [], _ => rfl
  | y :: ys, h => by
    obtain ⟨ch, _, rfl⟩ := h y List.mem_cons_self
    rw [List.map_cons, List.sum_cons, ones (ys := ys) fun x hx => h x (List.mem_cons_of_mem _ hx), List.length_cons]
    show 1 + ys.length = ys.length + 1
    omega
section
variable {P : Program} {w : World} {K : PySem.W.Frag} {mg : Str → Option Value} {base : Heap}
theorem ok_letters {f : Addr} {fd : FuncData} (F : Fun K "_law_letters" "_law_letters" s_law_letters f fd) (T : Txt K mg) (D_law_draw : Dn P w K mg base 1 "_law_draw" ["pen", "many"] spDraw)
    (D_law_shuffled : Dn P w K mg base 2 "_law_shuffled" ["pen", "some"] (spShuffled K)) : FnOk P w K mg base CX0 3 f fd ["pen", "most"] spLetters := by
  refine F.ok sc_law_letters (fun vs H Q E h => ?_) (fun cdv A outer s H vs Q E hr h => ?_)
  · obtain ⟨p, c, n, most, rfl, _⟩ := h
    rfl
  · refine ⟨_, (pss_cons (ps_set (i := 2) sc_law_letters.nd rfl (Or.inr rfl) (pe_str))
  (pss_cons (ps_set (i := 3) sc_law_letters.nd rfl (Or.inl rfl) (pe_callB cr_sorted (by rfl) T.z_sorted (by decide +kernel) (pa_cons (pe_slice sl_list (pe_cl D_law_shuffled (hr.mono (by decide)) (pa_cons (pv 0) (pa_cons (pe_listRg rfl (by rfl) T.z_list (prg_1 (by rfl) T.z_range (pe_int))) pa_nil))) po_none (po_some (pe_op op_add (pe_int) (pe_cl D_law_draw (hr.mono (by decide)) (pa_cons (pv 0) (pa_cons (pv 1) pa_nil)))))) pa_nil)))
  (pss_one (ps_ret (pe_join (pe_str) (pe_lc (own := [("at", 4)]) (g := gName 4) (tt := tYes) (by rfl) sc_law_letters.nd (pi_list (pv 3)) (blkOk_by (own := [("at", 4)]) (N := N_law_letters) (sc := defScope s_law_letters) (by decide +kernel)) (fun _ _ _ _ _ => (pg_name (i := 4) sc_law_letters.nd rfl (Or.inl rfl))) (fun _ _ _ _ _ => pts_nil) (fun _ _ _ _ _ => (pe_ix ix_str (pv 2) (pv 4) (fun _ _ => rfl))))))))), ?_⟩
    obtain ⟨p, c, n, most, rfl, hp, hn, m1, m2, k⟩ := h
    refine ⟨_, rfl, _, rfl, RgOk.of_le (by decide) (by decide) (by decide) (by decide), fun q hq => ?_⟩
    rw [rg26]
    have s1 : Same H (upd H q (.lst (i26.map V.int))) := fun b o e => by rw [upd_ne (ne_of_none e hq)]; exact e
    have hp1 := hp.same s1
    have bt1 : But p H (upd H q (.lst (i26.map V.int))) := But.of s1
    have hq1 : SqL K (upd H q (.lst (i26.map V.int))) q (i26.map V.int) := SqL.of upd_same
    generalize upd H q (.lst (i26.map V.int)) = H1 at s1 hp1 bt1 hq1 ⊢
    refine ⟨p, c, q, n, i26.map V.int, rfl, hp1, .inl hq1, by rw [List.length_map, i26_len]; decide, by rw [List.length_map, i26_len]; omega, fun x hx => ?_, fun l ys H2 bt2 hp2 hl0 hl2 pm => ?_⟩
    · obtain ⟨i, _, rfl⟩ := List.mem_map.mp hx
      exact ⟨.int i, .int i, pl_int⟩
    obtain ⟨ns, rfl, pn⟩ := perm_of_map pm
    rw [List.length_map, i26_len] at hp2
    refine ⟨_, rfl, _, rfl, p, c, n + 26, most, rfl, hp2, by omega, by omega, by omega, fun d H3 d0 d1 bt3 hp3 => ?_⟩
    have hl3 : SqL K H3 l (ns.map V.int) := bt3.sql hp2 (SqL.of hl2)
    refine ⟨_, _, rfl, rfl, _, rfl, l, _, rfl, hl3, fun r hr0 => ?_⟩
    rw [cut_front (by omega)]
    have s4 : Same H3 (upd H3 r (.lst ((ns.take (1 + d).toNat).map V.int))) := fun b o e => by rw [upd_ne (ne_of_none e hr0)]; exact e
    have bt4 := ((bt1.trans bt2).trans bt3).same s4
    have hp4 := hp3.same s4
    have hr4 : SqL K (upd H3 r (.lst ((ns.take (1 + d).toNat).map V.int))) r ((ns.take (1 + d).toNat).map V.int) := SqL.of upd_same
    generalize upd H3 r (.lst ((ns.take (1 + d).toNat).map V.int)) = H4 at s4 bt4 hp4 hr4 ⊢
    have nl : ns.length = 26 := by rw [pn.length_eq, i26_len]
    have kl : (ns.take (1 + d).toNat).length = (1 + d).toNat := by rw [List.length_take, nl]; omega
    refine ⟨r, _, rfl, hr4, by rw [kl]; omega, fun ks q5 pk ok hq5 => ?_⟩
    have s5 : Same H4 (upd H4 q5 (.lst (ks.map V.int))) := fun b o e => by rw [upd_ne (ne_of_none e hq5)]; exact e
    have bt5 := bt4.same s5
    have hp5 := hp4.same s5
    have hr5 : SqL K (upd H4 q5 (.lst (ks.map V.int))) q5 (ks.map V.int) := SqL.of upd_same
    generalize upd H4 q5 (.lst (ks.map V.int)) = H5 at s5 bt5 hp5 hr5 ⊢
    have k_in : ∀ i ∈ ks, i ∈ i26 := fun i hi => pn.mem_iff.mp (List.mem_of_mem_take (pk.mem_iff.mp hi))
    have k_nd : ks.Nodup := pk.nodup_iff.mpr ((pn.nodup_iff.mpr i26_nd).sublist (List.take_sublist _ _))
    have k_len : ks.length = (1 + d).toNat := by rw [pk.length_eq, kl]
    refine ⟨⟨_, rfl⟩, _, rfl, q5, rfl, ⟨_, hr5⟩, fun D hD => lc_list (K := K) (a := q5) (xs := ks.map V.int) (fun i H' => Same H5 H' ∧ H' D = some (.lst (((ks.take i).map sg).map V.str))) ?_ ?_ ?_ ?_⟩
    · exact ⟨fun b o e => by rw [upd_ne (ne_of_none e hD)]; exact e, upd_same⟩
    · rintro i H' _ ⟨sm, _⟩
      exact sm.seq hr5
    · rintro i x H' hi ⟨sm, hD'⟩
      rw [List.getElem?_map] at hi
      obtain ⟨m, hm, rfl⟩ := Option.map_eq_some_iff.mp hi
      have hmem : m ∈ ks := List.mem_of_getElem? hm
      refine ⟨rfl, ?_⟩
      refine ⟨_, rfl, _, rfl, abc, m, _, rfl, rfl, by decide +kernel, abc_at m (k_in m hmem), ?_⟩
      refine ⟨_, hD', ?_, fun b o e => ?_, ?_⟩
      · rw [List.length_map, List.length_map]
        have : (ks.take i).length ≤ 26 := by rw [List.length_take, k_len]; omega
        exact Nat.lt_of_le_of_lt this (by decide)
      · rw [upd_ne (ne_of_none e hD)]
        exact sm b o e
      · rw [upd_same, List.take_succ, hm, List.map_append, List.map_append]
        rfl
    · rintro H' ⟨sm, hD'⟩
      rw [List.length_map, List.take_length] at hD'
      refine ⟨_, D, ks.map sg, rfl, rfl, .inl (SqL.of hD'), ?_, ?_⟩
      · rw [sg_len, List.length_map]
        show ks.length + ks.length * 0 ≤ 16777216
        omega
      · have e := (join_empty (ks.map sg)).trans (sg_all ks)
        have b0 : ∀ i ∈ ks, 0 ≤ i := fun i hi => (i26_in i (k_in i hi)).1
        refine k _ H' (bt5.same sm) (hp5.same sm) ⟨?_, ?_, ?_, ?_⟩
        · rw [e]
          exact asc_of ok k_nd b0
        · rw [e]
          intro ch hch
          obtain ⟨i, hi, rfl⟩ := List.mem_map.mp hch
          have := i26_in i (k_in i hi)
          omega
        all_goals
          have el := congrArg List.length e
          rw [Array.length_toList, List.length_map, k_len] at el
          show _ ≤ _
          first | (show 1 ≤ (Txt.join _ _).cps.size; omega) | (show (Txt.join _ _).cps.size ≤ _; omega)
end
end Wf
namespace Wf
open PySem L2
abbrev s_law_table : Stmt := top 53
abbrev N_law_table : List Str := ["pen", "letters", "size", "is_full", "rows", "marks", "state", "row", "letter", "target"]
theorem sc_law_table : FnScope N_law_table ["pen", "letters", "size", "is_full"] (defScope s_law_table) := ⟨rfl, rfl, rfl, by decide +kernel, rfl, by decide +kernel, by decide +kernel⟩
section
variable {P : Program} {w : World} {K : PySem.W.Frag} {mg : Str → Option Value} {base : Heap}
theorem ok_table {f : Addr} {fd : FuncData} (F : Fun K "_law_table" "_law_table" s_law_table f fd) (T : Txt K mg) (D_law_draw : Dn P w K mg base 1 "_law_draw" ["pen", "many"] spDraw) : FnOk P w K mg base CX0 2 f fd ["pen", "letters", "size", "is_full"] spTable := by
  refine F.ok sc_law_table (fun vs H Q E h => ?_) (fun cdv A outer s H vs Q E hr h => ?_)
  · obtain ⟨p, c, n, z, sz, full, rfl, _⟩ := h
    rfl
  · refine ⟨_, (pss_cons (ps_par (i := 4) (j := 5) (by rfl) sc_law_table.nd rfl rfl (by decide) rfl rfl (pa_cons (pe_lst pa_nil) (pa_cons (pe_lst pa_nil) pa_nil)) (by rfl))
  (pss_cons (ps_for PassesOwn.never rfl (pi_range1 (by rfl) T.z_range (pa_cons (pv 2) pa_nil)) (pg_name (i := 6) sc_law_table.nd rfl (Or.inl rfl))
   (pss_cons (ps_setLc (i := 7) (own := [("letter", 8)]) (g := gName 8) (tt := tYes) (by rfl) sc_law_table.nd rfl rfl (sw_true rfl rfl rfl (by decide +kernel)) (pi_str (pv 1)) (blkOk_by (own := [("letter", 8)]) (N := N_law_table) (sc := defScope s_law_table) (by decide +kernel)) (fun _ _ _ _ _ => (pg_name (i := 8) sc_law_table.nd rfl (Or.inl rfl))) (fun _ _ _ _ _ => pts_nil) (fun _ _ _ _ _ => (pe_cl D_law_draw (hr.mono (by decide)) (pa_cons (pv 0) (pa_cons (pv 2) pa_nil)))))
  (pss_cons (ps_expr (pe_bm PySem.F.plainAttrs_list PySem.F.slot_list_append PySem.F.type_list_append mt_append (pv 5) (pa_cons (pe_ix ix_list (pe_lst (pa_cons (pe_bl) (pa_cons (pe_bl) (pa_cons (pe_non) pa_nil)))) (pe_cl D_law_draw (hr.mono (by decide)) (pa_cons (pv 0) (pa_cons (pe_ifExp (pt_val (pv 3)) (pe_int) (pe_int)) pa_nil))) (fun _ _ => rfl)) pa_nil)))
  (pss_one (ps_expr (pe_bm PySem.F.plainAttrs_list PySem.F.slot_list_append PySem.F.type_list_append mt_append (pv 4) (pa_cons (pe_lc (own := [("target", 9)]) (g := gName 9) (tt := tYes) (by rfl) sc_law_table.nd (pi_list (pv 7)) (blkOk_by (own := [("target", 9)]) (N := N_law_table) (sc := defScope s_law_table) (by decide +kernel)) (fun _ _ _ _ _ => (pg_name (i := 9) sc_law_table.nd rfl (Or.inl rfl))) (fun _ _ _ _ _ => pts_nil) (fun _ _ _ _ _ => (pe_ifExp (PW.pt (pw_or (pt_val (pv 3)) (pw_or1 (pt_cmpR op_gt (pe_cl D_law_draw (hr.mono (by decide)) (pa_cons (pv 0) (pa_cons (pe_int) pa_nil))) (pe_int) (nomark _))))) (pv 9) (pe_non)))) pa_nil)))))))
  (pss_one (ps_ret (pe_tup (pa_cons (pv 4) (pa_cons (pv 5) pa_nil))))))), ?_⟩
    obtain ⟨p, c, n, z, sz, full, rfl, hp, s0, s1, z1, hn, k⟩ := h
    refine ⟨Nat.zero_le _, fun r hr0 => ⟨Nat.zero_le _, fun m hm0 => ⟨_, _, rfl, ?_⟩⟩⟩
    have rm : r ≠ m := ne_of_none upd_same hm0
    have s2 : Same H (upd (upd H r (.lst [])) m (.lst [])) := (sm1 hr0).trans (sm1 hm0)
    have hm1 : H m = none := by rw [upd_ne rm.symm] at hm0; exact hm0
    have T0 : Tbl H (upd (upd H r (.lst [])) m (.lst [])) z.length sz full r m [] [] [] := Tbl.start ((upd_ne rm).trans upd_same) upd_same hr0 hm1 rm
    have hp2 := hp.same s2
    have bt2 : But p H _ := But.of s2
    generalize upd (upd H r (.lst [])) m (.lst []) = H2 at s2 T0 hp2 bt2 ⊢
    refine ⟨_, rfl, _, rfl, by omega, by omega, ?_⟩
    rw [show (sz : Int).toNat = sz from rfl]
    refine for_range (n := sz) (fun i σ H' => ∃ (v6 v7 v8 v9 : Option V) (bs : List Addr) (tb : List (List (Option Nat))) (ms : List (Option Bool)), σ = [some (.ref p), some (.str z), some (.int sz), some (.bl full), some (.ref r), some (.ref m), v6, v7, v8, v9] ∧
      But p H H' ∧ Pen H' p c (n + i * (2 * z.length + 1)) ∧ Tbl H H' z.length sz full r m bs tb ms ∧ tb.length = i ∧ ms.length = i) ⟨_, _, _, _, [], [], [], rfl, bt2, by rw [Nat.zero_mul]; exact hp2, T0, rfl, rfl⟩ ?_ ?_
    · rintro i σ H3 hi ⟨v6, v7, v8, v9, bs, tb, ms, rfl, bt3, hp3, T3, lt3, lm3⟩
      have room : n + i * (2 * z.length + 1) + (2 * z.length + 1) < 1000000 := by
        have := Nat.mul_le_mul_right (2 * z.length + 1) (show i + 1 ≤ sz from hi)
        rw [Nat.succ_mul] at this
        omega
      have more : n + (i + 1) * (2 * z.length + 1) = n + i * (2 * z.length + 1) + (2 * z.length + 1) := by rw [Nat.succ_mul, Nat.add_assoc]
      rw [more]
      generalize n + i * (2 * z.length + 1) = n3 at hp3 room ⊢
      -- row
      refine ⟨_, rfl, z, rfl, fun D hD => ?_⟩
      obtain ⟨Dp, Dc⟩ := hp3.off hD
      obtain ⟨Dr, Dm, Db⟩ := T3.off hD
      refine lc_chars (fun j H' => But p H3 H' ∧ Pen H' p c (n3 + j) ∧ ∃ ns : List Nat, H' D = some (.lst ((ns.map some).map oV)) ∧ ns.length = j ∧ ∀ x ∈ ns, x < sz) ⟨But.of (sm1 hD), hp3.same (sm1 hD), [], upd_same, rfl, fun x hx => absurd hx List.not_mem_nil⟩ ?_ ?_
      · rintro j ch H' hj ⟨bt', hp', ns, hD', nl, nlt⟩
        have jl : j < z.length := by
          obtain ⟨q, _⟩ := List.getElem?_eq_some_iff.mp hj
          rw [Array.length_toList] at q
          exact q
        refine ⟨rfl, _, rfl, _, rfl, p, c, _, sz, rfl, hp', by omega, by omega, by omega, fun d H4 d0 d1 bt4 hp4 => ?_⟩
        refine ⟨_, bt4 _ _ Dp hD', small1000 (by rw [List.length_map, List.length_map]; omega), (bt'.trans bt4).new hD, (hp4.wr Dp Dc).up (by omega), ns ++ [d.toNat], ?_, ?_, fun x hx => ?_⟩
        · rw [upd_same, List.map_append, List.map_append]
          have e : V.int d = oV (some d.toNat) := by
            show V.int d = V.int (d.toNat : Nat)
            rw [Int.toNat_of_nonneg d0]
          rw [e]
          rfl
        · rw [List.length_append, nl]
          rfl
        · rcases List.mem_append.mp hx with hx | hx
          · exact nlt x hx
          · rw [List.mem_singleton.mp hx]
            omega
      rintro H4 ⟨bt4, hp4, ns, hD4, nl, nlt⟩
      have T4 := T3.but bt4 hp3
      -- marks.append
      refine ⟨_, rfl, .inl ⟨rfl, _, SqL.of T4.ma⟩, by show 3 ≤ sizeLine; decide, fun q hq => ?_⟩
      have s5 := sm1 (o := .lst [.bl false, .bl true, .non]) hq
      have T5 := T4.same s5
      have hp5 := hp4.same s5
      have hD5 := s5 _ _ hD4
      have hq5 : (upd H4 q (.lst [.bl false, .bl true, .non])) q = some (.lst [.bl false, .bl true, .non]) := upd_same
      have bt5 := bt4.same s5
      generalize upd H4 q (.lst [.bl false, .bl true, .non]) = H5 at s5 T5 hp5 hD5 hq5 bt5 ⊢
      refine ⟨_, rfl, tIf_num (b := full) rfl ⟨p, c, _, _, rfl, hp5, by omega, by cases full <;> decide, by cases full <;> decide, fun d H6 d0 d1 bt6 hp6 => ?_⟩⟩
      obtain ⟨kvs, pe⟩ := hp5.at
      have qp : q ≠ p := fun e => by
        rw [e, pe] at hq5
        cases hq5
      obtain ⟨x, hx, hxf⟩ : ∃ x : Option Bool, atI [V.bl false, .bl true, .non] d = some (mV x) ∧ (full = true → x ≠ none) := by
        have d3 : d = 0 ∨ d = 1 ∨ (d = 2 ∧ full = false) := by
          cases full
          · have lt : d < 3 := d1
            have or3 : d = 0 ∨ d = 1 ∨ d = 2 := by omega
            exact or3.imp id fun z => z.imp id fun z => ⟨z, rfl⟩
          · have lt : d < 2 := d1
            have or2 : d = 0 ∨ d = 1 := by omega
            exact or2.imp id .inl
        rcases d3 with rfl | rfl | ⟨rfl, e⟩
        · exact ⟨some false, rfl, fun _ z => by cases z⟩
        · exact ⟨some true, rfl, fun _ z => by cases z⟩
        · exact ⟨none, rfl, fun y => by rw [e] at y; cases y⟩
      refine ⟨q, _, d, _, rfl, rfl, SqL.of (bt6 _ _ qp hq5), hx, ?_⟩
      have T6 := T5.but bt6 hp5
      have hD6 := bt6 _ _ Dp hD5
      refine ⟨m, _, _, rfl, rfl, T6.ma, small1000 (by rw [List.length_map]; omega), ?_⟩
      have T7 := T6.mark hxf
      have mp : m ≠ p ∧ m ≠ c := hp.off T3.new.2.1
      have rp : r ≠ p ∧ r ≠ c := hp.off T3.new.1
      have hp7 : Pen (upd H6 m (.lst (ms.map mV ++ [mV x]))) p c (n3 + z.length + 1) := hp6.wr mp.1 mp.2
      have hD7 : (upd H6 m (.lst (ms.map mV ++ [mV x]))) D = some (.lst ((ns.map some).map oV)) := (upd_ne Dm).trans hD6
      have bt7 : But p H (upd H6 m (.lst (ms.map mV ++ [mV x]))) := ((bt3.trans bt5).trans bt6).new T3.new.2.1
      generalize upd H6 m (.lst (ms.map mV ++ [mV x])) = H7 at T7 hp7 hD7 bt7 ⊢
      -- rows.append
      refine ⟨_, rfl, .inl ⟨rfl, _, SqL.of T7.ra⟩, _, rfl, D, rfl, ⟨_, SqL.of hD7⟩, fun D2 hD2 => ?_⟩
      obtain ⟨D2p, D2c⟩ := hp7.off hD2
      obtain ⟨D2r, D2m, D2b⟩ := T7.off hD2
      refine lc_list (K := K) (a := D) (xs := (ns.map some).map oV) (fun j H' => But p H7 H' ∧ Pen H' p c (n3 + z.length + 1 + j) ∧ ∃ os : List (Option Nat), H' D2 = some (.lst (os.map oV)) ∧ os.length = j ∧ (∀ x, some x ∈ os → x < sz) ∧ (full = true → none ∉ os))
        ⟨But.of (sm1 hD2), hp7.same (sm1 hD2), [], upd_same, rfl, fun x hx => absurd hx List.not_mem_nil, fun _ => List.not_mem_nil⟩ ?_ ?_ ?_
      · rintro j H' _ ⟨bt', _⟩
        exact SqL.of (bt' _ _ Dp hD7)
      · rintro j y H' hj ⟨bt', hp', os, hD', ol, olt, ofl⟩
        rw [List.map_map, List.getElem?_map] at hj
        obtain ⟨x, hx2, rfl⟩ := Option.map_eq_some_iff.mp hj
        have xlt := nlt x (List.mem_of_getElem? hx2)
        have jl : j < z.length := by
          obtain ⟨q, _⟩ := List.getElem?_eq_some_iff.mp hx2
          omega
        have cont : ∀ (o : Option Nat) (H8 : Hp), But p H' H8 → Pen H8 p c (n3 + z.length + 1 + (j + 1)) → (o = some x ∨ (o = none ∧ full = false)) → ∃ acc, H8 D2 = some (.lst acc) ∧ acc.length < sizeLine ∧
            (But p H7 (upd H8 D2 (.lst (acc ++ [oV o]))) ∧ Pen (upd H8 D2 (.lst (acc ++ [oV o]))) p c (n3 + z.length + 1 + (j + 1)) ∧ ∃ os : List (Option Nat), (upd H8 D2 (.lst (acc ++ [oV o]))) D2 = some (.lst (os.map oV)) ∧ os.length = j + 1 ∧ (∀ x, some x ∈ os → x < sz) ∧ (full = true → none ∉ os)) := by
          intro o H8 bt8 hp8 ho
          refine ⟨_, bt8 _ _ D2p hD', small1000 (by rw [List.length_map]; omega), (bt'.trans bt8).new hD2, hp8.wr D2p D2c, os ++ [o], ?_, ?_, fun y hy => ?_, fun e hn => ?_⟩
          · rw [upd_same, List.map_append]
            rfl
          · rw [List.length_append, ol]
            rfl
          · rcases List.mem_append.mp hy with hy | hy
            · exact olt y hy
            · have e := List.mem_singleton.mp hy
              rcases ho with ho | ho
              · rw [ho] at e
                cases e
                exact xlt
              · rw [ho.1] at e
                cases e
          · rcases List.mem_append.mp hn with hn | hn
            · exact ofl e hn
            · have e2 := List.mem_singleton.mp hn
              rcases ho with ho | ho
              · rw [ho] at e2
                cases e2
              · rw [ho.2] at e
                cases e
        refine ⟨rfl, ⟨_, rfl, full, rfl, ?_⟩⟩
        rcases Bool.eq_false_or_eq_true full with ef | ef
        · rw [if_pos ef]
          exact iteT ⟨_, rfl, cont (some x) H' (But.refl _ _) (hp'.up (by omega)) (.inl rfl)⟩
        · rw [if_neg (by rw [ef]; decide)]
          refine ⟨_, rfl, p, c, _, 4, rfl, hp', by omega, by decide, by decide, fun d H9 d0 d1 bt9 hp9 => ⟨d, 0, rfl, rfl, _, rfl, ?_⟩⟩
          rcases Decidable.em ((0 : Int) < d) with pos | npos
          · rw [decide_eq_true pos]
            exact iteT ⟨_, rfl, cont (some x) H9 bt9 hp9 (.inl rfl)⟩
          · rw [decide_eq_false npos]
            exact iteF (cont none H9 bt9 hp9 (.inr ⟨rfl, ef⟩))
      · rintro H8 ⟨bt8, hp8, os, hD8, ol, olt, ofl⟩
        have T8 := T7.but bt8 hp7
        refine ⟨r, _, _, rfl, rfl, T8.ra, small1000 (by rw [List.length_map, T8.lb]; omega), ?_⟩
        have ll : os.length = z.length := by
          rw [ol, List.length_map, List.length_map, nl]
        have h0 : H D2 = none := bt7.free hp7 hD2
        refine ⟨_, _, _, _, bs ++ [D2], tb ++ [os], ms ++ [x], rfl, (bt7.trans bt8).new T3.new.1, (hp8.wr rp.1 rp.2).up (by rw [List.length_map, List.length_map, nl]; omega), T8.add hD8 h0 D2r D2m D2b ll olt ofl, ?_, ?_⟩
        · rw [List.length_append, lt3]
          rfl
        · rw [List.length_append, lm3]
          rfl
    · rintro σ H' ⟨v6, v7, v8, v9, bs, tb, ms, rfl, bt3, hp3, T3, lt3, lm3⟩
      refine ⟨_, rfl, _, rfl, by show 2 ≤ sizeLine; decide, fun t ht => ?_⟩
      refine k t r m bs tb ms _ (bt3.same (sm1 ht)) (hp3.same (sm1 ht)) (bt3.free hp3 ht) upd_same (T3.same (sm1 ht)) lt3 lm3
end
end Wf
namespace Wf
open PySem L2
structure TxtW (K : PySem.W.Frag) (mg : Str → Option Value) : Prop extends Txt K mg where
  g_MOST_LETTERS : ∃ t, mg "MOST_LETTERS" = some (.int 4 t)
abbrev s_is_number : Stmt := top 16
abbrev N_is_number : List Str := ["value"]
theorem sc_is_number : FnScope N_is_number ["value"] (defScope s_is_number) := ⟨rfl, rfl, rfl, by decide +kernel, rfl, by decide +kernel, by decide +kernel⟩
abbrev s_is_sequence : Stmt := top 17
abbrev N_is_sequence : List Str := ["value"]
theorem sc_is_sequence : FnScope N_is_sequence ["value"] (defScope s_is_sequence) := ⟨rfl, rfl, rfl, by decide +kernel, rfl, by decide +kernel, by decide +kernel⟩
abbrev s_is_mark : Stmt := top 18
abbrev N_is_mark : List Str := ["value"]
theorem sc_is_mark : FnScope N_is_mark ["value"] (defScope s_is_mark) := ⟨rfl, rfl, rfl, by decide +kernel, rfl, by decide +kernel, by decide +kernel⟩
abbrev s_is_target : Stmt := top 21
abbrev N_is_target : List Str := ["value", "size"]
theorem sc_is_target : FnScope N_is_target ["value", "size"] (defScope s_is_target) := ⟨rfl, rfl, rfl, by decide +kernel, rfl, by decide +kernel, by decide +kernel⟩
/-- a question of one value -/
def spAsk (K : PySem.W.Frag) (g : PyData → Bool) : Sp := fun vs H Q _ => ∃ (v : V) (d : PyData), vs = [v] ∧ Dq K H v d ∧ ∀ H', Same H H' → Q (.bl (g d)) H'
def spTarget (K : PySem.W.Frag) : Sp := fun vs H Q _ => ∃ (v : V) (d : PyData) (n : Int), vs = [v, .int n] ∧ Dq K H v d ∧ ∀ H', Same H H' → Q (.bl (isTarget n d)) H'
theorem same_refl {H : Hp} : Same H H := fun _ _ z => z
theorem Dq.isN {K : PySem.W.Frag} {H : Hp} {v : V} {d : PyData} (h : Dq K H v d) : decide (v = .non) = (match d with | .none => true | _ => false) := by
  cases h with
  | non => exact decide_eq_true rfl
  | _ => exact decide_eq_false fun z => by cases z
theorem Dq.isB {K : PySem.W.Frag} {H : Hp} {v : V} {d : PyData} {b : Bool} (h : Dq K H v d) : decide (v = .bl b) = (match d with | .bool c => c == b | _ => false) := by
  cases h with
  | bl c => 
    by_cases e : c = b
    · rw [e]
      show _ = (b == b)
      rw [beq_self_eq_true]
      exact decide_eq_true rfl
    · show _ = (c == b)
      rw [beq_eq_false_iff_ne.mpr e]
      exact decide_eq_false fun z => e (V.bl.inj z)
  | _ => exact decide_eq_false fun z => by cases z
section
variable {P : Program} {w : World} {K : PySem.W.Frag} {mg : Str → Option Value} {base : Heap} {f : Addr} {fd : FuncData}
theorem ok_is_number (F : Fun K "is_number" "is_number" s_is_number f fd) (T : Txt K mg) : FnOk P w K mg base CX0 1 f fd ["value"] (spAsk K isNum) := by
  refine F.ok sc_is_number (fun vs H Q E h => ?_) (fun cdv A outer s H vs Q E hr h => ?_)
  · obtain ⟨v, d, rfl, _⟩ := h
    rfl
  · obtain ⟨v, d, rfl, hd, k⟩ := h
    refine ⟨_, (pss_one (ps_ret (pe_and (pe_callB (call_isD kit_int) (by rfl) T.z_isinstance (by decide +kernel) (pa_cons (pv 0) (pa_cons (pe_ty (T := "int") T.z_int (by decide +kernel)) pa_nil))) (pe_one (pe_not (pe_callB (call_isD kit_bool) (by rfl) T.z_isinstance (by decide +kernel) (pa_cons (pv 0) (pa_cons (pe_ty (T := "bool") T.z_bool (by decide +kernel)) pa_nil)))))))), ?_⟩
    refine ⟨_, rfl, v, d, rfl, hd, _, rfl, ?_⟩
    have k := k _ same_refl
    rw [isNum_eq] at k
    cases e : isInt d with
    | true =>
      rw [e, Bool.true_and] at k
      exact iteT ⟨_, rfl, v, d, rfl, hd, _, rfl, k⟩
    | false =>
      rw [e, Bool.false_and] at k
      exact iteF k
theorem ok_is_sequence (F : Fun K "is_sequence" "is_sequence" s_is_sequence f fd) (T : Txt K mg) : FnOk P w K mg base CX0 1 f fd ["value"] (spAsk K isSeq) := by
  refine F.ok sc_is_sequence (fun vs H Q E h => ?_) (fun cdv A outer s H vs Q E hr h => ?_)
  · obtain ⟨v, d, rfl, _⟩ := h
    rfl
  · obtain ⟨v, d, rfl, hd, k⟩ := h
    refine ⟨_, (pss_one (ps_ret (pe_callB call_isSeq (by rfl) T.z_isinstance (by decide +kernel) (pa_cons (pv 0) (pa_cons (pe_tup (pa_cons (pe_ty (T := "list") T.z_list (by decide +kernel)) (pa_cons (pe_ty (T := "tuple") T.z_tuple (by decide +kernel)) pa_nil))) pa_nil))))), ?_⟩
    exact ⟨_, rfl, by show 2 ≤ sizeLine; decide, fun t ht => ⟨v, d, t, rfl, upd_same, (Sty.of (sm1 ht)).dq hd, k _ (sm1 ht)⟩⟩
theorem ok_is_mark (F : Fun K "is_mark" "is_mark" s_is_mark f fd) (T : Txt K mg) : FnOk P w K mg base CX0 1 f fd ["value"] (spAsk K isMark) := by
  refine F.ok sc_is_mark (fun vs H Q E h => ?_) (fun cdv A outer s H vs Q E hr h => ?_)
  · obtain ⟨v, d, rfl, _⟩ := h
    rfl
  · obtain ⟨v, d, rfl, hd, k⟩ := h
    refine ⟨_, (pss_one (ps_ret (pe_or (pe_cmpR op_isN (pv 0) (pe_non) (nomark _)) (pe_or (pe_cmpR op_isQ (pv 0) (pe_bl) (nomark _)) (pe_one (pe_cmpR op_isQ (pv 0) (pe_bl) (nomark _))))))), ?_⟩
    have k := k _ same_refl
    refine ⟨_, rfl, rfl, _, rfl, ?_⟩
    rw [hd.isN]
    cases d with
    | none => exact iteT k
    | bool b =>
      refine iteF ⟨_, rfl, true, _, rfl, hd, _, rfl, ?_⟩
      rw [hd.isB]
      cases b with
      | true => exact iteT k
      | false =>
        refine iteF ⟨_, rfl, false, _, rfl, hd, ?_⟩
        rw [hd.isB]
        exact k
    | _ =>
      refine iteF ⟨_, rfl, true, _, rfl, hd, _, rfl, ?_⟩
      rw [hd.isB]
      refine iteF ⟨_, rfl, false, _, rfl, hd, ?_⟩
      rw [hd.isB]
      exact k
theorem ok_is_target (F : Fun K "is_target" "is_target" s_is_target f fd) (T : Txt K mg) (D_is_number : Dn P w K mg base 1 "is_number" ["value"] (spAsk K isNum)) : FnOk P w K mg base CX0 2 f fd ["value", "size"] (spTarget K) := by
  refine F.ok sc_is_target (fun vs H Q E h => ?_) (fun cdv A outer s H vs Q E hr h => ?_)
  · obtain ⟨v, d, n, rfl, _⟩ := h
    rfl
  · obtain ⟨v, d, n, rfl, hd, k⟩ := h
    refine ⟨_, (pss_one (ps_ret (pe_or (pe_cmpR op_isN (pv 0) (pe_non) (nomark _)) (pe_one (pe_and (pe_cl D_is_number (hr.mono (by decide)) (pa_cons (pv 0) pa_nil)) (pe_one (pe_chain op_le op_lt (pe_int) (pv 0) (pv 1)))))))), ?_⟩
    refine ⟨_, rfl, rfl, _, rfl, ?_⟩
    rw [hd.isN]
    cases d with
    | none => exact iteT (k _ same_refl)
    | int i =>
      cases hd with
      | int =>
        refine iteF ⟨_, rfl, .int i, .int i, rfl, .int i, fun H' s => ⟨_, rfl, iteT ?_⟩⟩
        refine ⟨_, rfl, _, _, rfl, rfl, _, rfl, ?_⟩
        have k := k _ s
        cases e : decide (0 ≤ i) with
        | true =>
          rw [show isTarget n (.int i) = (decide (0 ≤ i) && decide (i < n)) from rfl, e, Bool.true_and] at k
          exact iteT ⟨_, rfl, _, _, rfl, rfl, k⟩
        | false =>
          rw [show isTarget n (.int i) = (decide (0 ≤ i) && decide (i < n)) from rfl, e, Bool.false_and] at k
          exact iteF k
    | _ => exact iteF ⟨_, rfl, _, _, rfl, hd, fun H' s => ⟨_, rfl, iteF (k _ s)⟩⟩
end
end Wf
namespace Wf
open PySem L2
abbrev s_is_row : Stmt := top 22
abbrev N_is_row : List Str := ["row", "width", "size", "target"]
theorem sc_is_row : FnScope N_is_row ["row", "width", "size"] (defScope s_is_row) := ⟨rfl, rfl, rfl, by decide +kernel, rfl, by decide +kernel, by decide +kernel⟩
abbrev s_is_table : Stmt := top 20
abbrev N_is_table : List Str := ["rows", "marks"]
theorem sc_is_table : FnScope N_is_table ["rows", "marks"] (defScope s_is_table) := ⟨rfl, rfl, rfl, by decide +kernel, rfl, by decide +kernel, by decide +kernel⟩
abbrev s_first_wrong_row : Stmt := top 23
abbrev N_first_wrong_row : List Str := ["letters", "rows", "marks", "number", "row"]
theorem sc_first_wrong_row : FnScope N_first_wrong_row ["letters", "rows", "marks"] (defScope s_first_wrong_row) := ⟨rfl, rfl, rfl, by decide +kernel, rfl, by decide +kernel, by decide +kernel⟩
abbrev s_copied_rows : Stmt := top 24
abbrev N_copied_rows : List Str := ["rows", "row"]
theorem sc_copied_rows : FnScope N_copied_rows ["rows"] (defScope s_copied_rows) := ⟨rfl, rfl, rfl, by decide +kernel, rfl, by decide +kernel, by decide +kernel⟩
def spRow (K : PySem.W.Frag) : Sp := fun vs H Q _ => ∃ (v : V) (d : PyData) (wd : Nat) (n : Int), vs = [v, .int (wd : Int), .int n] ∧ Dq K H v d ∧ (its d).length < 1000000 ∧ ∀ H', Same H H' → Q (.bl (isRow wd n d)) H'
def isTable (d e : PyData) : Bool := isSeq d && isSeq e && ((its d).length == (its e).length) && decide (0 < (its d).length)
def spTbl2 (K : PySem.W.Frag) : Sp := fun vs H Q _ => ∃ (v u : V) (d e : PyData), vs = [v, u] ∧ Dq K H v d ∧ Dq K H u e ∧ ∀ H', Same H H' → Q (.bl (isTable d e)) H'
/-- the first number below n at which p is not so, or none -/
def Fst (p : Nat → Bool) (n : Nat) : Option Nat → Prop
  | none => ∀ j, j < n → p j = true
  | some i => i < n ∧ p i = false ∧ ∀ j, j < i → p j = true
theorem Fst.one {p : Nat → Bool} {n : Nat} : ∀ {o u : Option Nat}, Fst p n o → Fst p n u → o = u
  | none, none, _, _ => rfl
  | none, some i, h, ⟨a, b, _⟩ => by
    have c : p i = true := h i a
    rw [b] at c
    cases c
  | some i, none, ⟨a, b, _⟩, h => by
    have c : p i = true := h i a
    rw [b] at c
    cases c
  | some i, some j, ⟨_, b, c⟩, ⟨_, e, f⟩ => by
    rcases Nat.lt_trichotomy i j with l | l | l
    · have z := f i l
      rw [b] at z
      cases z
    · rw [l]
    · have z := c j l
      rw [e] at z
      cases z
/-- the row with this number can stand in the table -/
def rowOk (wd : Nat) (ds ms : List PyData) (i : Nat) : Bool := isRow wd ds.length (ds.getD i .none) && isMark (ms.getD i .none)
def spWrong (K : PySem.W.Frag) : Sp := fun vs H Q _ => ∃ (z : Str) (r m : V) (dr e : PyData), vs = [.str z, r, m] ∧ Dq K H r dr ∧ isSeq dr = true ∧ Dq K H m e ∧ isSeq e = true ∧ (its e).length = (its dr).length ∧ z.length ≤ 1000 ∧ (its dr).length < 1000000 ∧ (∀ d ∈ its dr, (its d).length < 1000000) ∧
  ∀ (o : Option Nat) (H' : Hp), Same H H' → Fst (rowOk z.length (its dr) (its e)) (its dr).length o → Q (oV o) H'
def spCopied (K : PySem.W.Frag) : Sp := fun vs H Q _ => ∃ (v : V) (d : PyData), vs = [v] ∧ Dq K H v d ∧ isSeq d = true ∧ (∀ e ∈ its d, isSeq e = true) ∧ (its d).length < 1000000 ∧ ∀ (t : Addr) (H' : Hp), Same H H' → Dq K H' (.ref t) (.tuple ((its d).map fun e => .tuple (its e))) → Q (.ref t) H'
theorem dec_nat {a b : Nat} : decide (V.int (a : Int) = V.int (b : Int)) = (a == b) := by
  by_cases h : a = b
  · rw [h, beq_self_eq_true]
    exact decide_eq_true rfl
  · rw [beq_eq_false_iff_ne.mpr h]
    exact decide_eq_false fun z => h (Int.ofNat.inj (V.int.inj z))
theorem getD_of {α : Type} {xs : List α} {i : Nat} {x y : α} (h : xs[i]? = some x) : xs.getD i y = x := by
  rw [List.getD_eq_getElem?_getD, h]
  rfl
theorem dqAll_pair {K : PySem.W.Frag} {H : Hp} {g : PyData → PyData} : ∀ {us : List Addr} {ds : List PyData}, us.length = ds.length → (∀ (j : Nat) (u : Addr) (e : PyData), us[j]? = some u → ds[j]? = some e → Dq K H (.ref u) (g e)) → DqAll K H (us.map V.ref) (ds.map g)
  | [], [], _, _ => .nil
  | [], _ :: _, h, _ => by cases h
  | _ :: _, [], h, _ => by cases h
  | u :: us, d :: ds, h, k => .cons (k 0 u d rfl rfl) (dqAll_pair (Nat.succ.inj h) fun j u e e1 e2 => k (j + 1) u e e1 e2)
section
variable {P : Program} {w : World} {K : PySem.W.Frag} {mg : Str → Option Value} {base : Heap} {f : Addr} {fd : FuncData}
theorem ok_is_row (F : Fun K "is_row" "is_row" s_is_row f fd) (T : Txt K mg) (D_is_sequence : Dn P w K mg base 1 "is_sequence" ["value"] (spAsk K isSeq)) (D_is_target : Dn P w K mg base 2 "is_target" ["value", "size"] (spTarget K)) : FnOk P w K mg base CX0 3 f fd ["row", "width", "size"] (spRow K) := by
  refine F.ok sc_is_row (fun vs H Q E h => ?_) (fun cdv A outer s H vs Q E hr h => ?_)
  · obtain ⟨v, d, wd, n, rfl, _⟩ := h
    rfl
  · obtain ⟨v, d, wd, n, rfl, hd, small, k⟩ := h
    refine ⟨_, (pss_one (ps_ret (pe_and (pe_cl D_is_sequence (hr.mono (by decide)) (pa_cons (pv 0) pa_nil)) (pe_and (pe_cmpR op_eq (pe_callB call_len (by rfl) T.z_len PySem.boot_len (pa_cons (pv 0) pa_nil)) (pv 1) (nomark _)) (pe_one (pe_callB (cr_all rfl) (by rfl) T.z_all (by decide +kernel) (pa_cons (pe_lc (own := [("target", 3)]) (g := gName 3) (tt := tYes) (by rfl) sc_is_row.nd (pi_seq (pv 0)) (blkOk_by (own := [("target", 3)]) (N := N_is_row) (sc := defScope s_is_row) (by decide +kernel)) (fun _ _ _ _ _ => (pg_name (i := 3) sc_is_row.nd rfl (Or.inl rfl))) (fun _ _ _ _ _ => pts_nil) (fun _ _ _ _ _ => (pe_cl D_is_target (hr.mono (by decide)) (pa_cons (pv 3) (pa_cons (pv 2) pa_nil))))) pa_nil))))))), ?_⟩
    refine ⟨_, rfl, v, d, rfl, hd, fun H1 s1 => ⟨_, rfl, ?_⟩⟩
    cases e : isSeq d with
    | false =>
      refine iteF ?_
      have k := k _ s1
      unfold isRow at k
      rw [e] at k
      exact k
    | true =>
      have hd1 := (Sty.of s1).dq hd
      refine iteT ⟨_, rfl, _, _, rfl, hd1.lenV e, _, rfl, rfl, _, rfl, ?_⟩
      rw [dec_nat]
      cases e2 : ((its d).length == wd) with
      | false =>
        refine iteF ?_
        have k := k _ s1
        unfold isRow at k
        rw [e, e2] at k
        exact k
      | true =>
        obtain ⟨a, xs, rfl, hs, ha⟩ := hd1.seq e
        refine iteT ?_
        refine seq_walk rfl hs fun J G wk st D hD => ?_
        refine lc_it wk (fun i H' => Same H1 H' ∧ H' D = some (.lst ((((its d).take i).map (isTarget n)).map V.bl))) ⟨sm1 hD, upd_same⟩ (fun i H' _ q => st H' (Stay.of q.1)) ?_ ?_
        · rintro i x H2 _ hi ⟨s2, hD2⟩ ⟨rfl, hx⟩
          obtain ⟨dx, hdx, hq⟩ := ha.get hx
          refine ⟨rfl, _, rfl, _, rfl, x, dx, n, rfl, (Sty.of s2).dq hq, fun H3 s3 => ?_⟩
          refine ⟨_, s3 _ _ hD2, small1000000 (by rw [List.length_map, List.length_map, List.length_take]; omega), swr (s2.trans s3) hD, ?_⟩
          rw [upd_same, List.take_succ, hdx, List.map_append, List.map_append]
          rfl
        · rintro H2 ⟨s2, hD2⟩
          rw [ha.len, List.take_length] at hD2
          refine ⟨D, _, rfl, SqL.of hD2, ?_⟩
          have k := k _ (s1.trans s2)
          unfold isRow at k
          rw [e, e2] at k
          rw [List.all_map]
          exact k
theorem ok_is_table (F : Fun K "is_table" "is_table" s_is_table f fd) (T : Txt K mg) (D_is_sequence : Dn P w K mg base 1 "is_sequence" ["value"] (spAsk K isSeq)) : FnOk P w K mg base CX0 2 f fd ["rows", "marks"] (spTbl2 K) := by
  refine F.ok sc_is_table (fun vs H Q E h => ?_) (fun cdv A outer s H vs Q E hr h => ?_)
  · obtain ⟨v, u, d, e, rfl, _⟩ := h
    rfl
  · obtain ⟨v, u, d, e, rfl, hd, he, k⟩ := h
    refine ⟨_, (pss_one (ps_ret (pe_and (pe_cl D_is_sequence (hr.mono (by decide)) (pa_cons (pv 0) pa_nil)) (pe_and (pe_cl D_is_sequence (hr.mono (by decide)) (pa_cons (pv 1) pa_nil)) (pe_and (pe_cmpR op_eq (pe_callB call_len (by rfl) T.z_len PySem.boot_len (pa_cons (pv 0) pa_nil)) (pe_callB call_len (by rfl) T.z_len PySem.boot_len (pa_cons (pv 1) pa_nil)) (nomark _)) (pe_one (pe_cmpR op_gt (pe_callB call_len (by rfl) T.z_len PySem.boot_len (pa_cons (pv 0) pa_nil)) (pe_int) (nomark _)))))))), ?_⟩
    refine ⟨_, rfl, v, d, rfl, hd, fun H1 s1 => ⟨_, rfl, ?_⟩⟩
    unfold isTable at k
    cases q1 : isSeq d with
    | false =>
      have k := k _ s1
      rw [q1] at k
      exact iteF k
    | true =>
      have he1 := (Sty.of s1).dq he
      refine iteT ⟨_, rfl, u, e, rfl, he1, fun H2 s2 => ⟨_, rfl, ?_⟩⟩
      cases q2 : isSeq e with
      | false =>
        have k := k _ (s1.trans s2)
        rw [q1, q2] at k
        exact iteF k
      | true =>
        have hd2 := (Sty.of (s1.trans s2)).dq hd
        have he2 := (Sty.of s2).dq he1
        refine iteT ⟨_, rfl, _, _, rfl, hd2.lenV q1, _, rfl, _, _, rfl, he2.lenV q2, rfl, _, rfl, ?_⟩
        rw [dec_nat]
        have k := k _ (s1.trans s2)
        rw [q1, q2, Bool.true_and, Bool.true_and] at k
        cases q3 : ((its d).length == (its e).length) with
        | false =>
          rw [q3] at k
          exact iteF k
        | true =>
          rw [q3, Bool.true_and] at k
          refine iteT ⟨_, rfl, _, _, rfl, hd2.lenV q1, _, _, rfl, rfl, ?_⟩
          show Q (.bl (decide ((0 : Int) < ((its d).length : Int)))) _
          rw [show decide ((0 : Int) < ((its d).length : Int)) = decide (0 < (its d).length) from by
            by_cases h : 0 < (its d).length
            · rw [decide_eq_true h]
              exact decide_eq_true (by omega)
            · rw [decide_eq_false h]
              exact decide_eq_false (by omega)]
          exact k
theorem ok_first_wrong_row (F : Fun K "first_wrong_row" "first_wrong_row" s_first_wrong_row f fd) (T : Txt K mg) (D_is_row : Dn P w K mg base 3 "is_row" ["row", "width", "size"] (spRow K)) (D_is_mark : Dn P w K mg base 1 "is_mark" ["value"] (spAsk K isMark)) :
    FnOk P w K mg base CX0 4 f fd ["letters", "rows", "marks"] (spWrong K) := by
  refine F.ok sc_first_wrong_row (fun vs H Q E h => ?_) (fun cdv A outer s H vs Q E hr h => ?_)
  · obtain ⟨z, r, m, dr, e, rfl, _⟩ := h
    rfl
  · obtain ⟨z, r, m, dr, e, rfl, hdr, sdr, he, es, el, zl, dl, rl, k⟩ := h
    obtain ⟨a, xs, rfl, hs, ha⟩ := hdr.seq sdr
    generalize its dr = ds at ha el dl rl k
    refine ⟨_, (pss_cons (ps_for PassesOwn.never rfl (pi_enS (by rfl) T.z_enumerate (pa_cons (pv 1) pa_nil)) (pg_tup (by rfl) (pgs_cons (pg_name (i := 3) sc_first_wrong_row.nd rfl (Or.inl rfl)) (pgs_cons (pg_name (i := 4) sc_first_wrong_row.nd rfl (Or.inl rfl)) pgs_nil)))
   (pss_one (ps_if (PW.pt (pw_or (pt_not (pt_val (pe_cl D_is_row (hr.mono (by decide)) (pa_cons (pv 4) (pa_cons (pe_callB call_len_str (by rfl) T.z_len PySem.boot_len (pa_cons (pv 0) pa_nil)) (pa_cons (pe_callB call_len (by rfl) T.z_len PySem.boot_len (pa_cons (pv 1) pa_nil)) pa_nil)))))) (pw_or1 (pt_not (pt_val (pe_cl D_is_mark (hr.mono (by decide)) (pa_cons (pe_ix ix_seq (pv 2) (pv 3) (fun _ _ => rfl)) pa_nil))))))) (pss_one (ps_ret (pv 3))) pss_nil)))
  (pss_one (ps_ret (pe_non)))), ?_⟩
    have lx : xs.length = ds.length := ha.len
    refine enum_walk rfl hs fun J G wk st => ?_
    refine for_it wk (fun i σ H' => ∃ v3 v4 : Option V, σ = [some (.str z), some (.ref a), some m, v3, v4] ∧ Same H H' ∧ ∀ j, j < i → rowOk z.length ds (its e) j = true) ⟨_, _, rfl, same_refl, fun j hj => absurd hj (Nat.not_lt_zero j)⟩ (fun i σ H' _ ⟨_, _, _, s, _⟩ => st H' (Stay.of s)) ?_ ?_
    · rintro i _ σ H1 _ hi ⟨v3, v4, rfl, s1, before⟩ ⟨T, _, x, rfl, hT, rfl, ei, hx⟩
      cases ei
      rw [lx] at hi
      have s2 := sm1 (o := .tup [.int (i : Nat), x]) hT
      have tT : (upd H1 T (.tup [.int (i : Nat), x])) T = some (.tup [.int (i : Nat), x]) := upd_same
      generalize upd H1 T (.tup [.int (i : Nat), x]) = H2 at s2 tT ⊢
      have s12 := s1.trans s2
      obtain ⟨d, hdx, hd⟩ := ha.get hx
      refine ⟨T, _, rfl, SqT.of tT, rfl, ?_⟩
      refine ⟨_, _, rfl, _, _, rfl, rfl, ?_⟩
      refine ⟨_, rfl, _, rfl, z, rfl, by rw [sizeLine_eq]; omega, _, rfl, _, _, rfl, ((Stay.of s12).sq hs).lenV, x, d, z.length, ds.length, by rw [lx]; rfl, (Sty.of s12).dq hd, rl d (List.mem_of_getElem? hdx), fun H3 s3 => ?_⟩
      have s13 := s12.trans s3
      refine ⟨_, rfl, ?_⟩
      have rd : ds.getD i .none = d := getD_of hdx
      have bad : ∀ H4, Same H H4 → rowOk z.length ds (its e) i = false → Q (.int (i : Nat)) H4 := fun H4 s4 b => k (some i) H4 s4 ⟨hi, b, before⟩
      cases q1 : isRow z.length ds.length d with
      | false => exact iteT ⟨_, rfl, bad _ s13 (by unfold rowOk; rw [rd, q1]; rfl)⟩
      | true =>
        have he3 := (Sty.of s13).dq he
        obtain ⟨b, ys, rfl, hb, hab⟩ := he3.seq es
        obtain ⟨dm, hdm⟩ : ∃ dm, (its e)[i]? = some dm := ⟨_, List.getElem?_eq_getElem (by rw [el]; exact hi)⟩
        obtain ⟨y, hy, hqy⟩ := hab.at hdm
        refine iteF ⟨_, rfl, _, rfl, hb.ix (atI_nat hy) ⟨y, dm, rfl, hqy, fun H4 s4 => ⟨_, rfl, ?_⟩⟩⟩
        have rm : (its e).getD i .none = dm := getD_of hdm
        cases q2 : isMark dm with
        | false => exact iteT ⟨_, rfl, bad _ (s13.trans s4) (by unfold rowOk; rw [rd, q1, rm, q2]; rfl)⟩
        | true =>
          refine iteF ⟨_, _, rfl, s13.trans s4, fun j hj => ?_⟩
          rcases Nat.lt_or_ge j i with l | l
          · exact before j l
          · obtain rfl : j = i := by omega
            unfold rowOk
            rw [rd, q1, rm, q2]
            rfl
    · rintro σ H1 ⟨v3, v4, rfl, s1, all⟩
      rw [lx] at all
      exact k none _ s1 all
theorem ok_copied_rows (F : Fun K "copied_rows" "copied_rows" s_copied_rows f fd) (T : Txt K mg) : FnOk P w K mg base CX0 1 f fd ["rows"] (spCopied K) := by
  refine F.ok sc_copied_rows (fun vs H Q E h => ?_) (fun cdv A outer s H vs Q E hr h => ?_)
  · obtain ⟨v, d, rfl, _⟩ := h
    rfl
  · obtain ⟨v, d, rfl, hd, sd, sr, dl, k⟩ := h
    refine ⟨_, (pss_one (ps_ret (pe_callTy call_tuple_of (by rfl) T.z_tuple (by decide +kernel) (pa_cons (pe_lc (own := [("row", 1)]) (g := gName 1) (tt := tYes) (by rfl) sc_copied_rows.nd (pi_seq (pv 0)) (blkOk_by (own := [("row", 1)]) (N := N_copied_rows) (sc := defScope s_copied_rows) (by decide +kernel)) (fun _ _ _ _ _ => (pg_name (i := 1) sc_copied_rows.nd rfl (Or.inl rfl))) (fun _ _ _ _ _ => pts_nil) (fun _ _ _ _ _ => (pe_callTy (show CallR _ (.type "tuple") (rTupleOf K) from cr_tupleOf) (by rfl) T.z_tuple (by decide +kernel) (pa_cons (pv 1) pa_nil)))) pa_nil)))), ?_⟩
    obtain ⟨a, xs, rfl, hs, ha⟩ := hd.seq sd
    refine seq_walk rfl hs fun J G wk st D hD => ?_
    refine lc_it wk (fun i H' => Same H H' ∧ ∃ us : List Addr, H' D = some (.lst (us.map V.ref)) ∧ us.length = i ∧ ∀ (j : Nat) (u : Addr) (e : PyData), us[j]? = some u → (its d)[j]? = some e → ∃ zs, SqT K H' u zs ∧ DqAll K H zs (its e))
      ⟨sm1 hD, [], upd_same, rfl, fun j u e q => by cases q⟩ (fun i H' _ q => st H' (Stay.of q.1)) ?_ ?_
    · rintro i x _ H2 hi ⟨s2, us, hD2, ul, ok⟩ ⟨rfl, hx⟩
      obtain ⟨dx, hdx, hq⟩ := ha.get hx
      have sdx := sr dx (List.mem_of_getElem? hdx)
      obtain ⟨b, zs, rfl, hb, hab⟩ := hq.seq sdx
      rw [ha.len] at hi
      have fin : ∀ (H3 : Hp) (u : Addr), Same H2 H3 → SqT K H3 u zs → ∃ acc, H3 D = some (.lst acc) ∧ acc.length < sizeLine ∧ (Same H (upd H3 D (.lst (acc ++ [.ref u]))) ∧ ∃ us : List Addr, (upd H3 D (.lst (acc ++ [.ref u]))) D = some (.lst (us.map V.ref)) ∧ us.length = i + 1 ∧
          ∀ (j : Nat) (u' : Addr) (e : PyData), us[j]? = some u' → (its d)[j]? = some e → ∃ zs, SqT K (upd H3 D (.lst (acc ++ [.ref u]))) u' zs ∧ DqAll K H zs (its e)) := fun H3 u s3 hu => by
        have hD3 := s3 _ _ hD2
        refine ⟨_, hD3, small1000000 (by rw [List.length_map]; omega), swr (s2.trans s3) hD, us ++ [u], by rw [upd_same, List.map_append]; rfl, by rw [List.length_append, ul]; rfl, fun j u' e e1 e2 => ?_⟩
        rcases grown e1 with ⟨lt, e1⟩ | ⟨rfl, rfl⟩
        · obtain ⟨zs', h1, h2⟩ := ok j u' e e1 e2
          exact ⟨zs', SqT.off ((Stay.of s3).t _ _ h1) hD3, h2⟩
        · rw [ul, hdx] at e2
          cases e2
          exact ⟨zs, SqT.off hu hD3, hab⟩
      refine ⟨rfl, _, rfl, b, zs, rfl, ?_⟩
      rcases hb with hb | hb
      · refine .inl ⟨(Stay.of s2).l _ _ hb, fun l hl => ?_⟩
        exact fin _ _ (sm1 hl) (SqT.of upd_same)
      · exact .inr ⟨(Stay.of s2).t _ _ hb, fin _ _ same_refl ((Stay.of s2).t _ _ hb)⟩
    · rintro H2 ⟨s2, us, hD2, ul, ok⟩
      rw [ha.len] at ul
      refine ⟨D, _, rfl, .inl ⟨SqL.of hD2, fun l hl => ?_⟩⟩
      have s3 := sm1 (o := .tup (us.map V.ref)) hl
      refine k l _ (s2.trans s3) (.tup (SqT.of upd_same) ?_)
      have ok3 : ∀ (j : Nat) (u : Addr) (e : PyData), us[j]? = some u → (its d)[j]? = some e → Dq K (upd H2 l (.tup (us.map V.ref))) (.ref u) (.tuple (its e)) := fun j u e e1 e2 => by
        obtain ⟨zs, h1, h2⟩ := ok j u e e1 e2
        exact .tup ((Stay.of s3).t _ _ h1) ((Sty.of (s2.trans s3)).dqAll h2)
      exact dqAll_pair ul ok3
end
end Wf
namespace Wf
open PySem L2
abbrev s_are_letters : Stmt := top 28
abbrev N_are_letters : List Str := ["value", "letter", "at"]
theorem sc_are_letters : FnScope N_are_letters ["value"] (defScope s_are_letters) := ⟨rfl, rfl, rfl, by decide +kernel, rfl, by decide +kernel, by decide +kernel⟩
/-- letters in ascending order, one to four -/
def ascL (l : List Nat) : Bool := (List.range (l.length - 1)).all fun i => decide (l.getD i 0 < l.getD (i + 1) 0)
def lettersOk : PyData → Bool
  | .str z => (decide (1 ≤ z.length) && decide (z.length ≤ 4)) && (z.cps.toList.all fun c => decide (97 ≤ c) && decide (c ≤ 122)) && ascL z.cps.toList
  | _ => false
theorem lt_sign {a b : Nat} : decide ([a] < [b]) = decide (a < b) := by
  by_cases h : a < b
  · rw [decide_eq_true h]
    exact decide_eq_true (List.cons_lt_cons_iff.mpr (.inl h))
  · rw [decide_eq_false h]
    refine decide_eq_false fun z => ?_
    rcases List.cons_lt_cons_iff.mp z with z | ⟨_, z⟩
    · exact h z
    · exact absurd z (List.not_lt_nil _)
theorem not_lt {a b : Nat} : (!decide (b < a)) = decide (a ≤ b) := by
  by_cases h : b < a
  · rw [decide_eq_true h, decide_eq_false (by omega)]
    rfl
  · rw [decide_eq_false h, decide_eq_true (by omega)]
    rfl
theorem dec_le {a b : Nat} : decide ((a : Int) ≤ (b : Int)) = decide (a ≤ b) := by
  by_cases h : a ≤ b
  · rw [decide_eq_true h]
    exact decide_eq_true (by omega)
  · rw [decide_eq_false h]
    exact decide_eq_false (by omega)
def spLtrs (K : PySem.W.Frag) : Sp := fun vs H Q _ => ∃ (v : V) (d : PyData), vs = [v] ∧ Dq K H v d ∧ (∀ z, d = .str z → z.length < 1000000) ∧ ∀ H', Same H H' → Q (.bl (lettersOk d)) H'
section
variable {P : Program} {w : World} {K : PySem.W.Frag} {mg : Str → Option Value} {base : Heap} {f : Addr} {fd : FuncData}
theorem ok_are_letters (F : Fun K "are_letters" "are_letters" s_are_letters f fd) (T : TxtW K mg) : FnOk P w K mg base CX0 1 f fd ["value"] (spLtrs K) := by
  refine F.ok sc_are_letters (fun vs H Q E h => ?_) (fun cdv A outer s H vs Q E hr h => ?_)
  · obtain ⟨v, d, rfl, _⟩ := h
    rfl
  · obtain ⟨v, d, rfl, hd, small, k⟩ := h
    refine ⟨_, (pss_cons (ps_if (PW.pt (pw_or (pt_not (pt_val (pe_callB (call_isD kit_str) (by rfl) T.z_isinstance (by decide +kernel) (pa_cons (pv 0) (pa_cons (pe_ty (T := "str") T.z_str (by decide +kernel)) pa_nil))))) (pw_or1 (pt_not (pt_chain op_le op_le (pe_int) (pe_callB call_len_str (by rfl) T.z_len PySem.boot_len (pa_cons (pv 0) pa_nil)) (pe_gi T.g_MOST_LETTERS)))))) (pss_one (ps_ret (pe_bl))) pss_nil)
  (pss_cons (ps_if (pt_not (pt_truth (pe_callB (cr_all rfl) (by rfl) T.z_all (by decide +kernel) (pa_cons (pe_lc (own := [("letter", 1)]) (g := gName 1) (tt := tYes) (by rfl) sc_are_letters.nd (pi_str (pv 0)) (blkOk_by (own := [("letter", 1)]) (N := N_are_letters) (sc := defScope s_are_letters) (by decide +kernel)) (fun _ _ _ _ _ => (pg_name (i := 1) sc_are_letters.nd rfl (Or.inl rfl))) (fun _ _ _ _ _ => pts_nil) (fun _ _ _ _ _ => (pe_chain op_le_str op_le_str (pe_str) (pv 1) (pe_str)))) pa_nil)) (by intro _; rfl))) (pss_one (ps_ret (pe_bl))) pss_nil)
  (pss_one (ps_ret (pe_callB (cr_all rfl) (by rfl) T.z_all (by decide +kernel) (pa_cons (pe_lc (own := [("at", 2)]) (g := gName 2) (tt := tYes) (by rfl) sc_are_letters.nd (pi_range1 (by rfl) T.z_range (pa_cons (pe_op op_sub (pe_callB call_len_str (by rfl) T.z_len PySem.boot_len (pa_cons (pv 0) pa_nil)) (pe_int)) pa_nil)) (blkOk_by (own := [("at", 2)]) (N := N_are_letters) (sc := defScope s_are_letters) (by decide +kernel)) (fun _ _ _ _ _ => (pg_name (i := 2) sc_are_letters.nd rfl (Or.inl rfl))) (fun _ _ _ _ _ => pts_nil) (fun _ _ _ _ _ => (pe_cmpR op_lt_str (pe_ix ix_str (pv 0) (pv 2) (fun _ _ => rfl)) (pe_ix ix_str (pv 0) (pe_op op_add (pv 2) (pe_int)) (fun _ _ => rfl)) (nomark _)))) pa_nil)))))), ?_⟩
    refine ⟨_, rfl, v, d, rfl, hd, _, rfl, ?_⟩
    cases e : isStr d with
    | false =>
      have k := k _ same_refl
      have e2 : lettersOk d = false := by cases d <;> first | rfl | cases e
      rw [e2] at k
      exact iteT k
    | true =>
      obtain ⟨z, rfl⟩ : ∃ z, d = .str z := by cases d <;> first | exact ⟨_, rfl⟩ | cases e
      cases hd
      have zl := small z rfl
      have ltr : z.cps.toList.length = z.length := Array.length_toList
      have fail : ∀ H', Same H H' → ((decide (1 ≤ z.length) && decide (z.length ≤ 4)) && (z.cps.toList.all fun c => decide (97 ≤ c) && decide (c ≤ 122)) && ascL z.cps.toList) = false → Q (.bl false) H' := fun H' s e => by
        have k := k H' s
        rw [show lettersOk (.str z) = _ from e] at k
        exact k
      refine iteF ⟨_, rfl, z, rfl, Nat.le_of_lt (small1000000 zl), _, _, rfl, rfl, _, rfl, ?_⟩
      have i1 : decide ((1 : Int) ≤ (z.length : Int)) = decide (1 ≤ z.length) := dec_le (a := 1)
      have i4 : decide ((z.length : Int) ≤ (4 : Int)) = decide (z.length ≤ 4) := dec_le (b := 4)
      rw [i1]
      cases l1 : decide (1 ≤ z.length) with
      | false => exact iteF ⟨_, rfl, iteT (fail _ same_refl (by rw [l1]; rfl))⟩
      | true =>
        refine iteT ⟨_, _, rfl, rfl, _, rfl, ?_⟩
        show if (!decide ((z.length : Int) ≤ (4 : Int))) = true then _ else _
        rw [i4]
        cases l4 : decide (z.length ≤ 4) with
        | false => exact iteT (fail _ same_refl (by rw [l1, l4]; rfl))
        | true =>
          refine iteF ?_
          -- the signs
          refine ⟨_, rfl, z, rfl, fun D hD => ?_⟩
          refine lc_chars (fun i H' => Same H H' ∧ H' D = some (.lst (((z.cps.toList.take i).map fun c => decide (97 ≤ c) && decide (c ≤ 122)).map V.bl))) ⟨sm1 hD, upd_same⟩ ?_ ?_
          · rintro i c H1 hc ⟨s1, hD1⟩
            have put : ∀ b : Bool, b = (decide (97 ≤ c) && decide (c ≤ 122)) → ∃ acc, H1 D = some (.lst acc) ∧ acc.length < sizeLine ∧ (Same H (upd H1 D (.lst (acc ++ [.bl b]))) ∧ (upd H1 D (.lst (acc ++ [.bl b]))) D = some (.lst (((z.cps.toList.take (i + 1)).map fun c => decide (97 ≤ c) && decide (c ≤ 122)).map V.bl))) := fun b eb => by
              refine ⟨_, hD1, small1000000 (by rw [List.length_map, List.length_map, List.length_take]; omega), swr s1 hD, ?_⟩
              rw [upd_same, List.take_succ, hc, List.map_append, List.map_append, eb]
              rfl
            refine ⟨rfl, _, rfl, _, _, rfl, rfl, _, rfl, ?_⟩
            rw [show (!decide ((⟨#[c]⟩ : Str).cps.toList < ("a" : Str).cps.toList)) = decide (97 ≤ c) from by
              show (!decide ([c] < [97])) = _
              rw [lt_sign, not_lt]]
            cases q1 : decide (97 ≤ c) with
            | false => exact iteF (put false (by rw [q1]; rfl))
            | true =>
              refine iteT ⟨_, _, rfl, rfl, ?_⟩
              rw [show (!decide (("z" : Str).cps.toList < (⟨#[c]⟩ : Str).cps.toList)) = decide (c ≤ 122) from by
                show (!decide ([122] < [c])) = _
                rw [lt_sign, not_lt]]
              exact put _ (by rw [q1, Bool.true_and])
          rintro H1 ⟨s1, hD1⟩
          rw [← ltr, List.take_length] at hD1
          refine ⟨D, _, rfl, SqL.of hD1, _, rfl, ?_⟩
          rw [List.all_map]
          cases q2 : z.cps.toList.all (id ∘ fun c => decide (97 ≤ c) && decide (c ≤ 122)) with
          | false => exact iteT (fail _ s1 (by rw [l1, l4, show (z.cps.toList.all fun c => decide (97 ≤ c) && decide (c ≤ 122)) = false from q2]; rfl))
          | true =>
            have lp : 1 ≤ z.length := of_decide_eq_true l1
            have l4' : z.length ≤ 4 := of_decide_eq_true l4
            refine iteF ⟨_, rfl, z, rfl, Nat.le_of_lt (small1000000 zl), _, _, rfl, rfl, _, rfl, by omega, by omega, fun D2 hD2 => ?_⟩
            rw [show ((z.length : Int) - 1).toNat = z.length - 1 from by omega]
            refine lc_range (lo := 0) (n := z.length - 1) (fun i H' => Same H1 H' ∧ H' D2 = some (.lst (((List.range i).map fun i => decide (z.cps.toList.getD i 0 < z.cps.toList.getD (i + 1) 0)).map V.bl))) ⟨sm1 hD2, upd_same⟩ ?_ ?_
            · rintro i H2 hi ⟨s2, hD3⟩
              have h1 : z.cps.toList[i]? = some (z.cps.toList.getD i 0) := by
                rw [List.getD_eq_getElem?_getD, List.getElem?_eq_getElem (by omega)]
                rfl
              have h2 : z.cps.toList[i + 1]? = some (z.cps.toList.getD (i + 1) 0) := by
                rw [List.getD_eq_getElem?_getD, List.getElem?_eq_getElem (by omega)]
                rfl
              refine ⟨rfl, _, rfl, _, rfl, z, _, _, rfl, rfl, Nat.le_of_lt (small1000000 zl), by rw [Int.zero_add]; exact atI_nat h1, _, rfl, _, rfl, _, _, rfl, rfl, z, _, _, rfl, rfl, Nat.le_of_lt (small1000000 zl), by rw [Int.zero_add]; exact atI_nat h2, _, _, rfl, rfl, ?_⟩
              refine ⟨_, hD3, small1000000 (by rw [List.length_map, List.length_map, List.length_range]; omega), swr s2 hD2, ?_⟩
              rw [upd_same, List.range_succ, List.map_append, List.map_append]
              rw [show decide ((⟨#[z.cps.toList.getD i 0]⟩ : Str).cps.toList < (⟨#[z.cps.toList.getD (i + 1) 0]⟩ : Str).cps.toList) = decide (z.cps.toList.getD i 0 < z.cps.toList.getD (i + 1) 0) from lt_sign]
              rfl
            rintro H2 ⟨s2, hD3⟩
            refine ⟨D2, _, rfl, SqL.of hD3, ?_⟩
            have k := k _ (s1.trans s2)
            rw [show lettersOk (.str z) = ((decide (1 ≤ z.length) && decide (z.length ≤ 4)) && (z.cps.toList.all fun c => decide (97 ≤ c) && decide (c ≤ 122)) && ascL z.cps.toList) from rfl, l1, l4, show (z.cps.toList.all fun c => decide (97 ≤ c) && decide (c ≤ 122)) = true from q2, Bool.true_and, Bool.true_and] at k
            rw [List.all_map]
            unfold ascL at k
            rw [ltr] at k
            exact k
end
end Wf
namespace Wf
open PySem L2
/-- small data: texts, and at two levels -/
def Sml (d : PyData) : Prop := (∀ z, d = .str z → z.length < 1000000) ∧ (its d).length < 1000000 ∧ ∀ e ∈ its d, (its e).length < 1000000
/-- how many letters -/
def nL : PyData → Nat
  | .str z => z.length
  | _ => 0
theorem But.stx {K : PySem.W.Frag} {H H' : Hp} {x C dx : Addr} {fs : List (Str × V)} (b : But x H H') (e : H x = some (.ins C dx fs)) : Sty K H H' := by
  have ne : ∀ {a : Addr} {o : HO}, H a = some o → (∀ C dx fs, o ≠ .ins C dx fs) → a ≠ x := fun {a o} h n z => by
    rw [z, e] at h
    exact n C dx fs (Option.some.inj h).symm
  refine ⟨⟨fun a xs h => ?_, fun a xs h => ?_⟩, fun a ks h => b _ _ (ne h fun _ _ _ z => by cases z) h⟩
  · rcases h with (h | ⟨o, h⟩) | h
    · exact .inl (.inl (b _ _ (ne h fun _ _ _ z => by cases z) h))
    · exact .inl (.inr ⟨o, b _ _ (ne h fun _ _ _ z => by cases z) h⟩)
    · exact .inr h
  · rcases h with (h | ⟨o, h⟩) | h
    · exact .inl (.inl (b _ _ (ne h fun _ _ _ z => by cases z) h))
    · exact .inl (.inr ⟨o, b _ _ (ne h fun _ _ _ z => by cases z) h⟩)
    · exact .inr h
theorem letters_str {d : PyData} (h : lettersOk d = true) : ∃ z, d = .str z ∧ 1 ≤ z.length ∧ z.length ≤ 4 := by
  cases d with
  | str z =>
    have h2 : ((decide (1 ≤ z.length) && decide (z.length ≤ 4)) && (z.cps.toList.all fun c => decide (97 ≤ c) && decide (c ≤ 122)) && ascL z.cps.toList) = true := h
    simp only [Bool.and_eq_true, decide_eq_true_eq] at h2
    exact ⟨z, rfl, h2.1.1⟩
  | _ => cases h
theorem table_seq {d e : PyData} (h : isTable d e = true) : isSeq d = true ∧ isSeq e = true ∧ (its e).length = (its d).length ∧ 0 < (its d).length := by
  unfold isTable at h
  simp only [Bool.and_eq_true, decide_eq_true_eq, beq_iff_eq] at h
  exact ⟨h.1.1.1, h.1.1.2, h.1.2.symm, h.2⟩
end Wf
namespace Wf
open PySem L2
abbrev s_Machine___init : Stmt := inClass (top 42) 1
abbrev N_Machine___init : List Str := ["self", "letters", "transitions", "marks", "wrong"]
theorem sc_Machine___init : FnScope N_Machine___init ["self", "letters", "transitions", "marks"] (defScope s_Machine___init) := ⟨rfl, rfl, rfl, by decide +kernel, rfl, by decide +kernel, by decide +kernel⟩
structure TxtM (K : PySem.W.Frag) (mg : Str → Option Value) : Prop extends TxtW K mg where
  g_STATES : ∃ t, mg "STATES" = some (.int 600 t)
/-- what the class of a table says of its objects' fields -/
structure McC (K : PySem.W.Frag) (C : Addr) : Prop where
  cl : Cls K C
  n1 : NoAttr K C "_letters"
  n2 : NoAttr K C "_transitions"
  n3 : NoAttr K C "_marks"
def spMac (K : PySem.W.Frag) (CL CP CT : Addr) : Sp := fun vs H Q E => ∃ (x C dx : Addr) (l n m : V) (dl dn dm : PyData), vs = [.ref x, l, n, m] ∧ H x = some (.ins C dx []) ∧ McC K C ∧ Dq K H l dl ∧ Dq K H n dn ∧ Dq K H m dm ∧ Sml dl ∧ Sml dn ∧ Sml dm ∧
  (lettersOk dl = false → ∀ H', Same H H' → E (.ref CL) none H') ∧
  (lettersOk dl = true → isTable dn dm = false → ∀ d H', Same H H' → H d = none → H' d = some (.xd [("state", .non)]) → E (.ref CP) (some d) H') ∧
  (lettersOk dl = true → isTable dn dm = true → 600 < (its dn).length → ∀ d H', Same H H' → H d = none → H' d = some (.xd [("limit", .int 600)]) → E (.ref CT) (some d) H') ∧
  (lettersOk dl = true → isTable dn dm = true → (its dn).length ≤ 600 → ∀ i, Fst (rowOk (nL dl) (its dn) (its dm)) (its dn).length (some i) → ∀ d H', Same H H' → H d = none → H' d = some (.xd [("state", .int (i : Nat))]) → E (.ref CP) (some d) H') ∧
  (lettersOk dl = true → isTable dn dm = true → (its dn).length ≤ 600 → Fst (rowOk (nL dl) (its dn) (its dm)) (its dn).length none → ∀ (t u : Addr) (H' : Hp), But x H H' → H' x = some (.ins C dx [("_letters", l), ("_transitions", .ref t), ("_marks", .ref u)]) →
    Dq K H' (.ref t) (.tuple ((its dn).map fun e => .tuple (its e))) → Dq K H' (.ref u) (.tuple (its dm)) → Q .non H')
section
variable {P : Program} {w : World} {K : PySem.W.Frag} {mg : Str → Option Value} {base : Heap} {f : Addr} {fd : FuncData}
theorem ok_Machine_init {CL CP CT : Addr} (F : Fun K "__init__" "Machine.__init__" s_Machine___init f fd) (T : TxtM K mg) (D_are_letters : Dn P w K mg base 1 "are_letters" ["value"] (spLtrs K)) (D_is_table : Dn P w K mg base 2 "is_table" ["rows", "marks"] (spTbl2 K))
    (D_first_wrong_row : Dn P w K mg base 4 "first_wrong_row" ["letters", "rows", "marks"] (spWrong K)) (D_copied_rows : Dn P w K mg base 1 "copied_rows" ["rows"] (spCopied K)) (N_InvalidLetters : E0 K mg "InvalidLetters" CL) (N_InvalidMachine : E1 P w K mg base "InvalidMachine" CP "state") (N_TooLarge : E1 P w K mg base "TooLarge" CT "limit") :
    FnOk P w K mg base (L2.CX P w) 5 f fd ["self", "letters", "transitions", "marks"] (spMac K CL CP CT) := by
  refine F.okX sc_Machine___init (fun vs H Q E h => ?_) (fun cdv A outer s H vs Q E hr h => ?_)
  · obtain ⟨x, C, dx, l, n, m, dl, dn, dm, rfl, _⟩ := h
    rfl
  · obtain ⟨x, C, dx, l, n, m, dl, dn, dm, rfl, hx, pc, hl, hn, hm, sl, sn, sm, e1, e2, e4, e3, k⟩ := h
    refine ⟨_, (pss_cons (ps_if (pt_not (pt_val (pe_cl D_are_letters (hr.mono (by decide)) (pa_cons (pv 1) pa_nil)))) (pss_one (ps_r0 N_InvalidLetters rfl rfl (takes_of rfl rfl rfl rfl))) pss_nil)
  (pss_cons (ps_if (pt_not (pt_val (pe_cl D_is_table (hr.mono (by decide)) (pa_cons (pv 2) (pa_cons (pv 3) pa_nil))))) (pss_one (ps_r1 N_InvalidMachine (hr.mono (by decide)) (pe_non) rfl rfl (takes_of rfl rfl rfl rfl))) pss_nil)
  (pss_cons (ps_if (pt_cmpR op_gt (pe_callB call_len (by rfl) T.z_len PySem.boot_len (pa_cons (pv 3) pa_nil)) (pe_gi T.g_STATES) (nomark _)) (pss_one (ps_r1 N_TooLarge (hr.mono (by decide)) (pe_gi T.g_STATES) rfl rfl (takes_of rfl rfl rfl rfl))) pss_nil)
  (pss_cons (ps_set (i := 4) sc_Machine___init.nd rfl (Or.inl rfl) (pe_cl D_first_wrong_row (hr.mono (by decide)) (pa_cons (pv 1) (pa_cons (pv 2) (pa_cons (pv 3) pa_nil)))))
  (pss_cons (ps_if (pt_cmpR op_notN (pv 4) (pe_non) (nomark _)) (pss_one (ps_r1 N_InvalidMachine (hr.mono (by decide)) (pv 4) rfl rfl (takes_of rfl rfl rfl rfl))) pss_nil)
  (pss_cons (ps_fld (pv 0) (pv 1) rfl)
  (pss_cons (ps_fld (pv 0) (pe_cl D_copied_rows (hr.mono (by decide)) (pa_cons (pv 2) pa_nil)) rfl)
  (pss_one (ps_fld (pv 0) (pe_callTy call_tuple_of (by rfl) T.z_tuple (by decide +kernel) (pa_cons (pv 3) pa_nil)) rfl))))))))), ?_⟩
    -- letters
    refine ⟨_, rfl, l, dl, rfl, hl, sl.1, fun H1 s1 => ⟨_, rfl, ?_⟩⟩
    cases q1 : lettersOk dl with
    | false => exact iteT ⟨There.of s1, fun H' s' => e1 q1 H' (s1.trans s')⟩
    | true =>
      refine iteF ?_
      obtain ⟨z, rfl, z1, z4⟩ := letters_str q1
      cases hl
      -- the table
      have hn1 := (Sty.of s1).dq hn
      have hm1 := (Sty.of s1).dq hm
      refine ⟨_, rfl, _, rfl, n, m, dn, dm, rfl, hn1, hm1, fun H2 s2 => ⟨_, rfl, ?_⟩⟩
      have s12 := s1.trans s2
      cases q2 : isTable dn dm with
      | false => exact iteT ⟨There.of s12, fun d H' s' nd ed => e2 q1 q2 d H' (s12.trans s') (There.of s12 _ nd) ed⟩
      | true =>
        refine iteF ?_
        obtain ⟨qn, qm, ql, qp⟩ := table_seq q2
        have hn2 := (Sty.of s12).dq hn
        have hm2 := (Sty.of s12).dq hm
        refine ⟨_, rfl, _, _, rfl, Dq.lenV hm2 qm, _, _, rfl, rfl, _, rfl, ?_⟩
        cases q6 : decide ((600 : Int) < ((its dm).length : Int)) with
        | true =>
          have q5 : 600 < (its dn).length := by have := of_decide_eq_true q6; omega
          exact iteT ⟨There.of s12, fun d H' s' nd ed => e4 q1 q2 q5 d H' (s12.trans s') (There.of s12 _ nd) ed⟩
        | false =>
        have q5 : (its dn).length ≤ 600 := by have := of_decide_eq_false q6; omega
        refine iteF ?_
        refine ⟨_, rfl, _, rfl, _, rfl, z, n, m, dn, dm, rfl, hn2, qn, hm2, qm, ql, by omega, sn.2.1, sn.2.2, fun o H3 s3 fst => ?_⟩
        have s13 := s12.trans s3
        refine ⟨_, rfl, rfl, _, rfl, ?_⟩
        cases o with
        | some i => exact iteT ⟨_, rfl, There.of s13, fun d H' s' nd ed => e3 q1 q2 q5 i fst d H' (s13.trans s') (There.of s13 _ nd) ed⟩
        | none =>
          refine iteF ?_
          have sr : ∀ e ∈ its dn, isSeq e = true := fun e he => by
            obtain ⟨i, hi, rfl⟩ := List.getElem_of_mem he
            have r := fst i hi
            unfold rowOk isRow at r
            simp only [Bool.and_eq_true] at r
            rw [show (its dn).getD i .none = (its dn)[i] from getD_of (List.getElem?_eq_getElem hi)] at r
            exact r.1.1.1
          have hx3 := s13 _ _ hx
          -- self._letters = letters
          refine ⟨_, rfl, _, rfl, x, C, dx, _, rfl, hx3, pc.cl, pc.n1, by show 0 < 1000; decide, ?_⟩
          have b4 : But x H (upd H3 x (.ins C dx (putF "_letters" (.str z) []))) := fun b o nb e => (upd_ne nb).trans (s13 _ _ e)
          have hx4 : (upd H3 x (.ins C dx (putF "_letters" (.str z) []))) x = some (.ins C dx [("_letters", .str z)]) := upd_same
          generalize upd H3 x (.ins C dx (putF "_letters" (.str z) [])) = H4 at b4 hx4 ⊢
          have st4 := b4.stx (K := K) hx
          -- self._nexts
          refine ⟨_, rfl, n, dn, rfl, st4.dq hn, qn, sr, sn.2.1, fun t H5 s5 ht => ?_⟩
          have hx5 := s5 _ _ hx4
          refine ⟨_, rfl, x, C, dx, _, rfl, hx5, pc.cl, pc.n2, by show 1 < 1000; decide, ?_⟩
          have b6 : But x H5 (upd H5 x (.ins C dx (putF "_transitions" (.ref t) [("_letters", .str z)]))) := fun b o nb e => (upd_ne nb).trans e
          have hx6 : (upd H5 x (.ins C dx (putF "_transitions" (.ref t) [("_letters", .str z)]))) x = some (.ins C dx [("_letters", .str z), ("_transitions", .ref t)]) := upd_same
          generalize upd H5 x (.ins C dx (putF "_transitions" (.ref t) [("_letters", .str z)])) = H6 at b6 hx6 ⊢
          have st6 := b6.stx (K := K) hx5
          have b06 : But x H H6 := (b4.same s5).trans b6
          -- self._marks
          obtain ⟨a, xs, rfl, hs, ha⟩ := hm.seq qm
          have hs6 := ((b06.stx hx).toStay).sq hs
          refine ⟨_, rfl, a, xs, rfl, ?_⟩
          have fin : ∀ (u : Addr) (H7 : Hp), Same H6 H7 → SqT K H7 u xs → ∃ a' C' dx' fs, V.ref x = .ref a' ∧ H7 a' = some (.ins C' dx' fs) ∧ Cls K C' ∧ NoAttr K C' "_marks" ∧ fs.length < 1000 ∧ Q .non (upd H7 a' (.ins C' dx' (putF "_marks" (.ref u) fs))) := fun u H7 s7 hu => by
            have hx7 := s7 _ _ hx6
            refine ⟨x, C, dx, _, rfl, hx7, pc.cl, pc.n3, by show 2 < 1000; decide, ?_⟩
            have b8 : But x H7 (upd H7 x (.ins C dx (putF "_marks" (.ref u) [("_letters", .str z), ("_transitions", .ref t)]))) := fun b o nb e => (upd_ne nb).trans e
            have st8 := b8.stx hx7 (K := K)
            refine k q1 q2 q5 fst t u _ ((b06.same s7).trans b8) upd_same (st8.dq ((Sty.of s7).dq (st6.dq ht))) (.tup (st8.t _ _ hu) (st8.dqAll ((Sty.of s7).dqAll ((b06.stx hx).dqAll ha))))
          rcases hs6 with hs6 | hs6
          · exact .inl ⟨hs6, fun u hu => ⟨_, rfl, fin u _ (sm1 hu) (SqT.of upd_same)⟩⟩
          · exact .inr ⟨hs6, _, rfl, fin a _ same_refl hs6⟩
end
end Wf
namespace Wf
open PySem PySem.Spec PyProof.Rows L2
/-! tables as data -/
def dOn : Option Nat → PyData
  | none => .none
  | some n => .int (n : Int)
def dOb : Option Bool → PyData
  | none => .none
  | some b => .bool b
def tblD (tb : List (List (Option Nat))) : PyData := .tuple (tb.map fun r => .tuple (r.map dOn))
def mksD (ms : List (Option Bool)) : PyData := .tuple (ms.map dOb)
theorem dq_oV {K : PySem.W.Frag} {H : Hp} (o : Option Nat) : Dq K H (oV o) (dOn o) := by
  cases o with
  | none => exact .non
  | some n => exact .int _
theorem dq_mV {K : PySem.W.Frag} {H : Hp} (o : Option Bool) : Dq K H (mV o) (dOb o) := by
  cases o with
  | none => exact .non
  | some b => exact .bl b
theorem dqAll_oV {K : PySem.W.Frag} {H : Hp} : ∀ (r : List (Option Nat)), DqAll K H (r.map oV) (r.map dOn)
  | [] => .nil
  | o :: r => .cons (dq_oV o) (dqAll_oV r)
theorem dqAll_mV {K : PySem.W.Frag} {H : Hp} : ∀ (r : List (Option Bool)), DqAll K H (r.map mV) (r.map dOb)
  | [] => .nil
  | o :: r => .cons (dq_mV o) (dqAll_mV r)
theorem bigS {n : Nat} (h : n < 100000) : n < sizeLine := by
  rw [sizeLine_eq]
  omega
theorem its_rows {tb : List (List (Option Nat))} : (its (.list (tb.map fun r => .list (r.map dOn)))).map (fun e => PyData.tuple (its e)) = tb.map fun r => PyData.tuple (r.map dOn) := by
  show (tb.map fun r => PyData.list (r.map dOn)).map (fun e => PyData.tuple (its e)) = _
  rw [List.map_map]
  rfl
theorem rowOk_all {z : Nat} {tb : List (List (Option Nat))} {ms : List (Option Bool)} (hl : ms.length = tb.length) (h1 : ∀ r ∈ tb, r.length = z) (h2 : ∀ r ∈ tb, ∀ n, some n ∈ r → n < tb.length) :
    Fst (rowOk z (tb.map fun r => .list (r.map dOn)) (ms.map dOb)) (tb.map fun r => PyData.list (r.map dOn)).length none := fun j hj => by
  rw [List.length_map] at hj
  have e1 : (tb.map fun r => PyData.list (r.map dOn)).getD j .none = .list (tb[j].map dOn) := getD_of (by rw [List.getElem?_map, List.getElem?_eq_getElem hj]; rfl)
  have e2 : (ms.map dOb).getD j .none = dOb ms[j] := getD_of (by rw [List.getElem?_map, List.getElem?_eq_getElem (by omega)]; rfl)
  unfold rowOk
  rw [e1, e2, List.length_map]
  have m2 : isMark (dOb ms[j]) = true := by cases ms[j] <;> rfl
  rw [m2, Bool.and_true]
  show (true && (((tb[j].map dOn)).length == z) && (tb[j].map dOn).all (isTarget tb.length)) = true
  rw [List.length_map, h1 _ (List.getElem_mem hj), beq_self_eq_true, List.all_eq_true.mpr]
  · rfl
  · intro d hd
    obtain ⟨o, ho, rfl⟩ := List.mem_map.mp hd
    cases o with
    | none => rfl
    | some n =>
      have l := h2 _ (List.getElem_mem hj) n ho
      show (decide ((0 : Int) ≤ (n : Int)) && decide ((n : Int) < (tb.length : Int))) = true
      rw [decide_eq_true (by omega), decide_eq_true (by omega)]
      rfl
end Wf
namespace Wf
open PySem PySem.Spec PyProof.Rows L2
/-! complete machines -/
/-- rows and marks, in lists or tuples -/
structure RowsD (dr e : PyData) (tb : List (List (Option Nat))) (ms : List (Option Bool)) : Prop where
  sr : isSeq dr = true
  se : isSeq e = true
  rs : ∀ x ∈ its dr, isSeq x = true
  r : (its dr).map its = tb.map fun r => r.map dOn
  m : its e = ms.map dOb
  l : ms.length = tb.length
  few : tb.length < 1000000
/-- nothing is missing in this row -/
def fullAt (tb : List (List (Option Nat))) (ms : List (Option Bool)) (j : Nat) : Bool := !(decide (none ∈ tb.getD j [])) && (ms.getD j none).isSome
def spOpen (K : PySem.W.Frag) : Sp := fun vs H Q _ => ∃ (r m : V) (dr e : PyData) (tb : List (List (Option Nat))) (ms : List (Option Bool)), vs = [r, m] ∧ Dq K H r dr ∧ Dq K H m e ∧ RowsD dr e tb ms ∧
  ∀ (o : Option Nat) (H' : Hp), Same H H' → Fst (fullAt tb ms) tb.length o → Q (oV o) H'
theorem dq_on {K : PySem.W.Frag} {H : Hp} {v : V} {o : Option Nat} (h : Dq K H v (dOn o)) : v = oV o := by cases o <;> cases h <;> rfl
theorem dq_ob {K : PySem.W.Frag} {H : Hp} {v : V} {o : Option Bool} (h : Dq K H v (dOb o)) : v = mV o := by cases o <;> cases h <;> rfl
theorem dqAll_on {K : PySem.W.Frag} {H : Hp} : ∀ {r : List (Option Nat)} {xs : List V}, DqAll K H xs (r.map dOn) → xs = r.map oV
  | [], _, h => by
    cases h
    rfl
  | o :: r, _, h => by
    cases h with
    | cons a b => rw [dq_on a, dqAll_on b]; rfl
theorem flat_oV {r : List (Option Nat)} : (r.map oV).all flatV = true := List.all_eq_true.mpr fun v hv => by
  obtain ⟨o, _, rfl⟩ := List.mem_map.mp hv
  cases o <;> rfl
theorem in_oV : ∀ {r : List (Option Nat)}, inV .non (r.map oV) = decide (none ∈ r)
  | [] => rfl
  | o :: r => by
    have e : inV .non ((o :: r).map oV) = (eqV (oV o) .non || inV .non (r.map oV)) := rfl
    rw [e, in_oV]
    cases o with
    | none =>
      rw [decide_eq_true (show none ∈ none :: r from List.mem_cons_self)]
      rfl
    | some n =>
      rw [show eqV (oV (some n)) .non = false from rfl, Bool.false_or]
      exact decide_eq_decide.mpr ⟨fun h => List.mem_cons_of_mem _ h, fun h => (List.mem_cons.mp h).elim (fun z => by cases z) id⟩
section
variable {P : Program} {w : World} {K : PySem.W.Frag} {mg : Str → Option Value} {base : Heap} {f : Addr} {fd : FuncData}
def spCom (K : PySem.W.Frag) (C CN : Addr) : Sp := fun vs H Q E => ∃ (x dx : Addr) (z : Str) (n m : V) (dn dm : PyData) (tb : List (List (Option Nat))) (ms : List (Option Bool)), vs = [.ref x, .str z, n, m] ∧ H x = some (.ins C dx []) ∧ McC K C ∧ lettersOk (.str z) = true ∧ Dq K H n dn ∧ Dq K H m dm ∧ Sml (.str z) ∧ Sml dn ∧ Sml dm ∧
  isTable dn dm = true ∧ (its dn).length ≤ 600 ∧ Fst (rowOk z.length (its dn) (its dm)) (its dn).length none ∧ RowsD dn dm tb ms ∧
  (∀ i, Fst (fullAt tb ms) tb.length (some i) → ∀ d H', But x H H' → H d = none → H' d = some (.xd [("state", .int (i : Nat))]) → E (.ref CN) (some d) H') ∧
  (Fst (fullAt tb ms) tb.length none → ∀ (t u : Addr) (H' : Hp), But x H H' → H' x = some (.ins C dx [("_letters", .str z), ("_transitions", .ref t), ("_marks", .ref u)]) → Dq K H' (.ref t) (.tuple ((its dn).map fun e => .tuple (its e))) → Dq K H' (.ref u) (.tuple (its dm)) → Q .non H')
end
end Wf
namespace Wf
open PySem L2
structure TxtS (K : PySem.W.Frag) (mg : Str → Option Value) : Prop extends TxtW K mg where
  g_LENGTH : ∃ t, mg "LENGTH" = some (.int 12 t)
  g_WORDS : ∃ t, mg "WORDS" = some (.int 200 t)
  g_PREFIXES : ∃ t, mg "PREFIXES" = some (.int 600 t)
abbrev s_word_order : Stmt := top 27
abbrev N_word_order : List Str := ["words"]
theorem sc_word_order : FnScope N_word_order ["words"] (defScope s_word_order) := ⟨rfl, rfl, rfl, by decide +kernel, rfl, by decide +kernel, by decide +kernel⟩
def spOrder (K : PySem.W.Frag) : Sp := fun vs H Q _ => ∃ (a : Addr) (zs : List Str), vs = [.ref a] ∧ (SqL K H a (zs.map V.str) ∨ SqT K H a (zs.map V.str)) ∧ zs.length ≤ 10000 ∧ (∀ z ∈ zs, z.length ≤ 10000) ∧
  ∀ (l : Addr) (H' : Hp), Same H H' → H l = none → H' l = some (.lst ((wordOrder zs).map V.str)) → Q (.ref l) H'
section
variable {P : Program} {w : World} {K : PySem.W.Frag} {mg : Str → Option Value} {base : Heap}
theorem ok_order {f : Addr} {fd : FuncData} (F : Fun K "word_order" "word_order" s_word_order f fd) (T : Txt K mg) : FnOk P w K mg base CX0 1 f fd ["words"] (spOrder K) := by
  refine F.ok sc_word_order (fun vs H Q E h => ?_) (fun cdv A outer s H vs Q E hr h => ?_)
  · obtain ⟨a, zs, rfl, _⟩ := h
    rfl
  · refine ⟨_, (pss_one (ps_ret (pe_sortLen (pa_cons (pe_callB (cr_sortD hr.units) (by rfl) T.z_sorted (by decide +kernel) (pa_cons (pv 0) pa_nil)) pa_nil) hr.units (by rfl) T.z_sorted (by rfl) T.z_len))), ?_⟩
    obtain ⟨a, zs, rfl, hs, hl, hz, k⟩ := h
    let vd : Str → VD := fun z => (.str z, .str z)
    have ef : ∀ ys : List Str, firsts (ys.map vd) = ys.map V.str := fun ys => by
      unfold firsts
      rw [List.map_map]
      rfl
    have es : (zs.map vd).mergeSort leD = (zs.mergeSort leS).map vd := (PySem.W.sort_maps (r := leS) (s := leD) vd fun a _ b _ => rfl).symm
    refine ⟨_, rfl, a, zs.map vd, rfl, by rw [ef]; exact hs, fun p hp => ?_, ?_, ?_, fun p hp => ?_, fun l hl0 => ?_⟩
    · obtain ⟨z, _, rfl⟩ := List.mem_map.mp hp
      exact .str z
    · rw [List.map_map]
      exact PySem.W.AllAlike.of fun b b' => rfl
    · rw [List.map_map]
      exact PySem.W.Sortable.others fun b => ⟨(fun h => by cases h), (fun xs h => by cases h)⟩
    · obtain ⟨z, _, rfl⟩ := List.mem_map.mp hp
      exact Nat.zero_le _
    · rw [es, ef]
      have s1 : Same H (upd H l (.lst ((zs.mergeSort leS).map V.str))) := fun b o e => by rw [upd_ne (ne_of_none e hl0)]; exact e
      refine ⟨l, zs.mergeSort leS, rfl, SqL.of upd_same, fun z hm => ?_, fun q hq => ?_⟩
      · have := hz z (List.mem_mergeSort.mp hm)
        exact Nat.le_trans this (by decide)
      · exact k q _ (fun b o e => by rw [upd_ne (ne_of_none (s1 b o e) hq)]; exact s1 b o e) (s1.free hq) upd_same
end
end Wf
namespace Wf
open PySem L2
/-- a word over the letters -/
def isWord (z : Str) : PyData → Bool
  | .str w => w.cps.toList.all fun c => decide (c ∈ z.cps.toList)
  | _ => false
/-- .. of at most n signs -/
def wordOk (z : Str) (n : Nat) (d : PyData) : Bool := isWord z d && decide (nL d ≤ n)
def spIsWord (K : PySem.W.Frag) : Sp := fun vs H Q _ => ∃ (v : V) (d : PyData) (z : Str), vs = [v, .str z] ∧ Dq K H v d ∧ (∀ w, d = .str w → w.length < 1000000) ∧ ∀ H', Same H H' → Q (.bl (isWord z d)) H'
def spUpTo (K : PySem.W.Frag) : Sp := fun vs H Q _ => ∃ (v : V) (d : PyData) (z : Str) (n : Nat), vs = [v, .str z, .int n] ∧ Dq K H v d ∧ (∀ w, d = .str w → w.length < 1000000) ∧ ∀ H', Same H H' → Q (.bl (wordOk z n d)) H'
section
variable {P : Program} {w : World} {K : PySem.W.Frag} {mg : Str → Option Value} {base : Heap} {f : Addr} {fd : FuncData}
/-- the first thing that is no word of a sample -/
def wrongWord (z : Str) (ds : List PyData) (i : Nat) : Bool := wordOk z 12 (ds.getD i .none)
def spCheckW (K : PySem.W.Frag) (CW : Addr) : Sp := fun vs H Q E => ∃ (v : V) (d : PyData) (z : Str), vs = [v, .str z] ∧ Dq K H v d ∧ isSeq d = true ∧ (∀ e ∈ its d, ∀ w, e = .str w → w.length < 1000000) ∧
  (∀ i, Fst (wrongWord z (its d)) (its d).length (some i) → ∀ x dd H', Same H H' → Dq K H' x ((its d).getD i .none) → H dd = none → H' dd = some (.xd [("word", x)]) → E (.ref CW) (some dd) H') ∧
  (Fst (wrongWord z (its d)) (its d).length none → ∀ H', Same H H' → Q .non H')
def spCheckS (K : PySem.W.Frag) (CW : Addr) : Sp := fun vs H Q E => ∃ (v : V) (d : PyData) (z : Str), vs = [v, .str z] ∧ Dq K H v d ∧ (∀ e ∈ its d, ∀ w, e = .str w → w.length < 1000000) ∧
  (isSeq d = false → ∀ dd H', Same H H' → H dd = none → H' dd = some (.xd [("word", v)]) → E (.ref CW) (some dd) H') ∧
  (isSeq d = true → ∀ i, Fst (wrongWord z (its d)) (its d).length (some i) → ∀ x dd H', Same H H' → Dq K H' x ((its d).getD i .none) → H dd = none → H' dd = some (.xd [("word", x)]) → E (.ref CW) (some dd) H') ∧
  (isSeq d = true → Fst (wrongWord z (its d)) (its d).length none → ∀ H', Same H H' → Q .non H')
end
end Wf
namespace Wf
open PySem L2
def spLed (K : PySem.W.Frag) : Sp := fun vs H Q _ => ∃ (z w : Str) (r : Addr) (tb : List (List (Option Nat))), vs = [.str z, .ref r, .str w] ∧ Rws K H r tb ∧ TbOk z.length tb ∧ (∀ c ∈ w.cps.toList, c ∈ z.cps.toList) ∧ Q (oV (ledTo z.cps.toList tb (some 0) w.cps.toList)) H
section
variable {P : Program} {w : World} {K : PySem.W.Frag} {mg : Str → Option Value} {base : Heap}
end
end Wf
namespace Wf
open PySem PySem.Spec PyProof.Rows L2
/-! machines run -/
/-- a machine, as it stands -/
structure MI where
  x : Addr
  dx : Addr
  C : Addr
  t : Addr
  u : Addr
  rest : List (Str × V)
  z : Str
  tb : List (List (Option Nat))
  ms : List (Option Bool)
structure MIat (K : PySem.W.Frag) (H : Hp) (i : MI) : Prop where
  ob : H i.x = some (.ins i.C i.dx (("_letters", .str i.z) :: ("_transitions", .ref i.t) :: ("_marks", .ref i.u) :: i.rest))
  nx : Rws K H i.t i.tb
  mr : Dq K H (.ref i.u) (.tuple (i.ms.map dOb))
  ok : TbOk i.z.length i.tb
  ml : i.ms.length = i.tb.length
def spRun (K : PySem.W.Frag) (C CW : Addr) : Sp := fun vs H Q E => ∃ (i : MI) (v : V) (d : PyData), vs = [.ref i.x, v] ∧ i.C = C ∧ MIat K H i ∧ i.z.length ≤ 1000 ∧ Dq K H v d ∧ (∀ w, d = .str w → w.length < 1000000) ∧
  (isWord i.z d = false → ∀ a H', Same H H' → H a = none → H' a = some (.xd [("word", v)]) → E (.ref CW) (some a) H') ∧
  (∀ w, d = .str w → isWord i.z d = true → ∀ H', Same H H' → Q (oV (ledTo i.z.cps.toList i.tb (some 0) w.cps.toList)) H')
/-- the mark of a state, none of none -/
def markAt (ms : List (Option Bool)) : Option Nat → Option Bool
  | none => none
  | some n => ms.getD n none
def spAns (K : PySem.W.Frag) (C CW : Addr) : Sp := fun vs H Q E => ∃ (i : MI) (v : V) (d : PyData), vs = [.ref i.x, v] ∧ i.C = C ∧ MIat K H i ∧ i.z.length ≤ 1000 ∧ Dq K H v d ∧ (∀ w, d = .str w → w.length < 1000000) ∧ i.rest.lookup ("run" : Str) = none ∧
  (isWord i.z d = false → ∀ a H', Same H H' → H a = none → H' a = some (.xd [("word", v)]) → E (.ref CW) (some a) H') ∧
  (∀ w, d = .str w → isWord i.z d = true → ∀ H', Same H H' → Q (mV (markAt i.ms (ledTo i.z.cps.toList i.tb (some 0) w.cps.toList))) H')
theorem dq_mark {K : PySem.W.Frag} {H : Hp} {v : V} {o : Option Bool} (h : Dq K H v (dOb o)) : v = mV o := by cases o <;> cases h <;> rfl
theorem led_none {zs : List Nat} {tb : List (List (Option Nat))} : ∀ (cs : List Nat), ledTo zs tb none cs = none
  | [] => rfl
  | _ :: cs => led_none (zs := zs) (tb := tb) cs
theorem led_left {zs : List Nat} {tb : List (List (Option Nat))} {s : Option Nat} {cs : List Nat} {k : Nat} (h : ledTo zs tb s (cs.take k) = none) : ledTo zs tb s cs = none := by
  have e : ledTo zs tb s cs = ledTo zs tb (ledTo zs tb s (cs.take k)) (cs.drop k) := by
    unfold ledTo
    rw [← List.foldl_append, List.take_append_drop]
  rw [e, h, led_none]
section
variable {P : Program} {w : World} {K : PySem.W.Frag} {mg : Str → Option Value} {base : Heap} {f : Addr} {fd : FuncData}
end
theorem eq_oV {a b : Option Nat} : eqV (oV a) (oV b) = decide (a = b) := by
  cases a with
  | none =>
    cases b with
    | none => rfl
    | some m => exact (decide_eq_false (by simp)).symm
  | some n =>
    cases b with
    | none => exact (decide_eq_false (by simp)).symm
    | some m =>
      show ((n : Int) == (m : Int)) = _
      by_cases h : n = m
      · subst h
        simp
      · rw [decide_eq_false (by simpa using h), beq_eq_false_iff_ne.mpr (by omega)]
theorem MIat.same {K : PySem.W.Frag} {H H' : Hp} {i : MI} (h : MIat K H i) (s : Same H H') : MIat K H' i := by
  refine ⟨s _ _ h.ob, ?_, (Sty.of s).dq h.mr, h.ok, h.ml⟩
  obtain ⟨bs, h1, h2, h3⟩ := h.nx
  exact ⟨bs, h1.imp (fun h => (Stay.of s).l _ _ h) fun h => (Stay.of s).t _ _ h, h2, fun j b row e1 e2 => (h3 j b row e1 e2).imp (fun h => (Stay.of s).l _ _ h) fun h => (Stay.of s).t _ _ h⟩
theorem flat_o {o : Option Nat} : flatV (oV o) = true := by cases o <;> rfl
theorem MIat.but {K : PySem.W.Frag} {H H' : Hp} {p c : Addr} {n : Nat} {i : MI} (h : MIat K H i) (b : But p H H') (hp : Pen H p c n) : MIat K H' i := by
  have s := b.sty (K := K) hp
  refine ⟨b _ _ (pen_ne hp h.ob nofun) h.ob, ?_, s.dq h.mr, h.ok, h.ml⟩
  obtain ⟨bs, h1, h2, h3⟩ := h.nx
  exact ⟨bs, h1.imp (fun h => s.l _ _ h) fun h => s.t _ _ h, h2, fun j b row e1 e2 => (h3 j b row e1 e2).imp (fun h => s.l _ _ h) fun h => s.t _ _ h⟩
theorem run_goes {K : PySem.W.Frag} {C CW : Addr} {H : Hp} {i : MI} {u : Str} {Q : VK} {E : XK} {o : Option Nat} (eC : i.C = C) (h : MIat K H i) (zl : i.z.length ≤ 1000) (ul : u.length < 1000000) (inz : ∀ c ∈ u.cps.toList, c ∈ i.z.cps.toList) (e : ledTo i.z.cps.toList i.tb (some 0) u.cps.toList = o)
    (fin : ∀ H', Same H H' → Q (oV o) H') : spRun K C CW [.ref i.x, .str u] H Q E := by
  have ok : isWord i.z (.str u) = true := List.all_eq_true.mpr fun c hc => decide_eq_true (inz c hc)
  exact ⟨i, .str u, .str u, rfl, eC, h, zl, .str _, fun w q => by cases q; exact ul, fun q => absurd (ok.symm.trans q) (by decide), fun w q _ H' s => by cases q; rw [e]; exact fin H' s⟩
theorem ans_goes {K : PySem.W.Frag} {C CW : Addr} {H : Hp} {i : MI} {u : Str} {Q : VK} {E : XK} {m : Option Bool} (eC : i.C = C) (h : MIat K H i) (er : i.rest = []) (zl : i.z.length ≤ 1000) (ul : u.length < 1000000) (inz : ∀ c ∈ u.cps.toList, c ∈ i.z.cps.toList) (e : markAt i.ms (ledTo i.z.cps.toList i.tb (some 0) u.cps.toList) = m)
    (fin : ∀ H', Same H H' → Q (mV m) H') : spAns K C CW [.ref i.x, .str u] H Q E := by
  have ok : isWord i.z (.str u) = true := List.all_eq_true.mpr fun c hc => decide_eq_true (inz c hc)
  exact ⟨i, .str u, .str u, rfl, eC, h, zl, .str _, fun w q => by cases q; exact ul, by rw [er]; rfl, fun q => absurd (ok.symm.trans q) (by decide), fun w q _ H' s => by cases q; rw [e]; exact fin H' s⟩
end Wf
namespace Wf
open PySem PySem.Spec PyProof.Rows L2
/-! what a table is; how much of it is shown -/
/-- what a table is, without where it stands -/
structure TbG (z : Str) (tb : List (List (Option Nat))) (ms : List (Option Bool)) : Prop where
  lz : Ltrs z 4
  pos : 0 < tb.length
  few : tb.length ≤ 100
  m : ms.length = tb.length
  len : ∀ r ∈ tb, r.length = z.length
  lt : ∀ r ∈ tb, ∀ n, some n ∈ r → n < tb.length
theorem TbG.sm {z : Str} {tb : List (List (Option Nat))} {ms : List (Option Bool)} (h : TbG z tb ms) : ∀ r ∈ tb, ∀ o ∈ r, SmO o := fun r hr o ho n e => by
  subst e
  have := h.lt r hr n ho
  have := h.few
  omega
theorem TbG.vwO {z : Str} {tb : List (List (Option Nat))} {ms : List (Option Bool)} (h : TbG z tb ms) : ∀ r ∈ tb, ∀ o ∈ r, Vw 0 10 (dOn o) := fun r hr o ho => by
  cases o with
  | none => exact vw_none.more (by decide) (by decide)
  | some n => exact vw_int (by have := h.sm r hr _ ho n rfl; omega)
theorem vwB {o : Option Bool} : Vw 0 5 (dOb o) := by
  cases o with
  | none => exact vw_none
  | some n => exact vw_bool
theorem TbG.row {z : Str} {tb : List (List (Option Nat))} {ms : List (Option Bool)} (h : TbG z tb ms) {r : List (Option Nat)} (hr : r ∈ tb) : r.length ≤ 4 := by
  have := h.len r hr
  have := h.lz.2.2.2
  omega
theorem TbG.vwT {z : Str} {tb : List (List (Option Nat))} {ms : List (Option Bool)} (h : TbG z tb ms) : Vw 2 6000 (tblD tb) := (vw_tuple (k := 1) (n := 51) (c := 100) (by rw [List.length_map]; exact h.few) fun d hd => by
  obtain ⟨r, hr, rfl⟩ := List.mem_map.mp hd
  exact (vw_tuple (k := 0) (n := 10) (c := 4) (by rw [List.length_map]; exact h.row hr) fun d hd => by
    obtain ⟨o, ho, rfl⟩ := List.mem_map.mp hd
    exact h.vwO r hr o ho).more (by decide) (by decide)).more (by decide) (by decide)
theorem TbG.vwL {z : Str} {tb : List (List (Option Nat))} {ms : List (Option Bool)} (h : TbG z tb ms) : Vw 2 6000 (.list (tb.map fun r => .list (r.map dOn))) := (vw_list (k := 1) (n := 51) (c := 100) (by rw [List.length_map]; exact h.few) fun d hd => by
  obtain ⟨r, hr, rfl⟩ := List.mem_map.mp hd
  exact (vw_list (k := 0) (n := 10) (c := 4) (by rw [List.length_map]; exact h.row hr) fun d hd => by
    obtain ⟨o, ho, rfl⟩ := List.mem_map.mp hd
    exact h.vwO r hr o ho).more (by decide) (by decide)).more (by decide) (by decide)
theorem TbG.vwM {z : Str} {tb : List (List (Option Nat))} {ms : List (Option Bool)} (h : TbG z tb ms) : Vw 1 6000 (mksD ms) := (vw_tuple (k := 0) (n := 5) (c := 100) (by rw [List.length_map, h.m]; exact h.few) fun d hd => by
  obtain ⟨o, _, rfl⟩ := List.mem_map.mp hd
  exact vwB).more (by decide) (by decide)
theorem TbG.vwN {z : Str} {tb : List (List (Option Nat))} {ms : List (Option Bool)} (h : TbG z tb ms) : Vw 1 6000 (.list (ms.map dOb)) := (vw_list (k := 0) (n := 5) (c := 100) (by rw [List.length_map, h.m]; exact h.few) fun d hd => by
  obtain ⟨o, _, rfl⟩ := List.mem_map.mp hd
  exact vwB).more (by decide) (by decide)
theorem abc_ok {w : Str} (h : Abc w) : PyData.strOk w = true := by
  show w.cps.all (· < 0x110000) = true
  rw [← Array.all_toList, List.all_eq_true]
  intro c hc
  have := (h c hc).2
  exact decide_eq_true (by omega)
theorem Vw.shn {k n : Nat} {d : PyData} (h : Vw k n d) (a : k ≤ 60) (b : n ≤ 16777216) : d.showable = true ∧ d.depth ≤ 60 ∧ d.shown.length ≤ sizeLine := ⟨h.s, Nat.le_trans h.dp a, by rw [sizeLine_eq]; exact Nat.le_trans h.sz b⟩
end Wf
namespace Wf
open PySem PySem.Spec PyProof.Rows L2
/-! machines made of good lists -/
theorem asc_ltrs {l : List Nat} (h : l.Pairwise (· < ·)) : ascL l = true := by
  unfold ascL
  rw [List.all_eq_true]
  intro i hi
  have hi2 := List.mem_range.mp hi
  have h0 : i < l.length := by omega
  have h1 : i + 1 < l.length := by omega
  rw [getD_of (List.getElem?_eq_getElem h0), getD_of (List.getElem?_eq_getElem h1)]
  exact decide_eq_true (List.pairwise_iff_getElem.mp h i (i + 1) h0 h1 (by omega))
theorem ltrs_ok {z : Str} (h : Ltrs z 4) : lettersOk (.str z) = true := by
  show ((decide (1 ≤ z.length) && decide (z.length ≤ 4)) && (z.cps.toList.all fun c => decide (97 ≤ c) && decide (c ≤ 122)) && ascL z.cps.toList) = true
  rw [decide_eq_true h.2.2.1, decide_eq_true (by have := h.2.2.2; omega), asc_ltrs h.1, List.all_eq_true.mpr fun c hc => by rw [decide_eq_true (h.2.1 c hc).1, decide_eq_true (h.2.1 c hc).2]; rfl]
  rfl
theorem rws_all {K : PySem.W.Frag} {H : Hp} : ∀ {tb : List (List (Option Nat))} {xs : List V}, DqAll K H xs (tb.map fun r => .tuple (r.map dOn)) → ∃ bs : List Addr, xs = bs.map V.ref ∧ bs.length = tb.length ∧ ∀ (i : Nat) (b : Addr) (row : List (Option Nat)), bs[i]? = some b → tb[i]? = some row → SqT K H b (row.map oV)
  | [], _, h => by
    cases h
    exact ⟨[], rfl, rfl, fun i b row e => by cases e⟩
  | r :: tb, _, h => by
    cases h with
    | cons a q =>
      obtain ⟨bs, e1, e2, e3⟩ := rws_all q
      cases a with
      | @tup c ys ds sq ab =>
        refine ⟨c :: bs, by rw [e1]; rfl, by rw [List.length_cons, e2]; rfl, fun i b row q1 q2 => ?_⟩
        cases i with
        | zero =>
          cases q1
          cases q2
          rw [← dqAll_on ab]
          exact sq
        | succ i => exact e3 i b row q1 q2
theorem rws_tbl {K : PySem.W.Frag} {H : Hp} {t : Addr} {tb : List (List (Option Nat))} (h : Dq K H (.ref t) (tblD tb)) : Rws K H t tb := by
  cases h with
  | tup sq ab =>
    obtain ⟨bs, rfl, e2, e3⟩ := rws_all ab
    exact ⟨bs, .inr sq, e2, fun i b row q1 q2 => .inr (e3 i b row q1 q2)⟩
theorem TbG.ok {z : Str} {tb : List (List (Option Nat))} {ms : List (Option Bool)} (h : TbG z tb ms) : TbOk z.length tb := ⟨h.pos, h.len, h.lt⟩
theorem TbG.smls {z : Str} {tb : List (List (Option Nat))} {ms : List (Option Bool)} (h : TbG z tb ms) : Sml (.str z) ∧ Sml (.list (tb.map fun r => .list (r.map dOn))) ∧ Sml (.list (ms.map dOb)) := by
  have few := h.few
  have sml : ∀ (d : PyData), (∀ z, d ≠ .str z) → (its d).length ≤ 1000 → (∀ e ∈ its d, (its e).length ≤ 1000) → Sml d := fun d a b c => ⟨fun z h => absurd h (a z), by omega, fun e he => by have := c e he; omega⟩
  refine ⟨⟨fun z' q => by cases q; have := h.lz.2.2.2; omega, by show 0 < 1000000; decide, fun e he => absurd he List.not_mem_nil⟩, sml _ nofun (by show (List.map _ _).length ≤ 1000; rw [List.length_map]; omega) (fun e he => ?_), sml _ nofun (by show (List.map _ _).length ≤ 1000; rw [List.length_map, h.m]; omega) (fun e he => ?_)⟩
  · obtain ⟨r, hr, rfl⟩ := List.mem_map.mp he
    show (r.map dOn).length ≤ 1000
    rw [List.length_map]
    have := h.row hr
    omega
  · obtain ⟨o, _, rfl⟩ := List.mem_map.mp he
    cases o <;> exact Nat.zero_le _
theorem TbG.tok {z : Str} {tb : List (List (Option Nat))} {ms : List (Option Bool)} (h : TbG z tb ms) : isTable (.list (tb.map fun r => .list (r.map dOn))) (.list (ms.map dOb)) = true := by
  show (true && true && ((tb.map fun r => PyData.list (r.map dOn)).length == (ms.map dOb).length) && decide (0 < (tb.map fun r => PyData.list (r.map dOn)).length)) = true
  rw [List.length_map, List.length_map, h.m, beq_self_eq_true, decide_eq_true h.pos]
  rfl
theorem TbG.rowsD {z : Str} {tb : List (List (Option Nat))} {ms : List (Option Bool)} (h : TbG z tb ms) : RowsD (.list (tb.map fun r => .list (r.map dOn))) (.list (ms.map dOb)) tb ms := by
  refine ⟨rfl, rfl, fun x hx => ?_, ?_, rfl, h.m, by have := h.few; omega⟩
  · obtain ⟨r, _, rfl⟩ := List.mem_map.mp hx
    rfl
  · show (tb.map fun r => PyData.list (r.map dOn)).map its = _
    rw [List.map_map]
    rfl
/-- a machine made of lists -/
theorem mac_goes {K : PySem.W.Frag} {CL CP CT C : Addr} (mc : McC K C) {H : Hp} {x dx : Addr} {n m : V} {z : Str} {tb : List (List (Option Nat))} {ms : List (Option Bool)} {Q : VK} (nx : H x = none) (nd : H dx = none) (ne : dx ≠ x) (g : TbG z tb ms)
    (dn : Dq K H n (.list (tb.map fun r => .list (r.map dOn)))) (dm : Dq K H m (.list (ms.map dOb))) (k : ∀ (i : MI) (H' : Hp), i.x = x → i.z = z → i.tb = tb → i.ms = ms → i.C = C → i.rest = [] → Same H H' → MIat K H' i → Dq K H' (.ref i.t) (tblD tb) → Q .non H') :
    spMac K CL CP CT [.ref x, .str z, n, m] (upd (upd H dx (.own x)) x (.ins C dx [])) Q L2.E0 := by
  have s1 : Same H (upd (upd H dx (.own x)) x (.ins C dx [])) := swr (sm1 nd) nx
  have lok := ltrs_ok g.lz
  have rok := rowOk_all (tb := tb) (ms := ms) (z := z.length) g.m g.len g.lt
  obtain ⟨sz, sn, sm⟩ := g.smls
  refine ⟨x, C, dx, .str z, n, m, .str z, _, _, rfl, upd_same, mc, .str _, (Sty.of s1).dq dn, (Sty.of s1).dq dm, sz, sn, sm, fun q => absurd (lok.symm.trans q) (by decide), fun _ q => absurd (g.tok.symm.trans q) (by decide), fun _ _ q => absurd q (by show ¬ 600 < (List.map _ _).length; rw [List.length_map]; have := g.few; omega), fun _ _ _ i f => ?_, fun _ _ _ _ t u H6 b6 e6 dt du => ?_⟩
  · obtain ⟨il, q, _⟩ := f
    exact absurd ((rok i il).symm.trans q) (by decide)
  · rw [its_rows] at dt
    exact k ⟨x, dx, C, t, u, [], z, tb, ms⟩ H6 rfl rfl rfl rfl rfl rfl (fun b o e => b6 b o (ne_of_none e nx) (s1 b o e)) ⟨e6, rws_tbl dt, du, g.ok, g.m⟩ dt
theorem full_fst {tb : List (List (Option Nat))} {ms : List (Option Bool)} (l : ms.length = tb.length) (h1 : ∀ r ∈ tb, none ∉ r) (h2 : none ∉ ms) : Fst (fullAt tb ms) tb.length none := fun j hj => by
  have lj : j < ms.length := by omega
  unfold fullAt
  rw [List.getD_eq_getElem?_getD, List.getElem?_eq_getElem hj, List.getD_eq_getElem?_getD, List.getElem?_eq_getElem lj]
  show (!decide (none ∈ tb[j]) && (ms[j]).isSome) = true
  rw [decide_eq_false (h1 _ (List.getElem_mem hj))]
  cases q : ms[j] with
  | none => exact absurd (by rw [← q]; exact List.getElem_mem lj) h2
  | some b => rfl
/-- a complete machine made of lists -/
theorem com_goes {K : PySem.W.Frag} {CN C : Addr} (mc : McC K C) {H : Hp} {x dx : Addr} {n m : V} {z : Str} {tb : List (List (Option Nat))} {ms : List (Option Bool)} {Q : VK} (nx : H x = none) (nd : H dx = none) (ne : dx ≠ x) (g : TbG z tb ms) (f1 : ∀ r ∈ tb, none ∉ r) (f2 : none ∉ ms)
    (dn : Dq K H n (.list (tb.map fun r => .list (r.map dOn)))) (dm : Dq K H m (.list (ms.map dOb))) (k : ∀ (i : MI) (H' : Hp), i.x = x → i.z = z → i.tb = tb → i.ms = ms → i.C = C → i.rest = [] → Same H H' → MIat K H' i → Dq K H' (.ref i.t) (tblD tb) → Q .non H') :
    spCom K C CN [.ref x, .str z, n, m] (upd (upd H dx (.own x)) x (.ins C dx [])) Q L2.E0 := by
  have s1 : Same H (upd (upd H dx (.own x)) x (.ins C dx [])) := swr (sm1 nd) nx
  have rok := rowOk_all (tb := tb) (ms := ms) (z := z.length) g.m g.len g.lt
  obtain ⟨sz, sn, sm⟩ := g.smls
  have full := full_fst g.m f1 f2
  refine ⟨x, dx, z, n, m, _, _, tb, ms, rfl, upd_same, mc, ltrs_ok g.lz, (Sty.of s1).dq dn, (Sty.of s1).dq dm, sz, sn, sm, g.tok, by show (List.map _ _).length ≤ 600; rw [List.length_map]; have := g.few; omega, rok, g.rowsD, fun i f => ?_, fun _ t u H6 b6 e6 dt du => ?_⟩
  · obtain ⟨il, q, _⟩ := f
    exact absurd ((full i il).symm.trans q) (by decide)
  · rw [its_rows] at dt
    exact k ⟨x, dx, C, t, u, [], z, tb, ms⟩ H6 rfl rfl rfl rfl rfl rfl (fun b o e => b6 b o (ne_of_none e nx) (s1 b o e)) ⟨e6, rws_tbl dt, du, g.ok, g.m⟩ dt
end Wf
namespace Wf
open PySem PySem.Spec PyProof.Rows L2
/-! rows and marks in lists; rows copied; what stays but lists -/
/-- rows copied, in a new list -/
structure RowsK (k : List V → HO) (H H' : Hp) (n : Addr) (tb : List (List (Option Nat))) (bs : List Addr) : Prop where
  s : Same H H'
  l : H' n = some (.lst (bs.map V.ref))
  e : bs.length = tb.length
  r : ∀ (i : Nat) (b : Addr) (row : List (Option Nat)), bs[i]? = some b → tb[i]? = some row → H' b = some (k (row.map oV))
  ne : ∀ b ∈ bs, b ≠ n
  fr : ∀ b ∈ bs, H b = none
theorem RowsK.nil {k : List V → HO} {H : Hp} {n : Addr} (h : H n = none) : RowsK k H (upd H n (.lst [])) n [] [] := ⟨sm1 h, upd_same, rfl, (fun i b row e => by cases e), (fun b hb => absurd hb List.not_mem_nil), fun b hb => absurd hb List.not_mem_nil⟩
theorem RowsK.add {k : List V → HO} {H H1 : Hp} {n b : Addr} {tb : List (List (Option Nat))} {row : List (Option Nat)} {bs : List Addr} (h : RowsK k H H1 n tb bs) (hn : H n = none) (hb : H1 b = none) :
    RowsK k H (upd (upd H1 b (k (row.map oV))) n (.lst (bs.map V.ref ++ [.ref b]))) n (tb ++ [row]) (bs ++ [b]) := by
  have nb : n ≠ b := ne_of_none h.l hb
  refine ⟨swr (h.s.trans (sm1 hb)) hn, by rw [upd_same, List.map_append]; rfl, by rw [List.length_append, List.length_append, h.e]; rfl, fun i x r e1 e2 => ?_, fun x hx => ?_, fun x hx => ?_⟩
  · have l2 : tb.length = bs.length := h.e.symm
    rcases grown e1 with ⟨lt, e1⟩ | ⟨rfl, rfl⟩
    · rw [List.getElem?_append_left (by omega)] at e2
      have e := h.r i x r e1 e2
      exact (upd_ne (h.ne x (List.mem_of_getElem? e1))).trans ((upd_ne (ne_of_none e hb)).trans e)
    · rw [← l2, List.getElem?_append_right (Nat.le_refl _), Nat.sub_self] at e2
      cases e2
      exact (upd_ne nb.symm).trans upd_same
  · rcases List.mem_append.mp hx with m | m
    · exact h.ne x m
    · rw [List.mem_singleton.mp m]
      exact nb.symm
  · rcases List.mem_append.mp hx with m | m
    · exact h.fr x m
    · rw [List.mem_singleton.mp m]
      exact There.of h.s _ hb
/-- a row that was filled behind the others -/
theorem RowsK.push {H H' H3 : Hp} {n b : Addr} {tb : List (List (Option Nat))} {row : List (Option Nat)} {bs : List Addr} (rk : RowsK .lst H H' n tb bs) (hn : H n = none) (hb : H' b = none) (s3 : Same H' H3) (eb : H3 b = some (.lst (row.map oV))) :
    RowsK .lst H (upd H3 n (.lst (bs.map V.ref ++ [.ref b]))) n (tb ++ [row]) (bs ++ [b]) := by
  have nb : n ≠ b := ne_of_none rk.l hb
  refine ⟨swr (rk.s.trans s3) hn, by rw [upd_same, List.map_append]; rfl, by rw [List.length_append, List.length_append, rk.e]; rfl, fun m c rw' e1 e2 => ?_, fun c hc => ?_, fun c hc => ?_⟩
  · rcases grown e1 with ⟨lt, e1⟩ | ⟨rfl, rfl⟩
    · rw [List.getElem?_append_left (by rw [← rk.e]; exact lt)] at e2
      exact (upd_ne (rk.ne c (List.mem_of_getElem? e1))).trans (s3 _ _ (rk.r m c rw' e1 e2))
    · rw [rk.e, List.getElem?_append_right (Nat.le_refl _), Nat.sub_self] at e2
      cases e2
      exact (upd_ne nb.symm).trans eb
  · rcases List.mem_append.mp hc with q | q
    · exact rk.ne c q
    · rw [List.mem_singleton.mp q]
      exact nb.symm
  · rcases List.mem_append.mp hc with q | q
    · exact rk.fr c q
    · rw [List.mem_singleton.mp q]
      exact There.of rk.s _ hb
theorem RowsK.dqT {K : PySem.W.Frag} {H H' : Hp} {n : Addr} {tb : List (List (Option Nat))} {bs : List Addr} (h : RowsK .tup H H' n tb bs) : DqAll K H' (bs.map V.ref) (tb.map fun r => .tuple (r.map dOn)) := by
  have r := h.r
  have e := h.e
  clear h
  induction tb generalizing bs with
  | nil =>
    cases bs with
    | nil => exact .nil
    | cons b bs => cases e
  | cons row tb ih =>
    cases bs with
    | nil => cases e
    | cons b bs => exact .cons (.tup (SqT.of (r 0 b row rfl rfl)) (dqAll_oV row)) (ih (fun i x y e1 e2 => r (i + 1) x y e1 e2) (Nat.succ.inj e))
theorem dq_rows {K : PySem.W.Frag} {H : Hp} {n : Addr} {tb : List (List (Option Nat))} {bs : List Addr} (l : H n = some (.lst (bs.map V.ref))) (e : bs.length = tb.length) (r : ∀ (i : Nat) (b : Addr) (row : List (Option Nat)), bs[i]? = some b → tb[i]? = some row → H b = some (.lst (row.map oV))) :
    Dq K H (.ref n) (.list (tb.map fun r => .list (r.map dOn))) := by
  refine .lst (SqL.of l) ?_
  clear l
  induction tb generalizing bs with
  | nil =>
    cases bs with
    | nil => exact .nil
    | cons b bs => cases e
  | cons row tb ih =>
    cases bs with
    | nil => cases e
    | cons b bs => exact .cons (.lst (SqL.of (r 0 b row rfl rfl)) (dqAll_oV row)) (ih (Nat.succ.inj e) (fun i x y e1 e2 => r (i + 1) x y e1 e2))
theorem RowsK.dqL {K : PySem.W.Frag} {H H' : Hp} {n : Addr} {tb : List (List (Option Nat))} {bs : List Addr} (h : RowsK .lst H H' n tb bs) : Dq K H' (.ref n) (.list (tb.map fun r => .list (r.map dOn))) := dq_rows h.l h.e h.r
theorem dq_mks {K : PySem.W.Frag} {H : Hp} {m : Addr} {ms : List (Option Bool)} (e : H m = some (.lst (ms.map mV))) : Dq K H (.ref m) (.list (ms.map dOb)) := .lst (SqL.of e) (dqAll_mV _)
/-- all but lists and the pen stays -/
def Kp (p : Addr) (H H' : Hp) : Prop := ∀ b o, b ≠ p → (∀ xs, o ≠ .lst xs) → H b = some o → H' b = some o
theorem Kp.but {p : Addr} {H H' : Hp} (b : But p H H') : Kp p H H' := fun x o n _ e => b x o n e
theorem Kp.same {p : Addr} {H H' : Hp} (s : Same H H') : Kp p H H' := fun x o _ _ e => s x o e
theorem Kp.upd {p q : Addr} {H : Hp} {xs ys : List V} (h : H q = some (.lst xs)) : Kp p H (upd H q (.lst ys)) := fun x o _ n e => by
  rcases Decidable.em (x = q) with rfl | ne
  · rw [h] at e
    exact absurd (Option.some.inj e).symm (n xs)
  · exact (upd_ne ne).trans e
theorem Kp.trans {p : Addr} {H H1 H2 : Hp} (a : Kp p H H1) (b : Kp p H1 H2) : Kp p H H2 := fun x o n m e => b x o n m (a x o n m e)
/-- rows and marks in lists, none of them kn -/
structure LsAt (kn : Addr) (H : Hp) (n m : Addr) (bs : List Addr) (tb : List (List (Option Nat))) (ms : List (Option Bool)) : Prop where
  l : H n = some (.lst (bs.map V.ref))
  e : bs.length = tb.length
  r : ∀ (i : Nat) (b : Addr) (row : List (Option Nat)), bs[i]? = some b → tb[i]? = some row → H b = some (.lst (row.map oV))
  ma : H m = some (.lst (ms.map mV))
  nk : n ≠ kn
  mk' : m ≠ kn
  bk : ∀ b ∈ bs, b ≠ kn
section
variable {kn n m p c : Addr} {k : Nat} {H H' : Hp} {bs : List Addr} {tb : List (List (Option Nat))} {ms : List (Option Bool)} {o : HO}
theorem LsAt.same (h : LsAt kn H n m bs tb ms) (s : Same H H') : LsAt kn H' n m bs tb ms := { h with l := s _ _ h.l, ma := s _ _ h.ma, r := fun i b row e1 e2 => s _ _ (h.r i b row e1 e2) }
theorem LsAt.but (h : LsAt kn H n m bs tb ms) (b : But p H H') (hp : Pen H p c k) : LsAt kn H' n m bs tb ms :=
  { h with l := b _ _ (pen_ne hp h.l nofun) h.l, ma := b _ _ (pen_ne hp h.ma nofun) h.ma, r := fun i x row e1 e2 => b _ _ (pen_ne hp (h.r i x row e1 e2) nofun) (h.r i x row e1 e2) }
theorem LsAt.wr (h : LsAt kn H n m bs tb ms) : LsAt kn (upd H kn o) n m bs tb ms :=
  { h with l := (upd_ne h.nk).trans h.l, ma := (upd_ne h.mk').trans h.ma, r := fun i x row e1 e2 => (upd_ne (h.bk x (List.mem_of_getElem? e1))).trans (h.r i x row e1 e2) }
theorem LsAt.dn {K : PySem.W.Frag} (h : LsAt kn H n m bs tb ms) : Dq K H (.ref n) (.list (tb.map fun r => .list (r.map dOn))) := dq_rows h.l h.e h.r
theorem LsAt.dm {K : PySem.W.Frag} (h : LsAt kn H n m bs tb ms) : Dq K H (.ref m) (.list (ms.map dOb)) := dq_mks h.ma
theorem Tbl.ls {H0 : Hp} {z sz : Nat} {full : Bool} (T : Tbl H0 H z sz full n m bs tb ms) (e : ∃ o, H0 kn = some o) : LsAt kn H n m bs tb ms := by
  obtain ⟨o, e⟩ := e
  exact ⟨T.ra, T.lb, fun i b row q1 q2 => T.row (b, row) (List.mem_of_getElem? (i := i) (by rw [List.getElem?_zip_eq_some]; exact ⟨q1, q2⟩)), T.ma, (ne_of_none e T.new.1).symm, (ne_of_none e T.new.2.1).symm, fun b hb => (ne_of_none e (T.new.2.2 b hb).1).symm⟩
end
theorem at_zero {α : Type} {x : α} {xs : List α} : atI (x :: xs) 0 = some x := by
  unfold atI ixN
  rw [if_pos (Int.le_refl 0), if_pos (by rw [List.length_cons]; omega)]
  rfl
theorem at_last {α : Type} {xs : List α} {x : α} : atI (xs ++ [x]) (-1) = some x := by
  unfold atI ixN
  rw [if_neg (by decide), if_pos (by rw [List.length_append]; show -(((xs.length + 1 : Nat)) : Int) ≤ -1; omega)]
  show (xs ++ [x])[_]? = _
  have e : (-1 + ((xs ++ [x]).length : Int)).toNat = xs.length := by
    rw [List.length_append]
    show (-1 + ((xs.length + 1 : Nat) : Int)).toNat = _
    omega
  rw [e, List.getElem?_append_right (Nat.le_refl _), Nat.sub_self]
  rfl
theorem at_last2 {α : Type} {xs : List α} {x y : α} : atI (xs ++ [x] ++ [y]) (-2) = some x := by
  unfold atI ixN
  have l : (xs ++ [x] ++ [y]).length = xs.length + 2 := by rw [List.length_append, List.length_append]; rfl
  rw [l, if_neg (by decide), if_pos (by show -(((xs.length + 2 : Nat)) : Int) ≤ -2; omega)]
  show (xs ++ [x] ++ [y])[_]? = _
  have e : (-2 + ((xs.length + 2 : Nat) : Int)).toNat = xs.length := by omega
  rw [e, List.append_assoc, List.getElem?_append_right (Nat.le_refl _), Nat.sub_self]
  rfl
end Wf
namespace Wf
open PySem PySem.Spec PyProof.Rows L2
/-! what a machine says of itself -/
abbrev s_Machine_size : Stmt := inClass (top 42) 9
abbrev N_Machine_size : List Str := ["self"]
theorem sc_Machine_size : FnScope N_Machine_size ["self"] (defScope s_Machine_size) := ⟨rfl, rfl, rfl, by decide +kernel, rfl, by decide +kernel, by decide +kernel⟩
abbrev s_Machine_letters : Stmt := inClass (top 42) 6
abbrev N_Machine_letters : List Str := ["self"]
theorem sc_Machine_letters : FnScope N_Machine_letters ["self"] (defScope s_Machine_letters) := ⟨rfl, rfl, rfl, by decide +kernel, rfl, by decide +kernel, by decide +kernel⟩
abbrev s_Machine_transitions : Stmt := inClass (top 42) 7
abbrev N_Machine_transitions : List Str := ["self"]
theorem sc_Machine_transitions : FnScope N_Machine_transitions ["self"] (defScope s_Machine_transitions) := ⟨rfl, rfl, rfl, by decide +kernel, rfl, by decide +kernel, by decide +kernel⟩
abbrev s_Machine_marks : Stmt := inClass (top 42) 8
abbrev N_Machine_marks : List Str := ["self"]
theorem sc_Machine_marks : FnScope N_Machine_marks ["self"] (defScope s_Machine_marks) := ⟨rfl, rfl, rfl, by decide +kernel, rfl, by decide +kernel, by decide +kernel⟩
theorem seq_walkT {K : PySem.W.Frag} {σ : L2.St} {H : Hp} {a : Addr} {xs : List V} {tl : TE} {R : It → Hp → Prop} (h : Sq K H a xs) (e : ∀ Q : VK, Q (.ref a) H → tl σ H Q) (k : ∀ (J : It) (G : Hp → Prop), Walk J xs.length G (YAt xs) → (∀ H', Stay K H H' → G H') → R J H) : iSeq K tl σ H R := by
  rcases h with h | h
  · exact .inl (e _ ⟨a, rfl, ⟨xs, h⟩, k _ _ walk_list fun H' s => s.l _ _ h⟩)
  · exact .inr (e _ ⟨a, rfl, ⟨xs, h⟩, k _ _ walk_tup fun H' s => s.t _ _ h⟩)
def spSizeM (K : PySem.W.Frag) (C : Addr) : Sp := fun vs H Q _ => ∃ i : MI, vs = [.ref i.x] ∧ i.C = C ∧ MIat K H i ∧ Q (.int (i.ms.length : Nat)) H
theorem marks_at {K : PySem.W.Frag} {H : Hp} {u : Addr} {ms : List (Option Bool)} (h : Dq K H (.ref u) (.tuple (ms.map dOb))) : SqT K H u (ms.map mV) := by
  cases h with
  | @tup c ys ds sq ab =>
    have e : ys = ms.map mV := by
      clear sq
      induction ms generalizing ys with
      | nil => cases ab; rfl
      | cons o ms ih =>
        cases ab with
        | cons a b => rw [ih b, dq_mark a]; rfl
    rw [← e]
    exact sq
section
variable {P : Program} {w : World} {K : PySem.W.Frag} {mg : Str → Option Value} {base : Heap} {f : Addr} {fd : FuncData}
theorem ok_Machine_size {C : Addr} (F : Fun K "size" "Machine.size" s_Machine_size f fd) (T : Txt K mg) (mc : McC K C) : FnOk P w K mg base CX0 1 f fd ["self"] (spSizeM K C) := by
  refine F.ok sc_Machine_size (fun vs H Q E h => ?_) (fun cdv A outer s H vs Q E hr h => ?_)
  · obtain ⟨i, rfl, _⟩ := h
    rfl
  · obtain ⟨i, rfl, eC, at_, q⟩ := h
    refine ⟨_, (pss_one (ps_ret (pe_callB call_len (by rfl) T.z_len PySem.boot_len (pa_cons (pe_fld (pv 0) rfl) pa_nil)))), ?_⟩
    have ob := at_.ob
    rw [eC] at ob
    exact ⟨_, rfl, i.x, C, i.dx, _, _, rfl, ob, mc.cl, mc.n3, rfl, .ref i.u, _, rfl, (show LenV K (.ref i.u) H i.ms.length from .inr ⟨_, marks_at at_.mr, (List.length_map _).symm⟩), q⟩
end
end Wf
namespace Wf
open PySem PySem.Spec PyProof.Rows L2
/-! a machine begun at another state -/
/-- 0 and n exchanged -/
def swp (n j : Nat) : Nat := if j = 0 then n else if j = n then 0 else j
theorem swp_swp {n j : Nat} : swp n (swp n j) = j := by
  unfold swp
  by_cases h1 : j = 0
  · rw [if_pos h1]
    by_cases h2 : n = 0
    · rw [if_pos h2, h2, h1]
    · rw [if_neg h2, if_pos rfl, h1]
  · rw [if_neg h1]
    by_cases h2 : j = n
    · rw [if_pos h2, if_pos rfl, h2]
    · rw [if_neg h2, if_neg h1, if_neg h2]
theorem swp_lt {n j k : Nat} (hn : n < k) (hj : j < k) : swp n j < k := by
  unfold swp
  by_cases h1 : j = 0
  · rw [if_pos h1]; exact hn
  · rw [if_neg h1]
    by_cases h2 : j = n
    · rw [if_pos h2]; omega
    · rw [if_neg h2]; exact hj
def begT (n : Nat) (tb : List (List (Option Nat))) : List (List (Option Nat)) := (List.range tb.length).map fun j => (tb.getD (swp n j) []).map (Option.map (swp n))
def begM (n : Nat) (ms : List (Option Bool)) : List (Option Bool) := (List.range ms.length).map fun j => ms.getD (swp n j) none
def ordV (n k : Nat) : List V := (List.range k).map fun j => V.int (swp n j : Nat)
theorem ordV_len {n k : Nat} : (ordV n k).length = k := by unfold ordV; rw [List.length_map, List.length_range]
theorem ordV_at {n k j : Nat} (h : j < k) : (ordV n k)[j]? = some (V.int (swp n j : Nat)) := by
  unfold ordV
  rw [List.getElem?_map, List.getElem?_range h]
  rfl
theorem ord_set {n k : Nat} (h : n < k) : ((rgV 0 (k : Int)).set 0 (.int (n : Nat))).set n (.int 0) = ordV n k := by
  have l0 : (rgV 0 (k : Int)).length = k := by rw [rgV_length]; omega
  refine List.ext_getElem (by rw [List.length_set, List.length_set, l0, ordV_len]) fun j h1 h2 => ?_
  rw [ordV_len] at h2
  have e1 : (ordV n k)[j]'(by rw [ordV_len]; exact h2) = V.int (swp n j : Nat) := by
    have := ordV_at (n := n) h2
    rw [List.getElem?_eq_getElem (by rw [ordV_len]; exact h2)] at this
    exact Option.some.inj this
  rw [e1, List.getElem_set, List.getElem_set]
  have e2 : (rgV 0 (k : Int))[j]'(by rw [l0]; exact h2) = V.int (j : Nat) := by
    unfold rgV
    rw [List.getElem_map, List.getElem_range, Int.zero_add]
  rw [e2]
  unfold swp
  by_cases a : n = j
  · rw [if_pos a]
    subst a
    by_cases b : n = 0
    · rw [if_pos b, b]; rfl
    · rw [if_neg b, if_pos rfl]; rfl
  · rw [if_neg a]
    by_cases b : j = 0
    · rw [if_pos b, if_pos b.symm]
    · rw [if_neg b, if_neg (fun z => b z.symm), if_neg fun z => a z.symm]
theorem beg_tb {n : Nat} {z : Str} {tb : List (List (Option Nat))} {ms : List (Option Bool)} (h : TbG z tb ms) (hn : n < tb.length) : TbG z (begT n tb) (begM n ms) := by
  have lt : (begT n tb).length = tb.length := by unfold begT; rw [List.length_map, List.length_range]
  have lm : (begM n ms).length = ms.length := by unfold begM; rw [List.length_map, List.length_range]
  have mem : ∀ r ∈ begT n tb, ∃ r0 ∈ tb, r = r0.map (Option.map (swp n)) := fun r hr => by
    unfold begT at hr
    obtain ⟨j, hj, rfl⟩ := List.mem_map.mp hr
    have jl := swp_lt hn (List.mem_range.mp hj)
    exact ⟨tb.getD (swp n j) [], by rw [List.getD_eq_getElem?_getD, List.getElem?_eq_getElem jl]; exact List.getElem_mem jl, rfl⟩
  refine ⟨h.lz, by rw [lt]; exact h.pos, by rw [lt]; exact h.few, by rw [lt, lm]; exact h.m, fun r hr => ?_, fun r hr m hm => ?_⟩
  · obtain ⟨r0, h0, rfl⟩ := mem r hr
    rw [List.length_map]
    exact h.len r0 h0
  · obtain ⟨r0, h0, rfl⟩ := mem r hr
    obtain ⟨o, ho, e⟩ := List.mem_map.mp hm
    cases o with
    | none => cases e
    | some m0 =>
      cases e
      rw [lt]
      exact swp_lt hn (h.lt r0 h0 m0 ho)
/-- one step of it -/
theorem step_beg {zs : List Nat} {tb : List (List (Option Nat))} {n m c : Nat} (hn : n < tb.length) (hm : m < tb.length) : ledTo zs (begT n tb) (some (swp n m)) [c] = (ledTo zs tb (some m) [c]).map (swp n) := by
  show ((begT n tb).getD (swp n m) []).getD (zs.idxOf c) none = ((tb.getD m []).getD (zs.idxOf c) none).map (swp n)
  have e : (begT n tb).getD (swp n m) [] = (tb.getD m []).map (Option.map (swp n)) := by
    unfold begT
    rw [List.getD_eq_getElem?_getD, List.getElem?_map, List.getElem?_range (swp_lt hn hm)]
    show (tb.getD (swp n (swp n m)) []).map _ = _
    rw [swp_swp]
  rw [e, List.getD_eq_getElem?_getD, List.getD_eq_getElem?_getD (l := tb.getD m []), List.getElem?_map]
  cases (tb.getD m [])[zs.idxOf c]? <;> rfl
theorem led_beg {zs : List Nat} {tb : List (List (Option Nat))} {n k : Nat} (T : TbOk k tb) (hn : n < tb.length) : ∀ (cs : List Nat) (s : Option Nat), (∀ m, s = some m → m < tb.length) → ledTo zs (begT n tb) (s.map (swp n)) cs = (ledTo zs tb s cs).map (swp n)
  | [], s, _ => rfl
  | c :: cs, none, _ => by
    rw [led_none]
    exact led_none _
  | c :: cs, some m, h => by
    show ledTo zs (begT n tb) (ledTo zs (begT n tb) (some (swp n m)) [c]) cs = (ledTo zs tb (ledTo zs tb (some m) [c]) cs).map (swp n)
    rw [step_beg hn (h m rfl)]
    exact led_beg T hn cs _ (led_lt (zs := zs) T [c] (some m) h)
theorem mark_beg {ms : List (Option Bool)} {n : Nat} (hn : n < ms.length) {s : Option Nat} (h : ∀ m, s = some m → m < ms.length) : markAt (begM n ms) (s.map (swp n)) = markAt ms s := by
  cases s with
  | none => rfl
  | some m =>
    show (begM n ms).getD (swp n m) none = ms.getD m none
    unfold begM
    rw [List.getD_eq_getElem?_getD, List.getElem?_map, List.getElem?_range (swp_lt hn (h m rfl))]
    show ms.getD (swp n (swp n m)) none = _
    rw [swp_swp]
theorem swp_self {n : Nat} : swp n n = 0 := by
  unfold swp
  by_cases h : n = 0
  · rw [if_pos h, h]
  · rw [if_neg h, if_pos rfl]
def spBegunAt (K : PySem.W.Frag) (S : Addr → Prop) (CM : Addr) : Sp := fun vs H Q _ => ∃ (i : MI) (n : Nat), vs = [.ref i.x, .int (n : Int)] ∧ S i.C ∧ MIat K H i ∧ TbG i.z i.tb i.ms ∧ n < i.tb.length ∧
  ∀ (i2 : MI) (H' : Hp), Same H H' → MIat K H' i2 → i2.C = CM → i2.rest = [] → i2.z = i.z → i2.tb = begT n i.tb → i2.ms = begM n i.ms → Q (.ref i2.x) H'
section
variable {P : Program} {w : World} {K : PySem.W.Frag} {mg : Str → Option Value} {base : Heap} {f : Addr} {fd : FuncData}
end
end Wf
namespace Wf
open PySem PySem.Spec PyProof.Rows L2
/-! states after words -/
abbrev s_mark_at : Stmt := top 9
abbrev N_mark_at : List Str := ["machine", "state"]
theorem sc_mark_at : FnScope N_mark_at ["machine", "state"] (defScope s_mark_at) := ⟨rfl, rfl, rfl, by decide +kernel, rfl, by decide +kernel, by decide +kernel⟩
def spAfter (K : PySem.W.Frag) (C : Addr) : Sp := fun vs H Q _ => ∃ (i : MI) (s : Option Nat) (w : Str), vs = [.ref i.x, oV s, .str w] ∧ i.C = C ∧ MIat K H i ∧ (∀ n, s = some n → n < i.tb.length) ∧ (∀ c ∈ w.cps.toList, c ∈ i.z.cps.toList) ∧ Q (oV (ledTo i.z.cps.toList i.tb s w.cps.toList)) H
def spMarkAt (K : PySem.W.Frag) (C : Addr) : Sp := fun vs H Q _ => ∃ (i : MI) (s : Option Nat), vs = [.ref i.x, oV s] ∧ i.C = C ∧ MIat K H i ∧ (∀ n, s = some n → n < i.tb.length) ∧ Q (mV (markAt i.ms s)) H
section
variable {P : Program} {w : World} {K : PySem.W.Frag} {mg : Str → Option Value} {base : Heap} {f : Addr} {fd : FuncData}
theorem ok_mark_at {C : Addr} (F : Fun K "mark_at" "mark_at" s_mark_at f fd) (T : Txt K mg) (mc : McC K C) (P_marks : Pr P w K mg base C "marks" (getSp C "_marks")) : FnOk P w K mg base CX0 3 f fd ["machine", "state"] (spMarkAt K C) := by
  refine F.ok sc_mark_at (fun vs H Q E h => ?_) (fun cdv A outer s H vs Q E hr h => ?_)
  · obtain ⟨i, o, rfl, _⟩ := h
    rfl
  · obtain ⟨i, o, rfl, eC, at_, lt, fin⟩ := h
    have eob := at_.ob
    rw [eC] at eob
    refine ⟨_, (pss_one (ps_ret (pe_ifExp (pt_cmpR op_isN (pv 1) (pe_non) (nomark _)) (pe_non) (pe_ix ix_seq (pe_pr P_marks mc.cl (hr.mono (by decide)) (pv 0)) (pv 1) (fun _ _ => rfl))))), ?_⟩
    refine ⟨_, rfl, rfl, _, rfl, ?_⟩
    cases o with
    | none => exact iteT fin
    | some n =>
      refine iteF ⟨_, rfl, i.x, i.dx, _, rfl, eob, i.x, i.dx, _, _, rfl, eob, rfl, _, rfl, ?_⟩
      have ln : n < i.ms.length := by rw [at_.ml]; exact lt n rfl
      have e1 : i.ms.getD n none = i.ms[n] := by rw [List.getD_eq_getElem?_getD, List.getElem?_eq_getElem ln]; rfl
      have mr2 := at_.mr
      cases mr2 with
      | tup sq ab =>
        obtain ⟨y, hy, hqy⟩ := ab.at (show (i.ms.map dOb)[n]? = some (dOb i.ms[n]) from by rw [List.getElem?_map, List.getElem?_eq_getElem ln]; rfl)
        refine rix_any (.inr sq) (atI_nat hy) ?_
        rw [dq_mark hqy, ← e1]
        exact fin
end
end Wf
namespace Wf
open PySem PySem.Spec PyProof.Rows L2
/-! a word repeated -/
theorem in_oVs {o : Option Nat} : ∀ {r : List (Option Nat)}, inV (oV o) (r.map oV) = decide (o ∈ r)
  | [] => rfl
  | a :: r => by
    have e : inV (oV o) ((a :: r).map oV) = (eqV (oV a) (oV o) || inV (oV o) (r.map oV)) := rfl
    rw [e, in_oVs, eq_oV, ← Bool.decide_or]
    exact decide_eq_decide.mpr (by rw [List.mem_cons]; exact ⟨fun h => h.imp Eq.symm id, fun h => h.imp Eq.symm id⟩)
theorem passed_diff {α : Type} {f : α → α} {s : α} {k a b : Nat} (nd : (passed f s k).Nodup) (ab : a < b) (bk : b < k) : itr f s a ≠ itr f s b := by
  have e1 := List.getElem?_eq_some_iff.mp (passed_at (f := f) (s := s) (Nat.lt_trans ab bk))
  have e2 := List.getElem?_eq_some_iff.mp (passed_at (f := f) (s := s) bk)
  obtain ⟨h1, e1⟩ := e1
  obtain ⟨h2, e2⟩ := e2
  have := List.pairwise_iff_getElem.mp (List.nodup_iff_pairwise_ne.mp nd) a b h1 h2 ab
  rwa [e1, e2] at this
def spRep (K : PySem.W.Frag) (C : Addr) : Sp := fun vs H Q _ => ∃ (i : MI) (w : Str) (times : Nat), vs = [.ref i.x, .str w, .int (times : Int)] ∧ i.C = C ∧ MIat K H i ∧ i.tb.length ≤ 100000 ∧ (∀ c ∈ w.cps.toList, c ∈ i.z.cps.toList) ∧
  ∀ H', Same H H' → Q (oV (itr (fun s => ledTo i.z.cps.toList i.tb s w.cps.toList) (some 0) times)) H'
section
variable {P : Program} {w : World} {K : PySem.W.Frag} {mg : Str → Option Value} {base : Heap} {f : Addr} {fd : FuncData}
end
end Wf
namespace Wf
open PySem PySem.Spec PyProof.Rows L2
/-! whole numbers in a range -/
def inRange (g : Int) : PyData → Bool
  | .int i => decide (0 ≤ i) && decide (i ≤ g)
  | _ => false
def spRange (K : PySem.W.Frag) (CO : Addr) : Sp := fun vs H Q E => ∃ (v : V) (d : PyData) (g : Int), vs = [v, .int g] ∧ Dq K H v d ∧ (inRange g d = false → ∀ a H', Same H H' → H a = none → H' a = some (.xd [("number", v)]) → E (.ref CO) (some a) H') ∧ (inRange g d = true → ∀ H', Same H H' → Q .non H')
section
variable {P : Program} {w : World} {K : PySem.W.Frag} {mg : Str → Option Value} {base : Heap} {f : Addr} {fd : FuncData}
end
end Wf
namespace Wf
open PySem PySem.Spec PyProof.Rows L2
/-! machines that are compared; words repeated -/
abbrev s_check_compared : Stmt := top 12
abbrev N_check_compared : List Str := ["machines", "machine"]
theorem sc_check_compared : FnScope N_check_compared ["machines"] (defScope s_check_compared) := ⟨rfl, rfl, rfl, by decide +kernel, rfl, by decide +kernel, by decide +kernel⟩
structure TxtK (K : PySem.W.Frag) (mg : Str → Option Value) : Prop extends TxtM K mg where
  g_COMPARED : ∃ t, mg "COMPARED" = some (.int 20 t)
structure TxtC (K : PySem.W.Frag) (mg : Str → Option Value) : Prop extends TxtM K mg where
  g_COMPARED : ∃ t, mg "COMPARED" = some (.int 20 t)
  g_MOST_TIMES : ∃ t, mg "MOST_TIMES" = some (.int (10 ^ 60) t)
theorem TxtC.k {K : PySem.W.Frag} {mg : Str → Option Value} (T : TxtC K mg) : TxtK K mg := ⟨T.toTxtM, T.g_COMPARED⟩
def sameZ (i0 : MI) (is : List MI) : Bool := (i0 :: is).all fun i => decide (i.z = i0.z)
def few20 (is : List MI) : Bool := is.all fun i => decide (i.ms.length ≤ 20)
def spCmp (K : PySem.W.Frag) (C CL CT : Addr) : Sp := fun vs H Q E => ∃ (p : Addr) (i0 : MI) (is : List MI), vs = [.ref p] ∧ SqT K H p ((i0 :: is).map fun i => V.ref i.x) ∧ is.length ≤ 1000 ∧ (∀ i ∈ i0 :: is, i.C = C ∧ MIat K H i) ∧
  (sameZ i0 is = false → ∀ H', Same H H' → E (.ref CL) none H') ∧
  (sameZ i0 is = true → few20 (i0 :: is) = false → ∀ d H', Same H H' → H d = none → H' d = some (.xd [("limit", .int 20)]) → E (.ref CT) (some d) H') ∧
  (sameZ i0 is = true → few20 (i0 :: is) = true → ∀ H', Same H H' → Q .non H')
section
variable {P : Program} {w : World} {K : PySem.W.Frag} {mg : Str → Option Value} {base : Heap} {f : Addr} {fd : FuncData}
theorem body_check_compared {C CL CT : Addr} (T : TxtK K mg) (mc : McC K C) (P_letters : Pr P w K mg base C "letters" (getSp C "_letters")) (P_size : Pr P w K mg base C "size" (spSizeM K C)) (N_InvalidLetters : E0 K mg "InvalidLetters" CL) (N_TooLarge : E1 P w K mg base "TooLarge" CT "limit")
    {f : Addr} {cdv : Value} (A : Around) (outer : List Env) (s : Shared) (H : Hp) (vs : List V) (Q : VK) (E : XK) (hr : Room 3 (A.deeper (envOfC "check_compared" (defScope s_check_compared) s.heap.objs.size f cdv))) (h : spCmp K C CL CT vs H Q E) :
    ∃ t, PSs (cxOf (L2.CX P w) P w K mg base N_check_compared "check_compared" (defScope s_check_compared) f cdv A outer s H E) (defBody s_check_compared) t ∧ t { nx := fun _ H' => Q .non H', rt := Q } (start N_check_compared vs) H := by
  obtain ⟨p, i0, is, rfl, sq, few, all, e1, e2, k⟩ := h
  refine ⟨_, (pss_cons (ps_if (pt_not (pt_truth (pe_callB (cr_all rfl) (by rfl) T.z_all (by decide +kernel) (pa_cons (pe_lc (own := [("machine", 1)]) (g := gName 1) (tt := tYes) (by rfl) sc_check_compared.nd (pi_tup (pv 0)) (blkOk_by (own := [("machine", 1)]) (N := N_check_compared) (sc := defScope s_check_compared) (by decide +kernel)) (fun _ _ _ _ _ => (pg_name (i := 1) sc_check_compared.nd rfl (Or.inl rfl))) (fun _ _ _ _ _ => pts_nil) (fun _ _ _ _ _ => (pe_cmpR op_eq (pe_pr P_letters mc.cl (hr.mono (by decide)) (pv 1)) (pe_pr P_letters mc.cl (hr.mono (by decide)) (pe_ix (show IxR _ (rIxT K) from ix_tup) (pv 0) (pe_int) (fun _ _ => rfl))) (nomark _)))) pa_nil)) (by intro _; rfl))) (pss_one (ps_r0 N_InvalidLetters rfl rfl (takes_of rfl rfl rfl rfl))) pss_nil)
  (pss_one (ps_if (pt_not (pt_truth (pe_callB (cr_all rfl) (by rfl) T.z_all (by decide +kernel) (pa_cons (pe_lc (own := [("machine", 1)]) (g := gName 1) (tt := tYes) (by rfl) sc_check_compared.nd (pi_tup (pv 0)) (blkOk_by (own := [("machine", 1)]) (N := N_check_compared) (sc := defScope s_check_compared) (by decide +kernel)) (fun _ _ _ _ _ => (pg_name (i := 1) sc_check_compared.nd rfl (Or.inl rfl))) (fun _ _ _ _ _ => pts_nil) (fun _ _ _ _ _ => (pe_cmpR op_le (pe_pr P_size mc.cl (hr.mono (by decide)) (pv 1)) (pe_gi T.g_COMPARED) (nomark _)))) pa_nil)) (by intro _; rfl))) (pss_one (ps_r1 N_TooLarge (hr.mono (by decide)) (pe_gi T.g_COMPARED) rfl rfl (takes_of rfl rfl rfl rfl))) pss_nil))), ?_⟩
  obtain ⟨eC0, at0⟩ := all i0 List.mem_cons_self
  have ob0 := at0.ob
  rw [eC0] at ob0
  refine ⟨_, rfl, p, rfl, ⟨_, sq⟩, fun D hD => ?_⟩
  refine lc_tup (K := K) (a := p) (xs := (i0 :: is).map fun i => V.ref i.x) (fun m H' => Same H H' ∧ H' D = some (.lst ((((i0 :: is).take m).map fun i => decide (i.z = i0.z)).map V.bl))) ⟨sm1 hD, upd_same⟩ (fun m H' _ q => (Stay.of q.1).t _ _ sq) ?_ ?_
  · rintro m x H' hx ⟨s1, eD⟩
    rw [List.getElem?_map] at hx
    obtain ⟨i, hi, rfl⟩ := Option.map_eq_some_iff.mp hx
    obtain ⟨eC, at_⟩ := all i (List.mem_of_getElem? hi)
    have ob := s1 _ _ at_.ob
    rw [eC] at ob
    refine ⟨rfl, _, rfl, i.x, i.dx, _, rfl, ob, i.x, i.dx, _, _, rfl, ob, rfl, ?_⟩
    refine ⟨_, rfl, p, _, 0, _, rfl, rfl, (Stay.of s1).t _ _ sq, at_zero, i0.x, i0.dx, _, rfl, s1 _ _ ob0, i0.x, i0.dx, _, _, rfl, s1 _ _ ob0, rfl, rfl, ?_⟩
    refine ⟨_, eD, ?_, swr s1 hD, ?_⟩
    · rw [List.length_map, List.length_map, List.length_take, List.length_cons]
      exact bigS (by omega)
    · rw [upd_same, List.take_succ, hi, List.map_append, List.map_append]
      show _ = some (HO.lst (_ ++ [V.bl (decide (i.z = i0.z))]))
      rw [show decide (V.str i.z = V.str i0.z) = decide (i.z = i0.z) from decide_eq_decide.mpr ⟨V.str.inj, congrArg V.str⟩]
  · rintro H' ⟨s1, eD⟩
    rw [List.length_map, List.take_length] at eD
    refine ⟨D, _, rfl, SqL.of eD, ?_⟩
    have ea : ((i0 :: is).map fun i => decide (i.z = i0.z)).all id = sameZ i0 is := by
      unfold sameZ
      rw [List.all_map]
      rfl
    rw [ea]
    refine ⟨_, rfl, ?_⟩
    cases q1 : sameZ i0 is with
    | false => exact iteT ⟨There.of s1, fun H2 s2 => e1 q1 H2 (s1.trans s2)⟩
    | true =>
      refine iteF ?_
      have sq1 := (Stay.of s1).t _ _ sq
      refine ⟨_, rfl, p, rfl, ⟨_, sq1⟩, fun D2 hD2 => ?_⟩
      refine lc_tup (K := K) (a := p) (xs := (i0 :: is).map fun i => V.ref i.x) (fun m H2 => Same H' H2 ∧ H2 D2 = some (.lst ((((i0 :: is).take m).map fun i => decide (i.ms.length ≤ 20)).map V.bl))) ⟨sm1 hD2, upd_same⟩ (fun m H2 _ q => (Stay.of q.1).t _ _ sq1) ?_ ?_
      · rintro m x H2 hx ⟨s2, eD2⟩
        rw [List.getElem?_map] at hx
        obtain ⟨i, hi, rfl⟩ := Option.map_eq_some_iff.mp hx
        obtain ⟨eC, at_⟩ := all i (List.mem_of_getElem? hi)
        have at2 := at_.same (s1.trans s2)
        have ob := at2.ob
        rw [eC] at ob
        refine ⟨rfl, _, rfl, i.x, i.dx, _, rfl, ob, i, rfl, eC, at2, _, _, rfl, rfl, ?_⟩
        refine ⟨_, eD2, ?_, swr s2 hD2, ?_⟩
        · rw [List.length_map, List.length_map, List.length_take, List.length_cons]
          exact bigS (by omega)
        · rw [upd_same, List.take_succ, hi, List.map_append, List.map_append]
          show some (HO.lst (_ ++ [V.bl (decide ((i.ms.length : Int) ≤ 20))])) = some (HO.lst (_ ++ [V.bl (decide (i.ms.length ≤ 20))]))
          rw [show decide ((i.ms.length : Int) ≤ 20) = decide (i.ms.length ≤ 20) from decide_eq_decide.mpr ⟨fun h => by omega, fun h => by omega⟩]
      · rintro H2 ⟨s2, eD2⟩
        rw [List.length_map, List.take_length] at eD2
        refine ⟨D2, _, rfl, SqL.of eD2, ?_⟩
        have eb : ((i0 :: is).map fun i => decide (i.ms.length ≤ 20)).all id = few20 (i0 :: is) := by
          unfold few20
          rw [List.all_map]
          rfl
        rw [eb]
        refine ⟨_, rfl, ?_⟩
        have s12 := s1.trans s2
        cases q2 : few20 (i0 :: is) with
        | false => exact iteT ⟨There.of s12, fun d H3 s3 nd ed => e2 q1 q2 d H3 (s12.trans s3) (There.of s12 _ nd) ed⟩
        | true => exact iteF (k q1 q2 H2 s12)
def spPow (K : PySem.W.Frag) (C CT CW CO : Addr) : Sp := fun vs H Q E => ∃ (i : MI) (v1 v2 v3 : V) (d1 d2 d3 : PyData), vs = [.ref i.x, v1, v2, v3] ∧ i.C = C ∧ MIat K H i ∧ i.z.length ≤ 1000 ∧ i.tb.length ≤ 100000 ∧ Dq K H v1 d1 ∧ Dq K H v2 d2 ∧ Dq K H v3 d3 ∧ (∀ w, d1 = .str w → w.length < 1000000) ∧ (∀ w, d3 = .str w → w.length < 1000000) ∧
  (20 < i.ms.length → ∀ d H', Same H H' → H d = none → H' d = some (.xd [("limit", .int 20)]) → E (.ref CT) (some d) H') ∧
  (i.ms.length ≤ 20 → isWord i.z d1 = false → ∀ d H', Same H H' → H d = none → H' d = some (.xd [("word", v1)]) → E (.ref CW) (some d) H') ∧
  (i.ms.length ≤ 20 → isWord i.z d1 = true → isWord i.z d3 = false → ∀ d H', Same H H' → H d = none → H' d = some (.xd [("word", v3)]) → E (.ref CW) (some d) H') ∧
  (i.ms.length ≤ 20 → isWord i.z d1 = true → isWord i.z d3 = true → inRange (10 ^ 60) d2 = false → ∀ d H', Same H H' → H d = none → H' d = some (.xd [("number", v2)]) → E (.ref CO) (some d) H') ∧
  (i.ms.length ≤ 20 → isWord i.z d1 = true → isWord i.z d3 = true → inRange (10 ^ 60) d2 = true → ∀ (u y : Str) (n : Nat), d1 = .str u → d2 = .int (n : Int) → d3 = .str y → ∀ H', Same H H' →
    Q (mV (markAt i.ms (ledTo i.z.cps.toList i.tb (itr (fun s => ledTo i.z.cps.toList i.tb s u.cps.toList) (some 0) n) y.cps.toList))) H')
end
end Wf
namespace Wf
open PySem PySem.Spec PyProof.Rows L2
/-! plain tables of the laws: (letters, rows, marks) -/
abbrev s_law_plain : Stmt := top 55
abbrev N_law_plain : List Str := ["pen", "most_letters", "most", "letters", "rows", "marks"]
theorem sc_law_plain : FnScope N_law_plain ["pen", "most_letters", "most"] (defScope s_law_plain) := ⟨rfl, rfl, rfl, by decide +kernel, rfl, by decide +kernel, by decide +kernel⟩
abbrev s_law_machine : Stmt := top 56
abbrev N_law_machine : List Str := ["plain"]
theorem sc_law_machine : FnScope N_law_machine ["plain"] (defScope s_law_machine) := ⟨rfl, rfl, rfl, by decide +kernel, rfl, by decide +kernel, by decide +kernel⟩
abbrev s_law_with_dead_end : Stmt := top 60
abbrev N_law_with_dead_end : List Str := ["letters", "table", "own", "last", "rows", "row", "target"]
theorem sc_law_with_dead_end : FnScope N_law_with_dead_end ["letters", "table", "own"] (defScope s_law_with_dead_end) := ⟨rfl, rfl, rfl, by decide +kernel, rfl, by decide +kernel, by decide +kernel⟩
/-- (letters, rows, marks) at t, in lists that are not the pen -/
structure PlnAt (p : Addr) (H : Hp) (t : Addr) (z : Str) (tb : List (List (Option Nat))) (ms : List (Option Bool)) : Prop where
  ex : ∃ (r m : Addr) (bs : List Addr), H t = some (.tup [.str z, .ref r, .ref m]) ∧ LsAt p H r m bs tb ms
  g : TbG z tb ms
theorem PlnAt.same {p t : Addr} {H H' : Hp} {z : Str} {tb : List (List (Option Nat))} {ms : List (Option Bool)} (h : PlnAt p H t z tb ms) (s : Same H H') : PlnAt p H' t z tb ms :=
  let ⟨r, m, bs, e, l⟩ := h.ex
  ⟨⟨r, m, bs, s _ _ e, l.same s⟩, h.g⟩
theorem PlnAt.but {p c t : Addr} {n : Nat} {H H' : Hp} {z : Str} {tb : List (List (Option Nat))} {ms : List (Option Bool)} (h : PlnAt p H t z tb ms) (b : But p H H') (hp : Pen H p c n) : PlnAt p H' t z tb ms :=
  let ⟨r, m, bs, e, l⟩ := h.ex
  ⟨⟨r, m, bs, b _ _ (pen_ne hp e nofun) e, l.but b hp⟩, h.g⟩
def spPlain : Sp := fun vs H Q _ => ∃ (p c : Addr) (n ml most : Nat), vs = [.ref p, .int (ml : Int), .int (most : Int)] ∧ Pen H p c n ∧ n < 800000 ∧ 1 ≤ ml ∧ ml ≤ 4 ∧ 1 ≤ most ∧ most ≤ 100 ∧
  ∀ (t : Addr) (z : Str) (tb : List (List (Option Nat))) (ms : List (Option Bool)) (H' : Hp), But p H H' → Pen H' p c (n + 29 + most * (2 * ml + 1)) → H t = none → PlnAt p H' t z tb ms → z.length ≤ ml → tb.length ≤ most → Q (.ref t) H'
def spMachine (CM : Addr) (K : PySem.W.Frag) : Sp := fun vs H Q _ => ∃ (p t : Addr) (z : Str) (tb : List (List (Option Nat))) (ms : List (Option Bool)), vs = [.ref t] ∧ PlnAt p H t z tb ms ∧
  ∀ (i : MI) (H' : Hp), Same H H' → MIat K H' i → i.C = CM → i.rest = [] → i.z = z → i.tb = tb → i.ms = ms → Q (.ref i.x) H'
/-- with a state behind the others, to which all that was open leads -/
def deadT (z : Nat) (tb : List (List (Option Nat))) : List (List (Option Nat)) := tb.map (fun row => row.map fun o => some (o.getD tb.length)) ++ [List.replicate z (some tb.length)]
def spDead : Sp := fun vs H Q _ => ∃ (p r m : Addr) (z : Str) (bs : List Addr) (tb : List (List (Option Nat))) (ms : List (Option Bool)), vs = [.str z, .ref r, .ref m] ∧ LsAt p H r m bs tb ms ∧ TbG z tb ms ∧ tb.length < 100 ∧ (∃ o, H p = some o) ∧
  ∀ (t : Addr) (H' : Hp), Same H H' → PlnAt p H' t z (deadT z.length tb) (ms ++ [none]) → Q (.ref t) H'
theorem dead_g {z : Str} {tb : List (List (Option Nat))} {ms : List (Option Bool)} (g : TbG z tb ms) (few : tb.length < 100) : TbG z (deadT z.length tb) (ms ++ [none]) := by
  have ln : (deadT z.length tb).length = tb.length + 1 := by unfold deadT; rw [List.length_append, List.length_map]; rfl
  refine ⟨g.lz, by rw [ln]; omega, by rw [ln]; omega, by rw [ln, List.length_append, g.m]; rfl, fun r hr => ?_, fun r hr n hn => ?_⟩
  · rcases List.mem_append.mp hr with q | q
    · obtain ⟨r0, h0, rfl⟩ := List.mem_map.mp q
      rw [List.length_map]
      exact g.len r0 h0
    · rw [List.mem_singleton.mp q, List.length_replicate]
  · rw [ln]
    rcases List.mem_append.mp hr with q | q
    · obtain ⟨r0, h0, rfl⟩ := List.mem_map.mp q
      obtain ⟨o, ho, e⟩ := List.mem_map.mp hn
      cases o with
      | none => cases e; exact Nat.lt_succ_self _
      | some m => cases e; exact Nat.lt_succ_of_lt (g.lt r0 h0 m ho)
    · rw [List.mem_singleton.mp q] at hn
      have e := (List.mem_replicate.mp hn).2
      cases e
      exact Nat.lt_succ_self _
section
variable {P : Program} {w : World} {K : PySem.W.Frag} {mg : Str → Option Value} {base : Heap} {f : Addr} {fd : FuncData}
theorem ok_plain (F : Fun K "_law_plain" "_law_plain" s_law_plain f fd) (T : Txt K mg) (D_law_draw : Dn P w K mg base 1 "_law_draw" ["pen", "many"] spDraw) (D_law_letters : Dn P w K mg base 3 "_law_letters" ["pen", "most"] spLetters) (D_law_table : Dn P w K mg base 2 "_law_table" ["pen", "letters", "size", "is_full"] spTable) :
    FnOk P w K mg base CX0 4 f fd ["pen", "most_letters", "most"] spPlain := by
  refine F.ok sc_law_plain (fun vs H Q E h => ?_) (fun cdv A outer s H vs Q E hr h => ?_)
  · obtain ⟨p, c, n, ml, most, rfl, _⟩ := h
    rfl
  · obtain ⟨p, c, n, ml, most, rfl, hp, n1, m1, m2, m3, m4, k⟩ := h
    refine ⟨_, (pss_cons (ps_set (i := 3) sc_law_plain.nd rfl (Or.inl rfl) (pe_cl D_law_letters (hr.mono (by decide)) (pa_cons (pv 0) (pa_cons (pv 1) pa_nil))))
  (pss_cons (ps_asg (pe_cl D_law_table (hr.mono (by decide)) (pa_cons (pv 0) (pa_cons (pv 3) (pa_cons (pe_op op_add (pe_int) (pe_cl D_law_draw (hr.mono (by decide)) (pa_cons (pv 0) (pa_cons (pv 2) pa_nil)))) (pa_cons (pe_cmpR op_eq (pe_cl D_law_draw (hr.mono (by decide)) (pa_cons (pv 0) (pa_cons (pe_int) pa_nil))) (pe_int) (nomark _)) pa_nil))))) (pg_tup (by rfl) (pgs_cons (pg_name (i := 4) sc_law_plain.nd rfl (Or.inl rfl)) (pgs_cons (pg_name (i := 5) sc_law_plain.nd rfl (Or.inl rfl)) pgs_nil))))
  (pss_one (ps_ret (pe_tup (pa_cons (pv 3) (pa_cons (pv 4) (pa_cons (pv 5) pa_nil)))))))), ?_⟩
    refine ⟨_, rfl, _, rfl, p, c, n, ml, rfl, hp, by omega, by omega, by omega, fun z H3 bt3 hp3 lz => ?_⟩
    have lz : Ltrs z ml := lz
    have zl : z.length ≤ ml := lz.2.2.2
    refine ⟨_, rfl, _, rfl, _, rfl, _, rfl, p, c, _, most, rfl, hp3, by omega, by omega, by omega, fun d H5 d0 d1 bt5 hp5 => ⟨_, _, rfl, rfl, ?_⟩⟩
    obtain ⟨kd, rfl⟩ := Int.eq_ofNat_of_zero_le d0
    have size := Nat.mul_le_mul (show kd + 1 ≤ most by omega) (show 2 * z.length + 1 ≤ 2 * ml + 1 by omega)
    have size2 := Nat.mul_le_mul (show most ≤ 100 by omega) (show 2 * ml + 1 ≤ 9 by omega)
    refine ⟨_, rfl, p, c, _, 2, rfl, hp5, by omega, by decide, by decide, fun d2 H6 _ _ bt6 hp6 => ⟨rfl, ?_⟩⟩
    generalize decide (V.int d2 = V.int 0) = full
    refine ⟨p, c, _, z, kd + 1, full, by show [V.ref p, V.str z, V.int ((1 : Int) + (kd : Int)), V.bl full] = _; rw [show (1 : Int) + (kd : Int) = ((kd + 1 : Nat) : Int) by omega], hp6, by omega, by omega, by omega, by omega, fun t r m bs tb ms H7 bt7 hp7 ht0 et T7 lt lm => ?_⟩
    refine ⟨t, _, rfl, SqT.of et, rfl, _, _, rfl, _, _, rfl, rfl, ?_⟩
    have g : TbG z tb ms := ⟨⟨lz.1, lz.2.1, lz.2.2.1, by omega⟩, by omega, by omega, by omega, T7.len, fun r hr n hn => by rw [lt]; exact T7.lt r hr n hn⟩
    obtain ⟨kvs, pe6⟩ := hp6.at
    have L7 : LsAt p H7 r m bs tb ms := T7.ls ⟨_, pe6⟩
    refine ⟨_, rfl, _, rfl, _, rfl, by show 3 ≤ sizeLine; decide, fun t2 ht2 => ?_⟩
    have s8 := sm1 (o := .tup [.str z, .ref r, .ref m]) ht2
    have b : But p H H7 := ((bt3.trans bt5).trans bt6).trans bt7
    exact k t2 z tb ms _ (b.same s8) ((hp7.same s8).up (by omega)) (b.free hp7 ht2) ⟨⟨r, m, bs, upd_same, L7.same s8⟩, g⟩ zl (by omega)
theorem ok_machine {CL CP CT CM : Addr} (F : Fun K "_law_machine" "_law_machine" s_law_machine f fd) (T : Txt K mg) (mc : McC K CM) (N_Machine : CnD P w K mg base (L2.CX P w) 5 "Machine" CM ["self", "letters", "transitions", "marks"] (spMac K CL CP CT) []) :
    FnOk P w K mg base CX0 7 f fd ["plain"] (spMachine CM K) := by
  refine F.ok sc_law_machine (fun vs H Q E h => ?_) (fun cdv A outer s H vs Q E hr h => ?_)
  · obtain ⟨p, t, z, tb, ms, rfl, _⟩ := h
    rfl
  · obtain ⟨p, t, z, tb, ms, rfl, pl, k⟩ := h
    refine ⟨_, (pss_one (ps_ret (pe_mkD N_Machine (hr.mono (by decide)) passN (pa_cons (pe_ix ix_tup (pv 0) (pe_int) (fun _ _ => rfl)) (pa_cons (pe_ix ix_tup (pv 0) (pe_int) (fun _ _ => rfl)) (pa_cons (pe_ix ix_tup (pv 0) (pe_int) (fun _ _ => rfl)) pa_nil)))))), ?_⟩
    obtain ⟨r, m, bs, et, l⟩ := pl.ex
    refine ⟨_, rfl, t, _, 0, _, rfl, rfl, SqT.of et, rfl, _, rfl, t, _, 1, _, rfl, rfl, SqT.of et, rfl, _, rfl, t, _, 2, _, rfl, rfl, SqT.of et, rfl, fun x dx nx nd ne => ?_⟩
    refine mac_goes mc nx nd ne pl.g l.dn l.dm fun i H' ex ez etb ems eC er s at_ _ => ⟨rfl, ?_⟩
    subst ex
    exact k i H' s at_ eC er ez etb ems
theorem ok_dead (F : Fun K "_law_with_dead_end" "_law_with_dead_end" s_law_with_dead_end f fd) (T : Txt K mg) : FnOk P w K mg base CX0 1 f fd ["letters", "table", "own"] spDead := by
  refine F.ok sc_law_with_dead_end (fun vs H Q E h => ?_) (fun cdv A outer s H vs Q E hr h => ?_)
  · obtain ⟨p, r, m, z, bs, tb, ms, rfl, _⟩ := h
    rfl
  · obtain ⟨p, r, m, z, bs, tb, ms, rfl, l, g, few, hp, k⟩ := h
    refine ⟨_, (pss_cons (ps_set (i := 3) sc_law_with_dead_end.nd rfl (Or.inr rfl) (pe_callB call_len_seq (by rfl) T.z_len PySem.boot_len (pa_cons (pv 2) pa_nil)))
  (pss_cons (ps_setLc (i := 4) (own := [("row", 5)]) (g := gName 5) (tt := tYes) (by rfl) sc_law_with_dead_end.nd rfl rfl (sw_true rfl rfl rfl (by decide +kernel)) (pi_list (pv 1)) (blkOk_by (own := [("row", 5)]) (N := N_law_with_dead_end) (sc := defScope s_law_with_dead_end) (by decide +kernel)) (fun _ _ _ _ _ => (pg_name (i := 5) sc_law_with_dead_end.nd rfl (Or.inl rfl))) (fun _ _ _ _ _ => pts_nil) (fun _ _ _ _ _ => (pe_lc (own := [("target", 6)]) (g := gName 6) (tt := tYes) (by rfl) sc_law_with_dead_end.nd (show PI _ _ _ (iList K _) from pi_list (pv 5)) (blkOk_by (own := [("target", 6)]) (by kernel_rfl)) (fun _ _ _ _ _ => (pg_name (i := 6) sc_law_with_dead_end.nd rfl (Or.inl rfl))) (fun _ _ _ _ _ => pts_nil) (fun _ _ _ _ _ => (pe_ifExp (pt_cmpR op_isN (pv 6) (pe_non) (nomark _)) (pv 3) (pv 6))))))
  (pss_one (ps_ret (pe_tup (pa_cons (pv 0) (pa_cons (pe_op op_cat (pv 4) (pe_lst (pa_cons (pe_op op_rep (pe_lst (pa_cons (pv 3) pa_nil)) (pe_callB call_len_str (by rfl) T.z_len PySem.boot_len (pa_cons (pv 0) pa_nil))) pa_nil))) (pa_cons (pe_op op_cat (pv 2) (pe_lst (pa_cons (pe_non) pa_nil))) pa_nil)))))))), ?_⟩
    have lms : (ms.map mV).length = tb.length := by rw [List.length_map, g.m]
    refine ⟨_, rfl, m, _, rfl, .inl (SqL.of l.ma), ?_⟩
    rw [lms]
    refine ⟨_, rfl, r, rfl, ⟨_, SqL.of l.l⟩, fun D hD => ?_⟩
    refine lc_list (K := K) (a := r) (xs := bs.map V.ref) (fun j H' => ∃ cs, RowsK .lst H H' D ((tb.map (fun row => row.map fun o => some (o.getD tb.length))).take j) cs) ⟨[], RowsK.nil hD⟩ (fun j H' _ ⟨_, h⟩ => SqL.of (h.s _ _ l.l)) ?_ ?_
    · rintro j v H' hv ⟨cs, rk⟩
      obtain ⟨b, hb, rfl⟩ := Option.map_eq_some_iff.mp (show (bs[j]?).map V.ref = some v by rw [← List.getElem?_map]; exact hv)
      have jl := (List.getElem?_eq_some_iff.mp hb).1
      have jt : j < tb.length := by rw [← l.e]; exact jl
      have hr0 : tb[j]? = some (tb[j]'jt) := List.getElem?_eq_getElem _
      have eb := rk.s _ _ (l.r j b _ hb hr0)
      have rl := g.row (List.mem_of_getElem? hr0)
      generalize er : tb[j]'jt = row at hr0 eb rl
      refine ⟨rfl, _, rfl, b, rfl, ⟨_, SqL.of eb⟩, fun D2 hD2 => ?_⟩
      refine lc_list (K := K) (a := b) (xs := row.map oV) (fun i H3 => Same H' H3 ∧ H3 D2 = some (.lst (((row.take i).map fun o => (some (o.getD tb.length) : Option Nat)).map oV))) ⟨sm1 hD2, upd_same⟩ (fun i H3 _ q => SqL.of (q.1 _ _ eb)) ?_ ?_
      · rintro i x H3 hx ⟨s3, eD⟩
        rw [List.getElem?_map] at hx
        obtain ⟨o, ho, rfl⟩ := Option.map_eq_some_iff.mp hx
        have fin : ∃ acc, H3 D2 = some (.lst acc) ∧ acc.length < sizeLine ∧ (Same H' (upd H3 D2 (.lst (acc ++ [oV (some (o.getD tb.length))]))) ∧ (upd H3 D2 (.lst (acc ++ [oV (some (o.getD tb.length))]))) D2 = some (.lst (((row.take (i + 1)).map fun o => (some (o.getD tb.length) : Option Nat)).map oV))) := by
          refine ⟨_, eD, ?_, swr s3 hD2, ?_⟩
          · rw [List.length_map, List.length_map, List.length_take]
            exact bigS (by omega)
          · rw [upd_same, List.take_succ, ho, List.map_append, List.map_append]
            rfl
        refine ⟨rfl, _, rfl, rfl, _, rfl, ?_⟩
        cases o with
        | none => exact iteT ⟨_, rfl, fin⟩
        | some n => exact iteF ⟨_, rfl, fin⟩
      · rintro H3 ⟨s3, eD⟩
        rw [List.length_map, List.take_length] at eD
        have tk : (tb.map (fun row => row.map fun o => (some (o.getD tb.length) : Option Nat))).take (j + 1) = (tb.map (fun row => row.map fun o => some (o.getD tb.length))).take j ++ [row.map fun o => some (o.getD tb.length)] := by
          rw [List.take_succ, List.getElem?_map, hr0]
          rfl
        refine ⟨_, s3 _ _ rk.l, ?_, cs ++ [D2], ?_⟩
        · rw [List.length_map, rk.e, List.length_take]
          exact bigS (by omega)
        · rw [tk]
          exact rk.push hD hD2 s3 eD
    · rintro H' ⟨cs, rk⟩
      rw [List.length_map, l.e, List.take_of_length_le (by rw [List.length_map]; exact Nat.le_refl _)] at rk
      have lc : cs.length = tb.length := by rw [rk.e, List.length_map]
      have zl := g.lz.2.2.2
      refine ⟨_, rfl, _, rfl, _, rfl, by show 1 ≤ sizeLine; decide, fun q1 hq1 => ?_⟩
      refine ⟨_, rfl, z, rfl, by have := small1000 (n := z.length) (by omega); omega, q1, _, _, rfl, rfl, upd_same, by omega, by omega, by show 1 * _ ≤ _; rw [Int.toNat_natCast]; have := small1000 (n := z.length) (by omega); omega, fun q2 hq2 => ?_⟩
      refine ⟨by show 1 ≤ sizeLine; decide, fun q3 hq3 => ?_⟩
      have srep : (List.replicate ((z.length : Nat) : Int).toNat [V.int (tb.length : Nat)]).flatten = (List.replicate z.length (some tb.length)).map oV := by
        rw [Int.toNat_natCast, List.map_replicate, List.flatten_replicate_singleton]
        rfl
      have s1 := sm1 (o := .lst [V.int (tb.length : Nat)]) hq1
      have s2 := s1.trans (sm1 (o := .lst (List.replicate ((z.length : Nat) : Int).toNat [V.int (tb.length : Nat)]).flatten) hq2)
      have e2 : (upd (upd H' q1 (.lst [V.int (tb.length : Nat)])) q2 (.lst (List.replicate ((z.length : Nat) : Int).toNat [V.int (tb.length : Nat)]).flatten)) q2 = some (.lst ((List.replicate z.length (some tb.length)).map oV)) := by rw [upd_same, srep]
      have nq2 : H' q2 = none := There.of s1 _ hq2
      generalize upd (upd H' q1 (.lst [V.int (tb.length : Nat)])) q2 (.lst (List.replicate ((z.length : Nat) : Int).toNat [V.int (tb.length : Nat)]).flatten) = H2 at s2 e2 hq3 ⊢
      have s3 := s2.trans (sm1 (o := .lst [V.ref q2]) hq3)
      refine ⟨D, q3, _, _, rfl, rfl, s3 _ _ rk.l, upd_same, by rw [List.length_map, lc]; have := small1000 (n := tb.length) (by omega); show _ + 1 ≤ _; omega, fun q4 hq4 => ?_⟩
      have e23 := sm1 (o := .lst [V.ref q2]) hq3 _ _ e2
      have s4 := s3.trans (sm1 (o := .lst (cs.map V.ref ++ [V.ref q2])) hq4)
      have e4 : (upd (upd H2 q3 (.lst [V.ref q2])) q4 (.lst (cs.map V.ref ++ [V.ref q2]))) q4 = some (.lst (cs.map V.ref ++ [V.ref q2])) := upd_same
      have e24 := sm1 (o := .lst (cs.map V.ref ++ [V.ref q2])) hq4 _ _ e23
      have nq4 : H' q4 = none := There.of s3 _ hq4
      generalize upd (upd H2 q3 (.lst [V.ref q2])) q4 (.lst (cs.map V.ref ++ [V.ref q2])) = H4 at s4 e4 e24 ⊢
      refine ⟨_, rfl, by show 1 ≤ sizeLine; decide, fun q5 hq5 => ?_⟩
      have s5 := s4.trans (sm1 (o := .lst [V.non]) hq5)
      refine ⟨m, q5, _, _, rfl, rfl, s5 _ _ (rk.s _ _ l.ma), upd_same, by rw [List.length_map, g.m]; have := small1000 (n := tb.length) (by omega); show _ + 1 ≤ _; omega, fun q6 hq6 => ?_⟩
      have s6 := s5.trans (sm1 (o := .lst (ms.map mV ++ [V.non])) hq6)
      have nq6 : H' q6 = none := There.of s5 _ hq6
      have s46 := (sm1 (o := .lst [V.non]) hq5).trans (sm1 (o := .lst (ms.map mV ++ [V.non])) hq6)
      refine ⟨by show 3 ≤ sizeLine; decide, fun t ht => ?_⟩
      have s7 := sm1 (o := .tup [.str z, .ref q4, .ref q6]) ht
      obtain ⟨po, hp⟩ := hp
      have ne : ∀ {b : Addr}, H' b = none → b ≠ p := fun {b} n => (ne_of_none (rk.s _ _ hp) n).symm
      refine k t _ ((rk.s.trans s6).trans s7) ⟨⟨q4, q6, cs ++ [q2], upd_same, ?_, ?_, fun i b row b1 b2 => ?_, ?_, ne nq4, ne nq6, fun b hb => ?_⟩, dead_g g few⟩
      · refine s7 _ _ (s46 _ _ ?_)
        rw [e4, List.map_append]
        rfl
      · unfold deadT
        rw [List.length_append, List.length_append, lc, List.length_map]
        rfl
      · refine s7 _ _ (s46 _ _ ?_)
        unfold deadT at b2
        rcases grown b1 with ⟨lt, b1⟩ | ⟨rfl, rfl⟩
        · rw [List.getElem?_append_left (by rw [← rk.e]; exact lt)] at b2
          exact s4 _ _ (rk.r i b row b1 b2)
        · rw [rk.e, List.getElem?_append_right (Nat.le_refl _), Nat.sub_self] at b2
          cases b2
          exact e24
      · refine s7 _ _ ?_
        rw [upd_same, List.map_append]
        rfl
      · rcases List.mem_append.mp hb with q | q
        · exact (ne_of_none hp (rk.fr b q)).symm
        · rw [List.mem_singleton.mp q]
          exact ne nq2
end
end Wf
namespace Wf
open PySem PySem.Spec PyProof.Rows L2
/-! large numbers -/
def spLarge : Sp := fun vs H Q _ => ∃ (p c : Addr) (n : Nat), vs = [.ref p] ∧ Pen H p c n ∧ n < 900000 ∧ ∀ (x : Nat) (H' : Hp), x < 10 ^ 58 → But p H H' → Pen H' p c (n + 30) → Q (.int (x : Int)) H'
section
variable {P : Program} {w : World} {K : PySem.W.Frag} {mg : Str → Option Value} {base : Heap} {f : Addr} {fd : FuncData}
end
end Wf
namespace Wf
open PySem PySem.Spec PyProof.Rows L2
/-! plain tables of nine to twenty states, with a ring -/
abbrev s_law_wide : Stmt := top 62
abbrev N_law_wide : List Str := ["pen", "most_letters", "letters", "size", "rows", "marks", "state"]
theorem sc_law_wide : FnScope N_law_wide ["pen", "most_letters"] (defScope s_law_wide) := ⟨rfl, rfl, rfl, by decide +kernel, rfl, by decide +kernel, by decide +kernel⟩
def ringT (tb : List (List (Option Nat))) : List (List (Option Nat)) := (List.range tb.length).map fun s => some ((s + 1) % tb.length) :: (tb.getD s []).drop 1
theorem cut_one {x : V} {xs : List V} : cutV (x :: xs) (some 1) none = xs := by
  unfold cutV
  have e : HT.sIx (x :: xs).length 0 (some 1) = 1 := by
    have := HT.sIx_nat (x :: xs).length 0 1
    rw [show ((1 : Nat) : Int) = 1 from rfl] at this
    rw [this, List.length_cons]
    omega
  rw [e, HT.sIx_none]
  show (xs.take ((x :: xs).length - 1)) = xs
  rw [List.length_cons, Nat.add_sub_cancel, List.take_length]
theorem ring_g {z : Str} {tb : List (List (Option Nat))} {ms : List (Option Bool)} (g : TbG z tb ms) : TbG z (ringT tb) ms := by
  have ln : (ringT tb).length = tb.length := by unfold ringT; rw [List.length_map, List.length_range]
  have at_ : ∀ s, s < tb.length → tb.getD s [] ∈ tb := fun s hs => by
    rw [List.getD_eq_getElem?_getD, List.getElem?_eq_getElem hs]
    exact List.getElem_mem hs
  refine ⟨g.lz, by rw [ln]; exact g.pos, by rw [ln]; exact g.few, by rw [ln]; exact g.m, fun r hr => ?_, fun r hr n hn => ?_⟩
  · obtain ⟨s, hs, rfl⟩ := List.mem_map.mp hr
    have l := g.len _ (at_ s (List.mem_range.mp hs))
    have z1 := g.lz.2.2.1
    rw [List.length_cons, List.length_drop]
    omega
  · rw [ln]
    obtain ⟨s, hs, rfl⟩ := List.mem_map.mp hr
    rcases List.mem_cons.mp hn with e | m
    · cases e
      exact Nat.mod_lt _ g.pos
    · exact g.lt _ (at_ s (List.mem_range.mp hs)) n (List.mem_of_mem_drop m)
def spWide : Sp := fun vs H Q _ => ∃ (p c : Addr) (n ml : Nat), vs = [.ref p, .int (ml : Int)] ∧ Pen H p c n ∧ n < 800000 ∧ 1 ≤ ml ∧ ml ≤ 4 ∧
  ∀ (t : Addr) (z : Str) (tb : List (List (Option Nat))) (ms : List (Option Bool)) (H' : Hp), But p H H' → Pen H' p c (n + 300) → H t = none → PlnAt p H' t z tb ms → z.length ≤ ml → tb.length ≤ 20 → Q (.ref t) H'
section
variable {P : Program} {w : World} {K : PySem.W.Frag} {mg : Str → Option Value} {base : Heap} {f : Addr} {fd : FuncData}
theorem ok_wide (F : Fun K "_law_wide" "_law_wide" s_law_wide f fd) (T : Txt K mg) (D_law_draw : Dn P w K mg base 1 "_law_draw" ["pen", "many"] spDraw) (D_law_letters : Dn P w K mg base 3 "_law_letters" ["pen", "most"] spLetters) (D_law_table : Dn P w K mg base 2 "_law_table" ["pen", "letters", "size", "is_full"] spTable) :
    FnOk P w K mg base CX0 4 f fd ["pen", "most_letters"] spWide := by
  refine F.ok sc_law_wide (fun vs H Q E h => ?_) (fun cdv A outer s H vs Q E hr h => ?_)
  · obtain ⟨p, c, n, ml, rfl, _⟩ := h
    rfl
  · obtain ⟨p, c, n, ml, rfl, hp, n1, m1, m2, k⟩ := h
    refine ⟨_, (pss_cons (ps_asg (pe_tup (pa_cons (pe_cl D_law_letters (hr.mono (by decide)) (pa_cons (pv 0) (pa_cons (pv 1) pa_nil))) (pa_cons (pe_op op_add (pe_int) (pe_cl D_law_draw (hr.mono (by decide)) (pa_cons (pv 0) (pa_cons (pe_int) pa_nil)))) pa_nil))) (pg_tup (by rfl) (pgs_cons (pg_name (i := 2) sc_law_wide.nd rfl (Or.inl rfl)) (pgs_cons (pg_name (i := 3) sc_law_wide.nd rfl (Or.inr rfl)) pgs_nil))))
  (pss_cons (ps_asg (pe_cl D_law_table (hr.mono (by decide)) (pa_cons (pv 0) (pa_cons (pv 2) (pa_cons (pv 3) (pa_cons (pe_cmpR op_eq (pe_cl D_law_draw (hr.mono (by decide)) (pa_cons (pv 0) (pa_cons (pe_int) pa_nil))) (pe_int) (nomark _)) pa_nil))))) (pg_tup (by rfl) (pgs_cons (pg_name (i := 4) sc_law_wide.nd rfl (Or.inr rfl)) (pgs_cons (pg_name (i := 5) sc_law_wide.nd rfl (Or.inl rfl)) pgs_nil))))
  (pss_cons (ps_set (i := 4) sc_law_wide.nd rfl (Or.inr rfl) (pe_lc (own := [("state", 6)]) (g := gName 6) (tt := tYes) (by rfl) sc_law_wide.nd (pi_range1 (by rfl) T.z_range (pa_cons (pv 3) pa_nil)) (blkOk_by (own := [("state", 6)]) (N := N_law_wide) (sc := defScope s_law_wide) (by decide +kernel)) (fun _ _ _ _ _ => (pg_name (i := 6) sc_law_wide.nd rfl (Or.inl rfl))) (fun _ _ _ _ _ => pts_nil) (fun _ _ _ _ _ => (pe_op op_cat (pe_lst (pa_cons (pe_op op_mod (pe_op op_add (pv 6) (pe_int)) (pv 3)) pa_nil)) (pe_slice (show SlR _ (rSlL K) from sl_list) (pe_ix (show IxR _ (rIxL K) from ix_list) (pv 4) (pv 6) (fun _ _ => rfl)) (po_some (pe_int)) po_none)))))
  (pss_one (ps_ret (pe_tup (pa_cons (pv 2) (pa_cons (pv 4) (pa_cons (pv 5) pa_nil))))))))), ?_⟩
    refine ⟨_, rfl, _, rfl, p, c, n, ml, rfl, hp, by omega, by omega, by omega, fun z H3 bt3 hp3 lz => ?_⟩
    have lz : Ltrs z ml := lz
    have zl : z.length ≤ ml := lz.2.2.2
    refine ⟨_, rfl, p, c, _, 12, rfl, hp3, by omega, by omega, by omega, fun d H5 d0 d1 bt5 hp5 => ⟨_, _, rfl, rfl, ?_⟩⟩
    obtain ⟨kd, rfl⟩ := Int.eq_ofNat_of_zero_le d0
    refine ⟨by show 2 ≤ sizeLine; decide, fun q hq => ?_⟩
    have s6 := sm1 (o := .tup [.str z, .int ((9 : Int) + (kd : Int))]) hq
    have e6 : (upd H5 q (.tup [.str z, .int ((9 : Int) + (kd : Int))])) q = some (.tup [.str z, .int ((9 : Int) + (kd : Int))]) := upd_same
    refine ⟨q, _, rfl, SqT.of e6, rfl, _, _, rfl, _, _, rfl, rfl, ?_⟩
    generalize upd H5 q (.tup [.str z, .int ((9 : Int) + (kd : Int))]) = H6 at s6 ⊢
    have hp6 := hp5.same s6
    clear e6
    refine ⟨_, rfl, _, rfl, _, rfl, _, rfl, p, c, _, 2, rfl, hp6, by omega, by decide, by decide, fun d2 H7 _ _ bt7 hp7 => ⟨rfl, ?_⟩⟩
    generalize decide (V.int d2 = V.int 0) = full
    have size := Nat.mul_le_mul (show kd + 9 ≤ 20 by omega) (show 2 * z.length + 1 ≤ 9 by omega)
    refine ⟨p, c, _, z, kd + 9, full, by show [V.ref p, V.str z, V.int ((9 : Int) + (kd : Int)), V.bl full] = _; rw [show (9 : Int) + (kd : Int) = ((kd + 9 : Nat) : Int) by omega], hp7, by omega, by omega, by omega, by omega, fun t r m bs tb ms H8 bt8 hp8 ht0 et T8 lt lm => ?_⟩
    refine ⟨t, _, rfl, SqT.of et, rfl, _, _, rfl, _, _, rfl, rfl, ?_⟩
    have g : TbG z tb ms := ⟨⟨lz.1, lz.2.1, lz.2.2.1, by omega⟩, by omega, by omega, by omega, T8.len, fun r hr n hn => by rw [lt]; exact T8.lt r hr n hn⟩
    obtain ⟨kvs, pe7⟩ := hp7.at
    have L8 : LsAt p H8 r m bs tb ms := T8.ls ⟨_, pe7⟩
    refine ⟨_, rfl, ?_⟩
    refine ⟨_, rfl, by omega, by omega, fun D hD => ?_⟩
    have lt : tb.length = kd + 9 := lt
    rw [show ((9 : Int) + (kd : Int)).toNat = kd + 9 from by omega]
    refine lc_range (lo := 0) (n := kd + 9) (fun j H' => ∃ cs, RowsK .lst H8 H' D ((List.range j).map fun s => some ((s + 1) % tb.length) :: (tb.getD s []).drop 1) cs) ⟨[], RowsK.nil hD⟩ ?_ ?_
    · rintro j H9 hj ⟨cs, rk⟩
      refine ⟨rfl, _, rfl, _, _, rfl, rfl, _, rfl, _, _, rfl, rfl, by omega, by show 1 ≤ sizeLine; decide, fun q1 hq1 => ?_⟩
      have s10 := sm1 (o := .lst [.int (((0 : Int) + (j : Int) + 1) % ((9 : Int) + (kd : Int)))]) hq1
      have jt : j < tb.length := by omega
      have hr0 : tb[j]? = some (tb[j]'jt) := List.getElem?_eq_getElem _
      have jb : j < bs.length := by rw [L8.e]; exact jt
      have hb0 : bs[j]? = some (bs[j]'jb) := List.getElem?_eq_getElem _
      have gd : tb.getD j [] = tb[j]'jt := by rw [List.getD_eq_getElem?_getD, hr0]; rfl
      have eb := rk.s _ _ (L8.r j _ _ hb0 hr0)
      have rl := g.len _ (List.mem_of_getElem? hr0)
      have z1 := lz.2.2.1
      generalize bs[j]'jb = b at hb0 eb
      generalize tb[j]'jt = row at hr0 eb rl gd
      obtain ⟨o, row2, rfl⟩ : ∃ o row2, row = o :: row2 := by
        cases row with
        | nil => rw [← rl] at z1; exact absurd z1 (by decide)
        | cons o r => exact ⟨o, r, rfl⟩
      have e10 : (upd H9 q1 (.lst [.int (((0 : Int) + (j : Int) + 1) % ((9 : Int) + (kd : Int)))])) q1 = some (.lst [oV (some ((j + 1) % tb.length))]) := by
        rw [upd_same, lt]
        show some (HO.lst [V.int _]) = some (HO.lst [V.int _])
        congr 3
        rw [show (0 : Int) + (j : Int) + 1 = ((j + 1 : Nat) : Int) from by omega, show (9 : Int) + (kd : Int) = ((kd + 9 : Nat) : Int) from by omega]
        rfl
      generalize upd H9 q1 (.lst [.int (((0 : Int) + (j : Int) + 1) % ((9 : Int) + (kd : Int)))]) = H10 at s10 e10 ⊢
      refine ⟨_, rfl, _, rfl, r, _, (j : Int), V.ref b, rfl, by rw [Int.zero_add], SqL.of (s10 _ _ (rk.s _ _ L8.l)), atI_nat (by rw [List.getElem?_map, hb0]; rfl), _, rfl, b, _, rfl, SqL.of (s10 _ _ eb), fun q2 hq2 => ?_⟩
      rw [List.map_cons, cut_one]
      have s11 := s10.trans (sm1 (o := .lst (row2.map oV)) hq2)
      have e11 : (upd H10 q2 (.lst (row2.map oV))) q2 = some (.lst (row2.map oV)) := upd_same
      have e21 := sm1 (o := .lst (row2.map oV)) hq2 _ _ e10
      generalize upd H10 q2 (.lst (row2.map oV)) = H11 at s11 e11 e21 ⊢
      have rl2 : row2.length + 1 = z.length := rl
      refine ⟨q1, q2, _, _, rfl, rfl, e21, e11, by rw [List.length_map]; show 1 + _ ≤ _; rw [sizeLine_eq]; omega, fun q3 hq3 => ?_⟩
      have s12 := s11.trans (sm1 (o := .lst ([oV (some ((j + 1) % tb.length))] ++ row2.map oV)) hq3)
      have e12 : (upd H11 q3 (.lst ([oV (some ((j + 1) % tb.length))] ++ row2.map oV))) q3 = some (.lst ((some ((j + 1) % tb.length) :: row2).map oV)) := upd_same
      have nq3 := There.of s11 _ hq3
      generalize upd H11 q3 (.lst ([oV (some ((j + 1) % tb.length))] ++ row2.map oV)) = H12 at s12 e12 ⊢
      refine ⟨_, s12 _ _ rk.l, by rw [List.length_map, rk.e, List.length_map, List.length_range]; exact bigS (by omega), cs ++ [q3], ?_⟩
      rw [List.range_succ, List.map_append]
      have e0 : ([j].map fun s => (some ((s + 1) % tb.length) :: (tb.getD s []).drop 1 : List (Option Nat))) = [some ((j + 1) % tb.length) :: row2] := by
        show [some ((j + 1) % tb.length) :: (tb.getD j []).drop 1] = _
        rw [gd]
        rfl
      rw [e0]
      exact rk.push hD nq3 s12 e12
    · rintro H9 ⟨cs, rk⟩
      have er : ((List.range (kd + 9)).map fun s => (some ((s + 1) % tb.length) :: (tb.getD s []).drop 1 : List (Option Nat))) = ringT tb := by
        unfold ringT
        rw [lt]
      rw [er] at rk
      refine ⟨_, rfl, _, rfl, _, rfl, by show 3 ≤ sizeLine; decide, fun t2 ht2 => ?_⟩
      have s10 := sm1 (o := .tup [.str z, .ref D, .ref m]) ht2
      have b : But p H H9 := (((((bt3.trans bt5).same s6).trans bt7).trans bt8).same rk.s)
      have hp9 := hp8.same rk.s
      have np : ∀ {x : Addr}, H8 x = none → x ≠ p := fun {x} n => by
        obtain ⟨kvs, e⟩ := hp8.at
        exact (ne_of_none e n).symm
      refine k t2 z (ringT tb) ms _ (b.same s10) ((hp9.same s10).up (by omega)) (b.free hp9 ht2) ⟨⟨D, m, cs, upd_same, ?_⟩, ring_g g⟩ zl (by show (List.map _ (List.range tb.length)).length ≤ 20; rw [List.length_map, List.length_range]; omega)
      exact ⟨s10 _ _ rk.l, rk.e, fun i b row e1 e2 => s10 _ _ (rk.r i b row e1 e2), s10 _ _ (rk.s _ _ L8.ma), np hD, L8.mk', fun b hb => np (rk.fr b hb)⟩
end
end Wf
set_option maxHeartbeats 40000000
namespace Wf
open PySem PySem.Spec PyProof.Rows L2
/-! twins: states copied, in another order, perhaps a dead end behind them -/
abbrev s_law_twin : Stmt := top 59
abbrev N_law_twin : List Str := ["pen", "plain", "letters", "rows", "marks", "size", "copies", "k", "table", "state", "row", "target", "some", "at", "own"]
theorem sc_law_twin : FnScope N_law_twin ["pen", "plain"] (defScope s_law_twin) := ⟨rfl, rfl, rfl, by decide +kernel, rfl, by decide +kernel, by decide +kernel⟩
/-- every state has a copy, the first is one of 0 -/
structure Cps (L : Nat) (cp : List Nat) : Prop where
  z : cp[0]? = some 0
  lt : ∀ s ∈ cp, s < L
  all : ∀ s, s < L → s ∈ cp
/-- r2 leads to copies of where r leads -/
structure RowC (cp : List Nat) (r r2 : List (Option Nat)) : Prop where
  len : r2.length = r.length
  map : ∀ k, (r2.getD k none).map (fun a => cp.getD a 0) = r.getD k none
  lt : ∀ a, some a ∈ r2 → a < cp.length
structure TabC (cp : List Nat) (tb tb2 : List (List (Option Nat))) : Prop where
  len : tb2.length = cp.length
  row : ∀ j, j < cp.length → RowC cp (tb.getD (cp.getD j 0) []) (tb2.getD j [])
def ownC (cp : List Nat) (ms : List (Option Bool)) : List (Option Bool) := cp.map fun s => ms.getD s none
section
variable {zs cp : List Nat} {tb tb2 : List (List (Option Nat))} {ms : List (Option Bool)}
theorem mem_getD {r : List (Option Nat)} {k a : Nat} (h : r.getD k none = some a) : some a ∈ r := by
  rw [List.getD_eq_getElem?_getD] at h
  cases e : r[k]? with
  | none => rw [e] at h; cases h
  | some o =>
    rw [e] at h
    have h : o = some a := h
    rw [← h]
    exact List.mem_of_getElem? e
theorem led_twin (T : TabC cp tb tb2) : ∀ (cs : List Nat) (s : Option Nat), (∀ a, s = some a → a < cp.length) → (∀ a, ledTo zs tb2 s cs = some a → a < cp.length) ∧ (ledTo zs tb2 s cs).map (fun a => cp.getD a 0) = ledTo zs tb (s.map fun a => cp.getD a 0) cs
  | [], s, h => ⟨h, rfl⟩
  | c :: cs, none, _ => by
    have e : ledTo zs tb2 none (c :: cs) = none := led_none _
    refine ⟨fun a q => ?_, ?_⟩
    · rw [e] at q; cases q
    · rw [e]; exact (led_none _).symm
  | c :: cs, some j, h => by
    have R := T.row j (h j rfl)
    have st : ∀ a, (tb2.getD j []).getD (zs.idxOf c) none = some a → a < cp.length := fun a e => R.lt a (mem_getD e)
    have ih := led_twin T cs ((tb2.getD j []).getD (zs.idxOf c) none) st
    refine ⟨ih.1, ih.2.trans ?_⟩
    rw [R.map]
    rfl
theorem mark_own {s : Option Nat} (h : ∀ a, s = some a → a < cp.length) : markAt (ownC cp ms) s = markAt ms (s.map fun a => cp.getD a 0) := by
  cases s with
  | none => rfl
  | some a =>
    show (ownC cp ms).getD a none = ms.getD (cp.getD a 0) none
    unfold ownC
    have l := h a rfl
    rw [List.getD_eq_getElem?_getD, List.getElem?_map, List.getElem?_eq_getElem l, List.getD_eq_getElem?_getD (l := cp), List.getElem?_eq_getElem l]
    rfl
/-- answers are the same -/
theorem twin_same {L : Nat} (C : Cps L cp) (T : TabC cp tb tb2) (cs : List Nat) : markAt (ownC cp ms) (ledTo zs tb2 (some 0) cs) = markAt ms (ledTo zs tb (some 0) cs) := by
  have l0 : 0 < cp.length := (List.getElem?_eq_some_iff.mp C.z).1
  obtain ⟨h1, h2⟩ := led_twin (zs := zs) T cs (some 0) fun a e => by cases e; exact l0
  rw [mark_own h1, h2]
  have e : cp.getD 0 0 = 0 := by rw [List.getD_eq_getElem?_getD, C.z]; rfl
  show markAt ms (ledTo zs tb (some (cp.getD 0 0)) cs) = _
  rw [e]
/-- with a dead end behind -/
theorem led_dead {zl : Nat} (hz : zs.length = zl) (ok : TbOk zl tb) : ∀ (cs : List Nat) (s : Option Nat), (∀ c ∈ cs, c ∈ zs) → (∀ a, s = some a → a < tb.length) → ledTo zs (deadT zl tb) (some (s.getD tb.length)) cs = some ((ledTo zs tb s cs).getD tb.length)
  | [], s, _, _ => rfl
  | c :: cs, s, h, hs => by
    have ix : zs.idxOf c < zl := by rw [← hz]; exact List.idxOf_lt_length_of_mem (h c List.mem_cons_self)
    have hc : ∀ d ∈ cs, d ∈ zs := fun d hd => h d (List.mem_cons_of_mem _ hd)
    have lm : (tb.map fun row => row.map fun o => (some (o.getD tb.length) : Option Nat)).length = tb.length := List.length_map _
    cases s with
    | none =>
      have e1 : ledTo zs (deadT zl tb) (some tb.length) [c] = some tb.length := by
        have e0 : (deadT zl tb).getD tb.length [] = List.replicate zl (some tb.length) := by
          unfold deadT
          rw [List.getD_eq_getElem?_getD, List.getElem?_append_right (by rw [lm]; exact Nat.le_refl _), lm, Nat.sub_self]
          rfl
        show ((deadT zl tb).getD tb.length []).getD (zs.idxOf c) none = _
        rw [e0, List.getD_eq_getElem?_getD, List.getElem?_replicate, if_pos ix]
        rfl
      show ledTo zs (deadT zl tb) (ledTo zs (deadT zl tb) (some tb.length) [c]) cs = _
      rw [e1]
      have ih := led_dead hz ok cs none hc nofun
      rw [led_none] at ih ⊢
      exact ih
    | some a =>
      have la := hs a rfl
      have e1 : ledTo zs (deadT zl tb) (some a) [c] = some ((ledTo zs tb (some a) [c]).getD tb.length) := by
        show ((deadT zl tb).getD a []).getD (zs.idxOf c) none = some (((tb.getD a []).getD (zs.idxOf c) none).getD tb.length)
        have hrow : tb[a]? = some (tb[a]'la) := List.getElem?_eq_getElem _
        have xl : zs.idxOf c < (tb[a]'la).length := by rw [ok.len _ (List.getElem_mem la)]; exact ix
        have e0 : (deadT zl tb).getD a [] = (tb[a]'la).map fun o => (some (o.getD tb.length) : Option Nat) := by
          unfold deadT
          rw [List.getD_eq_getElem?_getD, List.getElem?_append_left (by rw [lm]; exact la), List.getElem?_map, hrow]
          rfl
        have e2 : tb.getD a [] = tb[a]'la := by rw [List.getD_eq_getElem?_getD, hrow]; rfl
        rw [e0, e2, List.getD_eq_getElem?_getD, List.getElem?_map, List.getD_eq_getElem?_getD (l := tb[a]'la), List.getElem?_eq_getElem xl]
        rfl
      show ledTo zs (deadT zl tb) (ledTo zs (deadT zl tb) (some a) [c]) cs = some ((ledTo zs tb (ledTo zs tb (some a) [c]) cs).getD tb.length)
      rw [e1]
      exact led_dead hz ok cs _ hc (led_lt (zs := zs) ok [c] (some a) hs)
theorem mark_dead {s : Option Nat} (hm : ms.length = tb.length) (h : ∀ a, s = some a → a < tb.length) : markAt (ms ++ [none]) (some (s.getD tb.length)) = markAt ms s := by
  cases s with
  | none =>
    show (ms ++ [none]).getD tb.length none = none
    rw [← hm, List.getD_eq_getElem?_getD, List.getElem?_append_right (Nat.le_refl _), Nat.sub_self]
    rfl
  | some a =>
    have la := h a rfl
    show (ms ++ [none]).getD a none = ms.getD a none
    rw [List.getD_eq_getElem?_getD, List.getElem?_append_left (by omega), List.getD_eq_getElem?_getD]
end
/-- rows in a new list, while the pen writes -/
structure RowsP (p : Addr) (H H' : Hp) (n : Addr) (tb : List (List (Option Nat))) (bs : List Addr) : Prop where
  s : But p H H'
  l : H' n = some (.lst (bs.map V.ref))
  e : bs.length = tb.length
  r : ∀ (i : Nat) (b : Addr) (row : List (Option Nat)), bs[i]? = some b → tb[i]? = some row → H' b = some (.lst (row.map oV))
  ne : ∀ b ∈ bs, b ≠ n
  fr : ∀ b ∈ bs, H b = none
theorem RowsP.nil {p : Addr} {H : Hp} {n : Addr} (h : H n = none) : RowsP p H (upd H n (.lst [])) n [] [] := ⟨But.of (sm1 h), upd_same, rfl, (fun i b row e => by cases e), (fun b hb => absurd hb List.not_mem_nil), fun b hb => absurd hb List.not_mem_nil⟩
theorem RowsP.push {p c : Addr} {k : Nat} {H H' H3 : Hp} {n b : Addr} {tb : List (List (Option Nat))} {row : List (Option Nat)} {bs : List Addr} (rk : RowsP p H H' n tb bs) (hp : Pen H' p c k) (hn : H n = none) (hb : H' b = none) (s3 : But p H' H3) (eb : H3 b = some (.lst (row.map oV))) :
    RowsP p H (upd H3 n (.lst (bs.map V.ref ++ [.ref b]))) n (tb ++ [row]) (bs ++ [b]) := by
  have nb : n ≠ b := ne_of_none rk.l hb
  refine ⟨(rk.s.trans s3).new hn, by rw [upd_same, List.map_append]; rfl, by rw [List.length_append, List.length_append, rk.e]; rfl, fun m c rw' e1 e2 => ?_, fun c hc => ?_, fun c hc => ?_⟩
  · rcases grown e1 with ⟨lt, e1⟩ | ⟨rfl, rfl⟩
    · rw [List.getElem?_append_left (by rw [← rk.e]; exact lt)] at e2
      have e := rk.r m c rw' e1 e2
      exact (upd_ne (rk.ne c (List.mem_of_getElem? e1))).trans (s3 _ _ (pen_ne hp e nofun) e)
    · rw [rk.e, List.getElem?_append_right (Nat.le_refl _), Nat.sub_self] at e2
      cases e2
      exact (upd_ne nb.symm).trans eb
  · rcases List.mem_append.mp hc with q | q
    · exact rk.ne c q
    · rw [List.mem_singleton.mp q]
      exact nb.symm
  · rcases List.mem_append.mp hc with q | q
    · exact rk.fr c q
    · rw [List.mem_singleton.mp q]
      exact rk.s.free hp hb
theorem rg1 {L : Nat} : rgV 1 (L : Nat) = ((List.range (L - 1)).map (· + 1)).map fun n => V.int (n : Nat) := by
  unfold rgV
  rw [show ((L : Int) - 1).toNat = L - 1 from by omega, List.map_map]
  refine List.map_congr_left fun i _ => ?_
  show V.int (1 + (i : Int)) = V.int ((i + 1 : Nat) : Int)
  rw [show (1 : Int) + (i : Int) = ((i + 1 : Nat) : Int) from by omega]
def spTwin : Sp := fun vs H Q _ => ∃ (p c : Addr) (n : Nat) (t : Addr) (z : Str) (tb : List (List (Option Nat))) (ms : List (Option Bool)), vs = [.ref p, .ref t] ∧ Pen H p c n ∧ n ≤ 800000 ∧ PlnAt p H t z tb ms ∧ tb.length ≤ 60 ∧
  ∀ (t2 : Addr) (tb2 : List (List (Option Nat))) (ms2 : List (Option Bool)) (H' : Hp), But p H H' → Pen H' p c (n + 400) → PlnAt p H' t2 z tb2 ms2 → tb2.length ≤ tb.length + 3 →
    (∀ cs, (∀ ch ∈ cs, ch ∈ z.cps.toList) → markAt ms2 (ledTo z.cps.toList tb2 (some 0) cs) = markAt ms (ledTo z.cps.toList tb (some 0) cs)) → Q (.ref t2) H'
section
variable {P : Program} {w : World} {K : PySem.W.Frag} {mg : Str → Option Value} {base : Heap} {f : Addr} {fd : FuncData}
theorem ok_twin (F : Fun K "_law_twin" "_law_twin" s_law_twin f fd) (T : Txt K mg) (D_law_draw : Dn P w K mg base 1 "_law_draw" ["pen", "many"] spDraw) (D_law_pick : Dn P w K mg base 2 "_law_pick" ["pen", "some"] (spPick K)) (D_law_shuffled : Dn P w K mg base 2 "_law_shuffled" ["pen", "some"] (spShuffled K))
    (D_law_with_dead_end : Dn P w K mg base 1 "_law_with_dead_end" ["letters", "table", "own"] spDead) : FnOk P w K mg base CX0 3 f fd ["pen", "plain"] spTwin := by
  refine F.ok sc_law_twin (fun vs H Q E h => ?_) (fun cdv A outer s H vs Q E hr h => ?_)
  · obtain ⟨p, c, n, t, z, tb, ms, rfl, _⟩ := h
    rfl
  · obtain ⟨p, c, n, t, z, tb, ms, rfl, hp, n1, pl, few, k⟩ := h
    refine ⟨_, (pss_cons (ps_asg (pv 1) (pg_tup (by rfl) (pgs_cons (pg_name (i := 2) sc_law_twin.nd rfl (Or.inl rfl)) (pgs_cons (pg_name (i := 3) sc_law_twin.nd rfl (Or.inl rfl)) (pgs_cons (pg_name (i := 4) sc_law_twin.nd rfl (Or.inr rfl)) pgs_nil)))))
  (pss_cons (ps_set (i := 5) sc_law_twin.nd rfl (Or.inr rfl) (pe_callB call_len_seq (by rfl) T.z_len PySem.boot_len (pa_cons (pv 4) pa_nil)))
  (pss_cons (ps_set (i := 6) sc_law_twin.nd rfl (Or.inr rfl) (pe_op op_cat (pe_lst (pa_cons (pe_int) pa_nil)) (pe_cl D_law_shuffled (hr.mono (by decide)) (pa_cons (pv 0) (pa_cons (pe_op op_cat (pe_listRg rfl (by rfl) T.z_list (prg_2 (by rfl) T.z_range (pe_int) (pv 5))) (pe_lc (own := [("k", 7)]) (g := gName 7) (tt := tYes) (by rfl) sc_law_twin.nd (pi_range1 (by rfl) T.z_range (pa_cons (pe_cl D_law_draw (hr.mono (by decide)) (pa_cons (pv 0) (pa_cons (pe_int) pa_nil))) pa_nil)) (blkOk_by (own := [("k", 7)]) (N := N_law_twin) (sc := defScope s_law_twin) (by decide +kernel)) (fun _ _ _ _ _ => (pg_name (i := 7) sc_law_twin.nd rfl (Or.inl rfl))) (fun _ _ _ _ _ => pts_nil) (fun _ _ _ _ _ => (pe_cl D_law_draw (hr.mono (by decide)) (pa_cons (pv 0) (pa_cons (pv 5) pa_nil)))))) pa_nil)))))
  (pss_cons (ps_set (i := 8) sc_law_twin.nd rfl (Or.inl rfl) (pe_lst pa_nil))
  (pss_cons (ps_for PassesOwn.never rfl (pi_list (pv 6)) (pg_name (i := 9) sc_law_twin.nd rfl (Or.inl rfl))
   (pss_cons (ps_set (i := 10) sc_law_twin.nd rfl (Or.inl rfl) (pe_lst pa_nil))
  (pss_cons (ps_for PassesOwn.never rfl (pi_list (pe_ix ix_list (pv 3) (pv 9) (fun _ _ => rfl))) (pg_name (i := 11) sc_law_twin.nd rfl (Or.inr rfl))
   (pss_cons (ps_setLc (i := 12) (own := [("at", 13)]) (g := gName 13) (by rfl) sc_law_twin.nd rfl rfl (sw_true rfl rfl rfl (by decide +kernel)) (pi_range1 (by rfl) T.z_range (pa_cons (pe_callB call_len_seq (by rfl) T.z_len PySem.boot_len (pa_cons (pv 6) pa_nil)) pa_nil)) (blkOk_by (own := [("at", 13)]) (N := N_law_twin) (sc := defScope s_law_twin) (by decide +kernel)) (fun _ _ _ _ _ => (pg_name (i := 13) sc_law_twin.nd rfl (Or.inl rfl))) (fun _ _ _ _ _ => (pts_one (pt_cmpR op_eq (pe_ix (show IxR _ (rIxL K) from ix_list) (pv 6) (pv 13) (fun _ _ => rfl)) (pv 11) (nomark _)))) (fun _ _ _ _ _ => (pv 13)))
  (pss_one (ps_expr (pe_bm PySem.F.plainAttrs_list PySem.F.slot_list_append PySem.F.type_list_append mt_append (pv 10) (pa_cons (pe_ifExp (pt_cmpR op_isN (pv 11) (pe_non) (nomark _)) (pe_non) (pe_cl D_law_pick (hr.mono (by decide)) (pa_cons (pv 0) (pa_cons (pv 12) pa_nil)))) pa_nil))))))
  (pss_one (ps_expr (pe_bm PySem.F.plainAttrs_list PySem.F.slot_list_append PySem.F.type_list_append mt_append (pv 8) (pa_cons (pv 10) pa_nil)))))))
  (pss_cons (ps_setLc (i := 14) (own := [("state", 9)]) (g := gName 9) (tt := tYes) (by rfl) sc_law_twin.nd rfl rfl (sw_true rfl rfl rfl (by decide +kernel)) (pi_list (pv 6)) (blkOk_by (own := [("state", 9)]) (N := N_law_twin) (sc := defScope s_law_twin) (by decide +kernel)) (fun _ _ _ _ _ => (pg_name (i := 9) sc_law_twin.nd rfl (Or.inl rfl))) (fun _ _ _ _ _ => pts_nil) (fun _ _ _ _ _ => (pe_ix (show IxR _ (rIxL K) from ix_list) (pv 4) (pv 9) (fun _ _ => rfl))))
  (pss_cons (ps_if (pt_cmpR op_eq (pe_cl D_law_draw (hr.mono (by decide)) (pa_cons (pv 0) (pa_cons (pe_int) pa_nil))) (pe_int) (nomark _)) (pss_one (ps_ret (pe_tup (pa_cons (pv 2) (pa_cons (pv 8) (pa_cons (pv 14) pa_nil)))))) pss_nil)
  (pss_one (ps_ret (pe_cl D_law_with_dead_end (hr.mono (by decide)) (pa_cons (pv 2) (pa_cons (pv 8) (pa_cons (pv 14) pa_nil))))))))))))), ?_⟩
    obtain ⟨r, m, bs0, et, l⟩ := pl.ex
    have g := pl.g
    have zl := g.lz.2.2.2
    have pos := g.pos
    have lm : (ms.map mV).length = tb.length := by rw [List.length_map, g.m]
    refine ⟨_, rfl, t, _, rfl, SqT.of et, rfl, _, _, rfl, _, _, rfl, _, _, rfl, rfl, ?_⟩
    refine ⟨_, rfl, m, _, rfl, .inl (SqL.of l.ma), ?_⟩
    rw [lm]
    -- copies
    refine ⟨by show 1 ≤ sizeLine; decide, fun q0 hq0 => ?_⟩
    have b0 : But p H (upd H q0 (.lst [.int 0])) := But.of (sm1 hq0)
    have e0 : (upd H q0 (.lst [.int 0])) q0 = some (.lst [.int 0]) := upd_same
    have hp0 := hp.same (sm1 (o := .lst [.int 0]) hq0)
    generalize upd H q0 (.lst [.int 0]) = H0 at b0 e0 hp0 ⊢
    refine ⟨_, rfl, _, rfl, 1, (tb.length : Nat), rfl, rfl, RgOk.of_le (by decide) (by omega) (by decide) (by omega), fun q1 hq1 => ?_⟩
    rw [rg1]
    have s1 := sm1 (o := .lst (((List.range (tb.length - 1)).map (· + 1)).map fun n => V.int (n : Nat))) hq1
    have b1 := b0.same s1
    have hp1 := hp0.same s1
    have e01 := s1 _ _ e0
    have e1 : (upd H0 q1 (.lst (((List.range (tb.length - 1)).map (· + 1)).map fun n => V.int (n : Nat)))) q1 = some (.lst (((List.range (tb.length - 1)).map (· + 1)).map fun n => V.int (n : Nat))) := upd_same
    generalize upd H0 q1 (.lst (((List.range (tb.length - 1)).map (· + 1)).map fun n => V.int (n : Nat))) = H1 at b1 hp1 e01 e1 ⊢
    refine ⟨_, rfl, p, c, n, 3, rfl, hp1, by omega, by decide, by decide, fun d H2 d0 d1 bt2 hp2 => ?_⟩
    obtain ⟨kd, rfl⟩ := Int.eq_ofNat_of_zero_le d0
    have b2 := b1.trans bt2
    have e02 := bt2 _ _ (pen_ne hp1 e01 nofun) e01
    have e12 := bt2 _ _ (pen_ne hp1 e1 nofun) e1
    refine ⟨_, rfl, by omega, by omega, fun D hD => ?_⟩
    rw [show ((kd : Nat) : Int).toNat = kd from rfl]
    refine lc_range (lo := 0) (n := kd) (fun j H' => But p H2 H' ∧ Pen H' p c (n + 1 + j) ∧ ∃ ds : List Nat, H' D = some (.lst (ds.map fun n => V.int (n : Nat))) ∧ ds.length = j ∧ ∀ s ∈ ds, s < tb.length) ⟨But.of (sm1 hD), hp2.same (sm1 hD), [], upd_same, rfl, fun s hs => absurd hs List.not_mem_nil⟩ ?_ ?_
    · rintro j H' hj ⟨bt', hp', ds, eD, dl, dlt⟩
      refine ⟨rfl, _, rfl, _, rfl, p, c, _, tb.length, rfl, hp', by omega, by omega, by omega, fun d2 H3 f0 f1 bt3 hp3 => ?_⟩
      obtain ⟨k2, rfl⟩ := Int.eq_ofNat_of_zero_le f0
      obtain ⟨Dp, Dc⟩ := hp2.off hD
      refine ⟨_, bt3 _ _ Dp eD, small1000 (by rw [List.length_map]; omega), (bt'.trans bt3).new hD, hp3.wr Dp Dc, ds ++ [k2], by rw [upd_same, List.map_append]; rfl, by rw [List.length_append, dl]; rfl, fun s hs => ?_⟩
      rcases List.mem_append.mp hs with q | q
      · exact dlt s q
      · rw [List.mem_singleton.mp q]
        omega
    rintro H3 ⟨bt3, hp3, ds, eD, dl, dlt⟩
    have e13 := bt3 _ _ (pen_ne hp2 e12 nofun) e12
    have e03 := bt3 _ _ (pen_ne hp2 e02 nofun) e02
    have b3 := b2.trans bt3
    have l1 : ((List.range (tb.length - 1)).map (· + 1)).length = tb.length - 1 := by rw [List.length_map, List.length_range]
    refine ⟨q1, D, _, _, rfl, rfl, e13, eD, ?_, fun q2 hq2 => ?_⟩
    · simp only [List.length_map, List.length_range]
      have := small1000 (n := tb.length - 1 + ds.length) (by omega)
      omega
    rw [← List.map_append]
    have s4 := sm1 (o := .lst (((List.range (tb.length - 1)).map (· + 1) ++ ds).map fun n => V.int (n : Nat))) hq2
    have b4 := b3.same s4
    have hp4 := hp3.same s4
    have e04 := s4 _ _ e03
    have e24 : (upd H3 q2 (.lst (((List.range (tb.length - 1)).map (· + 1) ++ ds).map fun n => V.int (n : Nat)))) q2 = some (.lst (((List.range (tb.length - 1)).map (· + 1) ++ ds).map fun n => V.int (n : Nat))) := upd_same
    generalize upd H3 q2 (.lst (((List.range (tb.length - 1)).map (· + 1) ++ ds).map fun n => V.int (n : Nat))) = H4 at b4 hp4 e04 e24 ⊢
    have lx : ((List.range (tb.length - 1)).map (· + 1) ++ ds).length = tb.length - 1 + kd := by rw [List.length_append, l1, dl]
    refine ⟨p, c, q2, _, _, rfl, hp4, .inl (SqL.of e24), by rw [List.length_map, lx]; omega, by rw [List.length_map, lx]; omega, fun x hx => ?_, fun lo ys H5 bt5 hp5 hl0 el pm => ?_⟩
    · obtain ⟨i, _, rfl⟩ := List.mem_map.mp hx
      exact ⟨.int (i : Nat), .int _, pl_int⟩
    rw [List.length_map, lx] at hp5
    obtain ⟨ys, rfl, pn⟩ := perm_of_map pm
    have e05 := bt5 _ _ (pen_ne hp4 e04 nofun) e04
    have b5 := b4.trans bt5
    have ylen : ys.length = tb.length - 1 + kd := by rw [pn.length_eq, lx]
    refine ⟨q0, lo, _, _, rfl, rfl, e05, el, ?_, fun lc hlc => ?_⟩
    · rw [List.length_map, ylen]
      have := small1000 (n := 1 + (tb.length - 1 + kd)) (by omega)
      show 1 + _ ≤ _
      omega
    have s6 := sm1 (o := .lst ([V.int 0] ++ ys.map fun n => V.int (n : Nat))) hlc
    have b6 := b5.same s6
    have hp6 := (hp5.same s6).up (m := n + 100) (by omega)
    have elc : (upd H5 lc (.lst ([V.int 0] ++ ys.map fun n => V.int (n : Nat)))) lc = some (.lst ((0 :: ys).map fun n => V.int (n : Nat))) := upd_same
    have C : Cps tb.length (0 :: ys) := by
      refine ⟨rfl, fun s hs => ?_, fun s hs => ?_⟩
      · rcases List.mem_cons.mp hs with q | q
        · rw [q]; exact pos
        · have q2 := pn.mem_iff.mp q
          rcases List.mem_append.mp q2 with q3 | q3
          · obtain ⟨i, hi, rfl⟩ := List.mem_map.mp q3
            have := List.mem_range.mp hi
            omega
          · exact dlt s q3
      · rcases Nat.eq_zero_or_pos s with q | q
        · rw [q]; exact List.mem_cons_self
        · refine List.mem_cons_of_mem _ (pn.mem_iff.mpr (List.mem_append_left _ (List.mem_map.mpr ⟨s - 1, List.mem_range.mpr (by omega), by omega⟩)))
    have cl : (0 :: ys).length ≤ tb.length + 2 := by rw [List.length_cons, ylen]; omega
    have cp0 : 0 < (0 :: ys).length := Nat.succ_pos _
    generalize upd H5 lc (.lst ([V.int 0] ++ ys.map fun n => V.int (n : Nat))) = H6 at b6 hp6 elc ⊢
    generalize (0 :: ys) = cp at C cl cp0 elc
    clear e05 e04 e03 e02 e01 e0 e1 e12 e13 e24 el pm pn eD b0 b1 b2 b3 b4 b5 hp0 hp1 hp2 hp3 hp4 hp5 bt2 bt3 bt5 s1 s4 s6 hl0 lx l1 ylen hq0 hq1 hD hq2 hlc dlt dl d0 d1
    have l6 := l.but b6 hp
    refine ⟨by show 0 ≤ sizeLine; decide, fun ta hta => ?_⟩
    have elt := sm1 (o := .lst []) hta _ _ elc
    refine ⟨_, rfl, lc, rfl, ⟨_, SqL.of elt⟩, for_list (K := K) (a := lc) (xs := cp.map fun n => V.int (n : Nat)) (fun j σ H' => ∃ (v9 v10 v11 v12 : Option V) (bs : List Addr) (tb2 : List (List (Option Nat))), σ = [some (.ref p), some (.ref t), some (.str z), some (.ref r), some (.ref m), some (.int (tb.length : Nat)), some (.ref lc), none, some (.ref ta), v9, v10, v11, v12, none, none] ∧
      RowsP p H6 H' ta tb2 bs ∧ tb2.length = j ∧ (∀ i, i < j → RowC cp (tb.getD (cp.getD i 0) []) (tb2.getD i [])) ∧ Pen H' p c (n + 100 + j * 4)) ⟨_, _, _, _, [], [], rfl, RowsP.nil hta, rfl, fun i hi => absurd hi (Nat.not_lt_zero i), hp6.same (sm1 hta)⟩ ?_ ?_ ?_⟩
    · rintro j σ H' _ ⟨v9, v10, v11, v12, bs, tb2, rfl, rk, _⟩
      exact SqL.of (rk.s _ _ (pen_ne hp6 elc nofun) elc)
    · rintro j x σ H7 hx ⟨v9, v10, v11, v12, bs, tb2, rfl, rk, lt2, rows, hp7⟩
      rw [List.getElem?_map] at hx
      obtain ⟨s0, hs0, rfl⟩ := Option.map_eq_some_iff.mp hx
      have jl := (List.getElem?_eq_some_iff.mp hs0).1
      have sl := C.lt s0 (List.mem_of_getElem? hs0)
      have gs : cp.getD j 0 = s0 := by rw [List.getD_eq_getElem?_getD, hs0]; rfl
      have room : n + 100 + j * 4 + 4 ≤ n + 400 := by omega
      have hb : bs0[s0]? = some (bs0[s0]'(by rw [l.e]; exact sl)) := List.getElem?_eq_getElem _
      have hrow : tb[s0]? = some (tb[s0]'sl) := List.getElem?_eq_getElem _
      have eb6 := l6.r _ _ _ hb hrow
      have eb := rk.s _ _ (pen_ne hp6 eb6 nofun) eb6
      have erl := rk.s _ _ (pen_ne hp6 l6.l nofun) l6.l
      have elc7 := rk.s _ _ (pen_ne hp6 elc nofun) elc
      have rlen := g.row (List.mem_of_getElem? hrow)
      have rlt := g.lt _ (List.mem_of_getElem? hrow)
      have gr : tb.getD s0 [] = tb[s0]'sl := by rw [List.getD_eq_getElem?_getD, hrow]; rfl
      generalize bs0[s0]'(by rw [l.e]; exact sl) = b at hb eb eb6
      generalize tb[s0]'sl = row at hrow eb eb6 rlen rlt gr
      have gj : n + 100 + (j + 1) * 4 = n + 100 + j * 4 + 4 := by omega
      rw [gj]
      generalize n + 100 + j * 4 = n7 at hp7 room ⊢
      -- row = []
      refine ⟨by show 0 ≤ sizeLine; decide, fun q hq => ?_⟩
      obtain ⟨qp, qc⟩ := hp7.off hq
      have bq := But.of (p := p) (sm1 (o := .lst []) hq)
      have ebq := bq _ _ (pen_ne hp7 eb nofun) eb
      refine ⟨_, rfl, _, rfl, r, _, _, _, rfl, rfl, SqL.of (bq _ _ (pen_ne hp7 erl nofun) erl), atI_nat (by rw [List.getElem?_map, hb]; rfl), b, rfl, ⟨_, SqL.of ebq⟩, for_list (K := K) (a := b) (xs := row.map oV) (fun i σ H' => ∃ (v11 v12 : Option V) (r2 : List (Option Nat)), σ = [some (.ref p), some (.ref t), some (.str z), some (.ref r), some (.ref m), some (.int (tb.length : Nat)), some (.ref lc), none, some (.ref ta), some (.int (s0 : Nat)), some (.ref q), v11, v12, none, none] ∧
        But p H7 H' ∧ H' q = some (.lst (r2.map oV)) ∧ r2.length = i ∧ (∀ k, k < i → (r2.getD k none).map (fun a => cp.getD a 0) = row.getD k none) ∧ (∀ a, some a ∈ r2 → a < cp.length) ∧ Pen H' p c (n7 + i)) ⟨_, _, [], rfl, bq, upd_same, rfl, fun k hk => absurd hk (Nat.not_lt_zero k), fun a ha => absurd ha List.not_mem_nil, hp7.same (sm1 hq)⟩ ?_ ?_ ?_⟩
      · rintro i σ H' _ ⟨_, _, r2, rfl, b', _⟩
        exact SqL.of (b' _ _ (pen_ne hp7 eb nofun) eb)
      · rintro i x σ H8 hx ⟨v11, v12, r2, rfl, b8, eq8, rl2, mp2, lt3, hp8⟩
        rw [List.getElem?_map] at hx
        obtain ⟨o, ho, rfl⟩ := Option.map_eq_some_iff.mp hx
        have il := (List.getElem?_eq_some_iff.mp ho).1
        have go : row.getD i none = o := by rw [List.getD_eq_getElem?_getD, ho]; rfl
        have elc8 := b8 _ _ (pen_ne hp7 elc7 nofun) elc7
        -- some
        have lcl : (cp.map fun n => V.int (n : Nat)).length = cp.length := List.length_map _
        refine ⟨_, rfl, lc, _, rfl, .inl (SqL.of elc8), _, rfl, by omega, by omega, fun D hD => ?_⟩
        rw [lcl, show ((cp.length : Nat) : Int).toNat = cp.length from rfl]
        refine lc_range (lo := 0) (n := cp.length) (fun k H' => Same H8 H' ∧ H' D = some (.lst (((List.range k).filter fun a => decide (some (cp.getD a 0) = o)).map fun a => V.int (a : Nat)))) ⟨sm1 hD, upd_same⟩ ?_ ?_
        · rintro k H' hk ⟨s9, eD⟩
          have hcp : cp[k]? = some (cp.getD k 0) := by rw [List.getD_eq_getElem?_getD, List.getElem?_eq_getElem hk]; rfl
          refine ⟨rfl, _, rfl, _, rfl, lc, _, _, .int (cp.getD k 0 : Nat), rfl, ?_, SqL.of (s9 _ _ elc8), atI_nat (by rw [List.getElem?_map, hcp]; rfl), _, rfl, by cases o <;> rfl, _, rfl, ?_⟩
          · show V.int (0 + (k : Int)) = _
            rw [Int.zero_add]
          have dec : decide (V.int (cp.getD k 0 : Nat) = oV o) = decide (some (cp.getD k 0) = o) := by
            refine decide_eq_decide.mpr ?_
            cases o with
            | none => exact ⟨nofun, nofun⟩
            | some s => exact ⟨fun h => by have h2 : ((cp.getD k 0 : Nat) : Int) = (s : Int) := V.int.inj h; rw [show cp.getD k 0 = s by omega], fun h => by rw [Option.some.inj h]; rfl⟩
          rw [dec]
          by_cases hyes : some (cp.getD k 0) = o
          · rw [decide_eq_true hyes]
            refine iteT ⟨_, rfl, _, eD, ?_, swr s9 hD, ?_⟩
            · rw [List.length_map]
              exact bigS (Nat.lt_of_le_of_lt (List.length_filter_le _ _) (by rw [List.length_range]; omega))
            · rw [upd_same, List.range_succ, List.filter_append, List.map_append, List.filter_cons_of_pos (by exact decide_eq_true hyes)]
              show some (HO.lst (_ ++ [V.int (0 + (k : Int))])) = some (HO.lst (_ ++ [V.int (k : Nat)]))
              rw [Int.zero_add]
          · rw [decide_eq_false hyes]
            refine iteF ⟨s9, ?_⟩
            rw [eD, List.range_succ, List.filter_append, List.filter_cons_of_neg (by exact fun h => hyes (of_decide_eq_true h))]
            show _ = some (HO.lst ((_ ++ []).map _))
            rw [List.append_nil]
        rintro H9 ⟨s9, eD⟩
        have b9 := b8.same s9
        have hp9 := hp8.same s9
        have eq9 := s9 _ _ eq8
        have qD : q ≠ D := ne_of_none eq8 hD
        refine ⟨_, rfl, .inl ⟨rfl, _, SqL.of eq9⟩, _, rfl, rfl, _, rfl, ?_⟩
        have fin : ∀ (o2 : Option Nat) (H' : Hp), o2.map (fun a => cp.getD a 0) = o → (∀ a, o2 = some a → a < cp.length) → But p H7 H' → H' q = some (.lst (r2.map oV)) → Pen H' p c (n7 + (i + 1)) → ∃ (v11 v12 : Option V) (r3 : List (Option Nat)), [some (.ref p), some (.ref t), some (.str z), some (.ref r), some (.ref m), some (.int (tb.length : Nat)), some (.ref lc), none, some (.ref ta), some (.int (s0 : Nat)), some (.ref q), some (oV o), some (.ref D), none, none] = [some (.ref p), some (.ref t), some (.str z), some (.ref r), some (.ref m), some (.int (tb.length : Nat)), some (.ref lc), none, some (.ref ta), some (.int (s0 : Nat)), some (.ref q), v11, v12, none, none] ∧
            But p H7 (upd H' q (.lst (r2.map oV ++ [oV o2]))) ∧ (upd H' q (.lst (r2.map oV ++ [oV o2]))) q = some (.lst (r3.map oV)) ∧ r3.length = i + 1 ∧ (∀ k, k < i + 1 → (r3.getD k none).map (fun a => cp.getD a 0) = row.getD k none) ∧ (∀ a, some a ∈ r3 → a < cp.length) ∧ Pen (upd H' q (.lst (r2.map oV ++ [oV o2]))) p c (n7 + (i + 1)) := by
          intro o2 H' m1 m2 b' eq' hp'
          refine ⟨_, _, r2 ++ [o2], rfl, b'.new hq, by rw [upd_same, List.map_append]; rfl, by rw [List.length_append, rl2]; rfl, fun k hk => ?_, fun a ha => ?_, hp'.wr qp qc⟩
          · rcases Nat.lt_or_ge k i with h | h
            · rw [List.getD_eq_getElem?_getD, List.getElem?_append_left (by omega), ← List.getD_eq_getElem?_getD]
              exact mp2 k h
            · obtain rfl : k = i := by omega
              rw [List.getD_eq_getElem?_getD, List.getElem?_append_right (by omega), rl2, Nat.sub_self, go]
              exact m1
          · rcases List.mem_append.mp ha with h | h
            · exact lt3 a h
            · exact m2 a (List.mem_singleton.mp h).symm
        have small : (r2.map oV).length < sizeLine := by rw [List.length_map]; exact bigS (by omega)
        cases o with
        | none =>
          exact iteT ⟨q, _, _, rfl, rfl, eq9, small, fin none H9 rfl nofun b9 eq9 (hp9.up (by omega))⟩
        | some s1 =>
          have hs1 := C.all s1 (rlt s1 (List.mem_of_getElem? ho))
          obtain ⟨a1, ha1, ea1⟩ := List.getElem_of_mem hs1
          have in1 : a1 ∈ (List.range cp.length).filter fun a => decide (some (cp.getD a 0) = some s1) := by
            refine List.mem_filter.mpr ⟨List.mem_range.mpr ha1, decide_eq_true ?_⟩
            rw [List.getD_eq_getElem?_getD, List.getElem?_eq_getElem ha1]
            exact congrArg some ea1
          have flen := List.length_filter_le (fun a => decide (some (cp.getD a 0) = some s1)) (List.range cp.length)
          rw [List.length_range] at flen
          refine iteF ⟨_, rfl, _, rfl, p, c, _, hp9, by omega, .inl ⟨D, _, rfl, .inl (SqL.of eD), ?_, ?_, fun x Ha hx bta hpa => ?_⟩⟩
          · rw [List.length_map]
            exact List.length_pos_of_mem in1
          · rw [List.length_map]
            omega
          · obtain ⟨a, ha, rfl⟩ := List.mem_map.mp hx
            obtain ⟨ha2, ha3⟩ := List.mem_filter.mp ha
            have eqa := bta _ _ qp eq9
            exact ⟨q, _, _, rfl, rfl, eqa, small, fin (some a) Ha (of_decide_eq_true ha3) (fun y e => by cases e; exact List.mem_range.mp ha2) (b9.trans bta) eqa hpa⟩
      · rintro σ H8 ⟨v11, v12, r2, rfl, b8, eq8, rl2, mp2, lt3, hp8⟩
        rw [List.length_map] at rl2 mp2 hp8
        have eta := b8 _ _ (pen_ne hp7 rk.l nofun) rk.l
        refine ⟨_, rfl, .inl ⟨rfl, _, SqL.of eta⟩, _, rfl, ta, _, _, rfl, rfl, eta, ?_, ?_⟩
        · rw [List.length_map, rk.e, lt2]
          exact bigS (by omega)
        · obtain ⟨tp, tc⟩ := hp6.off hta
          refine ⟨_, _, _, _, bs ++ [q], tb2 ++ [r2], rfl, rk.push hp7 hta hq b8 eq8, by rw [List.length_append, lt2]; rfl, fun i hi => ?_, (hp8.wr tp tc).up (by omega)⟩
          rcases Nat.lt_or_ge i j with h | h
          · rw [List.getD_eq_getElem?_getD (l := tb2 ++ [r2]), List.getElem?_append_left (by omega), ← List.getD_eq_getElem?_getD]
            exact rows i h
          · obtain rfl : i = j := by omega
            rw [List.getD_eq_getElem?_getD (l := tb2 ++ [r2]), List.getElem?_append_right (by omega), lt2, Nat.sub_self, gs, gr]
            show RowC cp row r2
            refine ⟨rl2, fun k => ?_, lt3⟩
            rcases Nat.lt_or_ge k row.length with h | h
            · exact mp2 k h
            · rw [List.getD_eq_getElem?_getD, List.getElem?_eq_none (by omega), List.getD_eq_getElem?_getD, List.getElem?_eq_none h]
              rfl
    · rintro σ H7 ⟨v9, v10, v11, v12, bs, tb2, rfl, rk, lt2, rows, hp7⟩
      rw [List.length_map] at lt2 rows hp7
      have TC : TabC cp tb tb2 := ⟨lt2, rows⟩
      have elc7 := rk.s _ _ (pen_ne hp6 elc nofun) elc
      have ema7 := rk.s _ _ (pen_ne hp6 l6.ma nofun) l6.ma
      have lo : (ownC cp ms).length = cp.length := List.length_map _
      refine ⟨_, rfl, lc, rfl, ⟨_, SqL.of elc7⟩, fun D hD => ?_⟩
      refine lc_list (K := K) (a := lc) (xs := cp.map fun n => V.int (n : Nat)) (fun i H' => Same H7 H' ∧ H' D = some (.lst (((ownC cp ms).take i).map mV))) ⟨sm1 hD, upd_same⟩ (fun i H' _ q => SqL.of (q.1 _ _ elc7)) ?_ ?_
      · rintro i x H' hx ⟨s8, eD⟩
        rw [List.getElem?_map] at hx
        obtain ⟨s0, hs0, rfl⟩ := Option.map_eq_some_iff.mp hx
        have sl := C.lt s0 (List.mem_of_getElem? hs0)
        have mm : ms[s0]? = some (ms.getD s0 none) := by
          rw [List.getD_eq_getElem?_getD, List.getElem?_eq_getElem (by rw [g.m]; exact sl)]
          rfl
        refine ⟨rfl, _, rfl, _, rfl, m, _, _, _, rfl, rfl, SqL.of (s8 _ _ ema7), atI_nat (by rw [List.getElem?_map, mm]; rfl), _, eD, ?_, swr s8 hD, ?_⟩
        · rw [List.length_map, List.length_take, lo]
          exact bigS (by omega)
        · rw [upd_same, List.take_succ, List.map_append]
          unfold ownC
          rw [List.getElem?_map, hs0]
          rfl
      rintro H8 ⟨s8, eD⟩
      rw [List.length_map, ← lo, List.take_length] at eD
      have hp8 := hp7.same s8
      have g2 : TbG z tb2 (ownC cp ms) := by
        have rw2 : ∀ row ∈ tb2, ∃ j, j < cp.length ∧ tb2.getD j [] = row := fun row hr => by
          obtain ⟨j, hj, rfl⟩ := List.getElem_of_mem hr
          exact ⟨j, by omega, by rw [List.getD_eq_getElem?_getD, List.getElem?_eq_getElem hj]; rfl⟩
        refine ⟨g.lz, by omega, by omega, by rw [lo, lt2], fun row hr => ?_, fun row hr a ha => ?_⟩
        · obtain ⟨j, hj, rfl⟩ := rw2 row hr
          rw [(rows j hj).len]
          have sl := C.lt _ (List.getElem_mem hj)
          rw [show cp.getD j 0 = cp[j] from by rw [List.getD_eq_getElem?_getD, List.getElem?_eq_getElem hj]; rfl, show tb.getD cp[j] [] = tb[cp[j]]'sl from by rw [List.getD_eq_getElem?_getD, List.getElem?_eq_getElem sl]; rfl]
          exact g.len _ (List.getElem_mem sl)
        · obtain ⟨j, hj, rfl⟩ := rw2 row hr
          rw [lt2]
          exact (rows j hj).lt a ha
      obtain ⟨kvs, hpo⟩ := hp6.at
      have hpp : H p ≠ none := by
        obtain ⟨kv, e⟩ := hp.at
        rw [e]
        exact nofun
      have ne6 : ∀ {b : Addr}, H6 b = none → b ≠ p := fun {b} nb => (hp6.off nb).1
      have L8 : LsAt p H8 ta D bs tb2 (ownC cp ms) := ⟨s8 _ _ rk.l, rk.e, fun i b row b1 b2 => s8 _ _ (rk.r i b row b1 b2), eD, ne6 hta, (hp7.off hD).1, fun b hb => ne6 (rk.fr b hb)⟩
      have ans := fun cs => twin_same (zs := z.cps.toList) (ms := ms) C TC cs
      have b8 := (b6.trans rk.s).same s8
      refine ⟨_, rfl, p, c, _, 2, rfl, hp8, by omega, by decide, by decide, fun d2 H9 _ _ bt9 hp9 => ⟨rfl, _, rfl, ?_⟩⟩
      generalize decide (V.int d2 = V.int 0) = b
      have L9 := L8.but bt9 hp8
      have b9 := b8.trans bt9
      cases b with
      | true =>
        refine iteT ⟨_, rfl, _, rfl, _, rfl, by show 3 ≤ sizeLine; decide, fun t2 ht2 => ?_⟩
        have s10 := sm1 (o := .tup [.str z, .ref ta, .ref D]) ht2
        exact k t2 tb2 (ownC cp ms) _ (b9.same s10) ((hp9.same s10).up (by omega)) ⟨⟨ta, D, bs, upd_same, L9.same s10⟩, g2⟩ (by omega) fun cs _ => ans cs
      | false =>
        refine iteF ⟨_, rfl, _, rfl, _, rfl, p, ta, D, z, bs, tb2, ownC cp ms, rfl, L9, g2, by omega, hp9.at.elim fun _ e => ⟨_, e⟩, fun t2 Ha sa pl2 => ?_⟩
        have ld : (deadT z.length tb2).length = tb2.length + 1 := by unfold deadT; rw [List.length_append, List.length_map]; rfl
        refine k t2 _ _ Ha (b9.same sa) ((hp9.same sa).up (by omega)) pl2 (by rw [ld]; omega) fun cs hcs => ?_
        have zz : z.cps.toList.length = z.length := Array.length_toList
        have e1 := led_dead (zs := z.cps.toList) zz g2.ok cs (some 0) hcs fun a e => by cases e; exact g2.pos
        have e2 : ledTo z.cps.toList (deadT z.length tb2) (some 0) cs = some ((ledTo z.cps.toList tb2 (some 0) cs).getD tb2.length) := e1
        rw [e2, mark_dead g2.m (led_lt (zs := z.cps.toList) g2.ok cs (some 0) fun a e => by cases e; exact g2.pos)]
        exact ans cs
end
end Wf
namespace Wf
open PySem PySem.Spec PyProof.Rows L2
/-! rows of states, two machines at once -/
abbrev s_row_at : Stmt := top 10
abbrev N_row_at : List Str := ["machine", "state"]
theorem sc_row_at : FnScope N_row_at ["machine", "state"] (defScope s_row_at) := ⟨rfl, rfl, rfl, by decide +kernel, rfl, by decide +kernel, by decide +kernel⟩
abbrev s_next_pairs : Stmt := top 13
abbrev N_next_pairs : List Str := ["one", "other", "pair"]
theorem sc_next_pairs : FnScope N_next_pairs ["one", "other", "pair"] (defScope s_next_pairs) := ⟨rfl, rfl, rfl, by decide +kernel, rfl, by decide +kernel, by decide +kernel⟩
def rowO (m : Nat) (tb : List (List (Option Nat))) : Option Nat → List (Option Nat)
  | none => List.replicate m none
  | some n => tb.getD n []
theorem rowO_len {m : Nat} {tb : List (List (Option Nat))} (T : TbOk m tb) {s : Option Nat} (h : ∀ n, s = some n → n < tb.length) : (rowO m tb s).length = m := by
  cases s with
  | none => exact List.length_replicate
  | some n =>
    have lt := h n rfl
    show (tb.getD n []).length = m
    rw [List.getD_eq_getElem?_getD, List.getElem?_eq_getElem lt]
    exact T.len _ (List.getElem_mem lt)
theorem rowO_at {zs : List Nat} {tb : List (List (Option Nat))} (T : TbOk zs.length tb) (nd : zs.Nodup) {s : Option Nat} (h : ∀ n, s = some n → n < tb.length) {k c : Nat} (hc : zs[k]? = some c) : (rowO zs.length tb s)[k]? = some (stp zs tb s c) := by
  obtain ⟨lk, ek⟩ := List.getElem?_eq_some_iff.mp hc
  have ix : zs.idxOf c = k := by
    rw [← ek]
    exact List.Nodup.idxOf_getElem nd k lk
  cases s with
  | none =>
    show (List.replicate _ none)[k]? = some none
    rw [List.getElem?_replicate, if_pos lk]
  | some n =>
    show (tb.getD n [])[k]? = some ((tb.getD n []).getD (zs.idxOf c) none)
    have len : (tb.getD n []).length = zs.length := rowO_len T h
    rw [ix]
    generalize tb.getD n [] = row at len ⊢
    rw [List.getD_eq_getElem?_getD, List.getElem?_eq_getElem (by rw [len]; exact lk)]
    rfl
def spRowAt (K : PySem.W.Frag) (C : Addr) : Sp := fun vs H Q _ => ∃ (i : MI) (s : Option Nat), vs = [.ref i.x, oV s] ∧ i.C = C ∧ MIat K H i ∧ i.z.length ≤ 1000 ∧ (∀ n, s = some n → n < i.tb.length) ∧
  ∀ a H', Same H H' → (SqL K H' a ((rowO i.z.length i.tb s).map oV) ∨ SqT K H' a ((rowO i.z.length i.tb s).map oV)) → Q (.ref a) H'
def spNext (K : PySem.W.Frag) (C : Addr) : Sp := fun vs H Q _ => ∃ (i j : MI) (p : Addr) (a b : Option Nat), vs = [.ref i.x, .ref j.x, .ref p] ∧ i.C = C ∧ j.C = C ∧ MIat K H i ∧ MIat K H j ∧ i.z.length ≤ 1000 ∧ j.z.length = i.z.length ∧ SqT K H p [oV a, oV b] ∧ (∀ n, a = some n → n < i.tb.length) ∧ (∀ n, b = some n → n < j.tb.length) ∧
  ∀ (l : Addr) (as : List Addr) (H' : Hp), Same H H' → H l = none → H' l = some (.lst (as.map V.ref)) → as.length = i.z.length → (∀ (k : Nat) (x y : Option Nat), (rowO i.z.length i.tb a)[k]? = some x → (rowO i.z.length j.tb b)[k]? = some y → ∃ q, as[k]? = some q ∧ H' q = some (.tup [oV x, oV y])) → Q (.ref l) H'
theorem src_of {K : PySem.W.Frag} {H : Hp} {a : Addr} {xs : List V} (h : SqL K H a xs ∨ SqT K H a xs) : ∃ S : Src, S.val = .ref a ∧ S.items = xs ∧ ∀ H', Same H H' → S.at_ K H' := by
  rcases h with h | h
  · exact ⟨.lst a xs, rfl, rfl, fun H' s => (Stay.of s).l _ _ h⟩
  · exact ⟨.tup a xs, rfl, rfl, fun H' s => (Stay.of s).t _ _ h⟩
section
variable {P : Program} {w : World} {K : PySem.W.Frag} {mg : Str → Option Value} {base : Heap} {f : Addr} {fd : FuncData}
theorem ok_row_at {C : Addr} (F : Fun K "row_at" "row_at" s_row_at f fd) (T : Txt K mg) (mc : McC K C) (P_letters : Pr P w K mg base C "letters" (getSp C "_letters")) (P_transitions : Pr P w K mg base C "transitions" (getSp C "_transitions")) :
    FnOk P w K mg base CX0 3 f fd ["machine", "state"] (spRowAt K C) := by
  refine F.ok sc_row_at (fun vs H Q E h => ?_) (fun cdv A outer s H vs Q E hr h => ?_)
  · obtain ⟨i, s, rfl, _⟩ := h
    rfl
  · obtain ⟨i, st, rfl, eC, at_, zl, lt, k⟩ := h
    refine ⟨_, (pss_one (ps_ret (pe_ifExp (pt_cmpR op_isN (pv 1) (pe_non) (nomark _)) (pe_op op_rep (pe_lst (pa_cons (pe_non) pa_nil)) (pe_callB call_len_str (by rfl) T.z_len PySem.boot_len (pa_cons (pe_pr P_letters mc.cl (hr.mono (by decide)) (pv 0)) pa_nil))) (pe_ix ix_seq (pe_pr P_transitions mc.cl (hr.mono (by decide)) (pv 0)) (pv 1) (fun _ _ => rfl))))), ?_⟩
    have ob := at_.ob
    rw [eC] at ob
    refine ⟨_, rfl, rfl, _, rfl, ?_⟩
    cases st with
    | none =>
      refine iteT ⟨by show 1 ≤ sizeLine; decide, fun q1 hq1 => ?_⟩
      have s1 := sm1 (o := .lst [.non]) hq1
      have ob1 := s1 _ _ ob
      refine ⟨_, rfl, i.x, i.dx, _, rfl, ob1, i.x, i.dx, _, _, rfl, ob1, rfl, i.z, rfl, by rw [sizeLine_eq]; omega, q1, _, _, rfl, rfl, upd_same, by omega, by omega, by show 1 * _ ≤ _; rw [Int.toNat_natCast, sizeLine_eq]; omega, fun q2 hq2 => ?_⟩
      have e : (List.replicate ((i.z.length : Nat) : Int).toNat [V.non]).flatten = (List.replicate i.z.length (none : Option Nat)).map oV := by
        rw [Int.toNat_natCast, List.map_replicate, List.flatten_replicate_singleton]
        rfl
      exact k q2 _ (s1.trans (sm1 hq2)) (.inl (SqL.of (by rw [upd_same, e]; rfl)))
    | some n =>
      obtain ⟨bs, h1, h2, h3⟩ := at_.nx
      have ln := lt n rfl
      have hr0 : i.tb[n]? = some (i.tb[n]'ln) := List.getElem?_eq_getElem ln
      have lb : n < bs.length := by rw [h2]; exact ln
      have hb0 : bs[n]? = some (bs[n]'lb) := List.getElem?_eq_getElem lb
      have k := k (bs[n]'lb) H same_refl
      rw [show rowO i.z.length i.tb (some n) = i.tb[n]'ln from by show i.tb.getD n [] = _; rw [List.getD_eq_getElem?_getD, hr0]; rfl] at k
      exact iteF ⟨_, rfl, i.x, i.dx, _, rfl, ob, i.x, i.dx, _, _, rfl, ob, rfl, _, rfl, rix_any h1 (atI_nat (by rw [List.getElem?_map, hb0]; rfl)) (k (h3 n _ _ hb0 hr0))⟩
theorem ok_next_pairs {C : Addr} (F : Fun K "next_pairs" "next_pairs" s_next_pairs f fd) (T : Txt K mg) (Zz : mg "zip" = none) (D_row_at : Dn P w K mg base 3 "row_at" ["machine", "state"] (spRowAt K C)) :
    FnOk P w K mg base CX0 6 f fd ["one", "other", "pair"] (spNext K C) := by
  refine F.ok sc_next_pairs (fun vs H Q E h => ?_) (fun cdv A outer s H vs Q E hr h => ?_)
  · obtain ⟨i, j, p, a, b, rfl, _⟩ := h
    rfl
  · obtain ⟨i, j, p, a, b, rfl, ei, ej, ai, aj, zl, zj, hp, la, lb, k⟩ := h
    refine ⟨_, (pss_one (ps_ret (pe_listZ rfl (by rfl) T.z_list (by rfl) Zz (pa_cons (pe_cl D_row_at (hr.mono (by decide)) (pa_cons (pv 0) (pa_cons (pe_ix (show IxR _ (rIxT K) from ix_tup) (pv 2) (pe_int) (fun _ _ => rfl)) pa_nil))) (pa_cons (pe_cl D_row_at (hr.mono (by decide)) (pa_cons (pv 1) (pa_cons (pe_ix (show IxR _ (rIxT K) from ix_tup) (pv 2) (pe_int) (fun _ _ => rfl)) pa_nil))) pa_nil))))), ?_⟩
    refine ⟨_, rfl, _, rfl, p, _, 0, oV a, rfl, rfl, hp, rfl, i, a, rfl, ei, ai, zl, la, fun a1 H1 s1 r1 => ?_⟩
    refine ⟨_, rfl, _, rfl, p, _, 1, oV b, rfl, rfl, (Stay.of s1).t _ _ hp, rfl, j, b, rfl, ej, aj.same s1, by omega, lb, fun a2 H2 s2 r2 => ?_⟩
    rw [zj] at r2
    obtain ⟨S1, v1, i1, k1⟩ := src_of r1
    obtain ⟨S2, v2, i2, k2⟩ := src_of r2
    have l1 := rowO_len ai.ok la
    have l2 : (rowO i.z.length j.tb b).length = i.z.length := by rw [← zj]; exact rowO_len aj.ok lb
    refine ⟨S1, S2, by rw [v1, v2], k1 _ s2, k2 _ same_refl, by rw [i1, i2, List.length_map, List.length_map, l1, l2], by rw [i1, List.length_map, l1, sizeLine_eq]; omega, fun l as H' s3 nl el lasz fresh ent => ?_⟩
    have s12 := s1.trans s2
    refine k l as H' (s12.trans s3) (There.of s12 _ nl) el (by rw [lasz, i1, List.length_map, l1]) fun m x y hx hy => ?_
    exact ent m (oV x) (oV y) (by rw [i1, List.getElem?_map, hx]; rfl) (by rw [i2, List.getElem?_map, hy]; rfl)
end
end Wf
namespace Wf
open PySem PySem.Spec PyProof.Rows L2
/-! the words that lead to pairs of states -/
abbrev s_joint_words : Stmt := top 14
abbrev N_joint_words : List Str := ["one", "other", "words", "order", "taken", "pair", "letter", "following"]
theorem sc_joint_words : FnScope N_joint_words ["one", "other"] (defScope s_joint_words) := ⟨rfl, rfl, rfl, by decide +kernel, rfl, by decide +kernel, by decide +kernel⟩
def wS (l : List Nat) : Str := ⟨l.toArray⟩
theorem wS_cps {l : List Nat} : (wS l).cps.toList = l := rfl
theorem wS_len {l : List Nat} : (wS l).length = l.length := List.size_toArray
theorem wS_snoc {l : List Nat} {c : Nat} : wS l ++ (⟨#[c]⟩ : Str) = wS (l ++ [c]) := by
  show (⟨l.toArray ++ #[c]⟩ : Str) = ⟨(l ++ [c]).toArray⟩
  congr 1
  simp
def kvJ (fd : List (KO × List Nat)) (as : List Addr) : List (KO × Addr × V) := List.zipWith (fun p a => (p.1, a, V.str (wS p.2))) fd as
def keepJ (s : KO) : Bool := decide (s ≠ [none, none])
theorem kv_len {fd : List (KO × List Nat)} {as : List Addr} (h : as.length = fd.length) : (kvJ fd as).length = fd.length := by
  unfold kvJ
  rw [List.length_zipWith, h, Nat.min_self]
theorem kv_get : ∀ {fd : List (KO × List Nat)} {as : List Addr}, as.length = fd.length → (fd.map (·.1)).Nodup → ∀ (i : Nat) (p : KO × List Nat), fd[i]? = some p → getO (kvJ fd as) p.1 = some (V.str (wS p.2))
  | [], _, _, _, _, _, h => by cases h
  | _ :: _, [], h, _, _, _, _ => by cases h
  | r :: fd, a :: as, h, nd, 0, _, e => by
    cases e
    unfold getO kvJ
    rw [List.zipWith_cons_cons, List.find?_cons]
    dsimp only
    rw [decide_eq_true rfl]
    rfl
  | r :: fd, a :: as, h, nd, i + 1, p, e => by
    obtain ⟨n1, n2⟩ := List.nodup_cons.mp nd
    have m : p.1 ∈ fd.map (·.1) := List.mem_map.mpr ⟨p, List.mem_of_getElem? (i := i) e, rfl⟩
    have ih := kv_get (as := as) (Nat.succ.inj h) n2 i p e
    unfold getO kvJ at ih ⊢
    rw [List.zipWith_cons_cons, List.find?_cons]
    dsimp only
    rw [decide_eq_false (fun z : r.1 = p.1 => n1 (by show r.1 ∈ _; rw [z]; exact m))]
    exact ih
theorem kv_is : ∀ {fd : List (KO × List Nat)} {as : List Addr} {k : KO}, as.length = fd.length → (getO (kvJ fd as) k).isSome = decide (k ∈ fd.map (·.1))
  | [], _, _, _ => rfl
  | _ :: _, [], _, h => by cases h
  | r :: fd, a :: as, k, h => by
    have ih := kv_is (fd := fd) (as := as) (k := k) (Nat.succ.inj h)
    unfold getO kvJ at ih ⊢
    rw [List.zipWith_cons_cons, List.find?_cons, List.map_cons]
    dsimp only
    by_cases e : r.1 = k
    · rw [decide_eq_true e]
      exact (decide_eq_true (List.mem_cons.mpr (.inl e.symm))).symm
    · rw [decide_eq_false e]
      dsimp only
      rw [ih]
      exact decide_eq_decide.mpr ⟨fun m => List.mem_cons_of_mem _ m, fun m => (List.mem_cons.mp m).resolve_left fun z => e z.symm⟩
theorem kv_put {fd : List (KO × List Nat)} {as : List Addr} {k : KO} {v : List Nat} {q : Addr} (h : as.length = fd.length) (new : k ∉ fd.map (·.1)) : putO (kvJ fd as) k q (V.str (wS v)) = kvJ (fd ++ [(k, v)]) (as ++ [q]) := by
  unfold putO
  rw [kv_is h, decide_eq_false new]
  unfold kvJ
  rw [List.zipWith_append h.symm]
  rfl
theorem kv_key {fd : List (KO × List Nat)} {as : List Addr} {x : KO × Addr × V} (h : x ∈ kvJ fd as) : ∃ (i : Nat) (p : KO × List Nat) (a : Addr), fd[i]? = some p ∧ as[i]? = some a ∧ x = (p.1, a, V.str (wS p.2)) := by
  obtain ⟨i, hi⟩ := List.mem_iff_getElem?.mp h
  unfold kvJ at hi
  rw [List.getElem?_zipWith] at hi
  cases e1 : fd[i]? with
  | none => rw [e1] at hi; cases hi
  | some p =>
    cases e2 : as[i]? with
    | none => rw [e1, e2] at hi; cases hi
    | some a =>
      rw [e1, e2] at hi
      exact ⟨i, p, a, e1, e2, (Option.some.inj hi).symm⟩
theorem keep_stay {zs : List Nat} {t1 t2 : List (List (Option Nat))} (s : KO) (c : Nat) (h : keepJ s = false) : keepJ (jstp zs [t1, t2] s c) = false := by
  have e : s = [none, none] := Decidable.not_not.mp (of_decide_eq_false h)
  subst e
  rfl
theorem eqv_nn {x y : Option Nat} : (!PyData.eqv (.tuple [dOn x, dOn y]) (.tuple [.none, .none])) = keepJ [x, y] := by
  cases x <;> cases y <;> rfl
theorem dp_oV {K : PySem.W.Frag} {H : Hp} (o : Option Nat) : Dp K H (oV o) (dOn o) := by
  cases o with
  | none => exact .non
  | some n => exact .int _
def spJoint (P : Program) (w : World) (K : PySem.W.Frag) (C : Addr) : Sp := fun vs H Q _ => ∃ i j : MI, vs = [.ref i.x, .ref j.x] ∧ i.C = C ∧ j.C = C ∧ MIat K H i ∧ MIat K H j ∧ i.z.length ≤ 1000 ∧ j.z = i.z ∧ i.z.cps.toList.Pairwise (· < ·) ∧ i.tb.length ≤ 20 ∧ j.tb.length ≤ 20 ∧
  ∀ (d : Addr) (fd : List (KO × List Nat)) (as : List Addr) (H' : Hp), Same H H' → H d = none → Bfs (jstp i.z.cps.toList [i.tb, j.tb]) keepJ (jstart 2) i.z.cps.toList fd fd.length 0 → fd.length ≤ 441 → as.length = fd.length → DTat P w H' d (kvJ fd as) → Q (.ref d) H'
/-- what stands while the pairs are found -/
structure JSt (P : Program) (w : World) (H Hc : Hp) (d o : Addr) (zs : List Nat) (t1 t2 : List (List (Option Nat))) (fd : List (KO × List Nat)) (as os : List Addr) (at_ k : Nat) : Prop where
  same : Same H Hc
  B : Bfs (jstp zs [t1, t2]) keepJ (jstart 2) zs fd at_ k
  la : as.length = fd.length
  lo : os.length = fd.length
  D : DTat P w Hc d (kvJ fd as)
  o : Hc o = some (.lst (os.map V.ref))
  os : ∀ (m : Nat) (p : KO × List Nat) (q : Addr), fd[m]? = some p → os[m]? = some q → Hc q = some (.tup (p.1.map oV))
section
variable {P : Program} {w : World} {H Hc Hd : Hp} {d o q : Addr} {zs : List Nat} {t1 t2 : List (List (Option Nat))} {fd : List (KO × List Nat)} {as os : List Addr} {at_ k : Nat} {s : KO} {v : List Nat}
theorem JSt.mono (S : JSt P w H Hc d o zs t1 t2 fd as os at_ k) (g : Same Hc Hd) : JSt P w H Hd d o zs t1 t2 fd as os at_ k :=
  ⟨S.same.trans g, S.B, S.la, S.lo, ⟨g _ _ S.D.e, fun p hp => g _ _ (S.D.k p hp)⟩, g _ _ S.o, fun m p q h1 h2 => g _ _ (S.os m p q h1 h2)⟩
theorem JSt.grow (S : JSt P w H Hc d o zs t1 t2 fd as os at_ k) (hd : H d = none) (ho : H o = none) (hq : Hc q = some (.tup (s.map oV))) (B : Bfs (jstp zs [t1, t2]) keepJ (jstart 2) zs (fd ++ [(s, v)]) at_ (k + 1)) :
    JSt P w H (upd (upd Hc d (dto P w d (kvJ (fd ++ [(s, v)]) (as ++ [q])))) o (.lst (os.map V.ref ++ [V.ref q]))) d o zs t1 t2 (fd ++ [(s, v)]) (as ++ [q]) (os ++ [q]) at_ (k + 1) := by
  have od : d ≠ o := fun e => by
    have h1 := S.D.e
    rw [e, S.o] at h1
    cases h1
  have keep : ∀ {b : Addr} {ys : List V}, Hc b = some (.tup ys) → (upd (upd Hc d (dto P w d (kvJ (fd ++ [(s, v)]) (as ++ [q])))) o (.lst (os.map V.ref ++ [V.ref q]))) b = some (.tup ys) := fun {b ys} e => by
    have n1 : b ≠ o := fun z => by rw [z, S.o] at e; cases e
    have n2 : b ≠ d := fun z => by rw [z, S.D.e] at e; cases e
    exact (upd_ne n1).trans ((upd_ne n2).trans e)
  have la2 : (as ++ [q]).length = (fd ++ [(s, v)]).length := by rw [List.length_append, List.length_append, S.la]; rfl
  refine ⟨swr (swr S.same hd) ho, B, la2, by rw [List.length_append, List.length_append, S.lo]; rfl, ⟨(upd_ne od).trans upd_same, fun x hx => ?_⟩, by rw [upd_same, List.map_append]; rfl, fun m p r h1 h2 => ?_⟩
  · obtain ⟨m, p, a, h1, h2, rfl⟩ := kv_key hx
    by_cases lt : m < fd.length
    · rw [List.getElem?_append_left lt] at h1
      rw [List.getElem?_append_left (by rw [S.la]; exact lt)] at h2
      refine keep (S.D.k (p.1, a, V.str (wS p.2)) ?_)
      refine List.mem_of_getElem? (i := m) ?_
      unfold kvJ
      rw [List.getElem?_zipWith, h1, h2]
    · rw [List.getElem?_append_right (by omega)] at h1
      rw [List.getElem?_append_right (by rw [S.la]; omega), S.la] at h2
      generalize m - fd.length = n at h1 h2
      cases n with
      | zero =>
        cases h1
        cases h2
        exact keep hq
      | succ n => cases h1
  · by_cases lt : m < fd.length
    · rw [List.getElem?_append_left lt] at h1
      rw [List.getElem?_append_left (by rw [S.lo]; exact lt)] at h2
      exact keep (S.os m p r h1 h2)
    · rw [List.getElem?_append_right (by omega)] at h1
      rw [List.getElem?_append_right (by rw [S.lo]; omega), S.lo] at h2
      generalize m - fd.length = n at h1 h2
      cases n with
      | zero =>
        cases h1
        cases h2
        exact keep hq
      | succ n => cases h1
end
section
variable {P : Program} {w : World} {K : PySem.W.Frag} {mg : Str → Option Value} {base : Heap} {f : Addr} {fd : FuncData}
theorem ok_joint_words {C : Addr} (F : Fun K "joint_words" "joint_words" s_joint_words f fd) (T : Txt K mg) (mc : McC K C) (Zz : mg "zip" = none) (P_letters : Pr P w K mg base C "letters" (getSp C "_letters")) (D_next_pairs : Dn P w K mg base 6 "next_pairs" ["one", "other", "pair"] (spNext K C)) :
    FnOk P w K mg base CX0 7 f fd ["one", "other"] (spJoint P w K C) := by
  refine F.ok sc_joint_words (fun vs H Q E h => ?_) (fun cdv A outer s H vs Q E hr h => ?_)
  · obtain ⟨i, j, rfl, _⟩ := h
    rfl
  · obtain ⟨i, j, rfl, ei, ej, ai, aj, zl, zj, up, fi, fj, fin⟩ := h
    refine ⟨_, (pss_cons (ps_set (i := 2) sc_joint_words.nd rfl (Or.inl rfl) (pe_odisp (Nat.lt_of_le_of_lt (Nat.le_add_right _ _) hr.units) (pe_tup (pa_cons (pe_int) (pa_cons (pe_int) pa_nil))) (pe_str)))
  (pss_cons (ps_set (i := 3) sc_joint_words.nd rfl (Or.inl rfl) (pe_lst (pa_cons (pe_tup (pa_cons (pe_int) (pa_cons (pe_int) pa_nil))) pa_nil)))
  (pss_cons (ps_set (i := 4) sc_joint_words.nd rfl (Or.inl rfl) (pe_int))
  (pss_cons (ps_while PassesOwn.never (pt_cmpR op_lt (pv 4) (pe_callB call_len_seq (by rfl) T.z_len PySem.boot_len (pa_cons (pv 3) pa_nil)) (nomark _)) (pss_cons (ps_set (i := 5) sc_joint_words.nd rfl (Or.inl rfl) (pe_ix ix_list (pv 3) (pv 4) (fun _ _ => rfl)))
  (pss_cons (ps_for PassesOwn.never rfl (pi_zipG (by rfl) Zz (pa_cons (pe_pr P_letters mc.cl (hr.mono (by decide)) (pv 0)) (pa_cons (pe_cl D_next_pairs (hr.mono (by decide)) (pa_cons (pv 0) (pa_cons (pv 1) (pa_cons (pv 5) pa_nil)))) pa_nil))) (pg_tup (by rfl) (pgs_cons (pg_name (i := 6) sc_joint_words.nd rfl (Or.inl rfl)) (pgs_cons (pg_name (i := 7) sc_joint_words.nd rfl (Or.inl rfl)) pgs_nil)))
   (pss_one (ps_if (PW.pt (pw_and (pt_cmpR (op_neD hr.units) (pv 7) (pe_tup (pa_cons (pe_non) (pa_cons (pe_non) pa_nil))) (nomark _)) (pw_and1 (pt_cmp (pc_onotin (hu_of hr) (pv 7) (pv 2)))))) (pss_cons (ps_oput (hu_of hr) (pv 2) (pv 7) (pe_op op_add_str (pe_oget (hu_of hr) (pv 2) (pv 5) (fun _ _ => rfl)) (pv 6)) rfl)
  (pss_one (ps_expr (pe_bm PySem.F.plainAttrs_list PySem.F.slot_list_append PySem.F.type_list_append mt_append (pv 3) (pa_cons (pv 7) pa_nil))))) pss_nil)))
  (pss_one (ps_aug (i := 4) sc_joint_words.nd rfl (Or.inl rfl) (pe_int) ip_add)))))
  (pss_one (ps_ret (pv 2))))))), ?_⟩
    refine fun d hd => ⟨by show 2 ≤ sizeLine; decide, fun q0 hq0 => ?_⟩
    have q0d : q0 ≠ d := fun e => by rw [e, upd_same] at hq0; cases hq0
    have hq00 : H q0 = none := (upd_ne q0d).symm.trans hq0
    refine ⟨(upd_ne q0d.symm).trans upd_same, q0, [some 0, some 0], rfl, upd_same, ?_⟩
    generalize hHb : upd (upd (upd H d _) q0 _) d _ = Hb
    have sb : Same H Hb := by rw [← hHb]; exact swr (swr (sm1 hd) hq00) hd
    have eb0 : Hb q0 = some (.tup [.int 0, .int 0]) := by rw [← hHb]; exact (upd_ne q0d).trans upd_same
    have ebd : Hb d = some (dto P w d [([some 0, some 0], q0, .str "")]) := by rw [← hHb]; exact upd_same
    clear hHb hq0
    refine ⟨by show 2 ≤ sizeLine; decide, fun q1 hq1 => ⟨by show 1 ≤ sizeLine; decide, fun o ho => ?_⟩⟩
    have sc := sm1 (o := .tup [.int 0, .int 0]) hq1
    have sd := sc.trans (sm1 (o := .lst [.ref q1]) ho)
    have ho0 : H o = none := There.of (sb.trans sc) _ ho
    have e1 : (upd (upd Hb q1 (.tup [.int 0, .int 0])) o (.lst [.ref q1])) q1 = some (.tup [.int 0, .int 0]) := (upd_ne (fun e => by rw [← e, upd_same] at ho; cases ho)).trans upd_same
    have S0 : JSt P w H (upd (upd Hb q1 (.tup [.int 0, .int 0])) o (.lst [.ref q1])) d o i.z.cps.toList i.tb j.tb [([some 0, some 0], [])] [q0] [q1] 0 0 := by
      refine ⟨sb.trans sd, Bfs.begin rfl, rfl, rfl, ⟨sd _ _ ebd, fun x hx => ?_⟩, upd_same, fun m p q h1 h2 => ?_⟩
      · rw [List.mem_singleton.mp hx]
        exact sd _ _ eb0
      · cases m with
        | zero =>
          cases h1
          cases h2
          exact e1
        | succ m => cases h1
    generalize upd (upd Hb q1 (.tup [.int 0, .int 0])) o (.lst [.ref q1]) = H1 at S0 ⊢
    clear e1 sc sd ho hq1 ebd eb0 sb Hb
    have big : ∀ {fd at_ k}, Bfs (jstp i.z.cps.toList [i.tb, j.tb]) keepJ (jstart 2) i.z.cps.toList fd at_ k → fd.length ≤ 441 := fun {fd at_ k} B => by
      have := Bfs.few (tbs := [i.tb, j.tb]) (w := i.z.length) (m := 20) B (fun tb ht => ?_) (fun tb ht => ?_) (fun tb ht => ?_)
      · exact this
      all_goals
        rcases List.mem_cons.mp ht with rfl | ht
        · first | exact ai.ok | exact ai.ok.pos | exact fi
        · rw [List.mem_singleton.mp ht]
          first | (rw [← zj]; exact aj.ok) | exact aj.ok.pos | exact fj
    refine while_by (fun σ H' => ∃ (fd : List (KO × List Nat)) (as os : List Addr) (n : Nat) (v5 v6 v7 : Option V), σ = [some (.ref i.x), some (.ref j.x), some (.ref d), some (.ref o), some (.int (n : Int)), v5, v6, v7] ∧ JSt P w H H' d o i.z.cps.toList i.tb j.tb fd as os n 0 ∧ n ≤ fd.length) (fun (σ : L2.St) (_ : Hp) => match σ[4]? with | some (some (V.int n)) => 442 - n.toNat | _ => 0) ?_ ?_ ?_
    · exact ⟨_, _, _, 0, _, _, _, rfl, S0, Nat.zero_le _⟩
    · rintro σ H2 ⟨fd, as, os, n, v5, v6, v7, rfl, S, le⟩
      have fl := big S.B
      refine ⟨_, rfl, _, rfl, o, _, rfl, .inl (SqL.of S.o), _, _, rfl, rfl, _, rfl, ?_⟩
      rw [List.length_map, S.lo]
      by_cases lt : n < fd.length
      · rw [decide_eq_true (by omega)]
        refine iteT ?_
        obtain ⟨p, hp⟩ : ∃ p, fd[n]? = some p := ⟨_, List.getElem?_eq_getElem lt⟩
        obtain ⟨qn, hqn⟩ : ∃ q, os[n]? = some q := ⟨_, List.getElem?_eq_getElem (by rw [S.lo]; exact lt)⟩
        have eqn := S.os n p qn hp hqn
        have pl := S.B.led p (List.mem_of_getElem? hp)
        rw [show jstart 2 = jstart [i.tb, j.tb].length from rfl, j_word] at pl
        have la := led_lt (zs := i.z.cps.toList) ai.ok p.2 (some 0) (fun n e => by cases e; exact ai.ok.pos)
        have lb := led_lt (zs := i.z.cps.toList) aj.ok p.2 (some 0) (fun n e => by cases e; exact aj.ok.pos)
        have pab : p.1 = [ledTo i.z.cps.toList i.tb (some 0) p.2, ledTo i.z.cps.toList j.tb (some 0) p.2] := pl.symm
        clear pl
        generalize ledTo i.z.cps.toList i.tb (some 0) p.2 = a at pab la
        generalize ledTo i.z.cps.toList j.tb (some 0) p.2 = b at pab lb
        rw [pab] at eqn
        have ob := S.same _ _ ai.ob
        rw [ei] at ob
        refine ⟨_, rfl, _, rfl, o, _, (n : Int), .ref qn, rfl, rfl, SqL.of S.o, atI_nat (by rw [List.getElem?_map, hqn]; rfl), ?_⟩
        refine ⟨_, rfl, i.x, i.dx, _, rfl, ob, i.x, i.dx, _, _, rfl, ob, rfl, _, rfl, _, rfl, _, rfl, i, j, qn, a, b, rfl, ei, ej, ai.same S.same, aj.same S.same, zl, by rw [zj], SqT.of eqn, la, lb, fun l ls H3 s3 nl el lsl ent => ?_⟩
        have zsz : i.z.cps.toList.length = i.z.length := Array.length_toList
        have nlo : l ≠ o := fun e => by rw [e, S.o] at nl; cases nl
        have nld : l ≠ d := fun e => by rw [e, S.D.e] at nl; cases nl
        have leno : (Src.lst l (ls.map V.ref)).items.length = (Src.txt i.z).items.length := by
          show (ls.map V.ref).length = (i.z.cps.toList.map _).length
          rw [List.length_map, List.length_map, lsl, zsz]
        refine ⟨.txt i.z, .lst l (ls.map V.ref), rfl, True.intro, SqL.of el, for_it (walk_zipG leno) (fun k σ H' => ∃ (fd2 : List (KO × List Nat)) (as2 os2 : List Addr) (v6 v7 : Option V), σ = [some (.ref i.x), some (.ref j.x), some (.ref d), some (.ref o), some (.int (n : Int)), some (.ref qn), v6, v7] ∧
          JSt P w H H' d o i.z.cps.toList i.tb j.tb fd2 as2 os2 n k ∧ fd2[n]? = some p ∧ H' qn = some (.tup ([a, b].map oV)) ∧ H' l = some (.lst (ls.map V.ref)) ∧
          (∀ (k : Nat) (x y : Option Nat), (rowO i.z.length i.tb a)[k]? = some x → (rowO i.z.length j.tb b)[k]? = some y → ∃ q, ls[k]? = some q ∧ H' q = some (.tup [oV x, oV y]))) ⟨fd, as, os, _, _, rfl, S.mono s3, hp, s3 _ _ eqn, el, ent⟩ (fun k σ H' _ ⟨_, _, _, _, _, _, _, _, _, e, _⟩ => ⟨True.intro, SqL.of e⟩) ?_ ?_⟩
        · rintro k v σ H4 H5 hk ⟨fd2, as2, os2, v6, v7, rfl, S4, hp4, eq4, el4, ent4⟩ ⟨TT, x, y, rfl, hT, rfl, hx, hy⟩
          have hx : (i.z.cps.toList.map fun c => V.str ⟨#[c]⟩)[k]? = some x := hx
          have hy : (ls.map V.ref)[k]? = some y := hy
          rw [List.getElem?_map] at hx hy
          obtain ⟨c, hc, rfl⟩ := Option.map_eq_some_iff.mp hx
          obtain ⟨q, hq, rfl⟩ := Option.map_eq_some_iff.mp hy
          have ra := rowO_at (by rw [zsz]; exact ai.ok) (List.Pairwise.imp (fun h => Nat.ne_of_lt h) up) la hc
          have rb := rowO_at (zs := i.z.cps.toList) (by rw [zsz, ← zj]; exact aj.ok) (List.Pairwise.imp (fun h => Nat.ne_of_lt h) up) lb hc
          rw [zsz] at ra rb
          obtain ⟨q', hq', eqq⟩ := ent4 k _ _ ra rb
          rw [hq] at hq'
          cases hq'
          have jst : jstp i.z.cps.toList [i.tb, j.tb] p.1 c = [stp i.z.cps.toList i.tb a c, stp i.z.cps.toList j.tb b c] := by rw [pab]; rfl
          clear ra rb hx hy
          generalize stp i.z.cps.toList i.tb a c = fa at jst eqq
          generalize stp i.z.cps.toList j.tb b c = fb at jst eqq
          have s5 := sm1 (o := .tup [V.str ⟨#[c]⟩, V.ref q]) hT
          have e5 : (upd H4 TT (.tup [V.str ⟨#[c]⟩, V.ref q])) TT = some (.tup [V.str ⟨#[c]⟩, V.ref q]) := upd_same
          generalize upd H4 TT (.tup [V.str ⟨#[c]⟩, V.ref q]) = H5 at s5 e5 ⊢
          refine ⟨TT, _, rfl, SqT.of e5, rfl, _, _, rfl, _, _, rfl, rfl, _, rfl, by show 2 ≤ sizeLine; decide, fun q2 hq2 => ?_⟩
          have s6 := s5.trans (sm1 (o := .tup [V.non, V.non]) hq2)
          have e6 : (upd H5 q2 (.tup [V.non, V.non])) q2 = some (.tup [V.non, V.non]) := upd_same
          generalize upd H5 q2 (.tup [V.non, V.non]) = H6 at s6 e6 ⊢
          have S6 := S4.mono s6
          have q6 := s6 _ _ eqq
          have n6 := s6 _ _ eq4
          have l6 := s6 _ _ el4
          have ent6 : ∀ (k : Nat) (x y : Option Nat), (rowO i.z.length i.tb a)[k]? = some x → (rowO i.z.length j.tb b)[k]? = some y → ∃ q, ls[k]? = some q ∧ H6 q = some (.tup [oV x, oV y]) := fun k x y h1 h2 => let ⟨q, h3, h4⟩ := ent4 k x y h1 h2; ⟨q, h3, s6 _ _ h4⟩
          refine ⟨.tuple [dOn fa, dOn fb], .tuple [.none, .none], .tup (SqT.of q6) (.cons (dp_oV fa) (.cons (dp_oV fb) .nil)), .tup (SqT.of e6) (.cons .non (.cons .non .nil)), by cases fa <;> cases fb <;> rfl, rfl, _, rfl, ?_⟩
          rw [eqv_nn]
          have fl2 := big S6.B
          clear ent4 el4 eq4 S4 s5 e5 e6 hT hq2 ent s3 el S
          cases hk6 : keepJ [fa, fb] with
          | false => exact iteF ⟨fd2, as2, os2, _, _, rfl, { S6 with B := S6.B.skip up hp4 hc (.inl (by rw [jst]; exact hk6)) }, hp4, n6, l6, ent6⟩
          | true =>
            refine iteT ⟨_, rfl, _, rfl, d, q, _, [fa, fb], rfl, rfl, S6.D, q6, _, rfl, ?_⟩
            rw [kv_is S6.la]
            by_cases mem : [fa, fb] ∈ fd2.map (·.1)
            · rw [decide_eq_true mem]
              exact iteF ⟨fd2, as2, os2, _, _, rfl, { S6 with B := S6.B.skip up hp4 hc (.inr (by rw [jst]; exact mem)) }, hp4, n6, l6, ent6⟩
            · rw [decide_eq_false mem]
              have shrt := S6.B.short n p hp4
              have B2 := S6.B.push up hp4 hc (by rw [jst]; exact hk6) (by rw [jst]; exact mem)
              rw [jst] at B2
              refine iteT ⟨_, rfl, _, rfl, d, qn, _, [a, b], V.str (wS p.2), rfl, rfl, S6.D, n6, by rw [← pab]; exact kv_get S6.la S6.B.nd n p hp4, _, rfl, wS p.2, ⟨#[c]⟩, rfl, rfl, by rw [wS_len, sizeLine_eq]; show p.2.length + 1 ≤ _; omega, ?_⟩
              rw [wS_snoc]
              have G := S6.grow (s := [fa, fb]) (q := q) hd ho0 q6 B2
              have od : o ≠ d := fun e => by have h1 := S6.D.e; rw [← e, S6.o] at h1; cases h1
              refine ⟨_, rfl, _, rfl, d, q, _, [fa, fb], rfl, rfl, S6.D, q6, by rw [kv_len S6.la, sizeLine_eq]; omega, ?_⟩
              have ho6 : (upd H6 d (dto P w d (kvJ (fd2 ++ [([fa, fb], p.2 ++ [c])]) (as2 ++ [q])))) o = some (.lst (os2.map V.ref)) := (upd_ne od).trans S6.o
              have putE : putO (kvJ fd2 as2) [fa, fb] q (V.str (wS (p.2 ++ [c]))) = kvJ (fd2 ++ [([fa, fb], p.2 ++ [c])]) (as2 ++ [q]) := kv_put S6.la mem
              rw [putE]
              have keep : ∀ {x : Addr} {u : HO}, x ≠ d → x ≠ o → H6 x = some u → (upd (upd H6 d (dto P w d (kvJ (fd2 ++ [([fa, fb], p.2 ++ [c])]) (as2 ++ [q])))) o (.lst (os2.map V.ref ++ [V.ref q]))) x = some u := fun {x u} n1 n2 e => (upd_ne n2).trans ((upd_ne n1).trans e)
              have tne : ∀ {x : Addr} {ys : List V}, H6 x = some (.tup ys) → x ≠ d ∧ x ≠ o := fun {x ys} e => ⟨(fun z => by rw [z, S6.D.e] at e; cases e), (fun z => by rw [z, S6.o] at e; cases e)⟩
              refine ⟨_, rfl, .inl ⟨rfl, _, SqL.of ho6⟩, _, rfl, o, _, _, rfl, rfl, ho6, by rw [List.length_map, S6.lo, sizeLine_eq]; omega, ?_⟩
              refine ⟨fd2 ++ [([fa, fb], p.2 ++ [c])], as2 ++ [q], os2 ++ [q], _, _, rfl, G, ?_, keep (tne n6).1 (tne n6).2 n6, keep nld nlo l6, fun k x y h1 h2 => ?_⟩
              · rw [List.getElem?_append_left (List.getElem?_eq_some_iff.mp hp4).1]
                exact hp4
              · obtain ⟨q3, h3, h4⟩ := ent6 k x y h1 h2
                exact ⟨q3, h3, keep (tne h4).1 (tne h4).2 h4⟩
        · rintro σ H4 ⟨fd2, as2, os2, v6, v7, rfl, S4, hp4, eq4, el4, ent4⟩
          have lz : (Src.txt i.z).items.length = i.z.cps.toList.length := List.length_map _
          rw [lz] at S4
          have fl2 := big S4.B
          have lt2 := (List.getElem?_eq_some_iff.mp hp4).1
          refine ⟨_, rfl, _, _, rfl, rfl, ⟨fd2, as2, os2, n + 1, _, _, _, rfl, { S4 with B := S4.B.next }, by omega⟩, ?_⟩
          show 442 - ((n : Int) + 1).toNat < 442 - ((n : Int)).toNat
          omega
      · rw [decide_eq_false (by omega)]
        refine iteF ⟨_, rfl, ?_⟩
        have e : n = fd.length := by omega
        subst e
        exact fin d fd as H2 S.same hd S.B fl S.la S.D
    · intro σ H' Q1 Q2 hQ h
      obtain ⟨v, e, v2, e2, p, xs, ey, hq, n, m, e3, e4, b, eb, q⟩ := h
      exact ⟨v, e, v2, e2, p, xs, ey, hq, n, m, e3, e4, b, eb, hQ _ _ q⟩
end
end Wf
namespace Wf
open PySem PySem.Spec PyProof.Rows L2
/-! mistakes -/
abbrev s_wrong_words : Stmt := top 46
abbrev N_wrong_words : List Str := ["machine", "other", "mark", "pair", "word"]
theorem sc_wrong_words : FnScope N_wrong_words ["machine", "other", "mark"] (defScope s_wrong_words) := ⟨rfl, rfl, rfl, by decide +kernel, rfl, by decide +kernel, by decide +kernel⟩
abbrev s_first_mistake : Stmt := top 45
abbrev N_first_mistake : List Str := ["machine", "one", "other", "mistakes"]
theorem sc_first_mistake : FnScope N_first_mistake ["machine", "one", "other"] (defScope s_first_mistake) := ⟨rfl, rfl, rfl, by decide +kernel, rfl, by decide +kernel, by decide +kernel⟩
abbrev s_separates : Stmt := top 44
abbrev N_separates : List Str := ["machine", "one", "other"]
theorem sc_separates : FnScope N_separates ["machine", "one", "other"] (defScope s_separates) := ⟨rfl, rfl, rfl, by decide +kernel, rfl, by decide +kernel, by decide +kernel⟩
/-- two states show that a word is answered True by the second machine, and not with the mark by the first -/
def badJ (m1 m2 : List (Option Bool)) (m : Bool) : KO → Bool
  | [a, b] => decide (markAt m2 b = some true) && decide (markAt m1 a ≠ some m)
  | _ => false
theorem bad_keep {m1 m2 : List (Option Bool)} {m : Bool} (s : KO) (h : badJ m1 m2 m s = true) : keepJ s = true := by
  match s, h with
  | [a, b], h =>
    have h1 := of_decide_eq_true (Bool.and_eq_true_iff.mp h).1
    refine decide_eq_true fun e => ?_
    have eb : b = none := by
      injection e with _ e
      injection e
    rw [eb] at h1
    cases h1
theorem lst_one {fd : List (KO × List Nat)} {b : KO → Bool} {n : Nat} {p : KO × List Nat} (h : fd[n]? = some p) (hb : b p.1 = true) (no : ∀ m q, m < n → fd[m]? = some q → b q.1 = false) : (fd.find? fun p => b p.1) = some p := by
  obtain ⟨lt, e⟩ := List.getElem?_eq_some_iff.mp h
  refine List.find?_eq_some_iff_append.mpr ⟨hb, fd.take n, fd.drop (n + 1), ?_, fun q hq => ?_⟩
  · rw [← e, ← List.drop_eq_getElem_cons lt, List.take_append_drop]
  · obtain ⟨m, hm⟩ := List.mem_iff_getElem?.mp hq
    have mn : m < n := by
      have := (List.getElem?_eq_some_iff.mp hm).1
      rw [List.length_take] at this
      omega
    rw [List.getElem?_take_of_lt mn] at hm
    rw [no m q mn hm]
    rfl
def wV : Option (List Nat) → List V
  | none => []
  | some w => [.str (wS w)]
def rV : Option (List Nat) → V
  | none => .non
  | some w => .str (wS w)
/-- machines that can be compared -/
structure CmpOk (K : PySem.W.Frag) (C : Addr) (H : Hp) (z : Str) (i : MI) : Prop where
  c : i.C = C
  m : MIat K H i
  z : i.z = z
  few : i.tb.length ≤ 20
theorem CmpOk.same {K : PySem.W.Frag} {C : Addr} {H H' : Hp} {z : Str} {i : MI} (h : CmpOk K C H z i) (s : Same H H') : CmpOk K C H' z i := ⟨h.c, h.m.same s, h.z, h.few⟩
/-- the word leads the machine to this mark -/
def mkOf (z : Str) (i : MI) (v : List Nat) : Option Bool := markAt i.ms (ledTo z.cps.toList i.tb (some 0) v)
def spWrongW (K : PySem.W.Frag) (C : Addr) : Sp := fun vs H Q _ => ∃ (i j : MI) (z : Str) (m : Bool), vs = [.ref i.x, .ref j.x, .bl m] ∧ CmpOk K C H z i ∧ CmpOk K C H z j ∧ z.length ≤ 1000 ∧ z.cps.toList.Pairwise (· < ·) ∧
  ∀ (r : Option (List Nat)) (l : Addr) (H' : Hp), Same H H' → H l = none → H' l = some (.lst (wV r)) → Lst z.cps.toList (fun v => mkOf z j v = some true ∧ mkOf z i v ≠ some m) r → (∀ w, r = some w → w.length ≤ 441) → Q (.ref l) H'
def spFirstM (K : PySem.W.Frag) (C : Addr) : Sp := fun vs H Q _ => ∃ (i j k : MI) (z : Str), vs = [.ref i.x, .ref j.x, .ref k.x] ∧ CmpOk K C H z i ∧ CmpOk K C H z j ∧ CmpOk K C H z k ∧ z.length ≤ 1000 ∧ z.cps.toList.Pairwise (· < ·) ∧
  ∀ (r : Option (List Nat)) (H' : Hp), Same H H' → Lst z.cps.toList (fun v => (mkOf z j v = some true ∧ mkOf z i v ≠ some true) ∨ (mkOf z k v = some true ∧ mkOf z i v ≠ some false)) r → (∀ w, r = some w → w.length ≤ 441) → Q (rV r) H'
def spSepar (K : PySem.W.Frag) (C : Addr) : Sp := fun vs H Q _ => ∃ (i j k : MI) (z : Str), vs = [.ref i.x, .ref j.x, .ref k.x] ∧ CmpOk K C H z i ∧ CmpOk K C H z j ∧ CmpOk K C H z k ∧ z.length ≤ 1000 ∧ z.cps.toList.Pairwise (· < ·) ∧
  ∀ (r : Option (List Nat)) (H' : Hp), Same H H' → Lst z.cps.toList (fun v => (mkOf z j v = some true ∧ mkOf z i v ≠ some true) ∨ (mkOf z k v = some true ∧ mkOf z i v ≠ some false)) r → Q (.bl (decide (r = none))) H'
theorem mV_is {o : Option Bool} {b : Bool} : decide (mV o = V.bl b) = decide (o = some b) := by
  rcases o with _ | a
  · rfl
  · exact decide_eq_decide.mpr ⟨fun e => by cases e; rfl, fun e => by cases e; rfl⟩
theorem scal_mb {o : Option Bool} {b : Bool} : scal (mV o) (V.bl b) = true := by
  rcases o with _ | a <;> rfl
theorem takesF {X : Cx} : Takes X (fun _ _ _ _ => False) := fun u s' ⟨_, _, _, _, _, _, _, _, _, _, _, _, _, _, _, _, w⟩ => w.elim
section
variable {P : Program} {w : World} {K : PySem.W.Frag} {mg : Str → Option Value} {base : Heap} {f : Addr} {fd : FuncData}
theorem ok_wrong_words {C : Addr} (F : Fun K "wrong_words" "wrong_words" s_wrong_words f fd) (T : Txt K mg) (D_joint_words : Dn P w K mg base 7 "joint_words" ["one", "other"] (spJoint P w K C)) (D_mark_at : Dn P w K mg base 3 "mark_at" ["machine", "state"] (spMarkAt K C)) :
    FnOk P w K mg base CX0 8 f fd ["machine", "other", "mark"] (spWrongW K C) := by
  refine F.ok sc_wrong_words (fun vs H Q E h => ?_) (fun cdv A outer s H vs Q E hr h => ?_)
  · obtain ⟨i, j, z, m, rfl, _⟩ := h
    rfl
  · obtain ⟨i, j, z, m, rfl, ci, cj, zl, up, fin⟩ := h
    refine ⟨_, (pss_cons (ps_for PassesOwn.never rfl (pi_itemsO (pe_cl D_joint_words (hr.mono (by decide)) (pa_cons (pv 0) (pa_cons (pv 1) pa_nil)))) (pg_tup (by rfl) (pgs_cons (pg_name (i := 3) sc_wrong_words.nd rfl (Or.inl rfl)) (pgs_cons (pg_name (i := 4) sc_wrong_words.nd rfl (Or.inl rfl)) pgs_nil)))
   (pss_one (ps_if (PW.pt (pw_and (pt_cmpR op_isQ (pe_cl D_mark_at (hr.mono (by decide)) (pa_cons (pv 1) (pa_cons (pe_ix ix_tup (pv 3) (pe_int) (fun _ _ => rfl)) pa_nil))) (pe_bl) (nomark _)) (pw_and1 (pt_cmpR op_ne (pe_cl D_mark_at (hr.mono (by decide)) (pa_cons (pv 0) (pa_cons (pe_ix ix_tup (pv 3) (pe_int) (fun _ _ => rfl)) pa_nil))) (pv 2) (nomark _))))) (pss_one (ps_ret (pe_lst (pa_cons (pv 4) pa_nil)))) pss_nil)))
  (pss_one (ps_ret (pe_lst pa_nil)))), ?_⟩
    have zi := ci.z
    have zj := cj.z
    subst zi
    refine ⟨_, rfl, _, rfl, i, j, rfl, ci.c, cj.c, ci.m, cj.m, zl, zj, up, ci.few, cj.few, fun d fd as H1 s1 nd B few la D => ?_⟩
    refine ⟨d, _, rfl, D.e, fun o => ?_⟩
    generalize hH2 : upd H1 d _ = H2
    have s2 : Same H H2 := by rw [← hH2]; exact swr s1 nd
    have ed : H2 d = some (.frz o (dto P w d (kvJ fd as))) := by rw [← hH2]; exact upd_same
    have keys : ∀ (n : Nat) (p : KO × List Nat) (a : Addr), fd[n]? = some p → as[n]? = some a → H2 a = some (.tup (p.1.map oV)) := fun n p a h1 h2 => by
      have e := D.k (p.1, a, V.str (wS p.2)) (List.mem_of_getElem? (i := n) (by unfold kvJ; rw [List.getElem?_zipWith, h1, h2]))
      have ne : a ≠ d := fun z => by
        have e1 := D.e
        have e : H1 a = _ := e
        rw [z, e1] at e
        cases e
      rw [← hH2]
      exact (upd_ne ne).trans e
    have lk : (kvJ fd as).length = fd.length := kv_len la
    have ai := ci.m
    have aj := cj.m
    refine for_it walk_itemsO (fun n σ H' => ∃ v3 v4 : Option V, σ = [some (.ref i.x), some (.ref j.x), some (.bl m), v3, v4] ∧ Same H2 H' ∧ ∀ q p, q < n → fd[q]? = some p → badJ i.ms j.ms m p.1 = false) ⟨_, _, rfl, same_refl, fun q p h => absurd h (Nat.not_lt_zero _)⟩ (fun n σ H' _ ⟨_, _, _, s, _⟩ => s _ _ ed) ?_ ?_
    · rintro n v σ H3 H4 hn ⟨v3, v4, rfl, s3, no⟩ ⟨TT, x, hx, rfl, hT, rfl⟩
      obtain ⟨p, a0, hp, ha, rfl⟩ : ∃ (p : KO × List Nat) (a : Addr), fd[n]? = some p ∧ as[n]? = some a ∧ x = (p.1, a, V.str (wS p.2)) := by
        unfold kvJ at hx
        rw [List.getElem?_zipWith] at hx
        cases e1 : fd[n]? with
        | none => rw [e1] at hx; cases hx
        | some p =>
          cases e2 : as[n]? with
          | none => rw [e1, e2] at hx; cases hx
          | some a =>
            rw [e1, e2] at hx
            exact ⟨p, a, rfl, rfl, (Option.some.inj hx).symm⟩
      have ek := s3 _ _ (keys n p a0 hp ha)
      have pl := B.led p (List.mem_of_getElem? hp)
      rw [show jstart 2 = jstart [i.tb, j.tb].length from rfl, j_word] at pl
      have la' := led_lt (zs := i.z.cps.toList) ai.ok p.2 (some 0) (fun n e => by cases e; exact ai.ok.pos)
      have lb' := led_lt (zs := i.z.cps.toList) aj.ok p.2 (some 0) (fun n e => by cases e; exact aj.ok.pos)
      have pab : p.1 = [ledTo i.z.cps.toList i.tb (some 0) p.2, ledTo i.z.cps.toList j.tb (some 0) p.2] := pl.symm
      clear pl
      generalize ledTo i.z.cps.toList i.tb (some 0) p.2 = a at pab la'
      generalize ledTo i.z.cps.toList j.tb (some 0) p.2 = b at pab lb'
      rw [pab] at ek
      have s4 := s3.trans (sm1 (o := .tup [V.ref a0, V.str (wS p.2)]) hT)
      have e4 : (upd H3 TT (.tup [V.ref a0, V.str (wS p.2)])) TT = some (.tup [V.ref a0, V.str (wS p.2)]) := upd_same
      have ek4 := sm1 (o := .tup [V.ref a0, V.str (wS p.2)]) hT _ _ ek
      show gTup _ _ _ (V.ref TT) _ (upd H3 TT (.tup [V.ref a0, V.str (wS p.2)])) _
      generalize upd H3 TT (.tup [V.ref a0, V.str (wS p.2)]) = H4 at s4 e4 ek4 ⊢
      have s24 := s2.trans s4
      refine ⟨TT, _, rfl, SqT.of e4, rfl, _, _, rfl, _, _, rfl, rfl, _, rfl, _, rfl, a0, _, 1, oV b, rfl, rfl, SqT.of ek4, rfl, j, b, rfl, cj.c, aj.same s24, lb', true, _, rfl, dq_mV _, _, rfl, ?_⟩
      rw [mV_is]
      have step : badJ i.ms j.ms m p.1 = false → ∀ q r, q < n + 1 → fd[q]? = some r → badJ i.ms j.ms m r.1 = false := fun hb q r lt hr => by
        rcases Nat.lt_succ_iff_lt_or_eq.mp lt with h | rfl
        · exact no q r h hr
        · rw [hp] at hr
          cases hr
          exact hb
      by_cases h1 : markAt j.ms b = some true
      · rw [decide_eq_true h1]
        refine iteT ⟨_, rfl, _, rfl, a0, _, 0, oV a, rfl, rfl, SqT.of ek4, rfl, i, a, rfl, ci.c, ai.same s24, la', _, rfl, scal_mb, _, rfl, ?_⟩
        rw [mV_is]
        by_cases h2 : markAt i.ms a = some m
        · rw [decide_eq_true h2]
          exact iteF ⟨_, _, rfl, s4, step (by rw [pab]; show (decide (markAt j.ms b = some true) && decide (markAt i.ms a ≠ some m)) = false; rw [decide_eq_true h1, decide_eq_false (fun q => q h2)]; rfl)⟩
        · rw [decide_eq_false h2]
          have hb : badJ i.ms j.ms m p.1 = true := by
            rw [pab]
            show (decide _ && decide _) = true
            rw [decide_eq_true h1, decide_eq_true h2]
            rfl
          have L := Bfs.least B keep_stay (bad := badJ i.ms j.ms m) bad_keep
          rw [lst_one hp hb no] at L
          have L2 : Lst i.z.cps.toList (fun v => mkOf i.z j v = some true ∧ mkOf i.z i v ≠ some m) (some p.2) := by
            have eq : ∀ v : List Nat, badJ i.ms j.ms m (v.foldl (jstp i.z.cps.toList [i.tb, j.tb]) (jstart 2)) = true ↔ (mkOf i.z j v = some true ∧ mkOf i.z i v ≠ some m) := fun v => by
              rw [show jstart 2 = jstart [i.tb, j.tb].length from rfl, j_word]
              show (decide _ && decide _) = true ↔ _
              rw [Bool.and_eq_true_iff, decide_eq_true_iff, decide_eq_true_iff]
              exact Iff.rfl
            exact ⟨L.1, (eq _).mp L.2.1, fun v o h => L.2.2 v o ((eq v).mpr h)⟩
          refine iteT ⟨_, rfl, by show 1 ≤ sizeLine; decide, fun l hl => fin (some p.2) l _ (s24.trans (sm1 hl)) (There.of s24 _ hl) upd_same L2 fun w' e => ?_⟩
          cases e
          exact Nat.le_trans (B.short n p hp) (by omega)
      · rw [decide_eq_false h1]
        exact iteF ⟨_, _, rfl, s4, step (by rw [pab]; show (decide _ && _) = false; rw [decide_eq_false h1, Bool.false_and])⟩
    · rintro σ H3 ⟨v3, v4, rfl, s3, no⟩
      rw [lk] at no
      have s23 := s2.trans s3
      refine ⟨Nat.zero_le _, fun l hl => fin none l _ (s23.trans (sm1 hl)) (There.of s23 _ hl) upd_same ?_ nofun⟩
      have L := Bfs.least B keep_stay (bad := badJ i.ms j.ms m) bad_keep
      have ne : (fd.find? fun p => badJ i.ms j.ms m p.1) = none := List.find?_eq_none.mpr fun p hp => by
        obtain ⟨q, hq⟩ := List.mem_iff_getElem?.mp hp
        rw [no q p (List.getElem?_eq_some_iff.mp hq).1 hq]
        exact Bool.false_ne_true
      rw [ne] at L
      intro v o ⟨h1, h2⟩
      refine L v o ?_
      show badJ i.ms j.ms m (v.foldl (jstp i.z.cps.toList [i.tb, j.tb]) (jstart [i.tb, j.tb].length)) = true
      rw [j_word]
      show (decide _ && decide _) = true
      rw [Bool.and_eq_true_iff, decide_eq_true_iff, decide_eq_true_iff]
      exact ⟨h1, h2⟩
theorem ok_first_mistake {C CL CT : Addr} (F : Fun K "first_mistake" "first_mistake" s_first_mistake f fd) (T : Txt K mg) (D_check_compared : DnR P w K mg base 4 "check_compared" (fun vs H Q E => ∃ ws rest, vs = ws ++ rest ∧ ws.length = ([] : List Str).length ∧ rest.length ≤ sizeLine ∧ ∀ p, H p = none → spCmp K C CL CT (ws ++ [V.ref p]) (upd H p (.tup rest)) Q E))
    (D_word_order : Dn P w K mg base 1 "word_order" ["words"] (spOrder K)) (D_wrong_words : Dn P w K mg base 8 "wrong_words" ["machine", "other", "mark"] (spWrongW K C)) :
    FnOk P w K mg base CX0 9 f fd ["machine", "one", "other"] (spFirstM K C) := by
  refine F.ok sc_first_mistake (fun vs H Q E h => ?_) (fun cdv A outer s H vs Q E hr h => ?_)
  · obtain ⟨i, j, k, z, rfl, _⟩ := h
    rfl
  · obtain ⟨i, j, k, z, rfl, ci, cj, ck, zl, up, fin⟩ := h
    refine ⟨_, (pss_cons (ps_expr (pe_clR D_check_compared (hr.mono (by decide)) takesF (pa_cons (pv 0) (pa_cons (pv 1) (pa_cons (pv 2) pa_nil)))))
  (pss_cons (ps_set (i := 3) sc_first_mistake.nd rfl (Or.inl rfl) (pe_cl D_word_order (hr.mono (by decide)) (pa_cons (pe_op op_cat (pe_cl D_wrong_words (hr.mono (by decide)) (pa_cons (pv 0) (pa_cons (pv 1) (pa_cons (pe_bl) pa_nil)))) (pe_cl D_wrong_words (hr.mono (by decide)) (pa_cons (pv 0) (pa_cons (pv 2) (pa_cons (pe_bl) pa_nil))))) pa_nil)))
  (pss_one (ps_ret (pe_ifExp (pt_cmpR (op_neE hr.units) (pv 3) (pe_lst pa_nil) (nomark _)) (pe_ix ix_list (pv 3) (pe_int) (fun _ _ => rfl)) (pe_non)))))), ?_⟩
    have all : ∀ {H' : Hp}, Same H H' → ∀ x ∈ [i, j, k], x.C = C ∧ MIat K H' x ∧ x.z = z ∧ x.ms.length ≤ 20 := fun s x hx => by
      have one : ∀ {y : MI}, CmpOk K C H z y → y.C = C ∧ MIat K _ y ∧ y.z = z ∧ y.ms.length ≤ 20 := fun {y} c => ⟨c.c, c.m.same s, c.z, by rw [c.m.ml]; exact c.few⟩
      simp only [List.mem_cons, List.not_mem_nil, or_false] at hx
      rcases hx with rfl | rfl | rfl
      · exact one ci
      · exact one cj
      · exact one ck
    refine ⟨_, rfl, _, rfl, _, rfl, [], [.ref i.x, .ref j.x, .ref k.x], rfl, rfl, by show 3 ≤ sizeLine; decide, fun p hp => ?_⟩
    have s1 := sm1 (o := .tup [.ref i.x, .ref j.x, .ref k.x]) hp
    have sz : sameZ i [j, k] = true := List.all_eq_true.mpr fun x hx => decide_eq_true (by rw [(all s1 x hx).2.2.1, (all s1 i (by simp)).2.2.1])
    have sf : few20 [i, j, k] = true := List.all_eq_true.mpr fun x hx => decide_eq_true (all s1 x hx).2.2.2
    refine ⟨p, i, [j, k], rfl, SqT.of upd_same, by show 2 ≤ 1000; decide, fun x hx => ⟨(all s1 x hx).1, (all s1 x hx).2.1⟩, fun q => absurd (sz.symm.trans q) (by decide), fun _ q => absurd (sf.symm.trans q) (by decide), fun _ _ H2 s2 => ?_⟩
    have s2 := s1.trans s2
    clear s1 hp
    refine ⟨_, rfl, _, rfl, i, j, z, true, rfl, ci.same s2, cj.same s2, zl, up, fun r1 l1 H3 s3 n1 e1 M1 b1 => ?_⟩
    have s3 := s2.trans s3
    refine ⟨_, rfl, _, rfl, i, k, z, false, rfl, ci.same s3, ck.same s3, zl, up, fun r2 l2 H4 s4 n2 e2 M2 b2 => ?_⟩
    have e14 := s4 _ _ e1
    have s4 := s3.trans s4
    have wl : ∀ r : Option (List Nat), (wV r).length ≤ 1 := fun r => by cases r with | none => exact Nat.zero_le _ | some w => exact Nat.le_refl _
    refine ⟨l1, l2, _, _, rfl, rfl, e14, e2, by have h1 := wl r1; have h2 := wl r2; rw [sizeLine_eq]; omega, fun l3 hl3 => ?_⟩
    have s5 := s4.trans (sm1 (o := .lst (wV r1 ++ wV r2)) hl3)
    obtain ⟨ws, ews, mem⟩ : ∃ ws : List Str, wV r1 ++ wV r2 = ws.map V.str ∧ ws = (r1.toList ++ r2.toList).map wS := ⟨_, by cases r1 <;> cases r2 <;> rfl, rfl⟩
    have lws : ws.length ≤ 2 := by
      rw [mem, List.length_map, List.length_append]
      have tl : ∀ r : Option (List Nat), r.toList.length ≤ 1 := fun r => by cases r with | none => exact Nat.zero_le _ | some w => exact Nat.le_refl _
      have h1 := tl r1
      have h2 := tl r2
      omega
    have mws : ∀ u ∈ ws, ∃ v, u = wS v ∧ (r1 = some v ∨ r2 = some v) := fun u hu => by
      rw [mem] at hu
      obtain ⟨v, hv, rfl⟩ := List.mem_map.mp hu
      refine ⟨v, rfl, (List.mem_append.mp hv).imp (fun h => ?_) fun h => ?_⟩
      · exact Option.mem_toList.mp h
      · exact Option.mem_toList.mp h
    refine ⟨l3, ws, rfl, .inl (SqL.of (by rw [upd_same, ews])), by omega, fun u hu => ?_, fun l4 H5 s6 n4 e4 => ?_⟩
    · obtain ⟨v, rfl, h⟩ := mws u hu
      rw [wS_len]
      exact h.elim (fun h => Nat.le_trans (b1 v h) (by decide)) fun h => Nat.le_trans (b2 v h) (by decide)
    have s6 := s5.trans s6
    have len4 : (wordOrder ws).length ≤ 2 := by rw [order_len]; exact lws
    refine ⟨_, rfl, Nat.zero_le _, fun q hq => ?_⟩
    have s7 := s6.trans (sm1 (o := .lst []) hq)
    have e47 := sm1 (o := .lst []) hq _ _ e4
    refine ⟨l4, q, _, rfl, rfl, SqL.of e47, SqL.of upd_same, _, rfl, ?_⟩
    have ord := order_le (zs := ws)
    have om : ∀ x, x ∈ wordOrder ws ↔ x ∈ ws := fun x => order_mem
    have leLP : ∀ {a b : List Nat}, leP (wS a) (wS b) = true → leL a b := fun {a b} h => by
      rw [leP_eq, decide_eq_true_iff, wS_len, wS_len] at h
      rcases h with h | ⟨h1, h2⟩
      · exact .inl (.inl h)
      · rcases List.le_iff_lt_or_eq.mp h2 with h | h
        · exact .inl (.inr ⟨h1, h⟩)
        · exact .inr h
    have in1 : ∀ v, r1 = some v → wS v ∈ ws := fun v e => by rw [mem, e]; exact List.mem_map.mpr ⟨v, List.mem_append_left _ (List.mem_singleton.mpr rfl), rfl⟩
    have in2 : ∀ v, r2 = some v → wS v ∈ ws := fun v e => by rw [mem, e]; exact List.mem_map.mpr ⟨v, List.mem_append_right _ (List.mem_singleton.mpr rfl), rfl⟩
    generalize wordOrder ws = os at e4 e47 len4 ord om ⊢
    cases os with
    | nil =>
      have no1 : r1 = none := by
        cases r1 with
        | none => rfl
        | some v => exact absurd ((om _).mpr (in1 v rfl)) List.not_mem_nil
      have no2 : r2 = none := by
        cases r2 with
        | none => rfl
        | some v => exact absurd ((om _).mpr (in2 v rfl)) List.not_mem_nil
      rw [no1] at M1
      rw [no2] at M2
      exact iteF (fin none _ s7 (fun v o h => h.elim (M1 v o) (M2 v o)) nofun)
    | cons x os =>
      obtain ⟨v, rfl, hv⟩ := mws x ((om x).mp List.mem_cons_self)
      have hd : ∀ u, wS u ∈ ws → leL v u := fun u hu => by
        rcases List.mem_cons.mp ((om _).mpr hu) with e | m
        · exact .inr (congrArg (fun s : Str => s.cps.toList) e).symm
        · exact leLP ((List.pairwise_cons.mp ord).1 _ m)
      have least : ∀ u, (∀ c ∈ u, c ∈ z.cps.toList) → ((mkOf z j u = some true ∧ mkOf z i u ≠ some true) ∨ (mkOf z k u = some true ∧ mkOf z i u ≠ some false)) → leL v u := fun u o h => by
        rcases h with h | h
        · cases hr1 : r1 with
          | none => rw [hr1] at M1; exact absurd h (M1 u o)
          | some w1 =>
            rw [hr1] at M1
            exact leL_trans (hd w1 (in1 w1 hr1)) (M1.2.2 u o h)
        · cases hr2 : r2 with
          | none => rw [hr2] at M2; exact absurd h (M2 u o)
          | some w2 =>
            rw [hr2] at M2
            exact leL_trans (hd w2 (in2 w2 hr2)) (M2.2.2 u o h)
      have good : (∀ c ∈ v, c ∈ z.cps.toList) ∧ ((mkOf z j v = some true ∧ mkOf z i v ≠ some true) ∨ (mkOf z k v = some true ∧ mkOf z i v ≠ some false)) := by
        rcases hv with h | h
        · rw [h] at M1
          exact ⟨M1.1, .inl M1.2.1⟩
        · rw [h] at M2
          exact ⟨M2.1, .inr M2.2.1⟩
      have bv : v.length ≤ 441 := hv.elim (b1 v) (b2 v)
      refine iteT ⟨_, rfl, l4, _, 0, V.str (wS v), rfl, rfl, SqL.of e47, at_zero, fin (some v) _ s7 ⟨good.1, good.2, least⟩ fun w' e => ?_⟩
      cases e
      exact bv
theorem ok_separates {C : Addr} (F : Fun K "separates" "separates" s_separates f fd) (T : Txt K mg) (D_first_mistake : Dn P w K mg base 9 "first_mistake" ["machine", "one", "other"] (spFirstM K C)) :
    FnOk P w K mg base CX0 10 f fd ["machine", "one", "other"] (spSepar K C) := by
  refine F.ok sc_separates (fun vs H Q E h => ?_) (fun cdv A outer s H vs Q E hr h => ?_)
  · obtain ⟨i, j, k, z, rfl, _⟩ := h
    rfl
  · obtain ⟨i, j, k, z, rfl, ci, cj, ck, zl, up, fin⟩ := h
    refine ⟨_, (pss_one (ps_ret (pe_cmpR op_isN (pe_cl D_first_mistake (hr.mono (by decide)) (pa_cons (pv 0) (pa_cons (pv 1) (pa_cons (pv 2) pa_nil)))) (pe_non) (nomark _)))), ?_⟩
    refine ⟨_, rfl, _, rfl, _, rfl, i, j, k, z, rfl, ci, cj, ck, zl, up, fun r H' s L _ => ⟨rfl, ?_⟩⟩
    have e : decide (rV r = V.non) = decide (r = none) := by
      cases r with
      | none => rfl
      | some w => rfl
    rw [e]
    exact fin r H' s L
end
end Wf
namespace Wf
open PySem PySem.Spec PyProof.Rows L2
/-! the law's own search through several machines at once -/
abbrev s_law_joint : Stmt := top 57
abbrev N_law_joint : List Str := ["plains", "letters", "first", "found", "line", "at", "word", "place", "letter", "later", "plain", "state"]
theorem sc_law_joint : FnScope N_law_joint ["plains"] (defScope s_law_joint) := ⟨rfl, rfl, rfl, by decide +kernel, rfl, by decide +kernel, by decide +kernel⟩
abbrev TMs := List (List (List (Option Nat)) × List (Option Bool))
def tbsOf (tms : TMs) : List (List (List (Option Nat))) := tms.map (·.1)
theorem tbs_len {tms : TMs} : (tbsOf tms).length = tms.length := List.length_map _
/-- several plain tables with the same letters, in a list -/
structure Pls (p : Addr) (H : Hp) (a : Addr) (ts : List Addr) (z : Str) (tms : TMs) : Prop where
  l : H a = some (.lst (ts.map V.ref))
  e : ts.length = tms.length
  t : ∀ (i : Nat) (t : Addr) (tm : List (List (Option Nat)) × List (Option Bool)), ts[i]? = some t → tms[i]? = some tm → PlnAt p H t z tm.1 tm.2
  few : ∀ tm ∈ tms, tm.1.length ≤ 20
theorem Pls.same {p a : Addr} {H H' : Hp} {ts : List Addr} {z : Str} {tms : TMs} (h : Pls p H a ts z tms) (s : Same H H') : Pls p H' a ts z tms :=
  ⟨s _ _ h.l, h.e, fun i t tm e1 e2 => (h.t i t tm e1 e2).same s, h.few⟩
def kT : KO → Bool := fun _ => true
def spLawJoint : Sp := fun vs H Q _ => ∃ (p a : Addr) (ts : List Addr) (z : Str) (tms : TMs), vs = [.ref a] ∧ Pls p H a ts z tms ∧ 0 < tms.length ∧ tms.length ≤ 3 ∧
  ∀ (l : Addr) (fd : List (KO × List Nat)) (fs : List Addr) (H' : Hp), Same H H' → H l = none → Bfs (jstp z.cps.toList (tbsOf tms)) kT (jstart (tbsOf tms).length) z.cps.toList fd fd.length 0 → fd.length ≤ 9261 → H' l = some (.lst (fs.map V.ref)) → fs.length = fd.length →
    (∀ (m : Nat) (p : KO × List Nat) (q : Addr), fd[m]? = some p → fs[m]? = some q → ∃ r, H' q = some (.tup [.ref r, .str (wS p.2)]) ∧ H' r = some (.tup (p.1.map oV))) → Q (.ref l) H'
/-- what stands while they are found -/
structure LSt (H Hc : Hp) (l o : Addr) (zs : List Nat) (tbs : List (List (List (Option Nat)))) (fd : List (KO × List Nat)) (fs os : List Addr) (at_ k : Nat) : Prop where
  same : Same H Hc
  ne : l ≠ o
  B : Bfs (jstp zs tbs) kT (jstart tbs.length) zs fd at_ k
  lf : fs.length = fd.length
  lo : os.length = fd.length
  f : Hc l = some (.lst (fs.map V.ref))
  o : Hc o = some (.lst (os.map V.ref))
  fs : ∀ (m : Nat) (p : KO × List Nat) (q : Addr), fd[m]? = some p → fs[m]? = some q → ∃ r, Hc q = some (.tup [.ref r, .str (wS p.2)]) ∧ Hc r = some (.tup (p.1.map oV))
  os : ∀ (m : Nat) (p : KO × List Nat) (q : Addr), fd[m]? = some p → os[m]? = some q → Hc q = some (.tup (p.1.map oV))
theorem at_snoc {α β : Type} {xs : List α} {ys : List β} {x : α} {y : β} (e : ys.length = xs.length) {m : Nat} {p : α} {q : β} (h1 : (xs ++ [x])[m]? = some p) (h2 : (ys ++ [y])[m]? = some q) : (xs[m]? = some p ∧ ys[m]? = some q) ∨ (p = x ∧ q = y) := by
  by_cases lt : m < xs.length
  · rw [List.getElem?_append_left lt] at h1
    rw [List.getElem?_append_left (by rw [e]; exact lt)] at h2
    exact .inl ⟨h1, h2⟩
  · rw [List.getElem?_append_right (by omega)] at h1
    rw [List.getElem?_append_right (by rw [e]; omega), e] at h2
    generalize m - xs.length = n at h1 h2
    cases n with
    | zero =>
      cases h1
      cases h2
      exact .inr ⟨rfl, rfl⟩
    | succ n => cases h1
section
variable {H Hc Hd : Hp} {l o : Addr} {zs : List Nat} {tbs : List (List (List (Option Nat)))} {fd : List (KO × List Nat)} {fs os : List Addr} {at_ k : Nat} {s : KO} {v : List Nat}
theorem LSt.mono (S : LSt H Hc l o zs tbs fd fs os at_ k) (g : Same Hc Hd) : LSt H Hd l o zs tbs fd fs os at_ k :=
  ⟨S.same.trans g, S.ne, S.B, S.lf, S.lo, g _ _ S.f, g _ _ S.o, fun m p q h1 h2 => let ⟨r, e1, e2⟩ := S.fs m p q h1 h2; ⟨r, g _ _ e1, g _ _ e2⟩, fun m p q h1 h2 => g _ _ (S.os m p q h1 h2)⟩
theorem LSt.grow (S : LSt H Hc l o zs tbs fd fs os at_ k) {q2 q3 q4 : Addr} (same : Same H Hd) (tups : ∀ (b : Addr) (ys : List V), Hc b = some (.tup ys) → Hd b = some (.tup ys)) (eo : Hd o = some (.lst (os.map V.ref ++ [.ref q2]))) (ef : Hd l = some (.lst (fs.map V.ref ++ [.ref q4])))
    (e2 : Hd q2 = some (.tup (s.map oV))) (e3 : Hd q3 = some (.tup (s.map oV))) (e4 : Hd q4 = some (.tup [.ref q3, .str (wS v)])) (B : Bfs (jstp zs tbs) kT (jstart tbs.length) zs (fd ++ [(s, v)]) at_ (k + 1)) : LSt H Hd l o zs tbs (fd ++ [(s, v)]) (fs ++ [q4]) (os ++ [q2]) at_ (k + 1) := by
  refine ⟨same, S.ne, B, by rw [List.length_append, List.length_append, S.lf]; rfl, by rw [List.length_append, List.length_append, S.lo]; rfl, by rw [ef, List.map_append]; rfl, by rw [eo, List.map_append]; rfl, fun m p q h1 h2 => ?_, fun m p q h1 h2 => ?_⟩
  · rcases at_snoc S.lf h1 h2 with ⟨h1, h2⟩ | ⟨rfl, rfl⟩
    · obtain ⟨r, g1, g2⟩ := S.fs m p q h1 h2
      exact ⟨r, tups _ _ g1, tups _ _ g2⟩
    · exact ⟨q3, e4, e3⟩
  · rcases at_snoc S.lo h1 h2 with ⟨h1, h2⟩ | ⟨rfl, rfl⟩
    · exact tups _ _ (S.os m p q h1 h2)
    · exact e2
end
theorem jst_take {zs : List Nat} {tbs : List (List (List (Option Nat)))} {ss : KO} {c m : Nat} {tb : List (List (Option Nat))} {s : Option Nat} (h1 : tbs[m]? = some tb) (h2 : ss[m]? = some s) : (jstp zs tbs ss c)[m]? = some (stp zs tb s c) := by
  unfold jstp
  rw [List.getElem?_zipWith, h1, h2]
section
variable {P : Program} {w : World} {K : PySem.W.Frag} {mg : Str → Option Value} {base : Heap} {f : Addr} {fd : FuncData}
theorem ok_joint (F : Fun K "_law_joint" "_law_joint" s_law_joint f fd) (T : Txt K mg) (Zz : mg "zip" = none) :
    FnOk P w K mg base CX0 2 f fd ["plains"] spLawJoint := by
  refine F.ok sc_law_joint (fun vs H Q E h => ?_) (fun cdv A outer s H vs Q E hr h => ?_)
  · obtain ⟨p, a, ts, z, tms, rfl, _⟩ := h
    rfl
  · obtain ⟨pn, a, ts, z, tms, rfl, pls, pos, t3, fin⟩ := h
    refine ⟨_, (pss_cons (ps_par (i := 1) (j := 2) (by rfl) sc_law_joint.nd rfl rfl (by decide) rfl rfl (pa_cons (pe_ix ix_tup (pe_ix ix_list (pv 0) (pe_int) (fun _ _ => rfl)) (pe_int) (fun _ _ => rfl)) (pa_cons (pe_callTy call_tuple_of (by rfl) T.z_tuple (by decide +kernel) (pa_cons (pe_op op_rep (pe_lst (pa_cons (pe_int) pa_nil)) (pe_callB call_len_seq (by rfl) T.z_len PySem.boot_len (pa_cons (pv 0) pa_nil))) pa_nil)) pa_nil)) (by rfl))
  (pss_cons (ps_par3 (i := 3) (j := 4) (l := 5) rfl sc_law_joint.nd rfl rfl rfl (by decide) (by decide) (by decide) rfl rfl rfl (pa_cons (pe_lst (pa_cons (pe_tup (pa_cons (pv 2) (pa_cons (pe_str) pa_nil))) pa_nil)) (pa_cons (pe_lst (pa_cons (pv 2) pa_nil)) (pa_cons (pe_int) pa_nil))) (by rfl))
  (pss_cons (ps_while PassesOwn.never (pt_cmpR op_lt (pv 5) (pe_callB call_len_seq (by rfl) T.z_len PySem.boot_len (pa_cons (pv 4) pa_nil)) (nomark _)) (pss_cons (ps_set (i := 6) sc_law_joint.nd rfl (Or.inl rfl) (pe_ix ix_tup (pe_ix ix_list (pv 3) (pv 5) (fun _ _ => rfl)) (pe_int) (fun _ _ => rfl)))
  (pss_cons (ps_for PassesOwn.never rfl (pi_enG (by rfl) T.z_enumerate (pa_cons (pv 1) pa_nil)) (pg_tup (by rfl) (pgs_cons (pg_name (i := 7) sc_law_joint.nd rfl (Or.inl rfl)) (pgs_cons (pg_name (i := 8) sc_law_joint.nd rfl (Or.inl rfl)) pgs_nil)))
   (pss_cons (ps_set (i := 9) sc_law_joint.nd rfl (Or.inl rfl) (pe_lst pa_nil))
  (pss_cons (ps_for PassesOwn.never rfl (pi_zipG (by rfl) Zz (pa_cons (pv 0) (pa_cons (pe_ix ix_list (pv 4) (pv 5) (fun _ _ => rfl)) pa_nil))) (pg_tup (by rfl) (pgs_cons (pg_name (i := 10) sc_law_joint.nd rfl (Or.inl rfl)) (pgs_cons (pg_name (i := 11) sc_law_joint.nd rfl (Or.inl rfl)) pgs_nil)))
   (pss_one (ps_expr (pe_bm PySem.F.plainAttrs_list PySem.F.slot_list_append PySem.F.type_list_append mt_append (pv 9) (pa_cons (pe_ifExp (pt_cmpR op_isN (pv 11) (pe_non) (nomark _)) (pe_non) (pe_ix ix_list (pe_ix ix_list (pe_ix ix_tup (pv 10) (pe_int) (fun _ _ => rfl)) (pv 11) (fun _ _ => rfl)) (pv 7) (fun _ _ => rfl))) pa_nil)))))
  (pss_one (ps_if (pt_cmpR (op_notInO hr.units) (pe_callTy call_tuple_of (by rfl) T.z_tuple (by decide +kernel) (pa_cons (pv 9) pa_nil)) (pv 4) (by rfl)) (pss_cons (ps_expr (pe_bm PySem.F.plainAttrs_list PySem.F.slot_list_append PySem.F.type_list_append mt_append (pv 4) (pa_cons (pe_callTy call_tuple_of (by rfl) T.z_tuple (by decide +kernel) (pa_cons (pv 9) pa_nil)) pa_nil)))
  (pss_one (ps_expr (pe_bm PySem.F.plainAttrs_list PySem.F.slot_list_append PySem.F.type_list_append mt_append (pv 3) (pa_cons (pe_tup (pa_cons (pe_callTy call_tuple_of (by rfl) T.z_tuple (by decide +kernel) (pa_cons (pv 9) pa_nil)) (pa_cons (pe_op op_add_str (pv 6) (pv 8)) pa_nil))) pa_nil))))) pss_nil)))))
  (pss_one (ps_set (i := 5) sc_law_joint.nd rfl (Or.inl rfl) (pe_op op_add (pv 5) (pe_int)))))))
  (pss_one (ps_ret (pv 3)))))), ?_⟩
    obtain ⟨t0, ht0⟩ : ∃ t, ts[0]? = some t := ⟨_, List.getElem?_eq_getElem (by rw [pls.e]; exact pos)⟩
    obtain ⟨tm0, htm0⟩ : ∃ t, tms[0]? = some t := ⟨_, List.getElem?_eq_getElem pos⟩
    have pl0 := pls.t 0 t0 tm0 ht0 htm0
    have up : z.cps.toList.Pairwise (· < ·) := pl0.g.lz.1
    have nd : z.cps.toList.Nodup := List.Pairwise.imp (fun h => Nat.ne_of_lt h) up
    obtain ⟨r0, m0, bs0, et0, _⟩ := pl0.ex
    have tl : (tbsOf tms).length = tms.length := tbs_len
    have tlen : (ts.map V.ref).length = tms.length := by rw [List.length_map, pls.e]
    refine ⟨_, rfl, a, _, 0, .ref t0, rfl, rfl, SqL.of pls.l, (show atI (ts.map V.ref) ((0 : Nat) : Int) = some (V.ref t0) from atI_nat (by rw [List.getElem?_map, ht0]; rfl)), t0, _, 0, .str z, rfl, rfl, SqT.of et0, rfl, ?_⟩
    refine ⟨by show 1 ≤ sizeLine; decide, fun q1 hq1 => ?_⟩
    have s1 := sm1 (o := .lst [.int 0]) hq1
    refine ⟨_, rfl, a, _, rfl, .inl (SqL.of (s1 _ _ pls.l)), q1, _, _, rfl, rfl, upd_same, by omega, by rw [tlen]; omega, by rw [tlen, sizeLine_eq]; show 1 * _ ≤ _; rw [Int.toNat_natCast]; omega, fun q2 hq2 => ?_⟩
    have er : (List.replicate (((ts.map V.ref).length : Nat) : Int).toNat [V.int 0]).flatten = (jstart (tbsOf tms).length).map oV := by
      rw [Int.toNat_natCast, tlen, tl]
      unfold jstart
      rw [List.map_replicate, List.flatten_replicate_singleton]
      rfl
    rw [er]
    have s2 := s1.trans (sm1 (o := .lst ((jstart (tbsOf tms).length).map oV)) hq2)
    refine ⟨q2, _, rfl, .inl ⟨SqL.of upd_same, fun q3 hq3 => ⟨_, _, rfl, ?_⟩⟩⟩
    have s3 := s2.trans (sm1 (o := .tup ((jstart (tbsOf tms).length).map oV)) hq3)
    have e3 : (upd (upd (upd H q1 (.lst [.int 0])) q2 (.lst ((jstart (tbsOf tms).length).map oV))) q3 (.tup ((jstart (tbsOf tms).length).map oV))) q3 = some (.tup ((jstart (tbsOf tms).length).map oV)) := upd_same
    generalize upd (upd (upd H q1 (.lst [.int 0])) q2 (.lst ((jstart (tbsOf tms).length).map oV))) q3 (.tup ((jstart (tbsOf tms).length).map oV)) = H3 at s3 e3 ⊢
    clear s1 s2 hq1 hq2 hq3
    refine ⟨_, rfl, by show 2 ≤ sizeLine; decide, fun q4 hq4 => ⟨by show 1 ≤ sizeLine; decide, fun l hl => ⟨_, rfl, by show 1 ≤ sizeLine; decide, fun o ho => ⟨_, _, _, rfl, ?_⟩⟩⟩⟩
    have s4 := s3.trans (sm1 (o := .tup [.ref q3, .str ""]) hq4)
    have e34 := sm1 (o := .tup [.ref q3, .str ""]) hq4 _ _ e3
    have e44 : (upd H3 q4 (.tup [.ref q3, .str ""])) q4 = some (.tup [.ref q3, .str ""]) := upd_same
    have hl0 : H l = none := There.of s4 _ hl
    generalize upd H3 q4 (.tup [.ref q3, .str ""]) = H4 at s4 e34 e44 hl ho ⊢
    have s5 := s4.trans (sm1 (o := .lst [.ref q4]) hl)
    have e35 := sm1 (o := .lst [.ref q4]) hl _ _ e34
    have e45 := sm1 (o := .lst [.ref q4]) hl _ _ e44
    have el5 : (upd H4 l (.lst [.ref q4])) l = some (.lst [.ref q4]) := upd_same
    have ho0 : H o = none := There.of s5 _ ho
    generalize upd H4 l (.lst [.ref q4]) = H5 at s5 e35 e45 el5 ho ⊢
    have s6 := sm1 (o := .lst [.ref q3]) ho
    have S0 : LSt H (upd H5 o (.lst [.ref q3])) l o z.cps.toList (tbsOf tms) [(jstart (tbsOf tms).length, [])] [q4] [q3] 0 0 := by
      refine ⟨s5.trans s6, ne_of_none el5 ho, Bfs.begin rfl, rfl, rfl, s6 _ _ el5, upd_same, fun m p q h1 h2 => ?_, fun m p q h1 h2 => ?_⟩
      · cases m with
        | zero =>
          cases h1
          cases h2
          exact ⟨q3, s6 _ _ e45, s6 _ _ e35⟩
        | succ m => cases h1
      · cases m with
        | zero =>
          cases h1
          cases h2
          exact s6 _ _ e35
        | succ m => cases h1
    generalize upd H5 o (.lst [.ref q3]) = H6 at S0 ⊢
    clear s6 s5 s4 s3 e35 e45 e34 e44 e3 el5 hl hq4 ho et0
    have okm : ∀ (i : Nat) (tm : List (List (Option Nat)) × List (Option Bool)), tms[i]? = some tm → TbG z tm.1 tm.2 := fun i tm e => by
      obtain ⟨t, ht⟩ : ∃ t, ts[i]? = some t := ⟨_, List.getElem?_eq_getElem (by rw [pls.e]; exact (List.getElem?_eq_some_iff.mp e).1)⟩
      exact (pls.t i t tm ht e).g
    have okt : ∀ tb ∈ tbsOf tms, TbOk z.length tb ∧ tb.length ≤ 20 := fun tb ht => by
      obtain ⟨tm, hm, rfl⟩ := List.mem_map.mp ht
      obtain ⟨i, hi⟩ := List.mem_iff_getElem?.mp hm
      exact ⟨(okm i tm hi).ok, pls.few tm hm⟩
    have big : ∀ {fd at_ k}, Bfs (jstp z.cps.toList (tbsOf tms)) kT (jstart (tbsOf tms).length) z.cps.toList fd at_ k → fd.length ≤ 9261 := fun {fd at_ k} B => by
      have h1 := Bfs.few (w := z.length) (m := 20) B (fun tb ht => (okt tb ht).1) (fun tb ht => (okt tb ht).1.pos) (fun tb ht => (okt tb ht).2)
      refine Nat.le_trans h1 ?_
      rw [tl]
      exact Nat.le_trans (Nat.pow_le_pow_right (by decide) t3) (by decide)
    have zsz : z.cps.toList.length = z.length := Array.length_toList
    refine while_by (fun σ H' => ∃ (fd : List (KO × List Nat)) (fs os : List Addr) (n : Nat) (v6 v7 v8 v9 v10 v11 : Option V), σ = [some (.ref a), some (.str z), some (.ref q3), some (.ref l), some (.ref o), some (.int (n : Int)), v6, v7, v8, v9, v10, v11] ∧ LSt H H' l o z.cps.toList (tbsOf tms) fd fs os n 0 ∧ n ≤ fd.length) (fun (σ : L2.St) (_ : Hp) => match σ[5]? with | some (some (V.int n)) => 9262 - n.toNat | _ => 0) ?_ ?_ ?_
    · exact ⟨_, _, _, 0, _, _, _, _, _, _, rfl, S0, Nat.zero_le _⟩
    · rintro σ H7 ⟨fd, fs, os, n, v6, v7, v8, v9, v10, v11, rfl, S, le⟩
      have fl := big S.B
      refine ⟨_, rfl, _, rfl, o, _, rfl, .inl (SqL.of S.o), _, _, rfl, rfl, _, rfl, ?_⟩
      rw [List.length_map, S.lo]
      by_cases lt : n < fd.length
      · rw [decide_eq_true (by omega)]
        refine iteT ?_
        obtain ⟨p, hp⟩ : ∃ p, fd[n]? = some p := ⟨_, List.getElem?_eq_getElem lt⟩
        obtain ⟨qn, hqn⟩ : ∃ q, fs[n]? = some q := ⟨_, List.getElem?_eq_getElem (by rw [S.lf]; exact lt)⟩
        obtain ⟨rn, eqn, ern⟩ := S.fs n p qn hp hqn
        have pl := S.B.led p (List.mem_of_getElem? hp)
        rw [j_word] at pl
        have plen : p.1.length = (tbsOf tms).length := by rw [← pl, List.length_map]
        have plt : ∀ (i : Nat) (tb : List (List (Option Nat))) (s : Option Nat), (tbsOf tms)[i]? = some tb → p.1[i]? = some s → ∀ m, s = some m → m < tb.length := fun i tb s h1 h2 m e => by
          rw [← pl, List.getElem?_map, h1] at h2
          have tm := (okt tb (List.mem_of_getElem? h1)).1
          exact led_lt (zs := z.cps.toList) tm p.2 (some 0) (fun n e => by cases e; exact tm.pos) m ((Option.some.inj h2).trans e)
        have shrt := S.B.short n p hp
        refine ⟨_, rfl, _, rfl, l, _, (n : Int), .ref qn, rfl, rfl, SqL.of S.f, atI_nat (by rw [List.getElem?_map, hqn]; rfl), qn, _, 1, .str (wS p.2), rfl, rfl, SqT.of eqn, rfl, ?_⟩
        have sizes : (Src.txt z).items.length = z.length := by show (z.cps.toList.map _).length = _; rw [List.length_map, zsz]
        refine ⟨_, rfl, .txt z, rfl, True.intro, for_it walk_enumG (fun k σ H' => ∃ (fd2 : List (KO × List Nat)) (fs2 os2 : List Addr) (v7 v8 v9 v10 v11 : Option V), σ = [some (.ref a), some (.str z), some (.ref q3), some (.ref l), some (.ref o), some (.int (n : Int)), some (.str (wS p.2)), v7, v8, v9, v10, v11] ∧
          LSt H H' l o z.cps.toList (tbsOf tms) fd2 fs2 os2 n k ∧ fd2[n]? = some p) ⟨fd, fs, os, _, _, _, _, _, rfl, S, hp⟩ (fun k σ H' _ _ => True.intro) ?_ ?_⟩
        · rintro k v σ H8 H9 hk ⟨fd2, fs2, os2, v7, v8, v9, v10, v11, rfl, S8, hp8⟩ ⟨TT, x, y, rfl, hT, rfl, hx, hy⟩
          have hy : (z.cps.toList.map fun c => V.str ⟨#[c]⟩)[k]? = some y := hy
          rw [List.getElem?_map] at hy
          obtain ⟨c, hc, rfl⟩ := Option.map_eq_some_iff.mp hy
          cases hx
          have s9 := sm1 (o := .tup [V.int (k : Nat), V.str ⟨#[c]⟩]) hT
          have e9 : (upd H8 TT (.tup [V.int (k : Nat), V.str ⟨#[c]⟩])) TT = some (.tup [V.int (k : Nat), V.str ⟨#[c]⟩]) := upd_same
          generalize upd H8 TT (.tup [V.int (k : Nat), V.str ⟨#[c]⟩]) = H9 at s9 e9 ⊢
          have S9 := S8.mono s9
          refine ⟨TT, _, rfl, SqT.of e9, rfl, _, _, rfl, _, _, rfl, rfl, ?_⟩
          clear S8 s9 e9 hT hy
          refine ⟨Nat.zero_le _, fun lt hlt => ?_⟩
          obtain ⟨qo, hqo⟩ : ∃ q, os2[n]? = some q := ⟨_, List.getElem?_eq_getElem (by rw [S9.lo]; exact (List.getElem?_eq_some_iff.mp hp8).1)⟩
          have eqo := S9.os n p qo hp8 hqo
          have s10 := sm1 (o := .lst []) hlt
          have S10 := S9.mono s10
          have pls10 := pls.same S10.same
          have kz : k < z.cps.toList.length := (List.getElem?_eq_some_iff.mp hc).1
          have sz2 : (p.1.map oV).length = (ts.map V.ref).length := by rw [List.length_map, plen, tl, tlen]
          refine ⟨_, rfl, _, rfl, _, rfl, o, _, (n : Int), .ref qo, rfl, rfl, SqL.of S10.o, atI_nat (by rw [List.getElem?_map, hqo]; rfl), .lst a (ts.map V.ref), .tup qo (p.1.map oV), rfl, SqL.of pls10.l, SqT.of (s10 _ _ eqo), for_it (walk_zipG (S1 := .lst a (ts.map V.ref)) (S2 := .tup qo (p.1.map oV)) sz2) (fun m σ H' => ∃ (v10 v11 : Option V), σ = [some (.ref a), some (.str z), some (.ref q3), some (.ref l), some (.ref o), some (.int (n : Int)), some (.str (wS p.2)), some (.int (k : Nat)), some (.str ⟨#[c]⟩), some (.ref lt), v10, v11] ∧
            Same H9 H' ∧ H' lt = some (.lst (((jstp z.cps.toList (tbsOf tms) p.1 c).take m).map oV))) ⟨_, _, rfl, s10, upd_same⟩ (fun m σ H' _ ⟨_, _, _, e, _⟩ => ⟨SqL.of ((S9.mono e).same _ _ pls.l), SqT.of (e _ _ eqo)⟩) ?_ ?_⟩
          · rintro m v σ H10 H11 hm ⟨v10, v11, rfl, s11, elt⟩ ⟨T2, x, y, rfl, hT2, rfl, hx, hy⟩
            have hx : (ts.map V.ref)[m]? = some x := hx
            have hy : (p.1.map oV)[m]? = some y := hy
            rw [List.getElem?_map] at hx hy
            obtain ⟨t, ht, rfl⟩ := Option.map_eq_some_iff.mp hx
            obtain ⟨st, hst, rfl⟩ := Option.map_eq_some_iff.mp hy
            obtain ⟨tm, htm⟩ : ∃ tm, tms[m]? = some tm := ⟨_, List.getElem?_eq_getElem (by rw [← pls.e]; exact (List.getElem?_eq_some_iff.mp ht).1)⟩
            have htb : (tbsOf tms)[m]? = some tm.1 := by unfold tbsOf; rw [List.getElem?_map, htm]; rfl
            have nx := jst_take (zs := z.cps.toList) (c := c) htb hst
            have lst := plt m tm.1 st htb hst
            have s12 := s11.trans (sm1 (o := .tup [V.ref t, oV st]) hT2)
            have elt2 := sm1 (o := .tup [V.ref t, oV st]) hT2 _ _ elt
            have e12 : (upd H10 T2 (.tup [V.ref t, oV st])) T2 = some (.tup [V.ref t, oV st]) := upd_same
            generalize upd H10 T2 (.tup [V.ref t, oV st]) = H12 at s12 elt2 e12 ⊢
            refine ⟨T2, _, rfl, SqT.of e12, rfl, _, _, rfl, _, _, rfl, rfl, ?_⟩
            have jl : m < (jstp z.cps.toList (tbsOf tms) p.1 c).length := (List.getElem?_eq_some_iff.mp nx).1
            have tk : ((jstp z.cps.toList (tbsOf tms) p.1 c).take (m + 1)).map oV = ((jstp z.cps.toList (tbsOf tms) p.1 c).take m).map oV ++ [oV (stp z.cps.toList tm.1 st c)] := by
              rw [List.take_succ, nx, List.map_append]
              rfl
            have bnd : (((jstp z.cps.toList (tbsOf tms) p.1 c).take m).map oV).length + 1 ≤ sizeLine := by
              have := jstp_len (zs := z.cps.toList) (c := c) plen
              rw [List.length_map, List.length_take, sizeLine_eq]
              omega
            have done : ∀ H13, H13 = upd H12 lt (.lst (((jstp z.cps.toList (tbsOf tms) p.1 c).take m).map oV ++ [oV (stp z.cps.toList tm.1 st c)])) → Same H9 H13 ∧ H13 lt = some (.lst (((jstp z.cps.toList (tbsOf tms) p.1 c).take (m + 1)).map oV)) := fun H13 e => by
              subst e
              exact ⟨swr s12 hlt, by rw [upd_same, tk]⟩
            refine ⟨_, rfl, .inl ⟨rfl, _, SqL.of elt2⟩, _, rfl, rfl, _, rfl, ?_⟩
            cases st with
            | none =>
              refine iteT ⟨lt, _, _, rfl, rfl, elt2, bnd, ?_⟩
              exact ⟨_, _, rfl, done _ rfl⟩
            | some sn =>
              have ln := lst sn rfl
              obtain ⟨r1, m1, bs1, et1, ls1⟩ := ((pls.same (S9.same.trans s12)).t m t tm ht htm).ex
              have g1 := okm m tm htm
              have hrow : tm.1[sn]? = some (tm.1[sn]'ln) := List.getElem?_eq_getElem _
              have lbs : sn < bs1.length := by rw [ls1.e]; exact ln
              have hb1 : bs1[sn]? = some (bs1[sn]'lbs) := List.getElem?_eq_getElem lbs
              have erow := ls1.r sn _ _ hb1 hrow
              have ra := rowO_at (zs := z.cps.toList) (by rw [zsz]; exact g1.ok) nd (s := some sn) (fun n e => by cases e; exact ln) hc
              rw [show rowO z.cps.toList.length tm.1 (some sn) = tm.1[sn]'ln from by show tm.1.getD sn [] = _; rw [List.getD_eq_getElem?_getD, hrow]; rfl] at ra
              refine iteF ⟨_, rfl, t, _, 1, .ref r1, rfl, rfl, SqT.of et1, rfl, _, rfl, r1, _, (sn : Int), .ref (bs1[sn]'lbs), rfl, rfl, SqL.of ls1.l, atI_nat (by rw [List.getElem?_map, hb1]; rfl), _, rfl, bs1[sn]'lbs, _, (k : Int), oV (stp z.cps.toList tm.1 (some sn) c), rfl, rfl, SqL.of erow, atI_nat (by rw [List.getElem?_map, ra]; rfl), lt, _, _, rfl, rfl, elt2, bnd, ?_⟩
              exact ⟨_, _, rfl, done _ rfl⟩
          · rintro σ H10 ⟨v10, v11, rfl, s11, elt⟩
            have jl := jstp_len (zs := z.cps.toList) (c := c) plen
            rw [show (Src.lst a (ts.map V.ref)).items.length = (jstp z.cps.toList (tbsOf tms) p.1 c).length from by show (ts.map V.ref).length = _; rw [jl, tlen, tl], List.take_length] at elt
            have SA := S9.mono s11
            have hps : ((jstp z.cps.toList (tbsOf tms) p.1 c).map oV).length ≤ 3 := by rw [List.length_map, jl, tl]; exact t3
            generalize hnew : jstp z.cps.toList (tbsOf tms) p.1 c = nw at elt hps jl
            refine ⟨_, rfl, lt, _, rfl, .inl ⟨SqL.of elt, fun qa hqa => ?_⟩⟩
            have sa := sm1 (o := .tup (nw.map oV)) hqa
            have SB := SA.mono sa
            have ela := sa _ _ elt
            have ea : (upd H10 qa (.tup (nw.map oV))) qa = some (.tup (nw.map oV)) := upd_same
            generalize upd H10 qa (.tup (nw.map oV)) = HB at sa SB ela ea ⊢
            refine ⟨_, rfl, qa, o, os2, fd2.map (·.1), nw, rfl, rfl, SqT.of ea, SqL.of SB.o, by rw [List.length_map, SB.lo], fun i b ks h1 h2 => ?_, _, rfl, ?_⟩
            · rw [List.getElem?_map] at h2
              obtain ⟨pp, hpp, rfl⟩ := Option.map_eq_some_iff.mp h2
              exact SqT.of (SB.os i pp b hpp h1)
            show ite _ _ _
            have fl2 := big SB.B
            clear SA S10 s11 sa hqa elt pls10 s10
            by_cases mem : nw ∈ fd2.map (·.1)
            · rw [decide_eq_true mem]
              exact iteF ⟨fd2, fs2, os2, _, _, _, _, _, rfl, { SB with B := SB.B.skip up hp8 hc (.inr (by rw [hnew]; exact mem)) }, hp8⟩
            · rw [decide_eq_false mem]
              have B2 := SB.B.push up hp8 hc (by rfl) (by rw [hnew]; exact mem)
              rw [hnew] at B2
              refine iteT ⟨_, rfl, .inl ⟨rfl, _, SqL.of SB.o⟩, _, rfl, lt, _, rfl, .inl ⟨SqL.of ela, fun qb hqb => ?_⟩⟩
              have sc := sm1 (o := .tup (nw.map oV)) hqb
              have SC := SB.mono sc
              have elc := sc _ _ ela
              have ec : (upd HB qb (.tup (nw.map oV))) qb = some (.tup (nw.map oV)) := upd_same
              generalize upd HB qb (.tup (nw.map oV)) = HC at SC elc ec ⊢
              refine ⟨o, _, _, rfl, rfl, SC.o, by rw [List.length_map, SC.lo, sizeLine_eq]; omega, ?_⟩
              have ol : l ≠ o := SC.ne
              have lto : lt ≠ o := (ne_of_none S9.o hlt).symm
              have ltl : lt ≠ l := (ne_of_none S9.f hlt).symm
              obtain ⟨HD, hHD⟩ : ∃ HD, HD = upd HC o (.lst (os2.map V.ref ++ [V.ref qb])) := ⟨_, rfl⟩
              have tD : ∀ (b : Addr) (ys : List V), HC b = some (.tup ys) → HD b = some (.tup ys) := fun b ys e => by
                rw [hHD]
                refine (upd_ne fun z => ?_).trans e
                rw [z, SC.o] at e
                cases e
              have oD : HD o = some (.lst (os2.map V.ref ++ [V.ref qb])) := by rw [hHD]; exact upd_same
              have lD : HD l = some (.lst (fs2.map V.ref)) := by rw [hHD]; exact (upd_ne ol).trans SC.f
              have ltD : HD lt = some (.lst (nw.map oV)) := by rw [hHD]; exact (upd_ne lto).trans elc
              have sD : Same H HD := by rw [hHD]; exact swr SC.same ho0
              rw [← hHD]
              have ec := tD _ _ ec
              clear hHD
              refine ⟨_, rfl, .inl ⟨rfl, _, SqL.of lD⟩, _, rfl, lt, _, rfl, .inl ⟨SqL.of ltD, fun qc hqc => ⟨_, rfl, _, rfl, wS p.2, ⟨#[c]⟩, rfl, rfl, by rw [wS_len, sizeLine_eq]; show p.2.length + 1 ≤ _; omega, by show 2 ≤ sizeLine; decide, fun qd hqd => ?_⟩⟩⟩
              rw [wS_snoc] at *
              have sE := sm1 (o := .tup (nw.map oV)) hqc
              have eE : (upd HD qc (.tup (nw.map oV))) qc = some (.tup (nw.map oV)) := upd_same
              generalize upd HD qc (.tup (nw.map oV)) = HE at sE eE hqd ⊢
              have sF := sE.trans (sm1 (o := .tup [V.ref qc, V.str (wS (p.2 ++ [c]))]) hqd)
              have eF := sm1 (o := .tup [V.ref qc, V.str (wS (p.2 ++ [c]))]) hqd _ _ eE
              have eG : (upd HE qd (.tup [V.ref qc, V.str (wS (p.2 ++ [c]))])) qd = some (.tup [V.ref qc, V.str (wS (p.2 ++ [c]))]) := upd_same
              generalize upd HE qd (.tup [V.ref qc, V.str (wS (p.2 ++ [c]))]) = HF at sF eF eG ⊢
              have lF := sF _ _ lD
              refine ⟨l, _, _, rfl, rfl, lF, by rw [List.length_map, SC.lf, sizeLine_eq]; omega, ?_⟩
              have tF : ∀ (b : Addr) (ys : List V), HF b = some (.tup ys) → (upd HF l (.lst (fs2.map V.ref ++ [V.ref qd]))) b = some (.tup ys) := fun b ys e => by
                refine (upd_ne fun z => ?_).trans e
                rw [z, lF] at e
                cases e
              refine ⟨fd2 ++ [(nw, p.2 ++ [c])], fs2 ++ [qd], os2 ++ [qb], _, _, _, _, _, rfl, SC.grow (swr (sD.trans sF) hl0) (fun b ys e => tF b ys (sF _ _ (tD b ys e))) ((upd_ne ol.symm).trans (sF _ _ oD)) upd_same (tF _ _ (sF _ _ ec)) (tF _ _ eF) (tF _ _ eG) B2, ?_⟩
              rw [List.getElem?_append_left (List.getElem?_eq_some_iff.mp hp8).1]
              exact hp8
        · rintro σ H8 ⟨fd2, fs2, os2, v7, v8, v9, v10, v11, rfl, S8, hp8⟩
          rw [sizes, ← zsz] at S8
          have fl2 := big S8.B
          have lt2 := (List.getElem?_eq_some_iff.mp hp8).1
          refine ⟨_, rfl, _, _, rfl, rfl, ⟨fd2, fs2, os2, n + 1, _, _, _, _, _, _, rfl, { S8 with B := S8.B.next }, by omega⟩, ?_⟩
          show 9262 - ((n : Int) + 1).toNat < 9262 - ((n : Int)).toNat
          omega
      · rw [decide_eq_false (by omega)]
        refine iteF ⟨_, rfl, ?_⟩
        have e : n = fd.length := by omega
        subst e
        exact fin l fd fs H7 S.same hl0 S.B fl S.f S.lf S.fs
    · intro σ H' Q1 Q2 hQ h
      obtain ⟨v, e, v2, e2, p, xs, ey, hq, n, m, e3, e4, b, eb, q⟩ := h
      exact ⟨v, e, v2, e2, p, xs, ey, hq, n, m, e3, e4, b, eb, hQ _ _ q⟩
end
end Wf
namespace Wf
open PySem PySem.Spec PyProof.Rows L2
/-! marks of several machines; the least mistake, by the law's own search -/
abbrev s_law_marks : Stmt := top 58
abbrev N_law_marks : List Str := ["plains", "states", "plain", "state"]
theorem sc_law_marks : FnScope N_law_marks ["plains", "states"] (defScope s_law_marks) := ⟨rfl, rfl, rfl, by decide +kernel, rfl, by decide +kernel, by decide +kernel⟩
abbrev s_law_mistake_due : Stmt := top 64
abbrev N_law_mistake_due : List Str := ["plain", "one", "other", "states", "word", "marks"]
theorem sc_law_mistake_due : FnScope N_law_mistake_due ["plain", "one", "other"] (defScope s_law_mistake_due) := ⟨rfl, rfl, rfl, by decide +kernel, rfl, by decide +kernel, by decide +kernel⟩
def mksOf (tms : TMs) (ss : KO) : List (Option Bool) := List.zipWith (fun tm s => markAt tm.2 s) tms ss
def spMarks : Sp := fun vs H Q _ => ∃ (p a q : Addr) (ts : List Addr) (z : Str) (tms : TMs) (ss : KO), vs = [.ref a, .ref q] ∧ Pls p H a ts z tms ∧ H q = some (.tup (ss.map oV)) ∧ ss.length = tms.length ∧ tms.length ≤ 3 ∧ (∀ (i : Nat) (tm : List (List (Option Nat)) × List (Option Bool)) (n : Nat), tms[i]? = some tm → ss[i]? = some (some n) → n < tm.1.length) ∧
  ∀ (l : Addr) (H' : Hp), Same H H' → H' l = some (.lst ((mksOf tms ss).map mV)) → Q (.ref l) H'
section
variable {P : Program} {w : World} {K : PySem.W.Frag} {mg : Str → Option Value} {base : Heap} {f : Addr} {fd : FuncData}
theorem ok_marks (F : Fun K "_law_marks" "_law_marks" s_law_marks f fd) (T : Txt K mg) (Zz : mg "zip" = none) :
    FnOk P w K mg base CX0 2 f fd ["plains", "states"] spMarks := by
  refine F.ok sc_law_marks (fun vs H Q E h => ?_) (fun cdv A outer s H vs Q E hr h => ?_)
  · obtain ⟨p, a, q, ts, z, tms, ss, rfl, _⟩ := h
    rfl
  · obtain ⟨p, a, q, ts, z, tms, ss, rfl, pls, eq, sl, t3, lt, fin⟩ := h
    refine ⟨_, (pss_one (ps_ret (pe_lc (own := [("plain", 2), ("state", 3)]) (g := gTup K 2 (gCons (gName 2) (gCons (gName 3) gNil))) (tt := tYes) (by rfl) sc_law_marks.nd (show PI _ _ _ (iZipG K _) from pi_zipG (by rfl) Zz (pa_cons (pv 0) (pa_cons (pv 1) pa_nil))) (blkOk_by (own := [("plain", 2), ("state", 3)]) (N := N_law_marks) (sc := defScope s_law_marks) (by decide +kernel)) (fun _ _ _ _ _ => (pg_tup (by rfl) (pgs_cons (pg_name (i := 2) sc_law_marks.nd rfl (Or.inl rfl)) (pgs_cons (pg_name (i := 3) sc_law_marks.nd rfl (Or.inl rfl)) pgs_nil)))) (fun _ _ _ _ _ => pts_nil) (fun _ _ _ _ _ => (pe_ifExp (pt_cmpR op_isN (pv 3) (pe_non) (nomark _)) (pe_non) (pe_ix (show IxR _ (rIxL K) from ix_list) (pe_ix (show IxR _ (rIxT K) from ix_tup) (pv 2) (pe_int) (fun _ _ => rfl)) (pv 3) (fun _ _ => rfl))))))), ?_⟩
    have tlen : (ts.map V.ref).length = tms.length := by rw [List.length_map, pls.e]
    have sz2 : (ss.map oV).length = (ts.map V.ref).length := by rw [List.length_map, sl, tlen]
    have ml : (mksOf tms ss).length = tms.length := by unfold mksOf; rw [List.length_zipWith, sl, Nat.min_self]
    refine ⟨_, rfl, _, rfl, .lst a (ts.map V.ref), .tup q (ss.map oV), rfl, SqL.of pls.l, SqT.of eq, fun D hD => ?_⟩
    refine lc_it (walk_zipG (S1 := .lst a (ts.map V.ref)) (S2 := .tup q (ss.map oV)) sz2) (fun m H3 => Same H H3 ∧ H3 D = some (.lst (((mksOf tms ss).take m).map mV))) ⟨sm1 hD, upd_same⟩ (fun m H3 _ h => ⟨SqL.of (h.1 _ _ pls.l), SqT.of (h.1 _ _ eq)⟩) ?_ ?_
    · rintro m v H3 H4 hm ⟨s3, eD⟩ ⟨T2, x, y, rfl, hT2, rfl, hx, hy⟩
      have hx : (ts.map V.ref)[m]? = some x := hx
      have hy : (ss.map oV)[m]? = some y := hy
      rw [List.getElem?_map] at hx hy
      obtain ⟨t, ht, rfl⟩ := Option.map_eq_some_iff.mp hx
      obtain ⟨st, hst, rfl⟩ := Option.map_eq_some_iff.mp hy
      obtain ⟨tm, htm⟩ : ∃ tm, tms[m]? = some tm := ⟨_, List.getElem?_eq_getElem (by rw [← pls.e]; exact (List.getElem?_eq_some_iff.mp ht).1)⟩
      have nx : (mksOf tms ss)[m]? = some (markAt tm.2 st) := by unfold mksOf; rw [List.getElem?_zipWith, htm, hst]
      have s4 := s3.trans (sm1 (o := .tup [V.ref t, oV st]) hT2)
      have eD4 := sm1 (o := .tup [V.ref t, oV st]) hT2 _ _ eD
      have e4 : (upd H3 T2 (.tup [V.ref t, oV st])) T2 = some (.tup [V.ref t, oV st]) := upd_same
      generalize upd H3 T2 (.tup [V.ref t, oV st]) = H4 at s4 eD4 e4 ⊢
      have fin : ∃ acc, H4 D = some (.lst acc) ∧ acc.length < sizeLine ∧ (Same H (upd H4 D (.lst (acc ++ [mV (markAt tm.2 st)]))) ∧ (upd H4 D (.lst (acc ++ [mV (markAt tm.2 st)]))) D = some (.lst (((mksOf tms ss).take (m + 1)).map mV))) := by
        refine ⟨_, eD4, ?_, swr s4 hD, ?_⟩
        · rw [List.length_map, List.length_take, sizeLine_eq]
          omega
        · rw [upd_same, List.take_succ, nx, List.map_append]
          rfl
      refine ⟨T2, _, rfl, SqT.of e4, rfl, _, _, rfl, _, _, rfl, rfl, rfl, _, rfl, rfl, _, rfl, ?_⟩
      cases st with
      | none => exact iteT fin
      | some n =>
        have ln := lt m tm n htm hst
        have pl := (pls.same s4).t m t tm ht htm
        obtain ⟨r1, m1, bs1, et1, ls1⟩ := pl.ex
        have hn : n < tm.2.length := by rw [pl.g.m]; exact ln
        have em : tm.2[n]? = some (markAt tm.2 (some n)) := by
          show _ = some (tm.2.getD n none)
          rw [List.getD_eq_getElem?_getD, List.getElem?_eq_getElem hn]
          rfl
        exact iteF ⟨_, rfl, t, _, 2, .ref m1, rfl, rfl, SqT.of et1, rfl, _, rfl, m1, _, (n : Int), _, rfl, rfl, SqL.of ls1.ma, atI_nat (by rw [List.getElem?_map, em]; rfl), fin⟩
    · rintro H3 ⟨s3, eD⟩
      rw [show (Src.lst a (ts.map V.ref)).items.length = (mksOf tms ss).length from by show (ts.map V.ref).length = _; rw [ml, tlen], List.take_length] at eD
      exact fin D H3 s3 eD
/-- marks of three machines show that the first is wrong -/
def badL (m0 m1 m2 : Option Bool) : Bool := (decide (m1 = some true) && decide (m0 ≠ some true)) || (decide (m2 = some true) && decide (m0 ≠ some false))
def spLawDue : Sp := fun vs H Q _ => ∃ (p t0 t1 t2 : Addr) (z : Str) (tm0 tm1 tm2 : List (List (Option Nat)) × List (Option Bool)), vs = [.ref t0, .ref t1, .ref t2] ∧ PlnAt p H t0 z tm0.1 tm0.2 ∧ PlnAt p H t1 z tm1.1 tm1.2 ∧ PlnAt p H t2 z tm2.1 tm2.2 ∧ tm0.1.length ≤ 20 ∧ tm1.1.length ≤ 20 ∧ tm2.1.length ≤ 20 ∧
  ∀ (r : Option (List Nat)) (H' : Hp), Same H H' → Lst z.cps.toList (fun v => badL (markAt tm0.2 (ledTo z.cps.toList tm0.1 (some 0) v)) (markAt tm1.2 (ledTo z.cps.toList tm1.1 (some 0) v)) (markAt tm2.2 (ledTo z.cps.toList tm2.1 (some 0) v)) = true) r → (∀ w, r = some w → w.length ≤ 9261) → Q (rV r) H'
theorem ok_due (F : Fun K "_law_mistake_due" "_law_mistake_due" s_law_mistake_due f fd) (T : Txt K mg) (D_law_joint : Dn P w K mg base 2 "_law_joint" ["plains"] spLawJoint) (D_law_marks : Dn P w K mg base 2 "_law_marks" ["plains", "states"] spMarks) :
    FnOk P w K mg base CX0 3 f fd ["plain", "one", "other"] spLawDue := by
  refine F.ok sc_law_mistake_due (fun vs H Q E h => ?_) (fun cdv A outer s H vs Q E hr h => ?_)
  · obtain ⟨p, t0, t1, t2, z, tm0, tm1, tm2, rfl, _⟩ := h
    rfl
  · obtain ⟨p, t0, t1, t2, z, tm0, tm1, tm2, rfl, p0, p1, p2, f0, f1, f2, fin⟩ := h
    refine ⟨_, (pss_cons (ps_for PassesOwn.never rfl (pi_list (pe_cl D_law_joint (hr.mono (by decide)) (pa_cons (pe_lst (pa_cons (pv 0) (pa_cons (pv 1) (pa_cons (pv 2) pa_nil)))) pa_nil))) (pg_tup (by rfl) (pgs_cons (pg_name (i := 3) sc_law_mistake_due.nd rfl (Or.inl rfl)) (pgs_cons (pg_name (i := 4) sc_law_mistake_due.nd rfl (Or.inl rfl)) pgs_nil)))
   (pss_cons (ps_set (i := 5) sc_law_mistake_due.nd rfl (Or.inl rfl) (pe_cl D_law_marks (hr.mono (by decide)) (pa_cons (pe_lst (pa_cons (pv 0) (pa_cons (pv 1) (pa_cons (pv 2) pa_nil)))) (pa_cons (pv 3) pa_nil))))
  (pss_one (ps_if (PW.pt (pw_or (PW.pt (pw_and (pt_cmpR op_isQ (pe_ix ix_list (pv 5) (pe_int) (fun _ _ => rfl)) (pe_bl) (nomark _)) (pw_and1 (pt_cmpR op_isNotB (pe_ix ix_list (pv 5) (pe_int) (fun _ _ => rfl)) (pe_bl) (nomark _))))) (pw_or1 (PW.pt (pw_and (pt_cmpR op_isQ (pe_ix ix_list (pv 5) (pe_int) (fun _ _ => rfl)) (pe_bl) (nomark _)) (pw_and1 (pt_cmpR op_isNotB (pe_ix ix_list (pv 5) (pe_int) (fun _ _ => rfl)) (pe_bl) (nomark _)))))))) (pss_one (ps_ret (pv 4))) pss_nil))))
  (pss_one (ps_ret (pe_non)))), ?_⟩
    obtain ⟨tms, htms⟩ : ∃ tms : TMs, tms = [tm0, tm1, tm2] := ⟨_, rfl⟩
    have mk : ∀ {H' : Hp} {q : Addr}, Same H H' → H' q = some (.lst [.ref t0, .ref t1, .ref t2]) → Pls p H' q [t0, t1, t2] z tms := fun s e => by
      subst htms
      refine ⟨e, rfl, fun i t tm e1 e2 => ?_, fun tm hm => ?_⟩
      · match i, e1, e2 with
        | 0, e1, e2 => cases e1; cases e2; exact p0.same s
        | 1, e1, e2 => cases e1; cases e2; exact p1.same s
        | 2, e1, e2 => cases e1; cases e2; exact p2.same s
      · simp only [List.mem_cons, List.not_mem_nil, or_false] at hm
        rcases hm with rfl | rfl | rfl
        · exact f0
        · exact f1
        · exact f2
    have t3 : tms.length = 3 := by rw [htms]; rfl
    refine ⟨_, rfl, _, rfl, _, rfl, by show 3 ≤ sizeLine; decide, fun q hq => ⟨p, q, [t0, t1, t2], z, tms, rfl, mk (sm1 hq) upd_same, by omega, by omega, fun l fd fs H1 s1 _ B few el lf ent => ?_⟩⟩
    have s1 := (sm1 hq).trans s1
    let bad : KO → Bool := fun s => match mksOf tms s with | [m0, m1, m2] => badL m0 m1 m2 | _ => false
    have L := Bfs.least B (fun s c h => by cases h) (bad := bad) (fun s _ => rfl)
    have eqv : ∀ v : List Nat, bad (v.foldl (jstp z.cps.toList (tbsOf tms)) (jstart (tbsOf tms).length)) = badL (markAt tm0.2 (ledTo z.cps.toList tm0.1 (some 0) v)) (markAt tm1.2 (ledTo z.cps.toList tm1.1 (some 0) v)) (markAt tm2.2 (ledTo z.cps.toList tm2.1 (some 0) v)) := fun v => by
      rw [j_word]
      subst htms
      rfl
    have conv : ∀ r, Lst z.cps.toList (fun v => bad (v.foldl (jstp z.cps.toList (tbsOf tms)) (jstart (tbsOf tms).length)) = true) r → Lst z.cps.toList (fun v => badL (markAt tm0.2 (ledTo z.cps.toList tm0.1 (some 0) v)) (markAt tm1.2 (ledTo z.cps.toList tm1.1 (some 0) v)) (markAt tm2.2 (ledTo z.cps.toList tm2.1 (some 0) v)) = true) r := fun r L => by
      cases r with
      | none => exact fun v o h => L v o ((eqv v).trans h)
      | some w => exact ⟨L.1, (eqv w).symm.trans L.2.1, fun v o h => L.2.2 v o ((eqv v).trans h)⟩
    refine ⟨l, rfl, ⟨_, SqL.of el⟩, for_list (K := K) (a := l) (xs := fs.map V.ref) (fun n σ H' => ∃ v3 v4 v5 : Option V, σ = [some (.ref t0), some (.ref t1), some (.ref t2), v3, v4, v5] ∧ Same H1 H' ∧ ∀ m p, m < n → fd[m]? = some p → bad p.1 = false) ⟨_, _, _, rfl, same_refl, fun m p h => absurd h (Nat.not_lt_zero _)⟩ (fun n σ H' _ ⟨_, _, _, _, e, _⟩ => SqL.of (e _ _ el)) ?_ ?_⟩
    · rintro n v σ H2 hv ⟨v3, v4, v5, rfl, s2, no⟩
      rw [List.getElem?_map] at hv
      obtain ⟨q1, hq1, rfl⟩ := Option.map_eq_some_iff.mp hv
      obtain ⟨pr, hp⟩ : ∃ pr, fd[n]? = some pr := ⟨_, List.getElem?_eq_getElem (by rw [← lf]; exact (List.getElem?_eq_some_iff.mp hq1).1)⟩
      obtain ⟨r1, e1, e2⟩ := ent n pr q1 hp hq1
      have pl := B.led pr (List.mem_of_getElem? hp)
      rw [j_word] at pl
      refine ⟨q1, _, rfl, SqT.of (s2 _ _ e1), rfl, _, _, rfl, _, _, rfl, rfl, ?_⟩
      have s12 := s1.trans s2
      refine ⟨_, rfl, _, rfl, _, rfl, by show 3 ≤ sizeLine; decide, fun q2 hq2 => ⟨_, rfl, p, q2, r1, [t0, t1, t2], z, tms, pr.1, rfl, mk (s12.trans (sm1 hq2)) upd_same, sm1 hq2 _ _ (s2 _ _ e2), by rw [← pl]; show (List.map _ _).length = _; rw [List.length_map, tbs_len], by omega, fun i tm m h1 h2 => ?_, fun lm H3 s3 em => ?_⟩⟩
      · have g := ((mk (s12.trans (sm1 hq2)) upd_same).t i ([t0, t1, t2][i]'(by have := (List.getElem?_eq_some_iff.mp h1).1; rw [t3] at this; exact this)) tm (List.getElem?_eq_getElem _) h1).g
        rw [← pl, List.getElem?_map] at h2
        unfold tbsOf at h2
        rw [List.getElem?_map, h1] at h2
        exact led_lt (zs := z.cps.toList) g.ok pr.2 (some 0) (fun n e => by cases e; exact g.pos) m (Option.some.inj h2)
      have s3 := s2.trans ((sm1 hq2).trans s3)
      obtain ⟨m0, m1, m2, hms⟩ : ∃ m0 m1 m2, mksOf tms pr.1 = [m0, m1, m2] := by
        rw [← pl]
        subst htms
        exact ⟨_, _, _, rfl⟩
      rw [hms] at em
      have hb : bad pr.1 = badL m0 m1 m2 := by show (match mksOf tms pr.1 with | [m0, m1, m2] => badL m0 m1 m2 | _ => false) = _; rw [hms]
      have step : badL m0 m1 m2 = false → ∀ m r, m < n + 1 → fd[m]? = some r → bad r.1 = false := fun h m r lt hr => by
        rcases Nat.lt_succ_iff_lt_or_eq.mp lt with g | rfl
        · exact no m r g hr
        · rw [hp] at hr
          cases hr
          exact hb.trans h
      have go : badL m0 m1 m2 = true → Q (.str (wS pr.2)) H3 := fun h => by
        have L1 := L
        rw [lst_one hp (hb.trans h) no] at L1
        refine fin (some pr.2) H3 (s1.trans s3) (conv _ L1) fun w' e => ?_
        cases e
        exact Nat.le_trans (B.short n pr hp) (by have := (List.getElem?_eq_some_iff.mp hp).1; omega)
      have nb : ∀ m : Option Bool, mV m = .non ∨ ∃ a, mV m = .bl a := fun m => by
        rcases m with _ | a
        · exact .inl rfl
        · exact .inr ⟨a, rfl⟩
      have stay : badL m0 m1 m2 = false → _ := fun h => (⟨_, _, _, rfl, s3, step h⟩ : ∃ v3 v4 v5 : Option V, ([some (.ref t0), some (.ref t1), some (.ref t2), some (.ref r1), some (.str (wS pr.2)), some (.ref lm)] : L2.St) = [some (.ref t0), some (.ref t1), some (.ref t2), v3, v4, v5] ∧ Same H1 H3 ∧ ∀ m p, m < n + 1 → fd[m]? = some p → bad p.1 = false)
      refine ⟨_, rfl, lm, _, 1, mV m1, rfl, rfl, SqL.of em, rfl, true, _, rfl, dq_mV _, _, rfl, ?_⟩
      rw [mV_is]
      by_cases h1 : m1 = some true
      · rw [decide_eq_true h1]
        refine iteT ⟨_, rfl, lm, _, 0, mV m0, rfl, rfl, SqL.of em, rfl, true, rfl, nb m0, _, rfl, ?_⟩
        rw [mV_is]
        by_cases h2 : m0 = some true
        · rw [decide_eq_true h2]
          refine iteF ?_
          refine ⟨_, rfl, lm, _, 2, mV m2, rfl, rfl, SqL.of em, rfl, true, _, rfl, dq_mV _, _, rfl, ?_⟩
          rw [mV_is]
          by_cases h3 : m2 = some true
          · rw [decide_eq_true h3]
            refine iteT ⟨_, rfl, lm, _, 0, mV m0, rfl, rfl, SqL.of em, rfl, false, rfl, nb m0, _, rfl, ?_⟩
            rw [mV_is, h2]
            exact iteT ⟨_, rfl, go (by rw [h1, h2, h3]; rfl)⟩
          · rw [decide_eq_false h3]
            refine iteF ?_
            exact (stay (by unfold badL; rw [h1, h2, decide_eq_false h3]; rfl))
        · rw [decide_eq_false h2]
          refine iteT ?_
          exact ⟨_, rfl, go (by unfold badL; rw [h1, decide_eq_true h2]; rfl)⟩
      · rw [decide_eq_false h1]
        refine iteF ?_
        refine ⟨_, rfl, lm, _, 2, mV m2, rfl, rfl, SqL.of em, rfl, true, _, rfl, dq_mV _, _, rfl, ?_⟩
        rw [mV_is]
        by_cases h3 : m2 = some true
        · rw [decide_eq_true h3]
          refine iteT ⟨_, rfl, lm, _, 0, mV m0, rfl, rfl, SqL.of em, rfl, false, rfl, nb m0, _, rfl, ?_⟩
          rw [mV_is]
          by_cases h2 : m0 = some false
          · rw [decide_eq_true h2]
            exact iteF (stay (by unfold badL; rw [decide_eq_false h1, h2, h3]; rfl))
          · rw [decide_eq_false h2]
            exact iteT ⟨_, rfl, go (by unfold badL; rw [decide_eq_false h1, h3, decide_eq_true h2]; rfl)⟩
        · rw [decide_eq_false h3]
          refine iteF ?_
          exact (stay (by unfold badL; rw [decide_eq_false h1, decide_eq_false h3]; rfl))
    · rintro σ H2 ⟨v3, v4, v5, rfl, s2, no⟩
      have ne : (fd.find? fun p => bad p.1) = none := List.find?_eq_none.mpr fun p hp => by
        obtain ⟨q, hq⟩ := List.mem_iff_getElem?.mp hp
        rw [no q p (by rw [List.length_map, lf]; exact (List.getElem?_eq_some_iff.mp hq).1) hq]
        exact Bool.false_ne_true
      rw [ne] at L
      exact fin none H2 (s1.trans s2) (conv none L) nofun
end
end Wf
namespace Wf
open PySem PySem.Spec PyProof.Rows L2
/-! plain tables like another: marks or a cell changed -/
abbrev s_law_remarked : Stmt := top 63
abbrev N_law_remarked : List Str := ["pen", "plain", "mark"]
theorem sc_law_remarked : FnScope N_law_remarked ["pen", "plain"] (defScope s_law_remarked) := ⟨rfl, rfl, rfl, by decide +kernel, rfl, by decide +kernel, by decide +kernel⟩
abbrev s_law_marked : Stmt := top 65
abbrev N_law_marked : List Str := ["pen", "plain", "way", "mark"]
theorem sc_law_marked : FnScope N_law_marked ["pen", "plain"] (defScope s_law_marked) := ⟨rfl, rfl, rfl, by decide +kernel, rfl, by decide +kernel, by decide +kernel⟩
abbrev s_law_near : Stmt := top 61
abbrev N_law_near : List Str := ["pen", "plain", "letters", "rows", "marks", "table", "own", "row", "state"]
theorem sc_law_near : FnScope N_law_near ["pen", "plain"] (defScope s_law_near) := ⟨rfl, rfl, rfl, by decide +kernel, rfl, by decide +kernel, by decide +kernel⟩
/-- a table with other marks -/
theorem LsAt.marks {p r m c : Addr} {k : Nat} {H H' : Hp} {bs : List Addr} {tb : List (List (Option Nat))} {ms ns : List (Option Bool)} {D q : Addr} {z : Str} (l : LsAt p H r m bs tb ms) (g : TbG z tb ms) (b : But p H H') (hp : Pen H p c k) (nD : D ≠ p) (eD : H' D = some (.lst (ns.map mV))) (len : ns.length = ms.length) (e : H' q = some (.tup [.str z, .ref r, .ref D])) : PlnAt p H' q z tb ns :=
  let l' := l.but b hp
  ⟨⟨r, D, bs, e, ⟨l'.l, l'.e, l'.r, eD, l'.nk, nD, l'.bk⟩⟩, ⟨g.lz, g.pos, g.few, len.trans g.m, g.len, g.lt⟩⟩
theorem mem_mks {x : V} {os : List (Option Bool)} (h : x ∈ os.map mV) : ∃ o, x = mV o := let ⟨o, _, e⟩ := List.mem_map.mp h; ⟨o, e.symm⟩
/-- while other marks are drawn -/
structure MkSt (p c : Addr) (n : Nat) (H H' : Hp) (D : Addr) (i : Nat) : Prop where
  ex : ∃ ns : List (Option Bool), But p H H' ∧ H' D = some (.lst (ns.map mV)) ∧ ns.length = i ∧ Pen H' p c (n + i)
theorem MkSt.add {p c D : Addr} {n i : Nat} {H H' H2 : Hp} {o : Option Bool} (h : MkSt p c n H H' D i) (hp : Pen H p c n) (hD : H D = none) (b : But p H' H2) (hp2 : Pen H2 p c (n + i + 1)) (few : i < 1000) : ∃ acc, H2 D = some (.lst acc) ∧ acc.length < sizeLine ∧ MkSt p c n H (upd H2 D (.lst (acc ++ [mV o]))) D (i + 1) := by
  obtain ⟨ns, b1, e1, l1, hp1⟩ := h.ex
  obtain ⟨Dp, Dc⟩ := hp.off hD
  refine ⟨_, b _ _ Dp e1, small1000 (by rw [List.length_map]; omega), ⟨ns ++ [o], (b1.trans b).new hD, by rw [upd_same, List.map_append]; rfl, by rw [List.length_append, l1]; rfl, (hp2.wr Dp Dc)⟩⟩
theorem MkSt.begin {p c D : Addr} {n : Nat} {H : Hp} (hp : Pen H p c n) (hD : H D = none) : MkSt p c n H (upd H D (.lst [])) D 0 := ⟨[], But.of (sm1 hD), upd_same, rfl, hp.same (sm1 hD)⟩
structure RowsN (p : Addr) (H H' : Hp) (n : Addr) (tb : List (List (Option Nat))) (bs : List Addr) : Prop where
  rp : RowsP p H H' n tb bs
  nd : bs.Nodup
theorem RowsN.push {p c : Addr} {k : Nat} {H H' H3 : Hp} {n b : Addr} {tb : List (List (Option Nat))} {row : List (Option Nat)} {bs : List Addr} (rk : RowsN p H H' n tb bs) (hp : Pen H' p c k) (hn : H n = none) (hb : H' b = none) (s3 : But p H' H3) (eb : H3 b = some (.lst (row.map oV))) :
    RowsN p H (upd H3 n (.lst (bs.map V.ref ++ [.ref b]))) n (tb ++ [row]) (bs ++ [b]) := by
  refine ⟨rk.rp.push hp hn hb s3 eb, List.nodup_append.mpr ⟨rk.nd, List.nodup_cons.mpr ⟨List.not_mem_nil, List.nodup_nil⟩, fun a ha b' hb' e => ?_⟩⟩
  rw [List.mem_singleton.mp hb'] at e
  obtain ⟨i, hi⟩ := List.mem_iff_getElem?.mp ha
  have il : i < tb.length := by rw [← rk.rp.e]; exact (List.getElem?_eq_some_iff.mp hi).1
  have := rk.rp.r i a _ hi (List.getElem?_eq_getElem il)
  rw [e, hb] at this
  cases this
theorem ixN_lt {n j : Nat} (h : j < n) : ixN n (j : Int) = some j := by
  unfold ixN
  rw [if_pos (Int.natCast_nonneg j), if_pos (by omega), Int.toNat_natCast]
def spVar : Sp := fun vs H Q _ => ∃ (p c : Addr) (n : Nat) (t : Addr) (z : Str) (tb : List (List (Option Nat))) (ms : List (Option Bool)), vs = [.ref p, .ref t] ∧ Pen H p c n ∧ n ≤ 800000 ∧ PlnAt p H t z tb ms ∧ tb.length ≤ 20 ∧
  ∀ (t2 : Addr) (tb2 : List (List (Option Nat))) (ms2 : List (Option Bool)) (H' : Hp), But p H H' → Pen H' p c (n + 30) → PlnAt p H' t2 z tb2 ms2 → tb2.length = tb.length → Q (.ref t2) H'
section
variable {P : Program} {w : World} {K : PySem.W.Frag} {mg : Str → Option Value} {base : Heap} {f : Addr} {fd : FuncData}
theorem ok_remarked (F : Fun K "_law_remarked" "_law_remarked" s_law_remarked f fd) (T : Txt K mg) (D_law_pick : Dn P w K mg base 2 "_law_pick" ["pen", "some"] (spPick K)) : FnOk P w K mg base CX0 3 f fd ["pen", "plain"] spVar := by
  refine F.ok sc_law_remarked (fun vs H Q E h => ?_) (fun cdv A outer s H vs Q E hr h => ?_)
  · obtain ⟨p, c, n, t, z, tb, ms, rfl, _⟩ := h
    rfl
  · obtain ⟨p, c, n, t, z, tb, ms, rfl, hp, n1, pl, few, k⟩ := h
    refine ⟨_, (pss_one (ps_ret (pe_tup (pa_cons (pe_ix ix_tup (pv 1) (pe_int) (fun _ _ => rfl)) (pa_cons (pe_ix ix_tup (pv 1) (pe_int) (fun _ _ => rfl)) (pa_cons (pe_lc (own := [("mark", 2)]) (g := gName 2) (tt := tYes) (by rfl) sc_law_remarked.nd (pi_list (pe_ix ix_tup (pv 1) (pe_int) (fun _ _ => rfl))) (blkOk_by (own := [("mark", 2)]) (N := N_law_remarked) (sc := defScope s_law_remarked) (by decide +kernel)) (fun _ _ _ _ _ => (pg_name (i := 2) sc_law_remarked.nd rfl (Or.inl rfl))) (fun _ _ _ _ _ => pts_nil) (fun _ _ _ _ _ => (pe_cl D_law_pick (hr.mono (by decide)) (pa_cons (pv 0) (pa_cons (pe_lst (pa_cons (pv 2) (pa_cons (pv 2) (pa_cons (pe_bl) (pa_cons (pe_bl) (pa_cons (pe_non) pa_nil)))))) pa_nil))))) pa_nil)))))), ?_⟩
    obtain ⟨r, m, bs, et, l⟩ := pl.ex
    have g := pl.g
    have ml := g.m
    refine ⟨_, rfl, t, _, 0, .str z, rfl, rfl, SqT.of et, rfl, _, rfl, t, _, 1, .ref r, rfl, rfl, SqT.of et, rfl, _, rfl, t, _, 2, .ref m, rfl, rfl, SqT.of et, rfl, m, rfl, ⟨_, SqL.of l.ma⟩, fun D hD => ?_⟩
    have nD := hp.off hD
    refine lc_list (K := K) (a := m) (xs := ms.map mV) (fun i H' => MkSt p c n H H' D i) (.begin hp hD) (fun i H' _ st => let ⟨_, b, _⟩ := st.ex; SqL.of (b _ _ (pen_ne hp l.ma nofun) l.ma)) ?_ ?_
    · rintro i x H1 hx st
      rw [List.getElem?_map] at hx
      obtain ⟨o, ho, rfl⟩ := Option.map_eq_some_iff.mp hx
      have il := (List.getElem?_eq_some_iff.mp ho).1
      obtain ⟨ns, b1, e1, l1, hp1⟩ := st.ex
      refine ⟨rfl, _, rfl, _, rfl, _, rfl, by show 5 ≤ sizeLine; decide, fun q hq => ⟨p, c, _, hp1.same (sm1 hq), by omega, .inl ⟨q, _, rfl, .inl (SqL.of upd_same), by show 0 < 5; decide, by show 5 < 1000000; decide, fun x H2 hx b2 hp2 => ?_⟩⟩⟩
      obtain ⟨o2, rfl⟩ := mem_mks (os := [o, o, some true, some false, none]) hx
      exact st.add hp hD ((But.of (sm1 hq)).trans b2) hp2 (by omega)
    · rintro H1 st
      obtain ⟨ns, b1, e1, l1, hp1⟩ := st.ex
      rw [List.length_map] at l1 hp1
      refine ⟨by show 3 ≤ sizeLine; decide, fun q hq => k q tb ns _ (b1.same (sm1 hq)) ((hp1.same (sm1 hq)).up (by omega)) (l.marks g (b1.same (sm1 hq)) hp nD.1 (sm1 hq _ _ e1) l1 upd_same) rfl⟩
theorem ok_marked (F : Fun K "_law_marked" "_law_marked" s_law_marked f fd) (T : Txt K mg) (D_law_draw : Dn P w K mg base 1 "_law_draw" ["pen", "many"] spDraw) (D_law_pick : Dn P w K mg base 2 "_law_pick" ["pen", "some"] (spPick K)) : FnOk P w K mg base CX0 3 f fd ["pen", "plain"] spVar := by
  refine F.ok sc_law_marked (fun vs H Q E h => ?_) (fun cdv A outer s H vs Q E hr h => ?_)
  · obtain ⟨p, c, n, t, z, tb, ms, rfl, _⟩ := h
    rfl
  · obtain ⟨p, c, n, t, z, tb, ms, rfl, hp, n1, pl, few, k⟩ := h
    refine ⟨_, (pss_cons (ps_set (i := 2) sc_law_marked.nd rfl (Or.inl rfl) (pe_cl D_law_draw (hr.mono (by decide)) (pa_cons (pv 0) (pa_cons (pe_int) pa_nil))))
  (pss_cons (ps_if (pt_cmpR op_eq (pv 2) (pe_int) (nomark _)) (pss_one (ps_ret (pe_tup (pa_cons (pe_ix ix_tup (pv 1) (pe_int) (fun _ _ => rfl)) (pa_cons (pe_ix ix_tup (pv 1) (pe_int) (fun _ _ => rfl)) (pa_cons (pe_lc (own := [("mark", 3)]) (g := gName 3) (tt := tYes) (by rfl) sc_law_marked.nd (pi_list (pe_ix ix_tup (pv 1) (pe_int) (fun _ _ => rfl))) (blkOk_by (own := [("mark", 3)]) (N := N_law_marked) (sc := defScope s_law_marked) (by decide +kernel)) (fun _ _ _ _ _ => (pg_name (i := 3) sc_law_marked.nd rfl (Or.inl rfl))) (fun _ _ _ _ _ => pts_nil) (fun _ _ _ _ _ => (pe_ifExp (pt_cmpR op_isN (pv 3) (pe_non) (nomark _)) (pe_non) (pe_not (pv 3))))) pa_nil)))))) pss_nil)
  (pss_cons (ps_if (pt_cmpR op_eq (pv 2) (pe_int) (nomark _)) (pss_one (ps_ret (pe_tup (pa_cons (pe_ix ix_tup (pv 1) (pe_int) (fun _ _ => rfl)) (pa_cons (pe_ix ix_tup (pv 1) (pe_int) (fun _ _ => rfl)) (pa_cons (pe_lc (own := [("mark", 3)]) (g := gName 3) (tt := tYes) (by rfl) sc_law_marked.nd (pi_list (pe_ix ix_tup (pv 1) (pe_int) (fun _ _ => rfl))) (blkOk_by (own := [("mark", 3)]) (N := N_law_marked) (sc := defScope s_law_marked) (by decide +kernel)) (fun _ _ _ _ _ => (pg_name (i := 3) sc_law_marked.nd rfl (Or.inl rfl))) (fun _ _ _ _ _ => pts_nil) (fun _ _ _ _ _ => (pe_cl D_law_pick (hr.mono (by decide)) (pa_cons (pv 0) (pa_cons (pe_lst (pa_cons (pv 3) (pa_cons (pe_non) pa_nil))) pa_nil))))) pa_nil)))))) pss_nil)
  (pss_one (ps_ret (pe_tup (pa_cons (pe_ix ix_tup (pv 1) (pe_int) (fun _ _ => rfl)) (pa_cons (pe_ix ix_tup (pv 1) (pe_int) (fun _ _ => rfl)) (pa_cons (pe_lc (own := [("mark", 3)]) (g := gName 3) (tt := tYes) (by rfl) sc_law_marked.nd (pi_list (pe_ix ix_tup (pv 1) (pe_int) (fun _ _ => rfl))) (blkOk_by (own := [("mark", 3)]) (N := N_law_marked) (sc := defScope s_law_marked) (by decide +kernel)) (fun _ _ _ _ _ => (pg_name (i := 3) sc_law_marked.nd rfl (Or.inl rfl))) (fun _ _ _ _ _ => pts_nil) (fun _ _ _ _ _ => (pe_cl D_law_pick (hr.mono (by decide)) (pa_cons (pv 0) (pa_cons (pe_lst (pa_cons (pv 3) (pa_cons (pe_bl) (pa_cons (pe_bl) pa_nil)))) pa_nil))))) pa_nil))))))))), ?_⟩
    obtain ⟨r, m, bs, et, l⟩ := pl.ex
    have g := pl.g
    have ml := g.m
    refine ⟨_, rfl, p, c, n, 3, rfl, hp, by omega, by decide, by decide, fun d H0 _ _ b0 hp0 => ⟨_, rfl, rfl, _, rfl, ?_⟩⟩
    have et := b0 _ _ (pen_ne hp et nofun) et
    have l := l.but b0 hp
    have k := fun t2 tb2 ms2 H' (b : But p H0 H') => k t2 tb2 ms2 H' (b0.trans b)
    clear pl hp b0
    cases decide (V.int d = V.int 0) with
    | true =>
      refine iteT ?_
      refine ⟨_, rfl, t, _, 0, .str z, rfl, rfl, SqT.of et, rfl, _, rfl, t, _, 1, .ref r, rfl, rfl, SqT.of et, rfl, _, rfl, t, _, 2, .ref m, rfl, rfl, SqT.of et, rfl, m, rfl, ⟨_, SqL.of l.ma⟩, fun D hD => ?_⟩
      have nD := hp0.off hD
      refine lc_list (K := K) (a := m) (xs := ms.map mV) (fun i H' => MkSt p c (n + 1) H0 H' D i) (.begin hp0 hD) (fun i H' _ st => let ⟨_, b, _⟩ := st.ex; SqL.of (b _ _ (pen_ne hp0 l.ma nofun) l.ma)) ?_ ?_
      · rintro i x H1 hx st
        rw [List.getElem?_map] at hx
        obtain ⟨o, ho, rfl⟩ := Option.map_eq_some_iff.mp hx
        have il := (List.getElem?_eq_some_iff.mp ho).1
        obtain ⟨ns, b1, e1, l1, hp1⟩ := st.ex
        refine ⟨rfl, _, rfl, rfl, _, rfl, ?_⟩
        cases o with
        | none => exact iteT (st.add (o := none) hp0 hD (fun b o _ h => h) (hp1.up (by omega)) (by omega))
        | some a => exact iteF ⟨_, rfl, a, rfl, st.add (o := some (!a)) hp0 hD (fun b o _ h => h) (hp1.up (by omega)) (by omega)⟩
      · rintro H1 st
        obtain ⟨ns, b1, e1, l1, hp1⟩ := st.ex
        rw [List.length_map] at l1 hp1
        refine ⟨by show 3 ≤ sizeLine; decide, fun q hq => k q tb ns _ (b1.same (sm1 hq)) ((hp1.same (sm1 hq)).up (by omega)) (l.marks g (b1.same (sm1 hq)) hp0 nD.1 (sm1 hq _ _ e1) l1 upd_same) rfl⟩
    | false =>
      refine iteF ⟨_, rfl, rfl, _, rfl, ?_⟩
      cases decide (V.int d = V.int 1) with
      | true =>
        refine iteT ?_
        refine ⟨_, rfl, t, _, 0, .str z, rfl, rfl, SqT.of et, rfl, _, rfl, t, _, 1, .ref r, rfl, rfl, SqT.of et, rfl, _, rfl, t, _, 2, .ref m, rfl, rfl, SqT.of et, rfl, m, rfl, ⟨_, SqL.of l.ma⟩, fun D hD => ?_⟩
        have nD := hp0.off hD
        refine lc_list (K := K) (a := m) (xs := ms.map mV) (fun i H' => MkSt p c (n + 1) H0 H' D i) (.begin hp0 hD) (fun i H' _ st => let ⟨_, b, _⟩ := st.ex; SqL.of (b _ _ (pen_ne hp0 l.ma nofun) l.ma)) ?_ ?_
        · rintro i x H1 hx st
          rw [List.getElem?_map] at hx
          obtain ⟨o, ho, rfl⟩ := Option.map_eq_some_iff.mp hx
          have il := (List.getElem?_eq_some_iff.mp ho).1
          obtain ⟨ns, b1, e1, l1, hp1⟩ := st.ex
          refine ⟨rfl, _, rfl, _, rfl, by show 2 ≤ sizeLine; decide, fun q hq => ⟨p, c, _, hp1.same (sm1 hq), by omega, .inl ⟨q, _, rfl, .inl (SqL.of upd_same), by show 0 < 2; decide, by show 2 < 1000000; decide, fun x H2 hx b2 hp2 => ?_⟩⟩⟩
          obtain ⟨o2, rfl⟩ := mem_mks (os := [o, none]) hx
          exact st.add hp0 hD ((But.of (sm1 hq)).trans b2) hp2 (by omega)
        · rintro H1 st
          obtain ⟨ns, b1, e1, l1, hp1⟩ := st.ex
          rw [List.length_map] at l1 hp1
          refine ⟨by show 3 ≤ sizeLine; decide, fun q hq => k q tb ns _ (b1.same (sm1 hq)) ((hp1.same (sm1 hq)).up (by omega)) (l.marks g (b1.same (sm1 hq)) hp0 nD.1 (sm1 hq _ _ e1) l1 upd_same) rfl⟩
      | false =>
        refine iteF ?_
        refine ⟨_, rfl, t, _, 0, .str z, rfl, rfl, SqT.of et, rfl, _, rfl, t, _, 1, .ref r, rfl, rfl, SqT.of et, rfl, _, rfl, t, _, 2, .ref m, rfl, rfl, SqT.of et, rfl, m, rfl, ⟨_, SqL.of l.ma⟩, fun D hD => ?_⟩
        have nD := hp0.off hD
        refine lc_list (K := K) (a := m) (xs := ms.map mV) (fun i H' => MkSt p c (n + 1) H0 H' D i) (.begin hp0 hD) (fun i H' _ st => let ⟨_, b, _⟩ := st.ex; SqL.of (b _ _ (pen_ne hp0 l.ma nofun) l.ma)) ?_ ?_
        · rintro i x H1 hx st
          rw [List.getElem?_map] at hx
          obtain ⟨o, ho, rfl⟩ := Option.map_eq_some_iff.mp hx
          have il := (List.getElem?_eq_some_iff.mp ho).1
          obtain ⟨ns, b1, e1, l1, hp1⟩ := st.ex
          refine ⟨rfl, _, rfl, _, rfl, by show 3 ≤ sizeLine; decide, fun q hq => ⟨p, c, _, hp1.same (sm1 hq), by omega, .inl ⟨q, _, rfl, .inl (SqL.of upd_same), by show 0 < 3; decide, by show 3 < 1000000; decide, fun x H2 hx b2 hp2 => ?_⟩⟩⟩
          obtain ⟨o2, rfl⟩ := mem_mks (os := [o, some true, some false]) hx
          exact st.add hp0 hD ((But.of (sm1 hq)).trans b2) hp2 (by omega)
        · rintro H1 st
          obtain ⟨ns, b1, e1, l1, hp1⟩ := st.ex
          rw [List.length_map] at l1 hp1
          refine ⟨by show 3 ≤ sizeLine; decide, fun q hq => k q tb ns _ (b1.same (sm1 hq)) ((hp1.same (sm1 hq)).up (by omega)) (l.marks g (b1.same (sm1 hq)) hp0 nD.1 (sm1 hq _ _ e1) l1 upd_same) rfl⟩
theorem ok_near (F : Fun K "_law_near" "_law_near" s_law_near f fd) (T : Txt K mg) (D_law_draw : Dn P w K mg base 1 "_law_draw" ["pen", "many"] spDraw) (D_law_pick : Dn P w K mg base 2 "_law_pick" ["pen", "some"] (spPick K)) : FnOk P w K mg base CX0 3 f fd ["pen", "plain"] spVar := by
  refine F.ok sc_law_near (fun vs H Q E h => ?_) (fun cdv A outer s H vs Q E hr h => ?_)
  · obtain ⟨p, c, n, t, z, tb, ms, rfl, _⟩ := h
    rfl
  · obtain ⟨p, c, n, t, z, tb, ms, rfl, hp, n1, pl, few, k⟩ := h
    refine ⟨_, (pss_cons (ps_asg (pv 1) (pg_tup (by rfl) (pgs_cons (pg_name (i := 2) sc_law_near.nd rfl (Or.inl rfl)) (pgs_cons (pg_name (i := 3) sc_law_near.nd rfl (Or.inl rfl)) (pgs_cons (pg_name (i := 4) sc_law_near.nd rfl (Or.inl rfl)) pgs_nil)))))
  (pss_cons (ps_par (i := 5) (j := 6) (by rfl) sc_law_near.nd rfl rfl (by decide) rfl rfl (pa_cons (pe_lc (own := [("row", 7)]) (g := gName 7) (tt := tYes) (by rfl) sc_law_near.nd (pi_list (pv 3)) (blkOk_by (own := [("row", 7)]) (N := N_law_near) (sc := defScope s_law_near) (by decide +kernel)) (fun _ _ _ _ _ => (pg_name (i := 7) sc_law_near.nd rfl (Or.inl rfl))) (fun _ _ _ _ _ => pts_nil) (fun _ _ _ _ _ => (pe_callTy (show CallR _ (.type "list") (rListOf K) from cr_listOf) (by rfl) T.z_list (by decide +kernel) (pa_cons (pv 7) pa_nil)))) (pa_cons (pe_callTy call_list_of (by rfl) T.z_list (by decide +kernel) (pa_cons (pv 4) pa_nil)) pa_nil)) (by rfl))
  (pss_cons (ps_set (i := 8) sc_law_near.nd rfl (Or.inl rfl) (pe_cl D_law_draw (hr.mono (by decide)) (pa_cons (pv 0) (pa_cons (pe_callB call_len_seq (by rfl) T.z_len PySem.boot_len (pa_cons (pv 6) pa_nil)) pa_nil))))
  (pss_cons (ps_if (pt_cmpR op_eq (pe_cl D_law_draw (hr.mono (by decide)) (pa_cons (pv 0) (pa_cons (pe_int) pa_nil))) (pe_int) (nomark _)) (pss_one (ps_asg (pe_cl D_law_pick (hr.mono (by decide)) (pa_cons (pv 0) (pa_cons (pe_lst (pa_cons (pe_bl) (pa_cons (pe_bl) (pa_cons (pe_non) pa_nil)))) pa_nil))) (pg_sub (pv 6) (pv 8) set_list))) (pss_cons (ps_set (i := 7) sc_law_near.nd rfl (Or.inl rfl) (pe_ix ix_list (pv 5) (pv 8) (fun _ _ => rfl)))
  (pss_one (ps_asg (pe_cl D_law_pick (hr.mono (by decide)) (pa_cons (pv 0) (pa_cons (pe_lst (pa_cons (pe_non) (pa_cons (pe_int) (pa_cons (pe_cl D_law_draw (hr.mono (by decide)) (pa_cons (pv 0) (pa_cons (pe_callB call_len_seq (by rfl) T.z_len PySem.boot_len (pa_cons (pv 6) pa_nil)) pa_nil))) pa_nil)))) pa_nil))) (pg_sub (pv 7) (pe_cl D_law_draw (hr.mono (by decide)) (pa_cons (pv 0) (pa_cons (pe_callB call_len_str (by rfl) T.z_len PySem.boot_len (pa_cons (pv 2) pa_nil)) pa_nil))) set_list)))))
  (pss_one (ps_ret (pe_tup (pa_cons (pv 2) (pa_cons (pv 5) (pa_cons (pv 6) pa_nil)))))))))), ?_⟩
    obtain ⟨r, m, bs, et, l⟩ := pl.ex
    have g := pl.g
    have ml := g.m
    have pos := g.pos
    refine ⟨_, rfl, t, _, rfl, SqT.of et, rfl, _, _, rfl, _, _, rfl, _, _, rfl, rfl, ?_⟩
    refine ⟨_, rfl, r, rfl, ⟨_, SqL.of l.l⟩, fun D hD => ?_⟩
    obtain ⟨Dp, Dc⟩ := hp.off hD
    refine lc_list (K := K) (a := r) (xs := bs.map V.ref) (fun i H' => ∃ cs, RowsN p H H' D (tb.take i) cs ∧ Pen H' p c n) ⟨[], ⟨.nil hD, List.nodup_nil⟩, hp.same (sm1 hD)⟩ (fun i H' _ ⟨_, rk, _⟩ => SqL.of (rk.rp.s _ _ (pen_ne hp l.l nofun) l.l)) ?_ ?_
    · rintro i x H' hx ⟨cs, rk, hp'⟩
      rw [List.getElem?_map] at hx
      obtain ⟨b, hb, rfl⟩ := Option.map_eq_some_iff.mp hx
      have il : i < tb.length := by rw [← l.e]; exact (List.getElem?_eq_some_iff.mp hb).1
      have hrow : tb[i]? = some (tb[i]'il) := List.getElem?_eq_getElem _
      have eb0 := l.r i b _ hb hrow
      have eb := rk.rp.s _ _ (pen_ne hp eb0 nofun) eb0
      have tk : tb.take (i + 1) = tb.take i ++ [tb[i]'il] := by rw [List.take_succ, hrow]; rfl
      refine ⟨rfl, _, rfl, b, _, rfl, .inl (SqL.of eb), fun q hq => ⟨_, sm1 hq _ _ rk.rp.l, small1000 (by rw [List.length_map, rk.rp.e, List.length_take]; omega), cs ++ [q], ?_, (hp'.same (sm1 hq)).wr Dp Dc⟩⟩
      rw [tk]
      exact rk.push hp' hD hq (But.of (sm1 hq)) upd_same
    rintro H1 ⟨cs, rk, hp1⟩
    rw [List.length_map, l.e, List.take_length] at rk
    have ema := rk.rp.s _ _ (pen_ne hp l.ma nofun) l.ma
    refine ⟨_, rfl, m, _, rfl, .inl (SqL.of ema), fun o ho => ⟨_, _, rfl, ?_⟩⟩
    have hO := rk.rp.s.free hp1 ho
    obtain ⟨Op, Oc⟩ := hp.off hO
    have DO : D ≠ o := ne_of_none rk.rp.l ho
    have b2 := rk.rp.s.same (sm1 (o := .lst (ms.map mV)) ho)
    have hp2 := hp1.same (sm1 (o := .lst (ms.map mV)) ho)
    have l2 := sm1 (o := .lst (ms.map mV)) ho _ _ rk.rp.l
    have r2 : ∀ (i : Nat) (b : Addr) (row : List (Option Nat)), cs[i]? = some b → tb[i]? = some row → (upd H1 o (.lst (ms.map mV))) b = some (.lst (row.map oV)) := fun i b row e1 e2 => sm1 ho _ _ (rk.rp.r i b row e1 e2)
    have o2 : (upd H1 o (.lst (ms.map mV))) o = some (.lst (ms.map mV)) := upd_same
    have rne := rk.rp.ne
    have rfr := rk.rp.fr
    have rnd := rk.nd
    have rle := rk.rp.e
    have roo : ∀ b ∈ cs, b ≠ o := fun b hb e => by
      obtain ⟨i, hi⟩ := List.mem_iff_getElem?.mp hb
      have il : i < tb.length := by rw [← rle]; exact (List.getElem?_eq_some_iff.mp hi).1
      have := rk.rp.r i b _ hi (List.getElem?_eq_getElem il)
      rw [e, ho] at this
      cases this
    generalize upd H1 o (.lst (ms.map mV)) = H2 at b2 hp2 l2 r2 o2 ⊢
    clear rk ema ho hp1 et
    have lm : (ms.map mV).length = tb.length := by rw [List.length_map, ml]
    have bk : ∀ b ∈ cs, b ≠ p := fun b hb => (hp.off (rfr b hb)).1
    -- state
    refine ⟨_, rfl, _, rfl, o, _, rfl, .inl (SqL.of o2), p, c, n, tb.length, by rw [lm]; rfl, hp2, by omega, by omega, by omega, fun d H3 d0 d1 b3 hp3 => ?_⟩
    obtain ⟨sd, rfl⟩ := Int.eq_ofNat_of_zero_le d0
    have sl : sd < tb.length := by omega
    refine ⟨_, rfl, p, c, _, 2, rfl, hp3, by omega, by decide, by decide, fun d2 H4 _ _ b4 hp4 => ⟨rfl, _, rfl, ?_⟩⟩
    have b34 := b3.trans b4
    have b24 := b2.trans b34
    have l4 := b34 _ _ Dp l2
    have o4 := b34 _ _ Op o2
    have r4 : ∀ (i : Nat) (b : Addr) (row : List (Option Nat)), cs[i]? = some b → tb[i]? = some row → H4 b = some (.lst (row.map oV)) := fun i b row e1 e2 => b34 _ _ (bk b (List.mem_of_getElem? e1)) (r2 i b row e1 e2)
    clear b3 b4 b34 hp2 hp3 b2 l2 o2 r2
    cases decide (V.int d2 = V.int 0) with
    | true =>
      refine iteT ⟨_, rfl, by show 3 ≤ sizeLine; decide, fun q hq => ⟨p, c, _, hp4.same (sm1 hq), by omega, .inl ⟨q, _, rfl, .inl (SqL.of upd_same), by show 0 < 3; decide, by show 3 < 1000000; decide, fun x H5 hx b5 hp5 => ?_⟩⟩⟩
      obtain ⟨o3, rfl⟩ := mem_mks (os := [some true, some false, none]) hx
      have b45 := (But.of (sm1 hq)).trans b5
      have b5 := b24.trans b45
      have o5 := b45 _ _ Op o4
      have l5 := b45 _ _ Dp l4
      have r5 : ∀ (i : Nat) (b : Addr) (row : List (Option Nat)), cs[i]? = some b → tb[i]? = some row → H5 b = some (.lst (row.map oV)) := fun i b row e1 e2 => b45 _ _ (bk b (List.mem_of_getElem? e1)) (r4 i b row e1 e2)
      refine ⟨_, rfl, _, rfl, o, _, (sd : Int), sd, rfl, rfl, o5, ixN_lt (by rw [lm]; exact sl), ?_⟩
      have b6 := b5.new (o := .lst ((ms.map mV).set sd (mV o3))) hO
      have hp6 := hp5.wr (o := .lst ((ms.map mV).set sd (mV o3))) Op Oc
      have o6 : (upd H5 o (.lst ((ms.map mV).set sd (mV o3)))) o = some (.lst ((ms.set sd o3).map mV)) := by rw [upd_same, List.map_set]
      have l6 : (upd H5 o (.lst ((ms.map mV).set sd (mV o3)))) D = _ := (upd_ne DO).trans l5
      have r6 : ∀ (i : Nat) (b : Addr) (row : List (Option Nat)), cs[i]? = some b → tb[i]? = some row → (upd H5 o (.lst ((ms.map mV).set sd (mV o3)))) b = some (.lst (row.map oV)) := fun i b row e1 e2 => (upd_ne (roo b (List.mem_of_getElem? e1))).trans (r5 i b row e1 e2)
      generalize upd H5 o (.lst ((ms.map mV).set sd (mV o3))) = H6 at b6 hp6 o6 l6 r6 ⊢
      refine ⟨_, rfl, _, rfl, _, rfl, by show 3 ≤ sizeLine; decide, fun q hq => k q tb (ms.set sd o3) _ (b6.same (sm1 hq)) ((hp6.same (sm1 hq)).up (by omega)) ?_ rfl⟩
      exact ⟨⟨D, o, cs, upd_same, ⟨sm1 hq _ _ l6, rle, fun i b row e1 e2 => sm1 hq _ _ (r6 i b row e1 e2), sm1 hq _ _ o6, Dp, Op, bk⟩⟩, ⟨g.lz, g.pos, g.few, by rw [List.length_set]; exact ml, g.len, g.lt⟩⟩
    | false =>
      refine iteF ?_
      obtain ⟨b, hb⟩ : ∃ b, cs[sd]? = some b := ⟨_, List.getElem?_eq_getElem (by rw [rle]; exact sl)⟩
      have hrow : tb[sd]? = some (tb[sd]'sl) := List.getElem?_eq_getElem _
      have rlen := g.len _ (List.mem_of_getElem? hrow)
      have rlt := g.lt _ (List.mem_of_getElem? hrow)
      generalize tb[sd]'sl = row at hrow rlen rlt
      have bm := List.mem_of_getElem? hb
      refine ⟨_, rfl, _, rfl, D, _, (sd : Int), .ref b, rfl, rfl, SqL.of l4, atI_nat (by rw [List.getElem?_map, hb]; rfl), ?_⟩
      refine ⟨_, rfl, _, rfl, _, rfl, o, _, rfl, .inl (SqL.of o4), p, c, _, tb.length, by rw [lm]; rfl, hp4, by omega, by omega, by omega, fun d3 H5 e0 e1 b5 hp5 => ?_⟩
      obtain ⟨k3, rfl⟩ := Int.eq_ofNat_of_zero_le e0
      refine ⟨by show 3 ≤ sizeLine; decide, fun q hq => ⟨p, c, _, hp5.same (sm1 hq), by omega, .inl ⟨q, _, rfl, .inl (SqL.of upd_same), by show 0 < 3; decide, by show 3 < 1000000; decide, fun x H6 hx b6 hp6 => ?_⟩⟩⟩
      obtain ⟨o3, rfl, ho3⟩ : ∃ o3 : Option Nat, x = oV o3 ∧ ∀ n, o3 = some n → n < tb.length := by
        simp only [List.mem_cons, List.not_mem_nil, or_false] at hx
        rcases hx with rfl | rfl | rfl
        · exact ⟨none, rfl, nofun⟩
        · exact ⟨some 0, rfl, fun n e => by cases e; exact pos⟩
        · exact ⟨some k3, rfl, fun n e => by cases e; omega⟩
      have zpos := g.lz.2.2.1
      have zfew := g.lz.2.2.2
      refine ⟨_, rfl, _, rfl, _, rfl, _, rfl, by rw [sizeLine_eq]; omega, p, c, _, z.length, rfl, hp6, by omega, by omega, by omega, fun d4 H7 f0 f1 b7 hp7 => ?_⟩
      obtain ⟨k4, rfl⟩ := Int.eq_ofNat_of_zero_le f0
      have b47 := ((b5.trans (But.of (sm1 hq))).trans b6).trans b7
      have b7 := b24.trans b47
      have o7 := b47 _ _ Op o4
      have l7 := b47 _ _ Dp l4
      have r7 : ∀ (i : Nat) (b : Addr) (row : List (Option Nat)), cs[i]? = some b → tb[i]? = some row → H7 b = some (.lst (row.map oV)) := fun i b row e1 e2 => b47 _ _ (bk b (List.mem_of_getElem? e1)) (r4 i b row e1 e2)
      refine ⟨b, _, (k4 : Int), k4, rfl, rfl, r7 sd b row hb hrow, ixN_lt (by rw [List.length_map, rlen]; omega), ?_⟩
      obtain ⟨Bp, Bc⟩ := hp.off (rfr b bm)
      have b8 := b7.new (o := .lst ((row.map oV).set k4 (oV o3))) (rfr b bm)
      have hp8 := hp7.wr (o := .lst ((row.map oV).set k4 (oV o3))) Bp Bc
      have o8 : (upd H7 b (.lst ((row.map oV).set k4 (oV o3)))) o = some (.lst (ms.map mV)) := (upd_ne (roo b bm).symm).trans o7
      have l8 : (upd H7 b (.lst ((row.map oV).set k4 (oV o3)))) D = _ := (upd_ne (rne b bm).symm).trans l7
      have r8 : ∀ (i : Nat) (a : Addr) (rw' : List (Option Nat)), cs[i]? = some a → (tb.set sd (row.set k4 o3))[i]? = some rw' → (upd H7 b (.lst ((row.map oV).set k4 (oV o3)))) a = some (.lst (rw'.map oV)) := fun i a rw' e1 e2 => by
        by_cases e : i = sd
        · subst e
          rw [hb] at e1
          cases e1
          rw [List.getElem?_set_self sl] at e2
          cases e2
          rw [upd_same, List.map_set]
        · rw [List.getElem?_set_ne (fun z => e z.symm)] at e2
          refine (upd_ne fun z => e ?_).trans (r7 i a rw' e1 e2)
          subst z
          obtain ⟨h1, h2⟩ := List.getElem?_eq_some_iff.mp e1
          obtain ⟨h3, h4⟩ := List.getElem?_eq_some_iff.mp hb
          exact (List.getElem_inj rnd).mp (h2.trans h4.symm)
      generalize upd H7 b (.lst ((row.map oV).set k4 (oV o3))) = H8 at b8 hp8 o8 l8 r8 ⊢
      have lset : (tb.set sd (row.set k4 o3)).length = tb.length := List.length_set
      have inset : ∀ r ∈ tb.set sd (row.set k4 o3), r ∈ tb ∨ r = row.set k4 o3 := fun r hr => List.mem_or_eq_of_mem_set hr
      refine ⟨_, rfl, _, rfl, _, rfl, by show 3 ≤ sizeLine; decide, fun q hq => k q (tb.set sd (row.set k4 o3)) ms _ (b8.same (sm1 hq)) ((hp8.same (sm1 hq)).up (by omega)) ?_ lset⟩
      refine ⟨⟨D, o, cs, upd_same, ⟨sm1 hq _ _ l8, by rw [lset]; exact rle, fun i b row e1 e2 => sm1 hq _ _ (r8 i b row e1 e2), sm1 hq _ _ o8, Dp, Op, bk⟩⟩, ⟨g.lz, by rw [lset]; exact g.pos, by rw [lset]; exact g.few, by rw [lset]; exact ml, fun r hr => ?_, fun r hr n hn => ?_⟩⟩
      · rcases inset r hr with h | rfl
        · exact g.len r h
        · rw [List.length_set]
          exact rlen
      · rw [lset]
        rcases inset r hr with h | rfl
        · exact g.lt r h n hn
        · rcases List.mem_or_eq_of_mem_set hn with h | h
          · exact rlt n h
          · exact ho3 n h.symm
end
end Wf
set_option maxHeartbeats 40000000
namespace Wf
open PySem PySem.Spec PyProof.Rows L2
/-! other machines to compare with; what is shown of a machine -/
abbrev s_law_others : Stmt := top 66
abbrev N_law_others : List Str := ["pen", "one", "other", "rows", "marks", "few", "some", "thirds"]
theorem sc_law_others : FnScope N_law_others ["pen", "one"] (defScope s_law_others) := ⟨rfl, rfl, rfl, by decide +kernel, rfl, by decide +kernel, by decide +kernel⟩
abbrev s_law_shown : Stmt := top 54
abbrev N_law_shown : List Str := ["machine"]
theorem sc_law_shown : FnScope N_law_shown ["machine"] (defScope s_law_shown) := ⟨rfl, rfl, rfl, by decide +kernel, rfl, by decide +kernel, by decide +kernel⟩
/-- a plain table with these letters, not large -/
def Pl20 (p : Addr) (H : Hp) (z : Str) (t : Addr) : Prop := ∃ (tb : List (List (Option Nat))) (ms : List (Option Bool)), PlnAt p H t z tb ms ∧ tb.length ≤ 20
theorem Pl20.same {p t : Addr} {H H' : Hp} {z : Str} (h : Pl20 p H z t) (s : Same H H') : Pl20 p H' z t := let ⟨tb, ms, a, b⟩ := h; ⟨tb, ms, a.same s, b⟩
theorem Pl20.but {p c t : Addr} {n : Nat} {H H' : Hp} {z : Str} (h : Pl20 p H z t) (b : But p H H') (hp : Pen H p c n) : Pl20 p H' z t := let ⟨tb, ms, a, l⟩ := h; ⟨tb, ms, a.but b hp, l⟩
def spOthers : Sp := fun vs H Q _ => ∃ (p c : Addr) (n : Nat) (t : Addr) (z : Str) (tb : List (List (Option Nat))) (ms : List (Option Bool)), vs = [.ref p, .ref t] ∧ Pen H p c n ∧ n ≤ 700000 ∧ PlnAt p H t z tb ms ∧ tb.length ≤ 20 ∧
  ∀ (q t1 l : Addr) (ts : List Addr) (H' : Hp), But p H H' → Pen H' p c (n + 1000) → H' q = some (.tup [.ref t1, .ref l]) → H' l = some (.lst (ts.map V.ref)) → Pl20 p H' z t1 → (∀ t ∈ ts, Pl20 p H' z t) → Q (.ref q) H'
def spShown (K : PySem.W.Frag) (C : Addr) : Sp := fun vs H Q _ => ∃ i : MI, vs = [.ref i.x] ∧ i.C = C ∧ MIat K H i ∧
  ∀ (q : Addr) (H' : Hp), Same H H' → H' q = some (.tup [.ref i.t, .ref i.u]) → Q (.ref q) H'
section
variable {P : Program} {w : World} {K : PySem.W.Frag} {mg : Str → Option Value} {base : Heap} {f : Addr} {fd : FuncData}
theorem ok_shown {C : Addr} (F : Fun K "_law_shown" "_law_shown" s_law_shown f fd) (T : Txt K mg) (mc : McC K C) (P_transitions : Pr P w K mg base C "transitions" (getSp C "_transitions")) (P_marks : Pr P w K mg base C "marks" (getSp C "_marks")) : FnOk P w K mg base CX0 3 f fd ["machine"] (spShown K C) := by
  refine F.ok sc_law_shown (fun vs H Q E h => ?_) (fun cdv A outer s H vs Q E hr h => ?_)
  · obtain ⟨i, rfl, _⟩ := h
    rfl
  · obtain ⟨i, rfl, ei, at_, fin⟩ := h
    refine ⟨_, (pss_one (ps_ret (pe_tup (pa_cons (pe_pr P_transitions mc.cl (hr.mono (by decide)) (pv 0)) (pa_cons (pe_pr P_marks mc.cl (hr.mono (by decide)) (pv 0)) pa_nil))))), ?_⟩
    have ob := at_.ob
    rw [ei] at ob
    refine ⟨_, rfl, i.x, i.dx, _, rfl, ob, i.x, i.dx, _, _, rfl, ob, rfl, _, rfl, i.x, i.dx, _, rfl, ob, i.x, i.dx, _, _, rfl, ob, rfl, by show 2 ≤ sizeLine; decide, fun q hq => fin q _ (sm1 hq) upd_same⟩
theorem ok_others (F : Fun K "_law_others" "_law_others" s_law_others f fd) (T : Txt K mg) (D_law_draw : Dn P w K mg base 1 "_law_draw" ["pen", "many"] spDraw) (D_law_pick : Dn P w K mg base 2 "_law_pick" ["pen", "some"] (spPick K)) (D_law_table : Dn P w K mg base 2 "_law_table" ["pen", "letters", "size", "is_full"] spTable)
    (D_law_twin : Dn P w K mg base 3 "_law_twin" ["pen", "plain"] spTwin) (D_law_marked : Dn P w K mg base 3 "_law_marked" ["pen", "plain"] spVar) (D_law_remarked : Dn P w K mg base 3 "_law_remarked" ["pen", "plain"] spVar) (D_law_near : Dn P w K mg base 3 "_law_near" ["pen", "plain"] spVar) : FnOk P w K mg base CX0 4 f fd ["pen", "one"] spOthers := by
  refine F.ok sc_law_others (fun vs H Q E h => ?_) (fun cdv A outer s H vs Q E hr h => ?_)
  · obtain ⟨p, c, n, t, z, tb, ms, rfl, _⟩ := h
    rfl
  · obtain ⟨p, c, n, t, z, tb, ms, rfl, hp, n1, pl, few, k⟩ := h
    refine ⟨_, (pss_cons (ps_if (pt_cmpR op_gt (pe_callB call_len_seq (by rfl) T.z_len PySem.boot_len (pa_cons (pe_ix ix_tup (pv 1) (pe_int) (fun _ _ => rfl)) pa_nil)) (pe_int) (nomark _)) (pss_cons (ps_set (i := 2) sc_law_others.nd rfl (Or.inl rfl) (pe_cl D_law_marked (hr.mono (by decide)) (pa_cons (pv 0) (pa_cons (pv 1) pa_nil))))
  (pss_one (ps_ret (pe_tup (pa_cons (pv 2) (pa_cons (pe_lst (pa_cons (pv 1) (pa_cons (pv 2) (pa_cons (pe_cl D_law_remarked (hr.mono (by decide)) (pa_cons (pv 0) (pa_cons (pv 1) pa_nil))) (pa_cons (pe_cl D_law_marked (hr.mono (by decide)) (pa_cons (pv 0) (pa_cons (pv 1) pa_nil))) (pa_cons (pe_cl D_law_near (hr.mono (by decide)) (pa_cons (pv 0) (pa_cons (pv 1) pa_nil))) pa_nil)))))) pa_nil)))))) pss_nil)
  (pss_cons (ps_asg (pe_cl D_law_table (hr.mono (by decide)) (pa_cons (pv 0) (pa_cons (pe_ix ix_tup (pv 1) (pe_int) (fun _ _ => rfl)) (pa_cons (pe_op op_add (pe_int) (pe_cl D_law_draw (hr.mono (by decide)) (pa_cons (pv 0) (pa_cons (pe_int) pa_nil)))) (pa_cons (pe_bl) pa_nil))))) (pg_tup (by rfl) (pgs_cons (pg_name (i := 3) sc_law_others.nd rfl (Or.inl rfl)) (pgs_cons (pg_name (i := 4) sc_law_others.nd rfl (Or.inl rfl)) pgs_nil))))
  (pss_cons (ps_set (i := 2) sc_law_others.nd rfl (Or.inl rfl) (pe_cl D_law_pick (hr.mono (by decide)) (pa_cons (pv 0) (pa_cons (pe_lst (pa_cons (pe_cl D_law_marked (hr.mono (by decide)) (pa_cons (pv 0) (pa_cons (pv 1) pa_nil))) (pa_cons (pe_tup (pa_cons (pe_ix ix_tup (pv 1) (pe_int) (fun _ _ => rfl)) (pa_cons (pv 3) (pa_cons (pv 4) pa_nil)))) pa_nil))) pa_nil))))
  (pss_cons (ps_asg (pe_cl D_law_table (hr.mono (by decide)) (pa_cons (pv 0) (pa_cons (pe_ix ix_tup (pv 1) (pe_int) (fun _ _ => rfl)) (pa_cons (pe_op op_add (pe_int) (pe_cl D_law_draw (hr.mono (by decide)) (pa_cons (pv 0) (pa_cons (pe_int) pa_nil)))) (pa_cons (pe_bl) pa_nil))))) (pg_tup (by rfl) (pgs_cons (pg_name (i := 5) sc_law_others.nd rfl (Or.inl rfl)) (pgs_cons (pg_name (i := 6) sc_law_others.nd rfl (Or.inl rfl)) pgs_nil))))
  (pss_cons (ps_set (i := 7) sc_law_others.nd rfl (Or.inl rfl) (pe_lst (pa_cons (pv 1) (pa_cons (pv 2) (pa_cons (pe_tup (pa_cons (pe_ix ix_tup (pv 1) (pe_int) (fun _ _ => rfl)) (pa_cons (pv 5) (pa_cons (pv 6) pa_nil)))) (pa_cons (pe_cl D_law_twin (hr.mono (by decide)) (pa_cons (pv 0) (pa_cons (pv 1) pa_nil))) pa_nil))))))
  (pss_one (ps_ret (pe_tup (pa_cons (pv 2) (pa_cons (pe_op op_cat (pv 7) (pe_lst (pa_cons (pe_cl D_law_marked (hr.mono (by decide)) (pa_cons (pv 0) (pa_cons (pv 1) pa_nil))) (pa_cons (pe_cl D_law_near (hr.mono (by decide)) (pa_cons (pv 0) (pa_cons (pv 1) pa_nil))) pa_nil)))) pa_nil)))))))))), ?_⟩
    obtain ⟨r, m, bs, et, l⟩ := pl.ex
    have g := pl.g
    have ml := g.m
    have zl := g.lz.2.2.2
    have lm : (ms.map mV).length = tb.length := by rw [List.length_map, ml]
    refine ⟨_, rfl, t, _, 2, .ref m, rfl, rfl, SqT.of et, rfl, m, _, rfl, .inl (SqL.of l.ma), _, _, rfl, rfl, _, rfl, ?_⟩
    rw [lm]
    by_cases big : 8 < tb.length
    · rw [decide_eq_true (show (8 : Int) < ((tb.length : Nat) : Int) from by omega)]
      refine iteT ⟨_, rfl, _, rfl, p, c, n, t, z, tb, ms, rfl, hp, by omega, pl, few, fun t1 tb1 ms1 H1 b1 hp1 pl1 l1 => ?_⟩
      have pl_1 := pl.but b1 hp
      refine ⟨_, rfl, _, rfl, _, rfl, _, rfl, _, rfl, p, c, _, t, z, tb, ms, rfl, hp1, by omega, pl_1, few, fun t2 tb2 ms2 H2 b2 hp2 pl2 l2 => ?_⟩
      have pl_2 := pl_1.but b2 hp1
      have pl1 := pl1.but b2 hp1
      refine ⟨_, rfl, _, rfl, p, c, _, t, z, tb, ms, rfl, hp2, by omega, pl_2, few, fun t3 tb3 ms3 H3 b3 hp3 pl3 l3 => ?_⟩
      have pl_3 := pl_2.but b3 hp2
      have pl1 := pl1.but b3 hp2
      have pl2 := pl2.but b3 hp2
      refine ⟨_, rfl, _, rfl, p, c, _, t, z, tb, ms, rfl, hp3, by omega, pl_3, few, fun t4 tb4 ms4 H4 b4 hp4 pl4 l4 => ?_⟩
      have pl_4 := pl_3.but b4 hp3
      have pl1 := pl1.but b4 hp3
      have pl2 := pl2.but b4 hp3
      have pl3 := pl3.but b4 hp3
      refine ⟨by show 5 ≤ sizeLine; decide, fun L hL => ⟨by show 2 ≤ sizeLine; decide, fun q hq => ?_⟩⟩
      have s5 := sm1 (o := .lst [.ref t, .ref t1, .ref t2, .ref t3, .ref t4]) hL
      have s6 := s5.trans (sm1 (o := .tup [.ref t1, .ref L]) hq)
      have eL := sm1 (o := .tup [.ref t1, .ref L]) hq _ _ (show (upd H4 L (.lst [.ref t, .ref t1, .ref t2, .ref t3, .ref t4])) L = some (.lst [.ref t, .ref t1, .ref t2, .ref t3, .ref t4]) from upd_same)
      refine k q t1 L [t, t1, t2, t3, t4] _ ((((b1.trans b2).trans b3).trans b4).same s6) ((hp4.same s6).up (by omega)) upd_same eL ⟨_, _, pl1.same s6, by omega⟩ fun u hu => ?_
      simp only [List.mem_cons, List.not_mem_nil, or_false] at hu
      rcases hu with rfl | rfl | rfl | rfl | rfl
      · exact ⟨_, _, pl_4.same s6, few⟩
      · exact ⟨_, _, pl1.same s6, by omega⟩
      · exact ⟨_, _, pl2.same s6, by omega⟩
      · exact ⟨_, _, pl3.same s6, by omega⟩
      · exact ⟨_, _, pl4.same s6, by omega⟩
    · rw [decide_eq_false (show ¬ (8 : Int) < ((tb.length : Nat) : Int) from by omega)]
      refine iteF ?_
      refine ⟨_, rfl, _, rfl, t, _, 0, .str z, rfl, rfl, SqT.of et, rfl, _, rfl, p, c, n, 4, rfl, hp, by omega, by decide, by decide, fun d H1 d0 d1 b1 hp1 => ⟨_, _, rfl, rfl, ?_⟩⟩
      obtain ⟨kd, rfl⟩ := Int.eq_ofNat_of_zero_le d0
      have size := Nat.mul_le_mul (show 1 + kd ≤ 4 by omega) (show 2 * z.length + 1 ≤ 9 by omega)
      refine ⟨p, c, _, z, 1 + kd, false, by show [V.ref p, V.str z, V.int ((1 : Int) + (kd : Int)), V.bl false] = _; rw [show (1 : Int) + (kd : Int) = ((1 + kd : Nat) : Int) by omega], hp1, by omega, by omega, by omega, by omega, fun tt r1 m1 bs1 tb1 ms1 H2 b2 hp2 _ ett T2 lt2 lm2 => ?_⟩
      refine ⟨tt, _, rfl, SqT.of ett, rfl, _, _, rfl, _, _, rfl, rfl, ?_⟩
      have g1 : TbG z tb1 ms1 := ⟨g.lz, by omega, by omega, by omega, T2.len, fun r hr n hn => by rw [lt2]; exact T2.lt r hr n hn⟩
      have L2 : LsAt p H2 r1 m1 bs1 tb1 ms1 := T2.ls (let ⟨_, e⟩ := hp1.at; ⟨_, e⟩)
      have hp2 := hp2.up (m := n + 100) (by omega)
      have b2 := b1.trans b2
      have pl2 := pl.but b2 hp
      have tl1 : tb1.length ≤ 20 := by omega
      clear ett T2 b1 hp1 size d0 d1
      -- other
      refine ⟨_, rfl, _, rfl, _, rfl, p, c, _, t, z, tb, ms, rfl, hp2, by omega, pl2, few, fun t3 tb3 ms3 H3 b3 hp3 pl3 l3 => ?_⟩
      have L3 := L2.but b3 hp2
      have b23 := b2.trans b3
      have pl_3 := pl2.but b3 hp2
      have et3 : H3 t = _ := b23 _ _ (pen_ne hp et nofun) et
      refine ⟨_, rfl, t, _, 0, .str z, rfl, rfl, SqT.of et3, rfl, _, rfl, _, rfl, by show 3 ≤ sizeLine; decide, fun q1 hq1 => ⟨by show 2 ≤ sizeLine; decide, fun q2 hq2 => ?_⟩⟩
      have s4 := sm1 (o := .tup [.str z, .ref r1, .ref m1]) hq1
      have s5 := s4.trans (sm1 (o := .lst [.ref t3, .ref q1]) hq2)
      have e1 := sm1 (o := .lst [.ref t3, .ref q1]) hq2 _ _ (show (upd H3 q1 (.tup [.str z, .ref r1, .ref m1])) q1 = some (.tup [.str z, .ref r1, .ref m1]) from upd_same)
      refine ⟨p, c, _, hp3.same s5, by omega, .inl ⟨q2, _, rfl, .inl (SqL.of upd_same), by show 0 < 2; decide, by show 2 < 1000000; decide, fun x H4 hx b4 hp4 => ?_⟩⟩
      obtain ⟨t4, rfl, pt4⟩ : ∃ t4, x = .ref t4 ∧ Pl20 p H4 z t4 := by
        simp only [List.mem_cons, List.not_mem_nil, or_false] at hx
        rcases hx with rfl | rfl
        · exact ⟨t3, rfl, Pl20.but ⟨tb3, ms3, pl3.same s5, by omega⟩ b4 (hp3.same s5)⟩
        · exact ⟨q1, rfl, Pl20.but ⟨tb1, ms1, ⟨⟨r1, m1, bs1, e1, L3.same s5⟩, g1⟩, by omega⟩ b4 (hp3.same s5)⟩
      have b4 := (b23.same s5).trans b4
      clear e1 s4 s5 hq1 hq2 b2 b3 b23 pl3 L2 L3 hp2 hp3 pl2 pl_3 hx et3
      have pl4 := pl.but b4 hp
      have et4 : H4 t = _ := b4 _ _ (pen_ne hp et nofun) et
      -- few, some
      refine ⟨_, rfl, _, rfl, t, _, 0, .str z, rfl, rfl, SqT.of et4, rfl, _, rfl, p, c, _, 3, rfl, hp4, by omega, by decide, by decide, fun d H5 d0 d1 b5 hp5 => ⟨_, _, rfl, rfl, ?_⟩⟩
      obtain ⟨k5, rfl⟩ := Int.eq_ofNat_of_zero_le d0
      have size := Nat.mul_le_mul (show 1 + k5 ≤ 4 by omega) (show 2 * z.length + 1 ≤ 9 by omega)
      refine ⟨p, c, _, z, 1 + k5, true, by show [V.ref p, V.str z, V.int ((1 : Int) + (k5 : Int)), V.bl true] = _; rw [show (1 : Int) + (k5 : Int) = ((1 + k5 : Nat) : Int) by omega], hp5, by omega, by omega, by omega, by omega, fun t6 r6 m6 bs6 tb6 ms6 H6 b6 hp6 _ et6 T6 lt6 lm6 => ?_⟩
      refine ⟨t6, _, rfl, SqT.of et6, rfl, _, _, rfl, _, _, rfl, rfl, ?_⟩
      have g6 : TbG z tb6 ms6 := ⟨g.lz, by omega, by omega, by omega, T6.len, fun r hr n hn => by rw [lt6]; exact T6.lt r hr n hn⟩
      have L6 : LsAt p H6 r6 m6 bs6 tb6 ms6 := T6.ls (let ⟨_, e⟩ := hp5.at; ⟨_, e⟩)
      have hp6 := hp6.up (m := n + 300) (by omega)
      have pt6 := (pt4.but b5 hp4).but b6 hp5
      have b6 := (b4.trans b5).trans b6
      have pl6 := pl.but b6 hp
      have et_6 : H6 t = _ := b6 _ _ (pen_ne hp et nofun) et
      have tl6 : tb6.length ≤ 20 := by omega
      clear et6 T6 b4 b5 hp4 hp5 size d0 d1 pt4 pl4 et4
      -- thirds
      refine ⟨_, rfl, _, rfl, _, rfl, t, _, 0, .str z, rfl, rfl, SqT.of et_6, rfl, _, rfl, _, rfl, by show 3 ≤ sizeLine; decide, fun q3 hq3 => ?_⟩
      have s7 := sm1 (o := .tup [.str z, .ref r6, .ref m6]) hq3
      have p3 : Pl20 p (upd H6 q3 (.tup [.str z, .ref r6, .ref m6])) z q3 := ⟨tb6, ms6, ⟨⟨r6, m6, bs6, upd_same, L6.same s7⟩, g6⟩, by omega⟩
      refine ⟨_, rfl, _, rfl, p, c, _, t, z, tb, ms, rfl, hp6.same s7, by omega, pl6.same s7, by omega, fun t8 tb8 ms8 H8 b8 hp8 pl8 l8 _ => ⟨by show 4 ≤ sizeLine; decide, fun l1 hl1 => ?_⟩⟩
      have pa4 := (pt6.same s7).but b8 (hp6.same s7)
      have pa3 := p3.but b8 (hp6.same s7)
      have pa1 := (pl6.same s7).but b8 (hp6.same s7)
      have b8 := (b6.same s7).trans b8
      have s9 := sm1 (o := .lst [.ref t, .ref t4, .ref q3, .ref t8]) hl1
      have el1 : (upd H8 l1 (.lst [.ref t, .ref t4, .ref q3, .ref t8])) l1 = some (.lst [.ref t, .ref t4, .ref q3, .ref t8]) := upd_same
      have b9 := b8.same s9
      have hp9 := hp8.same s9
      have pa1 := pa1.same s9
      have pa3 := pa3.same s9
      have pa4 := pa4.same s9
      have pa8 := pl8.same s9
      generalize upd H8 l1 (.lst [.ref t, .ref t4, .ref q3, .ref t8]) = H9 at el1 b9 hp9 pa1 pa3 pa4 pa8 ⊢
      clear p3 s7 hq3 b8 hp8 pl8 s9 hl1 L6 hp6 pt6 pl6 et_6
      -- the end
      refine ⟨_, rfl, _, rfl, _, rfl, _, rfl, p, c, _, t, z, tb, ms, rfl, hp9, by omega, pa1, few, fun ta tba msa Ha ba hpa pla la => ?_⟩
      have l1p := pen_ne hp9 el1 nofun
      have pa1 := pa1.but ba hp9
      have pa3 := pa3.but ba hp9
      have pa4 := pa4.but ba hp9
      have pa8 := pa8.but ba hp9
      refine ⟨_, rfl, _, rfl, p, c, _, t, z, tb, ms, rfl, hpa, by omega, pa1, few, fun tc tbc msc Hc bc hpc plc lc => ⟨by show 2 ≤ sizeLine; decide, fun l2 hl2 => ?_⟩⟩
      have pa1 := pa1.but bc hpa
      have pa3 := pa3.but bc hpa
      have pa4 := pa4.but bc hpa
      have pa8 := pa8.but bc hpa
      have pla := pla.but bc hpa
      have elc := bc _ _ l1p (ba _ _ l1p el1)
      have sd := sm1 (o := .lst [.ref ta, .ref tc]) hl2
      refine ⟨l1, l2, _, _, rfl, rfl, sd _ _ elc, upd_same, by show 4 + 2 ≤ sizeLine; decide, fun l3 hl3 => ⟨by show 2 ≤ sizeLine; decide, fun q hq => ?_⟩⟩
      have se := sd.trans (sm1 (o := .lst ([.ref t, .ref t4, .ref q3, .ref t8] ++ [.ref ta, .ref tc])) hl3)
      have el3 := sm1 (o := .tup [.ref t4, .ref l3]) hq _ _ (show (upd (upd Hc l2 (.lst [.ref ta, .ref tc])) l3 (.lst ([.ref t, .ref t4, .ref q3, .ref t8] ++ [.ref ta, .ref tc]))) l3 = some (.lst ([.ref t, .ref t4, .ref q3, .ref t8] ++ [.ref ta, .ref tc])) from upd_same)
      have sf := se.trans (sm1 (o := .tup [.ref t4, .ref l3]) hq)
      refine k q t4 l3 [t, t4, q3, t8, ta, tc] _ (((b9.trans ba).trans bc).same sf) ((hpc.same sf).up (by omega)) upd_same el3 (pa4.same sf) fun u hu => ?_
      simp only [List.mem_cons, List.not_mem_nil, or_false] at hu
      rcases hu with rfl | rfl | rfl | rfl | rfl | rfl
      · exact ⟨_, _, pa1.same sf, few⟩
      · exact pa4.same sf
      · exact pa3.same sf
      · exact ⟨_, _, pa8.same sf, by omega⟩
      · exact ⟨_, _, pla.same sf, by omega⟩
      · exact ⟨_, _, plc.same sf, by omega⟩
end
end Wf
set_option maxHeartbeats 40000000
namespace Wf
open PySem PySem.Spec PyProof.Rows L2
abbrev s_law : Stmt := top 67
abbrev N_law : List Str := ["script", "pen", "bout", "one", "made", "third", "other", "thirds", "kept", "machine", "due"]
theorem sc_law : FnScope N_law ["script"] (defScope s_law) := ⟨rfl, rfl, rfl, by decide +kernel, rfl, by decide +kernel, by decide +kernel⟩
theorem badL_iff {m0 m1 m2 : Option Bool} : badL m0 m1 m2 = true ↔ (m1 = some true ∧ m0 ≠ some true) ∨ (m2 = some true ∧ m0 ≠ some false) := by
  unfold badL
  rw [Bool.or_eq_true_iff, Bool.and_eq_true_iff, Bool.and_eq_true_iff, decide_eq_true_iff, decide_eq_true_iff, decide_eq_true_iff, decide_eq_true_iff]
def dR : Option (List Nat) → PyData
  | none => .none
  | some w => .str (wS w)
theorem dq_rV {K : PySem.W.Frag} {H : Hp} : ∀ (r : Option (List Nat)), Dq K H (rV r) (dR r)
  | none => .non
  | some w => .str _
theorem vw_dR {zs : List Nat} {Bad : List Nat → Prop} {r : Option (List Nat)} (abc : ∀ c ∈ zs, 97 ≤ c ∧ c ≤ 122) (L : Lst zs Bad r) (b : ∀ w, r = some w → w.length ≤ 441) : Vw 0 10000 (dR r) := by
  cases r with
  | none => exact vw_none.more (by decide) (by decide)
  | some w => exact (vw_str (m := 441) (x := wS w) (abc_ok fun c hc => abc c (L.1 c hc)) (by rw [wS_len]; exact b w rfl)).more (by decide) (by decide)
theorem row_dq {K : PySem.W.Frag} {H : Hp} {b : Addr} {row : List (Option Nat)} (h : SqL K H b (row.map oV) ∨ SqT K H b (row.map oV)) (len : row.length ≤ 4) (sm : ∀ o ∈ row, Vw 0 10 (dOn o)) : ∃ d, Dq K H (.ref b) d ∧ Vw 1 60 d := by
  have l2 : (row.map dOn).length ≤ 4 := by rw [List.length_map]; exact len
  have all : ∀ d ∈ row.map dOn, Vw 0 10 d := fun d hd => by
    obtain ⟨o, ho, rfl⟩ := List.mem_map.mp hd
    exact sm o ho
  rcases h with h | h
  · exact ⟨_, .lst h (dqAll_oV row), (vw_list (k := 0) (n := 10) (c := 4) l2 all).more (by decide) (by decide)⟩
  · exact ⟨_, .tup h (dqAll_oV row), (vw_tuple (k := 0) (n := 10) (c := 4) l2 all).more (by decide) (by decide)⟩
theorem refs_dq {K : PySem.W.Frag} {H : Hp} : ∀ {bs : List Addr}, (∀ b ∈ bs, ∃ d, Dq K H (.ref b) d ∧ Vw 1 60 d) → ∃ ds, DqAll K H (bs.map V.ref) ds ∧ ds.length = bs.length ∧ ∀ d ∈ ds, Vw 1 60 d
  | [], _ => ⟨[], .nil, rfl, fun d hd => absurd hd List.not_mem_nil⟩
  | b :: bs, h => by
    obtain ⟨d, h1, h2⟩ := h b List.mem_cons_self
    obtain ⟨ds, g1, g2, g3⟩ := refs_dq (bs := bs) fun c hc => h c (List.mem_cons_of_mem _ hc)
    exact ⟨d :: ds, .cons h1 g1, congrArg (· + 1) g2, fun e he => (List.mem_cons.mp he).elim (fun z => by rw [z]; exact h2) (g3 e)⟩
/-- the transitions, as they show -/
theorem rws_dq {K : PySem.W.Frag} {H : Hp} {t : Addr} {z : Str} {tb : List (List (Option Nat))} {ms : List (Option Bool)} (h : Rws K H t tb) (g : TbG z tb ms) : ∃ d, Dq K H (.ref t) d ∧ Vw 2 6300 d := by
  obtain ⟨bs, h1, h2, h3⟩ := h
  obtain ⟨ds, e1, e2, e3⟩ := refs_dq (K := K) (H := H) (bs := bs) fun b hb => by
    obtain ⟨i, hi⟩ := List.mem_iff_getElem?.mp hb
    have il : i < tb.length := by rw [← h2]; exact (List.getElem?_eq_some_iff.mp hi).1
    have hr : tb[i]? = some (tb[i]'il) := List.getElem?_eq_getElem _
    have rm := List.mem_of_getElem? hr
    exact row_dq (h3 i b _ hi hr) (g.row rm) (g.vwO _ rm)
  have l : ds.length ≤ 100 := by rw [e2, h2]; exact g.few
  rcases h1 with h1 | h1
  · exact ⟨_, .lst h1 e1, (vw_list (k := 1) (n := 60) (c := 100) l e3).more (by decide) (by decide)⟩
  · exact ⟨_, .tup h1 e1, (vw_tuple (k := 1) (n := 60) (c := 100) l e3).more (by decide) (by decide)⟩
theorem vw_sh {d : PyData} {z : Str} {tb : List (List (Option Nat))} {ms : List (Option Bool)} (h : Vw 2 6300 d) (g : TbG z tb ms) : Vw 3 20000 (.tuple [d, mksD ms]) := (vw_tuple (k := 2) (n := 6300) (c := 2) (by show 2 ≤ 2; decide) fun e he => by
  simp only [List.mem_cons, List.not_mem_nil, or_false] at he
  rcases he with rfl | rfl
  · exact h
  · exact g.vwM.more (by decide) (by decide)).more (by decide) (by decide)
def spLaw (K : PySem.W.Frag) : Sp := fun vs H Q _ => ∃ (a : Addr) (ns : List Int), vs = [.ref a] ∧ SqL K H a (ns.map V.int) ∧ ns.length ≤ 63 ∧ ∀ H', Q (.bl true) H'
section
variable {P : Program} {w : World} {K : PySem.W.Frag} {mg : Str → Option Value} {base : Heap} {f : Addr} {fd : FuncData}
theorem ok_law {CM : Addr} (F : Fun K "law" "law" s_law f fd) (T : Txt K mg) (MB : Mods base) (mc : McC K CM)
    (D_law_pen : Dn P w K mg base 1 "_law_pen" ["script"] (spPen K)) (D_law_plain : Dn P w K mg base 4 "_law_plain" ["pen", "most_letters", "most"] spPlain) (D_law_wide : Dn P w K mg base 4 "_law_wide" ["pen", "most_letters"] spWide)
    (D_law_others : Dn P w K mg base 4 "_law_others" ["pen", "one"] spOthers) (D_law_machine : Dn P w K mg base 7 "_law_machine" ["plain"] (spMachine CM K)) (D_law_mistake_due : Dn P w K mg base 3 "_law_mistake_due" ["plain", "one", "other"] spLawDue)
    (D_law_shown : Dn P w K mg base 3 "_law_shown" ["machine"] (spShown K CM)) (D_first_mistake : Dn P w K mg base 9 "first_mistake" ["machine", "one", "other"] (spFirstM K CM)) (D_separates : Dn P w K mg base 10 "separates" ["machine", "one", "other"] (spSepar K CM)) : FnG P w K mg base CX0 11 f fd ["script"] (spLaw K) := by
  refine FnG.plain F sc_law (fun h => ?_) (fun cdv A outer s H vs Q E hq hr h => ?_)
  · obtain ⟨a, ns, rfl, _⟩ := h
    rfl
  · refine ⟨_, (pss_cons (ps_set (i := 1) sc_law.nd rfl (Or.inl rfl) (pe_cl D_law_pen (hr.mono (by decide)) (pa_cons (pv 0) pa_nil)))
  (pss_cons (ps_for PassesOwn.never rfl (pi_range1 (by rfl) T.z_range (pa_cons (pe_int) pa_nil)) (pg_name (i := 2) sc_law.nd rfl (Or.inl rfl))
   (C8.pss_cut (ps_set (i := 3) sc_law.nd rfl (Or.inl rfl) (pe_ifExp (pt_cmpR op_eq (pv 2) (pe_int) (nomark _)) (pe_cl D_law_wide (hr.mono (by decide)) (pa_cons (pv 1) (pa_cons (pe_int) pa_nil))) (pe_cl D_law_plain (hr.mono (by decide)) (pa_cons (pv 1) (pa_cons (pe_int) (pa_cons (pe_int) pa_nil))))))
  (pss_cons (ps_asg (pe_cl D_law_others (hr.mono (by decide)) (pa_cons (pv 1) (pa_cons (pv 3) pa_nil))) (pg_tup (by rfl) (pgs_cons (pg_name (i := 6) sc_law.nd rfl (Or.inl rfl)) (pgs_cons (pg_name (i := 7) sc_law.nd rfl (Or.inl rfl)) pgs_nil))))
  (pss_cons (ps_set (i := 4) sc_law.nd rfl (Or.inl rfl) (pe_lst (pa_cons (pe_cl D_law_machine (hr.mono (by decide)) (pa_cons (pv 3) pa_nil)) (pa_cons (pe_cl D_law_machine (hr.mono (by decide)) (pa_cons (pv 6) pa_nil)) pa_nil))))
  (pss_one (ps_for PassesOwn.never rfl (pi_list (pv 7)) (pg_name (i := 5) sc_law.nd rfl (Or.inl rfl))
   (pss_cons (ps_par (i := 9) (j := 10) (by rfl) sc_law.nd rfl rfl (by decide) rfl rfl (pa_cons (pe_cl D_law_machine (hr.mono (by decide)) (pa_cons (pv 5) pa_nil)) (pa_cons (pe_cl D_law_mistake_due (hr.mono (by decide)) (pa_cons (pv 5) (pa_cons (pv 3) (pa_cons (pv 6) pa_nil)))) pa_nil)) (by rfl))
  (pss_cons (ps_set (i := 8) sc_law.nd rfl (Or.inl rfl) (pe_callB (cr_reprQ MB hq hr.units) (by rfl) T.z_repr (by decide +kernel) (pa_cons (pe_cl D_law_shown (hr.mono (by decide)) (pa_cons (pv 9) pa_nil)) pa_nil)))
  (pss_cons (ps_if (pt_cmpR op_ne (pe_callB (cr_reprQ MB hq hr.units) (by rfl) T.z_repr (by decide +kernel) (pa_cons (pe_cl D_first_mistake (hr.mono (by decide)) (pa_cons (pv 9) (pa_cons (pe_ix ix_list (pv 4) (pe_int) (fun _ _ => rfl)) (pa_cons (pe_ix ix_list (pv 4) (pe_int) (fun _ _ => rfl)) pa_nil)))) pa_nil)) (pe_callB (cr_reprQ MB hq hr.units) (by rfl) T.z_repr (by decide +kernel) (pa_cons (pv 10) pa_nil)) (nomark _)) (pss_one (ps_ret (pe_bl))) pss_nil)
  (pss_one (ps_if (PW.pt (pw_or (pt_cmpR op_ne (pe_callB (cr_reprQ MB hq hr.units) (by rfl) T.z_repr (by decide +kernel) (pa_cons (pe_cl D_separates (hr.mono (by decide)) (pa_cons (pv 9) (pa_cons (pe_ix ix_list (pv 4) (pe_int) (fun _ _ => rfl)) (pa_cons (pe_ix ix_list (pv 4) (pe_int) (fun _ _ => rfl)) pa_nil)))) pa_nil)) (pe_callB (cr_reprQ MB hq hr.units) (by rfl) T.z_repr (by decide +kernel) (pa_cons (pe_cmpR op_isN (pv 10) (pe_non) (nomark _)) pa_nil)) (nomark _)) (pw_or1 (pt_cmpR op_ne (pe_callB (cr_reprQ MB hq hr.units) (by rfl) T.z_repr (by decide +kernel) (pa_cons (pe_cl D_law_shown (hr.mono (by decide)) (pa_cons (pv 9) pa_nil)) pa_nil)) (pv 8) (nomark _))))) (pss_one (ps_ret (pe_bl))) pss_nil)))))))))))
  (pss_one (ps_ret (pe_bl))))), ?_⟩
    obtain ⟨a, ns, rfl, hs, hl, k⟩ := h
    refine ⟨_, rfl, a, ns, rfl, hs, hl, fun p c H1 s1 hp0 hp1 => ?_⟩
    refine ⟨5, rfl, by decide, by decide, for_range (n := 5) (fun b σ H' => ∃ v2 v3 v4 v5 v6 v7 v8 v9 v10 : Option V, σ = [some (.ref a), some (.ref p), v2, v3, v4, v5, v6, v7, v8, v9, v10] ∧ Pen H' p c (b * 2000)) ⟨_, _, _, _, _, _, _, _, _, rfl, hp1⟩ ?_ ?_⟩
    · rintro b σ H2 hb ⟨v2, v3, v4, v5, v6, v7, v8, v9, v10, rfl, hp2⟩
      refine ⟨fun σ H' => ∃ (t : Addr) (z : Str) (tb : List (List (Option Nat))) (ms : List (Option Bool)), σ = [some (.ref a), some (.ref p), some (.int (0 + (b : Int))), some (.ref t), v4, v5, v6, v7, v8, v9, v10] ∧ Pen H' p c (b * 2000 + 300) ∧ PlnAt p H' t z tb ms ∧ tb.length ≤ 20, ?_, ?_⟩
      · refine ⟨_, rfl, rfl, _, rfl, ?_⟩
        cases decide (V.int (0 + (b : Int)) = V.int 0) with
        | true => exact iteT ⟨_, rfl, p, c, _, 2, rfl, hp2, by omega, by decide, by decide, fun t z tb ms H3 bt3 hp3 _ pl3 zl tl => ⟨_, _, _, _, rfl, hp3, pl3, tl⟩⟩
        | false => exact iteF ⟨_, rfl, p, c, _, 3, 4, rfl, hp2, by omega, by decide, by decide, by decide, by decide, fun t z tb ms H3 bt3 hp3 _ pl3 zl tl => ⟨_, _, _, _, rfl, hp3.up (by omega), pl3, by omega⟩⟩
      rintro σ H3 ⟨t, z, tb, ms, rfl, hp3, pl3, tl⟩
      refine ⟨_, rfl, _, rfl, p, c, _, t, z, tb, ms, rfl, hp3, by omega, pl3, tl, fun q t1 l ts H4 b4 hp4 eq4 el4 p1 pts => ?_⟩
      obtain ⟨tb1, ms1, pl1, tl1⟩ := p1
      have pl4 := pl3.but b4 hp3
      refine ⟨q, _, rfl, SqT.of eq4, rfl, _, _, rfl, _, _, rfl, rfl, ?_⟩
      clear hp2 hp3 pl3 eq4 b4
      have g := pl4.g
      have g1 := pl1.g
      have zl : z.length ≤ 1000 := by have := g.lz.2.2.2; omega
      have up := g.lz.1
      have abc := g.lz.2.1
      -- made
      refine ⟨_, rfl, p, t, z, tb, ms, rfl, pl4, fun i H5 s5 at5 eC er ez etb ems => ⟨_, rfl, p, t1, z, tb1, ms1, rfl, pl1.same s5, fun j H6 s6 at6 eCj erj ezj etbj emsj => ⟨by show 2 ≤ sizeLine; decide, fun L hL => ?_⟩⟩⟩
      have s7 := (s5.trans s6).trans (sm1 (o := .lst [.ref i.x, .ref j.x]) hL)
      have eL : (upd H6 L (.lst [.ref i.x, .ref j.x])) L = some (.lst [.ref i.x, .ref j.x]) := upd_same
      have ci : CmpOk K CM (upd H6 L (.lst [.ref i.x, .ref j.x])) z i := ⟨eC, (at5.same s6).same (sm1 hL), ez, by rw [etb]; exact tl⟩
      have cj : CmpOk K CM (upd H6 L (.lst [.ref i.x, .ref j.x])) z j := ⟨eCj, at6.same (sm1 hL), ezj, by rw [etbj]; exact tl1⟩
      generalize upd H6 L (.lst [.ref i.x, .ref j.x]) = H7 at s7 eL ci cj ⊢
      have hp7 := hp4.same s7
      have el7 := s7 _ _ el4
      have pl7 := pl4.same s7
      have pl17 := pl1.same s7
      have pts7 : ∀ u ∈ ts, Pl20 p H7 z u := fun u hu => (pts u hu).same s7
      clear hL s5 s6 at5 at6 pts pl1 pl4 el4 hp4 s7
      refine ⟨_, rfl, l, rfl, ⟨_, SqL.of el7⟩, for_list (K := K) (a := l) (xs := ts.map V.ref) (fun m σ H' => ∃ v5 v8 v9 v10 : Option V, σ = [some (.ref a), some (.ref p), some (.int (0 + (b : Int))), some (.ref t), some (.ref L), v5, some (.ref t1), some (.ref l), v8, v9, v10] ∧ Same H7 H') ⟨_, _, _, _, rfl, same_refl⟩ (fun m σ H' _ ⟨_, _, _, _, _, e⟩ => SqL.of (e _ _ el7)) ?_ ?_⟩
      · rintro m x σ H8 hx ⟨v5, v8, v9, v10, rfl, s8⟩
        rw [List.getElem?_map] at hx
        obtain ⟨u, hu, rfl⟩ := Option.map_eq_some_iff.mp hx
        obtain ⟨tb3, ms3, pl3, tl3⟩ := (pts7 u (List.mem_of_getElem? hu)).same s8
        have g3 := pl3.g
        refine ⟨_, rfl, p, u, z, tb3, ms3, rfl, pl3, fun k H9 s9 at9 eCk erk ezk etbk emsk => ?_⟩
        have s9' := s8.trans s9
        refine ⟨_, rfl, _, rfl, _, rfl, p, u, t, t1, z, (tb3, ms3), (tb, ms), (tb1, ms1), rfl, pl3.same s9, pl7.same s9', pl17.same s9', tl3, tl, tl1, fun r0 Ha sa L0 _ => ⟨_, _, rfl, ?_⟩⟩
        have sa' := s9'.trans sa
        have ata := at9.same sa
        have gk : TbG k.z k.tb k.ms := by rw [ezk, etbk, emsk]; exact g3
        obtain ⟨dT, dqT, vwT⟩ := rws_dq ata.nx gk
        have vw := (vw_sh vwT gk).shn (by decide) (by decide)
        have ck : CmpOk K CM Ha z k := ⟨eCk, ata, ezk, by rw [etbk]; exact tl3⟩
        clear s9 pl3 at9 s9' sa s8 hx
        -- kept
        refine ⟨_, rfl, k, rfl, eCk, ata, fun q1 Hb sb eb => ⟨_, .tuple [dT, mksD k.ms], rfl, .tup (SqT.of eb) (.cons ((Sty.of (K := K) sb).dq dqT) (.cons ((Sty.of (K := K) sb).dq ata.mr) .nil)), vw.1, vw.2.1, vw.2.2, ?_⟩⟩
        have sb' := sa'.trans sb
        have ckb := ck.same sb
        -- first_mistake
        refine ⟨_, rfl, _, rfl, L, _, 0, .ref i.x, rfl, rfl, SqL.of (sb' _ _ eL), rfl, _, rfl, L, _, 1, .ref j.x, rfl, rfl, SqL.of (sb' _ _ eL), rfl, k, i, j, z, rfl, ckb, ci.same sb', cj.same sb', zl, up, fun r Hc sc Lr br => ?_⟩
        have conv : ∀ v, (∀ c ∈ v, c ∈ z.cps.toList) → (((mkOf z i v = some true ∧ mkOf z k v ≠ some true) ∨ (mkOf z j v = some true ∧ mkOf z k v ≠ some false)) ↔ badL (markAt ms3 (ledTo z.cps.toList tb3 (some 0) v)) (markAt ms (ledTo z.cps.toList tb (some 0) v)) (markAt ms1 (ledTo z.cps.toList tb1 (some 0) v)) = true) := fun v _ => by
          rw [badL_iff]
          unfold mkOf
          rw [etb, ems, etbj, emsj, etbk, emsk]
        have e0 : r = r0 := Lst.uniq Lr L0 conv
        subst e0
        have vr := (vw_dR abc Lr br).shn (by decide) (by decide)
        refine ⟨_, dR r, rfl, dq_rV r, vr.1, vr.2.1, vr.2.2, _, rfl, _, dR r, rfl, dq_rV r, vr.1, vr.2.1, vr.2.2, rfl, _, rfl, iteNS rfl ?_⟩
        have sc' := sb'.trans sc
        have ckc := ckb.same sc
        -- separates, shown again
        refine ⟨_, rfl, _, rfl, L, _, 0, .ref i.x, rfl, rfl, SqL.of (sc' _ _ eL), rfl, _, rfl, L, _, 1, .ref j.x, rfl, rfl, SqL.of (sc' _ _ eL), rfl, k, i, j, z, rfl, ckc, ci.same sc', cj.same sc', zl, up, fun r2 Hd sd Ld => ?_⟩
        have e2 : r2 = r := Lst.uniq Ld L0 conv
        subst e2
        have vb := (vw_bool (b := decide (r2 = none))).shn (by decide) (by decide)
        have sd' := sc'.trans sd
        have eN : decide (rV r2 = V.non) = decide (r2 = none) := by
          cases r2 with
          | none => rfl
          | some w => rfl
        refine ⟨_, .bool (decide (r2 = none)), rfl, .bl _, vb.1, vb.2.1, vb.2.2, _, rfl, rfl, ?_⟩
        rw [eN]
        refine ⟨_, .bool (decide (r2 = none)), rfl, .bl _, vb.1, vb.2.1, vb.2.2, rfl, _, rfl, iteNS rfl ?_⟩
        refine ⟨_, rfl, k, rfl, eCk, ata.same ((sb.trans sc).trans sd), fun q2 He se ee => ⟨_, .tuple [dT, mksD k.ms], rfl, .tup (SqT.of ee) (.cons ((Sty.of (K := K) (((sb.trans sc).trans sd).trans se)).dq dqT) (.cons ((Sty.of (K := K) (((sb.trans sc).trans sd).trans se)).dq ata.mr) .nil)), vw.1, vw.2.1, vw.2.2, _, rfl, rfl, _, rfl, iteNS rfl ?_⟩⟩
        exact ⟨_, _, _, _, rfl, sd'.trans se⟩
      · rintro σ H8 ⟨v5, v8, v9, v10, rfl, s8⟩
        exact ⟨_, _, _, _, _, _, _, _, _, rfl, (hp7.same s8).up (by omega)⟩
    · rintro σ H' ⟨v2, v3, v4, v5, v6, v7, v8, v9, v10, rfl, _⟩
      exact k _
end
end Wf
namespace Wf
open PySem L2
theorem all_mk {l : PySem.W.OpenLaw} {w : World} {K : PySem.W.Frag} {h : Heap} {mg : Str → Option Value} {fa f_is_number f_is_sequence f_is_mark f_is_table f_is_target f_is_row f_first_wrong_row f_copied_rows f_are_letters f_word_order f_law_pen f_law_draw f_law_pick f_law_shuffled f_law_letters f_law_table f_law_plain f_law_wide f_law_with_dead_end f_law_twin f_law_joint f_law_marks f_law_mistake_due f_law_remarked f_law_marked f_law_near f_law_others f_mark_at f_row_at f_next_pairs f_joint_words f_wrong_words f_first_mistake f_separates f_law_machine f_law_shown f_law C_InvalidMachine i_InvalidMachine C_TooLarge i_TooLarge C_InvalidLetters C_Machine i_Machine : Addr} (X : K.In h) (G : h.Ns mainGlobals mg) (hfa : mg "law" = some (.ref fa))
    {od_is_number an_is_number : Option Addr} {sl_is_number : Array (Option Value)} {oc_is_number kV_is_number dc_is_number pm_is_number cd_is_number ct_is_number : Value}
    (a_is_number : PySem.W.nsIn K mainGlobals "is_number" = some (some (.ref f_is_number)))
    (l_is_number : K.lookup f_is_number = some ⟨oc_is_number, od_is_number, .func (PySem.W.fnOf "is_number" "is_number" (defArgs s_is_number) (defBody s_is_number) (defScope s_is_number) .none kV_is_number dc_is_number pm_is_number an_is_number cd_is_number ct_is_number), sl_is_number⟩)
    (c_is_number : PySem.W.codeIn K cd_is_number "is_number" = true)
    (k_is_number : PySem.W.keepIn K (.ref f_is_number) = true)
    {od_is_sequence an_is_sequence : Option Addr} {sl_is_sequence : Array (Option Value)} {oc_is_sequence kV_is_sequence dc_is_sequence pm_is_sequence cd_is_sequence ct_is_sequence : Value}
    (a_is_sequence : PySem.W.nsIn K mainGlobals "is_sequence" = some (some (.ref f_is_sequence)))
    (l_is_sequence : K.lookup f_is_sequence = some ⟨oc_is_sequence, od_is_sequence, .func (PySem.W.fnOf "is_sequence" "is_sequence" (defArgs s_is_sequence) (defBody s_is_sequence) (defScope s_is_sequence) .none kV_is_sequence dc_is_sequence pm_is_sequence an_is_sequence cd_is_sequence ct_is_sequence), sl_is_sequence⟩)
    (c_is_sequence : PySem.W.codeIn K cd_is_sequence "is_sequence" = true)
    (k_is_sequence : PySem.W.keepIn K (.ref f_is_sequence) = true)
    {od_is_mark an_is_mark : Option Addr} {sl_is_mark : Array (Option Value)} {oc_is_mark kV_is_mark dc_is_mark pm_is_mark cd_is_mark ct_is_mark : Value}
    (a_is_mark : PySem.W.nsIn K mainGlobals "is_mark" = some (some (.ref f_is_mark)))
    (l_is_mark : K.lookup f_is_mark = some ⟨oc_is_mark, od_is_mark, .func (PySem.W.fnOf "is_mark" "is_mark" (defArgs s_is_mark) (defBody s_is_mark) (defScope s_is_mark) .none kV_is_mark dc_is_mark pm_is_mark an_is_mark cd_is_mark ct_is_mark), sl_is_mark⟩)
    (c_is_mark : PySem.W.codeIn K cd_is_mark "is_mark" = true)
    (k_is_mark : PySem.W.keepIn K (.ref f_is_mark) = true)
    {od_is_table an_is_table : Option Addr} {sl_is_table : Array (Option Value)} {oc_is_table kV_is_table dc_is_table pm_is_table cd_is_table ct_is_table : Value}
    (a_is_table : PySem.W.nsIn K mainGlobals "is_table" = some (some (.ref f_is_table)))
    (l_is_table : K.lookup f_is_table = some ⟨oc_is_table, od_is_table, .func (PySem.W.fnOf "is_table" "is_table" (defArgs s_is_table) (defBody s_is_table) (defScope s_is_table) .none kV_is_table dc_is_table pm_is_table an_is_table cd_is_table ct_is_table), sl_is_table⟩)
    (c_is_table : PySem.W.codeIn K cd_is_table "is_table" = true)
    (k_is_table : PySem.W.keepIn K (.ref f_is_table) = true)
    {od_is_target an_is_target : Option Addr} {sl_is_target : Array (Option Value)} {oc_is_target kV_is_target dc_is_target pm_is_target cd_is_target ct_is_target : Value}
    (a_is_target : PySem.W.nsIn K mainGlobals "is_target" = some (some (.ref f_is_target)))
    (l_is_target : K.lookup f_is_target = some ⟨oc_is_target, od_is_target, .func (PySem.W.fnOf "is_target" "is_target" (defArgs s_is_target) (defBody s_is_target) (defScope s_is_target) .none kV_is_target dc_is_target pm_is_target an_is_target cd_is_target ct_is_target), sl_is_target⟩)
    (c_is_target : PySem.W.codeIn K cd_is_target "is_target" = true)
    (k_is_target : PySem.W.keepIn K (.ref f_is_target) = true)
    {od_is_row an_is_row : Option Addr} {sl_is_row : Array (Option Value)} {oc_is_row kV_is_row dc_is_row pm_is_row cd_is_row ct_is_row : Value}
    (a_is_row : PySem.W.nsIn K mainGlobals "is_row" = some (some (.ref f_is_row)))
    (l_is_row : K.lookup f_is_row = some ⟨oc_is_row, od_is_row, .func (PySem.W.fnOf "is_row" "is_row" (defArgs s_is_row) (defBody s_is_row) (defScope s_is_row) .none kV_is_row dc_is_row pm_is_row an_is_row cd_is_row ct_is_row), sl_is_row⟩)
    (c_is_row : PySem.W.codeIn K cd_is_row "is_row" = true)
    (k_is_row : PySem.W.keepIn K (.ref f_is_row) = true)
    {od_first_wrong_row an_first_wrong_row : Option Addr} {sl_first_wrong_row : Array (Option Value)} {oc_first_wrong_row kV_first_wrong_row dc_first_wrong_row pm_first_wrong_row cd_first_wrong_row ct_first_wrong_row : Value}
    (a_first_wrong_row : PySem.W.nsIn K mainGlobals "first_wrong_row" = some (some (.ref f_first_wrong_row)))
    (l_first_wrong_row : K.lookup f_first_wrong_row = some ⟨oc_first_wrong_row, od_first_wrong_row, .func (PySem.W.fnOf "first_wrong_row" "first_wrong_row" (defArgs s_first_wrong_row) (defBody s_first_wrong_row) (defScope s_first_wrong_row) .none kV_first_wrong_row dc_first_wrong_row pm_first_wrong_row an_first_wrong_row cd_first_wrong_row ct_first_wrong_row), sl_first_wrong_row⟩)
    (c_first_wrong_row : PySem.W.codeIn K cd_first_wrong_row "first_wrong_row" = true)
    (k_first_wrong_row : PySem.W.keepIn K (.ref f_first_wrong_row) = true)
    {od_copied_rows an_copied_rows : Option Addr} {sl_copied_rows : Array (Option Value)} {oc_copied_rows kV_copied_rows dc_copied_rows pm_copied_rows cd_copied_rows ct_copied_rows : Value}
    (a_copied_rows : PySem.W.nsIn K mainGlobals "copied_rows" = some (some (.ref f_copied_rows)))
    (l_copied_rows : K.lookup f_copied_rows = some ⟨oc_copied_rows, od_copied_rows, .func (PySem.W.fnOf "copied_rows" "copied_rows" (defArgs s_copied_rows) (defBody s_copied_rows) (defScope s_copied_rows) .none kV_copied_rows dc_copied_rows pm_copied_rows an_copied_rows cd_copied_rows ct_copied_rows), sl_copied_rows⟩)
    (c_copied_rows : PySem.W.codeIn K cd_copied_rows "copied_rows" = true)
    (k_copied_rows : PySem.W.keepIn K (.ref f_copied_rows) = true)
    {od_are_letters an_are_letters : Option Addr} {sl_are_letters : Array (Option Value)} {oc_are_letters kV_are_letters dc_are_letters pm_are_letters cd_are_letters ct_are_letters : Value}
    (a_are_letters : PySem.W.nsIn K mainGlobals "are_letters" = some (some (.ref f_are_letters)))
    (l_are_letters : K.lookup f_are_letters = some ⟨oc_are_letters, od_are_letters, .func (PySem.W.fnOf "are_letters" "are_letters" (defArgs s_are_letters) (defBody s_are_letters) (defScope s_are_letters) .none kV_are_letters dc_are_letters pm_are_letters an_are_letters cd_are_letters ct_are_letters), sl_are_letters⟩)
    (c_are_letters : PySem.W.codeIn K cd_are_letters "are_letters" = true)
    (k_are_letters : PySem.W.keepIn K (.ref f_are_letters) = true)
    {od_word_order an_word_order : Option Addr} {sl_word_order : Array (Option Value)} {oc_word_order kV_word_order dc_word_order pm_word_order cd_word_order ct_word_order : Value}
    (a_word_order : PySem.W.nsIn K mainGlobals "word_order" = some (some (.ref f_word_order)))
    (l_word_order : K.lookup f_word_order = some ⟨oc_word_order, od_word_order, .func (PySem.W.fnOf "word_order" "word_order" (defArgs s_word_order) (defBody s_word_order) (defScope s_word_order) .none kV_word_order dc_word_order pm_word_order an_word_order cd_word_order ct_word_order), sl_word_order⟩)
    (c_word_order : PySem.W.codeIn K cd_word_order "word_order" = true)
    (k_word_order : PySem.W.keepIn K (.ref f_word_order) = true)
    {od_law_pen an_law_pen : Option Addr} {sl_law_pen : Array (Option Value)} {oc_law_pen kV_law_pen dc_law_pen pm_law_pen cd_law_pen ct_law_pen : Value}
    (a_law_pen : PySem.W.nsIn K mainGlobals "_law_pen" = some (some (.ref f_law_pen)))
    (l_law_pen : K.lookup f_law_pen = some ⟨oc_law_pen, od_law_pen, .func (PySem.W.fnOf "_law_pen" "_law_pen" (defArgs s_law_pen) (defBody s_law_pen) (defScope s_law_pen) .none kV_law_pen dc_law_pen pm_law_pen an_law_pen cd_law_pen ct_law_pen), sl_law_pen⟩)
    (c_law_pen : PySem.W.codeIn K cd_law_pen "_law_pen" = true)
    (k_law_pen : PySem.W.keepIn K (.ref f_law_pen) = true)
    {od_law_draw an_law_draw : Option Addr} {sl_law_draw : Array (Option Value)} {oc_law_draw kV_law_draw dc_law_draw pm_law_draw cd_law_draw ct_law_draw : Value}
    (a_law_draw : PySem.W.nsIn K mainGlobals "_law_draw" = some (some (.ref f_law_draw)))
    (l_law_draw : K.lookup f_law_draw = some ⟨oc_law_draw, od_law_draw, .func (PySem.W.fnOf "_law_draw" "_law_draw" (defArgs s_law_draw) (defBody s_law_draw) (defScope s_law_draw) .none kV_law_draw dc_law_draw pm_law_draw an_law_draw cd_law_draw ct_law_draw), sl_law_draw⟩)
    (c_law_draw : PySem.W.codeIn K cd_law_draw "_law_draw" = true)
    (k_law_draw : PySem.W.keepIn K (.ref f_law_draw) = true)
    {od_law_pick an_law_pick : Option Addr} {sl_law_pick : Array (Option Value)} {oc_law_pick kV_law_pick dc_law_pick pm_law_pick cd_law_pick ct_law_pick : Value}
    (a_law_pick : PySem.W.nsIn K mainGlobals "_law_pick" = some (some (.ref f_law_pick)))
    (l_law_pick : K.lookup f_law_pick = some ⟨oc_law_pick, od_law_pick, .func (PySem.W.fnOf "_law_pick" "_law_pick" (defArgs s_law_pick) (defBody s_law_pick) (defScope s_law_pick) .none kV_law_pick dc_law_pick pm_law_pick an_law_pick cd_law_pick ct_law_pick), sl_law_pick⟩)
    (c_law_pick : PySem.W.codeIn K cd_law_pick "_law_pick" = true)
    (k_law_pick : PySem.W.keepIn K (.ref f_law_pick) = true)
    {od_law_shuffled an_law_shuffled : Option Addr} {sl_law_shuffled : Array (Option Value)} {oc_law_shuffled kV_law_shuffled dc_law_shuffled pm_law_shuffled cd_law_shuffled ct_law_shuffled : Value}
    (a_law_shuffled : PySem.W.nsIn K mainGlobals "_law_shuffled" = some (some (.ref f_law_shuffled)))
    (l_law_shuffled : K.lookup f_law_shuffled = some ⟨oc_law_shuffled, od_law_shuffled, .func (PySem.W.fnOf "_law_shuffled" "_law_shuffled" (defArgs s_law_shuffled) (defBody s_law_shuffled) (defScope s_law_shuffled) .none kV_law_shuffled dc_law_shuffled pm_law_shuffled an_law_shuffled cd_law_shuffled ct_law_shuffled), sl_law_shuffled⟩)
    (c_law_shuffled : PySem.W.codeIn K cd_law_shuffled "_law_shuffled" = true)
    (k_law_shuffled : PySem.W.keepIn K (.ref f_law_shuffled) = true)
    {od_law_letters an_law_letters : Option Addr} {sl_law_letters : Array (Option Value)} {oc_law_letters kV_law_letters dc_law_letters pm_law_letters cd_law_letters ct_law_letters : Value}
    (a_law_letters : PySem.W.nsIn K mainGlobals "_law_letters" = some (some (.ref f_law_letters)))
    (l_law_letters : K.lookup f_law_letters = some ⟨oc_law_letters, od_law_letters, .func (PySem.W.fnOf "_law_letters" "_law_letters" (defArgs s_law_letters) (defBody s_law_letters) (defScope s_law_letters) .none kV_law_letters dc_law_letters pm_law_letters an_law_letters cd_law_letters ct_law_letters), sl_law_letters⟩)
    (c_law_letters : PySem.W.codeIn K cd_law_letters "_law_letters" = true)
    (k_law_letters : PySem.W.keepIn K (.ref f_law_letters) = true)
    {od_law_table an_law_table : Option Addr} {sl_law_table : Array (Option Value)} {oc_law_table kV_law_table dc_law_table pm_law_table cd_law_table ct_law_table : Value}
    (a_law_table : PySem.W.nsIn K mainGlobals "_law_table" = some (some (.ref f_law_table)))
    (l_law_table : K.lookup f_law_table = some ⟨oc_law_table, od_law_table, .func (PySem.W.fnOf "_law_table" "_law_table" (defArgs s_law_table) (defBody s_law_table) (defScope s_law_table) .none kV_law_table dc_law_table pm_law_table an_law_table cd_law_table ct_law_table), sl_law_table⟩)
    (c_law_table : PySem.W.codeIn K cd_law_table "_law_table" = true)
    (k_law_table : PySem.W.keepIn K (.ref f_law_table) = true)
    {od_law_plain an_law_plain : Option Addr} {sl_law_plain : Array (Option Value)} {oc_law_plain kV_law_plain dc_law_plain pm_law_plain cd_law_plain ct_law_plain : Value}
    (a_law_plain : PySem.W.nsIn K mainGlobals "_law_plain" = some (some (.ref f_law_plain)))
    (l_law_plain : K.lookup f_law_plain = some ⟨oc_law_plain, od_law_plain, .func (PySem.W.fnOf "_law_plain" "_law_plain" (defArgs s_law_plain) (defBody s_law_plain) (defScope s_law_plain) .none kV_law_plain dc_law_plain pm_law_plain an_law_plain cd_law_plain ct_law_plain), sl_law_plain⟩)
    (c_law_plain : PySem.W.codeIn K cd_law_plain "_law_plain" = true)
    (k_law_plain : PySem.W.keepIn K (.ref f_law_plain) = true)
    {od_law_wide an_law_wide : Option Addr} {sl_law_wide : Array (Option Value)} {oc_law_wide kV_law_wide dc_law_wide pm_law_wide cd_law_wide ct_law_wide : Value}
    (a_law_wide : PySem.W.nsIn K mainGlobals "_law_wide" = some (some (.ref f_law_wide)))
    (l_law_wide : K.lookup f_law_wide = some ⟨oc_law_wide, od_law_wide, .func (PySem.W.fnOf "_law_wide" "_law_wide" (defArgs s_law_wide) (defBody s_law_wide) (defScope s_law_wide) .none kV_law_wide dc_law_wide pm_law_wide an_law_wide cd_law_wide ct_law_wide), sl_law_wide⟩)
    (c_law_wide : PySem.W.codeIn K cd_law_wide "_law_wide" = true)
    (k_law_wide : PySem.W.keepIn K (.ref f_law_wide) = true)
    {od_law_with_dead_end an_law_with_dead_end : Option Addr} {sl_law_with_dead_end : Array (Option Value)} {oc_law_with_dead_end kV_law_with_dead_end dc_law_with_dead_end pm_law_with_dead_end cd_law_with_dead_end ct_law_with_dead_end : Value}
    (a_law_with_dead_end : PySem.W.nsIn K mainGlobals "_law_with_dead_end" = some (some (.ref f_law_with_dead_end)))
    (l_law_with_dead_end : K.lookup f_law_with_dead_end = some ⟨oc_law_with_dead_end, od_law_with_dead_end, .func (PySem.W.fnOf "_law_with_dead_end" "_law_with_dead_end" (defArgs s_law_with_dead_end) (defBody s_law_with_dead_end) (defScope s_law_with_dead_end) .none kV_law_with_dead_end dc_law_with_dead_end pm_law_with_dead_end an_law_with_dead_end cd_law_with_dead_end ct_law_with_dead_end), sl_law_with_dead_end⟩)
    (c_law_with_dead_end : PySem.W.codeIn K cd_law_with_dead_end "_law_with_dead_end" = true)
    (k_law_with_dead_end : PySem.W.keepIn K (.ref f_law_with_dead_end) = true)
    {od_law_twin an_law_twin : Option Addr} {sl_law_twin : Array (Option Value)} {oc_law_twin kV_law_twin dc_law_twin pm_law_twin cd_law_twin ct_law_twin : Value}
    (a_law_twin : PySem.W.nsIn K mainGlobals "_law_twin" = some (some (.ref f_law_twin)))
    (l_law_twin : K.lookup f_law_twin = some ⟨oc_law_twin, od_law_twin, .func (PySem.W.fnOf "_law_twin" "_law_twin" (defArgs s_law_twin) (defBody s_law_twin) (defScope s_law_twin) .none kV_law_twin dc_law_twin pm_law_twin an_law_twin cd_law_twin ct_law_twin), sl_law_twin⟩)
    (c_law_twin : PySem.W.codeIn K cd_law_twin "_law_twin" = true)
    (k_law_twin : PySem.W.keepIn K (.ref f_law_twin) = true)
    {od_law_joint an_law_joint : Option Addr} {sl_law_joint : Array (Option Value)} {oc_law_joint kV_law_joint dc_law_joint pm_law_joint cd_law_joint ct_law_joint : Value}
    (a_law_joint : PySem.W.nsIn K mainGlobals "_law_joint" = some (some (.ref f_law_joint)))
    (l_law_joint : K.lookup f_law_joint = some ⟨oc_law_joint, od_law_joint, .func (PySem.W.fnOf "_law_joint" "_law_joint" (defArgs s_law_joint) (defBody s_law_joint) (defScope s_law_joint) .none kV_law_joint dc_law_joint pm_law_joint an_law_joint cd_law_joint ct_law_joint), sl_law_joint⟩)
    (c_law_joint : PySem.W.codeIn K cd_law_joint "_law_joint" = true)
    (k_law_joint : PySem.W.keepIn K (.ref f_law_joint) = true)
    {od_law_marks an_law_marks : Option Addr} {sl_law_marks : Array (Option Value)} {oc_law_marks kV_law_marks dc_law_marks pm_law_marks cd_law_marks ct_law_marks : Value}
    (a_law_marks : PySem.W.nsIn K mainGlobals "_law_marks" = some (some (.ref f_law_marks)))
    (l_law_marks : K.lookup f_law_marks = some ⟨oc_law_marks, od_law_marks, .func (PySem.W.fnOf "_law_marks" "_law_marks" (defArgs s_law_marks) (defBody s_law_marks) (defScope s_law_marks) .none kV_law_marks dc_law_marks pm_law_marks an_law_marks cd_law_marks ct_law_marks), sl_law_marks⟩)
    (c_law_marks : PySem.W.codeIn K cd_law_marks "_law_marks" = true)
    (k_law_marks : PySem.W.keepIn K (.ref f_law_marks) = true)
    {od_law_mistake_due an_law_mistake_due : Option Addr} {sl_law_mistake_due : Array (Option Value)} {oc_law_mistake_due kV_law_mistake_due dc_law_mistake_due pm_law_mistake_due cd_law_mistake_due ct_law_mistake_due : Value}
    (a_law_mistake_due : PySem.W.nsIn K mainGlobals "_law_mistake_due" = some (some (.ref f_law_mistake_due)))
    (l_law_mistake_due : K.lookup f_law_mistake_due = some ⟨oc_law_mistake_due, od_law_mistake_due, .func (PySem.W.fnOf "_law_mistake_due" "_law_mistake_due" (defArgs s_law_mistake_due) (defBody s_law_mistake_due) (defScope s_law_mistake_due) .none kV_law_mistake_due dc_law_mistake_due pm_law_mistake_due an_law_mistake_due cd_law_mistake_due ct_law_mistake_due), sl_law_mistake_due⟩)
    (c_law_mistake_due : PySem.W.codeIn K cd_law_mistake_due "_law_mistake_due" = true)
    (k_law_mistake_due : PySem.W.keepIn K (.ref f_law_mistake_due) = true)
    {od_law_remarked an_law_remarked : Option Addr} {sl_law_remarked : Array (Option Value)} {oc_law_remarked kV_law_remarked dc_law_remarked pm_law_remarked cd_law_remarked ct_law_remarked : Value}
    (a_law_remarked : PySem.W.nsIn K mainGlobals "_law_remarked" = some (some (.ref f_law_remarked)))
    (l_law_remarked : K.lookup f_law_remarked = some ⟨oc_law_remarked, od_law_remarked, .func (PySem.W.fnOf "_law_remarked" "_law_remarked" (defArgs s_law_remarked) (defBody s_law_remarked) (defScope s_law_remarked) .none kV_law_remarked dc_law_remarked pm_law_remarked an_law_remarked cd_law_remarked ct_law_remarked), sl_law_remarked⟩)
    (c_law_remarked : PySem.W.codeIn K cd_law_remarked "_law_remarked" = true)
    (k_law_remarked : PySem.W.keepIn K (.ref f_law_remarked) = true)
    {od_law_marked an_law_marked : Option Addr} {sl_law_marked : Array (Option Value)} {oc_law_marked kV_law_marked dc_law_marked pm_law_marked cd_law_marked ct_law_marked : Value}
    (a_law_marked : PySem.W.nsIn K mainGlobals "_law_marked" = some (some (.ref f_law_marked)))
    (l_law_marked : K.lookup f_law_marked = some ⟨oc_law_marked, od_law_marked, .func (PySem.W.fnOf "_law_marked" "_law_marked" (defArgs s_law_marked) (defBody s_law_marked) (defScope s_law_marked) .none kV_law_marked dc_law_marked pm_law_marked an_law_marked cd_law_marked ct_law_marked), sl_law_marked⟩)
    (c_law_marked : PySem.W.codeIn K cd_law_marked "_law_marked" = true)
    (k_law_marked : PySem.W.keepIn K (.ref f_law_marked) = true)
    {od_law_near an_law_near : Option Addr} {sl_law_near : Array (Option Value)} {oc_law_near kV_law_near dc_law_near pm_law_near cd_law_near ct_law_near : Value}
    (a_law_near : PySem.W.nsIn K mainGlobals "_law_near" = some (some (.ref f_law_near)))
    (l_law_near : K.lookup f_law_near = some ⟨oc_law_near, od_law_near, .func (PySem.W.fnOf "_law_near" "_law_near" (defArgs s_law_near) (defBody s_law_near) (defScope s_law_near) .none kV_law_near dc_law_near pm_law_near an_law_near cd_law_near ct_law_near), sl_law_near⟩)
    (c_law_near : PySem.W.codeIn K cd_law_near "_law_near" = true)
    (k_law_near : PySem.W.keepIn K (.ref f_law_near) = true)
    {od_law_others an_law_others : Option Addr} {sl_law_others : Array (Option Value)} {oc_law_others kV_law_others dc_law_others pm_law_others cd_law_others ct_law_others : Value}
    (a_law_others : PySem.W.nsIn K mainGlobals "_law_others" = some (some (.ref f_law_others)))
    (l_law_others : K.lookup f_law_others = some ⟨oc_law_others, od_law_others, .func (PySem.W.fnOf "_law_others" "_law_others" (defArgs s_law_others) (defBody s_law_others) (defScope s_law_others) .none kV_law_others dc_law_others pm_law_others an_law_others cd_law_others ct_law_others), sl_law_others⟩)
    (c_law_others : PySem.W.codeIn K cd_law_others "_law_others" = true)
    (k_law_others : PySem.W.keepIn K (.ref f_law_others) = true)
    {od_mark_at an_mark_at : Option Addr} {sl_mark_at : Array (Option Value)} {oc_mark_at kV_mark_at dc_mark_at pm_mark_at cd_mark_at ct_mark_at : Value}
    (a_mark_at : PySem.W.nsIn K mainGlobals "mark_at" = some (some (.ref f_mark_at)))
    (l_mark_at : K.lookup f_mark_at = some ⟨oc_mark_at, od_mark_at, .func (PySem.W.fnOf "mark_at" "mark_at" (defArgs s_mark_at) (defBody s_mark_at) (defScope s_mark_at) .none kV_mark_at dc_mark_at pm_mark_at an_mark_at cd_mark_at ct_mark_at), sl_mark_at⟩)
    (c_mark_at : PySem.W.codeIn K cd_mark_at "mark_at" = true)
    (k_mark_at : PySem.W.keepIn K (.ref f_mark_at) = true)
    {od_row_at an_row_at : Option Addr} {sl_row_at : Array (Option Value)} {oc_row_at kV_row_at dc_row_at pm_row_at cd_row_at ct_row_at : Value}
    (a_row_at : PySem.W.nsIn K mainGlobals "row_at" = some (some (.ref f_row_at)))
    (l_row_at : K.lookup f_row_at = some ⟨oc_row_at, od_row_at, .func (PySem.W.fnOf "row_at" "row_at" (defArgs s_row_at) (defBody s_row_at) (defScope s_row_at) .none kV_row_at dc_row_at pm_row_at an_row_at cd_row_at ct_row_at), sl_row_at⟩)
    (c_row_at : PySem.W.codeIn K cd_row_at "row_at" = true)
    (k_row_at : PySem.W.keepIn K (.ref f_row_at) = true)
    {od_next_pairs an_next_pairs : Option Addr} {sl_next_pairs : Array (Option Value)} {oc_next_pairs kV_next_pairs dc_next_pairs pm_next_pairs cd_next_pairs ct_next_pairs : Value}
    (a_next_pairs : PySem.W.nsIn K mainGlobals "next_pairs" = some (some (.ref f_next_pairs)))
    (l_next_pairs : K.lookup f_next_pairs = some ⟨oc_next_pairs, od_next_pairs, .func (PySem.W.fnOf "next_pairs" "next_pairs" (defArgs s_next_pairs) (defBody s_next_pairs) (defScope s_next_pairs) .none kV_next_pairs dc_next_pairs pm_next_pairs an_next_pairs cd_next_pairs ct_next_pairs), sl_next_pairs⟩)
    (c_next_pairs : PySem.W.codeIn K cd_next_pairs "next_pairs" = true)
    (k_next_pairs : PySem.W.keepIn K (.ref f_next_pairs) = true)
    {od_joint_words an_joint_words : Option Addr} {sl_joint_words : Array (Option Value)} {oc_joint_words kV_joint_words dc_joint_words pm_joint_words cd_joint_words ct_joint_words : Value}
    (a_joint_words : PySem.W.nsIn K mainGlobals "joint_words" = some (some (.ref f_joint_words)))
    (l_joint_words : K.lookup f_joint_words = some ⟨oc_joint_words, od_joint_words, .func (PySem.W.fnOf "joint_words" "joint_words" (defArgs s_joint_words) (defBody s_joint_words) (defScope s_joint_words) .none kV_joint_words dc_joint_words pm_joint_words an_joint_words cd_joint_words ct_joint_words), sl_joint_words⟩)
    (c_joint_words : PySem.W.codeIn K cd_joint_words "joint_words" = true)
    (k_joint_words : PySem.W.keepIn K (.ref f_joint_words) = true)
    {od_wrong_words an_wrong_words : Option Addr} {sl_wrong_words : Array (Option Value)} {oc_wrong_words kV_wrong_words dc_wrong_words pm_wrong_words cd_wrong_words ct_wrong_words : Value}
    (a_wrong_words : PySem.W.nsIn K mainGlobals "wrong_words" = some (some (.ref f_wrong_words)))
    (l_wrong_words : K.lookup f_wrong_words = some ⟨oc_wrong_words, od_wrong_words, .func (PySem.W.fnOf "wrong_words" "wrong_words" (defArgs s_wrong_words) (defBody s_wrong_words) (defScope s_wrong_words) .none kV_wrong_words dc_wrong_words pm_wrong_words an_wrong_words cd_wrong_words ct_wrong_words), sl_wrong_words⟩)
    (c_wrong_words : PySem.W.codeIn K cd_wrong_words "wrong_words" = true)
    (k_wrong_words : PySem.W.keepIn K (.ref f_wrong_words) = true)
    {od_first_mistake an_first_mistake : Option Addr} {sl_first_mistake : Array (Option Value)} {oc_first_mistake kV_first_mistake dc_first_mistake pm_first_mistake cd_first_mistake ct_first_mistake : Value}
    (a_first_mistake : PySem.W.nsIn K mainGlobals "first_mistake" = some (some (.ref f_first_mistake)))
    (l_first_mistake : K.lookup f_first_mistake = some ⟨oc_first_mistake, od_first_mistake, .func (PySem.W.fnOf "first_mistake" "first_mistake" (defArgs s_first_mistake) (defBody s_first_mistake) (defScope s_first_mistake) .none kV_first_mistake dc_first_mistake pm_first_mistake an_first_mistake cd_first_mistake ct_first_mistake), sl_first_mistake⟩)
    (c_first_mistake : PySem.W.codeIn K cd_first_mistake "first_mistake" = true)
    (k_first_mistake : PySem.W.keepIn K (.ref f_first_mistake) = true)
    {od_separates an_separates : Option Addr} {sl_separates : Array (Option Value)} {oc_separates kV_separates dc_separates pm_separates cd_separates ct_separates : Value}
    (a_separates : PySem.W.nsIn K mainGlobals "separates" = some (some (.ref f_separates)))
    (l_separates : K.lookup f_separates = some ⟨oc_separates, od_separates, .func (PySem.W.fnOf "separates" "separates" (defArgs s_separates) (defBody s_separates) (defScope s_separates) .none kV_separates dc_separates pm_separates an_separates cd_separates ct_separates), sl_separates⟩)
    (c_separates : PySem.W.codeIn K cd_separates "separates" = true)
    (k_separates : PySem.W.keepIn K (.ref f_separates) = true)
    {od_law_machine an_law_machine : Option Addr} {sl_law_machine : Array (Option Value)} {oc_law_machine kV_law_machine dc_law_machine pm_law_machine cd_law_machine ct_law_machine : Value}
    (a_law_machine : PySem.W.nsIn K mainGlobals "_law_machine" = some (some (.ref f_law_machine)))
    (l_law_machine : K.lookup f_law_machine = some ⟨oc_law_machine, od_law_machine, .func (PySem.W.fnOf "_law_machine" "_law_machine" (defArgs s_law_machine) (defBody s_law_machine) (defScope s_law_machine) .none kV_law_machine dc_law_machine pm_law_machine an_law_machine cd_law_machine ct_law_machine), sl_law_machine⟩)
    (c_law_machine : PySem.W.codeIn K cd_law_machine "_law_machine" = true)
    (k_law_machine : PySem.W.keepIn K (.ref f_law_machine) = true)
    {od_law_shown an_law_shown : Option Addr} {sl_law_shown : Array (Option Value)} {oc_law_shown kV_law_shown dc_law_shown pm_law_shown cd_law_shown ct_law_shown : Value}
    (a_law_shown : PySem.W.nsIn K mainGlobals "_law_shown" = some (some (.ref f_law_shown)))
    (l_law_shown : K.lookup f_law_shown = some ⟨oc_law_shown, od_law_shown, .func (PySem.W.fnOf "_law_shown" "_law_shown" (defArgs s_law_shown) (defBody s_law_shown) (defScope s_law_shown) .none kV_law_shown dc_law_shown pm_law_shown an_law_shown cd_law_shown ct_law_shown), sl_law_shown⟩)
    (c_law_shown : PySem.W.codeIn K cd_law_shown "_law_shown" = true)
    (k_law_shown : PySem.W.keepIn K (.ref f_law_shown) = true)
    {od_law an_law : Option Addr} {sl_law : Array (Option Value)} {oc_law kV_law dc_law pm_law cd_law ct_law : Value}
    (a_law : PySem.W.nsIn K mainGlobals "law" = some (some (.ref f_law)))
    (l_law : K.lookup f_law = some ⟨oc_law, od_law, .func (PySem.W.fnOf "law" "law" (defArgs s_law) (defBody s_law) (defScope s_law) .none kV_law dc_law pm_law an_law cd_law ct_law), sl_law⟩)
    (c_law : PySem.W.codeIn K cd_law "law" = true)
    (k_law : PySem.W.keepIn K (.ref f_law) = true)
    {od_InvalidMachine an_InvalidMachine : Option Addr} {sl_InvalidMachine : Array (Option Value)} {oc_InvalidMachine kV_InvalidMachine dc_InvalidMachine pm_InvalidMachine cd_InvalidMachine ct_InvalidMachine : Value}
    (a_InvalidMachine : PySem.W.nsIn K mainGlobals "InvalidMachine" = some (some (.ref C_InvalidMachine)))
    (x_InvalidMachine : PySem.W.excInitIn K C_InvalidMachine mroV "ValueError.__new__" = true)
    (w_InvalidMachine : PySem.W.excOver K C_InvalidMachine mroV = true)
    (s_InvalidMachine : PySem.W.findIn K (.ref C_InvalidMachine) "__setattr__" = some (some (.builtin "object.__setattr__")))
    (q_InvalidMachine : PySem.W.keepIn K (.ref C_InvalidMachine) = true)
    (hg_InvalidMachine : PySem.W.findIn K (.ref C_InvalidMachine) "__getattribute__" = some (some (.builtin "BaseException.__getattribute__")))
    (hk_InvalidMachine : PySem.W.findIn K (.ref C_InvalidMachine) "__getattr__" = some none)
    (hs_InvalidMachine : PySem.W.subIn K (.ref C_InvalidMachine) (.type "BaseException") = some true)
    (hd_InvalidMachine : PySem.W.hasDictIn K C_InvalidMachine = true)
    (ha_InvalidMachine : PySem.W.findIn K (.ref C_InvalidMachine) "__class__" = some (some (.builtin "object.__class__")))
    (hm_InvalidMachine : PySem.W.mroIn K C_InvalidMachine (.type "object") = some true)
    (ty_InvalidMachine : PySem.W.typeIn K (.ref C_InvalidMachine) = some (.type "type"))
    (n_InvalidMachine : PySem.W.findIn K (.ref C_InvalidMachine) "state" = some none)
    (i_InvalidMachine' : PySem.W.findIn K (.ref C_InvalidMachine) "__init__" = some (some (.ref i_InvalidMachine)))
    (t_InvalidMachine : PySem.W.typeIn K (.ref i_InvalidMachine) = some (.type "function"))
    (l_InvalidMachine : K.lookup i_InvalidMachine = some ⟨oc_InvalidMachine, od_InvalidMachine, .func (PySem.W.fnOf "__init__" "InvalidMachine.__init__" (defArgs s_InvalidMachine___init) (defBody s_InvalidMachine___init) (defScope s_InvalidMachine___init) .none kV_InvalidMachine dc_InvalidMachine pm_InvalidMachine an_InvalidMachine cd_InvalidMachine ct_InvalidMachine), sl_InvalidMachine⟩)
    (c_InvalidMachine : PySem.W.codeIn K cd_InvalidMachine "InvalidMachine.__init__" = true)
    (k_InvalidMachine : PySem.W.keepIn K (.ref i_InvalidMachine) = true)
    {od_TooLarge an_TooLarge : Option Addr} {sl_TooLarge : Array (Option Value)} {oc_TooLarge kV_TooLarge dc_TooLarge pm_TooLarge cd_TooLarge ct_TooLarge : Value}
    (a_TooLarge : PySem.W.nsIn K mainGlobals "TooLarge" = some (some (.ref C_TooLarge)))
    (x_TooLarge : PySem.W.excInitIn K C_TooLarge mroA "ArithmeticError.__new__" = true)
    (w_TooLarge : PySem.W.excOver K C_TooLarge mroA = true)
    (s_TooLarge : PySem.W.findIn K (.ref C_TooLarge) "__setattr__" = some (some (.builtin "object.__setattr__")))
    (q_TooLarge : PySem.W.keepIn K (.ref C_TooLarge) = true)
    (hg_TooLarge : PySem.W.findIn K (.ref C_TooLarge) "__getattribute__" = some (some (.builtin "BaseException.__getattribute__")))
    (hk_TooLarge : PySem.W.findIn K (.ref C_TooLarge) "__getattr__" = some none)
    (hs_TooLarge : PySem.W.subIn K (.ref C_TooLarge) (.type "BaseException") = some true)
    (hd_TooLarge : PySem.W.hasDictIn K C_TooLarge = true)
    (ha_TooLarge : PySem.W.findIn K (.ref C_TooLarge) "__class__" = some (some (.builtin "object.__class__")))
    (hm_TooLarge : PySem.W.mroIn K C_TooLarge (.type "object") = some true)
    (ty_TooLarge : PySem.W.typeIn K (.ref C_TooLarge) = some (.type "type"))
    (n_TooLarge : PySem.W.findIn K (.ref C_TooLarge) "limit" = some none)
    (i_TooLarge' : PySem.W.findIn K (.ref C_TooLarge) "__init__" = some (some (.ref i_TooLarge)))
    (t_TooLarge : PySem.W.typeIn K (.ref i_TooLarge) = some (.type "function"))
    (l_TooLarge : K.lookup i_TooLarge = some ⟨oc_TooLarge, od_TooLarge, .func (PySem.W.fnOf "__init__" "TooLarge.__init__" (defArgs s_TooLarge___init) (defBody s_TooLarge___init) (defScope s_TooLarge___init) .none kV_TooLarge dc_TooLarge pm_TooLarge an_TooLarge cd_TooLarge ct_TooLarge), sl_TooLarge⟩)
    (c_TooLarge : PySem.W.codeIn K cd_TooLarge "TooLarge.__init__" = true)
    (k_TooLarge : PySem.W.keepIn K (.ref i_TooLarge) = true)
    (a_InvalidLetters : PySem.W.nsIn K mainGlobals "InvalidLetters" = some (some (.ref C_InvalidLetters)))
    (x_InvalidLetters : PySem.W.excIn K C_InvalidLetters mroV "ValueError.__new__" = true)
    (hg_InvalidLetters : PySem.W.findIn K (.ref C_InvalidLetters) "__getattribute__" = some (some (.builtin "BaseException.__getattribute__")))
    (hk_InvalidLetters : PySem.W.findIn K (.ref C_InvalidLetters) "__getattr__" = some none)
    (hs_InvalidLetters : PySem.W.subIn K (.ref C_InvalidLetters) (.type "BaseException") = some true)
    (hd_InvalidLetters : PySem.W.hasDictIn K C_InvalidLetters = true)
    (ha_InvalidLetters : PySem.W.findIn K (.ref C_InvalidLetters) "__class__" = some (some (.builtin "object.__class__")))
    (hm_InvalidLetters : PySem.W.mroIn K C_InvalidLetters (.type "object") = some true)
    (ty_InvalidLetters : PySem.W.typeIn K (.ref C_InvalidLetters) = some (.type "type"))
    (k_InvalidLetters : PySem.W.keepIn K (.ref C_InvalidLetters) = true)
    {od_Machine an_Machine : Option Addr} {sl_Machine : Array (Option Value)} {oc_Machine kV_Machine dc_Machine pm_Machine cd_Machine ct_Machine : Value}
    (a_Machine : PySem.W.nsIn K mainGlobals "Machine" = some (some (.ref C_Machine)))
    (mk_Machine : PySem.W.makesIn K C_Machine = true)
    (kp_Machine : PySem.W.keepIn K (.ref C_Machine) = true)
    (pg_Machine : PySem.W.plainGet K C_Machine Str.empty = true)
    (hd_Machine : PySem.W.hasDictIn K C_Machine = true)
    (po_Machine : PySem.W.plainOver K C_Machine = true)
    (sa_Machine : PySem.W.findIn K (.ref C_Machine) "__setattr__" = some (some (.builtin "object.__setattr__")))
    (n0_Machine : PySem.W.findIn K (.ref C_Machine) "_letters" = some none)
    (n1_Machine : PySem.W.findIn K (.ref C_Machine) "_transitions" = some none)
    (n2_Machine : PySem.W.findIn K (.ref C_Machine) "_marks" = some none)
    (i_Machine' : PySem.W.findIn K (.ref C_Machine) "__init__" = some (some (.ref i_Machine)))
    (t_Machine : PySem.W.typeIn K (.ref i_Machine) = some (.type "function"))
    (l_Machine : K.lookup i_Machine = some ⟨oc_Machine, od_Machine, .func (PySem.W.fnOf "__init__" "Machine.__init__" (defArgs s_Machine___init) (defBody s_Machine___init) (defScope s_Machine___init) .none kV_Machine dc_Machine pm_Machine an_Machine cd_Machine ct_Machine), sl_Machine⟩)
    (c_Machine : PySem.W.codeIn K cd_Machine "Machine.__init__" = true)
    (k_Machine : PySem.W.keepIn K (.ref i_Machine) = true)
    (fn_Machine : PySem.W.isFn K (.ref i_Machine) = true)
    (spec : PySem.W.specialIn K (.builtin "object.__class__") "__get__" = some (some (.builtin "getset_descriptor.__get__")))
    (take : PySem.W.takesIn K (.builtin "object.__class__") = some true)
    {f_qletters f_qtransitions f_qmarks f_qsize p_qletters p_qtransitions p_qmarks p_qsize : Addr} {rs_qletters rs_qtransitions rs_qmarks rs_qsize : List Value}
    {od_qletters an_qletters : Option Addr} {sl_qletters : Array (Option Value)} {oc_qletters kV_qletters dc_qletters pm_qletters cd_qletters ct_qletters : Value} {od_qtransitions an_qtransitions : Option Addr} {sl_qtransitions : Array (Option Value)} {oc_qtransitions kV_qtransitions dc_qtransitions pm_qtransitions cd_qtransitions ct_qtransitions : Value} {od_qmarks an_qmarks : Option Addr} {sl_qmarks : Array (Option Value)} {oc_qmarks kV_qmarks dc_qmarks pm_qmarks cd_qmarks ct_qmarks : Value} {od_qsize an_qsize : Option Addr} {sl_qsize : Array (Option Value)} {oc_qsize kV_qsize dc_qsize pm_qsize cd_qsize ct_qsize : Value}
    (at_qletters : PySem.W.findIn K (.ref C_Machine) "letters" = some (some (.ref p_qletters)))
    (ge_qletters : PySem.W.specialIn K (.ref p_qletters) "__get__" = some (some (.builtin "property.__get__")))
    (ta_qletters : PySem.W.takesIn K (.ref p_qletters) = some true)
    (re_qletters : PySem.W.recIn K p_qletters "property" = some (.ref f_qletters :: rs_qletters))
    (l_qletters : K.lookup f_qletters = some ⟨oc_qletters, od_qletters, .func (PySem.W.fnOf "letters" "Machine.letters" (defArgs s_Machine_letters) (defBody s_Machine_letters) (defScope s_Machine_letters) .none kV_qletters dc_qletters pm_qletters an_qletters cd_qletters ct_qletters), sl_qletters⟩)
    (c_qletters : PySem.W.codeIn K cd_qletters "Machine.letters" = true)
    (k_qletters : PySem.W.keepIn K (.ref f_qletters) = true)
    (at_qtransitions : PySem.W.findIn K (.ref C_Machine) "transitions" = some (some (.ref p_qtransitions)))
    (ge_qtransitions : PySem.W.specialIn K (.ref p_qtransitions) "__get__" = some (some (.builtin "property.__get__")))
    (ta_qtransitions : PySem.W.takesIn K (.ref p_qtransitions) = some true)
    (re_qtransitions : PySem.W.recIn K p_qtransitions "property" = some (.ref f_qtransitions :: rs_qtransitions))
    (l_qtransitions : K.lookup f_qtransitions = some ⟨oc_qtransitions, od_qtransitions, .func (PySem.W.fnOf "transitions" "Machine.transitions" (defArgs s_Machine_transitions) (defBody s_Machine_transitions) (defScope s_Machine_transitions) .none kV_qtransitions dc_qtransitions pm_qtransitions an_qtransitions cd_qtransitions ct_qtransitions), sl_qtransitions⟩)
    (c_qtransitions : PySem.W.codeIn K cd_qtransitions "Machine.transitions" = true)
    (k_qtransitions : PySem.W.keepIn K (.ref f_qtransitions) = true)
    (at_qmarks : PySem.W.findIn K (.ref C_Machine) "marks" = some (some (.ref p_qmarks)))
    (ge_qmarks : PySem.W.specialIn K (.ref p_qmarks) "__get__" = some (some (.builtin "property.__get__")))
    (ta_qmarks : PySem.W.takesIn K (.ref p_qmarks) = some true)
    (re_qmarks : PySem.W.recIn K p_qmarks "property" = some (.ref f_qmarks :: rs_qmarks))
    (l_qmarks : K.lookup f_qmarks = some ⟨oc_qmarks, od_qmarks, .func (PySem.W.fnOf "marks" "Machine.marks" (defArgs s_Machine_marks) (defBody s_Machine_marks) (defScope s_Machine_marks) .none kV_qmarks dc_qmarks pm_qmarks an_qmarks cd_qmarks ct_qmarks), sl_qmarks⟩)
    (c_qmarks : PySem.W.codeIn K cd_qmarks "Machine.marks" = true)
    (k_qmarks : PySem.W.keepIn K (.ref f_qmarks) = true)
    (at_qsize : PySem.W.findIn K (.ref C_Machine) "size" = some (some (.ref p_qsize)))
    (ge_qsize : PySem.W.specialIn K (.ref p_qsize) "__get__" = some (some (.builtin "property.__get__")))
    (ta_qsize : PySem.W.takesIn K (.ref p_qsize) = some true)
    (re_qsize : PySem.W.recIn K p_qsize "property" = some (.ref f_qsize :: rs_qsize))
    (l_qsize : K.lookup f_qsize = some ⟨oc_qsize, od_qsize, .func (PySem.W.fnOf "size" "Machine.size" (defArgs s_Machine_size) (defBody s_Machine_size) (defScope s_Machine_size) .none kV_qsize dc_qsize pm_qsize an_qsize cd_qsize ct_qsize), sl_qsize⟩)
    (c_qsize : PySem.W.codeIn K cd_qsize "Machine.size" = true)
    (k_qsize : PySem.W.keepIn K (.ref f_qsize) = true)
    {od_cc an_cc : Option Addr} {sl_cc : Array (Option Value)} {oc_cc kV_cc dc_cc pm_cc cd_cc ct_cc : Value} {f_cc : Addr}
    (a_cc : PySem.W.nsIn K mainGlobals "check_compared" = some (some (.ref f_cc)))
    (l_cc : K.lookup f_cc = some ⟨oc_cc, od_cc, .func (PySem.W.fnOf "check_compared" "check_compared" (defArgs s_check_compared) (defBody s_check_compared) (defScope s_check_compared) .none kV_cc dc_cc pm_cc an_cc cd_cc ct_cc), sl_cc⟩)
    (c_cc : PySem.W.codeIn K cd_cc "check_compared" = true)
    (k_cc : PySem.W.keepIn K (.ref f_cc) = true)
    (z_zip : PySem.W.nsIn K mainGlobals "zip" = some none)
    (z_list : PySem.W.nsIn K mainGlobals "list" = some none)
    (z_len : PySem.W.nsIn K mainGlobals "len" = some none)
    (z_abs : PySem.W.nsIn K mainGlobals "abs" = some none)
    (z_range : PySem.W.nsIn K mainGlobals "range" = some none)
    (z_sorted : PySem.W.nsIn K mainGlobals "sorted" = some none)
    (z_repr : PySem.W.nsIn K mainGlobals "repr" = some none)
    (z_isinstance : PySem.W.nsIn K mainGlobals "isinstance" = some none)
    (z_tuple : PySem.W.nsIn K mainGlobals "tuple" = some none)
    (z_str : PySem.W.nsIn K mainGlobals "str" = some none)
    (z_int : PySem.W.nsIn K mainGlobals "int" = some none)
    (z_bool : PySem.W.nsIn K mainGlobals "bool" = some none)
    (z_all : PySem.W.nsIn K mainGlobals "all" = some none)
    (z_any : PySem.W.nsIn K mainGlobals "any" = some none)
    (z_enumerate : PySem.W.nsIn K mainGlobals "enumerate" = some none)
    (z_dict : PySem.W.nsIn K mainGlobals "dict" = some none)
    (z_set : PySem.W.nsIn K mainGlobals "set" = some none)
    (z_max : PySem.W.nsIn K mainGlobals "max" = some none)
    (z_min : PySem.W.nsIn K mainGlobals "min" = some none)
    (z_ValueError : PySem.W.nsIn K mainGlobals "ValueError" = some none)
    (z_KeyError : PySem.W.nsIn K mainGlobals "KeyError" = some none)
    (z_IndexError : PySem.W.nsIn K mainGlobals "IndexError" = some none)
    (z_ArithmeticError : PySem.W.nsIn K mainGlobals "ArithmeticError" = some none)
    (z_LookupError : PySem.W.nsIn K mainGlobals "LookupError" = some none)
    {tk_MOST_LETTERS : Tok}
    (g_MOST_LETTERS : PySem.W.nsIn K mainGlobals "MOST_LETTERS" = some (some (.int 4 tk_MOST_LETTERS)))
    {tk_STATES : Tok}
    (g_STATES : PySem.W.nsIn K mainGlobals "STATES" = some (some (.int 600 tk_STATES)))
    {tk_COMPARED : Tok}
    (g_COMPARED : PySem.W.nsIn K mainGlobals "COMPARED" = some (some (.int 20 tk_COMPARED)))
    : ∃ fd : FuncData, (∀ (t : Shared) (v : Value), BindsTo t fd ⟨[v], []⟩ [("script", v)]) ∧ ∀ base : Heap, K.In base → base.Ns mainGlobals mg → Mods base → FnG l.prog w K mg base CX0 11 fa fd ["script"] (spLaw K) := by
  have e := hfa.symm.trans (PySem.W.mg_of X G a_law)
  cases e
  have Z_list := PySem.W.mg_none_of X G z_list
  have Z_len := PySem.W.mg_none_of X G z_len
  have Z_abs := PySem.W.mg_none_of X G z_abs
  have Z_range := PySem.W.mg_none_of X G z_range
  have Z_sorted := PySem.W.mg_none_of X G z_sorted
  have Z_repr := PySem.W.mg_none_of X G z_repr
  have Z_isinstance := PySem.W.mg_none_of X G z_isinstance
  have Z_tuple := PySem.W.mg_none_of X G z_tuple
  have Z_str := PySem.W.mg_none_of X G z_str
  have Z_int := PySem.W.mg_none_of X G z_int
  have Z_bool := PySem.W.mg_none_of X G z_bool
  have Z_all := PySem.W.mg_none_of X G z_all
  have Z_any := PySem.W.mg_none_of X G z_any
  have Z_enumerate := PySem.W.mg_none_of X G z_enumerate
  have Z_dict := PySem.W.mg_none_of X G z_dict
  have Z_set := PySem.W.mg_none_of X G z_set
  have Z_max := PySem.W.mg_none_of X G z_max
  have Z_min := PySem.W.mg_none_of X G z_min
  have Z_ValueError := PySem.W.mg_none_of X G z_ValueError
  have Z_KeyError := PySem.W.mg_none_of X G z_KeyError
  have Z_IndexError := PySem.W.mg_none_of X G z_IndexError
  have Z_ArithmeticError := PySem.W.mg_none_of X G z_ArithmeticError
  have Z_LookupError := PySem.W.mg_none_of X G z_LookupError
  have T0 : Txt K mg := { z_list := Z_list, z_len := Z_len, z_abs := Z_abs, z_range := Z_range, z_sorted := Z_sorted, z_repr := Z_repr, z_isinstance := Z_isinstance, z_tuple := Z_tuple, z_str := Z_str, z_int := Z_int, z_bool := Z_bool, z_all := Z_all, z_any := Z_any, z_enumerate := Z_enumerate, z_dict := Z_dict, z_set := Z_set, z_max := Z_max, z_min := Z_min, z_ValueError := Z_ValueError, z_KeyError := Z_KeyError, z_IndexError := Z_IndexError, z_ArithmeticError := Z_ArithmeticError, z_LookupError := Z_LookupError }
  have T : TxtK K mg := ⟨⟨⟨T0, ⟨_, PySem.W.mg_of X G g_MOST_LETTERS⟩⟩, ⟨_, PySem.W.mg_of X G g_STATES⟩⟩, ⟨_, PySem.W.mg_of X G g_COMPARED⟩⟩
  have F_is_number := fun_mk (st := s_is_number) l_is_number c_is_number k_is_number
  have b_is_number := F_is_number.binds (ps := ["value"]) fun _ _ _ _ _ _ us hl => match us, hl with | [_], _ => rfl
  have F_is_sequence := fun_mk (st := s_is_sequence) l_is_sequence c_is_sequence k_is_sequence
  have b_is_sequence := F_is_sequence.binds (ps := ["value"]) fun _ _ _ _ _ _ us hl => match us, hl with | [_], _ => rfl
  have F_is_mark := fun_mk (st := s_is_mark) l_is_mark c_is_mark k_is_mark
  have b_is_mark := F_is_mark.binds (ps := ["value"]) fun _ _ _ _ _ _ us hl => match us, hl with | [_], _ => rfl
  have F_is_table := fun_mk (st := s_is_table) l_is_table c_is_table k_is_table
  have b_is_table := F_is_table.binds (ps := ["rows", "marks"]) fun _ _ _ _ _ _ us hl => match us, hl with | [_, _], _ => rfl
  have F_is_target := fun_mk (st := s_is_target) l_is_target c_is_target k_is_target
  have b_is_target := F_is_target.binds (ps := ["value", "size"]) fun _ _ _ _ _ _ us hl => match us, hl with | [_, _], _ => rfl
  have F_is_row := fun_mk (st := s_is_row) l_is_row c_is_row k_is_row
  have b_is_row := F_is_row.binds (ps := ["row", "width", "size"]) fun _ _ _ _ _ _ us hl => match us, hl with | [_, _, _], _ => rfl
  have F_first_wrong_row := fun_mk (st := s_first_wrong_row) l_first_wrong_row c_first_wrong_row k_first_wrong_row
  have b_first_wrong_row := F_first_wrong_row.binds (ps := ["letters", "rows", "marks"]) fun _ _ _ _ _ _ us hl => match us, hl with | [_, _, _], _ => rfl
  have F_copied_rows := fun_mk (st := s_copied_rows) l_copied_rows c_copied_rows k_copied_rows
  have b_copied_rows := F_copied_rows.binds (ps := ["rows"]) fun _ _ _ _ _ _ us hl => match us, hl with | [_], _ => rfl
  have F_are_letters := fun_mk (st := s_are_letters) l_are_letters c_are_letters k_are_letters
  have b_are_letters := F_are_letters.binds (ps := ["value"]) fun _ _ _ _ _ _ us hl => match us, hl with | [_], _ => rfl
  have F_word_order := fun_mk (st := s_word_order) l_word_order c_word_order k_word_order
  have b_word_order := F_word_order.binds (ps := ["words"]) fun _ _ _ _ _ _ us hl => match us, hl with | [_], _ => rfl
  have F_law_pen := fun_mk (st := s_law_pen) l_law_pen c_law_pen k_law_pen
  have b_law_pen := F_law_pen.binds (ps := ["script"]) fun _ _ _ _ _ _ us hl => match us, hl with | [_], _ => rfl
  have F_law_draw := fun_mk (st := s_law_draw) l_law_draw c_law_draw k_law_draw
  have b_law_draw := F_law_draw.binds (ps := ["pen", "many"]) fun _ _ _ _ _ _ us hl => match us, hl with | [_, _], _ => rfl
  have F_law_pick := fun_mk (st := s_law_pick) l_law_pick c_law_pick k_law_pick
  have b_law_pick := F_law_pick.binds (ps := ["pen", "some"]) fun _ _ _ _ _ _ us hl => match us, hl with | [_, _], _ => rfl
  have F_law_shuffled := fun_mk (st := s_law_shuffled) l_law_shuffled c_law_shuffled k_law_shuffled
  have b_law_shuffled := F_law_shuffled.binds (ps := ["pen", "some"]) fun _ _ _ _ _ _ us hl => match us, hl with | [_, _], _ => rfl
  have F_law_letters := fun_mk (st := s_law_letters) l_law_letters c_law_letters k_law_letters
  have b_law_letters := F_law_letters.binds (ps := ["pen", "most"]) fun _ _ _ _ _ _ us hl => match us, hl with | [_, _], _ => rfl
  have F_law_table := fun_mk (st := s_law_table) l_law_table c_law_table k_law_table
  have b_law_table := F_law_table.binds (ps := ["pen", "letters", "size", "is_full"]) fun _ _ _ _ _ _ us hl => match us, hl with | [_, _, _, _], _ => rfl
  have F_law_plain := fun_mk (st := s_law_plain) l_law_plain c_law_plain k_law_plain
  have b_law_plain := F_law_plain.binds (ps := ["pen", "most_letters", "most"]) fun _ _ _ _ _ _ us hl => match us, hl with | [_, _, _], _ => rfl
  have F_law_wide := fun_mk (st := s_law_wide) l_law_wide c_law_wide k_law_wide
  have b_law_wide := F_law_wide.binds (ps := ["pen", "most_letters"]) fun _ _ _ _ _ _ us hl => match us, hl with | [_, _], _ => rfl
  have F_law_with_dead_end := fun_mk (st := s_law_with_dead_end) l_law_with_dead_end c_law_with_dead_end k_law_with_dead_end
  have b_law_with_dead_end := F_law_with_dead_end.binds (ps := ["letters", "table", "own"]) fun _ _ _ _ _ _ us hl => match us, hl with | [_, _, _], _ => rfl
  have F_law_twin := fun_mk (st := s_law_twin) l_law_twin c_law_twin k_law_twin
  have b_law_twin := F_law_twin.binds (ps := ["pen", "plain"]) fun _ _ _ _ _ _ us hl => match us, hl with | [_, _], _ => rfl
  have F_law_joint := fun_mk (st := s_law_joint) l_law_joint c_law_joint k_law_joint
  have b_law_joint := F_law_joint.binds (ps := ["plains"]) fun _ _ _ _ _ _ us hl => match us, hl with | [_], _ => rfl
  have F_law_marks := fun_mk (st := s_law_marks) l_law_marks c_law_marks k_law_marks
  have b_law_marks := F_law_marks.binds (ps := ["plains", "states"]) fun _ _ _ _ _ _ us hl => match us, hl with | [_, _], _ => rfl
  have F_law_mistake_due := fun_mk (st := s_law_mistake_due) l_law_mistake_due c_law_mistake_due k_law_mistake_due
  have b_law_mistake_due := F_law_mistake_due.binds (ps := ["plain", "one", "other"]) fun _ _ _ _ _ _ us hl => match us, hl with | [_, _, _], _ => rfl
  have F_law_remarked := fun_mk (st := s_law_remarked) l_law_remarked c_law_remarked k_law_remarked
  have b_law_remarked := F_law_remarked.binds (ps := ["pen", "plain"]) fun _ _ _ _ _ _ us hl => match us, hl with | [_, _], _ => rfl
  have F_law_marked := fun_mk (st := s_law_marked) l_law_marked c_law_marked k_law_marked
  have b_law_marked := F_law_marked.binds (ps := ["pen", "plain"]) fun _ _ _ _ _ _ us hl => match us, hl with | [_, _], _ => rfl
  have F_law_near := fun_mk (st := s_law_near) l_law_near c_law_near k_law_near
  have b_law_near := F_law_near.binds (ps := ["pen", "plain"]) fun _ _ _ _ _ _ us hl => match us, hl with | [_, _], _ => rfl
  have F_law_others := fun_mk (st := s_law_others) l_law_others c_law_others k_law_others
  have b_law_others := F_law_others.binds (ps := ["pen", "one"]) fun _ _ _ _ _ _ us hl => match us, hl with | [_, _], _ => rfl
  have F_mark_at := fun_mk (st := s_mark_at) l_mark_at c_mark_at k_mark_at
  have b_mark_at := F_mark_at.binds (ps := ["machine", "state"]) fun _ _ _ _ _ _ us hl => match us, hl with | [_, _], _ => rfl
  have F_row_at := fun_mk (st := s_row_at) l_row_at c_row_at k_row_at
  have b_row_at := F_row_at.binds (ps := ["machine", "state"]) fun _ _ _ _ _ _ us hl => match us, hl with | [_, _], _ => rfl
  have F_next_pairs := fun_mk (st := s_next_pairs) l_next_pairs c_next_pairs k_next_pairs
  have b_next_pairs := F_next_pairs.binds (ps := ["one", "other", "pair"]) fun _ _ _ _ _ _ us hl => match us, hl with | [_, _, _], _ => rfl
  have F_joint_words := fun_mk (st := s_joint_words) l_joint_words c_joint_words k_joint_words
  have b_joint_words := F_joint_words.binds (ps := ["one", "other"]) fun _ _ _ _ _ _ us hl => match us, hl with | [_, _], _ => rfl
  have F_wrong_words := fun_mk (st := s_wrong_words) l_wrong_words c_wrong_words k_wrong_words
  have b_wrong_words := F_wrong_words.binds (ps := ["machine", "other", "mark"]) fun _ _ _ _ _ _ us hl => match us, hl with | [_, _, _], _ => rfl
  have F_first_mistake := fun_mk (st := s_first_mistake) l_first_mistake c_first_mistake k_first_mistake
  have b_first_mistake := F_first_mistake.binds (ps := ["machine", "one", "other"]) fun _ _ _ _ _ _ us hl => match us, hl with | [_, _, _], _ => rfl
  have F_separates := fun_mk (st := s_separates) l_separates c_separates k_separates
  have b_separates := F_separates.binds (ps := ["machine", "one", "other"]) fun _ _ _ _ _ _ us hl => match us, hl with | [_, _, _], _ => rfl
  have F_law_machine := fun_mk (st := s_law_machine) l_law_machine c_law_machine k_law_machine
  have b_law_machine := F_law_machine.binds (ps := ["plain"]) fun _ _ _ _ _ _ us hl => match us, hl with | [_], _ => rfl
  have F_law_shown := fun_mk (st := s_law_shown) l_law_shown c_law_shown k_law_shown
  have b_law_shown := F_law_shown.binds (ps := ["machine"]) fun _ _ _ _ _ _ us hl => match us, hl with | [_], _ => rfl
  have F_law := fun_mk (st := s_law) l_law c_law k_law
  have b_law := F_law.binds (ps := ["script"]) fun _ _ _ _ _ _ us hl => match us, hl with | [_], _ => rfl
  have F_Machine := fun_mk (st := s_Machine___init) l_Machine c_Machine k_Machine
  have b_Machine := F_Machine.binds (ps := ["self", "letters", "transitions", "marks"]) fun _ _ _ _ _ _ us hl => match us, hl with | [_, _, _, _], _ => rfl
  refine ⟨PySem.W.fnOf "law" "law" (defArgs s_law) (defBody s_law) (defScope s_law) .none kV_law dc_law pm_law an_law cd_law ct_law, fun t v => .of_eq rfl, fun base _ _ MB => ?_⟩
  have N_InvalidMachine : E1 l.prog w K mg base "InvalidMachine" C_InvalidMachine "state" := ⟨⟨⟨⟨_, _, vxb_V, x_InvalidMachine, w_InvalidMachine⟩, s_InvalidMachine, q_InvalidMachine, ⟨hg_InvalidMachine, hk_InvalidMachine, hs_InvalidMachine, hd_InvalidMachine, ha_InvalidMachine, spec, take, hm_InvalidMachine⟩⟩, PySem.W.mg_of X G a_InvalidMachine, n_InvalidMachine, _, _, i_InvalidMachine', t_InvalidMachine, ok_i_InvalidMachine (fun_mk (st := s_InvalidMachine___init) l_InvalidMachine c_InvalidMachine k_InvalidMachine), fun _ _ _ => .of_eq rfl, fun _ _ _ => .of_eq rfl⟩, ty_InvalidMachine⟩
  have N_TooLarge : E1 l.prog w K mg base "TooLarge" C_TooLarge "limit" := ⟨⟨⟨⟨_, _, vxb_A, x_TooLarge, w_TooLarge⟩, s_TooLarge, q_TooLarge, ⟨hg_TooLarge, hk_TooLarge, hs_TooLarge, hd_TooLarge, ha_TooLarge, spec, take, hm_TooLarge⟩⟩, PySem.W.mg_of X G a_TooLarge, n_TooLarge, _, _, i_TooLarge', t_TooLarge, ok_i_TooLarge (fun_mk (st := s_TooLarge___init) l_TooLarge c_TooLarge k_TooLarge), fun _ _ _ => .of_eq rfl, fun _ _ _ => .of_eq rfl⟩, ty_TooLarge⟩
  have N_InvalidLetters : E0 K mg "InvalidLetters" C_InvalidLetters := ⟨⟨⟨_, _, _, _, PySem.F.excBase_ValueError, x_InvalidLetters⟩, ⟨hg_InvalidLetters, hk_InvalidLetters, hs_InvalidLetters, hd_InvalidLetters, ha_InvalidLetters, spec, take, hm_InvalidLetters⟩, k_InvalidLetters, PySem.W.mg_of X G a_InvalidLetters⟩, ty_InvalidLetters⟩
  have Zz := PySem.W.mg_none_of X G z_zip
  have D_is_number : Dn l.prog w K mg base 1 "is_number" ["value"] (spAsk K isNum) := ⟨_, _, ok_is_number F_is_number T.toTxtM.toTxtW.toTxt, PySem.W.mg_of X G a_is_number, k_is_number, b_is_number⟩
  have D_is_sequence : Dn l.prog w K mg base 1 "is_sequence" ["value"] (spAsk K isSeq) := ⟨_, _, ok_is_sequence F_is_sequence T.toTxtM.toTxtW.toTxt, PySem.W.mg_of X G a_is_sequence, k_is_sequence, b_is_sequence⟩
  have D_is_mark : Dn l.prog w K mg base 1 "is_mark" ["value"] (spAsk K isMark) := ⟨_, _, ok_is_mark F_is_mark T.toTxtM.toTxtW.toTxt, PySem.W.mg_of X G a_is_mark, k_is_mark, b_is_mark⟩
  have D_is_table : Dn l.prog w K mg base 2 "is_table" ["rows", "marks"] (spTbl2 K) := ⟨_, _, ok_is_table F_is_table T.toTxtM.toTxtW.toTxt D_is_sequence, PySem.W.mg_of X G a_is_table, k_is_table, b_is_table⟩
  have D_is_target : Dn l.prog w K mg base 2 "is_target" ["value", "size"] (spTarget K) := ⟨_, _, ok_is_target F_is_target T.toTxtM.toTxtW.toTxt D_is_number, PySem.W.mg_of X G a_is_target, k_is_target, b_is_target⟩
  have D_is_row : Dn l.prog w K mg base 3 "is_row" ["row", "width", "size"] (spRow K) := ⟨_, _, ok_is_row F_is_row T.toTxtM.toTxtW.toTxt D_is_sequence D_is_target, PySem.W.mg_of X G a_is_row, k_is_row, b_is_row⟩
  have D_first_wrong_row : Dn l.prog w K mg base 4 "first_wrong_row" ["letters", "rows", "marks"] (spWrong K) := ⟨_, _, ok_first_wrong_row F_first_wrong_row T.toTxtM.toTxtW.toTxt D_is_row D_is_mark, PySem.W.mg_of X G a_first_wrong_row, k_first_wrong_row, b_first_wrong_row⟩
  have D_copied_rows : Dn l.prog w K mg base 1 "copied_rows" ["rows"] (spCopied K) := ⟨_, _, ok_copied_rows F_copied_rows T.toTxtM.toTxtW.toTxt, PySem.W.mg_of X G a_copied_rows, k_copied_rows, b_copied_rows⟩
  have D_are_letters : Dn l.prog w K mg base 1 "are_letters" ["value"] (spLtrs K) := ⟨_, _, ok_are_letters F_are_letters T.toTxtM.toTxtW, PySem.W.mg_of X G a_are_letters, k_are_letters, b_are_letters⟩
  have D_word_order : Dn l.prog w K mg base 1 "word_order" ["words"] (spOrder K) := ⟨_, _, ok_order F_word_order T.toTxtM.toTxtW.toTxt, PySem.W.mg_of X G a_word_order, k_word_order, b_word_order⟩
  have D_law_pen : Dn l.prog w K mg base 1 "_law_pen" ["script"] (spPen K) := ⟨_, _, ok_pen F_law_pen T.toTxtM.toTxtW.toTxt, PySem.W.mg_of X G a_law_pen, k_law_pen, b_law_pen⟩
  have D_law_draw : Dn l.prog w K mg base 1 "_law_draw" ["pen", "many"] spDraw := ⟨_, _, ok_draw F_law_draw T.toTxtM.toTxtW.toTxt, PySem.W.mg_of X G a_law_draw, k_law_draw, b_law_draw⟩
  have D_law_pick : Dn l.prog w K mg base 2 "_law_pick" ["pen", "some"] (spPick K) := ⟨_, _, ok_pick F_law_pick T.toTxtM.toTxtW.toTxt D_law_draw, PySem.W.mg_of X G a_law_pick, k_law_pick, b_law_pick⟩
  have D_law_shuffled : Dn l.prog w K mg base 2 "_law_shuffled" ["pen", "some"] (spShuffled K) := ⟨_, _, ok_shuffled F_law_shuffled T.toTxtM.toTxtW.toTxt D_law_draw, PySem.W.mg_of X G a_law_shuffled, k_law_shuffled, b_law_shuffled⟩
  have D_law_letters : Dn l.prog w K mg base 3 "_law_letters" ["pen", "most"] spLetters := ⟨_, _, ok_letters F_law_letters T.toTxtM.toTxtW.toTxt D_law_draw D_law_shuffled, PySem.W.mg_of X G a_law_letters, k_law_letters, b_law_letters⟩
  have D_law_table : Dn l.prog w K mg base 2 "_law_table" ["pen", "letters", "size", "is_full"] spTable := ⟨_, _, ok_table F_law_table T.toTxtM.toTxtW.toTxt D_law_draw, PySem.W.mg_of X G a_law_table, k_law_table, b_law_table⟩
  have D_law_plain : Dn l.prog w K mg base 4 "_law_plain" ["pen", "most_letters", "most"] spPlain := ⟨_, _, ok_plain F_law_plain T.toTxtM.toTxtW.toTxt D_law_draw D_law_letters D_law_table, PySem.W.mg_of X G a_law_plain, k_law_plain, b_law_plain⟩
  have D_law_wide : Dn l.prog w K mg base 4 "_law_wide" ["pen", "most_letters"] spWide := ⟨_, _, ok_wide F_law_wide T.toTxtM.toTxtW.toTxt D_law_draw D_law_letters D_law_table, PySem.W.mg_of X G a_law_wide, k_law_wide, b_law_wide⟩
  have D_law_with_dead_end : Dn l.prog w K mg base 1 "_law_with_dead_end" ["letters", "table", "own"] spDead := ⟨_, _, ok_dead F_law_with_dead_end T.toTxtM.toTxtW.toTxt, PySem.W.mg_of X G a_law_with_dead_end, k_law_with_dead_end, b_law_with_dead_end⟩
  have D_law_twin : Dn l.prog w K mg base 3 "_law_twin" ["pen", "plain"] spTwin := ⟨_, _, ok_twin F_law_twin T.toTxtM.toTxtW.toTxt D_law_draw D_law_pick D_law_shuffled D_law_with_dead_end, PySem.W.mg_of X G a_law_twin, k_law_twin, b_law_twin⟩
  have D_law_joint : Dn l.prog w K mg base 2 "_law_joint" ["plains"] spLawJoint := ⟨_, _, ok_joint F_law_joint T.toTxtM.toTxtW.toTxt Zz, PySem.W.mg_of X G a_law_joint, k_law_joint, b_law_joint⟩
  have D_law_marks : Dn l.prog w K mg base 2 "_law_marks" ["plains", "states"] spMarks := ⟨_, _, ok_marks F_law_marks T.toTxtM.toTxtW.toTxt Zz, PySem.W.mg_of X G a_law_marks, k_law_marks, b_law_marks⟩
  have D_law_mistake_due : Dn l.prog w K mg base 3 "_law_mistake_due" ["plain", "one", "other"] spLawDue := ⟨_, _, ok_due F_law_mistake_due T.toTxtM.toTxtW.toTxt D_law_joint D_law_marks, PySem.W.mg_of X G a_law_mistake_due, k_law_mistake_due, b_law_mistake_due⟩
  have D_law_remarked : Dn l.prog w K mg base 3 "_law_remarked" ["pen", "plain"] spVar := ⟨_, _, ok_remarked F_law_remarked T.toTxtM.toTxtW.toTxt D_law_pick, PySem.W.mg_of X G a_law_remarked, k_law_remarked, b_law_remarked⟩
  have D_law_marked : Dn l.prog w K mg base 3 "_law_marked" ["pen", "plain"] spVar := ⟨_, _, ok_marked F_law_marked T.toTxtM.toTxtW.toTxt D_law_draw D_law_pick, PySem.W.mg_of X G a_law_marked, k_law_marked, b_law_marked⟩
  have D_law_near : Dn l.prog w K mg base 3 "_law_near" ["pen", "plain"] spVar := ⟨_, _, ok_near F_law_near T.toTxtM.toTxtW.toTxt D_law_draw D_law_pick, PySem.W.mg_of X G a_law_near, k_law_near, b_law_near⟩
  have D_law_others : Dn l.prog w K mg base 4 "_law_others" ["pen", "one"] spOthers := ⟨_, _, ok_others F_law_others T.toTxtM.toTxtW.toTxt D_law_draw D_law_pick D_law_table D_law_twin D_law_marked D_law_remarked D_law_near, PySem.W.mg_of X G a_law_others, k_law_others, b_law_others⟩
  have cl_Machine : Cls K C_Machine := ⟨pg_Machine, hd_Machine, po_Machine, sa_Machine⟩
  have M_Machine : Cn l.prog w K mg base (L2.CX l.prog w) 5 "Machine" C_Machine ["self", "letters", "transitions", "marks"] (spMac K C_InvalidLetters C_InvalidMachine C_TooLarge) := ⟨⟨_, _, ⟨mk_Machine, i_Machine', fn_Machine, kp_Machine⟩, ok_Machine_init F_Machine T.toTxtM D_are_letters D_is_table D_first_wrong_row D_copied_rows N_InvalidLetters N_InvalidMachine N_TooLarge, b_Machine⟩, PySem.W.mg_of X G a_Machine⟩
  have mcM : McC K C_Machine := ⟨cl_Machine, n0_Machine, n1_Machine, n2_Machine⟩
  have F_mac := ok_Machine_init (P := l.prog) (w := w) (mg := mg) (base := base) F_Machine T.toTxtM D_are_letters D_is_table D_first_wrong_row D_copied_rows N_InvalidLetters N_InvalidMachine N_TooLarge
  have N_Machine : CnD l.prog w K mg base (L2.CX l.prog w) 5 "Machine" C_Machine ["self", "letters", "transitions", "marks"] (spMac K C_InvalidLetters C_InvalidMachine C_TooLarge) [] := ⟨⟨_, _, [], ⟨mk_Machine, i_Machine', fn_Machine, kp_Machine⟩, F_mac, b_Machine, .nil⟩, PySem.W.mg_of X G a_Machine⟩
  have N_letters_mcM : Pr l.prog w K mg base C_Machine "letters" (getSp C_Machine "_letters") := ⟨p_qletters, f_qletters, _, ⟨at_qletters, ge_qletters, ta_qletters, _, re_qletters⟩, fn_getter (CX := CX0) (k := 0) l_qletters c_qletters sc_Machine_letters rfl rfl mcM.cl mcM.n1, (fun_mk (st := s_Machine_letters) l_qletters c_qletters k_qletters).binds (ps := ["self"]) fun _ _ _ _ _ _ us hl => match us, hl with | [_], _ => rfl⟩
  have N_transitions_mcM : Pr l.prog w K mg base C_Machine "transitions" (getSp C_Machine "_transitions") := ⟨p_qtransitions, f_qtransitions, _, ⟨at_qtransitions, ge_qtransitions, ta_qtransitions, _, re_qtransitions⟩, fn_getter (CX := CX0) (k := 0) l_qtransitions c_qtransitions sc_Machine_transitions rfl rfl mcM.cl mcM.n2, (fun_mk (st := s_Machine_transitions) l_qtransitions c_qtransitions k_qtransitions).binds (ps := ["self"]) fun _ _ _ _ _ _ us hl => match us, hl with | [_], _ => rfl⟩
  have N_marks_mcM : Pr l.prog w K mg base C_Machine "marks" (getSp C_Machine "_marks") := ⟨p_qmarks, f_qmarks, _, ⟨at_qmarks, ge_qmarks, ta_qmarks, _, re_qmarks⟩, fn_getter (CX := CX0) (k := 0) l_qmarks c_qmarks sc_Machine_marks rfl rfl mcM.cl mcM.n3, (fun_mk (st := s_Machine_marks) l_qmarks c_qmarks k_qmarks).binds (ps := ["self"]) fun _ _ _ _ _ _ us hl => match us, hl with | [_], _ => rfl⟩
  have N_size_mcM : Pr l.prog w K mg base C_Machine "size" (spSizeM K C_Machine) := ⟨p_qsize, f_qsize, _, ⟨at_qsize, ge_qsize, ta_qsize, _, re_qsize⟩, ok_Machine_size (fun_mk (st := s_Machine_size) l_qsize c_qsize k_qsize) T.toTxtM.toTxtW.toTxt mcM, (fun_mk (st := s_Machine_size) l_qsize c_qsize k_qsize).binds (ps := ["self"]) fun _ _ _ _ _ _ us hl => match us, hl with | [_], _ => rfl⟩
  have D_check_compared : DnR l.prog w K mg base 4 "check_compared" (fun vs H Q E => ∃ ws rest, vs = ws ++ rest ∧ ws.length = ([] : List Str).length ∧ rest.length ≤ sizeLine ∧ ∀ p, H p = none → spCmp K C_Machine C_InvalidLetters C_TooLarge (ws ++ [V.ref p]) (upd H p (.tup rest)) Q E) := ⟨f_cc, StX.fn_star (ps := []) (pv := "machines") l_cc c_cc sc_check_compared StX.cxUp (fun us rest hl => match us, rest, hl with | [], [], _ => rfl | [], _ :: _, _ => rfl) fun A outer s H vs Q E hr h => body_check_compared T mcM N_letters_mcM N_size_mcM N_InvalidLetters N_TooLarge A outer s H vs Q E hr h, PySem.W.mg_of X G a_cc, k_cc⟩
  have D_mark_at : Dn l.prog w K mg base 3 "mark_at" ["machine", "state"] (spMarkAt K C_Machine) := ⟨_, _, ok_mark_at F_mark_at T.toTxtM.toTxtW.toTxt mcM N_marks_mcM, PySem.W.mg_of X G a_mark_at, k_mark_at, b_mark_at⟩
  have D_row_at : Dn l.prog w K mg base 3 "row_at" ["machine", "state"] (spRowAt K C_Machine) := ⟨_, _, ok_row_at F_row_at T.toTxtM.toTxtW.toTxt mcM N_letters_mcM N_transitions_mcM, PySem.W.mg_of X G a_row_at, k_row_at, b_row_at⟩
  have D_next_pairs : Dn l.prog w K mg base 6 "next_pairs" ["one", "other", "pair"] (spNext K C_Machine) := ⟨_, _, ok_next_pairs F_next_pairs T.toTxtM.toTxtW.toTxt Zz D_row_at, PySem.W.mg_of X G a_next_pairs, k_next_pairs, b_next_pairs⟩
  have D_joint_words : Dn l.prog w K mg base 7 "joint_words" ["one", "other"] (spJoint l.prog w K C_Machine) := ⟨_, _, ok_joint_words F_joint_words T.toTxtM.toTxtW.toTxt mcM Zz N_letters_mcM D_next_pairs, PySem.W.mg_of X G a_joint_words, k_joint_words, b_joint_words⟩
  have D_wrong_words : Dn l.prog w K mg base 8 "wrong_words" ["machine", "other", "mark"] (spWrongW K C_Machine) := ⟨_, _, ok_wrong_words F_wrong_words T.toTxtM.toTxtW.toTxt D_joint_words D_mark_at, PySem.W.mg_of X G a_wrong_words, k_wrong_words, b_wrong_words⟩
  have D_first_mistake : Dn l.prog w K mg base 9 "first_mistake" ["machine", "one", "other"] (spFirstM K C_Machine) := ⟨_, _, ok_first_mistake F_first_mistake T.toTxtM.toTxtW.toTxt D_check_compared D_word_order D_wrong_words, PySem.W.mg_of X G a_first_mistake, k_first_mistake, b_first_mistake⟩
  have D_separates : Dn l.prog w K mg base 10 "separates" ["machine", "one", "other"] (spSepar K C_Machine) := ⟨_, _, ok_separates F_separates T.toTxtM.toTxtW.toTxt D_first_mistake, PySem.W.mg_of X G a_separates, k_separates, b_separates⟩
  have D_law_machine : Dn l.prog w K mg base 7 "_law_machine" ["plain"] (spMachine C_Machine K) := ⟨_, _, ok_machine F_law_machine T.toTxtM.toTxtW.toTxt mcM N_Machine, PySem.W.mg_of X G a_law_machine, k_law_machine, b_law_machine⟩
  have D_law_shown : Dn l.prog w K mg base 3 "_law_shown" ["machine"] (spShown K C_Machine) := ⟨_, _, ok_shown F_law_shown T.toTxtM.toTxtW.toTxt mcM N_transitions_mcM N_marks_mcM, PySem.W.mg_of X G a_law_shown, k_law_shown, b_law_shown⟩
  exact ok_law F_law T.toTxtM.toTxtW.toTxt MB mcM D_law_pen D_law_plain D_law_wide D_law_others D_law_machine D_law_mistake_due D_law_shown D_first_mistake D_separates
end Wf

open PySem PySem.W PyProof.Rows in
set_option maxRecDepth 100000 in
set_option maxHeartbeats 0 in
theorem PySem.Challenge.cw_wordfit_k74_mistakes_found_holds : PySem.Challenge.rw_wordfit_k74_mistakes_found.Holds := by
  w_on; o_law; k_head; (case hw => w_witness2)
  k_fill
  refine Wf.walkG (l := PySem.Challenge.rw_wordfit_k74_mistakes_found) (sp := Wf.spLaw) (n := 63) (k := 11) (x := "script") (by decide +kernel) rfl (by decide) rfl ⟨rfl, by decide, by decide⟩ (fun w h Y => PySem.W.kIn_of Y) ?F (fun K H a ns hn hs => ⟨a, ns, rfl, hs, hn, fun _ => rfl⟩)
  case F =>
    intro w mg fa h KX G hmg
    refine' Wf.all_mk KX G hmg ?a_is_number ?l_is_number ?c_is_number ?k_is_number ?a_is_sequence ?l_is_sequence ?c_is_sequence ?k_is_sequence ?a_is_mark ?l_is_mark ?c_is_mark ?k_is_mark ?a_is_table ?l_is_table ?c_is_table ?k_is_table ?a_is_target ?l_is_target ?c_is_target ?k_is_target ?a_is_row ?l_is_row ?c_is_row ?k_is_row ?a_first_wrong_row ?l_first_wrong_row ?c_first_wrong_row ?k_first_wrong_row ?a_copied_rows ?l_copied_rows ?c_copied_rows ?k_copied_rows ?a_are_letters ?l_are_letters ?c_are_letters ?k_are_letters ?a_word_order ?l_word_order ?c_word_order ?k_word_order ?a_law_pen ?l_law_pen ?c_law_pen ?k_law_pen ?a_law_draw ?l_law_draw ?c_law_draw ?k_law_draw ?a_law_pick ?l_law_pick ?c_law_pick ?k_law_pick ?a_law_shuffled ?l_law_shuffled ?c_law_shuffled ?k_law_shuffled ?a_law_letters ?l_law_letters ?c_law_letters ?k_law_letters ?a_law_table ?l_law_table ?c_law_table ?k_law_table ?a_law_plain ?l_law_plain ?c_law_plain ?k_law_plain ?a_law_wide ?l_law_wide ?c_law_wide ?k_law_wide ?a_law_with_dead_end ?l_law_with_dead_end ?c_law_with_dead_end ?k_law_with_dead_end ?a_law_twin ?l_law_twin ?c_law_twin ?k_law_twin ?a_law_joint ?l_law_joint ?c_law_joint ?k_law_joint ?a_law_marks ?l_law_marks ?c_law_marks ?k_law_marks ?a_law_mistake_due ?l_law_mistake_due ?c_law_mistake_due ?k_law_mistake_due ?a_law_remarked ?l_law_remarked ?c_law_remarked ?k_law_remarked ?a_law_marked ?l_law_marked ?c_law_marked ?k_law_marked ?a_law_near ?l_law_near ?c_law_near ?k_law_near ?a_law_others ?l_law_others ?c_law_others ?k_law_others ?a_mark_at ?l_mark_at ?c_mark_at ?k_mark_at ?a_row_at ?l_row_at ?c_row_at ?k_row_at ?a_next_pairs ?l_next_pairs ?c_next_pairs ?k_next_pairs ?a_joint_words ?l_joint_words ?c_joint_words ?k_joint_words ?a_wrong_words ?l_wrong_words ?c_wrong_words ?k_wrong_words ?a_first_mistake ?l_first_mistake ?c_first_mistake ?k_first_mistake ?a_separates ?l_separates ?c_separates ?k_separates ?a_law_machine ?l_law_machine ?c_law_machine ?k_law_machine ?a_law_shown ?l_law_shown ?c_law_shown ?k_law_shown ?a_law ?l_law ?c_law ?k_law ?a_InvalidMachine ?x_InvalidMachine ?w_InvalidMachine ?s_InvalidMachine ?q_InvalidMachine ?hg_InvalidMachine ?hk_InvalidMachine ?hs_InvalidMachine ?hd_InvalidMachine ?ha_InvalidMachine ?hm_InvalidMachine ?ty_InvalidMachine ?n_InvalidMachine ?i_InvalidMachineq ?t_InvalidMachine ?l_InvalidMachine ?c_InvalidMachine ?k_InvalidMachine ?a_TooLarge ?x_TooLarge ?w_TooLarge ?s_TooLarge ?q_TooLarge ?hg_TooLarge ?hk_TooLarge ?hs_TooLarge ?hd_TooLarge ?ha_TooLarge ?hm_TooLarge ?ty_TooLarge ?n_TooLarge ?i_TooLargeq ?t_TooLarge ?l_TooLarge ?c_TooLarge ?k_TooLarge ?a_InvalidLetters ?x_InvalidLetters ?hg_InvalidLetters ?hk_InvalidLetters ?hs_InvalidLetters ?hd_InvalidLetters ?ha_InvalidLetters ?hm_InvalidLetters ?ty_InvalidLetters ?k_InvalidLetters ?a_Machine ?mk_Machine ?kp_Machine ?pg_Machine ?hd_Machine ?po_Machine ?sa_Machine ?n0_Machine ?n1_Machine ?n2_Machine ?i_Machineq ?t_Machine ?l_Machine ?c_Machine ?k_Machine ?fn_Machine ?spec ?take ?at_qletters ?ge_qletters ?ta_qletters ?re_qletters ?l_qletters ?c_qletters ?k_qletters ?at_qtransitions ?ge_qtransitions ?ta_qtransitions ?re_qtransitions ?l_qtransitions ?c_qtransitions ?k_qtransitions ?at_qmarks ?ge_qmarks ?ta_qmarks ?re_qmarks ?l_qmarks ?c_qmarks ?k_qmarks ?at_qsize ?ge_qsize ?ta_qsize ?re_qsize ?l_qsize ?c_qsize ?k_qsize ?a_cc ?l_cc ?c_cc ?k_cc ?z_zip ?z_list ?z_len ?z_abs ?z_range ?z_sorted ?z_repr ?z_isinstance ?z_tuple ?z_str ?z_int ?z_bool ?z_all ?z_any ?z_enumerate ?z_dict ?z_set ?z_max ?z_min ?z_ValueError ?z_KeyError ?z_IndexError ?z_ArithmeticError ?z_LookupError ?g_MOST_LETTERS ?g_STATES ?g_COMPARED
    (case a_is_number => k_is)
    (case l_is_number => k_is)
    (case c_is_number => k_is)
    (case k_is_number => k_is)
    (case a_is_sequence => k_is)
    (case l_is_sequence => k_is)
    (case c_is_sequence => k_is)
    (case k_is_sequence => k_is)
    (case a_is_mark => k_is)
    (case l_is_mark => k_is)
    (case c_is_mark => k_is)
    (case k_is_mark => k_is)
    (case a_is_table => k_is)
    (case l_is_table => k_is)
    (case c_is_table => k_is)
    (case k_is_table => k_is)
    (case a_is_target => k_is)
    (case l_is_target => k_is)
    (case c_is_target => k_is)
    (case k_is_target => k_is)
    (case a_is_row => k_is)
    (case l_is_row => k_is)
    (case c_is_row => k_is)
    (case k_is_row => k_is)
    (case a_first_wrong_row => k_is)
    (case l_first_wrong_row => k_is)
    (case c_first_wrong_row => k_is)
    (case k_first_wrong_row => k_is)
    (case a_copied_rows => k_is)
    (case l_copied_rows => k_is)
    (case c_copied_rows => k_is)
    (case k_copied_rows => k_is)
    (case a_are_letters => k_is)
    (case l_are_letters => k_is)
    (case c_are_letters => k_is)
    (case k_are_letters => k_is)
    (case a_word_order => k_is)
    (case l_word_order => k_is)
    (case c_word_order => k_is)
    (case k_word_order => k_is)
    (case a_law_pen => k_is)
    (case l_law_pen => k_is)
    (case c_law_pen => k_is)
    (case k_law_pen => k_is)
    (case a_law_draw => k_is)
    (case l_law_draw => k_is)
    (case c_law_draw => k_is)
    (case k_law_draw => k_is)
    (case a_law_pick => k_is)
    (case l_law_pick => k_is)
    (case c_law_pick => k_is)
    (case k_law_pick => k_is)
    (case a_law_shuffled => k_is)
    (case l_law_shuffled => k_is)
    (case c_law_shuffled => k_is)
    (case k_law_shuffled => k_is)
    (case a_law_letters => k_is)
    (case l_law_letters => k_is)
    (case c_law_letters => k_is)
    (case k_law_letters => k_is)
    (case a_law_table => k_is)
    (case l_law_table => k_is)
    (case c_law_table => k_is)
    (case k_law_table => k_is)
    (case a_law_plain => k_is)
    (case l_law_plain => k_is)
    (case c_law_plain => k_is)
    (case k_law_plain => k_is)
    (case a_law_wide => k_is)
    (case l_law_wide => k_is)
    (case c_law_wide => k_is)
    (case k_law_wide => k_is)
    (case a_law_with_dead_end => k_is)
    (case l_law_with_dead_end => k_is)
    (case c_law_with_dead_end => k_is)
    (case k_law_with_dead_end => k_is)
    (case a_law_twin => k_is)
    (case l_law_twin => k_is)
    (case c_law_twin => k_is)
    (case k_law_twin => k_is)
    (case a_law_joint => k_is)
    (case l_law_joint => k_is)
    (case c_law_joint => k_is)
    (case k_law_joint => k_is)
    (case a_law_marks => k_is)
    (case l_law_marks => k_is)
    (case c_law_marks => k_is)
    (case k_law_marks => k_is)
    (case a_law_mistake_due => k_is)
    (case l_law_mistake_due => k_is)
    (case c_law_mistake_due => k_is)
    (case k_law_mistake_due => k_is)
    (case a_law_remarked => k_is)
    (case l_law_remarked => k_is)
    (case c_law_remarked => k_is)
    (case k_law_remarked => k_is)
    (case a_law_marked => k_is)
    (case l_law_marked => k_is)
    (case c_law_marked => k_is)
    (case k_law_marked => k_is)
    (case a_law_near => k_is)
    (case l_law_near => k_is)
    (case c_law_near => k_is)
    (case k_law_near => k_is)
    (case a_law_others => k_is)
    (case l_law_others => k_is)
    (case c_law_others => k_is)
    (case k_law_others => k_is)
    (case a_mark_at => k_is)
    (case l_mark_at => k_is)
    (case c_mark_at => k_is)
    (case k_mark_at => k_is)
    (case a_row_at => k_is)
    (case l_row_at => k_is)
    (case c_row_at => k_is)
    (case k_row_at => k_is)
    (case a_next_pairs => k_is)
    (case l_next_pairs => k_is)
    (case c_next_pairs => k_is)
    (case k_next_pairs => k_is)
    (case a_joint_words => k_is)
    (case l_joint_words => k_is)
    (case c_joint_words => k_is)
    (case k_joint_words => k_is)
    (case a_wrong_words => k_is)
    (case l_wrong_words => k_is)
    (case c_wrong_words => k_is)
    (case k_wrong_words => k_is)
    (case a_first_mistake => k_is)
    (case l_first_mistake => k_is)
    (case c_first_mistake => k_is)
    (case k_first_mistake => k_is)
    (case a_separates => k_is)
    (case l_separates => k_is)
    (case c_separates => k_is)
    (case k_separates => k_is)
    (case a_law_machine => k_is)
    (case l_law_machine => k_is)
    (case c_law_machine => k_is)
    (case k_law_machine => k_is)
    (case a_law_shown => k_is)
    (case l_law_shown => k_is)
    (case c_law_shown => k_is)
    (case k_law_shown => k_is)
    (case a_law => k_is)
    (case l_law => k_is)
    (case c_law => k_is)
    (case k_law => k_is)
    (case a_InvalidMachine => k_is)
    (case x_InvalidMachine => kx_is)
    (case w_InvalidMachine => kx_is)
    (case s_InvalidMachine => k_is)
    (case q_InvalidMachine => k_is)
    (case hg_InvalidMachine => k_is)
    (case hk_InvalidMachine => k_is)
    (case hs_InvalidMachine => k_is)
    (case hd_InvalidMachine => k_is)
    (case ha_InvalidMachine => k_is)
    (case hm_InvalidMachine => k_is)
    (case ty_InvalidMachine => k_is)
    (case n_InvalidMachine => k_is)
    (case i_InvalidMachineq => k_is)
    (case t_InvalidMachine => k_is)
    (case l_InvalidMachine => k_is)
    (case c_InvalidMachine => k_is)
    (case k_InvalidMachine => k_is)
    (case a_TooLarge => k_is)
    (case x_TooLarge => kx_is)
    (case w_TooLarge => kx_is)
    (case s_TooLarge => k_is)
    (case q_TooLarge => k_is)
    (case hg_TooLarge => k_is)
    (case hk_TooLarge => k_is)
    (case hs_TooLarge => k_is)
    (case hd_TooLarge => k_is)
    (case ha_TooLarge => k_is)
    (case hm_TooLarge => k_is)
    (case ty_TooLarge => k_is)
    (case n_TooLarge => k_is)
    (case i_TooLargeq => k_is)
    (case t_TooLarge => k_is)
    (case l_TooLarge => k_is)
    (case c_TooLarge => k_is)
    (case k_TooLarge => k_is)
    (case a_InvalidLetters => k_is)
    (case x_InvalidLetters => k_exc)
    (case hg_InvalidLetters => k_is)
    (case hk_InvalidLetters => k_is)
    (case hs_InvalidLetters => k_is)
    (case hd_InvalidLetters => k_is)
    (case ha_InvalidLetters => k_is)
    (case hm_InvalidLetters => k_is)
    (case ty_InvalidLetters => k_is)
    (case k_InvalidLetters => k_is)
    (case a_Machine => k_is)
    (case mk_Machine => k_is)
    (case kp_Machine => k_is)
    (case pg_Machine => k_is)
    (case hd_Machine => k_is)
    (case po_Machine => k_is)
    (case sa_Machine => k_is)
    (case n0_Machine => k_is)
    (case n1_Machine => k_is)
    (case n2_Machine => k_is)
    (case i_Machineq => k_is)
    (case t_Machine => k_is)
    (case l_Machine => k_is)
    (case c_Machine => k_is)
    (case k_Machine => k_is)
    (case fn_Machine => k_is)
    (case spec => k_is)
    (case take => k_is)
    (case at_qletters => k_is)
    (case ge_qletters => k_is)
    (case ta_qletters => k_is)
    (case re_qletters => k_is)
    (case l_qletters => k_is)
    (case c_qletters => k_is)
    (case k_qletters => k_is)
    (case at_qtransitions => k_is)
    (case ge_qtransitions => k_is)
    (case ta_qtransitions => k_is)
    (case re_qtransitions => k_is)
    (case l_qtransitions => k_is)
    (case c_qtransitions => k_is)
    (case k_qtransitions => k_is)
    (case at_qmarks => k_is)
    (case ge_qmarks => k_is)
    (case ta_qmarks => k_is)
    (case re_qmarks => k_is)
    (case l_qmarks => k_is)
    (case c_qmarks => k_is)
    (case k_qmarks => k_is)
    (case at_qsize => k_is)
    (case ge_qsize => k_is)
    (case ta_qsize => k_is)
    (case re_qsize => k_is)
    (case l_qsize => k_is)
    (case c_qsize => k_is)
    (case k_qsize => k_is)
    (case a_cc => k_is)
    (case l_cc => k_is)
    (case c_cc => k_is)
    (case k_cc => k_is)
    (case z_zip => k_is)
    (case z_list => k_is)
    (case z_len => k_is)
    (case z_abs => k_is)
    (case z_range => k_is)
    (case z_sorted => k_is)
    (case z_repr => k_is)
    (case z_isinstance => k_is)
    (case z_tuple => k_is)
    (case z_str => k_is)
    (case z_int => k_is)
    (case z_bool => k_is)
    (case z_all => k_is)
    (case z_any => k_is)
    (case z_enumerate => k_is)
    (case z_dict => k_is)
    (case z_set => k_is)
    (case z_max => k_is)
    (case z_min => k_is)
    (case z_ValueError => k_is)
    (case z_KeyError => k_is)
    (case z_IndexError => k_is)
    (case z_ArithmeticError => k_is)
    (case z_LookupError => k_is)
    (case g_MOST_LETTERS => k_is)
    (case g_STATES => k_is)
    (case g_COMPARED => k_is)
