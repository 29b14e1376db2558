import PyProof.Rows.All
import Wide.All
import OpenK.AllK
import Wide.FinOn
import HandS.ForMost
import KE.SortData
import KE.SortKeyHeap
import HandS.Conv
import HandS.Zip
import HandS.StrMore
import PyProof.StrLawsIn
import HandS.Dict
import HandS.Iter
import KE.KExcInit
import KE.KExcIs
import HandS.ExcInit
import HandS.ExcValue
import HandS.ExcIs
import HandS.ExcField
import HandS.IsInst
import HandS.TryMany
import HandS.Style
import HandS.Walk
import KE.GoesEnum
import HandS.WordsExc
import KE.KIntText
import KE.KRevSl
import HandS.Codes
import HandS.TupSets
import HandS.SetFor
import HandS.ExcOwn
import HandS.DictComp
import HandS.Property
import HandS.Star
import HandS.OwnEq
import HandS.TupAny
import KE.KSuperObj
import KE.KSuper
import HandS.ClsMeth
import HandS.GenBody
import HandS.GenList
import PyProof.StrOps2
import HandS.Defaults
import HandS.MakeKwOnly
import HandS.Lambda
import HandS.EndTab
import PyProof.EqKinds
import PyProof.NeKinds
import HandS.List
import HandS.Text
import HandS.WordsDict
import PySem.Challenge.RW_wordfit_k04_samples_with_other_words
set_option Elab.async false
set_option maxRecDepth 100000
set_option maxHeartbeats 4000000
set_option linter.all false
/-! defs called where nothing is being shown (no repr is under way) -/
namespace Wf
open PySem PySem.Spec PyProof.Rows L2

/-- nothing is being shown around -/
abbrev Qt (A : Around) : Prop := A.guards = some []

/-- the promise of a def that is called where nothing is being shown -/
structure FnG (P : Program) (w : World) (K : PySem.W.Frag) (mg : Str → Option Value) (base : Heap) (CX : CXT) (k : Nat) (f : Addr) (fd : FuncData) (ps : List Str) (sp : Sp) : Prop where
  many : ∀ {vs H Q E}, sp vs H Q E → vs.length = ps.length
  goes : ∀ {A : Around} {outer : List Env} {s : Shared} {H : Hp} {args : Args} {us : List Value} {vs : List V} {Q : VK} {E : XK}, Qt A → Room k A → Env0 P w K mg base A outer s H →
    BindsTo s fd args (ps.zip us) → Vals vs us → sp vs H Q E → codeAny (model P w) A (.call (.ref f) args) (CR CX outer P w H s Q E) s
section
variable {P : Program} {w : World} {K : PySem.W.Frag} {mg : Str → Option Value} {base : Heap} {CX : CXT} {k : Nat} {f : Addr} {fd : FuncData} {ps : List Str} {sp : Sp}
theorem FnG.of (F : FnOk P w K mg base CX k f fd ps sp) : FnG P w K mg base CX k f fd ps sp :=
  ⟨fun h => F.len _ _ _ _ h, fun _ hr e0 hb r h => F.run _ _ _ _ _ _ _ _ _ hr e0 hb r h⟩
theorem FnG.up {j : Nat} (F : FnG P w K mg base CX j f fd ps sp) (h : j ≤ k) : FnG P w K mg base CX k f fd ps sp :=
  ⟨F.many, fun g hr => F.goes g (hr.mono h)⟩

/-- a def by its body, where nothing is being shown -/
theorem FnG.body {x qual : Str} {st : Stmt} {N : List Str} (F : Fun K x qual st f fd) (S : FnScope N ps (defScope st)) (many : ∀ {vs H Q E}, sp vs H Q E → vs.length = ps.length)
    (B : ∀ (cdv : Value) (A : Around) (outer : List Env) (s : Shared) (H : Hp) (vs : List V) (Q : VK) (E : XK), Qt A → Room k (A.deeper (envOfC qual (defScope st) s.heap.objs.size f cdv)) → sp vs H Q E →
      ∃ t, PSs (cxOf CX P w K mg base N qual (defScope st) f cdv A outer s H E) (defBody st) t ∧ t { nx := fun _ H' => Q .non H', rt := Q } (start N vs) H) :
    FnG P w K mg base CX (k + 1) f fd ps sp := by
  obtain ⟨oc, od, kV, doc, pm, an, cdv, ct, osl, efd, lk, hcd⟩ := F.ex
  subst efd
  refine ⟨many, ?_⟩
  intro A outer s H args us vs Q E hq hr e0 hb r hsp
  have inK : K.In s.heap := e0.mod.kin.keeps (fun b o e => And.left (e0.bs b o e))
  have noL : s.heap.NoLimit := e0.mod.nolimit.keeps (fun b o e => And.left (e0.bs b o e))
  have kinds : ∀ z, z ∈ ps.zip us → (defScope st).names.lookup z.1 = some .local ∨
      ((defScope st).names.lookup z.1 = some .cell ∧ ((cellsFrom (s.heap.objs.size + 1) (defScope st).names []).lookup z.1).isSome = true) := by
    intro z hz
    cases S.par z.1 (List.of_mem_zip hz).1 with
    | inl q => exact Or.inl q
    | inr q => exact Or.inr (And.intro q (PySem.W.cellsFrom_some _ _ _ (Or.inl q)))
  refine codeAny_call_function (Room.depth hr) (inK _ _ lk) rfl S.co S.gen rfl (PySem.W.codeRec_of inK hcd) (hb _ _ _ _ (?_))
  refine wpAny_newFunctionEnv_cells S.kind kinds (fun env he s1 x => ?_)
  subst he
  refine And.intro (noL.keeps x.toInCall.keep) (codeAny_func ?_)
  obtain ⟨t, ht, q⟩ := B cdv A outer s H vs Q E hq (Room.deeper hr _) hsp
  have J := inv_start (CX := CX) (E := E) (P := P) (w := w) (K := K) (mg := mg) (base := base) S hr.hd e0 (many hsp) r x
  refine wpAny_mono (ht.run [] s1 (start N vs) H _ J q) (fun fl s' got => ?_) (fun e s' got => got)
  cases fl with
  | next =>
    obtain ⟨σ', H', J', q'⟩ := got
    exact ⟨.non, H', J'.os, J'.bare, J'.base, J'.hok, rfl, q'⟩
  | ret u =>
    obtain ⟨v, σ', H', J', rv, q'⟩ := got
    exact ⟨v, H', J'.os, J'.bare, J'.base, J'.hok, rv, q'⟩
  | brk => exact (Exists.elim got fun _ g => Exists.elim g fun _ g' => g'.2).elim
  | cont => exact (Exists.elim got fun _ g => Exists.elim g fun _ g' => g'.2).elim
end

section
variable {X : Cx} {CX : CXT} {k : Nat} {f : Addr} {fd : FuncData} {ps : List Str} {sp : Sp} {dvs : List V} {ds : List Value} {E : XK} {x : Str} {p pos : Pos} {e : Expr} {es : List Expr} {t : TA}
theorem FnG.ran {pins : List (Addr × Obj)} {σ : L2.St} {H : Hp} {s : Shared} {Q : VK} {us : List Value} {vs : List V} (F : FnG X.prog X.w X.K X.mg X.base CX k f fd ps sp) (hq : Qt X.A) (hr : Room k X.A) (hb : Binds X.K fd ps ds) (hd : Vals dvs ds)
    (hx : Passes CX X E) (I : Inv X pins σ H s) (r : Vals vs us) (h : sp (vs ++ dvs) H Q E) : wpAny (model X.prog X.w) X.A (call (.ref f) us) (EP X pins σ Q) X.xe s := by
  have r' := Vals.append r hd
  have hl : (us ++ ds).length = ps.length := (Vals.length r').symm.trans (F.many h)
  refine wpAny_call (codeAny_mono (F.goes (us := us ++ ds) (vs := vs ++ dvs) hq hr I.env0 (hb s us I.kIn hl) r' h) (fun r s' got => ?_))
  match r, got with
  | .error e, got => exact hx pins σ H s e s' I got
  | .ok (.ret u), got => exact I.after got
  | .ok .next, got => exact got.elim
  | .ok .brk, got => exact got.elim
  | .ok .cont, got => exact got.elim
/-- f(e, ..) -/
theorem pe_callG (F : FnG X.prog X.w X.K X.mg X.base CX k f fd ps sp) (hq : Qt X.A) (hr : Room k X.A) (hg : Gl X x) (hm : X.mg x = some (.ref f)) (hk : PySem.W.keepIn X.K (.ref f) = true) (hb : Binds X.K fd ps ds) (hd : Vals dvs ds)
    (hx : Passes CX X E) (ha : PA X (e :: es) t) (hdb : (x == ("__debug__" : Str)) = false := by decide) (he : starEach (e :: es) X.env = (false, eval e X.env) :: starEach es X.env := by rfl)
    (hpl : (backTo pos (starEach es X.env)).any (·.1) = false := by rfl) : PE X (.Call (.Name x p) (e :: es) [] pos) (tCall sp dvs E t) :=
  ⟨fun pins s σ H Q I h => wpAny_Call_Name_kw (ld_glob I hg hm (PySem.W.callWith_K (h₀ := X.base) I.ok.mod.kin hk
    (thn (ha.run pos pins s σ H _ I h) fun us s1 ⟨vs, H1, I1, r, q⟩ => ⟨I1.kIn, F.ran hq hr hb hd hx I1 r q⟩) he hpl) hdb)⟩
end
end Wf
namespace Wf
open PySem PySem.Spec PyProof.Rows L2

/-! ### repr of data -/
section
variable {K : PySem.W.Frag} {H : Hp}
mutual
theorem dp_plain : ∀ {d : PyData} {v : V}, Dp K H v d → d.hasDict = false
  | .none, _, _ => rfl
  | .bool _, _, _ => rfl
  | .int _, _, _ => rfl
  | .str _, _, _ => rfl
  | .list ds, _, h => by
    cases h with
    | lst _ a => exact dpAll_plain a
  | .tuple ds, _, h => by
    cases h with
    | tup _ a => exact dpAll_plain a
  | .dict _, _, h => by cases h
theorem dpAll_plain : ∀ {ds : List PyData} {vs : List V}, DpAll K H vs ds → PyData.hasDictAll ds = false
  | [], _, _ => rfl
  | d :: ds, _, h => by
    cases h with
    | cons a b =>
      show (PyData.hasDict d || PyData.hasDictAll ds) = false
      rw [dp_plain a, dpAll_plain b]
      rfl
end
end

section
variable {X : Cx}
def rRepr (K : PySem.W.Frag) : List V → Hp → VK → Prop := fun xs H Q => ∃ v d, xs = [v] ∧ Dp K H v d ∧ d.showable = true ∧ d.depth ≤ 60 ∧ d.shown.length ≤ sizeLine ∧ Q (.str d.shown) H
theorem cr_repr (hq : Qt X.A) (hu : X.A.units + 64 < cLine) : CallR X (.builtin "repr") (rRepr X.K) := by
  intro pins s σ H xs us Q I r h
  obtain ⟨v, d, rfl, hd, sh, dp, sz, q⟩ := h
  obtain ⟨u, rfl, rx⟩ := vals1 r
  obtain ⟨as, rd⟩ := Dp.reads I d v u hd rx
  have np := dp_plain hd
  cases rd with
  | none => exact PySem.P.repr_of_none ⟨.str _, H, I.tok _, ⟨_, rfl⟩, q⟩
  | bool b => exact PySem.P.repr_of_bool ⟨.str _, H, I.tok _, ⟨_, rfl⟩, q⟩
  | int i t => exact PySem.P.repr_of_int (of_decide_eq_true sh) ⟨.str _, H, I.tok _, ⟨_, rfl⟩, q⟩
  | str x t => exact PySem.P.repr_of_str ⟨.str _, H, I.tok _, ⟨_, rfl⟩, q⟩ sz
  | list a b c e => exact repr_of_reads' (Reads.list a b c e) sh (PyData.noDict_hsm np) hq (by omega) (fun _ _ z => z) (fun h' u tk k => ⟨.str _, H, I.kept k, ⟨_, rfl⟩, q⟩) sz
  | tuple a b c e => exact repr_of_reads' (Reads.tuple a b c e) sh (PyData.noDict_hsm np) hq (by omega) (fun _ _ z => z) (fun h' u tk k => ⟨.str _, H, I.kept k, ⟨_, rfl⟩, q⟩) sz
  | dict a b c e f => cases hd
end
end Wf
namespace Wf
open PySem PySem.Spec PyProof.Rows L2 PySem.W PySem.Calls

/-! ### sorted of data, of a list or of a tuple -/
section
variable {prog : Program} {w : World} {A : Around} {E : Value → Shared → Prop} {s : Shared} {β : Type} {vs : List Value} {bs : List β} {enc : β → PyData} {R : Value → β → Prop}

/-- a list or a tuple gathered into a new list -/
theorem gather {l : Addr} {T : String} {o : Obj} {n : Nat} {Q : List Value → Shared → Prop} (hT : T = "list" ∨ T = "tuple") (ho : s.heap.get? l = some o) (hc : o.cls = .type T) (hd : o.data = .seq vs.toArray n) (hL : vs.length ≤ sizeLine)
    (h : Q vs { s with heap := (s.heap.push (seqObj "list" #[] 0)).update s.heap.objs.size (Obj.mapSeq (· ++ vs.toArray)) }) : wpAny (model prog w) A (collect (.ref l)) Q E s := by
  have at0 : (s.heap.push (seqObj "list" #[] 0)).get? s.heap.objs.size = some (seqObj "list" #[] 0) := Heap.get?_push_size _ rfl
  have last : ∀ s', s' = { s with heap := (s.heap.push (seqObj "list" #[] 0)).update s.heap.objs.size (Obj.mapSeq (· ++ vs.toArray)) } → wpAny (model prog w) A (do
      let o ← load s.heap.objs.size
      match o.data with
      | .seq xs _ => pure xs.toList
      | _ => unsupported "internal:collect") Q E s' := by
    intro s' es
    subst es
    refine wpAny_bind (wpAny_load (get?_update_seq at0 _) ?_)
    refine wpAny_pure ?_
    have e : ((#[] : Array Value) ++ vs.toArray).toList = vs := by simp
    show Q ((#[] : Array Value) ++ vs.toArray).toList _
    rw [e]
    exact h
  unfold collect
  refine wpAny_bind (wpAny_runValue (codeAny_builtin F.entry_proto_collect ?_))
  rw [Around.under_plainId F.plain_proto_collect _]
  show wpAny _ A.in1 (do again (.builtin "list.__iadd__" ⟨[← newList [], .ref l], []⟩)) _ _ _
  refine wpAny_bind (wpAny_newList ?_ (Nat.zero_le _))
  refine wpAny_pure ⟨plainId_quiet F.plain_list_iadd _, codeAny_builtin F.entry_list_iadd ?_⟩
  rw [Around.under_plainId F.plain_list_iadd _]
  refine wpAny_mono (wpAny_extend_seq (A := A) (s := { s with heap := s.heap.push (seqObj "list" #[] 0) }) (o := o) (items := vs.toArray) (n := n) (R := fun r s' => r = .ok (.ret (.ref s.heap.objs.size)) ∧ s' = { s with heap := (s.heap.push (seqObj "list" #[] 0)).update s.heap.objs.size (Obj.mapSeq (· ++ vs.toArray)) })
    s.heap.objs.size l (.ref s.heap.objs.size) 0 hT at0 (Heap.get?_push_of_some _ ho) hc hd ⟨rfl, rfl⟩ (by simpa using hL)) (fun fin s' got => ?_) (fun e s' got => ?_)
  · cases fin with
    | done f =>
      obtain ⟨ef, es⟩ := got
      cases ef
      exact last s' es
    | again c =>
      refine ⟨got.1, codeAny_mono got.2 fun r s'' hr => ?_⟩
      obtain ⟨er, es⟩ := hr
      subst er
      exact last s'' es
  · exact absurd got.1 (by simp)

theorem reads_there {h : Heap} : (∀ (d : PyData) (v : Value) (as : List Addr), Reads h v d as → ∀ a ∈ as, ∃ o, h.get? a = some o) := by
  intro d v as r
  refine Reads.rec (motive_1 := fun v d as _ => ∀ a ∈ as, ∃ o, h.get? a = some o) (motive_2 := fun v d as _ => ∀ a ∈ as, ∃ o, h.get? a = some o) ?_ ?_ ?_ ?_ ?_ ?_ ?_ ?_ ?_ r
  · intro a ha; cases ha
  · intro b a ha; cases ha
  · intro i t a ha; cases ha
  · intro x t a ha; cases ha
  · intro a o vs n xs as h1 _ _ _ ih b hb
    cases hb with
    | head => exact ⟨_, h1⟩
    | tail _ hb => exact ih b hb
  · intro a o vs n xs as _ _ _ _ ih b hb
    exact ih b hb
  · intro a o es n kvs as bs h1 _ _ _ _ i1 i2 b hb
    rcases List.mem_append.mp hb with hb | hb
    · cases hb with
      | head => exact ⟨_, h1⟩
      | tail _ hb => exact i1 b hb
    · exact i2 b hb
  · intro a ha; cases ha
  · intro v vs d ds as bs _ _ i1 i2 b hb
    rcases List.mem_append.mp hb with hb | hb
    · exact i1 b hb
    · exact i2 b hb

/-- sorted(t), t a list or a tuple -/
theorem sorted_seqd {l : Addr} {T : String} {o : Obj} {n : Nat} {Q : Value → Shared → Prop} (hT : T = "list" ∨ T = "tuple") (ho : s.heap.get? l = some o) (hc : o.cls = .type T) (hd : o.data = .seq vs.toArray n)
    (e : EachIs R vs bs) (er : EachIs (fun v b => ∃ as, Reads s.heap v (enc b) as) vs bs) (hal : AllAlike (bs.map enc)) (hk : Sortable (bs.map enc)) (hL : bs.length ≤ sizeLine)
    (hu : ∀ b, b ∈ bs → A.units + 4 + (enc b).depth < cLine)
    (h : ∀ out : List Value, EachIs R out (bs.mergeSort (dataLe false enc)) → Q (.ref (s.heap.objs.size + 1)) { s with heap := sortedHeap (copyHeap s.heap vs) (s.heap.objs.size + 1) vs out.toArray }) :
    wpAny (model prog w) A (call (.builtin "sorted") [.ref l]) Q E s := by
  have hL' : vs.length ≤ sizeLine := by rw [e.length]; exact hL
  refine call_function_entry kind_sorted plain_sorted entry_sorted (args_sorted1 _) ?_
  unfold Builtin.«sorted»
  refine wpAny_bind (m := checkCount "sorted" 1 1 _) (wpAny_pure ?_)
  refine wpAny_bind (gather hT ho hc hd hL' ?_)
  refine wpAny_bind (wpAny_newList ?_ hL')
  have hsz : ((s.heap.push (seqObj "list" #[] 0)).update s.heap.objs.size (Obj.mapSeq (· ++ vs.toArray))).objs.size = s.heap.objs.size + 1 := by
    rw [Heap.size_update, size_push']
  show wpAny _ _ _ _ _ { s with heap := copyHeap s.heap vs }
  rw [hsz]
  have at1 := copyHeap_at s.heap vs
  have er1 : EachIs (fun v b => ∃ as, Reads (copyHeap s.heap vs) v (enc b) as ∧ s.heap.objs.size + 1 ∉ as) vs bs := by
    refine EachIs.mono (R := fun v b => ∃ as, Reads s.heap v (enc b) as) (fun v b h => ?_) er
    obtain ⟨as, r⟩ := h
    refine ⟨as, PyProof.Rows.Reads.keeps (fun _ _ => copyHeap_old) r, fun ha => ?_⟩
    obtain ⟨ob, hob⟩ := reads_there _ _ _ r _ ha
    exact absurd (Heap.lt_size hob) (Nat.not_lt_of_le (Nat.le_succ _))
  refine wpAny_bind (wpAny_holding ?_)
  refine list_sort_data (A := A.in1) (s := { s with heap := copyHeap s.heap vs }) (R := R) (enc := enc) (bs := bs) (vs := vs) at1 e er1 hal hk hL ?_ ?_
  · intro b hb
    have := hu b hb
    show A.units + 1 + 1 + (enc b).depth < cLine
    omega
  · intro out hl he
    exact wpAny_pure ⟨_, rfl, h out he⟩
end
end Wf
namespace Wf
open PySem PySem.Spec PyProof.Rows L2

/-! ### sorted, by data -/
/-- things with the data that they are -/
abbrev VD := V × PyData
def leD : VD → VD → Bool := PySem.W.dataLe false (fun p : VD => p.2)
def firsts (ps : List VD) : List V := ps.map (·.1)
def rSortD (K : PySem.W.Frag) : List V → Hp → VK → Prop := fun xs H Q => ∃ (a : Addr) (ps : List VD), xs = [.ref a] ∧ (SqL K H a (firsts ps) ∨ SqT K H a (firsts ps)) ∧ (∀ p ∈ ps, Dp K H p.1 p.2) ∧
  PySem.W.AllAlike (ps.map (·.2)) ∧ PySem.W.Sortable (ps.map (·.2)) ∧ (∀ p ∈ ps, p.2.depth ≤ 20) ∧ ∀ l, H l = none → Q (.ref l) (upd H l (.lst (firsts (ps.mergeSort leD))))

theorem each_of_vals {R : Value → VD → Prop} : ∀ {ps : List VD} {us : List Value}, Vals (firsts ps) us → (∀ p ∈ ps, ∀ u, RelV p.1 u → R u p) → PySem.W.EachIs R us ps
  | [], _, r, _ => by
    cases r
    exact .nil
  | p :: ps, _, r, h => by
    cases r with
    | cons r1 r2 => exact .cons (h p List.mem_cons_self _ r1) (each_of_vals r2 fun q hq => h q (List.mem_cons_of_mem _ hq))
theorem vals_of_each : ∀ {ps : List VD} {us : List Value}, PySem.W.EachIs (fun u (p : VD) => RelV p.1 u) us ps → Vals (firsts ps) us
  | _, _, .nil => .nil
  | _, _, .cons a b => .cons a (vals_of_each b)
theorem vals_of_strs : ∀ {zs : List Str} {us : List Value}, PySem.W.EachIs (fun u (z : Str) => RelV (.str z) u) us zs → Vals (zs.map V.str) us
  | _, _, .nil => .nil
  | _, _, .cons a b => .cons a (vals_of_strs b)
theorem each_of_strs : ∀ {zs : List Str} {us : List Value}, Vals (zs.map V.str) us → PySem.W.EachIs (fun u (z : Str) => RelV (.str z) u) us zs
  | [], _, r => by
    cases r
    exact .nil
  | z :: zs, _, r => by
    cases r with
    | cons r1 r2 => exact .cons r1 (each_of_strs r2)

section
variable {X : Cx}
theorem cr_sortD (hu : X.A.units + 64 < cLine) : CallR X (.builtin "sorted") (rSortD X.K) := by
  intro pins s σ H xs us Q I r h
  obtain ⟨a, ps, rfl, hs, hdp, hal, hsb, hdd, q⟩ := h
  obtain ⟨u, rfl, rx⟩ := vals1 r
  cases rx
  have got : ∃ (its : List Value) (T : String) (o : Obj) (n : Nat), Vals (firsts ps) its ∧ (T = "list" ∨ T = "tuple") ∧ s.heap.get? a = some o ∧ o.cls = .type T ∧ o.data = .seq its.toArray n ∧ (firsts ps).length ≤ sizeLine := by
    rcases hs with hs | hs
    · obtain ⟨its, rv, pl, hz⟩ := I.list hs
      obtain ⟨o, ho, hc, n, hd⟩ := pl.isList
      exact ⟨its, "list", o, n, rv, .inl rfl, ho, hc, hd, hz⟩
    · obtain ⟨its, rv, pl, hz⟩ := I.tuple hs
      obtain ⟨o, ho, hc, n, hd⟩ := pl
      exact ⟨its, "tuple", o, n, rv, .inr rfl, ho, hc, hd, hz⟩
  obtain ⟨its, T, o, n, rv, hT, ho, hc, hd, hz⟩ := got
  have hps : ps.length ≤ sizeLine := by
    unfold firsts at hz
    rw [List.length_map] at hz
    exact hz
  refine sorted_seqd (R := fun u (p : VD) => RelV p.1 u) (enc := fun p : VD => p.2) hT ho hc hd (each_of_vals rv fun p _ u z => z) (each_of_vals rv fun p hp u z => Dp.reads I p.2 p.1 u (hdp p hp) z) hal hsb hps
    (fun b hb => by have := hdd b hb; omega) fun out he => ?_
  have rv2 := vals_of_each he
  obtain ⟨ep, hat⟩ := PyProof.Rows.sortedHeap_at (h := PySem.W.copyHeap s.heap its) (a := s.heap.objs.size + 1) (vs := its) (out := out.toArray) (PySem.W.copyHeap_at s.heap its)
  have hlen : (firsts (ps.mergeSort leD)).length ≤ sizeLine := by
    unfold firsts
    rw [List.length_map, List.length_mergeSort]
    exact hps
  have old : ∀ b ob, s.heap.get? b = some ob → (sortedHeap (PySem.W.copyHeap s.heap its) (s.heap.objs.size + 1) its out.toArray).get? b = some ob := fun b ob e => by
    have hlt := Heap.lt_size e
    have e1 := PySem.W.copyHeap_old (vs := its) e
    rw [PyProof.Rows.sortedHeap_old (Nat.ne_of_lt (Nat.lt_succ_of_lt hlt)) (Heap.lt_size e1)]
    exact e1
  exact ⟨.ref _, upd H (s.heap.objs.size + 1) (.lst (firsts (ps.mergeSort leD))), I.laid (t' := s.toks) old (Nat.le_succ _) ⟨hlen, out, ep, rv2, hat⟩, rfl, q _ (I.hok.fresh (Nat.le_succ _))⟩

/-- sorted(e, key=len), of a list of texts -/
def leLen : Str → Str → Bool := PySem.W.dataLe false (fun z : Str => PyData.int (z.length : Int))
def tSortLen (K : PySem.W.Frag) (t : TA) : TE := fun σ H Q => t σ H fun xs H1 => ∃ (a : Addr) (zs : List Str), xs = [.ref a] ∧ SqL K H1 a (zs.map V.str) ∧ (∀ z ∈ zs, z.length ≤ sizeLine) ∧ ∀ l, H1 l = none → Q (.ref l) (upd H1 l (.lst ((zs.mergeSort leLen).map V.str)))
theorem run_sortLen {pins : List (Addr × Obj)} {σ : L2.St} {H : Hp} {s : Shared} {a : Addr} {zs : List Str} {Q : VK} (I : Inv X pins σ H s) (hu : X.A.units + 64 < cLine) (hs : SqL X.K H a (zs.map V.str)) (hz : ∀ z ∈ zs, z.length ≤ sizeLine)
    (q : ∀ l, H l = none → Q (.ref l) (upd H l (.lst ((zs.mergeSort leLen).map V.str)))) : wpAny (model X.prog X.w) X.A (call (.builtin "sorted") [.ref a] [(Str.ofString "key", .builtin "len")]) (EP X pins σ Q) X.xe s := by
  obtain ⟨its, rv, pl, hzl⟩ := I.list hs
  rw [List.length_map] at hzl
  refine PySem.W.sorted_key_data (R := fun u (z : Str) => RelV (.str z) u) (b := false) (f := .builtin "len") (fun z : Str => PyData.int (z.length : Int)) pl.isList (each_of_strs rv) (PySem.W.AllAlike.of fun b b' => rfl)
    (PySem.W.Sortable.others fun b => ⟨(fun h => by cases h), (fun xs h => by cases h)⟩) hzl (fun x _ => by show X.A.units + 2 + 0 < cLine; omega) (PyProof.Rows.ksk_s1 _ _) (fun _ => PyProof.Rows.ksk_l1 _ _) (fun x => PyProof.Rows.ksk_t4 "len" x)
    (fun v x r hx h tk k => ?_) fun out c h' tk k nf hat hl he => ?_
  · obtain ⟨t, rfl⟩ := r
    have hx2 := hz x hx
    rw [sizeLine_eq] at hx2
    exact PySem.P.len_str (by omega) ⟨h, _, rfl, fun _ _ z => z, Reads.int _ _⟩
  · have rv2 := vals_of_strs he
    exact ⟨.ref _, upd H (s.heap.objs.size + 1) (.lst ((zs.mergeSort leLen).map V.str)), I.laid (t' := tk) k (Nat.le_succ _) ⟨by rw [List.length_map, List.length_mergeSort]; exact hzl, out, c, rv2, hat⟩, rfl, q _ (I.hok.fresh (Nat.le_succ _))⟩
theorem pe_sortLen {e : Expr} {t : TA} {p lp kp pos : Pos} (ha : PA X [e] t) (hu : X.A.units + 64 < cLine) (hg : Gl X "sorted") (hm : X.mg "sorted" = none) (hgl : Gl X "len") (hml : X.mg "len" = none)
    (h1 : backTo pos (starEach [e] X.env) = (false, eval e X.env) :: backTo pos (starEach [] X.env) := by rfl)
    (hall : (backToKw pos (keywordEach [⟨some "key", .Name "len" lp, kp⟩] X.env)).all (·.1.isSome) = true := by rfl) (hnone : (backToKw pos (keywordEach [⟨some "key", .Name "len" lp, kp⟩] X.env)).any (·.1.isNone) = false := by rfl)
    (hpl : (backTo pos (starEach [e] X.env)).any (·.1) = false := by rfl)
    (hks : (backToKw pos (keywordEach [⟨some "key", .Name "len" lp, kp⟩] X.env)).filterMap (·.1) = [Str.ofString "key"] := by rfl) :
    PE X (.Call (.Name "sorted" p) [e] [⟨some "key", .Name "len" lp, kp⟩] pos) (tSortLen X.K t) := by
  refine ⟨fun pins s σ H Q I h => ?_⟩
  refine wpAny_Call_Name_kw (ld_blt I hg hm (by decide +kernel : bootBuiltins "sorted" = some (.builtin "sorted")) ?_ (by decide) (by decide))
  refine PyProof.Rows.callWith_kw ?_ h1 hpl hall hnone
  refine thn (ha.run pos pins s σ H _ I h) fun us s1 got => ?_
  obtain ⟨vs, H1, I1, r, a, zs, rfl, hs, hz, q⟩ := got
  obtain ⟨u, rfl, rx⟩ := vals1 r
  cases rx
  show wpAny _ _ (evalAll [(do let v ← eval (.Name "len" lp) X.env; standAt pos; pure v)]) _ _ s1
  refine wpAny_evalAll_cons (wpAny_bind (ld_blt I1 hgl hml PySem.boot_len ?_ (by decide) (by decide)))
  refine wpAny_bind (wpAny_standAt (wpAny_pure ?_))
  refine wpAny_evalAll_nil ?_
  rw [hks]
  exact run_sortLen I1 hu hs hz q
end
end Wf
namespace Wf
open PySem PySem.Spec PyProof.Rows L2

/-! ### data -/
theorem lay_all : ∀ {ds : List PyData}, (∀ d ∈ ds, d.canLay0 = true) → PyData.canLayAll0 ds = true
  | [], _ => rfl
  | d :: ds, h => by
    show (PyData.canLay0 d && PyData.canLayAll0 ds) = true
    rw [h d List.mem_cons_self, lay_all fun x hx => h x (List.mem_cons_of_mem _ hx)]
    rfl
theorem dep_all {n : Nat} : ∀ {ds : List PyData}, (∀ d ∈ ds, d.depth ≤ n) → PyData.depthAll ds ≤ n
  | [], _ => Nat.zero_le _
  | d :: ds, h => by
    show max (PyData.depth d) (PyData.depthAll ds) ≤ n
    exact Nat.max_le.mpr ⟨h d List.mem_cons_self, dep_all fun x hx => h x (List.mem_cons_of_mem _ hx)⟩
/-- plain data: it can be laid, of small depth -/
def Pl (n : Nat) (d : PyData) : Prop := d.canLay0 = true ∧ d.depth ≤ n
theorem Pl.mono {n m : Nat} {d : PyData} (h : Pl n d) (e : n ≤ m) : Pl m d := ⟨h.1, Nat.le_trans h.2 e⟩
theorem pl_none {n : Nat} : Pl n .none := ⟨rfl, Nat.zero_le _⟩
theorem pl_bool {n : Nat} {b : Bool} : Pl n (.bool b) := ⟨rfl, Nat.zero_le _⟩
theorem pl_int {n : Nat} {i : Int} : Pl n (.int i) := ⟨rfl, Nat.zero_le _⟩
theorem pl_str {n : Nat} {x : Str} (h : PyData.strOk x = true) : Pl n (.str x) := ⟨h, Nat.zero_le _⟩
theorem pl_list {n : Nat} {ds : List PyData} (h : ∀ d ∈ ds, Pl n d) : Pl (n + 1) (.list ds) := ⟨lay_all fun d hd => (h d hd).1, Nat.succ_le_succ (dep_all fun d hd => (h d hd).2)⟩
theorem pl_tup {n : Nat} {ds : List PyData} (h : ∀ d ∈ ds, Pl n d) : Pl (n + 1) (.tuple ds) := ⟨lay_all fun d hd => (h d hd).1, Nat.succ_le_succ (dep_all fun d hd => (h d hd).2)⟩
theorem Pl.shaped {n : Nat} {d : PyData} (h : Pl n d) (e : n ≤ 64 := by decide) : SeqAt.shaped d = true := by
  show (d.canLay0 && decide (d.depth ≤ 64)) = true
  rw [h.1, decide_eq_true (Nat.le_trans h.2 e)]
  rfl
theorem eqv_nil {ds : List PyData} : PyData.eqv (.list ds) (.list []) = ds.isEmpty := by
  cases ds <;> rfl
section
variable {K : PySem.W.Frag} {H H' : Hp}
theorem dpAll_of {α : Type} {f : α → V} {g : α → PyData} : ∀ {xs : List α}, (∀ x ∈ xs, Dp K H (f x) (g x)) → DpAll K H (xs.map f) (xs.map g)
  | [], _ => .nil
  | x :: xs, h => .cons (h x List.mem_cons_self) (dpAll_of fun y hy => h y (List.mem_cons_of_mem _ hy))
theorem dpAll_ints {ns : List Int} : DpAll K H (ns.map V.int) (ns.map PyData.int) := dpAll_of fun i _ => .int i
theorem dpAll_strs {zs : List Str} : DpAll K H (zs.map V.str) (zs.map PyData.str) := dpAll_of fun z _ => .str z
theorem rd_keep {a : Addr} {u : HO} (k : ∀ o, H a = some o → H' a = some o) (h : Rd H a u) : Rd H' a u := by
  rcases h with h | ⟨o, h⟩
  · exact .inl (k _ h)
  · exact .inr ⟨o, k _ h⟩
end
/-- xs == [], xs != [] -/
theorem ints_ne {X : Cx} {H : Hp} {a l : Addr} {ns : List Int} {Q : VK} (h : SqL X.K H a (ns.map V.int)) (hl : SqL X.K H l []) (q : Q (.bl (!ns.isEmpty)) H) : rNeD X.K (.ref a) (.ref l) H Q :=
  ⟨.list (ns.map PyData.int), .list [], .lst h dpAll_ints, .lst hl .nil, (pl_list (n := 0) fun d hd => by
    obtain ⟨i, _, rfl⟩ := List.mem_map.mp hd
    exact pl_int).shaped, (pl_list (n := 0) fun d hd => by cases hd).shaped, by rw [eqv_nil]; simpa using q⟩
end Wf
namespace Wf
open PySem L2
/-! ### a def of the text, to be called by its name -/
structure Dn (P : Program) (w : World) (K : PySem.W.Frag) (mg : Str → Option Value) (base : Heap) (k : Nat) (x : Str) (ps : List Str) (sp : Sp) : Prop where
  ex : ∃ (f : Addr) (fd : FuncData), FnOk P w K mg base CX0 k f fd ps sp ∧ mg x = some (.ref f) ∧ PySem.W.keepIn K (.ref f) = true ∧ Binds K fd ps []
structure DnG (P : Program) (w : World) (K : PySem.W.Frag) (mg : Str → Option Value) (base : Heap) (k : Nat) (x : Str) (ps : List Str) (sp : Sp) : Prop where
  ex : ∃ (f : Addr) (fd : FuncData), FnG P w K mg base CX0 k f fd ps sp ∧ mg x = some (.ref f) ∧ PySem.W.keepIn K (.ref f) = true ∧ Binds K fd ps []
section
variable {X : Cx} {k : Nat} {x : Str} {ps : List Str} {sp : Sp} {p pos : Pos} {e : Expr} {es : List Expr} {t : TA}
theorem pe_cl (D : Dn X.prog X.w X.K X.mg X.base k x ps sp) (hr : Room k X.A) (ha : PA X (e :: es) t) (hg : Gl X x := by rfl) (hdb : (x == ("__debug__" : Str)) = false := by decide)
    (he : starEach (e :: es) X.env = (false, eval e X.env) :: starEach es X.env := by rfl) (hpl : (backTo pos (starEach es X.env)).any (·.1) = false := by rfl) : PE X (.Call (.Name x p) (e :: es) [] pos) (tCall sp [] E0 t) :=
  let ⟨_, _, F, hm, hk, hb⟩ := D.ex
  pe_call F hr hg hm hk hb .nil pass0 ha hdb he hpl
theorem pe_clG (D : DnG X.prog X.w X.K X.mg X.base k x ps sp) (hq : Qt X.A) (hr : Room k X.A) (ha : PA X (e :: es) t) (hg : Gl X x := by rfl) (hdb : (x == ("__debug__" : Str)) = false := by decide)
    (he : starEach (e :: es) X.env = (false, eval e X.env) :: starEach es X.env := by rfl) (hpl : (backTo pos (starEach es X.env)).any (·.1) = false := by rfl) : PE X (.Call (.Name x p) (e :: es) [] pos) (tCall sp [] E0 t) :=
  let ⟨_, _, F, hm, hk, hb⟩ := D.ex
  pe_callG F hq hr hg hm hk hb .nil pass0 ha hdb he hpl
end

/-! ### the pen -/
def penO (c : Addr) (sp mo : Int) : HO := .dK [(.inr "cells", .ref c), (.inr "spot", .int sp), (.inr "more", .int mo)]
/-- a pen at p that has drawn at most n times -/
def Pen (H : Hp) (p c : Addr) (n : Nat) : Prop := ∃ (ns : List Int) (sp mo : Int), H p = some (penO c sp mo) ∧ H c = some (.lst (ns.map V.int)) ∧ ns.length ≤ 63 ∧ 0 ≤ sp ∧ sp ≤ n ∧ 0 ≤ mo
/-- nothing but p has changed -/
def But (p : Addr) (H H' : Hp) : Prop := ∀ b o, b ≠ p → H b = some o → H' b = some o

theorem pen_c {c : Addr} {sp mo : Int} : valV [((.inr "cells" : Key), V.ref c), (.inr "spot", .int sp), (.inr "more", .int mo)] (.inr "cells") = some (.ref c) := by rfl
theorem pen_s {c : Addr} {sp mo : Int} : valV [((.inr "cells" : Key), V.ref c), (.inr "spot", .int sp), (.inr "more", .int mo)] (.inr "spot") = some (.int sp) := by rfl
theorem pen_m {c : Addr} {sp mo : Int} : valV [((.inr "cells" : Key), V.ref c), (.inr "spot", .int sp), (.inr "more", .int mo)] (.inr "more") = some (.int mo) := by rfl
theorem pen_ps {c : Addr} {sp mo z : Int} : putK [((.inr "cells" : Key), V.ref c), (.inr "spot", .int sp), (.inr "more", .int mo)] (.inr "spot") (.int z) = [((.inr "cells" : Key), V.ref c), (.inr "spot", .int z), (.inr "more", .int mo)] := by rfl
theorem pen_pm {c : Addr} {sp mo z : Int} : putK [((.inr "cells" : Key), V.ref c), (.inr "spot", .int sp), (.inr "more", .int mo)] (.inr "more") (.int z) = [((.inr "cells" : Key), V.ref c), (.inr "spot", .int sp), (.inr "more", .int z)] := by rfl
theorem getC {H : Hp} {p c : Addr} {sp mo : Int} (h : H p = some (penO c sp mo)) : DGet H p (.str "cells") (some (.ref c)) := by
  have e := DGet.k (k := .inr "cells") h
  rw [pen_c] at e
  exact e
theorem getS {H : Hp} {p c : Addr} {sp mo : Int} (h : H p = some (penO c sp mo)) : DGet H p (.str "spot") (some (.int sp)) := by
  have e := DGet.k (k := .inr "spot") h
  rw [pen_s] at e
  exact e
theorem getM {H : Hp} {p c : Addr} {sp mo : Int} (h : H p = some (penO c sp mo)) : DGet H p (.str "more") (some (.int mo)) := by
  have e := DGet.k (k := .inr "more") h
  rw [pen_m] at e
  exact e
theorem setS {H : Hp} {p c : Addr} {sp mo : Int} (z : Int) (h : H p = some (penO c sp mo)) : DPut H p (.str "spot") (.int z) (upd H p (penO c z mo)) := by
  have e := DPut.k (k := .inr "spot") (v := .int z) h (by show 3 < sizeLine; decide)
  rw [pen_ps] at e
  exact e
theorem setM {H : Hp} {p c : Addr} {sp mo : Int} (z : Int) (h : H p = some (penO c sp mo)) : DPut H p (.str "more") (.int z) (upd H p (penO c sp z)) := by
  have e := DPut.k (k := .inr "more") (v := .int z) h (by show 3 < sizeLine; decide)
  rw [pen_pm] at e
  exact e
theorem atI_in {α : Type} {xs : List α} {i : Int} (h0 : 0 ≤ i) (h1 : i < (xs.length : Int)) : ∃ y, atI xs i = some y := by
  obtain ⟨j, rfl⟩ := Int.eq_ofNat_of_zero_le h0
  exact ⟨_, atI_nat (List.getElem?_eq_getElem (by omega))⟩
theorem atI_ints {ns : List Int} {i : Int} (h0 : 0 ≤ i) (h1 : i < ((ns.map V.int).length : Int)) : ∃ z : Int, atI (ns.map V.int) i = some (.int z) := by
  obtain ⟨j, rfl⟩ := Int.eq_ofNat_of_zero_le h0
  rw [List.length_map] at h1
  exact ⟨ns[j]'(by omega), atI_nat (by rw [List.getElem?_map, List.getElem?_eq_getElem (by omega)]; rfl)⟩
theorem bnd {z m : Int} (h : 0 < m) (h2 : m < 2 ^ 64) : -(2 ^ 64) < z % m ∧ z % m < 2 ^ 64 := by
  have h3 := Int.emod_nonneg z (show m ≠ 0 by omega)
  have h4 := Int.emod_lt_of_pos z h
  omega
theorem lim {z : Int} (h : 0 ≤ z) (h2 : z < 2 ^ 64) : -(2 ^ 64) < z ∧ z < 2 ^ 64 := by omega
def spPen (K : PySem.W.Frag) : Sp := fun vs H Q _ => ∃ (a : Addr) (ns : List Int), vs = [.ref a] ∧ SqL K H a (ns.map V.int) ∧ ns.length ≤ 63 ∧ ∀ p c H', Same H H' → H p = none → Pen H' p c 0 → Q (.ref p) H'
def spDraw : Sp := fun vs H Q _ => ∃ (p c : Addr) (n : Nat) (many : Int), vs = [.ref p, .int many] ∧ Pen H p c n ∧ n ≤ 1000000 ∧ 0 < many ∧ many < 1000000 ∧
  ∀ (d : Int) (H' : Hp), 0 ≤ d → d < many → But p H H' → Pen H' p c (n + 1) → Q (.int d) H'


/-! ### data as the heap grows -/
theorem sm1 {H : Hp} {l : Addr} {o : HO} (h : H l = none) : Same H (upd H l o) := fun b u e => by
  rw [upd_ne (ne_of_none e h)]
  exact e
/-- what was not there may be written -/
theorem swr {H H' : Hp} {l : Addr} {o : HO} (s : Same H H') (h : H l = none) : Same H (upd H' l o) := fun b u e => by
  rw [upd_ne (ne_of_none e h)]
  exact s b u e
theorem But.refl (p : Addr) (H : Hp) : But p H H := fun _ _ _ h => h
theorem But.trans {p : Addr} {H H1 H2 : Hp} (a : But p H H1) (b : But p H1 H2) : But p H H2 := fun x o n h => b x o n (a x o n h)
theorem But.of {p : Addr} {H H' : Hp} (s : Same H H') : But p H H' := fun b o _ h => s b o h
theorem But.new {p l : Addr} {o : HO} {H H' : Hp} (b : But p H H') (h : H l = none) : But p H (upd H' l o) := fun x u n e => by
  rw [upd_ne (ne_of_none e h)]
  exact b x u n e
theorem But.same {p : Addr} {H H1 H2 : Hp} (a : But p H H1) (b : Same H1 H2) : But p H H2 := fun x o n h => b x o (a x o n h)
theorem Pen.at {H : Hp} {p c : Addr} {n : Nat} (h : Pen H p c n) : ∃ kvs, H p = some (.dK kvs) := let ⟨_, _, _, e, _⟩ := h; ⟨_, e⟩
/-- the pen stays where neither of its places is touched -/
theorem Pen.keep {H H' : Hp} {p c : Addr} {n : Nat} (h : Pen H p c n) (s : ∀ b o, b = p ∨ b = c → H b = some o → H' b = some o) : Pen H' p c n := let ⟨ns, sp, mo, e1, e2, r⟩ := h; ⟨ns, sp, mo, s _ _ (.inl rfl) e1, s _ _ (.inr rfl) e2, r⟩
theorem Pen.cell {H : Hp} {p c : Addr} {n : Nat} (h : Pen H p c n) : ∃ xs, H c = some (.lst xs) := let ⟨_, _, _, _, e, _⟩ := h; ⟨_, e⟩
theorem Pen.same {H H' : Hp} {p c : Addr} {n : Nat} (h : Pen H p c n) (s : Same H H') : Pen H' p c n := let ⟨ns, sp, mo, e1, e2, r⟩ := h; ⟨ns, sp, mo, s _ _ e1, s _ _ e2, r⟩
/-- a new object is none of the pen's -/
theorem Pen.off {H : Hp} {p c l : Addr} {n : Nat} (h : Pen H p c n) (hl : H l = none) : l ≠ p ∧ l ≠ c := by
  obtain ⟨kvs, e⟩ := h.at
  obtain ⟨xs, e2⟩ := h.cell
  refine ⟨fun z => ?_, fun z => ?_⟩
  · rw [z, e] at hl
    cases hl
  · rw [z, e2] at hl
    cases hl
/-- another list is written -/
theorem Pen.wr {H : Hp} {p c l : Addr} {n : Nat} {o : HO} (h : Pen H p c n) (n1 : l ≠ p) (n2 : l ≠ c) : Pen (upd H l o) p c n := h.keep fun b u hb e => by
  have : b ≠ l := by
    rcases hb with rfl | rfl
    · exact n1.symm
    · exact n2.symm
  rw [upd_ne this]
  exact e
theorem Pen.up {H : Hp} {p c : Addr} {n m : Nat} (h : Pen H p c n) (e : n ≤ m) : Pen H p c m := let ⟨ns, sp, mo, e1, e2, a1, a2, a3, a4⟩ := h; ⟨ns, sp, mo, e1, e2, a1, a2, by omega, a4⟩
/-- a fresh place is fresh before -/
theorem But.free {p l c : Addr} {n : Nat} {H H' : Hp} (b : But p H H') (hp : Pen H' p c n) (h : H' l = none) : H l = none := by
  cases q : H l with
  | none => rfl
  | some o =>
    obtain ⟨kvs, e⟩ := hp.at
    have ne : l ≠ p := fun z => by rw [z, e] at h; cases h
    rw [b l o ne q] at h
    cases h
theorem pen_ne {H : Hp} {p a c : Addr} {n : Nat} {o : HO} (hp : Pen H p c n) (h : H a = some o) (d : ∀ kvs, o ≠ .dK kvs) : a ≠ p := fun z => by
  obtain ⟨kvs, e⟩ := hp.at
  rw [z, e] at h
  exact d kvs (Option.some.inj h).symm
theorem But.sql {K : PySem.W.Frag} {H H' : Hp} {p a c : Addr} {n : Nat} {xs : List V} (b : But p H H') (hp : Pen H p c n) (h : SqL K H a xs) : SqL K H' a xs := by
  rcases h with (h | ⟨o, h⟩) | h
  · exact .inl (.inl (b _ _ (pen_ne hp h fun _ z => by cases z) h))
  · exact .inl (.inr ⟨o, b _ _ (pen_ne hp h fun _ z => by cases z) h⟩)
  · exact .inr h
theorem But.sqt {K : PySem.W.Frag} {H H' : Hp} {p a c : Addr} {n : Nat} {xs : List V} (b : But p H H') (hp : Pen H p c n) (h : SqT K H a xs) : SqT K H' a xs := by
  rcases h with (h | ⟨o, h⟩) | h
  · exact .inl (.inl (b _ _ (pen_ne hp h fun _ z => by cases z) h))
  · exact .inl (.inr ⟨o, b _ _ (pen_ne hp h fun _ z => by cases z) h⟩)
  · exact .inr h
/-- what is read stays -/
structure Stay (K : PySem.W.Frag) (H H' : Hp) : Prop where
  l : ∀ a xs, SqL K H a xs → SqL K H' a xs
  t : ∀ a xs, SqT K H a xs → SqT K H' a xs
theorem But.stay {K : PySem.W.Frag} {H H' : Hp} {p c : Addr} {n : Nat} (b : But p H H') (hp : Pen H p c n) : Stay K H H' := ⟨fun _ _ h => b.sql hp h, fun _ _ h => b.sqt hp h⟩
theorem Stay.of {K : PySem.W.Frag} {H H' : Hp} (s : Same H H') : Stay K H H' := ⟨fun a xs h => s.seq h, fun a xs h => by
  rcases h with (h | ⟨o, h⟩) | h
  · exact .inl (.inl (s _ _ h))
  · exact .inl (.inr ⟨o, s _ _ h⟩)
  · exact .inr h⟩
theorem Stay.refl {K : PySem.W.Frag} {H : Hp} : Stay K H H := ⟨fun _ _ h => h, fun _ _ h => h⟩
theorem Stay.trans {K : PySem.W.Frag} {H H1 H2 : Hp} (a : Stay K H H1) (b : Stay K H1 H2) : Stay K H H2 := ⟨fun x xs h => b.l x xs (a.l x xs h), fun x xs h => b.t x xs (a.t x xs h)⟩
mutual
theorem Stay.dp {K : PySem.W.Frag} {H H' : Hp} (s : Stay K H H') : ∀ {d : PyData} {v : V}, Dp K H v d → Dp K H' v d
  | .none, _, h => by
    cases h
    exact .non
  | .bool _, _, h => by
    cases h
    exact .bl _
  | .int _, _, h => by
    cases h
    exact .int _
  | .str _, _, h => by
    cases h
    exact .str _
  | .list ds, _, h => by
    cases h with
    | lst q a => exact .lst (s.l _ _ q) (s.dpAll a)
  | .tuple ds, _, h => by
    cases h with
    | tup q a => exact .tup (s.t _ _ q) (s.dpAll a)
  | .dict _, _, h => by cases h
theorem Stay.dpAll {K : PySem.W.Frag} {H H' : Hp} (s : Stay K H H') : ∀ {ds : List PyData} {vs : List V}, DpAll K H vs ds → DpAll K H' vs ds
  | [], _, h => by
    cases h
    exact .nil
  | d :: ds, _, h => by
    cases h with
    | cons a b => exact .cons (s.dp a) (s.dpAll b)
end
/-- things that are plain data -/
def Dat (K : PySem.W.Frag) (H : Hp) (xs : List V) : Prop := ∀ x ∈ xs, ∃ d, Dp K H x d ∧ Pl 60 d
theorem Dat.all {K : PySem.W.Frag} {H : Hp} : ∀ {xs : List V}, Dat K H xs → ∃ ds, DpAll K H xs ds ∧ ds.length = xs.length ∧ ∀ d ∈ ds, Pl 60 d
  | [], _ => ⟨[], .nil, rfl, fun d hd => by cases hd⟩
  | x :: xs, h => by
    obtain ⟨d, h1, h2⟩ := h x List.mem_cons_self
    obtain ⟨ds, h3, h4, h5⟩ := Dat.all (xs := xs) fun y hy => h y (List.mem_cons_of_mem _ hy)
    refine ⟨d :: ds, .cons h1 h3, congrArg (· + 1) h4, fun e he => ?_⟩
    rcases List.mem_cons.mp he with rfl | he
    · exact h2
    · exact h5 e he
theorem Dat.stay {K : PySem.W.Frag} {H H' : Hp} {xs : List V} (h : Dat K H xs) (s : Stay K H H') : Dat K H' xs := fun x hx => let ⟨d, a, b⟩ := h x hx; ⟨d, s.dp a, b⟩
theorem Dat.sub {K : PySem.W.Frag} {H : Hp} {xs ys : List V} (h : Dat K H xs) (s : ∀ y ∈ ys, y ∈ xs) : Dat K H ys := fun y hy => h y (s y hy)
theorem empty_iff {α β : Type} {xs : List α} {ys : List β} (h : ys.length = xs.length) : ys.isEmpty = xs.isEmpty := by
  cases xs <;> cases ys <;> simp_all
/-- xs != [] -/
theorem data_ne {X : Cx} {H : Hp} {a l : Addr} {xs : List V} {Q : VK} (h : SqL X.K H a xs) (dt : Dat X.K H xs) (hl : SqL X.K H l []) (q : Q (.bl (!xs.isEmpty)) H) : rNeD X.K (.ref a) (.ref l) H Q := by
  obtain ⟨ds, h1, h2, h3⟩ := dt.all
  refine ⟨.list ds, .list [], .lst h h1, .lst hl .nil, (pl_list h3).shaped, (pl_list (n := 0) fun d hd => by cases hd).shaped, ?_⟩
  rw [eqv_nil, empty_iff h2]
  exact q
theorem data_eq {X : Cx} {H : Hp} {a l : Addr} {xs : List V} {Q : VK} (h : SqL X.K H a xs) (dt : Dat X.K H xs) (hl : SqL X.K H l []) (q : Q (.bl xs.isEmpty) H) : rEqD X.K (.ref a) (.ref l) H Q := by
  obtain ⟨ds, h1, h2, h3⟩ := dt.all
  refine ⟨.list ds, .list [], .lst h h1, .lst hl .nil, (pl_list h3).shaped, (pl_list (n := 0) fun d hd => by cases hd).shaped, ?_⟩
  rw [eqv_nil, empty_iff h2]
  exact q
end Wf
namespace Wf
open PySem PySem.Spec PyProof.Rows L2
mutual
/-- no more signs than these are shown -/
def cost : PyData → Nat
  | .none => 5
  | .bool _ => 5
  | .int i => (PyData.int i).shown.length
  | .str x => 10 * x.length + 2
  | .list xs => costs xs + 3
  | .tuple xs => costs xs + 3
  | .dict kvs => (PyData.dict kvs).shown.length
def costs : List PyData → Nat
  | [] => 0
  | x :: xs => cost x + 2 + costs xs
end
theorem shownAll_map : ∀ xs : List PyData, PyData.shownAll xs = xs.map PyData.shown
  | [] => rfl
  | x :: xs => by
    show PyData.shown x :: PyData.shownAll xs = _
    rw [shownAll_map xs]
    rfl
mutual
theorem shown_le : ∀ d : PyData, d.canLay0 = true → d.shown.length ≤ cost d
  | .none, _ => by decide +kernel
  | .bool b, _ => by cases b <;> decide +kernel
  | .int i, _ => by
    show _ ≤ (PyData.int i).shown.length
    exact Nat.le_refl _
  | .str x, h => by
    show (reprText x).length ≤ 10 * x.length + 2
    refine StrLaws.reprText_len x fun c hc => ?_
    have h2 : x.cps.all (· < 0x110000) = true := h
    rw [← Array.all_toList, List.all_eq_true] at h2
    have := h2 c hc
    have := of_decide_eq_true this
    omega
  | .list xs, h => by
    show (listText (PyData.shownAll xs)).length ≤ costs xs + 3
    have h1 := listText_len_le (PyData.shownAll xs)
    have h2 := showns_le xs h
    omega
  | .tuple xs, h => by
    show (tupleText (PyData.shownAll xs)).length ≤ costs xs + 3
    have h1 := tupleText_len_le (PyData.shownAll xs)
    have h2 := showns_le xs h
    omega
  | .dict kvs, _ => by
    show _ ≤ (PyData.dict kvs).shown.length
    exact Nat.le_refl _
theorem showns_le : ∀ xs : List PyData, PyData.canLayAll0 xs = true → ((PyData.shownAll xs).map (·.length)).sum + 2 * (PyData.shownAll xs).length ≤ costs xs
  | [], _ => Nat.le_refl _
  | x :: xs, h => by
    have h' : (PyData.canLay0 x && PyData.canLayAll0 xs) = true := h
    have h1 := shown_le x (Bool.and_eq_true_iff.mp h').1
    have h2 := showns_le xs (Bool.and_eq_true_iff.mp h').2
    show ((PyData.shown x :: PyData.shownAll xs).map (·.length)).sum + 2 * (PyData.shown x :: PyData.shownAll xs).length ≤ cost x + 2 + costs xs
    rw [List.map_cons, List.sum_cons, List.length_cons]
    omega
end
theorem costs_le {n : Nat} : ∀ {ds : List PyData}, (∀ d ∈ ds, cost d ≤ n) → costs ds ≤ ds.length * (n + 2)
  | [], _ => Nat.zero_le _
  | d :: ds, h => by
    have h1 := h d List.mem_cons_self
    have h2 := costs_le (ds := ds) fun x hx => h x (List.mem_cons_of_mem _ hx)
    show cost d + 2 + costs ds ≤ (ds.length + 1) * (n + 2)
    rw [Nat.succ_mul]
    omega
theorem showableAll_of : ∀ {ds : List PyData}, (∀ d ∈ ds, d.showable = true) → PyData.showableAll ds = true
  | [], _ => rfl
  | d :: ds, h => by
    show (PyData.showable d && PyData.showableAll ds) = true
    rw [h d List.mem_cons_self, showableAll_of fun x hx => h x (List.mem_cons_of_mem _ hx)]
    rfl
/-- it can be shown, in so many signs -/
structure Shw (n : Nat) (d : PyData) : Prop where
  s : d.showable = true
  p : d.canLay0 = true
  dp : d.depth ≤ 60
  c : cost d ≤ n
theorem Shw.sz {n : Nat} {d : PyData} (h : Shw n d) (e : n ≤ 16777216) : d.shown.length ≤ sizeLine := by
  rw [sizeLine_eq]
  exact Nat.le_trans (shown_le d h.p) (Nat.le_trans h.c e)
theorem Shw.more {n m : Nat} {d : PyData} (h : Shw n d) (e : n ≤ m) : Shw m d := ⟨h.s, h.p, h.dp, Nat.le_trans h.c e⟩
/-- repr of what is shown -/
theorem shows {K : PySem.W.Frag} {H : Hp} {v : V} {d : PyData} {n : Nat} {Q : VK} (h : Dp K H v d) (s : Shw n d) (e : n ≤ 16777216) (q : Q (.str d.shown) H) : rRepr K [v] H Q := ⟨v, d, rfl, h, s.s, s.dp, s.sz e, q⟩
/-- words: signs that are letters, not too long -/
def Wd (m : Nat) (z : Str) : Prop := z.length ≤ m ∧ ∀ ch ∈ z.cps.toList, 97 ≤ ch ∧ ch ≤ 122
theorem Wd.ok {m : Nat} {z : Str} (h : Wd m z) : PyData.strOk z = true := by
  show z.cps.all (· < 0x110000) = true
  rw [← Array.all_toList, List.all_eq_true]
  intro ch hc
  have := h.2 ch hc
  exact decide_eq_true (by omega)
theorem shw_str {m : Nat} {z : Str} (h : Wd m z) : Shw (10 * m + 2) (.str z) := ⟨rfl, h.ok, Nat.zero_le _, by
  show 10 * z.length + 2 ≤ 10 * m + 2
  have := h.1
  omega⟩
theorem dep_map {α : Type} {f : α → PyData} {xs : List α} (h : ∀ x ∈ xs, (f x).depth ≤ 0) : PyData.depthAll (xs.map f) ≤ 0 := dep_all fun d hd => by
  obtain ⟨x, hx, rfl⟩ := List.mem_map.mp hd
  exact h x hx
theorem costs_words {m n : Nat} {zs : List Str} (h : ∀ z ∈ zs, Wd m z) (hn : zs.length ≤ n) : costs (zs.map PyData.str) ≤ n * (10 * m + 4) := by
  have h1 := costs_le (n := 10 * m + 2) (ds := zs.map PyData.str) fun d hd => by
    obtain ⟨z, hz, rfl⟩ := List.mem_map.mp hd
    exact (shw_str (h z hz)).c
  rw [List.length_map] at h1
  exact Nat.le_trans h1 (Nat.mul_le_mul_right _ hn)
theorem shw_words {m n : Nat} {zs : List Str} (h : ∀ z ∈ zs, Wd m z) (hn : zs.length ≤ n) : Shw (n * (10 * m + 4) + 3) (.list (zs.map PyData.str)) := by
  have hd : ∀ d ∈ zs.map PyData.str, ∃ z ∈ zs, d = PyData.str z := fun d hd => let ⟨z, a, b⟩ := List.mem_map.mp hd; ⟨z, a, b.symm⟩
  refine ⟨showableAll_of fun d q => ?_, lay_all fun d q => ?_, ?_, Nat.add_le_add_right (costs_words h hn) 3⟩
  · obtain ⟨z, _, rfl⟩ := hd d q
    rfl
  · obtain ⟨z, hz, rfl⟩ := hd d q
    exact (h z hz).ok
  · have := dep_map (f := PyData.str) (xs := zs) fun _ _ => Nat.le_refl 0
    show PyData.depthAll _ + 1 ≤ 60
    omega
theorem shw_wordsT {m n : Nat} {zs : List Str} (h : ∀ z ∈ zs, Wd m z) (hn : zs.length ≤ n) : Shw (n * (10 * m + 4) + 3) (.tuple (zs.map PyData.str)) :=
  let a := shw_words h hn
  ⟨a.s, a.p, a.dp, a.c⟩
end Wf
/-! the law itself: it is called where nothing is being shown -/
namespace Wf
open PySem PySem.Spec PyProof.Rows L2
/-- sys.modules is there at the start -/
abbrev Mods (h : Heap) : Prop := ∃ m, h.Ns sysModules m
section
variable {P : Program} {w : World} {K : PySem.W.Frag} {mg : Str → Option Value} {base : Heap} {k : Nat} {f : Addr} {fd : FuncData} {ps : List Str} {sp : Sp}
/-- a def that lets no exception out -/
theorem FnG.plain {x qual : Str} {st : Stmt} {N : List Str} (F : Fun K x qual st f fd) (S : FnScope N ps (defScope st)) (many : ∀ {vs H Q E}, sp vs H Q E → vs.length = ps.length)
    (B : ∀ (cdv : Value) (A : Around) (outer : List Env) (s : Shared) (H : Hp) (vs : List V) (Q : VK) (E : XK), Qt A → Room k (A.deeper (envOfC qual (defScope st) s.heap.objs.size f cdv)) → sp vs H Q E →
      ∃ t, PSs (cxOf CX0 P w K mg base N qual (defScope st) f cdv A outer s H E).nox (defBody st) t ∧ t { nx := fun _ H' => Q .non H', rt := Q } (start N vs) H) :
    FnG P w K mg base CX0 (k + 1) f fd ps sp :=
  FnG.body F S many fun cdv A outer s H vs Q E g r h => let ⟨t, b, q⟩ := B cdv A outer s H vs Q E g r h; ⟨t, b.nox, q⟩
end
/-- an int that the module's top has written -/
theorem pe_gi {X : Cx} {x : Str} {i : Int} {pos : Pos} (h : ∃ t, X.mg x = some (.int i t)) (hg : Gl X x := by rfl) (hd : (x == ("__debug__" : Str)) = false := by decide) : PE X (.Name x pos) (tC (.int i)) :=
  let ⟨_, e⟩ := h
  pe_glob hg e ⟨_, rfl⟩ hd

/-- the one heap at the law's entry: nothing is tracked but the script, where it is not the module's own -/
def entry (K : PySem.W.Frag) (a : Addr) (o : Obj) (xs : List V) : Hp := fun b => if K.lookup a = none ∧ b = a then some (.frz o (.lst xs)) else none
theorem entry_at {K : PySem.W.Frag} {a b : Addr} {o : Obj} {xs : List V} {u : HO} (h : entry K a o xs b = some u) : K.lookup a = none ∧ b = a ∧ u = .frz o (.lst xs) := by
  unfold entry at h
  split at h
  · rename_i c
    exact ⟨c.1, c.2, (Option.some.inj h).symm⟩
  · cases h
theorem entry_no {K : PySem.W.Frag} {a b : Addr} {o : Obj} {xs : List V} (h : b ≠ a ∨ K.lookup a ≠ none) : entry K a o xs b = none := if_neg fun c => h.elim (fun n => n c.2) (fun n => n c.1)
section
variable {P : Program} {w : World} {K : PySem.W.Frag} {mg mb : Str → Option Value} {k : Nat} {fa a : Addr} {fd : FuncData} {x : Str} {sp : Sp} {s : Shared} {us : List Value} {ns : List Int}
theorem law_goes (inK : K.In s.heap) (hm : s.heap.Ns mainGlobals mg) (hb : s.heap.Ns builtinsNs mb) (hbb : ∀ y : Str, y ≠ "__name__" → mb y = bootBuiltins y) (nl : s.heap.NoLimit) (mods : Mods s.heap) (hg : s.gens = #[])
    (ha : s.heap.get? a = some { cls := .type "list", data := .seq us.toArray }) (hi : IntsAre us ns) (hn : ns.length ≤ sizeLine) (room : Room k callerA)
    (F : ∀ base : Heap, K.In base → base.Ns mainGlobals mg → Mods base → FnG P w K mg base CX0 k fa fd [x] sp) (bt : ∀ (t : Shared) (u : Value), BindsTo t fd ⟨[u], []⟩ [(x, u)])
    (hsp : ∀ H : Hp, SqL K H a (ns.map V.int) → sp [.ref a] H (fun v _ => v = .bl true) fun _ _ _ => False) :
    codeAny (model P w) callerA (.call (.ref fa) ⟨[.ref a], []⟩) (fun r t => r = .ok (.ret (.bool true)) ∧ OldK s.heap t.heap ∧ t.os = s.os ∧ AllBare t.gens) s := by
  have vals := vals_ints hi
  let ob : Obj := { cls := .type "list", data := .seq us.toArray }
  let H : Hp := entry K a ob (ns.map V.int)
  have sq : SqL K H a (ns.map V.int) := by
    cases q : K.lookup a with
    | none => exact .inl (.inr ⟨ob, if_pos ⟨q, rfl⟩⟩)
    | some o =>
      have e : o = ob := Option.some.inj ((inK a o q).symm.trans ha)
      subst e
      exact .inr ⟨_, us.toArray, _, q, rfl, rfl, rfl, by rw [List.size_toArray, hi.length]; exact hn, by simpa using vals⟩
  have ok : HOk P w H s.heap := by
    intro b u q
    obtain ⟨_, rfl, rfl⟩ := entry_at q
    exact ⟨ha, by rw [List.length_map]; exact hn, us, _, vals, ha⟩
  have low : ∀ {b : Addr} {o : Obj}, s.heap.get? b = some o → H b = none → (hidT s.heap H).get? b = some o := fun q n => hidT_get q n
  have isD : ∀ {b : Addr} {m : Str → Option Value}, s.heap.Ns b m → (hidT s.heap H).Ns b m := by
    rintro b m ⟨o, es, ep, q, d, r⟩
    refine ⟨o, es, ep, low q (entry_no (.inl fun z => ?_)), d, r⟩
    rw [z, ha] at q
    cases q
    cases d
  have inB : K.In (hidT s.heap H) := fun b o q => low (inK b o q) (entry_no (by
    by_cases z : b = a
    · exact .inr fun n => by rw [← z, q] at n; cases n
    · exact .inl z))
  have lim : (hidT s.heap H).NoLimit := by
    obtain ⟨mc, l1, l2⟩ := nl
    exact ⟨mc, isD l1, l2⟩
  have env : Env0 P w K mg (hidT s.heap H) callerA [] s H :=
    { frames := rfl, mod := ⟨inB, isD hm, ⟨mb, isD hb, hbb⟩, lim⟩, bs := fun b o q => of_hidT q, bsz := Nat.le_of_eq (hidT_size _ _), funs := trivial, frf := fun b q => absurd (show b ∈ ([] : List Addr) from q) (by simp), hok := ok, bare := .of_eq hg }
  refine codeAny_mono ((F _ inB (isD hm) (mods.imp fun _ h => isD h)).goes (us := [.ref a]) (vs := [.ref a]) rfl room env (bt s (.ref a)) (.cons rfl .nil) (hsp H sq)) ?_
  intro r t got
  match r, got with
  | .error _, got => exact got.elim
  | .ok .next, got => exact got.elim
  | .ok .brk, got => exact got.elim
  | .ok .cont, got => exact got.elim
  | .ok (.ret u), got =>
    obtain ⟨v, H', os, bare, un, ok', rv, ev⟩ := got
    have ev' : v = .bl true := ev
    subst ev'
    have eu : u = Value.bool true := rv
    subst eu
    refine ⟨rfl, OldK.of_keep (fun b o q => ?_), os, bare⟩
    cases hb' : H b with
    | none => exact un.keep b o q hb' (fun z => absurd (show b ∈ ([] : List Addr) from z) (by simp)) (fun z => absurd (show b ∈ ([] : List Addr) from z) (by simp))
    | some u =>
      obtain ⟨_, eb, eu⟩ := entry_at hb'
      subst eu
      obtain ⟨g1, _⟩ := ok' b _ (un.frzs b ob _ hb')
      rw [eb] at q g1 ⊢
      rw [ha] at q
      cases q
      exact g1
/-- the goal that the word k_head leaves -/
theorem walkG {l : PySem.W.OpenLaw} {n : Nat} {q : Program} {loose : List Str} {XP : (Str → Option Value) → Heap → Prop} {YP : World → Heap → Prop} {d : DefRec} {K : Params → PySem.W.Frag} {sp : PySem.W.Frag → Sp}
    (no : importsNone q = true) (hn : l.most = some n) (hn2 : n ≤ sizeLine) (hdf : d.params.defaults = []) (room : Room k callerA) (hY : ∀ (w : World) (h : Heap), YP w h → (K w.params).In h)
    (F : ∀ (w : World) (mg : Str → Option Value) (fa : Addr) (h : Heap), (K w.params).In h → h.Ns mainGlobals mg → mg d.name = some (.ref fa) →
      ∃ fd : FuncData, (∀ (t : Shared) (u : Value), BindsTo t fd ⟨[u], []⟩ [(x, u)]) ∧ ∀ base : Heap, (K w.params).In base → base.Ns mainGlobals mg → Mods base → FnG l.prog w (K w.params) mg base CX0 k fa fd [x] (sp (K w.params)))
    (hsp : ∀ (K : PySem.W.Frag) (H : Hp) (a : Addr) (ns : List Int), ns.length ≤ n → SqL K H a (ns.map V.int) → sp K [.ref a] H (fun v _ => v = .bl true) fun _ _ _ => False) :
    PySem.W.WalkO q loose XP YP l.row.toRowW d [] (fun f vs => PySem.call f vs) :=
  Att.attach_call hn hdf fun w s₀ s₁ mg mb fa o pm cd doc a vs ns G Y ho hd hcd hmg hobj hints hlen hg =>
    let ⟨_, bt, hF⟩ := F w mg fa _ (hY w _ Y) G.T.g hmg
    law_goes (hY w _ Y) G.T.g G.T.b G.T.builtins G.T.nolimit ((G.T.seer no).mods.imp fun _ h => h.1) hg hobj hints (Nat.le_trans hlen hn2) room hF bt fun H sq => hsp (K w.params) H a ns hlen sq
end
end Wf
namespace Wf
open PySem PySem.Spec PyProof.Rows L2
/-! ### letters.index(letter) -/
section
variable {x : Str} {c : Nat}
theorem scan_done (y : Str) (n : Nat) : ∀ (l : List Nat) (j k : Nat), (forIn (m := Id) l ((#[j] : Array Nat), k) (StrLaws.occBody x y n 1)).run.fst = #[j]
  | [], _, _ => rfl
  | i :: r, j, k => by
    have no : ¬ ((((#[j] : Array Nat).size < 1 ∧ k ≤ i) ∧ i + y.length ≤ n) ∧ Builtin.Str.subAt x y i = true) := fun z => absurd z.1.1.1 (Nat.lt_irrefl 1)
    simp only [List.forIn_cons, StrLaws.occBody, if_neg no]
    exact scan_done y n r j k
theorem scan_to {j : Nat} (hj : x.cps.toList[j]? = some c) : ∀ (n s : Nat), (∀ i, i < j → x.cps.toList[i]? ≠ some c) → s ≤ j → j < s + n → (forIn (m := Id) (List.range' s n) ((#[] : Array Nat), 0) (StrLaws.occBody x ⟨#[c]⟩ x.length 1)).run.fst = #[j]
  | 0, s, _, h1, h2 => absurd h2 (by omega)
  | n + 1, s, hb, h1, h2 => by
    rw [List.range'_succ]
    rcases Nat.lt_or_ge s j with lt | ge
    · have no : ¬ ((((#[] : Array Nat).size < 1 ∧ 0 ≤ s) ∧ s + (⟨#[c]⟩ : Str).length ≤ x.length) ∧ Builtin.Str.subAt x ⟨#[c]⟩ s = true) := fun z => hb s lt ((StrLaws.subAt_one x c s).mp ⟨z.1.2, z.2⟩)
      simp only [List.forIn_cons, StrLaws.occBody, if_neg no]
      exact scan_to hj n (s + 1) hb (by omega) (by omega)
    · have e : s = j := by omega
      subst e
      obtain ⟨z1, z2⟩ := (StrLaws.subAt_one x c s).mpr hj
      have yes : (((#[] : Array Nat).size < 1 ∧ 0 ≤ s) ∧ s + (⟨#[c]⟩ : Str).length ≤ x.length) ∧ Builtin.Str.subAt x ⟨#[c]⟩ s = true := ⟨⟨⟨by decide, Nat.zero_le _⟩, z1⟩, z2⟩
      simp only [List.forIn_cons, StrLaws.occBody, if_pos yes]
      exact scan_done _ _ _ _ _
theorem index_at {j : Nat} (hj : x.cps.toList[j]? = some c) (hb : ∀ i, i < j → x.cps.toList[i]? ≠ some c) : Txt.index0 x ⟨#[c]⟩ = some j := by
  have lt : j < x.length := by
    obtain ⟨z, _⟩ := List.getElem?_eq_some_iff.mp hj
    rw [Array.length_toList] at z
    exact z
  unfold Txt.index0
  rw [StrLaws.occ_eq, scan_to hj (x.length + 1 - 0) 0 hb (Nat.zero_le _) (by omega)]
  rfl
end
/-- z.index(ch), ch a letter that stands in z first at j -/
theorem mt_letter {X : Cx} (hc : X.calm = true) : MtR X "str.index" (fun x xs H Q => ∃ (z : Str) (ch j : Nat), x = .str z ∧ xs = [.str ⟨#[ch]⟩] ∧ z.cps.toList[j]? = some ch ∧ (∀ i, i < j → z.cps.toList[i]? ≠ some ch) ∧ Q (.int (j : Nat)) H) := by
  intro pins s σ H x xs v us Q I rx rs h
  obtain ⟨z, ch, j, rfl, rfl, hj, hb, q⟩ := h
  refine mt_indexX (W := fun _ _ _ _ => False) hc (fun u s' ⟨_, _, _, _, _, _, _, _, _, _, _, _, _, _, _, _, w⟩ => w.elim) pins s σ H _ _ v us Q I rx rs ⟨z, _, rfl, rfl, fun k hk => ?_, fun n => ?_⟩
  · rw [index_at hj hb] at hk
    cases hk
    exact q
  · rw [index_at hj hb] at n
    cases n
/-! ### over the signs of a text -/
theorem cps_get {z : Str} {i : Nat} : z.cps[i]? = z.cps.toList[i]? := Array.getElem?_toList.symm
theorem for_chars {z : Str} {g : TG} {tb : TS} {D : Ends} {σ : L2.St} {H : Hp} (Pv : Nat → L2.St → Hp → Prop) (first : Pv 0 σ H)
    (each : ∀ i c σ H, z.cps.toList[i]? = some c → Pv i σ H → g (.str ⟨#[c]⟩) σ H fun σ2 H2 => tb { D with nx := Pv (i + 1), ct := Pv (i + 1), bk := D.nx } σ2 H2) (last : ∀ σ H, Pv z.length σ H → D.nx σ H) :
    ∃ W : Nat → Nat → L2.St → Hp → Prop, (∃ m, W 0 m σ H) ∧ ∀ i m σ H, W i m σ H → ((Its z).stop i H ∧ D.nx σ H) ∨
      ((Its z).go i H ∧ ∃ N : L2.St → Hp → Prop, (∀ σ' H', N σ' H' → ∃ m', m' < m ∧ W (i + 1) m' σ' H') ∧ ∀ x H', (Its z).yld i H x H' → g x σ H' fun σ2 H2 => tb { D with nx := N, ct := N, bk := D.nx } σ2 H2) := by
  refine ⟨fun i m σ H => m = z.length - i ∧ i ≤ z.length ∧ Pv i σ H, ⟨_, rfl, Nat.zero_le _, first⟩, fun i m σ H ⟨em, le, p⟩ => ?_⟩
  rcases Nat.lt_or_ge i z.length with lt | ge
  · refine .inr ⟨lt, Pv (i + 1), fun σ' H' p' => ⟨z.length - (i + 1), by omega, rfl, lt, p'⟩, fun x H' ⟨eH, c, hc, ex⟩ => ?_⟩
    subst eH ex
    exact each i c σ _ (cps_get ▸ hc) p
  · obtain rfl : i = z.length := by omega
    exact .inl ⟨Nat.le_refl _, last σ H p⟩
theorem lc_chars {z : Str} {g : TG} {tt : TT} {te : TE} {vs : List Nat} {σ : L2.St} {H1 : Hp} {D : Addr} {Qd : Hp → Prop} (Pv : Nat → Hp → Prop) (first : Pv 0 (upd H1 D (.lst [])))
    (each : ∀ i c H, z.cps.toList[i]? = some c → Pv i H → g (.str ⟨#[c]⟩) (wipe σ vs) H fun σ2 H2 => wipe σ2 vs = wipe σ vs ∧ tt σ2 H2 fun b H3 =>
      if b = true then te σ2 H3 fun y H4 => ∃ acc, H4 D = some (.lst acc) ∧ acc.length < sizeLine ∧ Pv (i + 1) (upd H4 D (.lst (acc ++ [y]))) else Pv (i + 1) H3) (last : ∀ H, Pv z.length H → Qd H) :
    ∃ W : Nat → Nat → Hp → Prop, (∃ m, W 0 m (upd H1 D (.lst []))) ∧ ∀ i m H, W i m H → ((Its z).stop i H ∧ Qd H) ∨
      ((Its z).go i H ∧ ∃ Nx : Hp → Prop, (∀ H', Nx H' → ∃ m', m' < m ∧ W (i + 1) m' H') ∧ ∀ x H', (Its z).yld i H x H' → g x (wipe σ vs) H' fun σ2 H2 => wipe σ2 vs = wipe σ vs ∧ tt σ2 H2 fun b H3 =>
        if b = true then te σ2 H3 fun y H4 => ∃ acc, H4 D = some (.lst acc) ∧ acc.length < sizeLine ∧ Nx (upd H4 D (.lst (acc ++ [y]))) else Nx H3) := by
  refine ⟨fun i m H => m = z.length - i ∧ i ≤ z.length ∧ Pv i H, ⟨_, rfl, Nat.zero_le _, first⟩, fun i m H ⟨em, le, p⟩ => ?_⟩
  rcases Nat.lt_or_ge i z.length with lt | ge
  · refine .inr ⟨lt, Pv (i + 1), fun H' p' => ⟨z.length - (i + 1), by omega, rfl, lt, p'⟩, fun x H' ⟨eH, c, hc, ex⟩ => ?_⟩
    subst eH ex
    exact each i c _ (cps_get ▸ hc) p
  · obtain rfl : i = z.length := by omega
    exact .inl ⟨Nat.le_refl _, last H p⟩
/-! ### tables: rows of numbers and None -/
def oV : Option Nat → V
  | none => .non
  | some n => .int n
/-- at r: a list or a tuple of the rows tb, each a list or a tuple -/
def Rws (K : PySem.W.Frag) (H : Hp) (r : Addr) (tb : List (List (Option Nat))) : Prop := ∃ bs : List Addr, (SqL K H r (bs.map V.ref) ∨ SqT K H r (bs.map V.ref)) ∧ bs.length = tb.length ∧
  ∀ (i : Nat) (b : Addr) (row : List (Option Nat)), bs[i]? = some b → tb[i]? = some row → (SqL K H b (row.map oV) ∨ SqT K H b (row.map oV))
theorem Rws.stay {K : PySem.W.Frag} {H H' : Hp} {r : Addr} {tb : List (List (Option Nat))} (h : Rws K H r tb) (s : Stay K H H') : Rws K H' r tb := by
  obtain ⟨bs, h1, h2, h3⟩ := h
  exact ⟨bs, h1.elim (fun z => .inl (s.l _ _ z)) (fun z => .inr (s.t _ _ z)), h2, fun i b row e1 e2 => (h3 i b row e1 e2).elim (fun z => .inl (s.l _ _ z)) (fun z => .inr (s.t _ _ z))⟩
/-- a table of m columns whose entries are states of it -/
structure TbOk (m : Nat) (tb : List (List (Option Nat))) : Prop where
  pos : 0 < tb.length
  len : ∀ row ∈ tb, row.length = m
  lt : ∀ row ∈ tb, ∀ n, some n ∈ row → n < tb.length
/-- one letter on -/
def stp (zs : List Nat) (tb : List (List (Option Nat))) (s : Option Nat) (c : Nat) : Option Nat := s.bind fun i => (tb.getD i []).getD (zs.idxOf c) none
def ledTo (zs : List Nat) (tb : List (List (Option Nat))) (s : Option Nat) (cs : List Nat) : Option Nat := cs.foldl (stp zs tb) s
theorem stp_lt {zs : List Nat} {tb : List (List (Option Nat))} {m : Nat} (T : TbOk m tb) {s : Option Nat} {c n : Nat} (h : stp zs tb s c = some n) : n < tb.length := by
  unfold stp at h
  cases s with
  | none => cases h
  | some i =>
    simp only [Option.bind_some] at h
    rcases Nat.lt_or_ge i tb.length with lt | ge
    · have e : tb.getD i [] = tb[i] := by rw [List.getD_eq_getElem?_getD, List.getElem?_eq_getElem lt]; rfl
      rw [e, List.getD_eq_getElem?_getD] at h
      cases q : tb[i][List.idxOf c zs]? with
      | none => rw [q] at h; cases h
      | some o =>
        rw [q] at h
        have h : o = some n := h
        subst h
        exact T.lt _ (List.getElem_mem lt) n (List.mem_of_getElem? q)
    · have e : tb.getD i [] = [] := by rw [List.getD_eq_getElem?_getD, List.getElem?_eq_none ge]; rfl
      rw [e] at h
      cases h
theorem led_lt {zs : List Nat} {tb : List (List (Option Nat))} {m : Nat} (T : TbOk m tb) : ∀ (cs : List Nat) (s : Option Nat), (∀ n, s = some n → n < tb.length) → ∀ n, ledTo zs tb s cs = some n → n < tb.length
  | [], _, h, n, e => h n e
  | c :: cs, s, _, n, e => led_lt T cs (stp zs tb s c) (fun _ e2 => stp_lt T e2) n e
theorem led_take {zs : List Nat} {tb : List (List (Option Nat))} {s : Option Nat} {cs : List Nat} {i c : Nat} (h : cs[i]? = some c) : ledTo zs tb s (cs.take (i + 1)) = stp zs tb (ledTo zs tb s (cs.take i)) c := by
  unfold ledTo
  rw [List.take_succ, h, List.foldl_append]
  rfl
theorem idx_at {zs : List Nat} {c : Nat} (h : c ∈ zs) : zs[zs.idxOf c]? = some c ∧ ∀ i, i < zs.idxOf c → zs[i]? ≠ some c := by
  have lt := List.idxOf_lt_length_of_mem h
  refine ⟨by rw [List.getElem?_eq_getElem lt, List.getElem_idxOf lt], fun i hi e => ?_⟩
  obtain ⟨l2, e⟩ := List.getElem?_eq_some_iff.mp e
  have n := List.not_of_lt_findIdx hi
  rw [e] at n
  simp at n
theorem rix_any {K : PySem.W.Frag} {H : Hp} {a : Addr} {xs : List V} {i : Int} {v : V} {Q : VK} (h : SqL K H a xs ∨ SqT K H a xs) (e : atI xs i = some v) (q : Q v H) : rIx K (.ref a) (.int i) H Q :=
  h.elim (fun h => .inl ⟨a, xs, i, v, rfl, rfl, h, e, q⟩) fun h => .inr (.inl ⟨a, xs, i, v, rfl, rfl, h, e, q⟩)
/-- rows[n][index]: the row, and what stands there -/
theorem Rws.row {K : PySem.W.Frag} {H : Hp} {r : Addr} {tb : List (List (Option Nat))} {m n j : Nat} (h : Rws K H r tb) (T : TbOk m tb) (hn : n < tb.length) (hj : j < m) :
    ∃ (bs : List Addr) (b : Addr) (row : List (Option Nat)), (SqL K H r (bs.map V.ref) ∨ SqT K H r (bs.map V.ref)) ∧ atI (bs.map V.ref) (n : Int) = some (.ref b) ∧ (SqL K H b (row.map oV) ∨ SqT K H b (row.map oV)) ∧ atI (row.map oV) (j : Int) = some (oV ((tb.getD n []).getD j none)) := by
  obtain ⟨bs, h1, h2, h3⟩ := h
  have lb : n < bs.length := by omega
  have e1 : bs[n]? = some bs[n] := List.getElem?_eq_getElem lb
  have e2 : tb[n]? = some tb[n] := List.getElem?_eq_getElem hn
  have lj : j < tb[n].length := by rw [T.len _ (List.getElem_mem hn)]; exact hj
  refine ⟨bs, bs[n], tb[n], h1, atI_nat (by rw [List.getElem?_map, e1]; rfl), h3 n _ _ e1 e2, atI_nat ?_⟩
  have e3 : tb.getD n [] = tb[n] := by rw [List.getD_eq_getElem?_getD, e2]; rfl
  rw [e3, List.getElem?_map, List.getD_eq_getElem?_getD, List.getElem?_eq_getElem lj]
  rfl
end Wf
/-! new tables: a list of rows and a list of marks that have just been made -/
namespace Wf
open PySem PySem.Spec PyProof.Rows L2
def mV : Option Bool → V
  | none => .non
  | some b => .bl b
structure Tbl (H0 H : Hp) (z sz : Nat) (full : Bool) (r m : Addr) (bs : List Addr) (tb : List (List (Option Nat))) (ms : List (Option Bool)) : Prop where
  ra : H r = some (.lst (bs.map V.ref))
  ma : H m = some (.lst (ms.map mV))
  rm : r ≠ m
  new : H0 r = none ∧ H0 m = none ∧ ∀ b ∈ bs, H0 b = none ∧ b ≠ r ∧ b ≠ m
  nd : bs.Nodup
  lb : bs.length = tb.length
  row : ∀ q ∈ bs.zip tb, H q.1 = some (.lst (q.2.map oV))
  len : ∀ row ∈ tb, row.length = z
  lt : ∀ row ∈ tb, ∀ x, some x ∈ row → x < sz
  fl : full = true → (∀ row ∈ tb, none ∉ row) ∧ none ∉ ms
section
variable {H0 H H' : Hp} {z sz n : Nat} {full : Bool} {r m p c D : Addr} {bs : List Addr} {tb : List (List (Option Nat))} {ms : List (Option Bool)}
theorem Tbl.but (T : Tbl H0 H z sz full r m bs tb ms) (bt : But p H H') (hp : Pen H p c n) : Tbl H0 H' z sz full r m bs tb ms := by
  obtain ⟨kvs, e⟩ := hp.at
  have np : ∀ {b : Addr} {xs : List V}, H b = some (.lst xs) → b ≠ p := fun q n => by
    rw [n, e] at q
    cases q
  exact { T with ra := bt _ _ (np T.ra) T.ra, ma := bt _ _ (np T.ma) T.ma, row := fun q hq => bt _ _ (np (T.row q hq)) (T.row q hq) }
theorem Tbl.same (T : Tbl H0 H z sz full r m bs tb ms) (s : Same H H') : Tbl H0 H' z sz full r m bs tb ms :=
  { T with ra := s _ _ T.ra, ma := s _ _ T.ma, row := fun q hq => s _ _ (T.row q hq) }
theorem Tbl.mark (T : Tbl H0 H z sz full r m bs tb ms) {x : Option Bool} (hx : full = true → x ≠ none) : Tbl H0 (upd H m (.lst (ms.map mV ++ [mV x]))) z sz full r m bs tb (ms ++ [x]) :=
  { T with
    ra := (upd_ne T.rm).trans T.ra
    ma := by rw [upd_same, List.map_append]; rfl
    row := fun q hq => (upd_ne (T.new.2.2 _ (List.of_mem_zip hq).1).2.2).trans (T.row q hq)
    fl := fun e => ⟨(T.fl e).1, fun hn => (List.mem_append.mp hn).elim (T.fl e).2 fun hn => hx e (List.mem_singleton.mp hn).symm⟩ }
theorem Tbl.add (T : Tbl H0 H z sz full r m bs tb ms) {row : List (Option Nat)} (hD : H D = some (.lst (row.map oV))) (d0 : H0 D = none) (dr : D ≠ r) (dm : D ≠ m) (db : D ∉ bs) (hl : row.length = z) (lt : ∀ x, some x ∈ row → x < sz) (hx : full = true → none ∉ row) :
    Tbl H0 (upd H r (.lst (bs.map V.ref ++ [.ref D]))) z sz full r m (bs ++ [D]) (tb ++ [row]) ms where
  ra := by rw [upd_same, List.map_append]; rfl
  ma := (upd_ne T.rm.symm).trans T.ma
  rm := T.rm
  new := ⟨T.new.1, T.new.2.1, fun b hb => (List.mem_append.mp hb).elim (T.new.2.2 b) fun hb => by rw [List.mem_singleton.mp hb]; exact ⟨d0, dr, dm⟩⟩
  nd := List.nodup_append.mpr ⟨T.nd, List.nodup_cons.mpr ⟨List.not_mem_nil, List.nodup_nil⟩, fun a ha b hb e => db (by rw [← List.mem_singleton.mp hb, ← e]; exact ha)⟩
  lb := by rw [List.length_append, List.length_append, T.lb]; rfl
  row := fun q hq => by
    rw [List.zip_append T.lb] at hq
    rcases List.mem_append.mp hq with hq | hq
    · exact (upd_ne (T.new.2.2 _ (List.of_mem_zip hq).1).2.1).trans (T.row q hq)
    · have e : q = (D, row) := List.mem_singleton.mp hq
      rw [e]
      exact (upd_ne dr).trans hD
  len := fun q hq => (List.mem_append.mp hq).elim (T.len q) fun hq => by rw [List.mem_singleton.mp hq]; exact hl
  lt := fun q hq => (List.mem_append.mp hq).elim (T.lt q) fun hq => by rw [List.mem_singleton.mp hq]; exact lt
  fl := fun e => ⟨fun q hq => (List.mem_append.mp hq).elim ((T.fl e).1 q) fun hq => by rw [List.mem_singleton.mp hq]; exact hx e, (T.fl e).2⟩
theorem Tbl.there (T : Tbl H0 H z sz full r m bs tb ms) {b : Addr} (hb : b ∈ bs) : ∃ xs, H b = some (.lst xs) := by
  obtain ⟨i, hi, e⟩ := List.getElem_of_mem hb
  have e1 : bs[i]? = some b := by rw [List.getElem?_eq_getElem hi, e]
  have e2 : tb[i]? = some (tb[i]'(by rw [← T.lb]; exact hi)) := List.getElem?_eq_getElem _
  exact ⟨_, T.row (b, _) (List.mem_of_getElem? (i := i) (by rw [List.getElem?_zip_eq_some]; exact ⟨e1, e2⟩))⟩
/-- what is new is none of it -/
theorem Tbl.off (T : Tbl H0 H z sz full r m bs tb ms) (h : H D = none) : D ≠ r ∧ D ≠ m ∧ D ∉ bs := ⟨(ne_of_none T.ra h).symm, (ne_of_none T.ma h).symm, fun hb => by
  obtain ⟨xs, e⟩ := T.there hb
  rw [h] at e
  cases e⟩
/-- it is read as one -/
theorem Tbl.rws {K : PySem.W.Frag} (T : Tbl H0 H z sz full r m bs tb ms) : Rws K H r tb := by
  refine ⟨bs, .inl (SqL.of T.ra), T.lb, fun i b row e1 e2 => .inl (SqL.of (T.row (b, row) ?_))⟩
  exact List.mem_of_getElem? (i := i) (by rw [List.getElem?_zip_eq_some]; exact ⟨e1, e2⟩)
theorem Tbl.ok (T : Tbl H0 H z sz full r m bs tb ms) (e : tb.length = sz) (h : 0 < sz) : TbOk z tb := ⟨by omega, T.len, fun row hr n hn => by rw [e]; exact T.lt row hr n hn⟩
theorem Tbl.start (h1 : H r = some (.lst [])) (h2 : H m = some (.lst [])) (n1 : H0 r = none) (n2 : H0 m = none) (ne : r ≠ m) : Tbl H0 H z sz full r m [] [] [] where
  ra := h1
  ma := h2
  rm := ne
  new := ⟨n1, n2, fun b hb => by cases hb⟩
  nd := List.nodup_nil
  lb := rfl
  row := fun q hq => by cases hq
  len := fun q hq => by cases hq
  lt := fun q hq => by cases hq
  fl := fun _ => ⟨fun q hq => absurd hq List.not_mem_nil, List.not_mem_nil⟩
end
def spTable : Sp := fun vs H Q _ => ∃ (p c : Addr) (n : Nat) (z : Str) (sz : Nat) (full : Bool), vs = [.ref p, .str z, .int (sz : Int), .bl full] ∧ Pen H p c n ∧ 0 < sz ∧ sz ≤ 1000 ∧ z.length ≤ 1000 ∧ n + sz * (2 * z.length + 1) < 1000000 ∧
  ∀ (t r m : Addr) (bs : List Addr) (tb : List (List (Option Nat))) (ms : List (Option Bool)) (H' : Hp), But p H H' → Pen H' p c (n + sz * (2 * z.length + 1)) → H t = none → H' t = some (.tup [.ref r, .ref m]) → Tbl H H' z.length sz full r m bs tb ms → tb.length = sz → ms.length = sz → Q (.ref t) H'
/-- a number that depends on a truth -/
theorem tIf_num {σ : L2.St} {H : Hp} {Q : VK} {b : Bool} {i : Nat} {x y : Int} (e : σ[i]? = some (some (.bl b))) (q : Q (.int (if b = true then x else y)) H) : tIf (tB (tVar i)) (tC (.int x)) (tC (.int y)) σ H Q := by
  refine ⟨_, e, b, rfl, ?_⟩
  cases b
  · exact iteF q
  · exact iteT q
/-- in a table without None each word leads somewhere -/
theorem led_some {zs : List Nat} {tb : List (List (Option Nat))} {m : Nat} (T : TbOk m tb) (hm : zs.length = m) (fl : ∀ row ∈ tb, none ∉ row) : ∀ (cs : List Nat) (n : Nat), (∀ c ∈ cs, c ∈ zs) → n < tb.length → ∃ k, ledTo zs tb (some n) cs = some k ∧ k < tb.length
  | [], n, _, h => ⟨n, rfl, h⟩
  | c :: cs, n, hc, h => by
    have e : tb.getD n [] = tb[n] := by rw [List.getD_eq_getElem?_getD, List.getElem?_eq_getElem h]; rfl
    have li : zs.idxOf c < tb[n].length := by rw [T.len _ (List.getElem_mem h), ← hm]; exact List.idxOf_lt_length_of_mem (hc c List.mem_cons_self)
    have st : stp zs tb (some n) c = tb[n][zs.idxOf c] := by
      show (tb.getD n []).getD (zs.idxOf c) none = _
      rw [e, List.getD_eq_getElem?_getD, List.getElem?_eq_getElem li]
      rfl
    cases q : tb[n][zs.idxOf c] with
    | none => exact absurd (by rw [← q]; exact List.getElem_mem li) (fl _ (List.getElem_mem h))
    | some j =>
      have lj : j < tb.length := T.lt _ (List.getElem_mem h) j (by rw [← q]; exact List.getElem_mem li)
      obtain ⟨k, e1, e2⟩ := led_some T hm fl cs j (fun x hx => hc x (List.mem_cons_of_mem _ hx)) lj
      refine ⟨k, ?_, e2⟩
      show ledTo zs tb (stp zs tb (some n) c) cs = some k
      rw [st, q]
      exact e1
end Wf
/-! words in order, samples as the laws draw them -/
namespace Wf
open PySem PySem.Spec PyProof.Rows L2
/-- shorter words first, words of equal length in alphabetical order -/
def ltW (a b : Str) : Prop := a.length < b.length ∨ (a.length = b.length ∧ a.cps.toList < b.cps.toList)
/-- ys are the words ws, each once, in order -/
structure Srt (ys ws : List Str) : Prop where
  mem : ∀ y, y ∈ ys ↔ y ∈ ws
  ord : ys.Pairwise ltW
theorem ltW_irrefl (a : Str) : ¬ ltW a a := fun h => h.elim (fun h => Nat.lt_irrefl _ h) fun h => List.lt_irrefl _ h.2
theorem Srt.nd {ys ws : List Str} (h : Srt ys ws) : ys.Nodup := List.Pairwise.imp (R := ltW) (S := fun a b => a ≠ b) (fun {a b} l e => ltW_irrefl a (by rw [← e] at l; exact l)) h.ord
theorem nodup_sub {α : Type} [BEq α] [LawfulBEq α] : ∀ {ys ws : List α}, ys.Nodup → (∀ y ∈ ys, y ∈ ws) → ys.length ≤ ws.length
  | [], _, _, _ => Nat.zero_le _
  | y :: ys, ws, n, h => by
    have hy := h y List.mem_cons_self
    obtain ⟨n1, n2⟩ := List.nodup_cons.mp n
    have e := nodup_sub (ys := ys) (ws := ws.erase y) n2 fun x hx => (List.mem_erase_of_ne (fun e => n1 (by rw [← e]; exact hx))).mpr (h x (List.mem_cons_of_mem _ hx))
    rw [List.length_erase_of_mem hy] at e
    have := List.length_pos_of_mem hy
    show ys.length + 1 ≤ ws.length
    omega
theorem Srt.len {ys ws : List Str} (h : Srt ys ws) : ys.length ≤ ws.length := nodup_sub h.nd fun y hy => (h.mem y).mp hy
def spSorted (K : PySem.W.Frag) : Sp := fun vs H Q _ => ∃ (a : Addr) (ws : List Str), vs = [.ref a] ∧ SqL K H a (ws.map V.str) ∧ ws.length < 64 ∧ (∀ w ∈ ws, w.length ≤ 1000) ∧ ∀ (l : Addr) (ys : List Str) (H' : Hp), Same H H' → H l = none → H' l = some (.lst (ys.map V.str)) → Srt ys ws → Q (.ref l) H'
/-- a sample as the laws draw it: words in order, over the letters z, some of them True, the others False -/
structure Raw (z : Str) (many most : Nat) (yes no : List Str) : Prop where
  ex : ∃ ws : List Str, ws.Pairwise ltW ∧ ws.length ≤ many ∧ (∀ w ∈ ws, w.length ≤ most ∧ ∀ ch ∈ w.cps.toList, ch ∈ z.cps.toList) ∧ yes.Sublist ws ∧ no.Sublist ws ∧ (yes ++ no).Perm ws
/-- the list of a fresh pair of lists grows -/
theorem upd2 {H : Hp} {a b : Addr} {o u : HO} (n : a ≠ b) (h : H b = some u) : upd H a o b = some u := (upd_ne n.symm).trans h
end Wf
/-! enumerate in a comprehension; the places of words as a dict -/
namespace Wf
open PySem PySem.Spec PyProof.Rows L2
theorem lc_enumW {K : PySem.W.Frag} {a : Addr} {xs : List V} {g : TG} {tt : TT} {te : TE} {vs : List Nat} {σ : L2.St} {H1 : Hp} {D : Addr} {Qd : Hp → Prop} (Pv : Nat → Hp → Prop) (first : Pv 0 (upd H1 D (.lst []))) (stays : ∀ i H, i ≤ xs.length → Pv i H → SqL K H a xs)
    (each : ∀ i x H T, xs[i]? = some x → Pv i H → H T = none → g (.ref T) (wipe σ vs) (upd H T (.tup [.int (i : Nat), x])) fun σ2 H2 => wipe σ2 vs = wipe σ vs ∧ tt σ2 H2 fun b H3 =>
      if b = true then te σ2 H3 fun y H4 => ∃ acc, H4 D = some (.lst acc) ∧ acc.length < sizeLine ∧ Pv (i + 1) (upd H4 D (.lst (acc ++ [y]))) else Pv (i + 1) H3) (last : ∀ H, Pv xs.length H → Qd H) :
    ∃ W : Nat → Nat → Hp → Prop, (∃ m, W 0 m (upd H1 D (.lst []))) ∧ ∀ i m H, W i m H → ((Ite K a).stop i H ∧ Qd H) ∨
      ((Ite K a).go i H ∧ ∃ Nx : Hp → Prop, (∀ H', Nx H' → ∃ m', m' < m ∧ W (i + 1) m' H') ∧ ∀ x H', (Ite K a).yld i H x H' → g x (wipe σ vs) H' fun σ2 H2 => wipe σ2 vs = wipe σ vs ∧ tt σ2 H2 fun b H3 =>
        if b = true then te σ2 H3 fun y H4 => ∃ acc, H4 D = some (.lst acc) ∧ acc.length < sizeLine ∧ Nx (upd H4 D (.lst (acc ++ [y]))) else Nx H3) := by
  refine ⟨fun i m H => m = xs.length - i ∧ i ≤ xs.length ∧ Pv i H, ⟨_, rfl, Nat.zero_le _, first⟩, fun i m H ⟨em, le, p⟩ => ?_⟩
  have sq := stays i H le p
  rcases Nat.lt_or_ge i xs.length with lt | ge
  · refine .inr ⟨⟨xs, xs[i], sq, List.getElem?_eq_getElem lt⟩, Pv (i + 1), fun H' p' => ⟨xs.length - (i + 1), by omega, rfl, lt, p'⟩, fun v H' ⟨T, x, ev, free, eH, at'⟩ => ?_⟩
    subst ev eH
    exact each i x H T (at' xs sq) p free
  · obtain rfl : i = xs.length := by omega
    exact .inl ⟨⟨xs, sq, Nat.le_refl _⟩, last H p⟩
/-- the places of words: word -> number -/
def plc (ys : List Str) (n : Nat) : List (Key × V) := (ys.zipIdx n).map fun p => ((.inr p.1 : Key), V.int (p.2 : Nat))
theorem plc_cons {y : Str} {ys : List Str} {n : Nat} : plc (y :: ys) n = (.inr y, .int (n : Nat)) :: plc ys (n + 1) := rfl
theorem plc_keys : ∀ {ys : List Str} {n : Nat}, (plc ys n).map (·.1) = ys.map .inr
  | [], _ => rfl
  | y :: ys, n => by rw [plc_cons, List.map_cons, List.map_cons, plc_keys]
theorem merge_new : ∀ {more acc : List (Key × V)}, ((acc ++ more).map (·.1)).Nodup → mergeK acc more = acc ++ more
  | [], acc, _ => by rw [List.append_nil]; rfl
  | (k, v) :: more, acc, nd => by
    have nk : ¬ (acc.any fun kv => decide (kv.1 = k)) = true := fun h => by
      obtain ⟨kv, m, e⟩ := List.any_eq_true.mp h
      rw [List.map_append, List.map_cons] at nd
      have := (List.nodup_append.mp nd).2.2 kv.1 (List.mem_map.mpr ⟨kv, m, rfl⟩) k List.mem_cons_self
      exact this (of_decide_eq_true e)
    have e : mergeK acc ((k, v) :: more) = mergeK (acc ++ [(k, v)]) more := by
      show mergeK (putK acc k v) more = _
      unfold putK
      rw [if_neg nk]
    rw [e, merge_new (by rw [List.append_assoc]; exact nd), List.append_assoc]
    rfl
theorem plc_at {z : Str} : ∀ {ys : List Str} {n : Nat}, valV (plc ys n) (.inr z) = (ys.idxOf? z).map fun i => V.int ((n + i : Nat) : Int)
  | [], _ => rfl
  | y :: ys, n => by
    rw [plc_cons, List.idxOf?_cons]
    by_cases h : y = z
    · subst h
      rw [valV_pos rfl, if_pos (beq_self_eq_true _)]
      rfl
    · rw [valV_neg (fun e => h (Sum.inr.inj e)), plc_at, if_neg (by rw [beq_iff_eq]; exact h), Option.map_map]
      congr 1
      funext i
      show V.int _ = V.int _
      rw [show n + 1 + i = n + (i + 1) by omega]
theorem in_words {z : Str} : ∀ {zs : List Str}, inV (.str z) (zs.map V.str) = decide (z ∈ zs)
  | [] => rfl
  | y :: ys => by
    have e : inV (.str z) ((y :: ys).map V.str) = (eqV (.str y) (.str z) || inV (.str z) (ys.map V.str)) := rfl
    have e2 : eqV (.str y) (.str z) = decide (z = y) := by
      show (y == z) = _
      by_cases h : y = z
      · subst h
        rw [beq_self_eq_true]
        exact (decide_eq_true rfl).symm
      · rw [beq_eq_false_iff_ne.mpr h]
        exact (decide_eq_false fun q => h q.symm).symm
    rw [e, e2, in_words, ← Bool.decide_or]
    exact decide_eq_decide.mpr List.mem_cons.symm
theorem flat_words {zs : List Str} : (zs.map V.str).all flatV = true := List.all_eq_true.mpr fun v hv => by
  obtain ⟨z, _, rfl⟩ := List.mem_map.mp hv
  rfl
theorem plc_get {ys : List Str} {n j : Nat} {w : Str} (h : ys[j]? = some w) : (plc ys n)[j]? = some (.inr w, .int ((n + j : Nat) : Int)) := by
  unfold plc
  rw [List.getElem?_map, List.getElem?_zipIdx, h]
  rfl
theorem plc_len {ys : List Str} {n : Nat} : (plc ys n).length = ys.length := by unfold plc; rw [List.length_map, List.length_zipIdx]
theorem pair_up {α β : Type} {R : α → β → Prop} : ∀ {as : List α} {bs : List β}, as.length = bs.length → (∀ (i : Nat) (a : α) (b : β), as[i]? = some a → bs[i]? = some b → R a b) → Paired R as bs
  | [], [], _, _ => .nil
  | [], _ :: _, e, _ => by cases e
  | _ :: _, [], e, _ => by cases e
  | a :: as, b :: bs, e, h => .cons (h 0 a b rfl rfl) (pair_up (Nat.succ.inj e) fun i x y e1 e2 => h (i + 1) x y e1 e2)
theorem got_oV {x : Option Nat} : (x.map fun i => V.int ((0 + i : Nat) : Int)).getD .non = oV x := by
  cases x with
  | none => rfl
  | some i =>
    show V.int _ = V.int _
    rw [Nat.zero_add]
theorem idx_lt {ys : List Str} {w : Str} {i : Nat} (h : ys.idxOf? w = some i) : i < ys.length := (List.findIdx?_eq_some_iff_findIdx_eq.mp h).1
/-- what is at a place of a list that has grown by one -/
theorem grown {α : Type} {xs : List α} {x y : α} {i : Nat} (h : (xs ++ [x])[i]? = some y) : (i < xs.length ∧ xs[i]? = some y) ∨ (i = xs.length ∧ y = x) := by
  rcases Nat.lt_trichotomy i xs.length with lt | eq | gt
  · rw [List.getElem?_append_left lt] at h
    exact .inl ⟨lt, h⟩
  · subst eq
    rw [List.getElem?_append_right (Nat.le_refl _), Nat.sub_self] at h
    exact .inr ⟨rfl, (Option.some.inj h).symm⟩
  · rw [List.getElem?_eq_none (by rw [List.length_append]; exact gt)] at h
    cases h
end Wf
/-! error classes of one's own, called with values by position or by name (own work over the library's facts) -/
namespace PySem.VX
open PySem Builtin Builtin.ObjectAttr
/-- KeyError has no __new__ of its own: an error over it is made by LookupError's -/
abbrev keyMro : List Value := ["KeyError", "LookupError", "Exception", "BaseException", "object"].map .type
theorem key_stores : StoreFacts "KeyError" keyMro "object.__setattr__" "object" := {
  F.store_LookupError with
  mro := by kernel_rfl
  slot := .of (owner := "object") (n := "__setattr__") (by rw [typeLookup_type, builtinLookup_eq_fast] <;> kernel_rfl) (by decide +kernel) (by decide +kernel) (by decide +kernel) (.inl (by decide +kernel)) (by rw [isSubtype_type] <;> kernel_rfl)
  hasOwner := by decide +kernel
  passes := fun _ => by kernel_rfl }

/-- in the heap h: C is a class over the built-in error B whose objects newId makes -/
structure Xc (h : Heap) (C : Addr) (B newId : String) : Prop where
  ex : ∃ nm q N bs bm hd sn sub ab col dd k0 k1 k2 k3 k5 initId bm0, h.get? C = some (excClassObj nm q C N bs bm hd sn sub ab col dd k0 k1 k2 k3 k5 newId) ∧ ExcBaseFacts B newId initId bm0 ∧
    (Value.ref C :: bm).contains (.type B) = true ∧ (Value.ref C :: bm).contains (.type "AttributeError") = false ∧ (Value.ref C :: bm).contains (.type "NameError") = false
/-- the object that is made: its values in a tuple, then itself -/
abbrev two (h : Heap) (C : Addr) (us : List Value) : Heap := (h.push (W.kdv_tup us)).push (HandSPX.excO C h.objs.size)
theorem two_keeps {h : Heap} {C : Addr} {us : List Value} {b : Addr} {o : Obj} (e : h.get? b = some o) : (two h C us).get? b = some o := Heap.get?_push_of_some _ (Heap.get?_push_of_some _ e)
theorem two_at {h : Heap} {C : Addr} {us : List Value} : (two h C us).get? (h.objs.size + 1) = some (HandSPX.excO C h.objs.size) := by heap_get
section
variable {P : Program} {w : World} {A : Around} {E : Value → Shared → Prop} {R : Result → Shared → Prop} {h : Heap} {g : Array GenState} {d : Drawn} {t : Nat} {os : OsState} {C fI : Addr} {B newId : String} {us : List Value} {kw : List (Str × Value)}
theorem Xc.checked {Q : Unit → Shared → Prop} (X : Xc h C B newId) (q : Q () ⟨h, g, d, t, os⟩) : wpAny (model P w) A (checkBuiltinCall newId ⟨.ref C :: us, kw⟩) Q E ⟨h, g, d, t, os⟩ := by
  obtain ⟨_, _, _, _, _, _, _, _, _, _, _, _, _, _, _, _, _, _, at', FB, isB, _, _⟩ := X.ex
  have := FB.noStar
  simp only [checkBuiltinCall, FB.newRow, FB.newKind, FB.newSplit]
  repeat (first | (refine wpAny_isSubtype_exc at' ?_; rw [isB]) | refine wpAny_staticBase_exc at' ?_ | refine wpAny_madeBy_exc at' ?_ | refine wpAny_loadPart_at at' ?_ | simp only [Bool.false_eq_true, bne_self_eq_false, if_false] | wp_step)
  exact q
theorem Xc.fresh (X : Xc h C B newId) (hl : us.length ≤ sizeLine) (q : R (.ok (.ret (.ref (h.objs.size + 1)))) ⟨two h C us, g, d, t, os⟩) : codeAny (model P w) A (.builtin newId ⟨.ref C :: us, kw⟩) R ⟨h, g, d, t, os⟩ := by
  obtain ⟨_, _, _, _, _, _, _, _, _, _, _, _, _, _, _, _, _, _, at', FB, isB, noA, noN⟩ := X.ex
  have := FB.ends
  apply codeAny_builtinAt FB.entry
  unfold Builtin.«BaseException.__new__»
  apply wpAt_bind
  change wpAt _ _ _ (stack >>= _) _ _ _
  apply wpAt_bind
  apply wpAt_stack
  intro _ _
  apply wpAt_of_wpAny
  wp_walk
  apply wpAt_of_wpAny
  rw [FB.owner]
  repeat (first | with_reducible refine wpAny_loadPart_at at' ?_ | with_reducible refine wpAny_madeHere_exc FB.canon at' ?_ | (with_reducible refine wpAny_isSubtype_exc at' ?_; first | rw [noA] | rw [noN] | rw [isB]) | wp_step)
  change R _ _
  rw [Heap.size_push] <;> exact q
/-- what comes back from __init__ -/
abbrev Back (e : Addr) (Q : Value → Shared → Prop) (E : Value → Shared → Prop) : Result → Shared → Prop := fun r s' => match r with
  | .ok (.ret v) => v = .none ∧ Q (.ref e) s'
  | .ok _ => False
  | .error x => E x s'
theorem Xc.made {Q : Fin → Shared → Prop} (X : Xc h C B newId) (hl : us.length ≤ sizeLine) (finds : W.Looks (model P w) h (typeLookup (.ref C) "__init__") (some (.ref fI))) (binds : ∀ v, W.Looks (model P w) h (bindSpecial (.ref fI) v) (.ref fI, [v]))
    (q : codeAny (model P w) A (.call (.ref fI) ⟨.ref (h.objs.size + 1) :: us, kw⟩) (Back (h.objs.size + 1) (fun v => Q (.done (.ret v))) E) ⟨two h C us, g, d, t, os⟩) : wpAny (model P w) A (Builtin.«type.__call__» ⟨.ref C :: us, kw⟩) Q E ⟨h, g, d, t, os⟩ := by
  obtain ⟨_, _, _, _, bm, _, _, _, _, _, _, _, _, _, _, _, _, _, at', FB, _, _, _⟩ := X.ex
  repeat (first | with_reducible refine wpAny_madeBy_exc at' ?_ | with_reducible refine wpAny_loadPart_at at' ?_ | wp_step)
  refine codeAny_call_builtin_code (Code.quiet_builtin _ FB.quiet) (X.checked (X.fresh hl ?_))
  change wpAny _ _ _ _ _ _
  have later := two_keeps (C := C) (us := us) at'
  have self : (Value.ref C :: bm).contains (.ref C) = true := by rw [List.contains_cons, beq_self_eq_true, Bool.true_or]
  have f2 := finds.keeps fun _ _ => two_keeps (C := C) (us := us)
  have b2 := (binds (.ref (h.objs.size + 1))).keeps fun _ _ => two_keeps (C := C) (us := us)
  unfold isInstance
  repeat (first | with_reducible refine wpAny_loadPart_at two_at ?_ | (with_reducible refine wpAny_isSubtype_exc later ?_; rw [self]) | wp_step)
  change wpAny _ _ (typeLookup (.ref C) _) _ _ _
  apply f2.at
  apply wpAny_holding
  apply wpAny_bind
  apply b2.at
  refine wpAny_bind (wpAny_call (codeAny_mono q ?_))
  intro r s' back
  match r, back with
  | .error _, back => exact back
  | .ok (.ret _), ⟨rfl, back⟩ => first | exact wpAny_pure (wpAny_pure back) | (wp_walk; exact back)
/-- C(..): an object of C, given to its __init__ -/
theorem Xc.call (X : Xc h C B newId) (hl : us.length ≤ sizeLine) (finds : W.Looks (model P w) h (typeLookup (.ref C) "__init__") (some (.ref fI))) (binds : ∀ v, W.Looks (model P w) h (bindSpecial (.ref fI) v) (.ref fI, [v]))
    (q : codeAny (model P w) (A.under (.builtin "type.__call__" ⟨.ref C :: us, kw⟩)) (.call (.ref fI) ⟨.ref (h.objs.size + 1) :: us, kw⟩) (Back (h.objs.size + 1) (fun v s' => R (.ok (.ret v)) s') fun x s' => R (.error x) s') ⟨two h C us, g, d, t, os⟩) :
    codeAny (model P w) A (.call (.ref C) ⟨us, kw⟩) R ⟨h, g, d, t, os⟩ := by
  obtain ⟨_, _, _, _, _, _, _, _, _, _, _, _, _, _, _, _, _, _, at', _⟩ := X.ex
  have isT : Shared.TypeIs ⟨h, g, d, t, os⟩ (.ref C) "type" := ⟨_, at', rfl⟩
  have l1 := tc_lookup
  have l2 := tc_bind (.ref C)
  apply codeAny_of_tree
  change wpAny _ _ (callAny (.ref C) _) _ _ _
  repeat (any_goals (first | assumption | with_reducible refine wpAny_loadPart_at at' ?_ | wp_step))
  exact ⟨rfl, codeAny_call_builtin_at (Code.quiet_builtin _ (by decide +kernel)) entry_typeCall (wpAny_check_type_call_sub at' (X.made hl finds binds (codeAny_mono q fun r s' z => match r, z with
    | .error _, z => z
    | .ok (.ret _), z => z)))⟩
end
end PySem.VX
/-! errors of classes of one's own as values: made (by position, by name), their one field stored and read -/
namespace PySem.VX
open PySem.W PyProof.Rows Builtin Builtin.ObjectAttr
/-- what has happened when an object's first field is stored: a dict at dx, named by the object, holds it -/
structure Fld (h h' : Heap) (x dx : Addr) (o : Obj) (f : Str) (v : Value) : Prop where
  keep : ∀ b u, b ≠ x → h.get? b = some u → h'.get? b = some u
  new : h.get? dx = none
  ne : dx ≠ x
  obj : h'.get? x = some { o with dict := some dx }
  dict : h'.Ns1 dx fun y => if y = f then some v else none
section
variable {P : Program} {w : World} {A : Around} {R : Result → Shared → Prop} {h : Heap} {g : Array GenState} {d : Drawn} {t : Nat} {os : OsState} {B : String} {bmB : List Value} {K : W.Frag} {f : Str} {tk : Tok} {v c2 : Value} {x C ta : Addr}
/-- self.f = v where self has no dict: by the library's first half, then the dict is made and filled -/
theorem first_field (SF : StoreFacts B bmB "object.__setattr__" "object") (KI : K.In h) (hx : h.get? x = some (excObj C ta none c2)) (over : excOver K C bmB = true) (hasD : hasDictIn K C = true) (free : takerIn K C f = some none)
    (q : ∀ h' tk' dx, Fld h h' x dx (excObj C ta none c2) f v → R (.ok (.ret .none)) ⟨h', g, d, tk', os⟩) : codeAny (model P w) A (.call (.builtin "object.__setattr__") ⟨[.ref x, .str f tk, v], []⟩) R ⟨h, g, d, t, os⟩ := by
  have lt := Heap.lt_size hx
  refine osa_openX (s := ⟨h, g, d, t, os⟩) (od := none) SF KI ⟨hx, rfl, rfl, trivial⟩ over free fun b => wpAny_bind (wpAny_pure (wpAny_bind ?_))
  obtain ⟨cd, isC, hasD⟩ := any_some hasD
  refine instanceDict_exc (s := ⟨h, g, d, t, os⟩) hx (looks_clsIn KI isC) hasD ?_
  have dictAt : ((h.push (dictOf [] 0)).update x fun o => { o with dict := some h.objs.size }).get? h.objs.size = some (dictOf [] 0) := by
    rw [Heap.get?_update_other _ _ (Nat.ne_of_lt lt)]
    exact Heap.get?_push_size _ rfl
  have objAt : ((h.push (dictOf [] 0)).update x fun o => { o with dict := some h.objs.size }).get? x = some { excObj C ta none c2 with dict := some h.objs.size } := Heap.get?_update_self _ (Heap.get?_push_of_some _ hx) rfl
  refine HandSPX.store_in_new ⟨_, #[], 0, dictAt, rfl, fun e he => absurd he (by simp), fun _ => rfl⟩ fun h' tk' filled same => q h' tk' h.objs.size ?_
  exact {
    keep := fun b u nb e => by
      rw [same.2 b (Nat.ne_of_lt (Heap.lt_size e)), Heap.get?_update_other _ _ (Ne.symm nb)]
      exact Heap.get?_push_of_some _ e
    new := Heap.StaysIn.fresh (base := h) (h := h) fun _ _ z => z
    ne := Nat.ne_of_gt lt
    obj := (same.2 x (Nat.ne_of_lt lt)).trans objAt
    dict := filled }
end
end PySem.VX

namespace Wf
open PySem PySem.Spec PyProof.Rows L2
/-- a built-in error that errors of one's own may stand over -/
structure VxB (bmB : List Value) (newId : String) : Prop where
  sf : ∃ B, StoreFacts B bmB "object.__setattr__" "object"
  nw : ∃ B initId bm0, ExcBaseFacts B newId initId bm0 ∧ bmB.contains (.type B) = true
  na : bmB.contains (.type "AttributeError") = false
  nn : bmB.contains (.type "NameError") = false
abbrev mroV : List Value := [.type "ValueError", .type "Exception", .type "BaseException", .type "object"]
abbrev mroK : List Value := PySem.VX.keyMro
abbrev mroL : List Value := [.type "LookupError", .type "Exception", .type "BaseException", .type "object"]
abbrev mroI : List Value := [.type "IndexError", .type "LookupError", .type "Exception", .type "BaseException", .type "object"]
abbrev mroA : List Value := [.type "ArithmeticError", .type "Exception", .type "BaseException", .type "object"]
theorem vxb_V : VxB mroV "ValueError.__new__" := ⟨⟨_, F.store_ValueError⟩, ⟨_, _, _, F.excBase_ValueError, by decide +kernel⟩, by decide +kernel, by decide +kernel⟩
theorem vxb_K : VxB mroK "LookupError.__new__" := ⟨⟨_, PySem.VX.key_stores⟩, ⟨_, _, _, F.excBase_LookupError, by decide +kernel⟩, by decide +kernel, by decide +kernel⟩
theorem vxb_L : VxB mroL "LookupError.__new__" := ⟨⟨_, F.store_LookupError⟩, ⟨_, _, _, F.excBase_LookupError, by decide +kernel⟩, by decide +kernel, by decide +kernel⟩
theorem vxb_I : VxB mroI "IndexError.__new__" := ⟨⟨_, F.store_IndexError⟩, ⟨_, _, _, F.excBase_IndexError, by decide +kernel⟩, by decide +kernel, by decide +kernel⟩
theorem vxb_A : VxB mroA "ArithmeticError.__new__" := ⟨⟨_, F.store_ArithmeticError⟩, ⟨_, _, _, F.excBase_ArithmeticError, by decide +kernel⟩, by decide +kernel, by decide +kernel⟩
/-- what the written part says of an error class -/
structure VxC (K : PySem.W.Frag) (C : Addr) : Prop where
  over : ∃ bmB newId, VxB bmB newId ∧ PySem.W.excInitIn K C bmB newId = true ∧ PySem.W.excOver K C bmB = true
  sa : PySem.W.findIn K (.ref C) "__setattr__" = some (some (.builtin "object.__setattr__"))
  kC : PySem.W.keepIn K (.ref C) = true
  is : ExcC K C
/-- at a: an error of the class at C with its field f, the value y -/
def Ve (H : Hp) (a C : Addr) (f : Str) (y : V) : Prop := ∃ d, H a = some (exo a C (some d)) ∧ H d = some (exd d [(f, y)])
theorem Ve.same {H H' : Hp} {a C : Addr} {f : Str} {y : V} (h : Ve H a C f y) (s : Same H H') : Ve H' a C f y := let ⟨d, e1, e2⟩ := h; ⟨d, s _ _ e1, s _ _ e2⟩
def spInit (K : PySem.W.Frag) (f : Str) : Sp := fun vs H Q _ => ∃ (a C : Addr) (y : V), vs = [.ref a, y] ∧ H a = some (exo a C none) ∧ VxC K C ∧ PySem.W.takerIn K C f = some none ∧
  ∀ d, H d = none → d ≠ a → Q .non (upd (upd H d (exd d [(f, y)])) a (exo a C (some d)))
/-- self.f = e, the first one -/
def tOv (K : PySem.W.Frag) (f : Str) (to te : TE) : TS := fun D σ H => te σ H fun y H1 => to σ H1 fun x H2 => ∃ a C : Addr, x = .ref a ∧ VxC K C ∧ PySem.W.takerIn K C f = some none ∧
  H2 a = some (exo a C none) ∧ ∀ dx, H2 dx = none → dx ≠ a → D.nx σ (upd (upd H2 dx (exd dx [(f, y)])) a (exo a C (some dx)))
section
variable {X : Cx} {pins : List (Addr × Obj)} {σ : L2.St} {H : Hp} {s : Shared} {a C dx : Addr} {f : Str} {y : V} {u : Value} {Q : Unit → Shared → Prop} {E : Value → Shared → Prop} {A : Around}
/-- the heap that is told of, when an error's first field is stored -/
abbrev told (H : Hp) (a C dx : Addr) (f : Str) (y : V) : Hp := upd (upd H dx (exd dx [(f, y)])) a (exo a C (some dx))
theorem fielded {hp h' : Heap} {g : Array GenState} {dr : Drawn} {t t' : Nat} {os : OsState} {ta : Addr} (I : Inv X pins σ H ⟨hp, g, dr, t, os⟩) (e : H a = some (exo a C none)) (F : PySem.VX.Fld hp h' a dx (PySem.W.excObj C ta none .none) f u) (ry : RelV y u) :
    H dx = none ∧ Inv X pins σ (told H a C dx f y) ⟨h', g, dr, t', os⟩ := by
  have gone : H dx = none := I.hok.gone F.new
  have off : ∀ {b : Addr}, H b = none → b ≠ a := fun n z => by cases (z ▸ n).symm.trans e
  have old : ∀ {b : Addr} {o : Obj}, hp.get? b = some o → b ≠ dx := fun q z => by cases (z ▸ q).symm.trans F.new
  have seen : ∀ {b : Addr} {o : HO}, H b = some o → exo a C none ≠ o → told H a C dx f y b = some o := fun q n => (upd_ne (at_ne e q n)).trans ((upd_ne (ne_of_none q gone)).trans q)
  have there : ∃ o, h'.get? a = some o := ⟨_, F.obj⟩
  refine ⟨gone, I.un (t' := t') ⟨fun b o q n _ _ => F.keep b o (off n) q, fun b o q n _ _ => ⟨_, F.keep b o (off n) q⟩, fun b o q n _ => (upd_ne (off n)).trans ((upd_ne (old q)).trans n),
    fun b o q _ => (Decidable.em (b = a)).elim (fun z => z ▸ there) fun z => ⟨o, F.keep b o z q⟩, fun b xs q => seen q exo_tup, fun b o v q => seen q exo_frz, fun b ps q => ⟨#[], by rw [seen q exo_tbl, Array.append_empty]⟩⟩ fun b o q => ?_⟩
  rcases Decidable.em (b = a) with rfl | nb
  · cases upd_same.symm.trans q
    exact exo_ok F.obj
  rcases Decidable.em (b = dx) with rfl | nd
  · cases ((upd_ne nb).trans upd_same).symm.trans q
    exact exd_ok F.dict (relO_put (fs := []) ry fun _ => trivial)
  · have was : H b = some o := (upd_ne nd).symm.trans ((upd_ne nb).symm.trans q)
    exact (I.hok b o was).stay (fun c v hc z => F.keep c v (hc.elim (fun y => y ▸ nb) fun y => at_ne e y exo_own) z) (fun c hc => seen hc exo_own) fun c xs hc => seen hc exo_tup
theorem ov_new (T : VxC X.K C) (I : Inv X pins σ H s) (e : H a = some (exo a C none)) (hno : PySem.W.takerIn X.K C f = some none) (ry : RelV y u) (h : ∀ dx s', H dx = none → dx ≠ a → Inv X pins σ (told H a C dx f y) s' → Q () s') :
    wpAny (model X.prog X.w) A (setAttr (.ref a) f u) Q E s := by
  obtain ⟨_, _, VB, _, over⟩ := T.over
  obtain ⟨_, SF⟩ := VB.sf
  obtain ⟨ta, at'⟩ := exo_at I.hok e
  obtain ⟨_, _, _, _, _⟩ := s
  refine PySem.W.set_plain (od := none) I.kIn ⟨at', rfl, rfl, trivial⟩ T.sa (PySem.VX.first_field SF I.kIn at' over T.is.hd hno fun h' tk' dx F => ?_)
  obtain ⟨gone, J⟩ := fielded (t' := tk') I e F ry
  exact h dx _ gone F.ne J
variable {o e : Expr} {to te : TE} {p p' pos : Pos}
theorem ps_ov (ho : PE X o to) (he : PE X e te) (hs : swapsWith e (some (.Attribute o f p')) pos.line X.env = pure false := by rfl) : PS X (.Assign [.Attribute o f p'] e pos) (tOv X.K f to te) := by
  refine ⟨fun pins s σ H D I h => ?_⟩
  refine plainObj_wpAny_Assign_Attribute (thn (he.run pins s σ H _ I h) fun v s1 ⟨y, H1, I1, r1, q1⟩ => thn (ho.run pins s1 σ H1 _ I1 q1) fun u s2 ⟨x, H2, I2, r2, a, C, ex, T, hno, ea, q⟩ => ?_) hs
  subst ex
  obtain rfl : u = Value.ref a := r2
  exact ov_new T I2 ea hno r1 fun dx s' n ne J => ⟨σ, _, J, q dx n ne⟩
end
/-- C(e), C(f=e): an error of the class at C -/
def tMkV (C : Addr) (f : Str) (te : TE) : TE := fun σ H Q => te σ H fun y H1 => ∀ a H', Same H1 H' → H1 a = none → Ve H' a C f y → Q (.ref a) H'
def tMkN (C : Addr) (f : Str) (te : TE) : TE := fun σ H Q => te σ H fun y H1 => ∀ a d H', Same H1 H' → H1 a = none → H1 d = none → H' a = some (exo a C (some d)) → H' d = some (exd d [(f, y)]) → Q (.ref a) H'
section
variable {X : Cx} {pins : List (Addr × Obj)} {σ : L2.St} {H1 : Hp} {s1 : Shared} {C fI : Addr} {fd : FuncData} {k : Nat} {f : Str} {y : V} {u : Value} {Q : VK} {x : Str} {e : Expr} {te : TE} {p pos kp : Pos}
theorem ve_callN {us : List Value} {kw : List (Str × Value)} (T : VxC X.K C) (iC : PySem.W.findIn X.K (.ref C) "__init__" = some (some (.ref fI))) (tI : PySem.W.typeIn X.K (.ref fI) = some (.type "function")) (D : FnOk X.prog X.w X.K X.mg X.base CX0 k fI fd ["self", f] (spInit X.K f)) (hr : Room (k + 1) X.A)
    (hno : PySem.W.takerIn X.K C f = some none) (bt : ∀ (t : Shared) (v : Value), X.K.In t.heap → BindsTo t fd ⟨v :: us, kw⟩ (List.zip (["self", f] : List Str) [v, u])) (hl : us.length ≤ 1000) (I : Inv X pins σ H1 s1) (ry : RelV y u)
    (q : ∀ a d H', Same H1 H' → H1 a = none → H1 d = none → H' a = some (exo a C (some d)) → H' d = some (exd d [(f, y)]) → Q (.ref a) H') : wpAny (model X.prog X.w) X.A (call (.ref C) us kw) (EP X pins σ Q) X.xe s1 := by
  obtain ⟨bmB, newId, VB, hi, _⟩ := T.over
  obtain ⟨B, _, _, FB, isB⟩ := VB.nw
  obtain ⟨hp, g, dr, tk, os⟩ := s1
  have XC : PySem.VX.Xc hp C B newId := by
    obtain ⟨nm, N', qn, bs, bm, hd, sn, sub, ab, col, dd, k0, k1, k2, k3, k5, at', like⟩ := PySem.W.excInit_of I.kIn hi
    exact ⟨_, _, _, _, _, _, _, _, _, _, _, _, _, _, _, _, _, _, at', FB, by rw [List.contains_cons, like, isB, Bool.or_true], by rw [List.contains_cons, like, VB.na] <;> rfl, by rw [List.contains_cons, like, VB.nn] <;> rfl⟩
  -- the new object
  obtain ⟨e, ee⟩ : ∃ e, e = hp.objs.size + 1 := ⟨_, rfl⟩
  have big : hp.objs.size ≤ e := by omega
  have gone : H1 e = none := I.hok.fresh big
  have J := I.laid (t' := tk) (a := e) (o := exo e C none) (fun _ _ => PySem.VX.two_keeps (C := C) (us := us)) big (exo_ok (t1 := hp.objs.size) (by rw [ee]; exact PySem.VX.two_at))
  refine wpAny_call (XC.call (by rw [sizeLine_eq]; omega) (PySem.W.looks_findIn I.kIn iC) (fun v => PySem.W.bind_fn I.kIn v tI) ?_)
  rw [← ee]
  -- its __init__
  refine codeAny_mono (D.run (vs := [.ref e, y]) (us := [.ref e, u]) (Q := fun v H2 => v = .non ∧ ∃ d, H1 d = none ∧ d ≠ e ∧ H2 = told (upd H1 e (exo e C none)) e C d f y) (E := fun _ _ _ => False) _ X.stack _ _ _ (hr.make C us kw) (J.env0.make C us kw) (bt _ _ J.kIn) (.cons rfl (.cons ry .nil))
    ⟨e, C, y, rfl, upd_same, T, hno, fun d nd ne => ⟨rfl, d, (upd_ne ne).symm.trans nd, ne, rfl⟩⟩) fun r s' back => ?_
  match r, back with
  | .ok (.ret _), back =>
    obtain ⟨_, _, J2, rel, rfl, d, nd, ne, rfl⟩ := J.after back
    refine ⟨rel, .ref e, _, J2, rfl, q e d _ (fun b o z => ?_) gone nd upd_same ((upd_ne ne).trans upd_same)⟩
    exact (upd_ne (ne_of_none z gone)).trans ((upd_ne (ne_of_none z nd)).trans ((upd_ne (ne_of_none z gone)).trans z))
theorem ve_call {us : List Value} {kw : List (Str × Value)} (T : VxC X.K C) (iC : PySem.W.findIn X.K (.ref C) "__init__" = some (some (.ref fI))) (tI : PySem.W.typeIn X.K (.ref fI) = some (.type "function")) (D : FnOk X.prog X.w X.K X.mg X.base CX0 k fI fd ["self", f] (spInit X.K f)) (hr : Room (k + 1) X.A)
    (hno : PySem.W.takerIn X.K C f = some none) (bt : ∀ (t : Shared) (v : Value), X.K.In t.heap → BindsTo t fd ⟨v :: us, kw⟩ (List.zip (["self", f] : List Str) [v, u])) (hl : us.length ≤ 1000) (I : Inv X pins σ H1 s1) (ry : RelV y u)
    (q : ∀ a H', Same H1 H' → H1 a = none → Ve H' a C f y → Q (.ref a) H') : wpAny (model X.prog X.w) X.A (call (.ref C) us kw) (EP X pins σ Q) X.xe s1 :=
  ve_callN T iC tI D hr hno bt hl I ry fun a d H' s n _ e1 e2 => q a H' s n ⟨d, e1, e2⟩
/-- what the text says of an error class with one field, by its name -/
structure Vn (P : Program) (w : World) (K : PySem.W.Frag) (mg : Str → Option Value) (base : Heap) (x : Str) (C : Addr) (f : Str) : Prop where
  cls : VxC K C
  gC : mg x = some (.ref C)
  no : PySem.W.findIn K (.ref C) f = some none
  init : ∃ (fI : Addr) (fd : FuncData), PySem.W.findIn K (.ref C) "__init__" = some (some (.ref fI)) ∧ PySem.W.typeIn K (.ref fI) = some (.type "function") ∧ FnOk P w K mg base CX0 1 fI fd ["self", f] (spInit K f) ∧
    (∀ (t : Shared) (v u : Value), BindsTo t fd ⟨[v, u], []⟩ (List.zip (["self", f] : List Str) [v, u])) ∧ ∀ (t : Shared) (v u : Value), BindsTo t fd ⟨[v], [(f, u)]⟩ (List.zip (["self", f] : List Str) [v, u])
theorem taker_of {K : PySem.W.Frag} {C : Addr} {f : Str} (h : PySem.W.findIn K (.ref C) f = some none) : PySem.W.takerIn K C f = some none := by
  unfold PySem.W.takerIn
  rw [h]
  rfl
theorem pe_vpos (N : Vn X.prog X.w X.K X.mg X.base x C f) (hr : Room 2 X.A) (he : PE X e te) (hg : Gl X x := by rfl) (hs : starEach [e] X.env = (false, eval e X.env) :: starEach [] X.env := by rfl) (hdb : (x == ("__debug__" : Str)) = false := by decide) :
    PE X (.Call (.Name x p) [e] [] pos) (tMkV C f te) := by
  obtain ⟨fI, fd, iC, tI, F1, hb, _⟩ := N.init
  refine ⟨fun pins s σ H Q I h => ?_⟩
  refine wpAny_Call_Name_kw (ld_glob I hg N.gC ?_ hdb)
  refine PySem.W.callWith_K (h₀ := X.base) I.ok.mod.kin N.cls.kC ?_ hs (by rfl)
  rw [hs]
  change wpAny _ _ (spliced (_ :: backTo pos (starEach [] X.env))) _ _ _
  exact Calls.spliced_cons (thn (he.run pins s σ H _ I h) fun u _ ⟨_, _, J, ry, q⟩ => Calls.spliced_nil ⟨J.kIn, ve_call N.cls iC tI F1 hr (taker_of N.no) (fun t v _ => hb t v u) (by show 1 ≤ 1000; omega) J ry q⟩)
theorem pe_vposN (N : Vn X.prog X.w X.K X.mg X.base x C f) (hr : Room 2 X.A) (he : PE X e te) (hg : Gl X x := by rfl) (hs : starEach [e] X.env = (false, eval e X.env) :: starEach [] X.env := by rfl) (hdb : (x == ("__debug__" : Str)) = false := by decide) :
    PE X (.Call (.Name x p) [e] [] pos) (tMkN C f te) := by
  obtain ⟨fI, fd, iC, tI, F1, hb, _⟩ := N.init
  refine ⟨fun pins s σ H Q I h => ?_⟩
  refine wpAny_Call_Name_kw (ld_glob I hg N.gC ?_ hdb)
  refine PySem.W.callWith_K (h₀ := X.base) I.ok.mod.kin N.cls.kC ?_ hs (by rfl)
  rw [hs]
  change wpAny _ _ (spliced (_ :: backTo pos (starEach [] X.env))) _ _ _
  exact Calls.spliced_cons (thn (he.run pins s σ H _ I h) fun u _ ⟨_, _, J, ry, q⟩ => Calls.spliced_nil ⟨J.kIn, ve_callN N.cls iC tI F1 hr (taker_of N.no) (fun t v _ => hb t v u) (by show 1 ≤ 1000; omega) J ry q⟩)
theorem pe_vkw (N : Vn X.prog X.w X.K X.mg X.base x C f) (hr : Room 2 X.A) (he : PE X e te) (hg : Gl X x := by rfl) (hdb : (x == ("__debug__" : Str)) = false := by decide)
    (hall : (backToKw pos (keywordEach [⟨some f, e, kp⟩] X.env)).all (·.1.isSome) = true := by rfl) (hks : (backToKw pos (keywordEach [⟨some f, e, kp⟩] X.env)).filterMap (·.1) = [f] := by rfl)
    (hpl : ((backTo pos (starEach [] X.env)).any (·.1) || (backToKw pos (keywordEach [⟨some f, e, kp⟩] X.env)).any (·.1.isNone)) = false := by rfl) :
    PE X (.Call (.Name x p) [] [⟨some f, e, kp⟩] pos) (tMkV C f te) := by
  obtain ⟨fI, fd, iC, tI, F1, _, hb⟩ := N.init
  refine ⟨fun pins s σ H Q I h => ?_⟩
  refine wpAny_Call_Name_kw (ld_glob I hg N.gC ?_ hdb)
  refine PySem.W.callWith_KW0 (h₀ := X.base) I.ok.mod.kin N.cls.kC hall ?_ hpl
  have K1 : PK X [⟨some f, e, kp⟩] (tCons te tNil) := pk_cons he pk_nil
  refine thn (K1.run pos pins s σ H (fun vs H1 => match vs with | [y] => ∀ a H', Same H1 H' → H1 a = none → Ve H' a C f y → Q (.ref a) H' | _ => False) I h) fun ws s1 ⟨vs, H1, I1, rz, q1⟩ => ?_
  match vs, rz, q1 with
  | [], _, q1 => exact q1.elim
  | _ :: _ :: _, _, q1 => exact q1.elim
  | [y], rz, q1 =>
  obtain ⟨u, rfl, r1⟩ := vals1 rz
  refine ⟨I1.kIn, ?_⟩
  rw [hks]
  exact ve_call N.cls iC tI F1 hr (taker_of N.no) (fun t v _ => hb t v u) (by show 0 ≤ 1000; omega) I1 r1 q1
end
end Wf
namespace Wf
open PySem PySem.Spec PyProof.Rows L2
/-- e.f, e an error as a value -/
def tVf (K : PySem.W.Frag) (f : Str) (te : TE) : TE := fun σ H Q => te σ H fun x H1 => ∃ (a C : Addr) (y : V), x = .ref a ∧ VxC K C ∧ PySem.W.findIn K (.ref C) f = some none ∧ Ve H1 a C f y ∧ Q y H1
section
variable {X : Cx} {e : Expr} {te : TE} {pos : Pos} {f : Str}
theorem pe_vf (he : PE X e te) (hb : attributeBase e f X.env (eval e X.env) = eval e X.env := by rfl) : PE X (.Attribute e f pos) (tVf X.K f te) := by
  refine ⟨fun pins s σ H Q I h => ?_⟩
  refine attr_of hb (thn (he.run pins s σ H _ I h) fun u s1 ⟨x, H1, I1, rx, a, C, y, ex, T, hno, ⟨d, ea, ed⟩, q⟩ => ?_)
  subst ex
  obtain rfl : u = Value.ref a := rx
  obtain ⟨t1, ho1⟩ := exo_at I1.hok ea
  obtain ⟨mA, hns, hr⟩ := exd_at I1.hok ed
  obtain ⟨od, ho, hl⟩ := lookIn_ns hns
  obtain ⟨u, hu, ru⟩ := RelO.some_of (v := y) (o := mA f) (by have z := hr f; rw [lookup_put, if_pos rfl] at z; exact z)
  have J : PySem.W.InstAt s1.heap a _ C (some od) := ⟨ho1, rfl, rfl, ho⟩
  exact HandSPX.exc_get I1.kIn J T.is.hg T.is.hk T.is.hs (PySem.W.findObj_own T.is.hd hno rfl (by rw [hl, hu])) (handed_of ru) ⟨y, H1, I1.tok _, ru, q⟩
end
/-! ### errors without a field -/
structure Vn0 (K : PySem.W.Frag) (mg : Str → Option Value) (x : Str) (C : Addr) : Prop where
  cls : ∃ B newId initId bmB, ExcBaseFacts B newId initId bmB ∧ PySem.W.excIn K C bmB newId = true
  is : ExcC K C
  kC : PySem.W.keepIn K (.ref C) = true
  gC : mg x = some (.ref C)
/-- at a: an error of the class at C without a field -/
def Ve0 (H : Hp) (a C : Addr) : Prop := H a = some (ExO (.ref C) a)
theorem Ve0.same {H H' : Hp} {a C : Addr} (h : Ve0 H a C) (s : Same H H') : Ve0 H' a C := s _ _ h
section
variable {X : Cx} {C : Addr} {x : Str} {p pos : Pos}
theorem pe_v0 (N : Vn0 X.K X.mg x C) (hg : Gl X x := by rfl) (hdb : (x == ("__debug__" : Str)) = false := by decide) :
    PE X (.Call (.Name x p) [] [] pos) (fun _ H Q => ∀ a, H a = none → Q (.ref a) (upd H a (ExO (.ref C) a))) := by
  obtain ⟨B, newId, initId, bmB, F, q⟩ := N.cls
  refine ⟨fun pins s σ H Q I h => ?_⟩
  refine wpAny_Call_Name_kw (ld_glob I hg N.gC ?_ hdb)
  refine PySem.W.callWith_K0 I.kIn N.kC ?_
  show wpAny _ _ (call (.ref C) []) _ _ _
  obtain ⟨bm, N', nm, qn, bs, hdct, sn, sub, ab, col, dd, k0, k1, k2, k3, k5, mN, hC, hN, hni, T⟩ := exc_obj I.kIn q
  refine wpAny_call_exc_subT F T hC hN hni (fun h' a hm => ?_) (by show 0 ≤ sizeLine; rw [sizeLine_eq]; omega)
  have hn : H a = none := I.hok.gone hm.new
  obtain ⟨t, ht, _, _⟩ := hm.there
  exact ⟨.ref a, upd H a (ExO (.ref C) a), I.laidN hm.keeps hm.new hn (exO_ok ht ⟨rfl, rfl⟩ rfl rfl rfl (show 4 < 6 by decide)), rfl, h a hn⟩
end
/-! ### isinstance(e, T) -/
/-- at a: an error of the class at C -/
def VeA (H : Hp) (a C : Addr) : Prop := Ve0 H a C ∨ ∃ f y, Ve H a C f y
def rVi (K : PySem.W.Frag) : List V → Hp → VK → Prop := fun xs H Q => ∃ (a C : Addr) (T : String) (b : Bool), xs = [.ref a, .ty T] ∧ ExcC K C ∧ VeA H a C ∧ PySem.W.kitOne K (.ref C) (.type T) = some b ∧ Q (.bl b) H
section
variable {X : Cx}
theorem ex_isSome {K : PySem.W.Frag} {C : Addr} (h : PySem.W.hasDictIn K C = true) : (PySem.W.clsIn K C).isSome = true := by
  obtain ⟨cd, hc, _⟩ := PySem.W.any_some h
  rw [hc]
  rfl
theorem call_vi : CallR X (.builtin "isinstance") (rVi X.K) := by
  intro pins s σ H xs us Q I r h
  obtain ⟨a, C, T, b, rfl, E, hv, e, q⟩ := h
  obtain ⟨u1, u2, rfl, r1, r2⟩ := vals2 r
  obtain rfl : u1 = Value.ref a := r1
  obtain rfl : u2 = Value.type T := r2
  have fin : ∀ {ox : Obj} {od : Option Obj}, PySem.W.InstAt s.heap a ox C od → wpAny (model X.prog X.w) X.A (call (.builtin "isinstance") [.ref a, .type T]) (EP X pins σ Q) X.xe s := fun {ox od} J =>
    PySem.W.kia_one (PySem.W.kitx_exc (ex_isSome E.hd) E.hg E.hk E.hs E.ha E.hn E.ht E.hm) I.kIn J e (fun z => nomatch z) fun tk => ⟨.bl b, H, I.tok tk, rfl, q⟩
  rcases hv with h0 | ⟨f, y, d, ea, ed⟩
  · obtain ⟨⟨oe, vs, ho, hz, hd, _⟩, _, _⟩ := (show ObjOk X.prog X.w H s.heap a (ExO (.ref C) a) from I.hok a _ h0)
    exact fin (ox := oe) (od := none) ⟨ho, hz.1, by unfold PySem.W.notCls; rw [hd] <;> rfl, by rw [hz.2]; trivial⟩
  · obtain ⟨t1, ho1⟩ := exo_at I.hok ea
    obtain ⟨mA, hns, hr⟩ := exd_at I.hok ed
    obtain ⟨od, ho, _⟩ := lookIn_ns hns
    exact fin (od := some od) ⟨ho1, rfl, rfl, ho⟩
end
/-- a built-in class by its name -/
theorem pe_ty {X : Cx} {x : Str} {T : String} {pos : Pos} (hm : X.mg x = none) (hv : bootBuiltins x = some (.type T)) (hg : Gl X x := by rfl) (hn : x ≠ "__name__" := by decide) (hd : (x == ("__debug__" : Str)) = false := by decide) : PE X (.Name x pos) (tC (.ty T)) :=
  pe_bltn hg hm hv rfl hn hd
/-- which of the six groups an error's class is in -/
structure Grp (K : PySem.W.Frag) (C : Addr) (b1 b2 b3 b4 b5 b6 : Bool) : Prop where
  ex : ExcC K C
  g1 : PySem.W.kitOne K (.ref C) (.type "ValueError") = some b1
  g2 : PySem.W.kitOne K (.ref C) (.type "KeyError") = some b2
  g3 : PySem.W.kitOne K (.ref C) (.type "IndexError") = some b3
  g4 : PySem.W.kitOne K (.ref C) (.type "ArithmeticError") = some b4
  g5 : PySem.W.kitOne K (.ref C) (.type "TypeError") = some b5
  g6 : PySem.W.kitOne K (.ref C) (.type "RuntimeError") = some b6
end Wf
namespace Wf
open PySem PySem.Spec PyProof.Rows L2
/-! ### repr of data, and of dicts of whole numbers -/
def keyP : Key → PyData
  | .inl i => .int i
  | .inr x => .str x
/-- a dict of whole numbers -/
def dkI (ks : List (Key × Int)) : HO := .dK (ks.map fun p => (p.1, V.int p.2))
def dataI (ks : List (Key × Int)) : PyData := .dict (ks.map fun p => (keyP p.1, PyData.int p.2))
theorem reads_pairs {P : Program} {w : World} {h : Heap} : ∀ {ks : List (Key × Int)} {es : List DictEntry} {vs : List (Key × Value)}, KV (ks.map fun p => (p.1, V.int p.2)) vs → Pairs (mixKind P w) es vs →
    ReadsAll h (es.map (·.key)) (ks.map fun p => keyP p.1) [] ∧ ReadsAll h (es.map (·.val)) (ks.map fun p => PyData.int p.2) []
  | [], es, vs, kv, pr => by
    cases kv
    cases pr
    exact ⟨.nil, .nil⟩
  | (k, i) :: ks, es, vs, kv, pr => by
    cases kv with
    | @cons _ q _ qs h t =>
      cases pr with
      | @cons e _ es' _ hk hv hr =>
        obtain ⟨a, b⟩ := reads_pairs t hr
        obtain ⟨h1, h2⟩ := h
        obtain ⟨tk, h2⟩ := h2
        have h1 : k = q.1 := h1
        have hk : keyIs q.1 e.key = true := hk
        rw [← h1] at hk
        refine ⟨?_, ?_⟩
        · have one : Reads h e.key (keyP k) [] := by
            rcases keyIs_shape hk with ⟨j, t, rfl, e2⟩ | ⟨y, t, rfl, e2⟩
            · rw [e2]; exact .int _ _
            · rw [e2]; exact .str _ _
          exact ReadsAll.cons (as := []) (bs := []) one a
        · have one : Reads h e.val (PyData.int i) [] := by
            rw [hv, h2]
            exact .int _ _
          exact ReadsAll.cons (as := []) (bs := []) one b
/-- what can be shown: data, or a dict of whole numbers -/
inductive Rp (K : PySem.W.Frag) (H : Hp) : V → PyData → Prop
  | dp {v : V} {d : PyData} : Dp K H v d → Rp K H v d
  | dk {a : Addr} {ks : List (Key × Int)} : H a = some (dkI ks) → Rp K H (.ref a) (dataI ks)
theorem Rp.same {K : PySem.W.Frag} {H H' : Hp} {v : V} {d : PyData} (r : Rp K H v d) (s : Same H H') : Rp K H' v d := by
  cases r with
  | dp h => exact .dp ((Stay.of s).dp h)
  | dk h => exact .dk (s _ _ h)
section
variable {X : Cx}
def rReprV (K : PySem.W.Frag) : List V → Hp → VK → Prop := fun xs H Q => ∃ v d, xs = [v] ∧ Rp K H v d ∧ d.showable = true ∧ d.depth ≤ 60 ∧ d.shown.length ≤ sizeLine ∧ Q (.str d.shown) H
theorem cr_reprV (hq : Qt X.A) (hu : X.A.units + 64 < cLine) : CallR X (.builtin "repr") (rReprV X.K) := by
  intro pins s σ H xs us Q I r h
  obtain ⟨v, d, rfl, hd, sh, dp, sz, q⟩ := h
  cases hd with
  | dp hd => exact cr_repr hq hu pins s σ H _ _ Q I r ⟨v, d, rfl, hd, sh, dp, sz, q⟩
  | @dk a ks ea =>
    obtain ⟨u, rfl, rx⟩ := vals1 r
    obtain rfl : u = Value.ref a := rx
    obtain ⟨_, ns, vs, kv, o, es, ep, ho, hx, hd, _, hp, _⟩ := dk_of I.hok ea
    obtain ⟨r1, r2⟩ := reads_pairs (h := s.heap) kv hp
    have q1 : ReadsAll s.heap (es.toList.map (·.key)) ((ks.map fun p : Key × Int => (keyP p.1, PyData.int p.2)).map (·.1)) [] := by rw [List.map_map]; exact r1
    have q2 : ReadsAll s.heap (es.toList.map (·.val)) ((ks.map fun p : Key × Int => (keyP p.1, PyData.int p.2)).map (·.2)) [] := by rw [List.map_map]; exact r2
    have rd : Reads s.heap (.ref a) (.dict (ks.map fun p : Key × Int => (keyP p.1, PyData.int p.2))) ([a] ++ []) := Reads.dict ho hx.1 hd q1 q2
    have dp' : (PyData.dict (ks.map fun p : Key × Int => (keyP p.1, PyData.int p.2))).depth ≤ 60 := dp
    exact repr_of_reads' rd sh (fun _ hm => by
      have e := List.mem_singleton.mp (by simpa using hm)
      rw [e] at ns
      exact absurd ns (by simp)) hq (by omega) (fun _ _ z => z) (fun h' u tk k => ⟨.str _, H, I.kept k, ⟨_, rfl⟩, q⟩) sz
end
end Wf
/-! raise of an error that is made as a value: C(e), C(f=e), C(), a name that holds one -/
namespace Wf
open PySem PySem.Spec PyProof.Rows L2
section
variable {X : Cx} {pins : List (Addr × Obj)} {σ : L2.St} {H : Hp} {s : Shared}
/-- what is told of the object at d is said anew, the heap as it is -/
theorem relabel {d : Addr} {φ : Heap → Prop} {u : HO} (I : Inv X pins σ H s) (hd : H d = some (.ext φ)) (hu : ObjOk X.prog X.w (upd H d u) s.heap d u) : Inv X pins σ (upd H d u) s := by
  have off : ∀ {b : Addr}, H b = none → b ≠ d := fun n z => by cases (z ▸ n).symm.trans hd
  have seen : ∀ {b : Addr} {o : HO}, H b = some o → HO.ext φ ≠ o → upd H d u b = some o := fun q n => (upd_ne (at_ne hd q n)).trans q
  refine I.un (t' := s.toks) (h' := s.heap) ⟨fun _ _ q _ _ _ => q, fun _ o q _ _ _ => ⟨o.slots, q⟩, fun _ _ _ n _ => (upd_ne (off n)).trans n, fun _ o q _ => ⟨o, q⟩, fun _ _ q => seen q (fun z => by cases z), fun _ _ _ q => seen q (fun z => by cases z), fun _ _ q => ⟨#[], by rw [seen q (fun z => by cases z), Array.append_empty]⟩⟩ fun b o q => ?_
  rcases Decidable.em (b = d) with rfl | nb
  · cases upd_same.symm.trans q
    exact hu
  · exact (I.hok b o ((upd_ne nb).symm.trans q)).stay (fun _ _ _ z => z) (fun _ hc => seen hc (fun z => by cases z)) fun _ _ hc => seen hc (fun z => by cases z)
/-- raise e, e an error with a field -/
def tRv (K : PySem.W.Frag) (H0 : Hp) (te : TE) : L2.St → Hp → XK → Prop := fun σ H Q => te σ H fun x H1 => ∃ (a C : Addr) (f : Str) (y : V), x = .ref a ∧ Ve H1 a C f y ∧ H0 a = none ∧ ExcC K C ∧ PySem.W.typeIn K (.ref C) = some (.type "type") ∧
  ∀ d H', Same (del H1 a) (upd H' d (exd d [(f, y)])) → H' a = none → H' d = some (.xd [(f, y)]) → (∀ b, b ≠ d → b ≠ a → H' b = H1 b) → Q (.ref C) (some d) H'
theorem pmk_v {e : Expr} {te : TE} (hx : X.ex = []) (he : PE X e te) : PMk X e (tRv X.K X.H_0 te) := by
  intro pins s σ H Q I h
  refine wpAny_mono (he.run pins s σ H _ I h) (fun u s1 hu => ?_) fun _ _ z => z
  obtain ⟨v, H1, J, rv, a, C, f, y, rfl, ⟨d, ea, ed⟩, h0, ex, ty, q⟩ := hu
  cases rv
  obtain ⟨t1, ho⟩ := exo_at J.hok ea
  have ne : d ≠ a := fun z => by
    obtain ⟨_, ⟨_, _, _, e1, e2, _⟩, _⟩ := exd_at J.hok ed
    rw [z] at e1
    cases ho.symm.trans e1
    cases e2
  obtain ⟨G, gs, ga, J2⟩ := J.untrack ea (fun o z => by cases h0.symm.trans z) hx
  have ed2 : delH H1 a d = some (exd d [(f, y)]) := (delH_ne ne).trans ed
  obtain ⟨mA, dict, rel⟩ := exd_at J2.hok ed2
  have J3 := relabel (u := .xd [(f, y)]) J2 ed2 ⟨mA, dict, rel⟩
  refine ⟨a, _, _, { s1 with heap := G }, _, .ref C, some d, rfl, J3, gs, ga, ho, ⟨rfl, rfl⟩, rfl, rfl, (upd_ne ne.symm).trans delH_same, rfl, J.bare, raises_own ex.hs ty, ?_⟩
  refine q d _ (fun b o z => ?_) ((upd_ne ne.symm).trans delH_same) upd_same fun b n1 n2 => (upd_ne n1).trans (delH_ne n2)
  rcases Decidable.em (b = d) with rfl | nb
  · rw [upd_same, ← z, del_ne ne, ed]
  · rw [upd_ne nb, upd_ne nb]
    exact z
end
end Wf
/-! any data, at any depth: what stands in the heap, shown, asked for its kind -/
namespace Wf
open PySem PySem.Spec PyProof.Rows L2
mutual
inductive Dq (K : PySem.W.Frag) (H : Hp) : V → PyData → Prop
  | non : Dq K H .non .none
  | bl (b : Bool) : Dq K H (.bl b) (.bool b)
  | int (i : Int) : Dq K H (.int i) (.int i)
  | str (x : Str) : Dq K H (.str x) (.str x)
  | lst {a : Addr} {xs : List V} {ds : List PyData} : SqL K H a xs → DqAll K H xs ds → Dq K H (.ref a) (.list ds)
  | tup {a : Addr} {xs : List V} {ds : List PyData} : SqT K H a xs → DqAll K H xs ds → Dq K H (.ref a) (.tuple ds)
  | dk {a : Addr} {ks : List (Key × Int)} {kd : List (PyData × PyData)} : H a = some (dkI ks) → kd = ks.map (fun p => (keyP p.1, PyData.int p.2)) → Dq K H (.ref a) (.dict kd)
inductive DqAll (K : PySem.W.Frag) (H : Hp) : List V → List PyData → Prop
  | nil : DqAll K H [] []
  | cons {v : V} {vs : List V} {d : PyData} {ds : List PyData} : Dq K H v d → DqAll K H vs ds → DqAll K H (v :: vs) (d :: ds)
end
theorem pen_dk {H : Hp} {p c a : Addr} {n : Nat} {ks : List (Key × Int)} (hp : Pen H p c n) (e : H a = some (dkI ks)) : a ≠ p := fun q => by
  obtain ⟨ns, sp, mo, e2, _⟩ := hp
  rw [q, e2] at e
  have e3 : penO c sp mo = dkI ks := Option.some.inj e
  cases ks with
  | nil => cases e3
  | cons k ks =>
    have e4 : [((.inr "cells" : Key), V.ref c), (.inr "spot", .int sp), (.inr "more", .int mo)] = ((k.1, V.int k.2) :: ks.map fun p => (p.1, V.int p.2)) := HO.dK.inj e3
    have e5 := (List.cons.inj e4).1
    cases (Prod.mk.inj e5).2
/-- what is read stays, dicts too -/
structure Sty (K : PySem.W.Frag) (H H' : Hp) : Prop extends Stay K H H' where
  d : ∀ a ks, H a = some (dkI ks) → H' a = some (dkI ks)
section
variable {K : PySem.W.Frag} {H H' H1 H2 : Hp} {p c : Addr} {n : Nat}
theorem Sty.of (s : Same H H') : Sty K H H' := ⟨Stay.of s, fun _ _ e => s _ _ e⟩
theorem But.sty (b : But p H H') (hp : Pen H p c n) : Sty K H H' := ⟨b.stay hp, fun a ks e => b a _ (pen_dk hp e) e⟩
theorem Sty.refl : Sty K H H := ⟨Stay.refl, fun _ _ h => h⟩
theorem Sty.trans (a : Sty K H H1) (b : Sty K H1 H2) : Sty K H H2 := ⟨a.toStay.trans b.toStay, fun x ks h => b.d x ks (a.d x ks h)⟩
mutual
theorem Sty.dq (s : Sty K H H') : ∀ {d : PyData} {v : V}, Dq K H v d → Dq K H' v d
  | .none, _, h => by
    cases h
    exact .non
  | .bool _, _, h => by
    cases h
    exact .bl _
  | .int _, _, h => by
    cases h
    exact .int _
  | .str _, _, h => by
    cases h
    exact .str _
  | .list ds, _, h => by
    cases h with
    | lst q a => exact .lst (s.l _ _ q) (s.dqAll a)
  | .tuple ds, _, h => by
    cases h with
    | tup q a => exact .tup (s.t _ _ q) (s.dqAll a)
  | .dict _, _, h => by
    cases h with
    | dk e k => exact .dk (s.d _ _ e) k
theorem Sty.dqAll (s : Sty K H H') : ∀ {ds : List PyData} {vs : List V}, DqAll K H vs ds → DqAll K H' vs ds
  | [], _, h => by
    cases h
    exact .nil
  | d :: ds, _, h => by
    cases h with
    | cons a b => exact .cons (s.dq a) (s.dqAll b)
end
mutual
theorem Dq.ofDp : ∀ {d : PyData} {v : V}, Dp K H v d → Dq K H v d
  | .none, _, h => by
    cases h
    exact .non
  | .bool _, _, h => by
    cases h
    exact .bl _
  | .int _, _, h => by
    cases h
    exact .int _
  | .str _, _, h => by
    cases h
    exact .str _
  | .list ds, _, h => by
    cases h with
    | lst q a => exact .lst q (DqAll.ofDp a)
  | .tuple ds, _, h => by
    cases h with
    | tup q a => exact .tup q (DqAll.ofDp a)
  | .dict _, _, h => by cases h
theorem DqAll.ofDp : ∀ {ds : List PyData} {vs : List V}, DpAll K H vs ds → DqAll K H vs ds
  | [], _, h => by
    cases h
    exact .nil
  | d :: ds, _, h => by
    cases h with
    | cons a b => exact .cons (Dq.ofDp a) (DqAll.ofDp b)
end
theorem DqAll.len : ∀ {vs : List V} {ds : List PyData}, DqAll K H vs ds → vs.length = ds.length
  | _, _, .nil => rfl
  | _, _, .cons _ b => congrArg (· + 1) b.len
theorem DqAll.get : ∀ {vs : List V} {ds : List PyData} {i : Nat} {v : V}, DqAll K H vs ds → vs[i]? = some v → ∃ d, ds[i]? = some d ∧ Dq K H v d
  | _, _, 0, _, .cons a _, e => ⟨_, rfl, by cases e; exact a⟩
  | _, _, i + 1, _, .cons _ b, e => b.get (i := i) e
theorem DqAll.at : ∀ {vs : List V} {ds : List PyData} {i : Nat} {d : PyData}, DqAll K H vs ds → ds[i]? = some d → ∃ v, vs[i]? = some v ∧ Dq K H v d
  | _, _, 0, _, .cons a _, e => ⟨_, rfl, by cases e; exact a⟩
  | _, _, i + 1, _, .cons _ b, e => b.at (i := i) e
theorem DqAll.set : ∀ {vs : List V} {ds : List PyData} {i : Nat} {v : V} {d : PyData}, DqAll K H vs ds → Dq K H v d → DqAll K H (vs.set i v) (ds.set i d)
  | _, _, _, _, _, .nil, _ => .nil
  | _, _, 0, _, _, .cons _ b, h => .cons h b
  | _, _, i + 1, _, _, .cons a b, h => .cons a (b.set (i := i) h)
theorem DqAll.app : ∀ {vs ws : List V} {ds es : List PyData}, DqAll K H vs ds → DqAll K H ws es → DqAll K H (vs ++ ws) (ds ++ es)
  | _, _, _, _, .nil, h => h
  | _, _, _, _, .cons a b, h => .cons a (b.app h)
theorem DqAll.of {α : Type} {f : α → V} {g : α → PyData} : ∀ {xs : List α}, (∀ x ∈ xs, Dq K H (f x) (g x)) → DqAll K H (xs.map f) (xs.map g)
  | [], _ => .nil
  | x :: xs, h => .cons (h x List.mem_cons_self) (DqAll.of fun y hy => h y (List.mem_cons_of_mem _ hy))
end
section
variable {X : Cx} {pins : List (Addr × Obj)} {σ : L2.St} {H : Hp} {s : Shared}
theorem not_mods {a : Addr} {o : Obj} {n : Array Value} {n2 : _} (M : Mods X.base) (I : Inv X pins σ H s) (e : s.heap.get? a = some o) (d : o.data = .seq n n2) : sysModules ≠ a := fun z => by
  obtain ⟨m, u, es, ep, hu, du, _⟩ := M
  have e2 := I.bk _ _ hu
  rw [z, e] at e2
  cases e2
  rw [d] at du
  cases du
mutual
theorem Dq.reads (M : Mods X.base) (I : Inv X pins σ H s) : ∀ (d : PyData) (v : V) (u : Value), Dq X.K H v d → RelV v u → ∃ as, Reads s.heap u d as ∧ sysModules ∉ as
  | .none, _, _, h, r => by
    cases h
    cases r
    exact ⟨_, Reads.none, List.not_mem_nil⟩
  | .bool b, _, _, h, r => by
    cases h
    cases r
    exact ⟨_, Reads.bool b, List.not_mem_nil⟩
  | .int i, _, _, h, r => by
    cases h
    obtain ⟨t, rfl⟩ := r
    exact ⟨_, Reads.int i t, List.not_mem_nil⟩
  | .str x, _, _, h, r => by
    cases h
    obtain ⟨t, rfl⟩ := r
    exact ⟨_, Reads.str x t, List.not_mem_nil⟩
  | .list ds, _, _, h, r => by
    cases h with
    | lst hs ha =>
      cases r
      obtain ⟨its, rv, ⟨o, n, ho, hc, _, hd⟩, _⟩ := I.list hs
      obtain ⟨as, hr, hn⟩ := Dq.readsAll M I ds _ its ha rv
      exact ⟨_, Reads.list ho hc hd hr, fun z => (List.mem_cons.mp z).elim (not_mods M I ho hd) hn⟩
  | .tuple ds, _, _, h, r => by
    cases h with
    | tup hs ha =>
      cases r
      obtain ⟨its, rv, ⟨o, ho, hc, n, hd⟩, _⟩ := I.tuple hs
      obtain ⟨as, hr, hn⟩ := Dq.readsAll M I ds _ its ha rv
      exact ⟨_, Reads.tuple ho hc hd hr, hn⟩
  | .dict kd, _, _, h, r => by
    cases h with
    | @dk a ks _ ea ek =>
      cases r
      subst ek
      obtain ⟨_, ns, vs, kv, o, es, ep, ho, hx, hd, _, hp, _⟩ := dk_of I.hok ea
      obtain ⟨r1, r2⟩ := reads_pairs (h := s.heap) kv hp
      have q1 : ReadsAll s.heap (es.toList.map (·.key)) ((ks.map fun p : Key × Int => (keyP p.1, PyData.int p.2)).map (·.1)) [] := by rw [List.map_map]; exact r1
      have q2 : ReadsAll s.heap (es.toList.map (·.val)) ((ks.map fun p : Key × Int => (keyP p.1, PyData.int p.2)).map (·.2)) [] := by rw [List.map_map]; exact r2
      refine ⟨_, Reads.dict ho hx.1 hd q1 q2, fun hm => ?_⟩
      have e := List.mem_singleton.mp (by simpa using hm)
      rw [← e] at ns
      exact absurd ns (by simp)
theorem Dq.readsAll (M : Mods X.base) (I : Inv X pins σ H s) : ∀ (ds : List PyData) (vs : List V) (us : List Value), DqAll X.K H vs ds → Vals vs us → ∃ as, ReadsAll s.heap us ds as ∧ sysModules ∉ as
  | [], _, _, h, r => by
    cases h
    cases r
    exact ⟨_, ReadsAll.nil, List.not_mem_nil⟩
  | d :: ds, _, _, h, r => by
    cases h with
    | cons h1 h2 =>
      cases r with
      | cons r1 r2 =>
        obtain ⟨as, q1, n1⟩ := Dq.reads M I d _ _ h1 r1
        obtain ⟨bs, q2, n2⟩ := Dq.readsAll M I ds _ _ h2 r2
        exact ⟨_, ReadsAll.cons q1 q2, fun z => (List.mem_append.mp z).elim n1 n2⟩
end
end
section
variable {X : Cx}
def rReprQ (K : PySem.W.Frag) : List V → Hp → VK → Prop := fun xs H Q => ∃ v d, xs = [v] ∧ Dq K H v d ∧ d.showable = true ∧ d.depth ≤ 60 ∧ d.shown.length ≤ sizeLine ∧ Q (.str d.shown) H
theorem cr_reprQ (M : Mods X.base) (hq : Qt X.A) (hu : X.A.units + 64 < cLine) : CallR X (.builtin "repr") (rReprQ X.K) := by
  intro pins s σ H xs us Q I r h
  obtain ⟨v, d, rfl, hd, sh, dp, sz, q⟩ := h
  obtain ⟨u, rfl, rx⟩ := vals1 r
  obtain ⟨as, rd, nm⟩ := Dq.reads M I d v u hd rx
  cases rd with
  | none => exact PySem.P.repr_of_none ⟨.str _, H, I.tok _, ⟨_, rfl⟩, q⟩
  | bool b => exact PySem.P.repr_of_bool ⟨.str _, H, I.tok _, ⟨_, rfl⟩, q⟩
  | int i t => exact PySem.P.repr_of_int (of_decide_eq_true sh) ⟨.str _, H, I.tok _, ⟨_, rfl⟩, q⟩
  | str x t => exact PySem.P.repr_of_str ⟨.str _, H, I.tok _, ⟨_, rfl⟩, q⟩ sz
  | list a b c e => exact repr_of_reads' (Reads.list a b c e) sh (fun _ => nm) hq (by omega) (fun _ _ z => z) (fun h' u tk k => ⟨.str _, H, I.kept k, ⟨_, rfl⟩, q⟩) sz
  | tuple a b c e => exact repr_of_reads' (Reads.tuple a b c e) sh (fun _ => nm) hq (by omega) (fun _ _ z => z) (fun h' u tk k => ⟨.str _, H, I.kept k, ⟨_, rfl⟩, q⟩) sz
  | dict a b c e f => exact repr_of_reads' (Reads.dict a b c e f) sh (fun _ => nm) hq (by omega) (fun _ _ z => z) (fun h' u tk k => ⟨.str _, H, I.kept k, ⟨_, rfl⟩, q⟩) sz
end
end Wf
/-! values of any kind: isinstance, is True, len, walks over what is a list or a tuple -/
namespace Wf
open PySem PySem.Spec PyProof.Rows L2
/-! ### the pure side -/
def tyN : PyData → String
  | .none => "NoneType"
  | .bool _ => "bool"
  | .int _ => "int"
  | .str _ => "str"
  | .list _ => "list"
  | .tuple _ => "tuple"
  | .dict _ => "dict"
def isStr : PyData → Bool
  | .str _ => true
  | _ => false
def isBool : PyData → Bool
  | .bool _ => true
  | _ => false
def isInt : PyData → Bool
  | .int _ | .bool _ => true
  | _ => false
def isNum : PyData → Bool
  | .int _ => true
  | _ => false
def isSeq : PyData → Bool
  | .list _ | .tuple _ => true
  | _ => false
def isMark : PyData → Bool
  | .none | .bool _ => true
  | _ => false
def its : PyData → List PyData
  | .list ds | .tuple ds => ds
  | _ => []
def isTarget (size : Int) : PyData → Bool
  | .none => true
  | .int i => decide (0 ≤ i) && decide (i < size)
  | _ => false
def isRow (w : Nat) (size : Int) (d : PyData) : Bool := isSeq d && ((its d).length == w) && (its d).all (isTarget size)
theorem isNum_eq (d : PyData) : isNum d = (isInt d && !isBool d) := by cases d <;> rfl
theorem kit_str : ∀ d : PyData, kitB (tyN d) "str" = some (isStr d)
  | .none => (by decide +kernel : kitB "NoneType" "str" = some false)
  | .bool _ => (by decide +kernel : kitB "bool" "str" = some false)
  | .int _ => (by decide +kernel : kitB "int" "str" = some false)
  | .str _ => (by decide +kernel : kitB "str" "str" = some true)
  | .list _ => (by decide +kernel : kitB "list" "str" = some false)
  | .tuple _ => (by decide +kernel : kitB "tuple" "str" = some false)
  | .dict _ => (by decide +kernel : kitB "dict" "str" = some false)
theorem kit_bool : ∀ d : PyData, kitB (tyN d) "bool" = some (isBool d)
  | .none => (by decide +kernel : kitB "NoneType" "bool" = some false)
  | .bool _ => (by decide +kernel : kitB "bool" "bool" = some true)
  | .int _ => (by decide +kernel : kitB "int" "bool" = some false)
  | .str _ => (by decide +kernel : kitB "str" "bool" = some false)
  | .list _ => (by decide +kernel : kitB "list" "bool" = some false)
  | .tuple _ => (by decide +kernel : kitB "tuple" "bool" = some false)
  | .dict _ => (by decide +kernel : kitB "dict" "bool" = some false)
theorem kit_int : ∀ d : PyData, kitB (tyN d) "int" = some (isInt d)
  | .none => (by decide +kernel : kitB "NoneType" "int" = some false)
  | .bool _ => (by decide +kernel : kitB "bool" "int" = some true)
  | .int _ => (by decide +kernel : kitB "int" "int" = some true)
  | .str _ => (by decide +kernel : kitB "str" "int" = some false)
  | .list _ => (by decide +kernel : kitB "list" "int" = some false)
  | .tuple _ => (by decide +kernel : kitB "tuple" "int" = some false)
  | .dict _ => (by decide +kernel : kitB "dict" "int" = some false)
theorem kit_list : ∀ d : PyData, kitB (tyN d) "list" = some (match d with | .list _ => true | _ => false)
  | .none => (by decide +kernel : kitB "NoneType" "list" = some false)
  | .bool _ => (by decide +kernel : kitB "bool" "list" = some false)
  | .int _ => (by decide +kernel : kitB "int" "list" = some false)
  | .str _ => (by decide +kernel : kitB "str" "list" = some false)
  | .list _ => (by decide +kernel : kitB "list" "list" = some true)
  | .tuple _ => (by decide +kernel : kitB "tuple" "list" = some false)
  | .dict _ => (by decide +kernel : kitB "dict" "list" = some false)
theorem kit_tuple : ∀ d : PyData, kitB (tyN d) "tuple" = some (match d with | .tuple _ => true | _ => false)
  | .none => (by decide +kernel : kitB "NoneType" "tuple" = some false)
  | .bool _ => (by decide +kernel : kitB "bool" "tuple" = some false)
  | .int _ => (by decide +kernel : kitB "int" "tuple" = some false)
  | .str _ => (by decide +kernel : kitB "str" "tuple" = some false)
  | .list _ => (by decide +kernel : kitB "list" "tuple" = some false)
  | .tuple _ => (by decide +kernel : kitB "tuple" "tuple" = some true)
  | .dict _ => (by decide +kernel : kitB "dict" "tuple" = some false)
section
variable {K : PySem.W.Frag} {H : Hp}
theorem Dq.ty {v : V} {d : PyData} (h : Dq K H v d) : TyX K H v (.type (tyN d)) := by
  cases h with
  | non => exact .base .non
  | bl b => exact .base (.bl b)
  | int i => exact .base (.int i)
  | str x => exact .base (.str x)
  | lst q _ =>
    rcases q with (e | ⟨o, e⟩) | ⟨o, its, n, e, c, _⟩
    · exact .base (.lst e)
    · exact .base (.frz e)
    · exact .kList e c
  | tup q _ =>
    rcases q with (e | ⟨o, e⟩) | ⟨o, its, n, e, c, _⟩
    · exact .base (.tup e)
    · exact .fTuple e
    · exact .kTuple e c
  | dk e _ => exact .base (.dK e)
/-- what is a list or a tuple, read -/
abbrev Sq (K : PySem.W.Frag) (H : Hp) (a : Addr) (xs : List V) : Prop := SqL K H a xs ∨ SqT K H a xs
theorem Dq.seq {v : V} {d : PyData} (h : Dq K H v d) (s : isSeq d = true) : ∃ a xs, v = .ref a ∧ Sq K H a xs ∧ DqAll K H xs (its d) := by
  cases h with
  | lst q a => exact ⟨_, _, rfl, .inl q, a⟩
  | tup q a => exact ⟨_, _, rfl, .inr q, a⟩
  | non => cases s
  | bl b => cases s
  | int i => cases s
  | str x => cases s
  | dk e _ => cases s
theorem Sq.lenV {a : Addr} {xs : List V} (h : Sq K H a xs) : LenV K (.ref a) H xs.length := h.elim (fun q => .inl ⟨xs, q, rfl⟩) fun q => .inr ⟨xs, q, rfl⟩
theorem Dq.lenV {v : V} {d : PyData} (h : Dq K H v d) (s : isSeq d = true) : LenV K v H (its d).length := by
  obtain ⟨a, xs, rfl, q, r⟩ := h.seq s
  rw [← r.len]
  exact q.lenV
theorem Stay.sq {H' : Hp} {a : Addr} {xs : List V} (s : Stay K H H') (h : Sq K H a xs) : Sq K H' a xs := h.imp (s.l _ _) (s.t _ _)
theorem Sq.ix {a : Addr} {xs : List V} {i : Int} {v : V} {Q : VK} (h : Sq K H a xs) (e : atI xs i = some v) (q : Q v H) : rIx K (.ref a) (.int i) H Q := by
  rcases h with h | h
  · exact .inl ⟨a, xs, i, v, rfl, rfl, h, e, q⟩
  · exact .inr (.inl ⟨a, xs, i, v, rfl, rfl, h, e, q⟩)
end
/-! ### isinstance -/
section
variable {X : Cx}
def rIsD (K : PySem.W.Frag) (T : String) (g : PyData → Bool) : List V → Hp → VK → Prop := fun xs H Q => ∃ v d, xs = [v, .ty T] ∧ Dq K H v d ∧ Q (.bl (g d)) H
theorem call_isD {T : String} {g : PyData → Bool} (hg : ∀ d, kitB (tyN d) T = some (g d)) : CallR X (.builtin "isinstance") (rIsD X.K T g) := by
  intro pins s σ H xs us Q I r h
  obtain ⟨v, d, rfl, hd, q⟩ := h
  exact call_isi pins s σ H _ us Q I r ⟨v, _, _, _, _, rfl, .ty T, hd.ty, kit_ty (hg d), q⟩
def rIsSeq (K : PySem.W.Frag) : List V → Hp → VK → Prop := fun xs H Q => ∃ v d tp, xs = [v, .ref tp] ∧ H tp = some (.tup [.ty "list", .ty "tuple"]) ∧ Dq K H v d ∧ Q (.bl (isSeq d)) H
theorem call_isSeq : CallR X (.builtin "isinstance") (rIsSeq X.K) := by
  intro pins s σ H xs us Q I r h
  obtain ⟨v, d, tp, rfl, e, hd, q⟩ := h
  refine call_isiT pins s σ H _ us Q I r ⟨v, tp, _, _, [.type "list", .type "tuple"], _, rfl, e, .cons (.ty _) (.cons (.ty _) .nil), hd.ty, kitAny_cons (r := isSeq d) (kit_ty (kit_list d)) (fun e1 => kitAny_cons (kit_ty (kit_tuple d)) (fun e2 => ?_) fun e2 => ?_) fun e1 => ?_, q⟩
  · cases d <;> first | rfl | exact absurd (show true = false from e2) (by decide) | exact absurd (show true = false from e1) (by decide)
  · cases d <;> first | rfl | exact absurd (show false = true from e2) (by decide)
  · cases d <;> first | rfl | exact absurd (show false = true from e1) (by decide)
/-- x is True, x is False -/
def rIsQ (K : PySem.W.Frag) : R2 := fun x y H Q => ∃ b d, y = .bl b ∧ Dq K H x d ∧ Q (.bl (decide (x = .bl b))) H
theorem op_isQ : OpR X (compareOp .Is) (rIsQ X.K) := by
  intro pins s σ H x y v u Q I rx ry h
  obtain ⟨b, d, rfl, hd, q⟩ := h
  cases (show u = Value.bool b from ry)
  cases hd with
  | non =>
    cases (show v = Value.none from rx)
    exact wpAny_pure ⟨.bl _, H, I, rfl, q⟩
  | bl a =>
    cases (show v = Value.bool a from rx)
    by_cases e : a = b
    · subst e
      exact wpAny_is_self rfl ⟨.bl true, H, I, rfl, by simpa using q⟩
    · exact wpAny_is_other rfl (fun z => e (Value.bool.inj z)) ⟨.bl false, H, I, rfl, by simpa [e] using q⟩
  | int i =>
    obtain ⟨t, rfl⟩ := rx
    exact wpAny_pure ⟨.bl _, H, I, rfl, q⟩
  | str z =>
    obtain ⟨t, rfl⟩ := rx
    exact wpAny_pure ⟨.bl _, H, I, rfl, q⟩
  | lst _ _ =>
    cases rx
    exact wpAny_pure ⟨.bl _, H, I, rfl, q⟩
  | tup _ _ =>
    cases rx
    exact wpAny_pure ⟨.bl _, H, I, rfl, q⟩
  | dk _ _ =>
    cases rx
    exact wpAny_pure ⟨.bl _, H, I, rfl, q⟩
end
/-! ### calls within a comprehension: readings by name -/
section
variable {X : Cx}
def rTupleOf (K : PySem.W.Frag) : List V → Hp → VK → Prop := fun xs H Q => ∃ p ys, xs = [V.ref p] ∧ ((SqL K H p ys ∧ ∀ l, H l = none → Q (.ref l) (upd H l (.tup ys))) ∨ (SqT K H p ys ∧ Q (.ref p) H))
theorem cr_tupleOf : CallR X (.type "tuple") (rTupleOf X.K) := call_tuple_of
def rListOf (K : PySem.W.Frag) : List V → Hp → VK → Prop := fun xs H Q => ∃ p ys, xs = [V.ref p] ∧ (SqL K H p ys ∨ SqT K H p ys) ∧ ∀ l, H l = none → Q (.ref l) (upd H l (.lst ys))
theorem cr_listOf : CallR X (.type "list") (rListOf X.K) := call_list_of
def rLenOf (K : PySem.W.Frag) : List V → Hp → VK → Prop := fun xs H Q => ∃ x n, xs = [x] ∧ LenV K x H n ∧ Q (.int n) H
theorem cr_lenOf : CallR X (.builtin "len") (rLenOf X.K) := call_len
end
/-! ### walks -/
section
variable {X : Cx} {tg : Expr}
def iSeq (K : PySem.W.Frag) (tl : TE) : TI := fun σ H R => iList K tl σ H R ∨ iTup K tl σ H R
theorem pi_seq {l : Expr} {tl : TE} (hl : PE X l tl) : PI X tg l (iSeq X.K tl) :=
  ⟨fun pins s σ H R I h => h.elim ((pi_list hl).run pins s σ H R I) ((pi_tup hl).run pins s σ H R I)⟩
end
/-- a name that holds a list or a tuple, walked: by any walk that gives its items -/
theorem seq_walk {K : PySem.W.Frag} {σ : L2.St} {H : Hp} {a : Addr} {n : Nat} {xs : List V} {R : It → Hp → Prop} (e : σ[n]? = some (some (.ref a))) (h : Sq K H a xs) (k : ∀ (J : It) (G : Hp → Prop), Walk J xs.length G (YAt xs) → (∀ H', Stay K H H' → G H') → R J H) : iSeq K (tVar n) σ H R := by
  rcases h with h | h
  · exact .inl ⟨_, e, a, rfl, ⟨xs, h⟩, k _ _ walk_list fun H' s => s.l _ _ h⟩
  · exact .inr ⟨_, e, a, rfl, ⟨xs, h⟩, k _ _ walk_tup fun H' s => s.t _ _ h⟩
theorem SqT.off {K : PySem.W.Frag} {H : Hp} {u D : Addr} {zs xs : List V} {o : HO} (h : SqT K H u zs) (e : H D = some (.lst xs)) : SqT K (upd H D o) u zs := by
  rcases h with (h | ⟨q, h⟩) | h
  · exact .inl (.inl ((upd_ne fun z => by
      rw [z, e] at h
      cases h).trans h))
  · exact .inl (.inr ⟨q, (upd_ne fun z => by
      rw [z, e] at h
      cases h).trans h⟩)
  · exact .inr h
theorem SqL.off {K : PySem.W.Frag} {H : Hp} {u D : Addr} {zs : List V} {o : HO} (h : SqL K H u zs) (ne : u ≠ D) : SqL K (upd H D o) u zs := by
  rcases h with (h | ⟨q, h⟩) | h
  · exact .inl (.inl ((upd_ne ne).trans h))
  · exact .inl (.inr ⟨q, (upd_ne ne).trans h⟩)
  · exact .inr h
theorem small1000000 {n : Nat} (h : n < 1000000) : n < sizeLine := Nat.lt_trans h (by decide)
end Wf
/-! errors of one's own raised and caught -/
namespace Wf
open PySem PySem.Spec PyProof.Rows L2
/-- what is there in the first is there in the second -/
def There (H H' : Hp) : Prop := ∀ b, H' b = none → H b = none
theorem There.of {H H' : Hp} (s : Same H H') : There H H' := fun b n => by
  cases e : H b with
  | none => rfl
  | some o =>
    rw [s b o e] at n
    cases n
theorem There.but {p : Addr} {H H' : Hp} (s : But p H H') (e : H' p ≠ none) : There H H' := fun b n => by
  cases q : H b with
  | none => rfl
  | some o =>
    rcases Decidable.em (b = p) with rfl | nb
    · exact absurd n e
    · rw [s b o nb q] at n
      cases n
theorem There.trans {H H1 H2 : Hp} (a : There H H1) (b : There H1 H2) : There H H2 := fun x n => a x (b x n)
/-- a class of errors without a field, by its name -/
structure E0 (K : PySem.W.Frag) (mg : Str → Option Value) (x : Str) (C : Addr) : Prop where
  vn : Vn0 K mg x C
  ty : PySem.W.typeIn K (.ref C) = some (.type "type")
/-- a class of errors with one field, by its name -/
structure E1 (P : Program) (w : World) (K : PySem.W.Frag) (mg : Str → Option Value) (base : Heap) (x : Str) (C : Addr) (f : Str) : Prop where
  vn : Vn P w K mg base x C f
  ty : PySem.W.typeIn K (.ref C) = some (.type "type")
section
variable {X : Cx} {x : Str} {C : Addr} {f : Str} {W : WX} {e : Expr} {te : TE} {p pos pos' : Pos}
/-- raise C() -/
def tR0 (X : Cx) (C : Addr) (W : WX) : TS := fun _ σ H => There X.H_0 H ∧ ∀ H', Same H H' → W (.ref C) none σ H'
theorem ps_r0 (N : E0 X.K X.mg x C) (hx : X.ex = []) (hc : X.calm = true) (tk : Takes X W) (hg : Gl X x := by rfl) (hdb : (x == ("__debug__" : Str)) = false := by decide) : PS X (.Raise (some (.Call (.Name x p) [] [] pos)) none pos') (tR0 X C W) := by
  have mk : PMk X (.Call (.Name x p) [] [] pos) (fun σ H Q => There X.H_0 H ∧ ∀ H', Same H H' → Q (.ref C) none H') := by
    intro pins s σ H Q I h
    refine pmk_ret hx (pe_v0 N.vn hg hdb) pins s σ H Q I ?_
    refine fun a ha => ⟨a, .ref C, rfl, upd_same, fr0_none (h.1 a ha), raises_own N.vn.is.hs N.ty, ?_⟩
    refine h.2 _ fun b o q => ?_
    rw [delH_ne (ne_of_none q ha), upd_ne (ne_of_none q ha)]
    exact q
  exact ps_raise hc tk mk
/-- raise C(e) -/
def tR1 (X : Cx) (C : Addr) (f : Str) (W : WX) (te : TE) : TS := fun _ σ H => te σ H fun y H1 => There X.H_0 H1 ∧ ∀ d H', Same H1 H' → H1 d = none → H' d = some (.xd [(f, y)]) → W (.ref C) (some d) σ H'
theorem pmk_r1 (N : E1 X.prog X.w X.K X.mg X.base x C f) (hr : Room 2 X.A) (he : PE X e te) (hx : X.ex = []) (hg : Gl X x := by rfl) (hs : starEach [e] X.env = (false, eval e X.env) :: starEach [] X.env := by rfl) (hdb : (x == ("__debug__" : Str)) = false := by decide) :
    PMk X (.Call (.Name x p) [e] [] pos) (fun σ H Q => te σ H fun y H1 => There X.H_0 H1 ∧ ∀ d H', Same H1 H' → H1 d = none → H' d = some (.xd [(f, y)]) → Q (.ref C) (some d) H') := by
  intro pins s σ H Q I h
  have big : wpAny (model X.prog X.w) X.A (eval (.Call (.Name x p) [e] [] pos) X.env) (EP X pins σ fun v H2 => ∃ (a d : Addr) (y : V) (H1 : Hp), v = .ref a ∧ There X.H_0 H1 ∧ (∀ d H', Same H1 H' → H1 d = none → H' d = some (.xd [(f, y)]) → Q (.ref C) (some d) H') ∧ Same H1 H2 ∧ H1 a = none ∧ H1 d = none ∧ H2 a = some (exo a C (some d)) ∧ H2 d = some (exd d [(f, y)])) X.xe s := by
    obtain ⟨fI, fd, iC, tI, F1, hb, _⟩ := N.vn.init
    refine wpAny_Call_Name_kw (ld_glob I hg N.vn.gC ?_ hdb)
    refine PySem.W.callWith_K (h₀ := X.base) I.ok.mod.kin N.vn.cls.kC ?_ hs (by rfl)
    rw [hs]
    change wpAny _ _ (spliced (_ :: backTo pos (starEach [] X.env))) _ _ _
    exact Calls.spliced_cons (thn (he.run pins s σ H _ I h) fun u _ ⟨y, H1, J, ry, t, k⟩ => Calls.spliced_nil ⟨J.kIn, ve_callN N.vn.cls iC tI F1 hr (taker_of N.vn.no) (fun t v _ => hb t v u) (by show 1 ≤ 1000; omega) J ry fun a d H' s' na nd e1 e2 => ⟨a, d, y, H1, rfl, t, k, s', na, nd, e1, e2⟩⟩)
  refine wpAny_mono big (fun u s1 hu => ?_) fun _ _ z => z
  · obtain ⟨v, H2, J, rv, a, d, y, H1, rfl, t, k, s2, na, nd, ea, ed⟩ := hu
    cases rv
    obtain ⟨t1, ho⟩ := exo_at J.hok ea
    have ne : d ≠ a := fun z => by
      obtain ⟨_, ⟨_, _, _, e1, e2, _⟩, _⟩ := exd_at J.hok ed
      rw [z] at e1
      cases ho.symm.trans e1
      cases e2
    obtain ⟨G, gs, ga, J2⟩ := J.untrack ea (fun o z => by rw [t a na] at z; cases z) hx
    have ed2 : delH H2 a d = some (exd d [(f, y)]) := (delH_ne ne).trans ed
    obtain ⟨mA, dict, rel⟩ := exd_at J2.hok ed2
    have J3 := relabel (u := .xd [(f, y)]) J2 ed2 ⟨mA, dict, rel⟩
    refine ⟨a, _, _, { s1 with heap := G }, _, .ref C, some d, rfl, J3, gs, ga, ho, ⟨rfl, rfl⟩, rfl, rfl, (upd_ne ne.symm).trans delH_same, rfl, J.bare, raises_own N.vn.cls.is.hs N.ty, ?_⟩
    refine k d _ (fun b o z => ?_) nd upd_same
    rw [upd_ne (ne_of_none z nd), delH_ne (ne_of_none z na)]
    exact s2 _ _ z
theorem ps_r1 (N : E1 X.prog X.w X.K X.mg X.base x C f) (hr : Room 2 X.A) (he : PE X e te) (hx : X.ex = []) (hc : X.calm = true) (tk : Takes X W) (hg : Gl X x := by rfl) (hs : starEach [e] X.env = (false, eval e X.env) :: starEach [] X.env := by rfl) (hdb : (x == ("__debug__" : Str)) = false := by decide) :
    PS X (.Raise (some (.Call (.Name x p) [e] [] pos)) none pos') (tR1 X C f W te) := ps_raise hc tk (pmk_r1 N hr he hx hg hs hdb)
end
/-! ### C(..), C a class of one's own whose __init__ may raise, within a try -/
section
variable {X : Cx} {CX : CXT} {k : Nat} {f C : Addr} {fd : FuncData} {ps : List Str} {sp : Sp} {E : L2.St → XK} {x : Str} {p pos : Pos} {e : Expr} {es : List Expr} {t : TA}
def tMakeS (C : Addr) (sp : Sp) (E : L2.St → XK) (t : TA) : TE := fun σ H Q => t σ H fun vs H1 => ∀ x dx, H1 x = none → H1 dx = none → dx ≠ x → sp (.ref x :: vs) (upd (upd H1 dx (.own x)) x (.ins C dx [])) (fun v H2 => v = .non ∧ Q (.ref x) H2) (E σ)
/-- the call that type's call leads to: the new object, then its __init__ -/
theorem made_then {pins : List (Addr × Obj)} {σ : L2.St} {H : Hp} {s : Shared} {Q : VK} {us : List Value} {vs : List V} {E : XK} (M : Mk X.K C f) (F : FnOk X.prog X.w X.K X.mg X.base CX k f fd ps sp) (hr : Room (k + 1) X.A) (hb : Binds X.K fd ps []) (hx : PassesAt CX X σ E)
    (I : Inv X pins σ H s) (rel : Vals vs us) (want : ∀ x dx, H x = none → H dx = none → dx ≠ x → sp (.ref x :: vs) (upd (upd H dx (.own x)) x (.ins C dx [])) (fun v H2 => v = .non ∧ Q (.ref x) H2) E) : wpAny (model X.prog X.w) X.A (call (.ref C) us) (EP X pins σ Q) X.xe s := by
  let dict := s.heap.objs.size
  let self := dict + 1
  have apart : dict ≠ self := Nat.ne_of_lt (Nat.lt_succ_self _)
  have asked := want self dict (I.hok.fresh (Nat.le_succ dict)) (I.hok.fresh (Nat.le_refl dict)) apart
  have J := Inv.made (C := C) I
  have all : Vals (V.ref self :: vs) (Value.ref self :: us) := .cons rfl rel
  have many := F.len _ _ _ _ asked
  have bound := hb _ (Value.ref self :: us) J.kIn (by rw [List.append_nil, ← all.length]; exact many)
  rw [List.append_nil] at bound
  have run := F.run _ X.stack _ _ ⟨Value.ref self :: us, []⟩ _ _ _ E (hr.make C us []) (J.env0.make C us []) bound all asked
  refine wpAny_call (make_map (f := f) I.kIn M.makes M.init (beq_iff_eq.mp M.fn) (codeAny_mono run fun r s2 out => ?_))
  match r, out with
  | .error e, out => exact hx pins _ _ e s2 J out
  | .ok (.ret _), out =>
    obtain ⟨_, H3, J3, rv, rfl, q⟩ := J.after out
    exact ⟨rv, V.ref self, H3, J3, rfl, q⟩
  | .ok .next, out => exact out.elim
  | .ok .brk, out => exact out.elim
  | .ok .cont, out => exact out.elim
theorem pe_makeS (M : Mk X.K C f) (F : FnOk X.prog X.w X.K X.mg X.base CX k f fd ps sp) (hr : Room (k + 1) X.A) (hg : Gl X x) (hm : X.mg x = some (.ref C)) (hb : Binds X.K fd ps []) (hx : ∀ σ, PassesAt CX X σ (E σ))
    (ha : PA X (e :: es) t) (hdb : (x == ("__debug__" : Str)) = false := by decide) (he : starEach (e :: es) X.env = (false, eval e X.env) :: starEach es X.env := by rfl) (hpl : (backTo pos (starEach es X.env)).any (·.1) = false := by rfl) :
    PE X (.Call (.Name x p) (e :: es) [] pos) (tMakeS C sp E t) := .mk fun pins s σ H Q I h =>
  wpAny_Call_Name_kw (ld_glob I hg hm (PySem.W.callWith_K (h₀ := X.base) I.ok.mod.kin M.kp (thn (ha.run pos pins s σ H _ I h) fun _ _ ⟨_, _, J, rel, want⟩ => ⟨J.kIn, made_then M F hr hb (hx σ) J rel want⟩) he hpl) hdb)
end
/-! ### within an except suite: isinstance(e, T), e.f -/
/-- e's own dict, if it has one, is there -/
def DOk (H : Hp) (d : Option Addr) : Prop := d = none ∨ ∃ dd fs, d = some dd ∧ H dd = some (.xd fs)
def rIsF (K : PySem.W.Frag) (a : Addr) (cls : Value) (d : Option Addr) : List V → Hp → VK → Prop := fun xs H Q => ∃ (D : Addr) (T : String) (b : Bool), xs = [.ref a, .ty T] ∧ cls = .ref D ∧ ExcC K D ∧ PySem.W.kitOne K (.ref D) (.type T) = some b ∧ DOk H d ∧ Q (.bl b) H
/-- the caught object as an instance, with the dict that it may have -/
theorem caught_at {X : Cx} {pins : List (Addr × Obj)} {σ : L2.St} {H : Hp} {s : Shared} {a D : Addr} {oe : Obj} {d : Option Addr} {pn : List (Addr × Obj)} (hz : Zc (.ref D) d oe) (hf : ∃ vs, oe.data = .fields vs) (I : Inv (X.suite a ((a, oe) :: pn)) pins σ H s) :
    (d = none → PySem.W.InstAt s.heap a oe D none) ∧ ∀ dd fs, d = some dd → H dd = some (.xd fs) → ∃ (od : Obj) (m : Str → Option Value), PySem.W.InstAt s.heap a oe D (some od) ∧ (∀ n, RelO (fs.lookup n) (m n)) ∧ ∀ n, PySem.W.lookIn n od = some (m n) := by
  obtain ⟨isC, isD⟩ := hz
  obtain ⟨there, _⟩ := I.pin (a, oe) (List.mem_append.mpr (.inl List.mem_cons_self))
  have plain : PySem.W.notCls oe = true := by
    obtain ⟨vs, hv⟩ := hf
    unfold PySem.W.notCls
    rw [hv] <;> rfl
  refine ⟨fun e => ⟨there, isC, plain, by rw [isD, e]; trivial⟩, fun dd fs e at' => ?_⟩
  obtain ⟨m, ns, rel⟩ := (show ObjOk X.prog X.w H s.heap dd (.xd fs) from I.hok dd _ at')
  obtain ⟨od, hod, look⟩ := lookIn_ns ns
  exact ⟨od, m, ⟨there, isC, plain, by rw [isD, e]; exact hod⟩, rel, look⟩
theorem call_isF {X : Cx} {a : Addr} {oe : Obj} {cls : Value} {d : Option Addr} {pn : List (Addr × Obj)} (hz : Zc cls d oe) (hf : ∃ vs, oe.data = .fields vs) : CallR (X.suite a ((a, oe) :: pn)) (.builtin "isinstance") (rIsF X.K a cls d) := by
  intro pins s σ H xs us Q I r h
  obtain ⟨D, T, b, rfl, rfl, C, e, hd, q⟩ := h
  obtain ⟨_, _, rfl, r1, r2⟩ := vals2 r
  cases r1
  cases r2
  obtain ⟨at0, at1⟩ := caught_at hz hf I
  rcases hd with e0 | ⟨dd, fs, e0, ed⟩
  · exact PySem.W.kia_one (PySem.W.kitx_exc (ex_isSome C.hd) C.hg C.hk C.hs C.ha C.hn C.ht C.hm) I.kIn (at0 e0) e (fun z => nomatch z) fun tk => ⟨.bl b, H, I.tok tk, rfl, q⟩
  · obtain ⟨od, _, J, _⟩ := at1 dd fs e0 ed
    exact PySem.W.kia_one (PySem.W.kitx_exc (ex_isSome C.hd) C.hg C.hk C.hs C.ha C.hn C.ht C.hm) I.kIn J e (fun z => nomatch z) fun tk => ⟨.bl b, H, I.tok tk, rfl, q⟩
def tXg (K : PySem.W.Frag) (a : Addr) (cls : Value) (d : Option Addr) (f : Str) (te : TE) : TE := fun σ H Q => te σ H fun x H1 => x = .ref a ∧ ∃ (C dd : Addr) (fs : List (Str × V)) (v : V), cls = .ref C ∧ ExcC K C ∧ PySem.W.findIn K (.ref C) f = some none ∧ d = some dd ∧ H1 dd = some (.xd fs) ∧ fs.lookup f = some v ∧ Q v H1
theorem pe_xg {X : Cx} {a : Addr} {oe : Obj} {cls : Value} {d : Option Addr} {pn : List (Addr × Obj)} {e : Expr} {te : TE} {pos : Pos} {n : Str}
    (hz : Zc cls d oe) (hf : ∃ vs, oe.data = .fields vs) (he : PE (X.suite a ((a, oe) :: pn)) e te) (hb : attributeBase e n X.env (eval e X.env) = eval e X.env := by rfl) :
    PE (X.suite a ((a, oe) :: pn)) (.Attribute e n pos) (tXg X.K a cls d n te) := .mk fun pins s σ H Q I h => attr_of hb (thn (he.run pins s σ H _ I h) fun _ s1 ⟨_, H1, I1, rx, ex, C, dd, fs, v, ec, T, hno, ed, ea, l, q⟩ => by
  cases ex
  cases rx
  cases ec
  obtain ⟨od, m, J, rel, look⟩ := (caught_at hz hf I1).2 dd fs ed ea
  have rn := rel n
  rw [l] at rn
  obtain ⟨u, hu, ru⟩ := RelO.some_of (v := v) (o := m n) rn
  exact HandSPX.exc_get I1.kIn J T.hg T.hk T.hs (PySem.W.findObj_own T.hd hno rfl (by rw [look, hu])) (handed_of ru) ⟨v, H1, I1.tok _, ru, q⟩)
end Wf
/-! enumerate over what is a list or a tuple -/
namespace Wf
open PySem PySem.Spec PyProof.Rows L2
open PySem.Sem (wp)
/-- what enumerate(v) leaves: v's iterator, then the enumeration itself -/
abbrev enumO (it : Addr) : Obj := { cls := .type "enumerate", data := .fields #[.none, .bool false, .ref it, rawInt 0, .none, .none] }
theorem meets_enum1 {v : Value} {o : Obj} {H : Heap → Prop} (B : Begins v o H) : Meets (Builtin.«enumerate.__new__» ⟨[.type "enumerate", v], []⟩) fun _ R s => H s.heap ∧
    R (.ok (.ret (.ref (s.heap.push o).objs.size))) { s with heap := (s.heap.push o).push (enumO s.heap.objs.size) } := by
  refine .of_wp fun prog w A R s given => ?_
  obtain ⟨hp, g, d, tk, os⟩ := s
  obtain ⟨first, last⟩ := given
  have iter : ∀ {A2 : Around} {E : Value → Shared → Prop} {Q : Value → Shared → Prop}, Q (.ref hp.objs.size) ⟨hp.push o, g, d, tk, os⟩ → wpAny (model prog w) A2 (pyIter v) Q E ⟨hp, g, d, tk, os⟩ := B.iter prog w _ _ ⟨hp, g, d, tk, os⟩ _ first
  have own := sub_enumerate
  wp_walk using iter
  refine wpAny_stack_any fun around => wpAny_pure ?_
  split <;> first
    | (rename_i c _ _ _ _ _
       cases (c == Value.type "enumerate") <;> (wp_walk using iter; exact ⟨_, rfl, last⟩))
    | (wp_walk using iter; exact ⟨_, rfl, last⟩)
theorem call_enum1 {prog : Program} {w : World} {A : Around} {E : Value → Shared → Prop} {s : Shared} {v : Value} {o : Obj} {H : Heap → Prop} {Q : Value → Shared → Prop} (B : Begins v o H) (first : H s.heap)
    (last : ∀ h2, IsEnum h2 (s.heap.objs.size + 1) s.heap.objs.size 0 .none → h2.get? s.heap.objs.size = some o → (∀ b u, s.heap.get? b = some u → h2.get? b = some u) → Q (.ref (s.heap.objs.size + 1)) { s with heap := h2 }) :
    wpAny (model prog w) A (call (.type "enumerate") [v]) Q E s := by
  have size1 : (s.heap.push o).objs.size = s.heap.objs.size + 1 := Heap.size_push ..
  have made : IsEnum ((s.heap.push o).push (enumO s.heap.objs.size)) (s.heap.objs.size + 1) s.heap.objs.size 0 .none := by
    rw [← size1]
    exact Heap.get?_push_size _ rfl
  have post := last _ made (Heap.get?_push_of_some _ (Heap.get?_push_size _ B.free)) fun b u z => Heap.get?_push_of_some _ (Heap.get?_push_of_some _ z)
  refine callType_new F.called_enumerate (by decide) (F.typeCall_enumerate_1 _) (F.newCall_enumerate_1 _) (fun obj => F.args_object_init_2 obj _) F.entry_enumerate_new (meets_enum1 B) ⟨first, ?_⟩
  show _ ∧ _
  rw [size1]
  exact ⟨⟨_, made, rfl⟩, post⟩
/-- the tuple at a as it stands at each turn, each item in a new pair -/
def IteT (K : PySem.W.Frag) (a : Addr) : It where
  go i H := ∃ (xs : List V) (x : V), SqT K H a xs ∧ xs[i]? = some x
  yld i H v H' := ∃ T x, v = .ref T ∧ H T = none ∧ H' = upd H T (.tup [.int (i : Nat), x]) ∧ ∀ xs, SqT K H a xs → xs[i]? = some x
  stop i H := ∃ xs : List V, SqT K H a xs ∧ xs.length ≤ i
/-- an enumeration at e of the tuple at a, by its iterator at t, i items being taken -/
structure EnT (a e t : Addr) (i : Nat) (h : Heap) : Prop where
  en : ∃ old, IsEnum h e t ((i : Nat) : Int) old
  ti : h.IsTupleIter t a i
  et : e ≠ t
  ea : e ≠ a
theorem EnT.pair {e t b : Addr} (h : b ∈ [e, t]) : b = e ∨ b = t := by simpa using h
section
variable {X : Cx} {pins : List (Addr × Obj)} {s : Shared} {σ : L2.St} {H : Hp} {E : Value → Shared → Prop} {a e t : Addr} {i : Nat} {elts : List Expr} {kk : Nat} {tpos : Pos}
theorem EnT.next (ta : a ≠ t) (calm : X.calm = true) (I : Inv X pins σ H s) (fp : ∀ b ∈ [e, t], FpOk X pins H b) (st : EnT a e t i s.heap) {xs : List V} {x : V} (hq : SqT X.K H a xs) (hx : xs[i]? = some x) :
    wpAny (model X.prog X.w) X.A (pyNext (.ref e)) (fun r s1 => ∃ u, r = some u ∧ wpAny (model X.prog X.w) X.A (letOwnedTupleGo (.Tuple elts kk tpos) (.ref e) u) (fun _ s2 => ∃ y H', Inv X pins σ H' s2 ∧ RelV y u ∧ (IteT X.K a).yld i H y H' ∧ EnT a e t (i + 1) s2.heap ∧ ∀ b ∈ [e, t], H' b = none) E s1) E s := by
  obtain ⟨old, en⟩ := st.en
  obtain ⟨vals, rel, isT, _⟩ := I.tuple hq
  obtain ⟨u, hu, ru⟩ := rel.get hx
  let T := s.heap.objs.size
  have le : e < T := Heap.lt_size en
  have lt : t < T := let ⟨_, z, _⟩ := st.ti; Heap.lt_size z
  have inside : i < vals.toArray.size := by
    rw [List.size_toArray]
    exact (List.getElem?_eq_some_iff.mp hu).1
  refine wpAny_pyNext_enum_itemD (Draws.tuple (A := X.A.in1) (I.ok.hd calm) t a ta vals.toArray) en ⟨st.ti, isT⟩ inside st.et (by simp [st.et, st.ea]) fun w h1 tk hw out iter hT _ kept => ?_
  obtain rfl : u = w := Option.some.inj ((show vals.toArray[i]? = some u by simpa using hu).symm.trans hw)
  refine ⟨_, rfl, wpAny_letOwnedTupleGo_enum (s := { s with heap := h1, toks := tk + 1 }) out fun h2 en2 sb => ?_⟩
  have atT : h2.get? T = some { cls := .type "tuple", data := .seq #[.int i tk, u] } := (sb.2 T (Nat.ne_of_gt le)).trans hT
  have okT : ObjOk X.prog X.w (upd H T (.tup [.int (i : Nat), x])) h2 T (.tup [.int (i : Nat), x]) := ⟨by show 2 ≤ sizeLine; decide, [.int i tk, u], .cons ⟨_, rfl⟩ (.cons ru .nil), ⟨_, atT, rfl, _, rfl⟩⟩
  have old2 : ∀ b ob, b ∉ [e, t] → s.heap.get? b = some ob → h2.get? b = some ob := fun b ob nb z => by
    have ne : b ≠ e := fun q => nb (q ▸ List.mem_cons_self)
    have nt : b ≠ t := fun q => nb (q ▸ List.mem_cons_of_mem _ List.mem_cons_self)
    exact (sb.2 b ne).trans (kept b ob ne nt z)
  refine ⟨.ref T, _, I.turnedNew (ch := [e, t]) old2 fp (Nat.le_refl T) okT, rfl, ⟨T, x, rfl, I.hok.fresh (Nat.le_refl T), rfl, fun ys hy => by rw [I.tuple_inj hy hq]; exact hx⟩, ⟨⟨u, ?_⟩, iter.1.at fun ob z => (sb.2 t st.et.symm).trans z, st.et, st.ea⟩, fun b hb => ?_⟩
  · rw [show ((i + 1 : Nat) : Int) = (i : Int) + 1 by omega]
    exact en2
  · have lb : b < T := by
      rcases EnT.pair hb with rfl | rfl
      · exact le
      · exact lt
    rw [upd_ne (Nat.ne_of_lt lb)]
    exact (fp b hb).1
theorem EnT.over (calm : X.calm = true) (I : Inv X pins σ H s) (fp : ∀ b ∈ [e, t], FpOk X pins H b) (st : EnT a e t i s.heap) {xs : List V} (hq : SqT X.K H a xs) (hl : xs.length ≤ i) : wpAny (model X.prog X.w) X.A (pyNext (.ref e)) (fun r s1 => r = none ∧ Inv X pins σ H s1) E s := by
  obtain ⟨old, en⟩ := st.en
  obtain ⟨vals, rel, isT, _⟩ := I.tuple hq
  obtain ⟨c0, c1, c2, c3, c4, c5⟩ := fp t (by simp)
  have many := rel.length
  have outside : vals.toArray[i]? = none := by
    rw [Array.getElem?_eq_none_iff, List.size_toArray]
    omega
  have isE : s.TypeIs (.ref e) "enumerate" := ⟨_, en, rfl⟩
  unfold pyNext
  refine wpAny_bind (wpAny_attempt (wpAny_callSpecial?_slot (name := Str.ofString "__next__") isE F.slot_enumerate_next (wpAny_call_entry F.slot_enumerate_next isE F.entry_enumerate_next ?_ (F.args_enumerate_next_1 _))))
  change wpAny _ _ (field (Value.ref e) 2 >>= _) _ _ s
  refine wpAny_bind (wpAny_field (x := .ref t) en rfl rfl (wpAny_bind (wpAny_nextOf_tuple_end (A := X.A.in1) (I.ok.hd calm) st.ti (show s.heap.IsTuple a vals.toArray from isT) outside fun h1 x grown stop => ?_)))
  obtain ⟨ob, atx, isStop⟩ := stop
  exact wpAny_bind (wpAny_isInstance (T := "StopIteration") (b := true) ⟨ob, atx, isStop⟩ isSubtype_stop (wpAny_pure ⟨rfl, I.turned (t' := s.toks) (fun b u hb z => grown b u hb z) c0 c1 c3 c4 c5⟩))
end
theorem turn_enumT {P : Program} {w : World} {K : PySem.W.Frag} {elts : List Expr} {kk : Nat} {tpos : Pos} (a e t : Addr) (ta : a ≠ t) : Turn P w K (.Tuple elts kk tpos) (IteT K a) [e, t] e (EnT a e t) where
  mem := List.mem_cons_self
  obj i h st b hb := by
    obtain ⟨old, en⟩ := st.en
    obtain ⟨ob, at', _, dt⟩ := st.ti
    rcases EnT.pair hb with rfl | rfl
    · exact ⟨_, en, nofun⟩
    · refine ⟨ob, at', fun v z => ?_⟩
      rw [dt] at z
      cases z
  keep i h h2 st kept := ⟨st.en.imp fun _ z => kept e List.mem_cons_self _ z, st.ti.at fun ob z => kept t (List.mem_cons_of_mem _ List.mem_cons_self) ob z, st.et, st.ea⟩
  item X hP hw hK calm i pins s σ H E I fp st go := by
    subst hP hw hK
    obtain ⟨xs, x, hq, hx⟩ := go
    exact EnT.next ta calm I fp st hq hx
  done X hP hw hK calm i pins s σ H E I fp st stop := by
    subst hP hw hK
    obtain ⟨xs, hq, hl⟩ := stop
    exact EnT.over calm I fp st hq hl
  self A i s Q E st z := let ⟨_, en⟩ := st.en; wpAny_pyIter_enum en z
def iEnT (K : PySem.W.Frag) (ta : TA) : TI := fun σ H R => ta σ H fun vs H1 => ∃ a, vs = [.ref a] ∧ (∃ xs, SqT K H1 a xs) ∧ R (IteT K a) H1
theorem pi_enT {X : Cx} {e : Expr} {ta : TA} {p pos tpos : Pos} {elts : List Expr} {kk : Nat} (hg : Gl X "enumerate") (hm : X.mg "enumerate" = none) (ha : PA X [e] ta) (hs : starEach [e] X.env = [(false, eval e X.env)] := by rfl) :
    PI X (.Tuple elts kk tpos) (.Call (.Name "enumerate" p) [e] [] pos) (iEnT X.K ta) := .mk fun pins s σ H R I h =>
  Call_ (ld_blt I hg hm boot_enumerate (PyProof.Rows.callWith_type1 (thn (ha.run pos pins s σ H _ I h) fun _ s1 ⟨_, H1, J, rel, a, ex, ⟨_, hq⟩, q⟩ => by
    subst ex
    obtain ⟨_, rfl, rfl⟩ := vals1 rel
    obtain ⟨vals, _, isT, _⟩ := J.tuple hq
    have la : a < s1.heap.objs.size := let ⟨_, z, _⟩ := isT; Heap.lt_size z
    refine call_enum1 (begins_tuple a vals.toArray) (show s1.heap.IsTuple a vals.toArray from isT) fun h2 en it old => wpAny_pyIter_enum en ?_
    refine ⟨_, _, _, _, H1, rfl, J.kept (t' := s1.toks) old, turn_enumT a (s1.heap.objs.size + 1) s1.heap.objs.size (Nat.ne_of_lt la), ⟨⟨.none, en⟩, ⟨_, it, rfl, rfl⟩, Nat.succ_ne_self _, Nat.ne_of_gt (Nat.lt_succ_of_lt la)⟩, fun b hb => ?_, q⟩
    have up : s1.heap.objs.size ≤ b := by
      rcases EnT.pair hb with rfl | rfl
      · exact Nat.le_succ _
      · exact Nat.le_refl _
    exact J.fpOk up (J.hok.fresh up)) hs rfl))
def iEnS (K : PySem.W.Frag) (ta : TA) : TI := fun σ H R => iEnum K ta σ H R ∨ iEnT K ta σ H R
theorem pi_enS {X : Cx} {e : Expr} {ta : TA} {p pos tpos : Pos} {elts : List Expr} {kk : Nat} (hg : Gl X "enumerate") (hm : X.mg "enumerate" = none) (ha : PA X [e] ta) (hs : starEach [e] X.env = [(false, eval e X.env)] := by rfl) :
    PI X (.Tuple elts kk tpos) (.Call (.Name "enumerate" p) [e] [] pos) (iEnS X.K ta) :=
  .mk fun pins s σ H R I h => h.elim ((pi_enum hg hm ha hs).run pins s σ H R I) ((pi_enT hg hm ha hs).run pins s σ H R I)
theorem walk_enumT {K : PySem.W.Frag} {a : Addr} {xs : List V} : Walk (IteT K a) xs.length (fun H => SqT K H a xs) (YPair (fun i => some (.int (i : Nat))) (fun i => xs[i]?)) where
  goes i H hi q := ⟨xs, xs[i], q, List.getElem?_eq_getElem hi⟩
  stops H q := ⟨xs, q, Nat.le_refl _⟩
  yields i H v H' _ q y := let ⟨T, x, h1, h2, h3, h4⟩ := y; ⟨T, .int (i : Nat), x, h1, h2, h3, rfl, h4 xs q⟩
/-- a name that holds a list or a tuple, enumerated -/
theorem enum_walk {K : PySem.W.Frag} {σ : L2.St} {H : Hp} {a : Addr} {n : Nat} {xs : List V} {R : It → Hp → Prop} (e : σ[n]? = some (some (.ref a))) (h : Sq K H a xs)
    (k : ∀ (J : It) (G : Hp → Prop), Walk J xs.length G (YPair (fun i => some (.int (i : Nat))) (fun i => xs[i]?)) → (∀ H', Stay K H H' → G H') → R J H) : iEnS K (tCons (tVar n) tNil) σ H R := by
  rcases h with h | h
  · exact .inl ⟨_, e, a, xs, rfl, h, k _ _ walk_enum fun H' s => s.l _ _ h⟩
  · exact .inr ⟨_, e, a, rfl, ⟨xs, h⟩, k _ _ walk_enumT fun H' s => s.t _ _ h⟩
end Wf
/-! several except clauses, each with a name -/
namespace Wf
open PySem PySem.Spec PyProof.Rows L2
/-- what the clauses wish of an exception of the body; i: the slot of the clause's name -/
def wManyAs (K : PySem.W.Frag) (Wout : WX) (D : Ends) : List (Value × Nat × (Addr → Value → Option Addr → TS)) → WX
  | [] => Wout
  | (c, i, ts) :: r => fun cls d σ H => ∃ b, PySem.W.exmOne K cls c = some b ∧
      (b = true → ∀ a, H a = none → ts a cls d { nx := fun σ' H' => D.nx (σ'.set i none) H', rt := D.rt, bk := fun σ' H' => D.bk (σ'.set i none) H', ct := fun σ' H' => D.ct (σ'.set i none) H' } (σ.set i (some (.ref a))) H) ∧
      (b = false → wManyAs K Wout D r cls d σ H)
inductive HdsAs (X : Cx) : List ExceptHandler → List (Value × Nat × (Addr → Value → Option Addr → TS)) → Prop
  | nil : HdsAs X [] []
  | cons {x n : Str} {c : Value} {i : Nat} {ts : Addr → Value → Option Addr → TS} {b₀ : Stmt} {suite : List Stmt} {np pos' : Pos} {hds : List ExceptHandler} {l : List (Value × Nat × (Addr → Value → Option Addr → TS))}
      (hi : X.N[i]? = some n) (hln : X.env.kindOf n = some .local) (hc : Names X x c)
      (hsu : ∀ (a : Addr) (oe : Obj) (cls : Value) (d : Option Addr) (pn : List (Addr × Obj)), Zc cls d oe → (∃ vs, oe.data = .fields vs) → PSs (X.suite a ((a, oe) :: pn)) (b₀ :: suite) (ts a cls d)) (r : HdsAs X hds l) :
      HdsAs X (.ExceptHandler (some (.Name x np)) (some n) (b₀ :: suite) pos' :: hds) ((c, i, ts) :: l)
section
variable {X : Cx} {pins : List (Addr × Obj)} {D : Ends} {Wout : WX}
/-- the caught exception a has landed: what stood before the try stands, and the slots and the heap are those of the raise -/
structure Landed (X : Cx) (pins : List (Addr × Obj)) (a : Addr) (B : Heap) (sI : Shared) (σ : L2.St) (H : Hp) (cls : Value) (d : Option Addr) (s0 s1 : Shared) : Prop where
  inv : Inv X pins σ H sI
  near : ∀ b o, sI.heap.get? b = some o → b ∉ frs X.stack → B.get? b = some o
  up : sI.heap.UpToSlots s1.heap
  fly : HandSPX.FlyingZ B (X.env :: X.outer) a (Zc cls d) s1.heap
  no : H a = none
  os : s1.os = sI.os
  gens : AllBare s1.gens
  loc : a ≠ X.env.locals
  far : a ∉ X.fs
/-- the clauses, one after the other -/
theorem clauses_go {a : Addr} {B : Heap} {sI : Shared} {σ : L2.St} {H : Hp} {cls : Value} {d : Option Addr} {s0 : Shared} (ok : X.Ok) (hs : X.stack = X.env :: X.outer) (hf : X.env.frame = some X.env.locals) (hN : X.N.Nodup) (tk : Takes X Wout) :
    ∀ {hds : List ExceptHandler} {l : List (Value × Nat × (Addr → Value → Option Addr → TS))} {s1 : Shared}, HdsAs X hds l → Landed X pins a B sI σ H cls d s0 s1 → wManyAs X.K Wout D l cls d σ H → wpAny (model X.prog X.w) X.A (handleBy (.ref a) X.env hds) (SP X pins D) X.xe s1
  | [], _, s1, .nil, L, w => by
    obtain ⟨_, _, _, oe, vs, T, oT, ts, at', isZ, isF, one, rest⟩ := id L.fly
    have onward : wpAny (model X.prog X.w) X.A (setFlight (.ref a) X.env.frame) (fun _ s4 => wpAny (model X.prog X.w) X.A (throw (.ref a) : Sem Flow) (SP X pins D) X.xe s4) X.xe s1 := by
      rw [hf]
      refine HandSPX.setFlight_upZ L.fly fun h4 held up4 => wpAny_throw (tk _ _ ⟨a, B, sI, pins, σ, H, cls, d, rfl, L.inv, L.near, L.up.trans up4, .inr (.inr ?_), L.no, L.os, L.gens, w⟩)
      rw [hs]
      exact held
    refine wpAny_handleBy_nil ?_
    unfold PySem.passOn
    refine wpAny_bind (wpAny_field at' isF one ?_)
    rw [if_neg (show ¬ ((Value.ref T == Value.none) = true) from by simp)]
    first
      | exact wpAny_bind onward
      | exact wpAny_bind (wpAny_pure (wpAny_bind onward))
  | _ :: _, _, s1, .cons (x := x) (n := n) (c := c) (i := i) (np := np) (pos' := pos') hi hln hc hsu r, L, w => by
    obtain ⟨yes, told, inside, outside⟩ := w
    obtain ⟨oe, vs, at', isZ, isF⟩ := L.fly.there
    have J := L.inv.landed L.near L.fly.1 L.up L.os L.gens
    have S := J.suite at' isF L.no L.loc L.far
    have type1 : PySem.W.Looks (model X.prog X.w) s1.heap (typeOf (.ref a)) cls := fun _ _ _ _ kept q => wpAny_typeOf_ref (kept _ _ at') (by rw [isZ.1]; exact q)
    refine wpAny_handleBy_cons (codeAny_handlers_test ?_) nofun
    have named : ∀ {Q : Value → Shared → Prop} {E : Value → Shared → Prop}, Q c s1 → wpAny (model X.prog X.w) (X.A.mark (some (.ref a))) (eval (.Name x np) X.env) Q E s1 := fun q =>
      hc.2.2.elim (fun m => ld_glob (X := X.suite a ((a, oe) :: (X.pn ++ pins))) S hc.1 m q hc.2.1) fun ⟨m, v, nn⟩ => ld_blt (X := X.suite a ((a, oe) :: (X.pn ++ pins))) S hc.1 m v q nn hc.2.1
    refine named ((PySem.W.exm_one (M := model X.prog X.w) J.kIn type1 told).here ?_)
    match yes, inside, outside with
    | false, _, outside => exact clauses_go ok hs hf hN tk r L (outside rfl)
    | true, inside, _ =>
      refine codeAny_handlers_suite_as (HandSPX.lands_againZ L.fly fun h4 fly4 up4 => ?_)
      obtain ⟨o4, v4, at4, z4, f4⟩ := fly4.there
      have J4 : Inv X pins σ H { s1 with heap := h4 } := L.inv.landed L.near fly4.1 (L.up.trans up4) L.os L.gens
      have S4 := J4.suite at4 f4 L.no L.loc L.far
      refine store_ok (X := X.suite a ((a, o4) :: (X.pn ++ pins))) (v := .ref a) S4 hN hi (.inl hln) rfl (fun s5 S5 => ?_) (.inr hln)
      refine wpAny_mono ((hsu a o4 cls d (X.pn ++ pins) z4 ⟨_, f4⟩).run [] s5 _ H _ S5 (inside rfl a L.no)) (fun f s6 out => ?_) fun _ _ z => False.elim z
      have close : ∀ {σ6 : L2.St} {H6 : Hp} {Q : Shared → Prop}, Inv (X.suite a ((a, o4) :: (X.pn ++ pins))) [] σ6 H6 s6 → (∀ s7, Inv X pins (σ6.set i none) H6 s7 → Q s7) →
          wpAny (model X.prog X.w) X.A (do bindName X.env n .none; unbindBehindTheSuite X.env n pos') (fun _ s7 => Q s7) X.xe s6 := fun S6 q => gone_ok (S6.unsuite ok) hN hi hln q
      match f, out with
      | .next, ⟨_, _, S6, q⟩ => exact close S6 fun _ J7 => ⟨_, _, J7, q⟩
      | .brk, ⟨_, _, S6, q⟩ => exact close S6 fun _ J7 => ⟨_, _, J7, q⟩
      | .cont, ⟨_, _, S6, q⟩ => exact close S6 fun _ J7 => ⟨_, _, J7, q⟩
      | .ret _, ⟨_, _, _, S6, rel, q⟩ => exact close S6 fun _ J7 => ⟨_, _, _, J7, rel, q⟩
/-- an exception that comes out of the body is noted, lands, and is held against the clauses -/
theorem caught_go {body : List Stmt} {hds : List ExceptHandler} {l : List (Value × Nat × (Addr → Value → Option Addr → TS))} {u : Value} {s' : Shared} {pn : List (Addr × Obj)} {xe : Value → Shared → Prop} (ok : X.Ok) (hs : X.stack = X.env :: X.outer) (hf : X.env.frame = some X.env.locals) (hN : X.N.Nodup) (tk : Takes X Wout) (hh : HdsAs X hds l)
    (air : XE (X.tr (X.pn ++ pins) xe) (wManyAs X.K Wout D l) u s') (back : ∀ {pins' : List (Addr × Obj)} {σ : L2.St} {H : Hp} {s : Shared}, Inv (X.tr (X.pn ++ pins) xe) pins' σ H s → Inv X pins σ H s) :
    wpAny (model X.prog X.w) X.A (noteFrame u X.env) (fun _ s₂ => wpAny (model X.prog X.w) X.A (setFlight u none) (fun _ s₃ => wpAny (model X.prog X.w) X.A (handleBy u X.env hds) (SP X pins D) X.xe s₃) X.xe s₂) X.xe s' := by
  obtain ⟨a, B, sI, pins2, σ, H, cls, d, rfl, J2, near, up, sky, no, os, gens, w⟩ := air
  have J := back J2
  have sky2 : Sky B (X.env :: X.outer) a (Zc cls d) X.env.locals s'.heap := by
    rw [← hs]
    exact sky
  have frames : X.A.frames = some (X.env :: X.outer) := by rw [ok.frames, hs]
  refine Sky.land Zc.steady frames hf sky2 fun h3 fly up3 => ?_
  obtain ⟨oe, vs, at', _, isF⟩ := fly.there
  have free : a ∉ frs (X.env :: X.outer) := fun inFrames => by
    obtain ⟨_, ob, at2, nf⟩ := fly.2.2.1.mem inFrames
    cases at'.symm.trans at2
    exact nf _ isF
  exact clauses_go (s0 := s') ok hs hf hN tk hh {
    inv := J, near := near, up := up.trans up3, fly := fly, no := no, os := os, gens := gens
    loc := fun z => free (List.mem_filterMap.mpr ⟨X.env, List.mem_cons_self, by rw [hf, z]⟩)
    far := fun inFs => let ⟨e, he, q⟩ := List.mem_filterMap.mp inFs; free (List.mem_filterMap.mpr ⟨e, List.mem_cons_of_mem _ he, q⟩) } w
variable {body : List Stmt} {h₀ : ExceptHandler} {hds : List ExceptHandler} {l : List (Value × Nat × (Addr → Value → Option Addr → TS))} {pos : Pos} {tb : WX → TS}
theorem ps_try_manyAs (hs : X.stack = X.env :: X.outer) (hf : X.env.frame = some X.env.locals) (hN : X.N.Nodup) (tk : Takes X Wout)
    (hb : ∀ (W : WX) (pn : List (Addr × Obj)) (xe : Value → Shared → Prop), Takes (X.tr pn xe) W → PassesOwn (model X.prog X.w) X.A X.env xe → PSs (X.tr pn xe) body (tb W))
    (hh : HdsAs X (h₀ :: hds) l) : PS X (.Try body (h₀ :: hds) [] [] pos) (fun D σ H => tb (wManyAs X.K Wout D l) D σ H) := .mk fun pins s σ H D I h => by
  have ok := I.ok
  let xe : Value → Shared → Prop := fun u s₁ => wpAny (model X.prog X.w) X.A (noteFrame u X.env) (fun _ s₂ => wpAny (model X.prog X.w) X.A (setFlight u none) (fun _ s₃ => wpAny (model X.prog X.w) X.A (handleBy u X.env (h₀ :: hds)) (SP X pins D) X.xe s₃) X.xe s₂) X.xe s₁
  have caught : Takes (X.tr (X.pn ++ pins) xe) (wManyAs X.K Wout D l) := fun u s2 air => caught_go (pn := []) (body := body) ok hs hf hN tk hh air fun J => J.ofTry ok
  refine wpAny_Try_except (wpAny_mono ((hb _ _ xe caught PassesOwn.looking).run [] s σ H D (I.toTry _) h) (fun f s1 out => ?_) fun _ _ z => z)
  match f, out with
  | .next, ⟨_, _, J, q⟩ => exact wpAny_execs_nil ⟨_, _, J.ofTry ok, q⟩
  | .brk, ⟨_, _, J, q⟩ => exact ⟨_, _, J.ofTry ok, q⟩
  | .cont, ⟨_, _, J, q⟩ => exact ⟨_, _, J.ofTry ok, q⟩
  | .ret _, ⟨_, _, _, J, rel, q⟩ => exact ⟨_, _, _, J.ofTry ok, rel, q⟩
end
/-! ### classes of the text, made by their names -/
structure Cn (P : Program) (w : World) (K : PySem.W.Frag) (mg : Str → Option Value) (base : Heap) (CX : CXT) (k : Nat) (x : Str) (C : Addr) (ps : List Str) (sp : Sp) : Prop where
  ex : ∃ (f : Addr) (fd : FuncData), Mk K C f ∧ FnOk P w K mg base CX k f fd ps sp ∧ Binds K fd ps []
  g : mg x = some (.ref C)
section
variable {X : Cx} {CX : CXT} {k : Nat} {C : Addr} {ps : List Str} {sp : Sp} {E : L2.St → XK} {x : Str} {p pos : Pos} {e : Expr} {es : List Expr} {t : TA}
theorem pe_mkS (N : Cn X.prog X.w X.K X.mg X.base CX k x C ps sp) (hr : Room (k + 1) X.A) (hx : ∀ σ, PassesAt CX X σ (E σ)) (ha : PA X (e :: es) t) (hg : Gl X x := by rfl) (hdb : (x == ("__debug__" : Str)) = false := by decide)
    (he : starEach (e :: es) X.env = (false, eval e X.env) :: starEach es X.env := by rfl) (hpl : (backTo pos (starEach es X.env)).any (·.1) = false := by rfl) : PE X (.Call (.Name x p) (e :: es) [] pos) (tMakeS C sp E t) :=
  let ⟨_, _, M, F, hb⟩ := N.ex
  pe_makeS M F hr hg N.g hb hx ha hdb he hpl
end
end Wf
/-! with which sign a shown thing begins -/
namespace Wf
open PySem PySem.Spec PyProof.Rows L2
/-- the first sign -/
def hd (z : Str) : Option Nat := z.cps.toList.head?
theorem hd_app {x y : Str} {c : Nat} (h : hd x = some c) : hd (x ++ y) = some c := by
  unfold hd at h ⊢
  rw [show (x ++ y).cps.toList = x.cps.toList ++ y.cps.toList from Array.toList_append]
  cases e : x.cps.toList with
  | nil =>
    rw [e] at h
    cases h
  | cons a r =>
    rw [e] at h
    exact h
theorem hd_from {c : Nat} : ∀ (ts : List Str) (k : Nat) (acc : Str), hd acc = some c → hd (textFrom k acc ts) = some c
  | [], _, _, h => h
  | t :: r, k, acc, h => hd_from r (k + 1) _ (hd_app (hd_app h))
theorem hd_list (ts : List Str) : hd (listText ts) = some 91 := hd_app (hd_from ts 0 _ rfl)
theorem hd_tuple (ts : List Str) : hd (tupleText ts) = some 40 := hd_app (hd_app rfl)
theorem hd_dict (ts : List Str) : hd (dictText ts) = some 123 := hd_app (hd_app rfl)
theorem fold_head {q : Nat} {f : Nat → List Nat} : ∀ (cs : List Nat) (acc : Array Nat), acc.toList.head? = some q → (cs.foldl (fun out c => out ++ (f c).toArray) acc).toList.head? = some q
  | [], _, h => h
  | c :: r, acc, h => fold_head r _ (by
    rw [Array.toList_append]
    cases e : acc.toList with
    | nil =>
      rw [e] at h
      cases h
    | cons a b =>
      rw [e] at h
      exact h)
theorem hd_text (x : Str) : hd (reprText x) = some (reprQuote x) := by
  unfold hd reprText
  rw [Array.toList_push, ← Array.foldl_toList]
  have e := fold_head (f := PySem.Builtin.Str.reprChar (reprQuote x)) x.cps.toList #[reprQuote x] rfl
  cases q : (x.cps.toList.foldl (fun out c => out ++ (PySem.Builtin.Str.reprChar (reprQuote x) c).toArray) #[reprQuote x]).toList with
  | nil =>
    rw [q] at e
    cases e
  | cons a b =>
    rw [q] at e
    exact e
theorem hd_int (i : Int) : ∃ c, hd (PyData.int i).shown = some c ∧ c < 60 := by
  show ∃ c, hd (PySem.Str.ofString (toString i)) = some c ∧ c < 60
  unfold hd
  cases i with
  | ofNat m =>
    have e := PySem.W.KIN.signs_num m
    rw [show (PySem.Str.ofString (toString (Int.ofNat m))).cps.toList = _ from e]
    have l := toDigits_len_ge 10 m
    cases q : Nat.toDigits 10 m with
    | nil =>
      rw [q] at l
      exact absurd l (by decide)
    | cons a b =>
      refine ⟨a.toNat, rfl, ?_⟩
      have r := digit_range (Nat.isDigit_of_mem_toDigits (c := a) (n := m) (b := 10) (by decide) (by decide) (by rw [q]; exact List.mem_cons_self))
      omega
  | negSucc m => exact ⟨45, rfl, by decide⟩
theorem shown_is {d : PyData} : (d.shown = "True" ∨ d.shown = "False" ∨ d.shown = "None") ↔ isMark d = true := by
  have no : ∀ {c : Nat}, hd d.shown = some c → c ≠ 84 → c ≠ 70 → c ≠ 78 → ¬ (d.shown = "True" ∨ d.shown = "False" ∨ d.shown = "None") := fun h n1 n2 n3 z => by
    rcases z with z | z | z
    · rw [z] at h
      exact n1 (Option.some.inj (h.symm.trans rfl))
    · rw [z] at h
      exact n2 (Option.some.inj (h.symm.trans rfl))
    · rw [z] at h
      exact n3 (Option.some.inj (h.symm.trans rfl))
  cases d with
  | none => exact ⟨fun _ => rfl, fun _ => .inr (.inr rfl)⟩
  | bool b => cases b
              · exact ⟨fun _ => rfl, fun _ => .inr (.inl rfl)⟩
              · exact ⟨fun _ => rfl, fun _ => .inl rfl⟩
  | int i =>
    obtain ⟨c, h, l⟩ := hd_int i
    exact ⟨fun z => absurd z (no h (by omega) (by omega) (by omega)), fun z => by cases z⟩
  | str x =>
    have h := hd_text x
    refine ⟨fun z => absurd z (no h ?_ ?_ ?_), fun z => by cases z⟩ <;> (unfold reprQuote; split <;> decide)
  | list xs => exact ⟨fun z => absurd z (no (hd_list _) (by decide) (by decide) (by decide)), fun z => by cases z⟩
  | tuple xs => exact ⟨fun z => absurd z (no (hd_tuple _) (by decide) (by decide) (by decide)), fun z => by cases z⟩
  | dict xs => exact ⟨fun z => absurd z (no (hd_dict _) (by decide) (by decide) (by decide)), fun z => by cases z⟩
end Wf
/-! a text from its end to its beginning -/
namespace Wf
open PySem PySem.Spec PyProof.Rows L2
def revS (z : Str) : Str := ⟨z.cps.toList.reverse.toArray⟩
theorem rev_picked (z : Str) (t : Tok) : slicePicked z none none (some (-1, t)) = sliceRange ((z.length : Int) - 1) (-1) (-1) := rfl
theorem rev_made (z : Str) (t u : Tok) : sliceMade z t none none (some (-1, u)) = .str (revS z) := by
  unfold sliceMade
  rw [if_neg (by
    rw [show ((some ((-1 : Int), u)).map (·.1)).getD 1 = -1 from rfl]
    simp), rev_picked]
  refine congrArg Made.str (congrArg Str.mk ?_)
  rw [show z.length = z.cps.size from rfl, PySem.W.krv_sliceRange, PySem.W.krv_range, List.filterMap_reverse]
  exact congrArg (fun l => (List.reverse l).toArray) (PySem.W.krv_all z.cps)
def tRevS (te : TE) : TE := fun σ H Q => te σ H fun x H1 => ∃ z : Str, x = .str z ∧ z.length ≤ sizeLine ∧ Q (.str (revS z)) H1
theorem pe_revS {X : Cx} {e : Expr} {te : TE} {k : Nat} {p1 p2 p3 pos : Pos} (he : PE X e te) : PE X (.Subscript e (.Slice none none (some (.UnaryOp .USub (.Constant (.int 1) k p1) p2)) p3) pos) (tRevS te) := .mk fun pins s σ H Q I h =>
  Subscript_ (thn (he.run pins s σ H _ I h) fun v s1 ⟨x, H1, I1, rx, z, ex, small, q⟩ => by
    subst ex
    obtain ⟨t, rfl⟩ := rx
    have step : PO X (some (.UnaryOp .USub (.Constant (.int 1) k p1) p2)) (tPart (tUn (rU fun i => .int (-i)) (tC (.int 1)))) := po_some (pe_un un_neg pe_int)
    refine wpAny_Slice (thn (po_none.run pins s1 σ H1 (fun o H2 => o = none ∧ H2 = H1) I1 ⟨rfl, rfl⟩) fun lo s2 ⟨_, G2, I2, plo, e1, e2⟩ => ?_)
    rw [e2] at I2
    rw [e1] at plo
    refine thn (po_none.run pins s2 σ H1 (fun o H3 => o = none ∧ H3 = H1) I2 ⟨rfl, rfl⟩) fun hi s3 ⟨_, G3, I3, phi, e3, e4⟩ => ?_
    rw [e4] at I3
    rw [e3] at phi
    refine thn (step.run pins s3 σ H1 (fun o H4 => o = some (-1) ∧ H4 = H1) I3 ⟨1, rfl, -1, rfl, rfl, rfl⟩) fun st s4 ⟨_, G4, I4, pst, e5, e6⟩ => ?_
    rw [e6] at I4
    rw [e5] at pst
    cases plo
    cases phi
    cases pst with
    | int _ u =>
    let cut : Obj := { cls := .type "slice", data := .fields #[.none, .none, .int (-1) u] }
    have I5 : Inv X pins σ H1 { s4 with heap := s4.heap.push cut } := I4.kept (t' := s4.toks) fun b ob z => Heap.get?_push_of_some _ z
    refine tail_any (ops := [.ref s4.heap.objs.size, .str z t]) (typeIs_str _ _ _) F.slot_str_getitem.lookup ?_ (by with_unfolding_all rfl)
    refine wpAny_getItem_str_slice (l := none) (u := none) (st := some (-1, u)) ⟨cut, Heap.get?_push_size _ rfl, rfl, rfl⟩ rfl ?_
    rw [rev_made]
    refine ⟨?_, .str (revS z), H1, I5.tok _, ⟨_, rfl⟩, q⟩
    show z.cps.toList.reverse.toArray.size ≤ sizeLine
    rw [List.size_toArray, List.length_reverse, Array.length_toList]
    exact small)
end Wf
/-! tables that are changed by place; how much of data is shown -/
namespace Wf
open PySem PySem.Spec PyProof.Rows L2
/-! ### what is shown -/
structure Vw (k n : Nat) (d : PyData) : Prop where
  s : d.showable = true
  dp : d.depth ≤ k
  sz : d.shown.length ≤ n
theorem Vw.more {k n k' n' : Nat} {d : PyData} (h : Vw k n d) (a : k ≤ k') (b : n ≤ n') : Vw k' n' d := ⟨h.s, Nat.le_trans h.dp a, Nat.le_trans h.sz b⟩
theorem shownAll_sum {n : Nat} : ∀ {ds : List PyData}, (∀ d ∈ ds, d.shown.length ≤ n) → ((PyData.shownAll ds).map (·.length)).sum + 2 * (PyData.shownAll ds).length ≤ ds.length * (n + 2)
  | [], _ => Nat.zero_le _
  | d :: ds, h => by
    have h1 := h d List.mem_cons_self
    have h2 := shownAll_sum (ds := ds) fun x hx => h x (List.mem_cons_of_mem _ hx)
    show ((PyData.shown d :: PyData.shownAll ds).map (·.length)).sum + 2 * (PyData.shown d :: PyData.shownAll ds).length ≤ (ds.length + 1) * (n + 2)
    rw [List.map_cons, List.sum_cons, List.length_cons, Nat.add_mul, Nat.one_mul]
    omega
theorem vw_list {k n c : Nat} {ds : List PyData} (hl : ds.length ≤ c) (h : ∀ d ∈ ds, Vw k n d) : Vw (k + 1) (c * (n + 2) + 3) (.list ds) := by
  refine ⟨showableAll_of fun d hd => (h d hd).s, Nat.succ_le_succ (dep_all fun d hd => (h d hd).dp), ?_⟩
  have h1 := listText_len_le (PyData.shownAll ds)
  have h2 := shownAll_sum fun d hd => (h d hd).sz
  have h3 := Nat.mul_le_mul_right (n + 2) hl
  show (listText (PyData.shownAll ds)).length ≤ _
  omega
theorem vw_tuple {k n c : Nat} {ds : List PyData} (hl : ds.length ≤ c) (h : ∀ d ∈ ds, Vw k n d) : Vw (k + 1) (c * (n + 2) + 3) (.tuple ds) := by
  refine ⟨showableAll_of fun d hd => (h d hd).s, Nat.succ_le_succ (dep_all fun d hd => (h d hd).dp), ?_⟩
  have h1 := tupleText_len_le (PyData.shownAll ds)
  have h2 := shownAll_sum fun d hd => (h d hd).sz
  have h3 := Nat.mul_le_mul_right (n + 2) hl
  show (tupleText (PyData.shownAll ds)).length ≤ _
  omega
theorem vw_none : Vw 0 5 .none := ⟨rfl, Nat.le_refl _, by decide +kernel⟩
theorem vw_bool {b : Bool} : Vw 0 5 (.bool b) := ⟨rfl, Nat.le_refl _, by cases b <;> decide +kernel⟩
theorem vw_int {n : Nat} (h : n < 1000000) : Vw 0 10 (.int (n : Int)) := by
  refine ⟨?_, Nat.le_refl _, PySem.W.KT.len_num (by omega) (by omega)⟩
  show decide ((n : Int).natAbs.log2 < 1920) = true
  refine decide_eq_true ?_
  rw [Int.natAbs_natCast]
  have h2 : n.log2 ≤ n := Nat.log2_le_self n
  rcases Nat.eq_zero_or_pos n with rfl | hp
  · decide
  · have := (Nat.log2_lt (n := n) (k := 20) (by omega)).mpr (by omega)
    omega
theorem vw_str {x : Str} {m : Nat} (h : PyData.strOk x = true) (l : x.length ≤ m) : Vw 0 (10 * m + 2) (.str x) := by
  refine ⟨rfl, Nat.le_refl _, ?_⟩
  show (reprText x).length ≤ 10 * m + 2
  refine Nat.le_trans (StrLaws.reprText_len x fun c hc => ?_) (by omega)
  have h2 : x.cps.all (· < 0x110000) = true := h
  rw [← Array.all_toList, List.all_eq_true] at h2
  have := of_decide_eq_true (h2 c hc)
  omega
/-! ### new data -/
/-- what is new in H stands in H' as well -/
def New (H0 H H' : Hp) : Prop := ∀ b o, H0 b = none → H b = some o → H' b = some o
/-- new data: whatever happens to what was there before -/
def NewD (K : PySem.W.Frag) (H0 H : Hp) (v : V) (d : PyData) : Prop := ∀ H', New H0 H H' → Dq K H' v d
def NewAll (K : PySem.W.Frag) (H0 H : Hp) (vs : List V) (ds : List PyData) : Prop := ∀ H', New H0 H H' → DqAll K H' vs ds
section
variable {K : PySem.W.Frag} {H0 H1 H H' : Hp} {v : V} {d : PyData} {vs : List V} {ds : List PyData} {p : Addr}
theorem New.refl : New H0 H H := fun _ _ _ e => e
theorem New.same (s : Same H H') : New H0 H H' := fun b o _ e => s b o e
theorem New.but (s : But p H H') (hp : H0 p ≠ none) : New H0 H H' := fun b o z e => s b o (fun q => hp (q ▸ z)) e
theorem New.upd {o : HO} (hp : H0 p ≠ none) : New H0 H (upd H p o) := fun b u z e => (upd_ne (show b ≠ p from fun q => hp (q ▸ z))).trans e
theorem New.trans (a : New H0 H H1) (b : New H0 H1 H') : New H0 H H' := fun x o z e => b x o z (a x o z e)
theorem NewD.to (h : NewD K H0 H v d) (n : New H0 H H') : NewD K H0 H' v d := fun G m => h G (n.trans m)
theorem NewD.same (h : NewD K H0 H v d) (s : Same H H') : NewD K H0 H' v d := h.to (New.same s)
theorem NewD.but (h : NewD K H0 H v d) (s : But p H H') (hp : H0 p ≠ none) : NewD K H0 H' v d := h.to (New.but s hp)
theorem NewD.dq (h : NewD K H0 H v d) : Dq K H v d := h H New.refl
theorem NewD.old (h : NewD K H1 H v d) (t : There H0 H1) : NewD K H0 H v d := fun G m => h G fun b o z e => m b o (t b z) e
theorem NewAll.to (h : NewAll K H0 H vs ds) (n : New H0 H H') : NewAll K H0 H' vs ds := fun G m => h G (n.trans m)
theorem NewAll.dq (h : NewAll K H0 H vs ds) : DqAll K H vs ds := h H New.refl
theorem NewAll.set (h : NewAll K H0 H vs ds) (hv : NewD K H0 H v d) (i : Nat) : NewAll K H0 H (vs.set i v) (ds.set i d) := fun G m => (h G m).set (hv G m)
theorem NewAll.add (h : NewAll K H0 H vs ds) (hv : NewD K H0 H v d) : NewAll K H0 H (vs ++ [v]) (ds ++ [d]) := fun G m => (h G m).app (.cons (hv G m) .nil)
theorem NewD.int {i : Int} : NewD K H0 H (.int i) (.int i) := fun _ _ => .int i
theorem NewD.bl {b : Bool} : NewD K H0 H (.bl b) (.bool b) := fun _ _ => .bl b
theorem NewD.str {x : Str} : NewD K H0 H (.str x) (.str x) := fun _ _ => .str x
theorem NewD.non : NewD K H0 H .non .none := fun _ _ => .non
theorem NewD.lst {l : Addr} (h : NewAll K H0 H vs ds) (n : H0 l = none) (e : H l = some (.lst vs)) : NewD K H0 H (.ref l) (.list ds) := fun G m => .lst (SqL.of (m _ _ n e)) (h G m)
theorem NewD.tup {l : Addr} (h : NewAll K H0 H vs ds) (n : H0 l = none) (e : H l = some (.tup vs)) : NewD K H0 H (.ref l) (.tuple ds) := fun G m => .tup (SqT.of (m _ _ n e)) (h G m)
end
theorem nodup_at {α : Type} {x : α} : ∀ {l : List α} {i j : Nat}, l.Nodup → l[i]? = some x → l[j]? = some x → i = j
  | [], _, _, _, h, _ => by cases h
  | a :: l, 0, 0, _, _, _ => rfl
  | a :: l, 0, j + 1, nd, h1, h2 => by
    cases h1
    exact absurd (List.mem_of_getElem? (i := j) h2) (List.nodup_cons.mp nd).1
  | a :: l, i + 1, 0, nd, h1, h2 => by
    cases h2
    exact absurd (List.mem_of_getElem? (i := i) h1) (List.nodup_cons.mp nd).1
  | a :: l, i + 1, j + 1, nd, h1, h2 => congrArg (· + 1) (nodup_at (i := i) (j := j) (List.nodup_cons.mp nd).2 h1 h2)
theorem Pen.there {H H' : Hp} {p c : Addr} {n : Nat} (h : Pen H' p c n) (b : But p H H') : There H H' := There.but b (by
  obtain ⟨kvs, e⟩ := h.at
  rw [e]
  exact nofun)
theorem Pen.not {H : Hp} {p c : Addr} {n : Nat} (h : Pen H p c n) : H p ≠ none := by
  obtain ⟨kvs, e⟩ := h.at
  rw [e]
  exact nofun
theorem There.upd {H : Hp} {a : Addr} {o : HO} : There H (upd H a o) := fun b n => by
  rcases Decidable.em (b = a) with rfl | ne
  · rw [upd_same] at n
    cases n
  · exact (upd_ne ne).symm.trans n
theorem DqAll.drop {K : PySem.W.Frag} {H : Hp} : ∀ {vs : List V} {ds : List PyData} (n : Nat), DqAll K H vs ds → DqAll K H (vs.drop n) (ds.drop n)
  | _, _, 0, h => h
  | _, _, _ + 1, .nil => .nil
  | _, _, n + 1, .cons _ b => b.drop n
theorem DqAll.take {K : PySem.W.Frag} {H : Hp} : ∀ {vs : List V} {ds : List PyData} (n : Nat), DqAll K H vs ds → DqAll K H (vs.take n) (ds.take n)
  | _, _, 0, _ => .nil
  | _, _, _ + 1, .nil => .nil
  | _, _, n + 1, .cons a b => .cons a (b.take n)
theorem DqAll.many {K : PySem.W.Frag} {H : Hp} {v : V} {d : PyData} (h : Dq K H v d) : ∀ n : Nat, DqAll K H (List.replicate n v) (List.replicate n d)
  | 0 => .nil
  | n + 1 => .cons h (DqAll.many h n)
/-! ### a list of rows and a list of marks that stand in HB, changed since by place -/
structure Grd (K : PySem.W.Frag) (HB H : Hp) (r m : Addr) (bs : List Addr) (rws : List (List V)) (dws : List (List PyData)) (ws : List V) (dms : List PyData) : Prop where
  hr : HB r ≠ none
  hm : HB m ≠ none
  hb : ∀ b ∈ bs, HB b ≠ none ∧ b ≠ r ∧ b ≠ m
  rm : r ≠ m
  nd : bs.Nodup
  rr : H r = some (.lst (bs.map V.ref))
  mm : H m = some (.lst ws)
  row : ∀ (i : Nat) (b : Addr) (row : List V), bs[i]? = some b → rws[i]? = some row → H b = some (.lst row)
  lb : bs.length = rws.length
  ld : bs.length = dws.length
  nw : ∀ (i : Nat) (row : List V) (ds : List PyData), rws[i]? = some row → dws[i]? = some ds → NewAll K HB H row ds
  nm : NewAll K HB H ws dms
section
variable {K : PySem.W.Frag} {HB H H' : Hp} {r m p c b : Addr} {bs : List Addr} {rws : List (List V)} {dws : List (List PyData)} {ws row : List V} {dms ds : List PyData} {v : V} {d : PyData} {i n : Nat}
theorem Grd.to (G : Grd K HB H r m bs rws dws ws dms) (n : New HB H H') (k : ∀ b xs, (b = r ∨ b = m ∨ b ∈ bs) → H b = some (.lst xs) → H' b = some (.lst xs)) : Grd K HB H' r m bs rws dws ws dms :=
  { G with
    rr := k _ _ (.inl rfl) G.rr
    mm := k _ _ (.inr (.inl rfl)) G.mm
    row := fun i b row e1 e2 => k _ _ (.inr (.inr (List.mem_of_getElem? e1))) (G.row i b row e1 e2)
    nw := fun i row ds e1 e2 => (G.nw i row ds e1 e2).to n
    nm := G.nm.to n }
theorem Grd.same (G : Grd K HB H r m bs rws dws ws dms) (s : Same H H') : Grd K HB H' r m bs rws dws ws dms := G.to (New.same s) fun b xs _ e => s _ _ e
theorem Grd.but (G : Grd K HB H r m bs rws dws ws dms) (s : But p H H') (hp : Pen H p c n) (hb : HB p ≠ none) : Grd K HB H' r m bs rws dws ws dms :=
  G.to (New.but s hb) fun b xs _ e => s _ _ (pen_ne hp e fun _ z => by cases z) e
theorem Grd.setRow (G : Grd K HB H r m bs rws dws ws dms) (j : Nat) (eb : bs[i]? = some b) (er : rws[i]? = some row) (ed : dws[i]? = some ds) (hv : NewD K HB H v d) :
    Grd K HB (upd H b (.lst (row.set j v))) r m bs (rws.set i (row.set j v)) (dws.set i (ds.set j d)) ws dms := by
  have mb := List.mem_of_getElem? eb
  obtain ⟨h1, h2, h3⟩ := G.hb b mb
  have nw : New HB H (upd H b (.lst (row.set j v))) := New.upd h1
  refine { G with rr := (upd_ne h2.symm).trans G.rr, mm := (upd_ne h3.symm).trans G.mm, row := fun k b' row' e1 e2 => ?_, lb := by rw [List.length_set]; exact G.lb, ld := by rw [List.length_set]; exact G.ld, nw := fun k row' ds' e1 e2 => ?_, nm := G.nm.to nw }
  · rcases Decidable.em (k = i) with rfl | ne
    · rw [eb] at e1
      cases e1
      rw [List.getElem?_set_self (by rw [← G.lb]; exact (List.getElem?_eq_some_iff.mp eb).1)] at e2
      cases e2
      exact upd_same
    · rw [List.getElem?_set_ne (Ne.symm ne)] at e2
      have nb : b' ≠ b := fun q => by
        subst q
        exact ne (nodup_at G.nd e1 eb)
      exact (upd_ne nb).trans (G.row k b' row' e1 e2)
  · rcases Decidable.em (k = i) with rfl | ne
    · have l1 : k < rws.length := by rw [← G.lb]; exact (List.getElem?_eq_some_iff.mp eb).1
      have l2 : k < dws.length := by rw [← G.ld]; exact (List.getElem?_eq_some_iff.mp eb).1
      rw [List.getElem?_set_self l1] at e1
      rw [List.getElem?_set_self l2] at e2
      cases e1
      cases e2
      exact ((G.nw k row ds er ed).set hv j).to nw
    · rw [List.getElem?_set_ne (Ne.symm ne)] at e1 e2
      exact (G.nw k row' ds' e1 e2).to nw
theorem Grd.setMark (G : Grd K HB H r m bs rws dws ws dms) (j : Nat) (hv : NewD K HB H v d) : Grd K HB (upd H m (.lst (ws.set j v))) r m bs rws dws (ws.set j v) (dms.set j d) := by
  have nw : New HB H (upd H m (.lst (ws.set j v))) := New.upd G.hm
  exact { G with
    rr := (upd_ne G.rm).trans G.rr
    mm := upd_same
    row := fun k b row e1 e2 => (upd_ne (G.hb b (List.mem_of_getElem? e1)).2.2).trans (G.row k b row e1 e2)
    nw := fun k row ds e1 e2 => (G.nw k row ds e1 e2).to nw
    nm := (G.nm.set hv j).to nw }
theorem Grd.rows (G : Grd K HB H r m bs rws dws ws dms) : DqAll K H (bs.map V.ref) (dws.map PyData.list) := by
  have go : ∀ (as : List Addr) (ts : List (List PyData)), as.length = ts.length → (∀ (i : Nat) (a : Addr) (t : List PyData), as[i]? = some a → ts[i]? = some t → Dq K H (.ref a) (.list t)) → DqAll K H (as.map V.ref) (ts.map PyData.list) := by
    intro as
    induction as with
    | nil =>
      intro ts h _
      cases ts with
      | nil => exact .nil
      | cons _ _ => cases h
    | cons a as ih =>
      intro ts h k
      cases ts with
      | nil => cases h
      | cons t ts => exact .cons (k 0 a t rfl rfl) (ih ts (Nat.succ.inj h) fun i b u e1 e2 => k (i + 1) b u e1 e2)
  refine go bs dws G.ld fun i a t e1 e2 => ?_
  obtain ⟨row, er⟩ : ∃ row, rws[i]? = some row := ⟨_, List.getElem?_eq_getElem (by rw [← G.lb]; exact (List.getElem?_eq_some_iff.mp e1).1)⟩
  exact .lst (SqL.of (G.row i a row e1 er)) (G.nw i row t er e2).dq
theorem Grd.dqR (G : Grd K HB H r m bs rws dws ws dms) : Dq K H (.ref r) (.list (dws.map PyData.list)) := .lst (SqL.of G.rr) G.rows
theorem Grd.dqM (G : Grd K HB H r m bs rws dws ws dms) : Dq K H (.ref m) (.list dms) := .lst (SqL.of G.mm) G.nm.dq
/-- another thing in a row's place -/
theorem Grd.setR (G : Grd K HB H r m bs rws dws ws dms) (j : Nat) (hv : NewD K HB H v d) :
    Dq K (upd H r (.lst ((bs.map V.ref).set j v))) (.ref r) (.list ((dws.map PyData.list).set j d)) ∧ (upd H r (.lst ((bs.map V.ref).set j v))) m = some (.lst ws) ∧ DqAll K (upd H r (.lst ((bs.map V.ref).set j v))) ws dms ∧ New HB H (upd H r (.lst ((bs.map V.ref).set j v))) := by
  have nw : New HB H (upd H r (.lst ((bs.map V.ref).set j v))) := New.upd G.hr
  have G2 : Grd K HB (upd H r (.lst (bs.map V.ref))) r m bs rws dws ws dms := G.to (New.upd G.hr) fun b xs _ e => by
    rcases Decidable.em (b = r) with rfl | ne
    · rw [G.rr] at e
      cases e
      exact upd_same
    · exact (upd_ne ne).trans e
  refine ⟨.lst (SqL.of upd_same) (DqAll.set ?_ (hv _ nw)), (upd_ne G.rm.symm).trans G.mm, G.nm _ nw, nw⟩
  have go : ∀ (as : List Addr) (ts : List (List PyData)), as.length = ts.length → (∀ (i : Nat) (a : Addr) (t : List PyData), as[i]? = some a → ts[i]? = some t → Dq K (upd H r (.lst ((bs.map V.ref).set j v))) (.ref a) (.list t)) → DqAll K (upd H r (.lst ((bs.map V.ref).set j v))) (as.map V.ref) (ts.map PyData.list) := by
    intro as
    induction as with
    | nil =>
      intro ts h _
      cases ts with
      | nil => exact .nil
      | cons _ _ => cases h
    | cons a as ih =>
      intro ts h k
      cases ts with
      | nil => cases h
      | cons t ts => exact .cons (k 0 a t rfl rfl) (ih ts (Nat.succ.inj h) fun i b u e1 e2 => k (i + 1) b u e1 e2)
  refine go bs dws G.ld fun i a t e1 e2 => ?_
  obtain ⟨row, er⟩ : ∃ row, rws[i]? = some row := ⟨_, List.getElem?_eq_getElem (by rw [← G.lb]; exact (List.getElem?_eq_some_iff.mp e1).1)⟩
  exact .lst (SqL.of ((upd_ne (G.hb a (List.mem_of_getElem? e1)).2.1).trans (G.row i a row e1 er))) (G.nw i row t er e2 _ nw)
end
/-- data of a table's numbers and marks -/
def dO : Option Nat → PyData
  | none => .none
  | some n => .int (n : Int)
def dM : Option Bool → PyData
  | none => .none
  | some b => .bool b
theorem dq_o {K : PySem.W.Frag} {H : Hp} (o : Option Nat) : Dq K H (oV o) (dO o) := by
  cases o
  · exact .non
  · exact .int _
theorem dq_m {K : PySem.W.Frag} {H : Hp} (o : Option Bool) : Dq K H (mV o) (dM o) := by
  cases o
  · exact .non
  · exact .bl _
theorem Tbl.grd {K : PySem.W.Frag} {H0 H : Hp} {z sz : Nat} {full : Bool} {r m : Addr} {bs : List Addr} {tb : List (List (Option Nat))} {ms : List (Option Bool)} (T : Tbl H0 H z sz full r m bs tb ms) :
    Grd K H H r m bs (tb.map fun row => row.map oV) (tb.map fun row => row.map dO) (ms.map mV) (ms.map dM) where
  hr := by rw [T.ra]; exact fun z => by cases z
  hm := by rw [T.ma]; exact fun z => by cases z
  hb b hb := by
    obtain ⟨xs, e⟩ := T.there hb
    exact ⟨(by rw [e]; exact nofun), (T.new.2.2 b hb).2⟩
  rm := T.rm
  nd := T.nd
  rr := T.ra
  mm := T.ma
  row i b row e1 e2 := by
    obtain ⟨t, e3, rfl⟩ := Option.map_eq_some_iff.mp (show (tb[i]?).map _ = some row by rw [← List.getElem?_map]; exact e2)
    exact T.row (b, t) (List.mem_of_getElem? (i := i) (by rw [List.getElem?_zip_eq_some]; exact ⟨e1, e3⟩))
  lb := by rw [List.length_map]; exact T.lb
  ld := by rw [List.length_map]; exact T.lb
  nw i row ds e1 e2 := by
    obtain ⟨t, e3, rfl⟩ := Option.map_eq_some_iff.mp (show (tb[i]?).map _ = some row by rw [← List.getElem?_map]; exact e1)
    obtain ⟨t', e4, rfl⟩ := Option.map_eq_some_iff.mp (show (tb[i]?).map _ = some ds by rw [← List.getElem?_map]; exact e2)
    rw [e3] at e4
    cases e4
    exact fun G _ => DqAll.of fun x _ => dq_o x
  nm := fun G _ => DqAll.of fun x _ => dq_m x
end Wf
/-! sets of tuples of whole numbers and texts: what is asked of one element -/
namespace Wf
open PySem PySem.Spec PyProof.Rows L2
/-- at b: the tuple of the keys k (whole numbers and texts) -/
abbrev KT (P : Program) (w : World) (h : Heap) (k : List Key) (b : Addr) : Prop := IsTupleKey (mixKind P w) h k b
/-- a whole number or a text -/
def Plain (v : Value) : Prop := (∃ i t, v = .int i t) ∨ ∃ x t, v = .str x t
section
variable {P : Program} {w : World} {A : Around} {E : Value → Shared → Prop} {s : Shared} {k : List Key} {b : Addr}
theorem plain_items {vs : List Value} (h : ItemsAre (mixKind P w) k vs) : ∀ v ∈ vs, Plain v := by
  induction h with
  | nil => exact fun _ hv => absurd hv List.not_mem_nil
  | cons one _ rest =>
    intro v hv
    rcases List.mem_cons.mp hv with rfl | hv
    · exact (keyIs_shape one).imp (fun ⟨i, t, _, e⟩ => ⟨i, t, e⟩) fun ⟨x, t, _, e⟩ => ⟨x, t, e⟩
    · exact rest v hv
theorem Plain.noClass {v : Value} (h : Plain v) (n : Nat) : ofAClassStatement n v = pure false := by
  rcases h with ⟨i, t, rfl⟩ | ⟨x, t, rfl⟩ <;> cases n <;> rfl
/-- a walk over plain items that meets nothing -/
theorem plain_walk {M : Model} {items : Array Value} {f : Value → Option Bool × PUnit → Sem (ForInStep (Option Bool × PUnit))} {Q : Option Bool × PUnit → Shared → Prop} (each : ∀ v ∈ items.toList, ∀ r : Option Bool × PUnit, r.1 = none → ∃ r' : Option Bool × PUnit, r'.1 = none ∧ f v r = pure (.yield r')) (last : ∀ r : Option Bool × PUnit, r.1 = none → Q r s) :
    wpAny M A (forIn items (none, PUnit.unit) f) Q E s := by
  rw [← Array.forIn_toList]
  refine wpAny_forIn_list f (fun rest r s' => (r.1 = none ∧ s' = s) ∧ ∀ v ∈ rest, v ∈ items.toList) Q (fun v rest r s' ⟨⟨e, es⟩, all⟩ => ?_) (fun r s' ⟨⟨e, es⟩, _⟩ => by rw [es]; exact last r e) _ _ ⟨⟨rfl, rfl⟩, fun _ h => h⟩
  obtain ⟨r', e', q⟩ := each v (all v List.mem_cons_self) r e
  rw [q]
  exact wpAny_pure ⟨⟨e', es⟩, fun u hu => all u (List.mem_cons_of_mem _ hu)⟩
theorem KT.noClass {Q : Bool → Shared → Prop} (h : KT P w s.heap k b) (q : Q false s) : wpAny (model P w) A (ofAClassStatement 8 (.ref b)) Q E s := by
  have ty := h.typeIs
  obtain ⟨o, items, n, ho, _, hd, hi⟩ := h
  have all := plain_items hi
  unfold ofAClassStatement
  refine wpAny_bind (wpAny_typeOf ty ?_)
  simp only [show (("tuple" : String) == "tuple") = true from by decide, if_true, Bool.not_true, Bool.false_eq_true, if_false]
  try refine wpAny_bind (wpAny_pure ?_)
  refine wpAny_bind (wpAny_seqItems ho hd ?_)
  refine wpAny_bind (plain_walk (fun v hv r e => ?_) fun r e => ?_)
  · refine ⟨(none, PUnit.unit), rfl, ?_⟩
    rw [(all v hv).noClass]
    rfl
  · obtain ⟨r1, r2⟩ := r
    cases e
    exact wpAny_pure q
end
end Wf
/-! a set of tuples of whole numbers and texts: its state, and the search for one -/
namespace Wf
open PySem PySem.Spec PyProof.Rows L2
abbrev hk (P : Program) (w : World) (k : List Key) : Int := tupleKeyHash (mixKind P w) k
abbrev El := Addr × List Key
/-- an element as the set's object holds it -/
def ent (P : Program) (w : World) (p : El) : Int × Value := (hk P w p.2, .ref p.1)
/-- the set at a holds the elements L, no key twice -/
structure Sst (P : Program) (w : World) (h : Heap) (a : Addr) (L : List El) (es : Array (Int × Value)) (ep : Nat) (t : SetTable) : Prop where
  ob : ∃ o, h.get? a = some o ∧ o.ExactSet ∧ o.data = .set es ep t
  is : es.toList = L.map (ent P w)
  tab : TabOk t (L.map fun p => hk P w p.2)
  nd : (L.map (·.2)).Nodup
  el : ∀ p ∈ L, KT P w h p.2 p.1
  led : w.params.followText "set-order" = true ∨ t.led = true
  room : L.length * 5 < t.mask * 3
  few : L.length < 64
/-- the c-th place of the way of h -/
abbrev pr (m : Nat) (h : Int) (c : Nat) : SetTable.Probe := nth m (runAt m (SetTable.bits h % (m + 1)) (SetTable.bits h)) c
theorem pr_add (m : Nat) (h : Int) (c q : Nat) : nth m (pr m h c) q = pr m h (c + q) := (nth_add m c _ q).symm
theorem adv_dummy (m : Nat) (p : SetTable.Probe) : (adv m p).dummy = p.dummy := by
  unfold adv
  split <;> rfl
theorem nth_dummy (m : Nat) : ∀ (n : Nat) (p : SetTable.Probe), (nth m p n).dummy = p.dummy
  | 0, _ => rfl
  | n + 1, p => (nth_dummy m n (adv m p)).trans (adv_dummy m p)
def hashes (es : Array (Int × Value)) (i : Nat) : Int := (es[i]?.map (·.1)).getD 0
section
variable {P : Program} {w : World} {A : Around} {E : Value → Shared → Prop} {s : Shared} {a : Addr} {L : List El} {es : Array (Int × Value)} {ep : Nat} {t : SetTable}
theorem Sst.size (R : Sst P w s.heap a L es ep t) : es.size = L.length := by rw [← Array.length_toList, R.is, List.length_map]
theorem Sst.places (R : Sst P w s.heap a L es ep t) : t.place.size = L.length := by rw [R.tab.sz, List.length_map]
theorem fits_of {n : Nat} (h : t.place.size = n) (d : t.dummies = #[]) (le : n ≤ t.mask) : t.fits n = true := by
  unfold SetTable.fits SetTable.fill
  rw [d, h, beq_self_eq_true, Bool.true_and]
  exact decide_eq_true (by show n + 0 ≤ _; omega)
theorem Sst.fits (R : Sst P w s.heap a L es ep t) : t.fits es.size = true := by
  have := R.room
  rw [R.size]
  exact fits_of R.places R.tab.dm (by omega)
theorem Sst.at (R : Sst P w s.heap a L es ep t) {i : Nat} {p : El} (h : L[i]? = some p) : es[i]? = some (ent P w p) := by
  rw [← Array.getElem?_toList, R.is, List.getElem?_map, h]
  rfl
theorem Sst.hash (R : Sst P w s.heap a L es ep t) {i : Nat} {p : El} (h : L[i]? = some p) : hashes es i = hk P w p.2 := by
  unfold hashes
  rw [R.at h]
  rfl
/-- what is met from the c-th place on -/
theorem Sst.met (R : Sst P w s.heap a L es ep t) {h : Int} {K c : Nat} (few : K < 10 * SetTable.turns t.mask) (le : c ≤ K) (free : way t.mask h K ∉ t.place.toList) (full : ∀ q, q < K → way t.mask h q ∈ t.place.toList) :
    (∃ q i p, c ≤ q ∧ q < K ∧ L[i]? = some p ∧ t.slot (way t.mask h q) = .live i ∧ (∀ q' i', c ≤ q' → q' < q → t.place.toList[i']? = some (way t.mask h q') → hashes es i' ≠ h) ∧ t.probe (hashes es) h (pr t.mask h c) = some (.candidate (way t.mask h q) i (pr t.mask h (q + 1)))) ∨
    ((∀ q' i', c ≤ q' → q' < K → t.place.toList[i']? = some (way t.mask h q') → hashes es i' ≠ h) ∧ t.probe (hashes es) h (pr t.mask h c) = some (.empty (way t.mask h K) none)) := by
  have j : ∀ q, (nth t.mask (pr t.mask h c) q).j = way t.mask h (c + q) := fun q => congrArg SetTable.Probe.j (pr_add t.mask h c q)
  have g := go_spec t R.tab.ris R.tab.dm (hashes es) h (10 * SetTable.turns t.mask) (K - c) (pr t.mask h c) (nth_dummy _ _ _) (by omega) (fun q lt => (j q).symm ▸ full _ (by omega)) (by rw [j, Nat.add_sub_cancel' le]; exact free)
  have back : ∀ {n : Nat}, (∀ q' i', q' < n → t.place.toList[i']? = some (nth t.mask (pr t.mask h c) q').j → hashes es i' ≠ h) → ∀ q' i', c ≤ q' → q' < c + n → t.place.toList[i']? = some (way t.mask h q') → hashes es i' ≠ h := fun no q' i' l1 l2 e =>
    no (q' - c) i' (by omega) (by rw [j, Nat.add_sub_cancel' l1]; exact e)
  rcases g with ⟨q, i, lt, pl, _, no, go⟩ | ⟨no, go⟩
  · rw [j] at pl
    have il : i < L.length := by
      have := (List.getElem?_eq_some_iff.mp pl).1
      rw [Array.length_toList, R.places] at this
      exact this
    refine .inl ⟨c + q, i, L[i], Nat.le_add_right _ _, by omega, List.getElem?_eq_getElem il, slot_live R.tab.ris pl, back no, ?_⟩
    rw [j, pr_add] at go
    exact go
  · refine .inr ⟨fun q' i' l1 l2 => back no q' i' l1 (by omega), ?_⟩
    rw [j, Nat.add_sub_cancel' le] at go
    exact go
theorem KT.unseen {k : List Key} {b : Addr} {Q : Bool → Shared → Prop} (h : KT P w s.heap k b) {ys : List Value} (all : ∀ y ∈ ys, ∃ k' c, y = Value.ref c ∧ KT P w s.heap k' c) (q : Q false s) : wpAny (model P w) A (searchCouldBeSeen (.ref b) ys) Q E s := by
  unfold searchCouldBeSeen
  refine wpAny_bind (wpAny_forIn_list _ (fun rest r s' => (r.1 = none ∧ s' = s) ∧ ∀ y ∈ rest, y ∈ ys) _ (fun y rest r s' ⟨⟨e, es⟩, sub⟩ => ?_) (fun r s' ⟨⟨e, es⟩, _⟩ => ?_) _ _ ⟨⟨rfl, rfl⟩, fun _ z => z⟩)
  · subst es
    obtain ⟨k', c, rfl, hc⟩ := all y (sub _ List.mem_cons_self)
    have on : ∀ u ∈ rest, u ∈ ys := fun u hu => sub u (List.mem_cons_of_mem _ hu)
    dsimp only
    split
    · exact wpAny_pure ⟨⟨rfl, rfl⟩, on⟩
    · refine wpAny_bind (wpAny_eqIsQuiet_tuple h ?_)
      rw [if_neg (by decide)]
      refine wpAny_bind (wpAny_eqIsQuiet_tuple hc ?_)
      rw [if_neg (by decide)]
      refine wpAny_bind (h.noClass ?_)
      rw [if_neg (by decide)]
      refine wpAny_bind (hc.noClass ?_)
      rw [if_neg (by decide)]
      exact wpAny_pure ⟨⟨rfl, rfl⟩, on⟩
  · obtain ⟨r1, r2⟩ := r
    cases e
    subst es
    exact wpAny_pure q
end
end Wf
/-! the search for a tuple in a set of tuples -/
namespace Wf
open PySem PySem.Spec PyProof.Rows L2
section
variable {P : Program} {w : World} {A : Around} {E : Value → Shared → Prop} {s : Shared} {a : Addr} {L : List El} {es : Array (Int × Value)} {ep : Nat} {t : SetTable}
theorem Sst.gave (R : Sst P w s.heap a L es ep t) : ¬ t.gaveWay = true := by
  unfold SetTable.gaveWay
  rw [mask_odd R.tab.mok]
  decide
theorem Sst.search (R : Sst P w s.heap a L es ep t) {x : Addr} {k : List Key} (hx : KT P w s.heap k x) (hu : A.units < cLine) {K : Nat} (few : K < 10 * SetTable.turns t.mask) (free : way t.mask (hk P w k) K ∉ t.place.toList) (full : ∀ q, q < K → way t.mask (hk P w k) q ∈ t.place.toList)
    {Q : SetFound → Shared → Prop} (q1 : k ∈ L.map (·.2) → Q (.there none) s) (q0 : k ∉ L.map (·.2) → Q (.free (way t.mask (hk P w k) K) false) s) :
    ∀ (f c : Nat) (stand : Option SetTable.Probe), stand.getD (t.probeStart (hk P w k)) = pr t.mask (hk P w k) c → c ≤ K → K - c < f → (∀ (i : Nat) (p : El), L[i]? = some p → p.2 = k → ∃ c', c ≤ c' ∧ c' < K ∧ t.place.toList[i]? = some (way t.mask (hk P w k) c')) →
      wpAny (model P w) A (setSearchFrom a (.ref x) (hk P w k) true f stand) Q E s
  | 0, c, _, _, _, lt, _ => absurd lt (Nat.not_lt_zero _)
  | f + 1, c, stand, st, le, lt, reach => by
    obtain ⟨o, at', _, data⟩ := R.ob
    rw [setSearchFrom_succ]
    refine wpAny_bind (wpAny_setState_of at' data R.fits ?_)
    dsimp only
    refine wp_if_neg R.gave ?_
    try refine wpAny_bind (wpAny_pure ?_)
    change wpAny _ _ (match t.probe (hashes es) (hk P w k) (stand.getD (t.probeStart (hk P w k))) with | some met => _ | x => _) _ _ _
    rw [st]
    rcases R.met few le free full with ⟨q, i, p, l1, l2, isp, live, none_before, probe⟩ | ⟨none_before, probe⟩ <;> rw [probe] <;> dsimp only
    · -- a candidate
      have one := R.el p (List.mem_of_getElem? isp)
      have look : wpAny (model P w) A (searchRest a (.ref x) (hk P w k) true f es t (way t.mask (hk P w k) q) i (pr t.mask (hk P w k) (q + 1))) Q E s := by
        unfold searchRest
        rw [R.at isp]
        refine wpAny_bind (wpAny_holding (wpAny_eqBool_tuple hu one hx (wpAny_bind (wpAny_setState_of at' data R.fits ?_))))
        dsimp only
        rcases Decidable.em (p.2 = k) with same | other
        · exact wp_if_pos (by rw [decide_eq_true same]; rfl) (wpAny_pure (q1 (List.mem_map.mpr ⟨p, List.mem_of_getElem? isp, same⟩)))
        · refine wp_if_neg (by rw [decide_eq_false other]; decide) ?_
          try refine wpAny_bind (wpAny_pure ?_)
          rw [sameMem]
          simp only [if_true, live, R.at isp]
          refine wpAny_bind (wpAny_isSame_ref_self (wpAny_bind (wpAny_pure ?_)))
          simp only [if_true]
          refine wp_if_neg (by rw [decide_eq_false other]; decide) ?_
          refine R.search hx hu few free full q1 q0 f (q + 1) _ rfl (by omega) (by omega) fun i' p' isp' same' => ?_
          obtain ⟨c', g1, g2, g3⟩ := reach i' p' isp' same'
          refine ⟨c', ?_, g2, g3⟩
          rcases Nat.lt_trichotomy c' q with before | now | later
          · exact absurd ((R.hash isp').trans (by rw [same'])) (none_before c' i' g1 before g3)
          · subst now
            have both := (slot_live R.tab.ris g3).symm.trans live
            injection both with both
            rw [both, isp] at isp'
            cases isp'
            exact absurd same' other
          · exact later
      rcases Bool.eq_false_or_eq_true t.led with on | off
      · refine wp_if_neg (by rw [on]; decide) ?_
        try refine wpAny_bind (wpAny_pure ?_)
        exact look
      · refine wp_if_pos (by rw [off]; rfl) (wpAny_bind (hx.unseen (fun y hy => ?_) ?_))
        · obtain ⟨e, he, rfl⟩ := List.mem_map.mp hy
          have he : e ∈ es.toList := (List.mem_filter.mp (by rw [← Array.toList_filter]; exact he)).1
          rw [R.is] at he
          obtain ⟨p', hp', rfl⟩ := List.mem_map.mp he
          exact ⟨p'.2, p'.1, rfl, R.el p' hp'⟩
        · refine wp_if_neg (by decide) ?_
          try refine wpAny_bind (wpAny_pure ?_)
          exact look
    · -- a free place
      refine wpAny_pure (q0 fun there => ?_)
      obtain ⟨p', hp', same'⟩ := List.mem_map.mp there
      obtain ⟨i', hi', e'⟩ := List.getElem_of_mem hp'
      have isp' : L[i']? = some p' := by rw [List.getElem?_eq_getElem hi', e']
      obtain ⟨c', g1, g2, g3⟩ := reach i' p' isp' same'
      exact none_before c' i' g1 g2 g3 ((R.hash isp').trans (by rw [same']))
theorem Sst.find (R : Sst P w s.heap a L es ep t) {x : Addr} {k : List Key} (hx : KT P w s.heap k x) (hu : A.units < cLine) {Q : SetFound → Shared → Prop} (q1 : k ∈ L.map (·.2) → Q (.there none) s)
    (q0 : ∀ K, k ∉ L.map (·.2) → way t.mask (hk P w k) K ∉ t.place.toList → (∀ q, q < K → way t.mask (hk P w k) q ∈ t.place.toList) → Q (.free (way t.mask (hk P w k) K) false) s) : wpAny (model P w) A (setSearch a (.ref x) (hk P w k) true) Q E s := by
  have room := R.room
  obtain ⟨K, few, free, full⟩ := R.tab.first (by rw [List.length_map]; omega) (hk P w k)
  have small : 10 * SetTable.turns t.mask < 100000 := by
    unfold SetTable.turns
    rcases R.tab.mok with e | e | e <;> rw [e] <;> decide
  unfold setSearch
  refine R.search hx hu few free full q1 (fun z => q0 K z free full) 100000 0 none rfl (Nat.zero_le _) (by omega) fun i p isp same => ?_
  have hi : (L.map fun p => hk P w p.2)[i]? = some (hk P w k) := by
    rw [List.getElem?_map, isp, ← same]
    rfl
  have il : i < t.place.toList.length := by
    rw [Array.length_toList, R.places]
    exact (List.getElem?_eq_some_iff.mp isp).1
  obtain ⟨c, lt, e⟩ := R.tab.before free hi (List.getElem?_eq_getElem il)
  exact ⟨c, Nat.zero_le _, lt, by rw [e, List.getElem?_eq_getElem il]⟩
end
end Wf
/-! a tuple is added to a set of tuples -/
namespace Wf
open PySem PySem.Spec PyProof.Rows L2
theorem fm_map {α β : Type} {f : α → Option β} {g : α → β} : ∀ {l : List α}, (∀ x ∈ l, f x = some (g x)) → l.filterMap f = l.map g
  | [], _ => rfl
  | x :: l, h => by rw [List.filterMap_cons_some (h x List.mem_cons_self), List.map_cons, fm_map fun y hy => h y (List.mem_cons_of_mem _ hy)]
section
variable {P : Program} {w : World} {A : Around} {E : Value → Shared → Prop} {s : Shared} {a : Addr} {L : List El} {es : Array (Int × Value)} {ep : Nat} {t : SetTable}
theorem ents_at (is : es.toList = L.map (ent P w)) (i : Nat) : es[i]? = (L[i]?).map (ent P w) := by rw [← Array.getElem?_toList, is, List.getElem?_map]
theorem ents_size (is : es.toList = L.map (ent P w)) : es.size = L.length := by rw [← Array.length_toList, is, List.length_map]
/-- the elements in another order -/
theorem reorder (is : es.toList = L.map (ent P w)) {order : Array Nat} (pm : order.toList.Perm (List.range L.length)) : ∃ L2 : List El, (order.filterMap (es[·]?)).toList = L2.map (ent P w) ∧ L2.Perm L ∧ (L2.map fun p => hk P w p.2) = order.toList.map fun i => (es.map (·.1)).getD i 0 := by
  refine ⟨order.toList.filterMap fun i => L[i]?, ?_, ?_, ?_⟩
  · rw [Array.toList_filterMap, List.map_filterMap, show (fun i => es[i]?) = fun i => (L[i]?).map (ent P w) from funext (ents_at is)]
  · have e := pm.filterMap fun i => L[i]?
    rw [List.filterMap_getElem?_range_length] at e
    exact e
  · rw [List.map_filterMap]
    refine fm_map fun i hi => ?_
    have lt : i < L.length := List.mem_range.mp (pm.mem_iff.mp hi)
    have e : (es.map (·.1))[i]? = some (hk P w L[i].2) := by
      rw [Array.getElem?_map, ents_at is i, List.getElem?_eq_getElem lt]
      rfl
    rw [List.getElem?_eq_getElem lt, Array.getD_eq_getD_getElem?, e]
    rfl
theorem KT.past {h h' : Heap} {k : List Key} {b : Addr} {o : Obj} (x : KT P w h k b) (at' : h.get? a = some o) (data : o.data = .set es ep t) (same : Heap.SameBut a h h') : KT P w h' k b := by
  obtain ⟨o', items, n, e, c, d, r⟩ := x
  refine ⟨o', items, n, (same.2 b fun z => ?_).trans e, c, d, r⟩
  rw [z, at'] at e
  cases e
  rw [data] at d
  cases d
theorem relaid (room : L.length ≤ t.mask) {o : Obj} (at' : s.heap.get? a = some o) (ex : o.ExactSet) (data : o.data = .set es ep t) (is : es.toList = L.map (ent P w)) (pl : t.place.size = L.length) (dm : t.dummies = #[]) (nd : (L.map (·.2)).Nodup) (el : ∀ p ∈ L, KT P w s.heap p.2 p.1)
    (led : w.params.followText "set-order" = true ∨ t.led = true) (few : L.length < 64) {wanted M : Nat} (size : SetTable.sizeAbove wanted - 1 = M) (mok : MaskOk M) (small : SetTable.sizeAbove wanted ≤ 128) (next : L.length * 5 < M * 3) {Q : Unit → Shared → Prop}
    (q : ∀ h' L' es' ep' t', Heap.SameBut a s.heap h' → Sst P w h' a L' es' ep' t' → L'.Perm L → Q () { s with heap := h' }) : wpAny (model P w) A (setRelay a wanted) Q E s := by
  have n := ents_size is
  obtain ⟨t', order, done, pm, tab, em, eled, _, _⟩ := relaid_ok t (hs := es.map (·.1)) (wanted := wanted) size mok (by rw [Array.size_map, n]; omega)
  rw [Array.size_map, n] at pm
  obtain ⟨L2, is2, pm2, hs2⟩ := reorder is pm
  have n2 : (order.filterMap (es[·]?)).size = es.size := by rw [ents_size is2, pm2.length_eq, n]
  rw [setRelay_eq]
  refine wpAny_bind (wpAny_setState_of at' data (by rw [n]; exact fits_of pl dm room) ?_)
  dsimp only
  refine wp_if_neg (by rw [sizeLine_eq]; omega) ?_
  try refine wpAny_bind (wpAny_pure ?_)
  rw [done]
  refine wpAny_bind (wp_if_neg (by rw [n2, bne_self_eq_false]; decide) ?_)
  try refine wpAny_bind (wpAny_pure ?_)
  refine wpAny_pure (wpAny_storeSet_of at' data ?_ (by rw [n2, n, sizeLine_eq]; omega))
  have same : Heap.SameBut a s.heap (s.heap.update a (Obj.putSet (order.filterMap (es[·]?)) t')) := Heap.SameBut.update ..
  exact q _ L2 _ (ep + 1) t' same {
    ob := ⟨_, store_at at' data, ⟨ex.1, ex.2.1, ex.2.2⟩, rfl⟩
    is := is2
    tab := by rw [hs2]; exact tab
    nd := (pm2.map (·.2)).nodup_iff.mpr nd
    el := fun p hp => (el p (pm2.mem_iff.mp hp)).past at' data same
    led := by rw [eled]; exact led
    room := by rw [pm2.length_eq, em]; exact next
    few := by rw [pm2.length_eq]; exact few } pm2
/-- whatever it says of a value's hash -/
theorem KT.anyHash {k : List Key} {b : Addr} {Q : Bool → Shared → Prop} (h : KT P w s.heap k b) (q : ∀ r, Q r s) : wpAny (model P w) A (hashByValue 8 (.ref b)) Q E s := by
  have ty := h.typeIs
  obtain ⟨o, items, n, ho, _, hd, hi⟩ := h
  have all := plain_items hi
  unfold hashByValue
  refine wpAny_bind (wpAny_specialOf ty F.slot_tuple_hash.lookup ?_)
  refine wpAny_bind (wpAny_seqItems ho hd (wpAny_bind ?_))
  change wpAny _ _ (forIn items _ _) _ _ _
  rw [← Array.forIn_toList]
  refine wpAny_forIn_list _ (fun rest r s' => s' = s ∧ ∀ v ∈ rest, v ∈ items.toList) _ (fun v rest r s' ⟨e, sub⟩ => ?_) (fun r s' ⟨e, _⟩ => ?_) _ _ ⟨rfl, fun _ z => z⟩
  · subst e
    have on : ∀ u ∈ rest, u ∈ items.toList := fun u hu => sub u (List.mem_cons_of_mem _ hu)
    rcases all v (sub v List.mem_cons_self) with ⟨i, tk, rfl⟩ | ⟨x, tk, rfl⟩
    · refine wpAny_bind (wpAny_of_eq (a := true) (by rfl) ?_)
      exact wpAny_pure ⟨rfl, on⟩
    · refine wpAny_bind (wpAny_of_eq (a := false) (by rfl) ?_)
      refine wpAny_pure ?_
      exact wpAny_pure (q _)
  · subst e
    obtain ⟨r1, r2⟩ := r
    cases r1
    · exact wpAny_pure (q _)
    · exact wpAny_pure (q _)
end
end Wf
namespace Wf
open PySem PySem.Spec PyProof.Rows L2
theorem unplain {t : SetTable} {hs : List Int} (T : TabOk t hs) (r : Bool) : TabOk (if r = true then t else { t with plain := false }) hs := by
  cases r
  · exact ⟨T.ris, T.dm, T.sz, T.mok, T.bd, T.reach⟩
  · exact T
section
variable {P : Program} {w : World} {A : Around} {E : Value → Shared → Prop} {s : Shared} {a : Addr} {L : List El} {es : Array (Int × Value)} {ep : Nat} {t : SetTable}
theorem KT.whether {β : Type} {k : List Key} {b : Addr} {c : Bool} {F : Bool → Sem β} {Q : β → Shared → Prop} (h : KT P w s.heap k b) (q : ∀ r, wpAny (model P w) A (F r) Q E s) : wpAny (model P w) A (if c = true then hashByValue 8 (.ref b) >>= F else pure true >>= F) Q E s := by
  cases c
  · exact wp_if_neg (by decide) (wpAny_bind (wpAny_pure (q true)))
  · exact wp_if_pos rfl (wpAny_bind (h.anyHash q))
/-- x, whose key is k, is added -/
theorem Sst.add (R : Sst P w s.heap a L es ep t) {x : Addr} {k : List Key} (hx : KT P w s.heap k x) (hu : A.units < cLine) (few : L.length + 1 < 64) {Q : Bool → Shared → Prop}
    (q : ∀ b h' L' es' ep' t', Heap.SameBut a s.heap h' → Sst P w h' a L' es' ep' t' → (k ∈ L.map (·.2) → L' = L) → (k ∉ L.map (·.2) → L'.Perm ((x, k) :: L)) → Q b { s with heap := h' }) : wpAny (model P w) A (setAddHashed a (.ref x) (hk P w k)) Q E s := by
  obtain ⟨o, at', ex, data⟩ := R.ob
  have n := R.size
  have room := R.room
  unfold setAddHashed
  refine wpAny_holding ?_
  rw [show (100000 : Nat) = 99999 + 1 from rfl, setAddHashedIn_succ]
  refine wpAny_bind (wpAny_setState_of at' data R.fits ?_)
  dsimp only
  refine wp_if_neg (by simp [byScan, Value.scannable]) ?_
  try refine wpAny_bind (wpAny_pure ?_)
  refine wpAny_bind (R.find hx hu (fun there => ?_) fun K new free full => ?_)
  · exact wpAny_pure (q false s.heap L es ep t (Heap.SameBut.refl a s.heap) R (fun _ => rfl) fun z => absurd there z)
  dsimp only
  refine wpAny_bind (wpAny_setState_of at' data R.fits ?_)
  dsimp only
  obtain ⟨p1, p2, p3, p4, p5, _, _, _, p9⟩ := R.tab.put free full
  rw [List.length_map] at p2 p9
  generalize t.put (way t.mask (hk P w k) K) = pt at p1 p3 p4 p5 p9 ⊢
  obtain ⟨t1, b⟩ := pt
  dsimp only at p1 p3 p4 p5 p9 ⊢
  generalize SetTable.below t.place (way t.mask (hk P w k) K) = b' at p1 p2 p3
  subst p1
  refine hx.whether fun r => ?_
  -- the elements, the new one among them
  have is1 : (SetTable.insertAt es b (hk P w k, Value.ref x)).toList = (L.take b ++ (x, k) :: L.drop b).map (ent P w) := by
    rw [SetTable.toList_insertAt, R.is, List.map_append, List.map_cons, List.map_take, List.map_drop]
    rfl
  have pm1 : (L.take b ++ (x, k) :: L.drop b).Perm ((x, k) :: L) := by
    have e : (L.take b ++ (x, k) :: L.drop b).Perm ((x, k) :: (L.take b ++ L.drop b)) := List.perm_middle
    rw [List.take_append_drop] at e
    exact e
  have tab1 : TabOk t1 ((L.take b ++ (x, k) :: L.drop b).map fun p => hk P w p.2) := by
    rw [List.map_append, List.map_cons, List.map_take, List.map_drop]
    exact p3
  generalize L.take b ++ (x, k) :: L.drop b = L1 at is1 pm1 tab1
  generalize SetTable.insertAt es b (hk P w k, Value.ref x) = es1 at is1 ⊢
  have tab2 := unplain tab1 r
  have m2 : (if r = true then t1 else { t1 with plain := false }).mask = t.mask := by cases r <;> exact p4
  have l2 : (if r = true then t1 else { t1 with plain := false }).led = t.led := by cases r <;> exact p5
  have f2 : (if r = true then t1 else { t1 with plain := false }).fill = L.length + 1 := by cases r <;> exact p9
  generalize (if r = true then t1 else { t1 with plain := false }) = t2 at tab2 m2 l2 f2 ⊢
  have len1 : L1.length = L.length + 1 := pm1.length_eq
  have n1 := ents_size is1
  have nd1 : (L1.map (·.2)).Nodup := (pm1.map (·.2)).nodup_iff.mpr (List.nodup_cons.mpr ⟨new, R.nd⟩)
  refine wpAny_bind (wpAny_storeSet_of at' data ?_ (by rw [n1, len1, sizeLine_eq]; omega))
  have same : Heap.SameBut a s.heap (s.heap.update a (Obj.putSet es1 t2)) := Heap.SameBut.update ..
  have at1 := store_at (es' := es1) (t' := t2) at' data
  generalize s.heap.update a (Obj.putSet es1 t2) = h1 at same at1 ⊢
  have el1 : ∀ p ∈ L1, KT P w h1 p.2 p.1 := fun p hp => by
    rcases List.mem_cons.mp (pm1.mem_iff.mp hp) with e | hp
    · rw [e]
      exact hx.past at' data same
    · exact (R.el p hp).past at' data same
  have led1 : w.params.followText "set-order" = true ∨ t2.led = true := by rw [l2]; exact R.led
  have full2 : t2.tooFull = decide ((L.length + 1) * 5 ≥ t.mask * 3) := by
    unfold SetTable.tooFull
    rw [f2, m2]
  have ends : ∀ {h2 : Heap} {L2 es2 ep2 t3}, Heap.SameBut a s.heap h2 → Sst P w h2 a L2 es2 ep2 t3 → L2.Perm L1 → wpAny (model P w) A (pure true) Q E { s with heap := h2 } := fun same2 R2 pm2 => wpAny_pure (q true _ _ _ _ _ same2 R2 (fun z => absurd z new) fun _ => pm2.trans pm1)
  rcases Decidable.em ((L.length + 1) * 5 ≥ t.mask * 3) with more | enough
  · have tight : (t.mask = 7 ∧ L.length = 4) ∨ (t.mask = 31 ∧ L.length = 18) := by rcases R.tab.mok with e | e | e <;> rw [e] at more room <;> omega
    refine wp_if_pos (by rw [full2, decide_eq_true more]; rfl) (wpAny_bind ?_)
    have anew : ∀ {M : Nat}, SetTable.sizeAbove (SetTable.grown (es.size + 1)) = M + 1 → MaskOk M → M + 1 ≤ 128 → L1.length * 5 < M * 3 → wpAny (model P w) A (setRelay a (SetTable.grown (es.size + 1))) (fun _ s' => wpAny (model P w) A (pure true) Q E s') E { s with heap := h1 } := fun {M} e mok le next =>
      relaid (s := { s with heap := h1 }) (by rw [m2]; rcases tight with ⟨e1, e2⟩ | ⟨e1, e2⟩ <;> omega) at1 ⟨ex.1, ex.2.1, ex.2.2⟩ rfl is1 (by rw [tab2.sz, List.length_map]) tab2.dm nd1 el1 led1 (by omega) (by rw [e]; rfl) mok (by rw [e]; exact le) next fun h2 L2 es2 ep2 t3 same2 R2 pm2 => ends (same.trans same2) R2 pm2
    rcases tight with ⟨_, e⟩ | ⟨_, e⟩
    · exact anew (M := 31) (by rw [n, e]; exact size_20) (.inr (.inl rfl)) (by decide) (by omega)
    · exact anew (M := 127) (by rw [n, e]; exact size_76) (.inr (.inr rfl)) (by decide) (by omega)
  · refine wp_if_neg (by rw [full2, decide_eq_false enough]; decide) (ends same ⟨⟨_, at1, ⟨ex.1, ex.2.1, ex.2.2⟩, rfl⟩, is1, tab2, nd1, el1, led1, by rw [m2]; omega, by omega⟩ (List.Perm.refl _))
end
end Wf
/-! set(xs), xs a list of tuples of whole numbers and texts -/
namespace Wf
open PySem PySem.Spec PyProof.Rows L2
/-- L: the first i of ks, each key once -/
structure Col (ks : List El) (i : Nat) (L : List El) : Prop where
  sub : ∀ p ∈ L, p ∈ ks.take i
  cov : ∀ p ∈ ks.take i, p.2 ∈ L.map (·.2)
  le : L.length ≤ i
theorem Col.none {ks : List El} : Col ks 0 [] := ⟨fun p h => absurd h List.not_mem_nil, fun p h => absurd h List.not_mem_nil, Nat.le_refl _⟩
theorem take_one {α : Type} {l : List α} {i : Nat} {x : α} (h : l[i]? = some x) : l.take (i + 1) = l.take i ++ [x] := by
  rw [List.take_succ, h]
  rfl
theorem Col.next {ks L L' : List El} {i : Nat} {p : El} (c : Col ks i L) (h : ks[i]? = some p) (old : p.2 ∈ L.map (·.2) → L' = L) (new : p.2 ∉ L.map (·.2) → L'.Perm (p :: L)) : Col ks (i + 1) L' := by
  have e := take_one h
  rcases Classical.em (p.2 ∈ L.map (·.2)) with is | no
  · rw [old is]
    refine ⟨fun q hq => by rw [e]; exact List.mem_append_left _ (c.sub q hq), fun q hq => ?_, Nat.le_succ_of_le c.le⟩
    rw [e] at hq
    rcases List.mem_append.mp hq with hq | hq
    · exact c.cov q hq
    · rw [List.mem_singleton.mp hq]
      exact is
  · have pm := new no
    refine ⟨fun q hq => ?_, fun q hq => ?_, by rw [pm.length_eq]; exact Nat.succ_le_succ c.le⟩
    · rw [e]
      rcases List.mem_cons.mp (pm.mem_iff.mp hq) with z | z
      · exact List.mem_append_right _ (List.mem_singleton.mpr z)
      · exact List.mem_append_left _ (c.sub q z)
    · rw [e] at hq
      refine (pm.map (·.2)).mem_iff.mpr ?_
      rcases List.mem_append.mp hq with hq | hq
      · exact List.mem_cons_of_mem _ (c.cov q hq)
      · rw [List.mem_singleton.mp hq]
        exact List.mem_cons_self
/-- what stood stands -/
abbrev Kept (h h' : Heap) : Prop := ∀ b o, h.get? b = some o → h'.get? b = some o
theorem KT.kept {P : Program} {w : World} {h h' : Heap} {k : List Key} {b : Addr} (x : KT P w h k b) (s : Kept h h') : KT P w h' k b := let ⟨o, items, n, e, r⟩ := x; ⟨o, items, n, s b o e, r⟩
theorem Sst.kept {P : Program} {w : World} {h h' : Heap} {a : Addr} {L : List El} {es : Array (Int × Value)} {ep : Nat} {t : SetTable} (R : Sst P w h a L es ep t) (s : ∀ o, h.get? a = some o → h'.get? a = some o) (el : ∀ p ∈ L, KT P w h' p.2 p.1) : Sst P w h' a L es ep t :=
  { R with ob := let ⟨o, e, r⟩ := R.ob; ⟨o, s o e, r⟩, el := el }
theorem sst_new {P : Program} {w : World} {h : Heap} {a : Addr} (e : h.get? a = some { cls := .type "set", dict := none, data := .set #[] 0 (.fresh 0 0 (!w.params.followText "set-order")) }) : Sst P w h a [] #[] 0 (.fresh 0 0 (!w.params.followText "set-order")) where
  ob := ⟨_, e, ⟨rfl, rfl, rfl⟩, rfl⟩
  is := rfl
  tab := ⟨List.Pairwise.nil, rfl, rfl, .inl rfl, fun x hx => absurd hx List.not_mem_nil, fun i h j hi => absurd hi (by simp)⟩
  nd := List.nodup_nil
  el := fun p hp => absurd hp List.not_mem_nil
  led := by
    rcases Bool.eq_false_or_eq_true (w.params.followText "set-order") with y | n
    · exact .inl y
    · exact .inr (by show (!_) = true; rw [n]; rfl)
  room := by show 0 * 5 < 7 * 3; decide
  few := by show 0 < 64; decide
/-- nothing but the heap and the tokens has moved -/
abbrev Still (s s' : Shared) : Prop := s'.gens = s.gens ∧ s'.drawn = s.drawn ∧ s'.os = s.os
section
variable {P : Program} {w : World} {A : Around} {E : Value → Shared → Prop}
theorem set_loop {I S : Addr} {fp wr : List Addr} {G : Array GenState → Array GenState → Prop} {n : Nat} {Pv : Nat → Value → Prop} {St : Nat → Shared → Prop} {R : Result → Shared → Prop} (W : WalksS P w A.in1 I fp wr G n Pv St) (hG : ∀ x y, G x y → y = x) (off : S ∉ fp) {ks : List El} (len : ks.length = n) (few : n < 64)
    (val : ∀ i v, Pv i v → ∃ p, ks[i]? = some p ∧ v = .ref p.1) {h0 : Heap} (el : ∀ p ∈ ks, KT P w h0 p.2 p.1) (S0 : h0.get? S = none) (wr0 : ∀ b ∈ wr, h0.get? b = none) (hu : A.in1.units < cLine) (s0 : Shared)
    (fin : ∀ s' L es ep t, Still s0 s' → Kept h0 s'.heap → Sst P w s'.heap S L es ep t → Col ks n L → R (.ok (.ret .none)) s') :
    ∀ (m i : Nat) (s : Shared), i + m = n → St i s → Still s0 s → Kept h0 s.heap → (∃ L es ep t, Sst P w s.heap S L es ep t ∧ Col ks i L) → codeAny (model P w) A (.builtin "set.update.loop" ⟨[.ref S, .ref I], []⟩) R s := by
  have offw : S ∉ wr := fun z => off (W.sub _ z)
  have keep : ∀ {s s' : Shared}, Moved wr G s s' → Kept h0 s.heap → Kept h0 s'.heap := fun mv k b o e => mv.heap b o (fun z => by cases (wr0 b z).symm.trans e) (k b o e)
  have still : ∀ {s s' : Shared}, Moved wr G s s' → Still s0 s → Still s0 s' := fun mv z => ⟨(hG _ _ mv.gens).trans z.1, mv.drawn.trans z.2.1, mv.os.trans z.2.2⟩
  have on : ∀ {i : Nat} {L : List El}, Col ks i L → ∀ p ∈ L, p ∈ ks := fun c p hp => List.mem_of_mem_take (c.sub p hp)
  intro m
  induction m with
  | zero =>
    rintro i s e st sl kp ⟨L, es, ep, t, hS, c⟩
    obtain rfl : i = n := e
    refine codeAny_builtin F.entry_set_update_loop ?_
    rw [Around.under_plainId F.plain_set_update_loop _]
    change wpAny _ A.in1 (pyNext (.ref I) >>= _) _ _ s
    exact wpAny_bind (W.done s _ _ st fun s' mv => wpAny_pure (fin s' L es ep t (still mv sl) (keep mv kp) (hS.kept (fun o z => mv.heap S o offw z) fun p hp => (el p (on c p hp)).kept (keep mv kp)) c))
  | succ m ih =>
    rintro i s e st sl kp ⟨L, es, ep, t, hS, c⟩
    refine codeAny_builtin F.entry_set_update_loop ?_
    rw [Around.under_plainId F.plain_set_update_loop _]
    change wpAny _ A.in1 (pyNext (.ref I) >>= _) _ _ s
    refine wpAny_bind (W.item i s _ _ (by omega) st fun v s' pv st' mv => ?_)
    obtain ⟨p, isp, rfl⟩ := val i v pv
    have kp' := keep mv kp
    have sl' := still mv sl
    have hS' := hS.kept (fun o z => mv.heap S o offw z) fun q hq => (el q (on c q hq)).kept kp'
    have hx := (el p (List.mem_of_getElem? isp)).kept kp'
    change wpAny _ A.in1 (holding [Value.ref p.1] (setAdd S (.ref p.1)) >>= _) _ _ s'
    refine wpAny_bind (wpAny_holding ?_)
    unfold setAdd
    refine wpAny_holding (wpAny_bind (wpAny_pyHash_tuple hu hx ?_))
    refine Sst.add (s := { s' with toks := s'.toks + (p.2.length + 1) }) hS' hx hu (by have := c.le; omega) fun b h' L' es' ep' t' same hS2 old new => ?_
    have past : ∀ b o, b ≠ S → s'.heap.get? b = some o → h'.get? b = some o := fun b o z q => (same.2 b z).trans q
    have kp2 : Kept h0 h' := fun b o z => past b o (fun y => by cases (y ▸ z).symm.trans S0) (kp' b o z)
    exact wpAny_pure ⟨plainId_quiet F.plain_set_update_loop _, ih (i + 1) _ (by omega) (W.frame _ s' h' _ st' (Nat.le_add_right _ _) fun b hb o z => past b o (fun y => off (y ▸ hb)) z) sl' kp2 ⟨L', es', ep', t', hS2, c.next isp old new⟩⟩
end
end Wf
set_option maxHeartbeats 6400000
namespace Wf
open PySem PySem.Spec PyProof.Rows L2
abbrev blank (w : World) : Obj := { cls := .type "set", dict := none, data := .set #[] 0 (.fresh 0 0 (!w.params.followText "set-order")) }
section
variable {P : Program} {w : World} {A : Around} {E : Value → Shared → Prop} {s : Shared}
theorem no_more {h : Heap} {b : Addr} (le : h.objs.size ≤ b) : h.get? b = none := by
  cases e : h.get? b with
  | none => rfl
  | some o => exact absurd (Heap.lt_size e) (Nat.not_lt.mpr le)
/-- set.__init__(S, xs) of a new set at S -/
theorem set_fill {l S : Addr} {items : Array Value} {ks : List El} {Q : Value → Shared → Prop} (hh : A.handled = none) (hl : s.heap.IsList l items) (is : items.toList = ks.map fun p => Value.ref p.1) (el : ∀ p ∈ ks, KT P w s.heap p.2 p.1) (few : ks.length < 64) (hu : A.units + 3 < cLine) (hS : S = s.heap.objs.size)
    (q : ∀ (h' : Heap) (tk : Nat) L es ep t, Sst P w h' S L es ep t → Col ks ks.length L → Kept s.heap h' → Q .none { s with heap := h', toks := tk }) :
    codeAny (model P w) A (.call (.builtin "set.__init__") ⟨[.ref S, .ref l], []⟩) (wants Q E) { s with heap := s.heap.push (blank w) } := by
  have at' : (s.heap.push (blank w)).get? S = some (blank w) := by rw [hS]; exact Heap.get?_push_size _ rfl
  have ty : Shared.TypeIs { s with heap := s.heap.push (blank w) } (.ref S) "set" := ⟨_, at', rfl⟩
  have many : ks.length = items.size := by rw [← Array.length_toList, is, List.length_map]
  refine codeAny_call_builtin F.called_set.init.plain F.entry_set_init (check_set_init_1 ty ?_)
  obtain ⟨⟨oc, od, dt, sl⟩, e1, e2, n, e3⟩ := hl
  dsimp only at e2 e3
  subst e2 e3
  have lt : l < s.heap.objs.size := Heap.lt_size e1
  have hol : (s.heap.push (blank w)).get? l = some { cls := .type "list", dict := od, data := .seq items n, slots := sl } := Heap.get?_push_of_some _ e1
  have f1 := F.sub_list_set
  have f2 := F.sub_list_frozenset
  have f3 : (Value.type "list" == Value.type "dict") = false := by decide
  unfold Builtin.«set.__init__» noKeywords Builtin.Frozenset.updateFrom
  generalize hPI : pyIter = PI
  wp_walk
  subst hPI
  refine wpAny_pyIter_list ⟨_, hol, rfl, n, rfl⟩ (wpAny_bind (wpAny_runValue ?_))
  have sz : (s.heap.push (blank w)).objs.size = s.heap.objs.size + 1 := Heap.size_push ..
  have nI : l ≠ (s.heap.push (blank w)).objs.size := by rw [sz]; exact Nat.ne_of_lt (Nat.lt_succ_of_lt lt)
  have hh2 : A.in1.in1.handled = none := by simp [hh]
  have W := (Walks.list (prog := P) (w := w) hh2 (s.heap.push (blank w)).objs.size l nI items).toS
  refine set_loop (A := A.in1) W (fun x y e => e) ?_ many (by omega) (fun i v hv => ?_) el (no_more (Nat.le_of_eq hS.symm)) (fun b hb => no_more ?_) (by show A.units + 1 + 1 < cLine; omega) s (fun s' L es ep t still kept hS2 c => ?_) items.size 0 _ (Nat.zero_add _) ⟨⟨_, Heap.get?_push_size _ rfl, rfl, rfl⟩, ⟨_, Heap.get?_push_of_some _ hol, rfl, n, rfl⟩⟩ ⟨rfl, rfl, rfl⟩
    (fun b o e => Heap.get?_push_of_some _ (Heap.get?_push_of_some _ e)) ⟨[], #[], 0, _, sst_new (Heap.get?_push_of_some _ at'), Col.none⟩
  · rw [sz, hS]
    intro z
    rcases List.mem_cons.mp z with z | z
    · exact absurd z (Nat.ne_of_lt (Nat.lt_succ_self _))
    · exact absurd (List.mem_singleton.mp z) (Nat.ne_of_gt lt)
  · have e : items.toList[i]? = some v := by rw [Array.getElem?_toList]; exact hv
    rw [is, List.getElem?_map] at e
    obtain ⟨p, e1, e2⟩ := Option.map_eq_some_iff.mp e
    exact ⟨p, e1, e2.symm⟩
  · rw [List.mem_singleton.mp hb, sz]
    exact Nat.le_succ _
  · obtain ⟨h', g', d', tk', os'⟩ := s'
    obtain ⟨rfl, rfl, rfl⟩ := still
    rw [← many] at c
    exact wpAny_pure (wpAny_pure (q h' tk' L es ep t hS2 c kept))
/-- set(xs) -/
theorem set_of {l : Addr} {items : Array Value} {ks : List El} {Q : Value → Shared → Prop} (hh : A.handled = none) (hl : s.heap.IsList l items) (is : items.toList = ks.map fun p => Value.ref p.1) (el : ∀ p ∈ ks, KT P w s.heap p.2 p.1) (few : ks.length < 64) (hu : A.units + 5 < cLine)
    (q : ∀ (h' : Heap) (tk : Nat) L es ep t, Sst P w h' s.heap.objs.size L es ep t → Col ks ks.length L → Kept s.heap h' → Q (.ref s.heap.objs.size) { s with heap := h', toks := tk }) : wpAny (model P w) A (call (.type "set") [.ref l]) Q E s := by
  obtain ⟨c, tl, mro⟩ := F.called_set.mro
  have m1 := F.called_set.made
  have m2 := F.called_set.sub
  have m3 := F.called_set.notType
  have m4 := F.called_set.canCreate
  have m5 := F.typeCall_set_1 (.ref l)
  refine wpAny_call (codeAny_of_tree ?_)
  change wpAny _ _ (callAny (.type "set") _) _ _ _
  refine wpAny_pure ⟨Code.quiet_builtin _ (by decide +kernel), codeAny_builtin F.entry_type_call ?_⟩
  rw [Around.under_plain (weight_type_call_type "set" [.ref l] []) rfl]
  repeat (any_goals (first | assumption | wp_step))
  refine codeAny_mono (code_set_led1 (.ref l) (E := E) (Q₁ := fun obj s1 => obj = .ref s.heap.objs.size ∧ s1 = { s with heap := s.heap.push (blank w) }) ⟨rfl, rfl⟩) fun r s1 back => ?_
  match r, back with
  | .error _, back => exact back
  | .ok (.ret _), ⟨e1, e2⟩ =>
    subst e1 e2
    have ty : Shared.TypeIs { s with heap := s.heap.push (blank w) } (.ref s.heap.objs.size) "set" := ⟨_, Heap.get?_push_size _ rfl, rfl⟩
    have n1 := F.called_set.init.lookup
    have n2 := F.called_set.init.bind (.ref s.heap.objs.size)
    repeat (any_goals (first | assumption | wp_step))
    refine codeAny_mono (set_fill (A := A.in1) (E := E) (Q := fun v s' => v = .none ∧ Q (.ref s.heap.objs.size) s') (by simp [hh]) hl is el few (by show A.units + 1 + 3 < cLine; omega) rfl fun h' tk L es ep t R c kp => ⟨rfl, q h' tk L es ep t R c kp⟩) fun r2 s2 back2 => ?_
    match r2, back2 with
    | .error _, back2 => exact back2
    | .ok (.ret _), ⟨e1, z⟩ =>
      subst e1
      repeat (any_goals (first | assumption | wp_step))
end
end Wf
/-! sorted(S), S a set of tuples (length, word) -/
namespace Wf
open PySem PySem.Spec PyProof.Rows L2
/-- the tuple at the address, and its word -/
abbrev At := Addr × Str
def kw (q : At) : El := (q.1, [.inl (q.2.length : Int), .inr q.2])
def dW (z : Str) : PyData := .tuple [.int (z.length : Int), .str z]
def leA : At → At → Bool := PySem.W.dataLe false fun q : At => dW q.2
theorem of_perm_map {α β : Type} {f : α → β} : ∀ {l : List α} {ys : List β}, ys.Perm (l.map f) → ∃ l' : List α, ys = l'.map f ∧ l'.Perm l
  | [], ys, h => ⟨[], by rw [List.map_nil] at h; exact List.Perm.eq_nil h, .refl _⟩
  | a :: l, ys, h => by
    obtain ⟨s, t, rfl⟩ := List.append_of_mem (h.mem_iff.mpr List.mem_cons_self)
    have less : (s ++ t).Perm (l.map f) := List.Perm.cons_inv (List.perm_middle.symm.trans h)
    obtain ⟨l', e, pm⟩ := of_perm_map less
    obtain ⟨l1, l2, rfl, e1, e2⟩ := List.map_eq_append_iff.mp e.symm
    exact ⟨l1 ++ a :: l2, by rw [List.map_append, List.map_cons, e1, e2], List.perm_middle.trans (List.Perm.cons a pm)⟩
section
variable {P : Program} {w : World} {A : Around} {E : Value → Shared → Prop} {s : Shared}
theorem kt_reads {h : Heap} {q : At} (x : KT P w h (kw q).2 q.1) : Reads h (.ref q.1) (dW q.2) [] := by
  obtain ⟨o, items, n, e, c, d, it⟩ := x
  have it : ItemsAre (mixKind P w) [.inl (q.2.length : Int), .inr q.2] items.toList := it
  cases hl : items.toList with
  | nil => rw [hl] at it; cases it
  | cons v1 r =>
    rw [hl] at it
    cases it with
    | cons k1 it =>
      cases it with
      | @cons _ v2 _ r2 k2 it =>
        cases it
        obtain ⟨t1, rfl⟩ : ∃ t1, v1 = Value.int (q.2.length : Int) t1 := by
          rcases keyIs_shape (show keyIs (.inl (q.2.length : Int)) v1 = true from k1) with ⟨i, t, e1, e2⟩ | ⟨y, t, e1, _⟩
          · cases e1
            exact ⟨t, e2⟩
          · cases e1
        obtain ⟨t2, rfl⟩ : ∃ t2, v2 = Value.str q.2 t2 := by
          rcases keyIs_shape (show keyIs (.inr q.2) v2 = true from k2) with ⟨i, t, e1, _⟩ | ⟨y, t, e1, e2⟩
          · cases e1
          · cases e1
            exact ⟨t, e2⟩
        refine Reads.tuple e c d ?_
        rw [hl]
        exact ReadsAll.cons (as := []) (bs := []) (Reads.int _ _) (ReadsAll.cons (as := []) (bs := []) (Reads.str _ _) .nil)
theorem each_refs {R : Value → At → Prop} : ∀ {qs : List At}, (∀ q ∈ qs, R (.ref q.1) q) → PySem.W.EachIs R (qs.map fun q => Value.ref q.1) qs
  | [], _ => .nil
  | q :: qs, h => .cons (h q List.mem_cons_self) (each_refs fun p hp => h p (List.mem_cons_of_mem _ hp))
theorem refs_each : ∀ {qs : List At} {vs : List Value}, PySem.W.EachIs (fun v (q : At) => v = .ref q.1) vs qs → vs = qs.map fun q => Value.ref q.1
  | _, _, .nil => rfl
  | _, _, .cons a b => by rw [a, refs_each b]; rfl
theorem sorted_set {a : Addr} {qs : List At} {es : Array (Int × Value)} {ep : Nat} {t : SetTable} {Q : Value → Shared → Prop} (R : Sst P w s.heap a (qs.map kw) es ep t) (hh : A.handled = none) (hu : A.units + 64 < cLine)
    (q : ∀ s' p (out : Array Value) (c : Nat) (qs' : List At), Kept s.heap s'.heap → s'.gens = s.gens → s'.os = s.os → s.heap.objs.size ≤ p → s'.heap.get? p = some (seqObj "list" out c) → out.toList = (qs'.mergeSort leA).map (fun q => Value.ref q.1) → qs'.Perm qs → Q (.ref p) s') :
    wpAny (model P w) A (call (.builtin "sorted") [.ref a]) Q E s := by
  obtain ⟨o, at', ex, data⟩ := R.ob
  have n := R.size
  have few := R.few
  rw [List.length_map] at n few
  refine Calls.call_function_entry kind_sorted plain_sorted entry_sorted (args_sorted1 _) ?_
  unfold Builtin.«sorted»
  refine wpAny_bind (m := checkCount "sorted" 1 1 _) (wpAny_pure ?_)
  refine wpAny_bind (collect_set (A := A.in1) hh ⟨o, at', ex.1, data⟩ R.fits (by unfold scanBound; omega) R.tab.ris R.led fun s1 vs kept big gens os pm => ?_)
  rw [R.is, List.map_map, List.map_map] at pm
  obtain ⟨qs1, rfl, pm1⟩ := of_perm_map (f := fun q : At => Value.ref q.1) pm
  have len1 : qs1.length < 64 := by rw [pm1.length_eq]; exact few
  refine wpAny_bind (wpAny_newList ?_ (by rw [List.length_map, sizeLine_eq]; omega))
  generalize hvs : qs1.map (fun q => Value.ref q.1) = vs
  have hat : (s1.heap.push (seqObj "list" vs.toArray 0)).get? s1.heap.objs.size = some (seqObj "list" vs.toArray 0) := Heap.get?_push_size _ rfl
  have rd : ∀ q ∈ qs1, Reads (s1.heap.push (seqObj "list" vs.toArray 0)) (.ref q.1) (dW q.2) [] := fun q hq => kt_reads (P := P) (w := w) ((R.el (kw q) (List.mem_map.mpr ⟨q, pm1.mem_iff.mp hq, rfl⟩)).kept fun b u z => Heap.get?_push_of_some _ (kept b u z))
  have e1 : PySem.W.EachIs (fun v (q : At) => v = .ref q.1) vs qs1 := by rw [← hvs]; exact each_refs fun _ _ => rfl
  have e2 : PySem.W.EachIs (fun v (q : At) => ∃ as, Reads (s1.heap.push (seqObj "list" vs.toArray 0)) v (dW q.2) as ∧ s1.heap.objs.size ∉ as) vs qs1 := by
    have := each_refs (R := fun v (q : At) => ∃ as, Reads (s1.heap.push (seqObj "list" vs.toArray 0)) v (dW q.2) as ∧ s1.heap.objs.size ∉ as) fun q hq => ⟨[], rd q hq, List.not_mem_nil⟩
    rw [hvs] at this
    exact this
  refine wpAny_bind (wpAny_holding ?_)
  refine PySem.W.list_sort_data (A := A.in1) (s := { s1 with heap := s1.heap.push (seqObj "list" vs.toArray 0) }) (enc := fun q : At => dW q.2) hat e1 e2 (PySem.W.AllAlike.of fun b b' => rfl) (PySem.W.Sortable.tuples fun b => ⟨_, _, rfl⟩) (by rw [sizeLine_eq]; omega) (fun b _ => by show A.units + 1 + 1 + 1 < cLine; omega) fun out len eo => ?_
  obtain ⟨c, hc⟩ := sortedHeap_at (vs := vs) (out := out.toArray) hat
  refine wpAny_pure ⟨_, rfl, q _ s1.heap.objs.size out.toArray c qs1 (fun b u z => ?_) gens os big hc (refs_each eo) pm1⟩
  have z1 := kept b u z
  have lt := Heap.lt_size z1
  change (sortedHeap (s1.heap.push (seqObj "list" vs.toArray 0)) s1.heap.objs.size vs out.toArray).get? b = some u
  rw [sortedHeap_old (Nat.ne_of_lt lt) (by rw [size_push']; exact Nat.lt_succ_of_lt lt)]
  exact Heap.get?_push_of_some _ z1
end
end Wf
/-! sorted(set(xs)), xs a list of tuples (length, word): the rule -/
namespace Wf
open PySem PySem.Spec PyProof.Rows L2
/-! ### the order -/
theorem lt_texts (a b : Str) : PySem.W.dataLt (.str a) (.str b) = !decide (b.cps.toList ≤ a.cps.toList) := by
  have e := congrFun (congrFun (PySem.W.dataLe_str (fun p : Str => p)) b) a
  rw [PySem.W.dataLe_eq] at e
  have e2 : (!PySem.W.dataLt (.str a) (.str b)) = decide (b.cps.toList ≤ a.cps.toList) := e
  rw [← e2, Bool.not_not]
theorem lt_ints (i j : Int) : PySem.W.dataLt (.int i) (.int j) = decide (i < j) := by
  have e := congrFun (congrFun (PySem.W.dataLe_int (fun p : Int => p)) j) i
  rw [PySem.W.dataLe_eq] at e
  have e2 : (!PySem.W.dataLt (.int i) (.int j)) = decide (j ≤ i) := e
  rw [← Bool.not_not (b := PySem.W.dataLt (.int i) (.int j)), e2, ← decide_not]
  exact decide_eq_decide.mpr (by omega)
theorem leA_eq (p q : At) : leA p q = decide (p.2.length < q.2.length ∨ (p.2.length = q.2.length ∧ p.2.cps.toList ≤ q.2.cps.toList)) := by
  obtain ⟨a1, a⟩ := p
  obtain ⟨b1, b⟩ := q
  have e : leA (a1, a) (b1, b) = !PySem.W.dataLt (dW b) (dW a) := rfl
  rw [e]
  unfold dW
  rw [PySem.W.dataLt_pair rfl rfl, lt_texts, lt_ints]
  show (!(if ((b.length : Int) == (a.length : Int)) = true then (if (b == a) = true then false else !decide (a.cps.toList ≤ b.cps.toList)) else decide ((b.length : Int) < (a.length : Int)))) = decide (a.length < b.length ∨ (a.length = b.length ∧ a.cps.toList ≤ b.cps.toList))
  by_cases hl : a.length = b.length
  · rw [if_pos (by rw [hl]; exact beq_self_eq_true _)]
    by_cases hab : b = a
    · subst hab
      rw [if_pos (beq_self_eq_true _)]
      exact (decide_eq_true (.inr ⟨rfl, List.le_refl _⟩)).symm
    · rw [if_neg (by simpa using hab), Bool.not_not]
      exact decide_eq_decide.mpr ⟨fun h => .inr ⟨hl, h⟩, fun h => h.elim (fun h => by omega) (fun h => h.2)⟩
  · rw [if_neg (by rw [beq_iff_eq]; omega), ← decide_not]
    exact decide_eq_decide.mpr ⟨fun h => .inl (by omega), fun h => h.elim (fun h => by omega) (fun h => absurd h.1 hl)⟩
theorem leA_strict {p q : At} (h : leA p q = true) (ne : p.2 ≠ q.2) : ltW p.2 q.2 := by
  rw [leA_eq, decide_eq_true_iff] at h
  refine h.imp id fun ⟨e, le⟩ => ⟨e, ?_⟩
  rcases List.le_iff_lt_or_eq.mp le with lt | eq
  · exact lt
  · exact absurd (PyProof.Rows.str_eq_of_lists eq) ne
/-- qs: of the tuples ps one for each word, in order -/
structure Sel (ps qs : List At) : Prop where
  sub : ∀ q ∈ qs, q ∈ ps
  cov : ∀ p ∈ ps, ∃ q ∈ qs, q.2 = p.2
  ord : qs.Pairwise fun p q => ltW p.2 q.2
theorem at_kw {ps : List At} : ∀ {L : List El}, (∀ p ∈ L, p ∈ ps.map kw) → ∃ qs : List At, L = qs.map kw ∧ ∀ q ∈ qs, q ∈ ps
  | [], _ => ⟨[], rfl, fun q h => absurd h List.not_mem_nil⟩
  | p :: L, h => by
    obtain ⟨q, hq, e⟩ := List.mem_map.mp (h p List.mem_cons_self)
    obtain ⟨qs, e2, sub⟩ := at_kw (L := L) fun x hx => h x (List.mem_cons_of_mem _ hx)
    exact ⟨q :: qs, by rw [e2, List.map_cons, e], fun x hx => (List.mem_cons.mp hx).elim (fun z => z ▸ hq) (sub x)⟩
theorem sel_of {ps qs qs' : List At} (c : Col (ps.map kw) (ps.map kw).length (qs.map kw)) (nd : ((qs.map kw).map (·.2)).Nodup) (sub : ∀ q ∈ qs, q ∈ ps) (pm : qs'.Perm qs) : Sel ps (qs'.mergeSort leA) := by
  have pm2 : (qs'.mergeSort leA).Perm qs := (List.mergeSort_perm _ _).trans pm
  have apart : (qs'.mergeSort leA).Pairwise fun p q => p.2 ≠ q.2 := by
    have nd2 : (((qs'.mergeSort leA).map kw).map (·.2)).Nodup := ((pm2.map kw).map (·.2)).nodup_iff.mpr nd
    rw [List.map_map] at nd2
    exact (List.pairwise_map.mp nd2).imp fun {p q} ne e => ne (by show (kw p).2 = (kw q).2; unfold kw; rw [e])
  refine ⟨fun q hq => sub q (pm2.mem_iff.mp hq), fun p hp => ?_, ?_⟩
  · have := c.cov (kw p) (by rw [List.take_length]; exact List.mem_map.mpr ⟨p, hp, rfl⟩)
    obtain ⟨e, he, e2⟩ := List.mem_map.mp this
    obtain ⟨q, hq, rfl⟩ := List.mem_map.mp he
    refine ⟨q, pm2.mem_iff.mpr hq, ?_⟩
    have e3 : ([.inl (q.2.length : Int), .inr q.2] : List Key) = [.inl (p.2.length : Int), .inr p.2] := e2
    exact Sum.inr.inj (List.cons.inj (List.cons.inj e3).2).1
  · exact ((PySem.W.sort_pairwise (PySem.W.sortLe_total _ false _) qs').and apart).imp fun {p q} ⟨le, ne⟩ => leA_strict le ne
/-! ### the rule -/
def tSortSet (K : PySem.W.Frag) (te : TE) : TE := fun σ H Q => te σ H fun x H1 => ∃ (l : Addr) (ps : List At), x = .ref l ∧ SqL K H1 l (ps.map fun q => V.ref q.1) ∧ (∀ q ∈ ps, SqT K H1 q.1 [.int (q.2.length : Int), .str q.2]) ∧ ps.length < 64 ∧
  ∀ r qs, H1 r = none → Sel ps qs → Q (.ref r) (upd H1 r (.lst (qs.map fun q => V.ref q.1)))
theorem refs_vals : ∀ {qs : List At} {us : List Value}, Vals (qs.map fun q => V.ref q.1) us → us = qs.map fun q => Value.ref q.1
  | [], _, r => by
    cases r
    rfl
  | q :: qs, _, r => by
    cases r with
    | cons a b =>
      cases a
      rw [refs_vals b]
      rfl
theorem vals_refs' : ∀ (qs : List At), Vals (qs.map fun q => V.ref q.1) (qs.map fun q => Value.ref q.1)
  | [] => .nil
  | q :: qs => .cons rfl (vals_refs' qs)
section
variable {X : Cx} {pins : List (Addr × Obj)} {σ : L2.St} {H : Hp} {s : Shared}
theorem kt_of (I : Inv X pins σ H s) {q : At} (h : SqT X.K H q.1 [.int (q.2.length : Int), .str q.2]) : KT X.prog X.w s.heap (kw q).2 q.1 := by
  obtain ⟨its, rv, ⟨o, ho, hc, n, hd⟩, _⟩ := I.tuple h
  refine ⟨o, its.toArray, n, ho, hc, hd, ?_⟩
  cases rv with
  | cons r1 rv =>
    cases rv with
    | cons r2 rv =>
      cases rv
      obtain ⟨t1, rfl⟩ := r1
      obtain ⟨t2, rfl⟩ := r2
      exact .cons (mixKind_int X.prog X.w _ t1) (.cons (mixKind_str X.prog X.w _ t2) .nil)
theorem pe_sortSet {e : Expr} {te : TE} {p p2 q pos : Pos} (hc : X.calm = true) (hu : X.A.units + 64 < cLine) (hg : Gl X "sorted") (hm : X.mg "sorted" = none) (hg2 : Gl X "set") (hm2 : X.mg "set" = none) (he : PE X e te)
    (na : starEach [e] X.env = (false, eval e X.env) :: starEach [] X.env := by rfl) : PE X (.Call (.Name "sorted" p) [.Call (.Name "set" p2) [e] [] q] [] pos) (tSortSet X.K te) := by
  refine ⟨fun pins s σ H Q I h => Call_ (ld_blt I hg hm (by decide +kernel : bootBuiltins "sorted" = some (.builtin "sorted")) ?_)⟩
  refine PyProof.Rows.callWith_builtin1 (PyProof.Rows.args_cons (Call_ (ld_blt I hg2 hm2 PyProof.Rows.boot_set ?_)) rfl) rfl rfl
  refine PyProof.Rows.callWith_type1 (PyProof.Rows.args_cons (thn (he.run pins s σ H _ I h) fun v s1 ⟨x, H1, J, rx, l, ps, ex, hl, el, few, k⟩ => PyProof.Rows.args_nil ?_) na) na rfl
  subst ex
  obtain rfl : v = Value.ref l := rx
  obtain ⟨its, rv, pl, _⟩ := J.list hl
  have is := refs_vals rv
  refine set_of (ks := ps.map kw) (J.ok.hd hc) pl.isList (by rw [List.map_map]; exact is) (fun p hp => ?_) (by rw [List.length_map]; exact few) (by omega) fun h' tk L es ep t R c kp => ?_
  · obtain ⟨q, hq, rfl⟩ := List.mem_map.mp hp
    exact kt_of J (el q hq)
  refine PyProof.Rows.args_nil ?_
  obtain ⟨qs, rfl, sub⟩ := at_kw fun p hp => List.mem_of_mem_take (c.sub p hp)
  have J2 : Inv X pins σ H1 { s1 with heap := h', toks := tk } := J.kept kp
  refine sorted_set (s := { s1 with heap := h', toks := tk }) R (J2.ok.hd hc) hu fun s2 r out cap qs' kp2 gens os big hr eo pm => ?_
  have free : H1 r = none := J2.hok.fresh big
  have nd := R.nd
  have small : (qs'.mergeSort leA).length ≤ 63 := by
    have := R.few
    rw [List.length_map] at this
    rw [List.length_mergeSort, pm.length_eq]
    omega
  have rel : Vals ((qs'.mergeSort leA).map fun q => V.ref q.1) out.toList := by rw [eo]; exact vals_refs' _
  obtain ⟨h2, g2, d2, t2, os2⟩ := s2
  dsimp only at gens os
  subst gens os
  have J3 : Inv X pins σ (upd H1 r (.lst ((qs'.mergeSort leA).map fun q => V.ref q.1))) ⟨h2, s1.gens, d2, t2, s1.os⟩ :=
    Inv.call (s := { s1 with heap := h', toks := tk }) (ch := []) J2 (Un.laid kp2 big free) (J2.hok.laid kp2 big ⟨by rw [List.length_map, sizeLine_eq]; omega, out.toList, cap, rel, hr⟩) J2.bare (fun _ z => nomatch z)
  exact ⟨.ref r, _, J3, rfl, k r _ free (sel_of c nd sub pm)⟩
end
end Wf
/-! word order -/
namespace Wf
open PySem L2
/-! ### the mathematics: sorted alphabetically, then by length, is sorted by (length, word) -/
def leS (a b : Str) : Bool := leD (.str a, .str a) (.str b, .str b)
def pair (z : Str) : PyData := .tuple [.int (z.length : Int), .str z]
def leP (a b : Str) : Bool := leD (.non, pair a) (.non, pair b)
def wordOrder (zs : List Str) : List Str := (zs.mergeSort leS).mergeSort leLen
theorem leS_eq (a b : Str) : leS a b = decide (a.cps.toList ≤ b.cps.toList) := by
  have e := congrFun (congrFun (PySem.W.dataLe_str (fun p : Str => p)) a) b
  exact e
theorem leLen_eq (a b : Str) : leLen a b = decide (a.length ≤ b.length) := by
  have e := congrFun (congrFun (PySem.W.dataLe_int (fun p : Str => (p.length : Int))) a) b
  rw [leLen, e]
  simp
theorem total_of {β : Type} (k : β → PyData) : PySem.W.TotalLe (PySem.W.dataLe false k) := PySem.W.sortLe_total _ false _
theorem lt_str (a b : Str) : PySem.W.dataLt (.str a) (.str b) = !decide (b.cps.toList ≤ a.cps.toList) := by
  have e := congrFun (congrFun (PySem.W.dataLe_str (fun p : Str => p)) b) a
  rw [PySem.W.dataLe_eq] at e
  have e2 : (!PySem.W.dataLt (.str a) (.str b)) = decide (b.cps.toList ≤ a.cps.toList) := e
  rw [← e2, Bool.not_not]
theorem lt_int (i j : Int) : PySem.W.dataLt (.int i) (.int j) = decide (i < j) := by
  have e := congrFun (congrFun (PySem.W.dataLe_int (fun p : Int => p)) j) i
  rw [PySem.W.dataLe_eq] at e
  have e2 : (!PySem.W.dataLt (.int i) (.int j)) = decide (j ≤ i) := e
  rw [← Bool.not_not (b := PySem.W.dataLt (.int i) (.int j)), e2, ← decide_not]
  exact decide_eq_decide.mpr (by omega)
theorem cps_inj {a b : Str} (h : a.cps.toList = b.cps.toList) : a = b := PyProof.Rows.str_eq_of_lists h
theorem leP_eq (a b : Str) : leP a b = decide (a.length < b.length ∨ (a.length = b.length ∧ a.cps.toList ≤ b.cps.toList)) := by
  have e : leP a b = !PySem.W.dataLt (pair b) (pair a) := rfl
  rw [e]
  unfold pair
  rw [PySem.W.dataLt_pair rfl rfl, lt_str, lt_int]
  show (!(if ((b.length : Int) == (a.length : Int)) = true then (if (b == a) = true then false else !decide (a.cps.toList ≤ b.cps.toList)) else decide ((b.length : Int) < (a.length : Int)))) = _
  by_cases hl : a.length = b.length
  · have h1 : ((b.length : Int) == (a.length : Int)) = true := by rw [hl]; exact beq_self_eq_true _
    rw [if_pos h1]
    by_cases hab : b = a
    · subst hab
      rw [if_pos (beq_self_eq_true _)]
      exact (decide_eq_true (.inr ⟨rfl, List.le_refl _⟩)).symm
    · rw [if_neg (by simpa using hab), Bool.not_not]
      exact decide_eq_decide.mpr ⟨fun h => .inr ⟨hl, h⟩, fun h => h.elim (fun h => by omega) (fun h => h.2)⟩
  · have h1 : ¬ ((b.length : Int) == (a.length : Int)) = true := by
      rw [beq_iff_eq]
      omega
    rw [if_neg h1, ← decide_not]
    exact decide_eq_decide.mpr ⟨fun h => .inl (by omega), fun h => h.elim (fun h => by omega) (fun h => absurd h.1 hl)⟩
theorem leP_total : PySem.W.TotalLe leP := total_of pair
theorem leLen_total : PySem.W.TotalLe leLen := total_of _
theorem leS_total : PySem.W.TotalLe leS := total_of PyData.str
theorem same_P {a c : Str} : PySem.W.sameRank leP c a = true ↔ a = c := by
  unfold PySem.W.sameRank
  rw [Bool.and_eq_true, leP_eq, leP_eq, decide_eq_true_iff, decide_eq_true_iff]
  constructor
  · rintro ⟨h1, h2⟩
    rcases h1 with h1 | ⟨e1, h1⟩
    · rcases h2 with h2 | ⟨e2, _⟩ <;> omega
    · rcases h2 with h2 | ⟨_, h2⟩
      · omega
      · exact cps_inj (List.le_antisymm h2 h1)
  · rintro rfl
    exact ⟨.inr ⟨rfl, List.le_refl _⟩, .inr ⟨rfl, List.le_refl _⟩⟩
theorem filter_same {p : Str → Bool} {c : Str} (hp : ∀ a, p a = true ↔ a = c) {l m : List Str} (h : l.Perm m) : l.filter p = m.filter p := by
  have e : ∀ xs : List Str, xs.filter p = List.replicate (xs.filter p).length c := fun xs =>
    List.eq_replicate_of_mem fun b hb => (hp b).mp (List.mem_filter.mp hb).2
  rw [e l, e m, (h.filter p).length_eq]
theorem order_eq (zs : List Str) : wordOrder zs = zs.mergeSort leP := by
  refine PySem.W.sort_unique leP_total ?_ fun c => filter_same (fun a => same_P) ?_
  · refine List.pairwise_iff_forall_sublist.mpr fun {a b} hs => ?_
    have h1 : leLen a b = true := List.pairwise_iff_forall_sublist.mp (PySem.W.sort_pairwise leLen_total _) hs
    rw [leP_eq]
    rw [leLen_eq] at h1
    have h1' := of_decide_eq_true h1
    by_cases hl : a.length = b.length
    · have h2 : ([a, b].filter (PySem.W.sameRank leLen a)).Sublist ((wordOrder zs).filter (PySem.W.sameRank leLen a)) := hs.filter _
      have ea : PySem.W.sameRank leLen a a = true := PySem.W.sameRank_self leLen_total a
      have eb : PySem.W.sameRank leLen a b = true := by
        unfold PySem.W.sameRank
        rw [leLen_eq, leLen_eq, decide_eq_true (by omega : a.length ≤ b.length), decide_eq_true (by omega : b.length ≤ a.length)]
        rfl
      rw [List.filter_cons_of_pos ea, List.filter_cons_of_pos eb, List.filter_nil] at h2
      unfold wordOrder at h2
      rw [PySem.W.sort_stable leLen_total] at h2
      have h3 := h2.trans List.filter_sublist
      have h4 : leS a b = true := List.pairwise_iff_forall_sublist.mp (PySem.W.sort_pairwise leS_total _) h3
      rw [leS_eq] at h4
      exact decide_eq_true (.inr ⟨hl, of_decide_eq_true h4⟩)
    · exact decide_eq_true (.inl (by omega))
  · exact (List.mergeSort_perm _ _).trans (List.mergeSort_perm _ _)
end Wf
/-! a def of the text that may raise, called by its name in a def that may -/
namespace Wf
open PySem L2
structure DnX (P : Program) (w : World) (K : PySem.W.Frag) (mg : Str → Option Value) (base : Heap) (k : Nat) (x : Str) (ps : List Str) (sp : Sp) : Prop where
  ex : ∃ (f : Addr) (fd : FuncData), FnOk P w K mg base (L2.CX P w) k f fd ps sp ∧ mg x = some (.ref f) ∧ PySem.W.keepIn K (.ref f) = true ∧ Binds K fd ps []
section
variable {X : Cx} {k : Nat} {x : Str} {ps : List Str} {sp : Sp} {W : WX} {p pos : Pos} {e : Expr} {es : List Expr} {t : TA}
theorem pe_clX (D : DnX X.prog X.w X.K X.mg X.base k x ps sp) (hr : Room k X.A) (tk : Takes X W) (ha : PA X (e :: es) t) (hg : Gl X x := by rfl) (hdb : (x == ("__debug__" : Str)) = false := by decide)
    (he : starEach (e :: es) X.env = (false, eval e X.env) :: starEach es X.env := by rfl) (hpl : (backTo pos (starEach es X.env)).any (·.1) = false := by rfl) : PE X (.Call (.Name x p) (e :: es) [] pos) (tCallS sp (WE W) t) :=
  let ⟨_, _, F, hm, hk, hb⟩ := D.ex
  pe_callS F hr hg hm hk hb (fun σ => passAt tk σ) ha hdb he hpl
end
end Wf
/-! dicts of words to marks; the beginnings of words -/
namespace Wf
open PySem L2
def mkK (ms : List (Str × Bool)) : List (Key × V) := ms.map fun p => ((.inr p.1 : Key), V.bl p.2)
def keysM (ms : List (Str × Bool)) : List Str := ms.map (·.1)
/-- in its place, or at the end -/
def putW (ms : List (Str × Bool)) (w : Str) (b : Bool) : List (Str × Bool) := if (ms.any fun p => decide (p.1 = w)) = true then ms.map (fun p => if p.1 = w then (p.1, b) else p) else ms ++ [(w, b)]
theorem mk_len {ms : List (Str × Bool)} : (mkK ms).length = ms.length := List.length_map _
theorem key_eq {a b : Str} : decide ((.inr a : Key) = .inr b) = decide (a = b) := by
  by_cases h : a = b
  · rw [h]
    simp
  · rw [decide_eq_false h]
    exact decide_eq_false fun z => h (Sum.inr.inj z)
theorem any_mk {ms : List (Str × Bool)} {w : Str} : ((mkK ms).any fun kv => decide (kv.1 = .inr w)) = ms.any fun p => decide (p.1 = w) := by
  unfold mkK
  rw [List.any_map]
  congr 1
  funext p
  exact key_eq
theorem put_mk {ms : List (Str × Bool)} {w : Str} {b : Bool} : putK (mkK ms) (.inr w) (.bl b) = mkK (putW ms w b) := by
  unfold putK putW
  rw [any_mk]
  split
  · unfold mkK
    rw [List.map_map, List.map_map]
    congr 1
    funext p
    show (if (.inr p.1 : Key) = .inr w then ((.inr p.1 : Key), V.bl b) else (.inr p.1, .bl p.2)) = ((.inr (if p.1 = w then (p.1, b) else p).1 : Key), V.bl (if p.1 = w then (p.1, b) else p).2)
    by_cases h : p.1 = w
    · rw [if_pos h, if_pos (congrArg Sum.inr h)]
    · rw [if_neg h, if_neg fun z => h (Sum.inr.inj z)]
  · unfold mkK
    rw [List.map_append]
    rfl
theorem any_keys {ms : List (Str × Bool)} {w : Str} : (ms.any fun p => decide (p.1 = w)) = decide (w ∈ keysM ms) := by
  rw [Bool.eq_iff_iff, List.any_eq_true, decide_eq_true_iff]
  unfold keysM
  rw [List.mem_map]
  exact ⟨fun ⟨p, h, e⟩ => ⟨p, h, of_decide_eq_true e⟩, fun ⟨p, h, e⟩ => ⟨p, h, decide_eq_true e⟩⟩
theorem keys_set {ms : List (Str × Bool)} {w : Str} {b : Bool} : keysM (putW ms w b) = if w ∈ keysM ms then keysM ms else keysM ms ++ [w] := by
  unfold putW
  rw [any_keys]
  by_cases h : w ∈ keysM ms
  · rw [if_pos (decide_eq_true h), if_pos h]
    unfold keysM
    rw [List.map_map]
    refine List.map_congr_left fun p _ => ?_
    show (if p.1 = w then (p.1, b) else p).1 = p.1
    split <;> rfl
  · rw [if_neg (fun z => h (of_decide_eq_true z)), if_neg h]
    unfold keysM
    rw [List.map_append]
    rfl
theorem set_mem {ms : List (Str × Bool)} {w x : Str} {b : Bool} : x ∈ keysM (putW ms w b) ↔ x ∈ keysM ms ∨ x = w := by
  rw [keys_set]
  split
  · rename_i h
    exact ⟨.inl, fun z => z.elim id fun e => e ▸ h⟩
  · rw [List.mem_append, List.mem_singleton]
theorem set_nodup {ms : List (Str × Bool)} {w : Str} {b : Bool} (h : (keysM ms).Nodup) : (keysM (putW ms w b)).Nodup := by
  rw [keys_set]
  split
  · exact h
  · rename_i n
    refine List.nodup_append.mpr ⟨h, List.nodup_cons.mpr ⟨List.not_mem_nil, List.nodup_nil⟩, fun a ha c hc e => ?_⟩
    rw [List.mem_singleton.mp hc] at e
    exact n (e ▸ ha)
theorem set_len {ms : List (Str × Bool)} {w : Str} {b : Bool} : (putW ms w b).length ≤ ms.length + 1 := by
  unfold putW
  split
  · rw [List.length_map]
    omega
  · rw [List.length_append]
    exact Nat.le_refl _
/-- the mark of a word -/
def markOf : List (Str × Bool) → Str → Option Bool
  | [], _ => none
  | p :: ms, w => if p.1 = w then some p.2 else markOf ms w
theorem val_mk {w : Str} : ∀ {ms : List (Str × Bool)}, valV (mkK ms) (.inr w) = (markOf ms w).map V.bl
  | [] => rfl
  | p :: ms => by
    rw [show mkK (p :: ms) = (.inr p.1, .bl p.2) :: mkK ms from rfl]
    unfold markOf
    by_cases h : p.1 = w
    · rw [valV_pos (congrArg Sum.inr h), if_pos h]
      rfl
    · rw [valV_neg (fun z => h (Sum.inr.inj z)), if_neg h, val_mk]
theorem mark_app {x : Str} {more : List (Str × Bool)} : ∀ {ms : List (Str × Bool)}, markOf (ms ++ more) x = (markOf ms x).or (markOf more x)
  | [] => by cases h : markOf more x <;> simp [markOf, h]
  | p :: ms => by
    show (if p.1 = x then some p.2 else markOf (ms ++ more) x) = Option.or (if p.1 = x then some p.2 else markOf ms x) _
    split
    · rfl
    · exact mark_app
theorem mark_no {x : Str} : ∀ {ms : List (Str × Bool)}, x ∉ keysM ms → markOf ms x = none
  | [], _ => rfl
  | p :: ms, h => by
    show (if p.1 = x then some p.2 else markOf ms x) = none
    rw [if_neg fun e => h (by rw [← e]; exact List.mem_cons_self)]
    exact mark_no fun z => h (List.mem_cons_of_mem _ z)
theorem mark_map {w x : Str} {b : Bool} : ∀ {ms : List (Str × Bool)}, w ∈ keysM ms → markOf (ms.map fun p => if p.1 = w then (p.1, b) else p) x = if x = w then some b else markOf ms x
  | [], h => absurd h List.not_mem_nil
  | p :: ms, h => by
    rw [List.map_cons]
    show (if (if p.1 = w then (p.1, b) else p).1 = x then some (if p.1 = w then (p.1, b) else p).2 else markOf (ms.map fun p => if p.1 = w then (p.1, b) else p) x) = if x = w then some b else (if p.1 = x then some p.2 else markOf ms x)
    by_cases e : p.1 = w
    · rw [if_pos e]
      by_cases ex : x = w
      · rw [if_pos (show (p.1, b).1 = x from e.trans ex.symm), if_pos ex]
      · rw [if_neg (show ¬(p.1, b).1 = x from fun z => ex (z.symm.trans e)), if_neg ex, if_neg fun z : p.1 = x => ex (z.symm.trans e)]
        by_cases m : w ∈ keysM ms
        · rw [mark_map m, if_neg ex]
        · rw [show ms.map (fun p => if p.1 = w then (p.1, b) else p) = ms from (List.map_congr_left fun q hq => if_neg fun z => m (List.mem_map.mpr ⟨q, hq, z⟩)).trans (List.map_id ms)]
    · have m : w ∈ keysM ms := (List.mem_cons.mp h).elim (fun z => absurd z.symm e) id
      rw [if_neg e, mark_map m]
      by_cases ep : p.1 = x
      · rw [if_pos ep, if_neg fun z : x = w => e (ep.trans z), if_pos ep]
      · rw [if_neg ep, if_neg ep]
theorem mark_put {w x : Str} {b : Bool} {ms : List (Str × Bool)} : markOf (putW ms w b) x = if x = w then some b else markOf ms x := by
  unfold putW
  rw [any_keys]
  by_cases m : w ∈ keysM ms
  · rw [if_pos (decide_eq_true m)]
    exact mark_map m
  · rw [if_neg fun z => m (of_decide_eq_true z), mark_app]
    show Option.or (markOf ms x) (if w = x then some b else none) = _
    by_cases ex : x = w
    · rw [if_pos ex, if_pos ex.symm, mark_no (by rw [ex]; exact m)]
      rfl
    · rw [if_neg ex, if_neg fun z => ex z.symm, Option.or_none]
/-- the first k signs -/
def tk (w : Str) (k : Nat) : Str := ⟨(w.cps.toList.take k).toArray⟩
def prefs (ws : List Str) : List Str := "" :: ws.flatMap fun w => (List.range w.length).map fun k => tk w (k + 1)
theorem cut_text {w : Str} {k : Nat} : cutS w none (some (k : Int)) = tk w k := by
  unfold cutS tk
  rw [show HT.sIx w.length 0 none = 0 from rfl, HT.sIx_nat, List.drop_zero, Nat.sub_zero]
  congr 1
  rcases Nat.le_total k w.length with h | h
  · rw [Nat.min_eq_left h]
  · rw [Nat.min_eq_right h, List.take_of_length_le (by rw [Array.length_toList]; exact Nat.le_refl _), List.take_of_length_le (by rw [Array.length_toList]; exact h)]
theorem tk_len {w : Str} {k : Nat} : (tk w k).length ≤ w.length := by
  show (w.cps.toList.take k).toArray.size ≤ w.cps.size
  rw [List.size_toArray, List.length_take, Array.length_toList]
  omega
theorem tk_zero {w : Str} : tk w 0 = "" := rfl
theorem prefs_mem {ws : List Str} {x : Str} : x ∈ prefs ws ↔ x = "" ∨ ∃ w ∈ ws, ∃ k, k ≤ w.length ∧ x = tk w k := by
  unfold prefs
  rw [List.mem_cons, List.mem_flatMap]
  constructor
  · rintro (h | ⟨w, hw, h⟩)
    · exact .inl h
    · obtain ⟨k, hk, rfl⟩ := List.mem_map.mp h
      exact .inr ⟨w, hw, k + 1, List.mem_range.mp hk, rfl⟩
  · rintro (h | ⟨w, hw, k, hk, rfl⟩)
    · exact .inl h
    · cases k with
      | zero => exact .inl tk_zero
      | succ k => exact .inr ⟨w, hw, List.mem_map.mpr ⟨k, List.mem_range.mpr hk, rfl⟩⟩
/-! ### sorted lists are told by their members -/
theorem ltW_trans {a b c : Str} (h : ltW a b) (g : ltW b c) : ltW a c := by
  rcases h with h | ⟨h, h2⟩ <;> rcases g with g | ⟨g, g2⟩
  · exact .inl (by omega)
  · exact .inl (by omega)
  · exact .inl (by omega)
  · exact .inr ⟨by omega, List.lt_trans h2 g2⟩
theorem sorted_one : ∀ {ys zs : List Str}, ys.Pairwise ltW → zs.Pairwise ltW → (∀ x, x ∈ ys ↔ x ∈ zs) → ys = zs
  | [], [], _, _, _ => rfl
  | [], z :: zs, _, _, h => absurd ((h z).mpr List.mem_cons_self) List.not_mem_nil
  | y :: ys, [], _, _, h => absurd ((h y).mp List.mem_cons_self) List.not_mem_nil
  | y :: ys, z :: zs, h1, h2, h => by
    obtain ⟨a1, a2⟩ := List.pairwise_cons.mp h1
    obtain ⟨b1, b2⟩ := List.pairwise_cons.mp h2
    have e : y = z := by
      rcases List.mem_cons.mp ((h y).mp List.mem_cons_self) with e | m
      · exact e
      · rcases List.mem_cons.mp ((h z).mpr List.mem_cons_self) with e | m2
        · exact e.symm
        · exact absurd (ltW_trans (b1 y m) (a1 z m2)) (ltW_irrefl z)
    subst e
    refine congrArg (y :: ·) (sorted_one a2 b2 fun x => ⟨fun m => ?_, fun m => ?_⟩)
    · rcases List.mem_cons.mp ((h x).mp (List.mem_cons_of_mem _ m)) with e | m2
      · exact absurd (a1 x m) (by rw [e]; exact ltW_irrefl y)
      · exact m2
    · rcases List.mem_cons.mp ((h x).mpr (List.mem_cons_of_mem _ m)) with e | m2
      · exact absurd (b1 x m) (by rw [e]; exact ltW_irrefl y)
      · exact m2
theorem Srt.one {ys zs us vs : List Str} (a : Srt ys us) (b : Srt zs vs) (h : ∀ x, x ∈ us ↔ x ∈ vs) : ys = zs := sorted_one a.ord b.ord fun x => (a.mem x).trans ((h x).trans (b.mem x).symm)
/-- what stands once each, in word order -/
theorem order_srt {ks : List Str} (h : ks.Nodup) : Srt (wordOrder ks) ks := by
  have p : (wordOrder ks).Perm ks := (List.mergeSort_perm _ _).trans (List.mergeSort_perm _ _)
  refine ⟨fun x => p.mem_iff, ?_⟩
  rw [order_eq]
  have le : (ks.mergeSort leP).Pairwise fun a b => leP a b = true := PySem.W.sort_pairwise leP_total _
  have nd : (ks.mergeSort leP).Nodup := (List.mergeSort_perm _ _).nodup_iff.mpr h
  refine (List.Pairwise.and le nd).imp fun {a b} hh => ?_
  have h1 := of_decide_eq_true ((leP_eq a b).symm.trans hh.1)
  rcases h1 with h1 | ⟨h1, h2⟩
  · exact .inl h1
  · refine .inr ⟨h1, ?_⟩
    rcases List.le_iff_lt_or_eq.mp h2 with h3 | h3
    · exact h3
    · exact absurd (cps_inj h3) hh.2
end Wf
/-! a dict comprehension over anything that can be walked; the marks of a sample -/
namespace Wf
open PySem L2
/-- one turn of it: what comes next is Nx -/
abbrev DTurn (g : TG) (tt : TT) (tk tv : TE) (vs : List Nat) (σ : L2.St) (D : Addr) (Nx : Hp → Prop) (x : V) (H' : Hp) : Prop :=
  g x (wipe σ vs) H' fun σ2 H2 => wipe σ2 vs = wipe σ vs ∧ tt σ2 H2 fun b H3 => if b = true then tk σ2 H3 fun y H4 => tv σ2 H4 fun z H5 => ∃ kvs k, y = kV k ∧ H5 D = some (.dK kvs) ∧ kvs.length < sizeLine ∧ Nx (upd H5 D (.dK (putK kvs k z))) else Nx H3
theorem dc_walk {J : It} {n : Nat} {G : Hp → Prop} {Y : Nat → Hp → V → Hp → Prop} {g : TG} {tt : TT} {tk tv : TE} {vs : List Nat} {σ : L2.St} {H0 : Hp} {D : Addr} {Qd : Hp → Prop} (wk : Walk J n G Y) (Iv : Nat → Hp → Prop) (start : Iv 0 H0) (stays : ∀ i H, Iv i H → G H)
    (turn : ∀ i x H H', i < n → Iv i H → Y i H x H' → DTurn g tt tk tv vs σ D (Iv (i + 1)) x H') (done : ∀ H, Iv n H → Qd H) :
    ∃ W : Nat → Nat → Hp → Prop, (∃ m, W 0 m H0) ∧ ∀ i m H, W i m H → (J.stop i H ∧ Qd H) ∨ (J.go i H ∧ ∃ Nx : Hp → Prop, (∀ H', Nx H' → ∃ m', m' < m ∧ W (i + 1) m' H') ∧ ∀ x H', J.yld i H x H' → DTurn g tt tk tv vs σ D Nx x H') := by
  refine ⟨fun i m H => i + m = n ∧ Iv i H, ⟨n, Nat.zero_add n, start⟩, fun i m H ⟨em, iv⟩ => ?_⟩
  have g1 := stays i H iv
  cases m with
  | zero =>
    have ei : i = n := em
    rw [ei] at iv ⊢
    exact .inl ⟨wk.stops H g1, done H iv⟩
  | succ m =>
    have il : i < n := by omega
    exact .inr ⟨wk.goes i H il g1, Iv (i + 1), fun H' z => ⟨m, Nat.lt_succ_self m, by omega, z⟩, fun x H' y => turn i x H H' il iv (wk.yields i H x H' il g1 y)⟩
/-! ### the marks -/
def allTrue (ws : List Str) : List (Str × Bool) := ws.foldl (fun ms w => putW ms w true) []
def andFalse (ms : List (Str × Bool)) (ws : List Str) : List (Str × Bool) := ws.foldl (fun ms w => putW ms w false) ms
theorem allTrue_step {ws : List Str} {w : Str} {j : Nat} (h : ws[j]? = some w) : allTrue (ws.take (j + 1)) = putW (allTrue (ws.take j)) w true := by
  unfold allTrue
  rw [List.take_succ, h, List.foldl_append]
  rfl
theorem andFalse_step {ms : List (Str × Bool)} {ws : List Str} {w : Str} {j : Nat} (h : ws[j]? = some w) : andFalse ms (ws.take (j + 1)) = putW (andFalse ms (ws.take j)) w false := by
  unfold andFalse
  rw [List.take_succ, h, List.foldl_append]
  rfl
theorem fold_nodup {b : Bool} : ∀ {ws : List Str} {ms : List (Str × Bool)}, (keysM ms).Nodup → (keysM (ws.foldl (fun ms w => putW ms w b) ms)).Nodup
  | [], _, h => h
  | _ :: ws, _, h => fold_nodup (ws := ws) (set_nodup h)
theorem fold_len {b : Bool} : ∀ {ws : List Str} {ms : List (Str × Bool)}, (ws.foldl (fun ms w => putW ms w b) ms).length ≤ ms.length + ws.length
  | [], _ => Nat.le_refl _
  | w :: ws, ms => by
    have h1 := fold_len (b := b) (ws := ws) (ms := putW ms w b)
    have h2 := set_len (ms := ms) (w := w) (b := b)
    rw [List.foldl_cons, List.length_cons]
    omega
theorem fold_mark {b : Bool} {x : Str} : ∀ {ws : List Str} {ms : List (Str × Bool)}, markOf (ws.foldl (fun ms w => putW ms w b) ms) x = if x ∈ ws then some b else markOf ms x
  | [], ms => by
    rw [if_neg List.not_mem_nil]
    rfl
  | w :: ws, ms => by
    rw [List.foldl_cons, fold_mark, mark_put]
    by_cases h : x ∈ ws
    · rw [if_pos h, if_pos (List.mem_cons_of_mem _ h)]
    · rw [if_neg h]
      by_cases e : x = w
      · rw [if_pos e, if_pos (by rw [e]; exact List.mem_cons_self)]
      · rw [if_neg e, if_neg fun z => (List.mem_cons.mp z).elim e h]
theorem fold_keys {b : Bool} {x : Str} : ∀ {ws : List Str} {ms : List (Str × Bool)}, x ∈ keysM (ws.foldl (fun ms w => putW ms w b) ms) ↔ x ∈ keysM ms ∨ x ∈ ws
  | [], ms => ⟨.inl, fun z => z.elim id fun z => absurd z List.not_mem_nil⟩
  | w :: ws, ms => by
    rw [List.foldl_cons, fold_keys, set_mem, List.mem_cons, or_assoc]
/-- what stands in word order, however often, goes in in word order -/
theorem fold_sorted {b : Bool} : ∀ {ws : List Str} {ms : List (Str × Bool)}, ws.Pairwise (fun a c => leP a c = true) → (keysM ms).Pairwise ltW → (∀ k ∈ keysM ms, ∀ w ∈ ws, leP k w = true) → (keysM (ws.foldl (fun ms w => putW ms w b) ms)).Pairwise ltW
  | [], _, _, h, _ => h
  | w :: ws, ms, p, h, k => by
    obtain ⟨p1, p2⟩ := List.pairwise_cons.mp p
    rw [List.foldl_cons]
    refine fold_sorted (ws := ws) (ms := putW ms w b) p2 ?_ fun x hx u hu => ?_
    · rw [keys_set]
      split
      · exact h
      · rename_i n
        refine List.pairwise_append.mpr ⟨h, List.pairwise_singleton _ _, fun a ha c hc => ?_⟩
        rw [List.mem_singleton.mp hc]
        have h1 := of_decide_eq_true ((leP_eq a w).symm.trans (k a ha w List.mem_cons_self))
        rcases h1 with h1 | ⟨h1, h2⟩
        · exact .inl h1
        · rcases List.le_iff_lt_or_eq.mp h2 with h3 | h3
          · exact .inr ⟨h1, h3⟩
          · exact absurd (cps_inj h3) fun e => n (e ▸ ha)
    · rcases set_mem.mp hx with m | rfl
      · exact k x m u (List.mem_cons_of_mem _ hu)
      · exact p1 u hu
theorem order_mem {zs : List Str} {x : Str} : x ∈ wordOrder zs ↔ x ∈ zs := ((List.mergeSort_perm _ _).trans (List.mergeSort_perm _ _)).mem_iff
theorem order_len {zs : List Str} : (wordOrder zs).length = zs.length := ((List.mergeSort_perm _ _).trans (List.mergeSort_perm _ _)).length_eq
theorem order_le {zs : List Str} : (wordOrder zs).Pairwise fun a b => leP a b = true := by
  rw [order_eq]
  exact PySem.W.sort_pairwise leP_total _
/-- words that are not there yet stand behind -/
theorem fold_app {b : Bool} {ms : List (Str × Bool)} : ∀ {ws : List Str} {acc : List (Str × Bool)}, (∀ w ∈ ws, w ∉ keysM ms) → ws.foldl (fun ms w => putW ms w b) (ms ++ acc) = ms ++ ws.foldl (fun ms w => putW ms w b) acc
  | [], _, _ => rfl
  | w :: ws, acc, h => by
    have n := h w List.mem_cons_self
    have e : putW (ms ++ acc) w b = ms ++ putW acc w b := by
      unfold putW
      have e1 : ms.any (fun p => decide (p.1 = w)) = false := by
        rw [any_keys]
        exact decide_eq_false n
      have e2 : ms.map (fun p => if p.1 = w then (p.1, b) else p) = ms := (List.map_congr_left fun q hq => if_neg fun z => n (List.mem_map.mpr ⟨q, hq, z⟩)).trans (List.map_id ms)
      rw [List.any_append, e1, Bool.false_or]
      split
      · rw [List.map_append, e2]
      · rw [List.append_assoc]
    rw [List.foldl_cons, List.foldl_cons, e]
    exact fold_app fun x hx => h x (List.mem_cons_of_mem _ hx)
/-- the marks of a sample with these words -/
def marksOf (yw nw : List Str) : List (Str × Bool) := andFalse (allTrue (wordOrder yw)) (wordOrder nw)
structure Marks (yw nw : List Str) (ms : List (Str × Bool)) (ys ns : List Str) : Prop where
  mo : ∀ x, markOf ms x = if x ∈ nw then some false else if x ∈ yw then some true else none
  ks : keysM ms = ys ++ ns
  ys : Srt ys yw
  ns : Srt ns nw
  nd : (keysM ms).Nodup
theorem marks_of {yw nw : List Str} (dis : ∀ w ∈ nw, w ∉ yw) : ∃ ys ns, Marks yw nw (marksOf yw nw) ys ns := by
  have kA : ∀ x, x ∈ keysM (allTrue (wordOrder yw)) ↔ x ∈ yw := fun x => by
    unfold allTrue
    rw [fold_keys, order_mem]
    exact ⟨fun z => z.elim (fun z => absurd z List.not_mem_nil) id, .inr⟩
  have kB : ∀ x, x ∈ keysM (andFalse [] (wordOrder nw)) ↔ x ∈ nw := fun x => by
    unfold andFalse
    rw [fold_keys, order_mem]
    exact ⟨fun z => z.elim (fun z => absurd z List.not_mem_nil) id, .inr⟩
  have e : marksOf yw nw = allTrue (wordOrder yw) ++ andFalse [] (wordOrder nw) := by
    unfold marksOf andFalse
    have h := fold_app (b := false) (ms := allTrue (wordOrder yw)) (ws := wordOrder nw) (acc := []) fun w hw z => dis w (order_mem.mp hw) ((kA w).mp z)
    rw [List.append_nil] at h
    exact h
  refine ⟨keysM (allTrue (wordOrder yw)), keysM (andFalse [] (wordOrder nw)), fun x => ?_, ?_, ⟨kA, fold_sorted order_le List.Pairwise.nil fun k hk => absurd hk List.not_mem_nil⟩, ⟨kB, fold_sorted order_le List.Pairwise.nil fun k hk => absurd hk List.not_mem_nil⟩, ?_⟩
  · unfold marksOf andFalse
    rw [fold_mark]
    by_cases h : x ∈ nw
    · rw [if_pos h, if_pos (order_mem.mpr h)]
    · rw [if_neg h, if_neg fun z => h (order_mem.mp z)]
      unfold allTrue
      rw [fold_mark]
      by_cases h2 : x ∈ yw
      · rw [if_pos h2, if_pos (order_mem.mpr h2)]
      · rw [if_neg h2, if_neg fun z => h2 (order_mem.mp z)]
        rfl
  · rw [e]
    unfold keysM
    rw [List.map_append]
  · unfold marksOf andFalse
    exact fold_nodup (fold_nodup List.nodup_nil)
theorem Marks.yes {yw nw ys ns : List Str} {ms : List (Str × Bool)} (h : Marks yw nw ms ys ns) (dis : ∀ w ∈ nw, w ∉ yw) : (keysM ms).filter (fun w => markOf ms w == some true) = ys := by
  rw [h.ks, List.filter_append]
  have a : ys.filter (fun w => markOf ms w == some true) = ys := List.filter_eq_self.mpr fun w hw => by
    have m := (h.ys.mem w).mp hw
    rw [h.mo, if_neg fun z => dis w z m, if_pos m]
    rfl
  have b : ns.filter (fun w => markOf ms w == some true) = [] := List.filter_eq_nil_iff.mpr fun w hw => by
    rw [h.mo, if_pos ((h.ns.mem w).mp hw)]
    decide
  rw [a, b, List.append_nil]
theorem Marks.no {yw nw ys ns : List Str} {ms : List (Str × Bool)} (h : Marks yw nw ms ys ns) (dis : ∀ w ∈ nw, w ∉ yw) : (keysM ms).filter (fun w => !(markOf ms w == some true)) = ns := by
  rw [h.ks, List.filter_append]
  have a : ns.filter (fun w => !(markOf ms w == some true)) = ns := List.filter_eq_self.mpr fun w hw => by
    rw [h.mo, if_pos ((h.ns.mem w).mp hw)]
    rfl
  have b : ys.filter (fun w => !(markOf ms w == some true)) = [] := List.filter_eq_nil_iff.mpr fun w hw => by
    have m := (h.ys.mem w).mp hw
    rw [h.mo, if_neg fun z => dis w z m, if_pos m]
    decide
  rw [a, b, List.nil_append]
end Wf
/-! walks over a dict of marks, under its lock -/
namespace Wf
open PySem L2
theorem mark_at {w : Str} {b : Bool} : ∀ {ms : List (Str × Bool)} {i : Nat}, (keysM ms).Nodup → ms[i]? = some (w, b) → markOf ms w = some b
  | [], _, _, h => by cases h
  | p :: ms, 0, _, h => by
    cases h
    show (if w = w then some b else _) = _
    rw [if_pos rfl]
  | p :: ms, i + 1, nd, h => by
    obtain ⟨n1, n2⟩ := List.nodup_cons.mp nd
    have m : w ∈ keysM ms := List.mem_map.mpr ⟨(w, b), List.mem_of_getElem? (i := i) h, rfl⟩
    show (if p.1 = w then some p.2 else markOf ms w) = _
    rw [if_neg fun e : p.1 = w => n1 (show p.1 ∈ keysM ms from e ▸ m)]
    exact mark_at n2 h
theorem mk_at {ms : List (Str × Bool)} {i : Nat} {key : Key} {val : V} (h : (mkK ms)[i]? = some (key, val)) : ∃ w b, ms[i]? = some (w, b) ∧ key = .inr w ∧ val = .bl b := by
  unfold mkK at h
  rw [List.getElem?_map] at h
  obtain ⟨p, hp, e⟩ := Option.map_eq_some_iff.mp h
  exact ⟨p.1, p.2, hp, (Prod.mk.inj e).1.symm, (Prod.mk.inj e).2.symm⟩
theorem keys_take {ms : List (Str × Bool)} {i : Nat} {w : Str} {b : Bool} (h : ms[i]? = some (w, b)) : (keysM ms).take (i + 1) = (keysM ms).take i ++ [w] := by
  rw [List.take_succ, show (keysM ms)[i]? = some w from by
    unfold keysM
    rw [List.getElem?_map, h]
    rfl]
  rfl
theorem unlock {H H' : Hp} {D : Addr} {od : Obj} {u : HO} (e : H D = some u) (s : Same (upd H D (.frz od u)) H') : Same H (upd H' D u) := fun b o h => by
  rcases Decidable.em (b = D) with rfl | ne
  · rw [e] at h
    rw [upd_same]
    exact h
  · exact (upd_ne ne).trans (s b o ((upd_ne ne).trans h))
theorem But.fresh {H H' : Hp} {x t : Addr} {o : HO} (bt : But x H H') (ex : H' x = some o) (h : H' t = none) : H t = none := by
  cases q : H t with
  | none => rfl
  | some u =>
    have ne : t ≠ x := fun e => by rw [e, ex] at h; cases h
    rw [bt t u ne q] at h
    cases h
theorem get_frz {H : Hp} {D : Addr} {od : Obj} {ms : List (Str × Bool)} {w : Str} {b : Bool} (e : H D = some (.frz od (.dK (mkK ms)))) (m : markOf ms w = some b) : DGet H D (.str w) (some (.bl b)) :=
  .inl ⟨mkK ms, .inr w, .inr ⟨od, e⟩, rfl, by rw [val_mk, m]; rfl⟩
end Wf
/-! a == b by the __eq__ of a's class, whatever b is; classes called where nothing may be raised -/
namespace Wf
open PySem PySem.Spec PyProof.Rows L2
section
variable {X : Cx} {CX : CXT} {k : Nat} {C f : Addr} {fd : FuncData} {ps : List Str} {sp : Sp} {E : XK} {x : Str} {p pos : Pos} {e : Expr} {es : List Expr} {t : TA} {dvs : List V}
def rEqOwn (K : PySem.W.Frag) (C : Addr) (sp : Sp) (E : XK) : R2 := fun x y H Q => ∃ a dx fs t, x = .ref a ∧ H a = some (.ins C dx fs) ∧ TyX K H y t ∧ PySem.W.notFirst K C t = true ∧ sp [.ref a, y] H (fun v H' => ∃ b, v = .bl b ∧ Q v H') E
theorem op_eqOwn (F : FnOk X.prog X.w X.K X.mg X.base CX k f fd ps sp) (hr : Room k X.A) (at_ : PySem.W.findIn X.K (.ref C) "__eq__" = some (some (.ref f))) (fn : PySem.W.isFn X.K (.ref f) = true) (hb : Binds X.K fd ps []) (hx : Passes CX X E) : OpR X (compareOp .Eq) (rEqOwn X.K C sp E) := by
  intro pins s σ H x y v u Q I rx ry want
  obtain ⟨a, dx, fs, ty, rfl, ea, yt, nf, want⟩ := want
  cases rx
  obtain ⟨mA, inst, _⟩ := ins_get I.hok ea
  obtain ⟨od, at2, _⟩ := inst.look
  obtain ⟨fr, stands⟩ := I.fr
  obtain ⟨Pk, kit, held, _⟩ := kit_of I ry yt
  show wpAny (model X.prog X.w) X.A (richCompare .Eq (.ref a) u) (EP X pins σ Q) X.xe s
  refine PySem.W.cmp_K (op := .Eq) (tb := ty) hr.units0 stands I.ok.mod.kin at2 (kit.ty _ _ I.kIn held) nf at_ fn ?_
  refine wpAny_mono (run_fn (vs := [.ref a, y]) (us := [.ref a, u]) F hr hb .nil hx I (.cons rfl (.cons ry .nil)) want) (fun w s' got => ?_) fun _ _ z => z
  obtain ⟨v, H', I', rv, b, rfl, q⟩ := got
  have ew : w = Value.bool b := rv
  subst ew
  exact ⟨.bl b, H', I', rfl, q⟩
/-- nothing may be raised: a def that could, doesn't -/
theorem passN : Passes (L2.CX X.prog X.w) X L2.E0 := fun _ _ _ _ _ _ _ h => by
  obtain ⟨_, _, _, _, _, _, _, _, _, _, _, _, z⟩ := h
  exact z.elim
/-- a class of the text, to be made by its name; the defaults dvs fill up -/
structure CnD (P : Program) (w : World) (K : PySem.W.Frag) (mg : Str → Option Value) (base : Heap) (CX : CXT) (k : Nat) (x : Str) (C : Addr) (ps : List Str) (sp : Sp) (dvs : List V) : Prop where
  ex : ∃ (f : Addr) (fd : FuncData) (ds : List Value), Mk K C f ∧ FnOk P w K mg base CX k f fd ps sp ∧ Binds K fd ps ds ∧ Vals dvs ds
  gC : mg x = some (.ref C)
theorem pe_mkD (N : CnD X.prog X.w X.K X.mg X.base CX k x C ps sp dvs) (hr : Room (k + 1) X.A) (hx : Passes CX X E) (ha : PA X (e :: es) t) (hg : Gl X x := by rfl) (hdb : (x == ("__debug__" : Str)) = false := by decide)
    (he : starEach (e :: es) X.env = (false, eval e X.env) :: starEach es X.env := by rfl) (hpl : (backTo pos (starEach es X.env)).any (·.1) = false := by rfl) : PE X (.Call (.Name x p) (e :: es) [] pos) (tMake C sp dvs E t) :=
  let ⟨_, _, _, M, F, hb, hd⟩ := N.ex
  pe_make M F hr hg N.gC hb hd hx ha hdb he hpl
end
end Wf
/-! what is shown of words of letters tells the words -/
namespace Wf
open PySem L2
/-- signs of the alphabet only -/
def Abc (w : Str) : Prop := ∀ c ∈ w.cps.toList, 97 ≤ c ∧ c ≤ 122
def sgs (x : Str) : List Nat := x.cps.toList
theorem sgs_app (a b : Str) : sgs (a ++ b) = sgs a ++ sgs b := Array.toList_append
theorem sgs_inj {a b : Str} (h : sgs a = sgs b) : a = b := cps_inj h
theorem char_abc : ∀ c, c < 123 → 97 ≤ c → PySem.Builtin.Str.reprChar 39 c = [c] := by decide +kernel
theorem fold_abc : ∀ (l : List Nat) (acc : Array Nat), (∀ c ∈ l, 97 ≤ c ∧ c ≤ 122) → (l.foldl (fun out c => out ++ (PySem.Builtin.Str.reprChar 39 c).toArray) acc).toList = acc.toList ++ l
  | [], acc, _ => (List.append_nil _).symm
  | c :: r, acc, h => by
    have hc := h c List.mem_cons_self
    rw [List.foldl_cons, fold_abc r _ fun d hd => h d (List.mem_cons_of_mem _ hd), char_abc c (by omega) hc.1, Array.toList_append, List.append_assoc]
    rfl
theorem quote_abc {w : Str} (h : Abc w) : reprQuote w = 39 := by
  unfold reprQuote
  have no : w.cps.contains 39 = false := by
    cases e : w.cps.contains 39 with
    | false => rfl
    | true =>
      have m : (39 : Nat) ∈ w.cps := by simpa using e
      have := h 39 (Array.mem_toList_iff.mpr m)
      omega
  rw [no, Bool.false_and]
  rfl
theorem sgs_word {w : Str} (h : Abc w) : sgs (reprText w) = 39 :: (sgs w ++ [39]) := by
  unfold sgs reprText
  rw [quote_abc h, Array.toList_push, ← Array.foldl_toList, fold_abc _ _ h]
  rfl
/-- a word and its quotes -/
def qt (w : Str) : List Nat := 39 :: (sgs w ++ [39])
theorem word_cut : ∀ {u v a b : List Nat}, (∀ c ∈ u, 97 ≤ c) → (∀ c ∈ v, 97 ≤ c) → u ++ 39 :: a = v ++ 39 :: b → u = v ∧ a = b
  | [], [], _, _, _, _, h => ⟨rfl, (List.cons.inj h).2⟩
  | [], y :: _, _, _, _, hv, h => by
    have e : 39 = y := (List.cons.inj h).1
    have := hv y List.mem_cons_self
    omega
  | x :: _, [], _, _, hu, _, h => by
    have e : x = 39 := (List.cons.inj h).1
    have := hu x List.mem_cons_self
    omega
  | x :: u, y :: v, a, b, hu, hv, h => by
    obtain ⟨e1, e2⟩ := List.cons.inj h
    obtain ⟨e3, e4⟩ := word_cut (fun c hc => hu c (List.mem_cons_of_mem _ hc)) (fun c hc => hv c (List.mem_cons_of_mem _ hc)) e2
    exact ⟨by rw [e1, e3], e4⟩
theorem qt_cut {u v : Str} {a b : List Nat} (hu : Abc u) (hv : Abc v) (h : qt u ++ a = qt v ++ b) : u = v ∧ a = b := by
  unfold qt at h
  rw [List.cons_append, List.cons_append, List.append_assoc, List.append_assoc] at h
  obtain ⟨e1, e2⟩ := word_cut (fun c hc => (hu c hc).1) (fun c hc => (hv c hc).1) (List.cons.inj h).2
  exact ⟨sgs_inj e1, e2⟩
/-- the words behind the first -/
def enc (ws : List Str) : List Nat := ws.flatMap fun w => 44 :: 32 :: qt w
theorem enc_cut : ∀ {us vs : List Str} {a b : List Nat}, (∀ w ∈ us, Abc w) → (∀ w ∈ vs, Abc w) → enc us ++ 93 :: a = enc vs ++ 93 :: b → us = vs ∧ a = b
  | [], [], _, _, _, _, h => ⟨rfl, (List.cons.inj h).2⟩
  | [], v :: vs, _, _, _, _, h => by
    unfold enc at h
    rw [List.flatMap_cons] at h
    exact absurd (List.cons.inj h).1 (by decide)
  | u :: us, [], _, _, _, _, h => by
    unfold enc at h
    rw [List.flatMap_cons] at h
    exact absurd (List.cons.inj h).1 (by decide)
  | u :: us, v :: vs, a, b, hu, hv, h => by
    have ex : ∀ w ws, enc (w :: ws) = 44 :: 32 :: (qt w ++ enc ws) := fun w ws => by
      unfold enc
      rw [List.flatMap_cons]
      rfl
    rw [ex, ex] at h
    have h2 : (qt u ++ enc us) ++ 93 :: a = (qt v ++ enc vs) ++ 93 :: b := (List.cons.inj (List.cons.inj h).2).2
    rw [List.append_assoc, List.append_assoc] at h2
    obtain ⟨e1, e2⟩ := qt_cut (hu u List.mem_cons_self) (hv v List.mem_cons_self) h2
    obtain ⟨e3, e4⟩ := enc_cut (fun w hw => hu w (List.mem_cons_of_mem _ hw)) (fun w hw => hv w (List.mem_cons_of_mem _ hw)) e2
    exact ⟨by rw [e1, e3], e4⟩
/-- what stands between the brackets -/
def inner : List Str → List Nat
  | [] => []
  | w :: ws => qt w ++ enc ws
theorem inner_cut : ∀ {us vs : List Str} {a b : List Nat}, (∀ w ∈ us, Abc w) → (∀ w ∈ vs, Abc w) → inner us ++ 93 :: a = inner vs ++ 93 :: b → us = vs ∧ a = b
  | [], [], _, _, _, _, h => ⟨rfl, (List.cons.inj h).2⟩
  | [], v :: vs, _, _, _, _, h => absurd (List.cons.inj h).1 (by decide)
  | u :: us, [], _, _, _, _, h => absurd (List.cons.inj h).1 (by decide)
  | u :: us, v :: vs, a, b, hu, hv, h => by
    unfold inner at h
    rw [List.append_assoc, List.append_assoc] at h
    obtain ⟨e1, e2⟩ := qt_cut (hu u List.mem_cons_self) (hv v List.mem_cons_self) h
    obtain ⟨e3, e4⟩ := enc_cut (fun w hw => hu w (List.mem_cons_of_mem _ hw)) (fun w hw => hv w (List.mem_cons_of_mem _ hw)) e2
    exact ⟨by rw [e1, e3], e4⟩
theorem from_sg : ∀ (ts : List Str) (k : Nat) (acc : Str), 0 < k → sgs (textFrom k acc ts) = sgs acc ++ ts.flatMap fun t => 44 :: 32 :: sgs t
  | [], _, _, _ => (List.append_nil _).symm
  | t :: ts, k, acc, hk => by
    show sgs (textFrom (k + 1) (acc ++ (if k > 0 then ", " else "" : String) ++ t) ts) = _
    rw [from_sg ts (k + 1) _ (Nat.succ_pos k), if_pos hk, sgs_app, sgs_app, List.flatMap_cons]
    show sgs acc ++ [44, 32] ++ sgs t ++ _ = _
    rw [List.append_assoc, List.append_assoc]
    rfl
theorem shown_words : ∀ ws : List Str, (∀ w ∈ ws, Abc w) → sgs (PyData.shown (.list (ws.map PyData.str))) = 91 :: (inner ws ++ [93])
  | [], _ => rfl
  | w :: ws, h => by
    have all : ∀ us : List Str, (∀ u ∈ us, Abc u) → (PyData.shownAll (us.map PyData.str)).flatMap (fun t => 44 :: 32 :: sgs t) = enc us := fun us => by
      induction us with
      | nil => intro _; rfl
      | cons u us ih =>
        intro hu
        show 44 :: 32 :: sgs (reprText u) ++ (PyData.shownAll (us.map PyData.str)).flatMap _ = _
        rw [ih fun x hx => hu x (List.mem_cons_of_mem _ hx), sgs_word (hu u List.mem_cons_self)]
        rfl
    show sgs (textFrom (0 + 1) (("[" : Str) ++ (if 0 > 0 then ", " else "" : String) ++ reprText w) (PyData.shownAll (ws.map PyData.str)) ++ "]") = _
    rw [sgs_app, from_sg _ _ _ (Nat.succ_pos 0), all ws fun x hx => h x (List.mem_cons_of_mem _ hx), sgs_app, sgs_app, sgs_word (h w List.mem_cons_self)]
    show [91] ++ [] ++ qt w ++ enc ws ++ [93] = 91 :: (qt w ++ enc ws ++ [93])
    simp
/-- (letters, list of words, list of words) -/
def rawD (z : Str) (ys ns : List Str) : PyData := .tuple [.str z, .list (ys.map PyData.str), .list (ns.map PyData.str)]
theorem shown_raw {z : Str} {ys ns : List Str} (hz : Abc z) (hy : ∀ w ∈ ys, Abc w) (hn : ∀ w ∈ ns, Abc w) : sgs (rawD z ys ns).shown = 40 :: (qt z ++ 44 :: 32 :: 91 :: (inner ys ++ 93 :: 44 :: 32 :: 91 :: (inner ns ++ [93, 41]))) := by
  show sgs (("(" : Str) ++ Str.join ", " [reprText z, PyData.shown (.list (ys.map PyData.str)), PyData.shown (.list (ns.map PyData.str))] ++ ")") = _
  have e : Str.join ", " [reprText z, PyData.shown (.list (ys.map PyData.str)), PyData.shown (.list (ns.map PyData.str))] = reprText z ++ ((", " : String) : Str) ++ (PyData.shown (.list (ys.map PyData.str)) ++ ((", " : String) : Str) ++ PyData.shown (.list (ns.map PyData.str))) := rfl
  rw [e, sgs_app, sgs_app, sgs_app, sgs_app, sgs_app, sgs_app, sgs_word hz, shown_words ys hy, shown_words ns hn]
  show [40] ++ (39 :: (sgs z ++ [39]) ++ [44, 32] ++ (91 :: (inner ys ++ [93]) ++ [44, 32] ++ 91 :: (inner ns ++ [93]))) ++ [41] = _
  unfold qt
  simp
theorem raw_inj {z z' : Str} {ys ns ys' ns' : List Str} (hz : Abc z) (hy : ∀ w ∈ ys, Abc w) (hn : ∀ w ∈ ns, Abc w) (hz' : Abc z') (hy' : ∀ w ∈ ys', Abc w) (hn' : ∀ w ∈ ns', Abc w) :
    (rawD z ys ns).shown = (rawD z' ys' ns').shown ↔ z = z' ∧ ys = ys' ∧ ns = ns' := by
  constructor
  · intro h
    have h1 := congrArg sgs h
    rw [shown_raw hz hy hn, shown_raw hz' hy' hn'] at h1
    obtain ⟨e1, h2⟩ := qt_cut hz hz' (List.cons.inj h1).2
    have h3 := (List.cons.inj (List.cons.inj (List.cons.inj h2).2).2).2
    obtain ⟨e2, h4⟩ := inner_cut hy hy' h3
    have h5 := (List.cons.inj (List.cons.inj (List.cons.inj h4).2).2).2
    exact ⟨e1, e2, (inner_cut hn hn' h5).1⟩
  · rintro ⟨rfl, rfl, rfl⟩
    rfl
end Wf
/-! properties and methods of a class of the text, by their names -/
namespace Wf
open PySem PySem.Spec PyProof.Rows L2
structure Pr (P : Program) (w : World) (K : PySem.W.Frag) (mg : Str → Option Value) (base : Heap) (C : Addr) (x : Str) (sp : Sp) : Prop where
  ex : ∃ (p g : Addr) (fd : FuncData), PropOf K C x p g ∧ FnOk P w K mg base CX0 1 g fd ["self"] sp ∧ Binds K fd ["self"] []
structure Mt (P : Program) (w : World) (K : PySem.W.Frag) (mg : Str → Option Value) (base : Heap) (k : Nat) (C : Addr) (x : Str) (ps : List Str) (sp : Sp) : Prop where
  ex : ∃ (g : Addr) (fd : FuncData), Meth K C x g ∧ FnOk P w K mg base CX0 k g fd ps sp ∧ Binds K fd ps []
section
variable {X : Cx} {C : Addr} {x : Str} {k : Nat} {ps : List Str} {sp : Sp} {e o : Expr} {es : List Expr} {pos apos : Pos} {ta : TE} {t : TA} {pl : Sem Bool}
theorem pe_pr (N : Pr X.prog X.w X.K X.mg X.base C x sp) (cl : Cls X.K C) (hr : Room 2 X.A) (he : PE X e ta) (hab : attributeBase e x X.env (eval e X.env) = eval e X.env := by rfl) : PE X (.Attribute e x pos) (tProp C sp [] L2.E0 ta) :=
  let ⟨_, _, _, hp, F, hb⟩ := N.ex
  pe_prop he cl hp F hr hb .nil pass0 hab
theorem pe_mt (N : Mt X.prog X.w X.K X.mg X.base k C x ps sp) (cl : Cls X.K C) (hr : Room k X.A) (he : PE X o ta) (ha : PA X (e :: es) t)
    (ht : eval (.Call (.Attribute o x apos) (e :: es) [] pos) X.env = (do
      let ov ← eval o X.env
      standAt apos.atName
      let (f, first) ← holding [ov] (getMethod ov x pl)
      callWith pos f first (backTo pos (starEach (e :: es) X.env)) (backToKw pos (keywordEach [] X.env))) := by rfl)
    (hst : starEach (e :: es) X.env = (false, eval e X.env) :: starEach es X.env := by rfl) (hpl : (backTo pos (starEach es X.env)).any (·.1) = false := by rfl) : PE X (.Call (.Attribute o x apos) (e :: es) [] pos) (tMeth C x sp [] L2.E0 ta t) :=
  let ⟨_, _, hm, F, hb⟩ := N.ex
  pe_meth he cl hm F hr hb .nil pass0 ha hst hpl ht
end
end Wf
/-! a != b by the own __eq__; defs with a star parameter, with a keyword-only one beside it; methods called with keywords -/
namespace Wf
open PySem PySem.Spec PyProof.Rows L2
section
variable {M : Model} {prog : Program} {w : World} {A : Around} {E : Value → Shared → Prop} {s : Shared} {K : PySem.W.Frag} {x C f : Addr} {b tb : Value} {ox : Obj} {od : Option Obj} {h₀ : Heap} {L : Addr} {m : Str → Option Value}
theorem ifBound_objNe {args : List Value} {Q : Option Value → Shared → Prop} (X : K.In s.heap) (I : PySem.W.InstAt s.heap x ox C od) (hs : PySem.W.findIn K (.ref C) "__ne__" = some (some (.builtin "object.__ne__")))
    (h : wpAny M A (call (.builtin "object.__ne__") (.ref x :: args)) (fun v => Q (some v)) E s) : wpAny M A (callSpecialIfBound? (.ref x) "__ne__" args) Q E s := by
  simp only [callSpecialIfBound?, bindSpecialIfBound?]
  refine wpAny_holding (wpAny_bind (wpAny_bind (wpAny_bind (I.type.here ((PySem.W.looks_findIn X hs).here ?_)))))
  refine wpAny_bind (wpAny_askSetting (wpAny_ite ?_))
  have fin : wpAny M A (call (.builtin "object.__ne__") ([.ref x] ++ args) >>= fun v => pure (some v)) Q E s := wpAny_bind (wpAny_mono h (fun v s' h' => wpAny_pure h') fun _ _ h' => h')
  split
  · exact wpAny_bind (wpAny_of_eq (F.cmp_object.ne.bind _) (wpAny_pure (by exact fin)))
  · exact wpAny_tryCatch (wpAny_bind (wpAny_of_eq (F.cmp_object.ne.bind _) (wpAny_pure (by exact fin))))
theorem entry_objNe {Q : Fin → Shared → Prop} (hu : A.units < cLine) (X : K.In s.heap) (I : PySem.W.InstAt s.heap x ox C od) (hs : PySem.W.findIn K (.ref C) "__eq__" = some (some (.ref f))) (hf : PySem.W.isFn K (.ref f) = true)
    (h : wpAny (model prog w) A (call (.ref f) [.ref x, b]) (fun v s' => ∃ c, v = .bool c ∧ Q (.done (.ret (.bool (!c)))) s') E s) :
    wpAny (model prog w) A (Builtin.«object.__ne__» ⟨[.ref x, b], []⟩) Q E s := by
  unfold Builtin.«object.__ne__»
  repeat (first
    | with_reducible refine wpAny_cRoomFor hu ?_
    | (refine wpAny_bind (m := callSpecialIfBound? (.ref x) (Str.ofString "__eq__") [b])
        (PySem.W.ifBound_K X I hs hf (wpAny_mono h (fun r s' hr => by
          obtain ⟨c, rfl, hq⟩ := hr
          repeat (first | exact hq | exact wpAny_pure hq | exact wpAny_truthy_bool hq | (refine wpAny_bind (m := truthy (.bool _)) (wpAny_truthy_bool ?_)) | wp_step)) fun _ _ e => e)))
    | wp_step)
theorem call_objNe {Q : Value → Shared → Prop} (hu : A.units + 1 < cLine) (X : K.In s.heap) (I : PySem.W.InstAt s.heap x ox C od) (hm : PySem.W.mroIn K C (.type "object") = some true) (hs : PySem.W.findIn K (.ref C) "__eq__" = some (some (.ref f))) (hf : PySem.W.isFn K (.ref f) = true)
    (h : wpAny (model prog w) A.in1 (call (.ref f) [.ref x, b]) (fun v s' => ∃ c, v = .bool c ∧ Q (.bool (!c)) s') E s) :
    wpAny (model prog w) A (call (.builtin "object.__ne__") [.ref x, b]) Q E s :=
  wpAny_call (codeAny_call_builtin F.cmp_object.ne.plain F.cmpEntry_ne (PySem.W.check_slot F.cmpKind_ne F.cmpSplit_ne (I.type.andThen (PySem.W.looks_mroIn X hm)) (F.cmpArgs_ne _ _) (entry_objNe (A := A.in1) hu X I hs hf h)))
theorem ne_K {Q : Value → Shared → Prop} (hu : A.units + 1 < cLine) (F : Fr h₀ L s.heap m) (X₀ : K.In h₀) (I : PySem.W.InstAt s.heap x ox C od) (hb : PySem.W.Looks (model prog w) s.heap (typeOf b) tb) (hn : PySem.W.notFirst K C tb = true)
    (hs : PySem.W.findIn K (.ref C) "__eq__" = some (some (.ref f))) (hf : PySem.W.isFn K (.ref f) = true) (hs2 : PySem.W.findIn K (.ref C) "__ne__" = some (some (.builtin "object.__ne__"))) (hm : PySem.W.mroIn K C (.type "object") = some true)
    (h : wpAny (model prog w) A.in1 (call (.ref f) [.ref x, b]) (fun v s' => ∃ c, v = .bool c ∧ Q (.bool (!c)) s') E s) : wpAny (model prog w) A (richCompare .NotEq (.ref x) b) Q E s := by
  have X := X₀.keeps F.keep
  have one : wpAny (model prog w) A (tryCompare (.ref x) "__ne__" b) (fun r s' => ∃ v, r = some v ∧ Q v s') E s := by
    unfold tryCompare
    refine wpAny_bind (ifBound_objNe X I hs2 (call_objNe hu X I hm hs hf (wpAny_mono h (fun v s' hv => ?_) fun _ _ e => e)))
    obtain ⟨c, rfl, hq⟩ := hv
    exact ⟨c, rfl, wpAny_pure ⟨_, rfl, hq⟩⟩
  unfold richCompare
  simp only [oneThing_ref]
  refine wpAny_holding (wpAny_bind (wpAny_cRoomFor (by omega) ?_))
  rw [cmpInfo_NotEq]
  dsimp only
  refine wpAny_bind (I.type.here (wpAny_bind (hb.here ?_)))
  split
  · rename_i q
    have e : PySem.W.subIn K tb (.ref C) = some false := by
      rcases Bool.or_eq_true_iff.mp hn with e | e
      · rw [beq_iff_eq.mp e] at q; simp at q
      · exact beq_iff_eq.mp e
    refine wpAny_bind ((PySem.W.looks_subIn X e).here ?_)
    simp only [Bool.false_eq_true, if_false]
    refine wpAny_bind (wpAny_mono one (fun r s' z => ?_) fun _ _ e => e)
    obtain ⟨v, rfl, hq⟩ := z
    exact wpAny_pure hq
  · refine wpAny_bind (wpAny_pure ?_)
    simp only [Bool.false_eq_true, if_false]
    refine wpAny_bind (wpAny_mono one (fun r s' z => ?_) fun _ _ e => e)
    obtain ⟨v, rfl, hq⟩ := z
    exact wpAny_pure hq
end
section
variable {X : Cx} {CX : CXT} {k : Nat} {C f : Addr} {fd : FuncData} {ps : List Str} {sp : Sp} {E : XK}
def rNeOwn (K : PySem.W.Frag) (C : Addr) (sp : Sp) (E : XK) : R2 := fun x y H Q => ∃ a dx fs t, x = .ref a ∧ H a = some (.ins C dx fs) ∧ TyX K H y t ∧ PySem.W.notFirst K C t = true ∧ sp [.ref a, y] H (fun v H' => ∃ b, v = .bl b ∧ Q (.bl (!b)) H') E
theorem op_neOwn (F : FnOk X.prog X.w X.K X.mg X.base CX k f fd ps sp) (hr : Room (k + 1) X.A) (at_ : PySem.W.findIn X.K (.ref C) "__eq__" = some (some (.ref f))) (atn : PySem.W.findIn X.K (.ref C) "__ne__" = some (some (.builtin "object.__ne__")))
    (mo : PySem.W.mroIn X.K C (.type "object") = some true) (fn : PySem.W.isFn X.K (.ref f) = true) (hb : Binds X.K fd ps []) (hx : Passes CX X E) : OpR X (compareOp .NotEq) (rNeOwn X.K C sp E) := by
  intro pins s σ H x y v u Q I rx ry want
  obtain ⟨a, dx, fs, ty, rfl, ea, yt, nf, want⟩ := want
  cases rx
  obtain ⟨mA, inst, _⟩ := ins_get I.hok ea
  obtain ⟨od, at2, _⟩ := inst.look
  obtain ⟨fr, stands⟩ := I.fr
  obtain ⟨Pk, kit, held, _⟩ := kit_of I ry yt
  show wpAny (model X.prog X.w) X.A (richCompare .NotEq (.ref a) u) (EP X pins σ Q) X.xe s
  refine ne_K (tb := ty) (by have := hr.un; omega) stands I.ok.mod.kin at2 (kit.ty _ _ I.kIn held) nf at_ fn atn mo ?_
  have hl : [Value.ref a, u].length = ps.length := (F.len _ _ _ _ want : [V.ref a, y].length = ps.length)
  refine wpAny_call (codeAny_mono (F.run X.A.in1 X.stack s H ⟨[.ref a, u], []⟩ [.ref a, u] [.ref a, y] _ E hr.in1 I.env0.in1 (hb s [.ref a, u] I.kIn hl) (.cons rfl (.cons ry .nil)) want) fun r s' hq => ?_)
  cases r with
  | error e => exact hx pins σ H s e s' I hq
  | ok fl =>
    cases fl with
    | ret u =>
      obtain ⟨v, H', I', rv, b, rfl, q⟩ := I.after hq
      have ew : u = Value.bool b := rv
      subst ew
      exact ⟨b, rfl, .bl (!b), H', I', rfl, q⟩
    | next => exact False.elim hq
    | brk => exact False.elim hq
    | cont => exact False.elim hq
end
/-! ### promises by positional values and keywords -/
abbrev SpK := List V → List V → Hp → VK → XK → Prop
def FnK (P : Program) (w : World) (K : PySem.W.Frag) (mg : Str → Option Value) (base : Heap) (CX : CXT) (k : Nat) (f : Addr) (ks : List Str) (sp : SpK) : Prop :=
  ∀ (A : Around) (outer : List Env) (s : Shared) (H : Hp) (us ws : List Value) (vs zs : List V) (Q : VK) (E : XK), Room k A → Env0 P w K mg base A outer s H → Vals vs us → Vals zs ws → ws.length = ks.length → sp vs zs H Q E →
    codeAny (model P w) A (.call (.ref f) ⟨us, ks.zip ws⟩) (CR CX outer P w H s Q E) s
/-! f(a, .., *v, k = m) with the keyword written: a, .. one parameter (self) -/
section
variable {P : Program} {w : World} {K : PySem.W.Frag} {mg : Str → Option Value} {base : Heap} {CX : CXT} {k : Nat} {f : Addr} {name qual : Str} {params : Arguments} {body : List Stmt} {scope : Scope} {dV kV doc pm cdv ct oc : Value} {an od : Option Addr}
  {osl : Array (Option Value)} {N : List Str} {sp : Sp}
theorem fn_star1k {p1 pk pv : Str} (lk : K.lookup f = some ⟨oc, od, .func (PySem.W.fnOf name qual params body scope dV kV doc pm an cdv ct), osl⟩) (hcd : PySem.W.codeIn K cdv qual = true) (S : FnScope N [p1, pk, pv] scope) (hCX : StX.CXUp CX)
    (hb : ∀ (a m : Value) (rest : List Value), bindArgs (PySem.W.fnOf name qual params body scope dV kV doc pm an cdv ct) ⟨a :: rest, [(pk, m)]⟩ = (newTuple rest >>= fun t => pure [(p1, a), (pk, m), (pv, t)]))
    (hbody : ∀ (A : Around) (outer : List Env) (s : Shared) (H : Hp) (vs : List V) (Q : VK) (E : XK), Room k (A.deeper (envOfC qual scope s.heap.objs.size f cdv)) → sp vs H Q E →
      ∃ t, PSs (cxOf CX P w K mg base N qual scope f cdv A outer s H E) body t ∧ t { nx := fun _ H' => Q .non H', rt := Q } (start N vs) H) :
    FnK P w K mg base CX (k + 1) f [pk] (fun vs zs H Q E => ∃ a m rest, vs = a :: rest ∧ zs = [m] ∧ rest.length ≤ sizeLine ∧ ∀ p, H p = Option.none → sp [a, m, V.ref p] (upd H p (.tup rest)) Q E) := by
  intro A outer s H us ws vs zs Q E hr e0 r rz hl hsp
  obtain ⟨a, m, rest, rfl, rfl, hz, hq⟩ := hsp
  obtain ⟨u, us, rfl, ra, r2⟩ : ∃ u us', us = u :: us' ∧ RelV a u ∧ Vals rest us' := by
    cases r with
    | cons x y => exact ⟨_, _, rfl, x, y⟩
  obtain ⟨mv, rfl, rm⟩ := rz.one
  have hn : H s.heap.objs.size = Option.none := e0.hok.fresh (Nat.le_refl _)
  have hl2 : us.length ≤ sizeLine := by rw [← r2.length]; exact hz
  refine StX.run_bnd lk hcd S hr e0 (G := fun xs H2 => ∃ p, H p = Option.none ∧ xs = [a, m, V.ref p] ∧ H2 = upd H p (.tup rest)) (fun A' Ex Q' h => ?_) fun s2 H2 xs ⟨p, hp, ex, eH⟩ hr' => ?_
  · show wpAny _ _ (bindArgs _ ⟨u :: us, [(pk, mv)]⟩) _ _ _
    rw [hb]
    refine wpAny_bind (wpAny_newTuple (wpAny_pure ?_) hl2)
    have new : ObjOk P w (upd H s.heap.objs.size (.tup rest)) (s.heap.push ({ cls := .type "tuple", data := .seq us.toArray } : Obj)) s.heap.objs.size (.tup rest) := ⟨hz, us, r2, ⟨_, Heap.get?_push_size _ rfl, rfl, _, rfl⟩⟩
    have un := StX.un_laid (fs := frs outer) (s := s) (o := ({ cls := .type "tuple", data := .seq us.toArray } : Obj)) (u := .tup rest) hn
    exact h _ _ [a, m, V.ref s.heap.objs.size] [u, mv, Value.ref s.heap.objs.size] (StX.env0_laid e0 new) un rfl (fun e s' => hCX outer s H _ _ E e s' un (fun b o q => Heap.get?_push_of_some _ q) rfl) (.cons ra (.cons rm (.cons rfl .nil))) rfl ⟨_, hn, rfl, rfl⟩
  · subst ex eH
    exact hbody A outer s2 _ _ Q E hr' (hq p hp)
/-- the same, the keyword left out: its default m0 stands in the dict of defaults -/
theorem fn_star1d {p1 pk pv : Str} {D : Addr} {m0 : V} {u0 : Value} (lk : K.lookup f = some ⟨oc, od, .func (PySem.W.fnOf name qual params body scope dV (.ref D) doc pm an cdv ct), osl⟩) (hcd : PySem.W.codeIn K cdv qual = true) (S : FnScope N [p1, pk, pv] scope) (hCX : StX.CXUp CX)
    (hd : PySem.W.nsIn K D pk = some (some u0)) (rd : RelV m0 u0)
    (hb : ∀ (a : Value) (rest : List Value), ∃ (β γ : Type) (k1 : Option Value → Sem β) (k2 : β → Sem γ) (k3 : γ → Sem (List (Str × Value))) (b : β), bindArgs (PySem.W.fnOf name qual params body scope dV (.ref D) doc pm an cdv ct) ⟨a :: rest, []⟩ = ((nsGet D pk >>= k1) >>= k2) >>= k3 ∧ k1 (some u0) = pure b ∧
      (k2 b >>= k3) = (newTuple rest >>= fun t => pure [(p1, a), (pk, u0), (pv, t)]))
    (hbody : ∀ (A : Around) (outer : List Env) (s : Shared) (H : Hp) (vs : List V) (Q : VK) (E : XK), Room k (A.deeper (envOfC qual scope s.heap.objs.size f cdv)) → sp vs H Q E →
      ∃ t, PSs (cxOf CX P w K mg base N qual scope f cdv A outer s H E) body t ∧ t { nx := fun _ H' => Q .non H', rt := Q } (start N vs) H) :
    FnR P w K mg base CX (k + 1) f (fun vs H Q E => ∃ a rest, vs = a :: rest ∧ rest.length ≤ sizeLine ∧ ∀ p, H p = Option.none → sp [a, m0, V.ref p] (upd H p (.tup rest)) Q E) := by
  intro A outer s H us vs Q E hr e0 r hsp
  obtain ⟨a, rest, rfl, hz, hq⟩ := hsp
  obtain ⟨u, us, rfl, ra, r2⟩ : ∃ u us', us = u :: us' ∧ RelV a u ∧ Vals rest us' := by
    cases r with
    | cons x y => exact ⟨_, _, rfl, x, y⟩
  have hn : H s.heap.objs.size = Option.none := e0.hok.fresh (Nat.le_refl _)
  have hl2 : us.length ≤ sizeLine := by rw [← r2.length]; exact hz
  have inK : K.In s.heap := e0.mod.kin.keeps fun b o e => (e0.bs b o e).1
  refine StX.run_bnd lk hcd S hr e0 (G := fun xs H2 => ∃ p, H p = Option.none ∧ xs = [a, m0, V.ref p] ∧ H2 = upd H p (.tup rest)) (fun A' Ex Q' h => ?_) fun s2 H2 xs ⟨p, hp, ex, eH⟩ hr' => ?_
  · obtain ⟨β, γ, k1, k2, k3, b, e1, e2, e3⟩ := hb u us
    have l1 : PySem.W.Looks (model P w) s.heap (nsGet D pk >>= k1) b := (PySem.W.looks_nsIn inK hd).andThen (PySem.W.Looks.of_pure e2)
    rw [e1, bind_assoc]
    refine wpAny_bind (l1.here ?_)
    rw [e3]
    refine wpAny_bind (wpAny_newTuple (wpAny_pure ?_) hl2)
    have new : ObjOk P w (upd H s.heap.objs.size (.tup rest)) (s.heap.push ({ cls := .type "tuple", data := .seq us.toArray } : Obj)) s.heap.objs.size (.tup rest) := ⟨hz, us, r2, ⟨_, Heap.get?_push_size _ rfl, rfl, _, rfl⟩⟩
    have un := StX.un_laid (fs := frs outer) (s := s) (o := ({ cls := .type "tuple", data := .seq us.toArray } : Obj)) (u := .tup rest) hn
    exact h _ _ [a, m0, V.ref s.heap.objs.size] [u, u0, Value.ref s.heap.objs.size] (StX.env0_laid e0 new) un rfl (fun e s' => hCX outer s H _ _ E e s' un (fun b o q => Heap.get?_push_of_some _ q) rfl) (.cons ra (.cons rd (.cons rfl .nil))) rfl ⟨_, hn, rfl, rfl⟩
  · subst ex eH
    exact hbody A outer s2 _ _ Q E hr' (hq p hp)
end
/-! ### methods, by what they promise of any values -/
structure MtR (P : Program) (w : World) (K : PySem.W.Frag) (mg : Str → Option Value) (base : Heap) (CX : CXT) (k : Nat) (C : Addr) (x : Str) (sp : Sp) : Prop where
  ex : ∃ g : Addr, Meth K C x g ∧ FnR P w K mg base CX k g sp
structure MtK (P : Program) (w : World) (K : PySem.W.Frag) (mg : Str → Option Value) (base : Heap) (CX : CXT) (k : Nat) (C : Addr) (x : Str) (ks : List Str) (sp : SpK) : Prop where
  ex : ∃ g : Addr, Meth K C x g ∧ FnK P w K mg base CX k g ks sp
def tMethK (C : Addr) (m : Str) (n : Nat) (sp : SpK) (E : XK) (ta : TE) (t tk : TA) : TE := fun σ H Q => ta σ H fun x H1 => ∃ a dx fs, x = .ref a ∧ H1 a = some (.ins C dx fs) ∧ fs.lookup m = none ∧ t σ H1 fun vs H2 => tk σ H2 fun zs H3 => zs.length = n ∧ sp (x :: vs) zs H3 Q E
section
variable {X : Cx} {CX : CXT} {C : Addr} {x : Str} {k : Nat} {ks : List Str} {sp : Sp} {spk : SpK} {E : XK} {e o : Expr} {es : List Expr} {kws : List Keyword} {pos apos : Pos} {ta : TE} {t tk : TA} {pl : Sem Bool}
theorem pe_mtR (N : MtR X.prog X.w X.K X.mg X.base CX k C x sp) (cl : Cls X.K C) (hr : Room k X.A) (hx : Passes CX X E) (he : PE X o ta) (ha : PA X (e :: es) t)
    (hst : starEach (e :: es) X.env = (false, eval e X.env) :: starEach es X.env := by rfl) (hpl : (backTo pos (starEach es X.env)).any (·.1) = false := by rfl)
    (ht : eval (.Call (.Attribute o x apos) (e :: es) [] pos) X.env = (do
      let ov ← eval o X.env
      standAt apos.atName
      let (f, first) ← holding [ov] (getMethod ov x pl)
      callWith pos f first (backTo pos (starEach (e :: es) X.env)) (backToKw pos (keywordEach [] X.env))) := by rfl) : PE X (.Call (.Attribute o x apos) (e :: es) [] pos) (tMethR C x sp E ta t) :=
  let ⟨_, hm, F⟩ := N.ex
  pe_methR he cl hm F hr hx ha hst hpl ht
theorem run_fnK {f : Addr} {pins : List (Addr × Obj)} {σ : L2.St} {H : Hp} {s : Shared} {Q : VK} {us ws : List Value} {vs zs : List V} (F : FnK X.prog X.w X.K X.mg X.base CX k f ks spk) (hr : Room k X.A) (hx : Passes CX X E) (I : Inv X pins σ H s) (r : Vals vs us) (rz : Vals zs ws) (l : zs.length = ks.length) (h : spk vs zs H Q E) :
    wpAny (model X.prog X.w) X.A (call (.ref f) us (ks.zip ws)) (EP X pins σ Q) X.xe s := by
  refine wpAny_call (codeAny_mono (F X.A X.stack s H us ws vs zs Q E hr I.env0 r rz (rz.length.symm.trans l) h) fun r s' hq => ?_)
  cases r with
  | error e => exact hx pins σ H s e s' I hq
  | ok fl =>
    cases fl with
    | ret u => exact I.after hq
    | next => exact False.elim hq
    | brk => exact False.elim hq
    | cont => exact False.elim hq
theorem pe_mtK (N : MtK X.prog X.w X.K X.mg X.base CX k C x ks spk) (cl : Cls X.K C) (hr : Room k X.A) (hx : Passes CX X E) (he : PE X o ta) (ha : PA X (e :: es) t) (hkw : PK X kws tk)
    (hall : (backToKw pos (keywordEach kws X.env)).all (·.1.isSome) = true := by rfl) (hks : (backToKw pos (keywordEach kws X.env)).filterMap (·.1) = ks := by rfl)
    (hst : starEach (e :: es) X.env = (false, eval e X.env) :: starEach es X.env := by rfl)
    (hpl : ((backTo pos (starEach (e :: es) X.env)).any (·.1) || (backToKw pos (keywordEach kws X.env)).any (·.1.isNone)) = false := by rfl)
    (ht : eval (.Call (.Attribute o x apos) (e :: es) kws pos) X.env = (do
      let ov ← eval o X.env
      standAt apos.atName
      let (f, first) ← holding [ov] (getMethod ov x pl)
      callWith pos f first (backTo pos (starEach (e :: es) X.env)) (backToKw pos (keywordEach kws X.env))) := by rfl) : PE X (.Call (.Attribute o x apos) (e :: es) kws pos) (tMethK C x ks.length spk E ta t tk) := by
  obtain ⟨g, hm, F⟩ := N.ex
  refine ⟨fun pins s σ H Q I h => ?_⟩
  refine PySem.W.methodCall_KW (pl := pl) (thn (he.run pins s σ H _ I h) fun u s1 ⟨y, H1, I1, rx, a, dx, fs, ex, ea, l, q⟩ => ?_) ht
  subst ex
  obtain rfl : u = Value.ref a := rx
  refine getmeth_ok I1 ea cl hm l ?_
  refine PySem.W.callWith_KW (first := [.ref a]) (h₀ := X.base) I.ok.mod.kin hm.kp hall (thn (ha.run pos pins s1 σ H1 _ I1 q) fun us s2 ⟨vs, H2, I2, r, q2⟩ => ?_) hpl hst
  refine thn (hkw.run pos pins s2 σ H2 _ I2 q2) fun ws s3 ⟨zs, H3, I3, rz, l3, q3⟩ => ⟨I3.kIn, ?_⟩
  rw [hks]
  exact run_fnK (us := .ref a :: us) (vs := .ref a :: vs) F hr hx I3 (.cons rfl r) rz l3 q3
end
end Wf
/-! an __init__ that says super().__init__(..): a def with a cell of its class -/
namespace Wf
open PySem PySem.Spec PyProof.Rows L2
/-! ### the frame of a def with a closure -/
theorem own_cells : ∀ (ns : List (Str × NameKind)) (n : Nat) (a : List (Str × Addr)), cellsFrom n ns a = cellsFrom n ns [] ++ a
  | [], _, _ => rfl
  | (x, k) :: ns, n, a => by
    unfold cellsFrom
    split
    · rw [own_cells ns (n + 1) ((x, n) :: a), own_cells ns (n + 1) [(x, n)], List.append_assoc]
      rfl
    · exact own_cells ns n a
def envF (qual : Str) (scope : Scope) (L f : Addr) (cd : Value) (clo : List (Str × Addr)) : Env :=
  { scope := scope, locals := L, globals := mainGlobals, cells := cellsFrom (L + 1) scope.names clo, qual := qual ++ ".<locals>.", func := some f, code := cd, frame := some L, builtins := builtinsNs }
theorem look_app {α : Type} {x : Str} : ∀ {l m : List (Str × α)}, (l ++ m).lookup x = (l.lookup x).or (m.lookup x)
  | [], m => by cases h : m.lookup x <;> simp [h]
  | (y, a) :: l, m => by
    rw [List.cons_append, List.lookup_cons, List.lookup_cons]
    cases x == y with
    | true => rfl
    | false => exact look_app
section
variable {M : Model} {A : Around} {E : Value → Shared → Prop} {s₀ : Shared} {env : Env} {cs : List (Str × Addr)}
theorem bindF (kf : env.scope.kind = .function) (up : ∀ n c, cs.lookup n = some c → env.cells.lookup n = some c) (g : Str × Value → PUnit → Sem (ForInStep PUnit)) (eg : ∀ n v u, g (n, v) u = (do storeName env n v; pure (.yield ⟨⟩))) :
    ∀ (bs : List (Str × Value)) (m cm : Str → Option Value) (s : Shared) (Q : PUnit → Shared → Prop), InCallC s₀ env.locals m cs cm s → (∀ b ∈ bs, env.kindOf b.1 = some .local ∨ (env.kindOf b.1 = some .cell ∧ (cs.lookup b.1).isSome = true)) →
      (∀ s', InCallC s₀ env.locals (bindL env.kindOf bs m) cs (bindC env.kindOf bs cm) s' → Q ⟨⟩ s') → wpAny M A (forIn bs ⟨⟩ g) Q E s := by
  intro bs
  induction bs with
  | nil =>
    intro m cm s Q i _ q
    rw [List.forIn_nil]
    exact wpAny_pure (q s i)
  | cons b bs ih =>
    obtain ⟨n, v⟩ := b
    intro m cm s Q i kinds q
    have later := fun b hb => kinds b (List.mem_cons_of_mem _ hb)
    rw [List.forIn_cons, eg]
    refine wpAny_bind (wpAny_bind ?_)
    have fr : ∀ {b : Addr} {o : Obj}, s₀.heap.get? b = some o → b ≠ env.locals := fun {b o} e z => absurd (Heap.lt_size e) (Nat.not_lt_of_le (z ▸ i.toInCall.fresh))
    rcases kinds (n, v) List.mem_cons_self with kl | ⟨kc, hc⟩
    · refine wpAny_storeName_local kl i.toInCall.ns (fun h' n' same => wpAny_pure (ih _ _ _ Q (⟨⟨?_, n', fun b o e => ?_, i.toInCall.fresh⟩, fun x c e => ?_, i.apart, i.above⟩ : InCallC s₀ env.locals (fun y => if y = n then some v else m y) cs cm _) later fun s' j => q s' ?_)) (by rw [kf]; rfl)
      · obtain ⟨h₁, t, rfl⟩ := i.toInCall.same
        exact ⟨h', _, rfl⟩
      · exact same.extBut b o (fr e) (i.toInCall.keep b o e)
      · exact (i.cell x c e).sameBut same (Nat.ne_of_gt (i.above x c (mem_of_lookup e)))
      · unfold bindL bindC
        rw [if_pos kl, if_pos kl]
        exact j
    · obtain ⟨c, ec⟩ := Option.isSome_iff_exists.mp hc
      have low := i.above n c (mem_of_lookup ec)
      refine wpAny_storeName_cell kf kc (up n c ec) (i.cell n c ec) fun h' c' same => wpAny_pure (ih _ _ _ Q (⟨⟨?_, i.toInCall.ns.sameBut same (Nat.ne_of_lt low), fun b o e => ?_, i.toInCall.fresh⟩, fun x d e => ?_, i.apart, i.above⟩ : InCallC s₀ env.locals m cs (fun y => if y = n then some v else cm y) _) later fun s' j => q s' ?_)
      · obtain ⟨h₁, t, rfl⟩ := i.toInCall.same
        exact ⟨h', _, rfl⟩
      · exact same.extBut b o (fun z => absurd (Heap.lt_size e) (Nat.not_lt_of_le (Nat.le_of_lt (Nat.lt_of_le_of_lt i.toInCall.fresh (z ▸ low))))) (i.toInCall.keep b o e)
      · rcases Decidable.em (x = n) with rfl | ne
        · rw [ec] at e
          cases e
          rw [if_pos rfl]
          exact c'
        · rw [if_neg ne]
          exact (i.cell x d e).sameBut same fun z => ne (name_of_addr i.apart (mem_of_lookup e) (by rw [z]; exact mem_of_lookup ec))
      · have kn : ¬ env.kindOf n = some .local := by
          rw [kc]
          decide
        unfold bindL bindC
        rw [if_neg kn, if_neg kn]
        exact j
end
section
variable {M : Model} {A : Around} {E : Value → Shared → Prop} {s : Shared}
theorem frameF {scope : Scope} {binds : List (Str × Value)} {qual : Str} {f : Addr} {cd : Value} {clo : List (Str × Addr)} {Q : Env → Shared → Prop} (kf : scope.kind = .function)
    (kinds : ∀ b ∈ binds, scope.names.lookup b.1 = some .local ∨ (scope.names.lookup b.1 = some .cell ∧ ((cellsFrom (s.heap.objs.size + 1) scope.names []).lookup b.1).isSome = true))
    (q : ∀ s', InCallC s s.heap.objs.size (bindL (envF qual scope s.heap.objs.size f cd clo).kindOf binds fun _ => none) (cellsFrom (s.heap.objs.size + 1) scope.names []) (bindC (envF qual scope s.heap.objs.size f cd clo).kindOf binds fun _ => none) s' → Q (envF qual scope s.heap.objs.size f cd clo) s') :
    wpAny M A (newFunctionEnv scope mainGlobals clo binds (qual ++ ".<locals>.") (some f) cd none builtinsNs) Q E s := by
  simp only [newFunctionEnv, Option.isSome_none, Bool.false_eq_true, if_false]
  have sz : (s.heap.push { cls := .type "frame", data := .dict #[] }).objs.size = s.heap.objs.size + 1 := Heap.size_push ..
  refine wpAny_bind (wpAny_alloc (wpAny_bind (wpAny_layCells _ (fun x k l => by cases e : k == NameKind.cell <;> simp [e]) _ _ _ _ ?_)))
  have good := cellsFrom_ok scope.names (s.heap.push { cls := .type "frame", data := .dict #[] }) (s.heap.objs.size + 1) [] ⟨fun _ _ z => (nomatch z), List.Pairwise.nil⟩ (Nat.le_of_eq sz.symm)
  rw [sz] at good
  have en : (cellsFrom ({ s with heap := s.heap.push { cls := .type "frame", data := .dict #[] } } : Shared).heap.objs.size scope.names clo) = (envF qual scope s.heap.objs.size f cd clo).cells := by
    show cellsFrom (s.heap.push { cls := .type "frame", data := .dict #[] }).objs.size scope.names clo = cellsFrom (s.heap.objs.size + 1) scope.names clo
    rw [sz]
  rw [en]
  have keep : ∀ b o, s.heap.get? b = some o → (pushCells (s.heap.push { cls := .type "frame", data := .dict #[] }) scope.names).get? b = some o := fun b o e => pushCells_keeps _ _ b o (Heap.get?_push_of_some _ e)
  refine wpAny_bind (bindF (env := envF qual scope s.heap.objs.size f cd clo) (cs := cellsFrom (s.heap.objs.size + 1) scope.names []) (s₀ := s) kf (fun n c e => ?_) _ (fun _ _ _ => rfl) binds (fun _ => none) (fun _ => none) _ _ ?_ kinds fun s' j => wpAny_pure (q s' j))
  · show (cellsFrom (s.heap.objs.size + 1) scope.names clo).lookup n = some c
    rw [own_cells, look_app, e]
    rfl
  · exact ⟨⟨⟨_, _, rfl⟩, (Heap.Ns.new s.heap (.type "frame")).keeps (pushCells_keeps _ _), keep, Nat.le_refl _⟩, fun n c e => (good.empty n c (mem_of_lookup e)).1, good.apart, fun n c e => (good.empty n c e).2⟩
end
/-- a def's names, the class's cell among them -/
structure FnScopeF (N P : List Str) (sc : Scope) : Prop where
  kind : sc.kind = .function
  co : sc.isCoroutine = false
  gen : sc.isGenerator = false
  nd : N.Nodup
  pre : N.take P.length = P
  par : ∀ x ∈ P, sc.names.lookup x = some .local ∨ sc.names.lookup x = some .cell
  free : ∀ y ∈ sc.names, y.2 = .free → y.1 = "__class__"
  cls : sc.names.lookup ("__class__" : Str) = some NameKind.free
  clsF : ∀ y ∈ sc.names, y.1 = "__class__" → y.2 = .free
/-- the context of such a def's body -/
def cxF (CX : CXT) (P : Program) (w : World) (K : PySem.W.Frag) (mg : Str → Option Value) (base : Heap) (N : List Str) (qual : Str) (scope : Scope) (f : Addr) (cd : Value) (cc : Addr) (A : Around) (outer : List Env) (s : Shared) (H : Hp) (E : XK) : Cx :=
  { prog := P, w := w, K := K, mg := mg, base := base, A := A.deeper (envF qual scope s.heap.objs.size f cd [("__class__", cc)]), N := N, s_0 := s, H_0 := H, env := envF qual scope s.heap.objs.size f cd [("__class__", cc)], outer := outer,
    stack := envF qual scope s.heap.objs.size f cd [("__class__", cc)] :: outer, ex := [], calm := true, fn := fun x => !(x == "__class__"), pn := [],
    xe := fun e s' => wpAny (model P w) (A.deeper (envF qual scope s.heap.objs.size f cd [("__class__", cc)])) (leaving (envF qual scope s.heap.objs.size f cd [("__class__", cc)]) e) (fun _ s'' => CX outer H s E e s'') (fun e' s'' => CX outer H s E e' s'') s' }
theorem no_own {ns : List (Str × NameKind)} {n : Nat} {x : Str} (h : ∀ k, (x, k) ∈ ns → k ≠ .cell) : (cellsFrom n ns []).lookup x = none := by
  have gen : ∀ (ns : List (Str × NameKind)) (n : Nat), (∀ k, (x, k) ∈ ns → k ≠ .cell) → (cellsFrom n ns []).lookup x = none := by
    intro ns
    induction ns with
    | nil => intro _ _; rfl
    | cons y ns ih =>
      intro n h
      obtain ⟨y, k⟩ := y
      unfold cellsFrom
      have h' := fun k hk => h k (List.mem_cons_of_mem _ hk)
      split
      · rename_i hk
        rw [own_cells, look_app, ih _ h', Option.none_or]
        have ne : (x == y) = false := by
          rw [beq_eq_false_iff_ne]
          rintro rfl
          exact h k List.mem_cons_self (beq_iff_eq.mp hk)
        rw [List.lookup_cons, ne]
        rfl
      · exact ih n h'
  exact gen ns n h
section
variable {CX : CXT} {P : Program} {w : World} {K : PySem.W.Frag} {mg : Str → Option Value} {base : Heap} {N ps : List Str} {qual : Str} {scope : Scope} {f cc : Addr} {cd : Value} {A : Around} {outer : List Env} {s s1 : Shared} {H : Hp} {E : XK} {us : List Value} {vs : List V} {oc : Obj} {D : Addr}
/-- at the entry -/
theorem invF_start (S : FnScopeF N ps scope) (hd : A.handled = none) (e0 : Env0 P w K mg base A outer s H) (hl : vs.length = ps.length) (r : Vals vs us) (lc : K.lookup cc = some oc) (dc : oc.data = .cell (some (.ref D)))
    (x : InCallC s s.heap.objs.size (bindL (envF qual scope s.heap.objs.size f cd [("__class__", cc)]).kindOf (ps.zip us) fun _ => none) (cellsFrom (s.heap.objs.size + 1) scope.names []) (bindC (envF qual scope s.heap.objs.size f cd [("__class__", cc)]).kindOf (ps.zip us) fun _ => none) s1) :
    Inv (cxF CX P w K mg base N qual scope f cd cc A outer s H E) [] (start N vs) H s1 := by
  obtain ⟨h1, tk, rfl, hk⟩ := x.done
  have hpl : ps.length ≤ N.length := by
    have e := congrArg List.length S.pre
    rw [List.length_take] at e
    omega
  have ndP : ps.Nodup := by
    rw [← S.pre]
    exact S.nd.sublist (List.take_sublist _ _)
  have inB : ∀ b o, K.lookup b = some o → s.heap.get? b = some o ∧ H b = none := fun b o e => e0.bs b o (e0.mod.kin b o e)
  have atc := inB cc oc lc
  have lowc : cc < s.heap.objs.size := Heap.lt_size atc.1
  -- a cell is one of the def's own or the class's
  have two : ∀ {y : Str} {c : Addr}, (cellsFrom (s.heap.objs.size + 1) scope.names [("__class__", cc)]).lookup y = some c → (cellsFrom (s.heap.objs.size + 1) scope.names []).lookup y = some c ∨ (y = "__class__" ∧ c = cc) := fun {y c} e => by
    rw [own_cells, look_app] at e
    cases q : (cellsFrom (s.heap.objs.size + 1) scope.names []).lookup y with
    | some d =>
      rw [q] at e
      exact .inl e
    | none =>
      rw [q, Option.none_or, List.lookup_cons] at e
      cases z : y == ("__class__" : Str) with
      | true =>
        rw [z] at e
        exact .inr ⟨beq_iff_eq.mp z, (Option.some.inj e).symm⟩
      | false =>
        rw [z] at e
        cases e
  have own : ∀ {y : Str} {c : Addr}, (cellsFrom (s.heap.objs.size + 1) scope.names []).lookup y = some c → (cellsFrom (s.heap.objs.size + 1) scope.names [("__class__", cc)]).lookup y = some c := fun {y c} e => by
    rw [own_cells, look_app, e]
    rfl
  have clsC : (cellsFrom (s.heap.objs.size + 1) scope.names [("__class__", cc)]).lookup ("__class__" : Str) = some cc := by
    rw [own_cells, look_app, no_own fun k hk e => by
      have := S.clsF _ hk rfl
      rw [show k = NameKind.free from this] at e
      cases e]
    rfl
  have above : ∀ {y : Str} {c : Addr}, (cellsFrom (s.heap.objs.size + 1) scope.names []).lookup y = some c → s.heap.objs.size < c := fun {y c} e => x.above y c (mem_of_lookup e)
  have noA : ∀ b : Addr, b ∉ (cxF CX P w K mg base N qual scope f cd cc A outer s H E).ex := fun b z => absurd (show b ∈ ([] : List Addr) from z) (by simp)
  have cells : ∀ y c, (cellsFrom (s.heap.objs.size + 1) scope.names [("__class__", cc)]).lookup y = some c → ∃ v, h1.IsCell c v := fun y c e => by
    rcases two e with q | ⟨_, rfl⟩
    · exact ⟨_, x.cell y c q⟩
    · exact ⟨_, oc, hk _ _ atc.1, dc⟩
  have freeCells : ∀ y c, (cellsFrom (s.heap.objs.size + 1) scope.names [("__class__", cc)]).lookup y = some c → H c = none := fun y c e => by
    rcases two e with q | ⟨_, rfl⟩
    · exact e0.hok.fresh (Nat.le_of_lt (above q))
    · exact atc.2
  have look : ∀ (i : Nat) (y : Str) (v : V), N[i]? = some y → (start N vs)[i]? = some (some v) → Vis scope y → ∃ u, RelV v u ∧ Look (envF qual scope s.heap.objs.size f cd [("__class__", cc)]) h1 (bindL (envF qual scope s.heap.objs.size f cd [("__class__", cc)]).kindOf (ps.zip us) fun _ => none) y u := fun i y v e1 e2 _ => by
    have hi : i < vs.length := by
      rcases Nat.lt_or_ge i vs.length with l | l
      · exact l
      · unfold L2.start at e2
        rw [List.getElem?_append_right (by rw [List.length_map]; exact l), List.getElem?_replicate] at e2
        split at e2 <;> cases e2
    have ha : vs[i]? = some v := by
      unfold L2.start at e2
      rw [List.getElem?_append_left (by rw [List.length_map]; exact hi), List.getElem?_map] at e2
      obtain ⟨a, q1, q2⟩ := Option.map_eq_some_iff.mp e2
      rw [q1, ← Option.some.inj q2]
    obtain ⟨u, hu, rv⟩ := r.get ha
    have hp : ps[i]? = some y := by
      rw [← S.pre, List.getElem?_take_of_lt (by omega)]
      exact e1
    refine ⟨u, rv, ?_⟩
    rcases S.par y (List.mem_of_getElem? hp) with q | q
    · exact .inl ⟨q, bindL_get ndP hp hu q⟩
    · obtain ⟨c, e⟩ := cell_has (n := s.heap.objs.size + 1) q
      have z := x.cell y c e
      rw [bindC_get ndP hp hu (by show scope.names.lookup y ≠ _; rw [q]; decide)] at z
      exact .inr ⟨.inl q, c, own e, z⟩
  have okX : (cxF CX P w K mg base N qual scope f cd cc A outer s H E).Ok :=
    { mod := e0.mod, kind := S.kind, glob := rfl, blt := rfl, above := Nat.le_refl _
      inj := fun y z c h1 h2 => by
        rcases two h1 with a | ⟨a, ea⟩ <;> rcases two h2 with b | ⟨b, eb⟩
        · exact name_of_addr x.apart (mem_of_lookup a) (mem_of_lookup b)
        · have q := above a
          rw [eb] at q
          exact absurd lowc (Nat.not_lt_of_le (Nat.le_of_lt q))
        · have q := above b
          rw [ea] at q
          exact absurd lowc (Nat.not_lt_of_le (Nat.le_of_lt q))
        · rw [a, b]
      has := fun y hy => by
        rcases (show scope.names.lookup y = some .cell ∨ scope.names.lookup y = some .free from hy) with q | q
        · obtain ⟨c, e⟩ := cell_has (n := s.heap.objs.size + 1) q
          exact ⟨c, own e⟩
        · have := S.free _ (mem_of_lookup q) rfl
          exact ⟨cc, by rw [show y = "__class__" from this]; exact clsC⟩
      cab := fun y c hf h => by
        rcases two h with q | ⟨rfl, _⟩
        · exact Nat.le_of_lt (above q)
        · exact absurd (show (!(("__class__" : Str) == "__class__")) = true from hf) (by decide)
      hd := fun _ => hd, frames := Around.frames_deeper e0.frames, stk := .inr ⟨rfl, rfl⟩, exf := fun b z => absurd z (noA b), bs := e0.bs, bsz := e0.bsz, noex := fun b _ _ => noA b, exfs := fun b z => absurd z (noA b), funs := e0.funs, frf := e0.frf }
  exact
    { ok := okX, os := rfl, bare := e0.bare, base := Un.kept hk, loc := ⟨_, x.toInCall.ns, look⟩, cell := cells, free := e0.hok.fresh (Nat.le_refl _), freeC := freeCells
      pin := fun p hp => absurd (show p ∈ ([] : List (Addr × Obj)) from hp) (by simp), hok := e0.hok.kept hk
      len := by
        unfold L2.start
        show _ = N.length
        rw [List.length_append, List.length_map, List.length_replicate]
        omega }
end
/-! ### statements, where the def's own code is at the top -/
structure PSsF (X : Cx) (c : Code) (sts : List Stmt) (t : TS) : Prop where
  run : ∀ (pins : List (Addr × Obj)) (s : Shared) (σ : L2.St) (H : Hp) (D : Ends), Inv X pins σ H s → t D σ H → PySem.wpAt (model X.prog X.w) X.A c (execs sts X.env) (SP X pins D) X.xe s
theorem psf_of {X : Cx} {c : Code} {sts : List Stmt} {t : TS} (h : PSs X sts t) : PSsF X c sts t := ⟨fun pins s σ H D I q => PySem.wpAt_of_wpAny (h.run pins s σ H D I q)⟩
theorem psf_cons {X : Cx} {c : Code} {st : Stmt} {rest : List Stmt} {t u : TS} (h : PS X st t) (g : PSsF X c rest u) : PSsF X c (st :: rest) (tSeq t u) := by
  refine ⟨fun pins s σ H D I q => PySem.ks_wpAt_execs_cons (PySem.wpAt_of_wpAny (thn (h.run pins s σ H { D with nx := u D } I q) fun fl s' z => ?_))⟩
  cases fl with
  | next =>
    obtain ⟨σ', H', J, z⟩ := z
    exact g.run pins s' σ' H' D J z
  | ret _ => exact z
  | brk => exact z
  | cont => exact z
/-- B is the class behind C; its __init__ stands at g -/
structure Sup (K : PySem.W.Frag) (C B g : Addr) : Prop where
  mro : ∃ cC cB, PySem.W.clsIn K C = some cC ∧ PySem.W.clsIn K B = some cB ∧ cC.mro = .ref C :: cB.mro
  init : PySem.W.findIn K (.ref B) "__init__" = some (some (.ref g))
  sub : PySem.W.mroIn K C (.ref C) = some true
  any : PySem.W.nsIn K cStatics "thirdparty.any" = some none
  ty : PySem.W.typeIn K (.ref g) = some (.type "function")
  fn : PySem.W.fnIn K g = true
theorem Sup.along {K : PySem.W.Frag} {C B g : Addr} (S : Sup K C B g) {cd : ClassData} (h : PySem.W.clsIn K C = some cd) : PySem.W.alongIn K "__init__" ((cd.mro.dropWhile (· != .ref C)).drop 1) = some (some (.ref g)) := by
  obtain ⟨cC, cB, h1, h2, h3⟩ := S.mro
  rw [h] at h1
  cases h1
  rw [h3, List.dropWhile_cons, show ((Value.ref C : Value) != .ref C) = false from by simp, if_neg Bool.false_ne_true, List.drop_one, List.tail_cons]
  have e := S.init
  unfold PySem.W.clsIn at h2
  cases q : K.lookup B with
  | none =>
    rw [q] at h2
    cases h2
  | some o =>
    obtain ⟨a, b, d, sl⟩ := o
    rw [q] at h2
    simp only [PySem.W.findIn, q] at e
    cases d <;> first | cases h2 | skip
    exact e
/-- what the code at the top must say -/
structure SupX (X : Cx) (f kd cc C : Addr) (sf : Str) : Prop where
  ks : X.env.kindOf "super" = some .globalImplicit
  kc : X.env.kindOf "__class__" = some .free
  fu : X.env.func = some f
  fd : ∃ o fd ar, X.K.lookup f = some o ∧ o.data = .func fd ∧ (fd.params.posonlyargs ++ fd.params.args).head? = some ar ∧ ar.arg = sf
  co : X.env.code = .ref kd
  file : ∃ o vs z tk, X.K.lookup kd = some o ∧ o.data = .fields vs ∧ vs[2]? = some (.str z tk) ∧ ((X.prog.main.file : Str) == z) = true
  top : (X.prog.main.scope.names.lookup ("super" : Str)).isSome = false
  cl : X.env.cells.lookup ("__class__" : Str) = some cc
  cell : ∃ o, X.K.lookup cc = some o ∧ o.data = .cell (some (.ref C))
  ms : X.mg "super" = none
  n0 : X.N[0]? = some sf
  v0 : Vis X.env.scope sf
  nd : (sf == ("__classdict__" : Str)) = false
def tSup (C : Addr) (sp : Sp) (E : XK) (t : TA) (u : TS) : TS := fun D σ H => ∃ a dx fs, σ[0]? = some (some (.ref a)) ∧ H a = some (.ins C dx fs) ∧ t σ H fun vs H1 => sp (.ref a :: vs) H1 (fun _ H2 => u D σ H2) E
theorem psf_super {X : Cx} {CX : CXT} {k : Nat} {f kd cc C B g : Addr} {sf : Str} {sp : Sp} {E : XK} {body rest : List Stmt} {e : Expr} {es : List Expr} {t : TA} {u : TS} {p0 p1 apos cpos pos : Pos} {pl : Sem Bool} (N : SupX X f kd cc C sf) (S : Sup X.K C B g) (F : FnR X.prog X.w X.K X.mg X.base CX k g sp) (hr : Room k X.A) (hx : Passes CX X E)
    (ha : PA X (e :: es) t) (hrest : PSs X rest u)
    (hst : starEach (e :: es) X.env = (false, eval e X.env) :: starEach es X.env := by rfl) (hpl : (backTo cpos (starEach es X.env)).any (·.1) = false := by rfl) (hi : interactive X.env = false := by rfl)
    (hs : swapsWith (.Call (.Attribute (.Call (.Name "super" p0) [] [] p1) "__init__" apos) (e :: es) [] cpos) none pos.line X.env = pure false := by rfl)
    (hev : eval (.Call (.Attribute (.Call (.Name "super" p0) [] [] p1) "__init__" apos) (e :: es) [] cpos) X.env = (do
      let ov ← attributeBase (.Call (.Name "super" p0) [] [] p1) "__init__" X.env (eval (.Call (.Name "super" p0) [] [] p1) X.env)
      standAt apos.atName
      let (f, first) ← holding [ov] (getMethod ov "__init__" pl)
      callWith cpos f first (backTo cpos (starEach (e :: es) X.env)) []) := by rfl) :
    PSsF X (.func body X.env) (.Expr (.Call (.Attribute (.Call (.Name "super" p0) [] [] p1) "__init__" apos) (e :: es) [] cpos) pos :: rest) (tSup C sp E t u) := by
  refine ⟨fun pins s σ H D I h => ?_⟩
  obtain ⟨a, dx, fs, es0, ea, h⟩ := h
  obtain ⟨of, fd, ar, lf, df, hp, har⟩ := N.fd
  obtain ⟨ok, vs, z, tk, lk, dk, hz, hfile⟩ := N.file
  obtain ⟨oc, lc, dc⟩ := N.cell
  obtain ⟨cC, cB, hC, hB, hm⟩ := S.mro
  subst har
  have KI := I.kIn
  obtain ⟨mA, O, _⟩ := ins_get I.hok ea
  obtain ⟨od, J, _⟩ := O.look
  obtain ⟨m, hn, hl⟩ := I.loc
  obtain ⟨ua, ra, la⟩ := hl 0 ar.arg (.ref a) N.n0 es0 N.v0
  obtain rfl : ua = Value.ref a := ra
  obtain ⟨oC, hC1, hC2⟩ : ∃ o, s.heap.get? C = some o ∧ o.data = .cls cC := by
    have hC' := hC
    unfold PySem.W.clsIn at hC'
    cases q : X.K.lookup C with
    | none =>
      rw [q] at hC'
      cases hC'
    | some o =>
      obtain ⟨b1, b2, d, b4⟩ := o
      rw [q] at hC'
      cases d <;> first | cases hC' | skip
      exact ⟨_, KI _ _ q, rfl⟩
  have aC : a ≠ C := fun q => by
    rw [q, (show H C = none from by
      have hC' := hC
      unfold PySem.W.clsIn at hC'
      cases w : X.K.lookup C with
      | none => rw [w] at hC'; cases hC'
      | some o => exact (I.bs C o (I.mod.kin _ _ w)).2)] at ea
    cases ea
  obtain ⟨og, hg, cg⟩ : ∃ o, s.heap.get? g = some o ∧ o.cls = .type "function" := by
    have w : (X.K.lookup g).map (·.cls) = some (.type "function") := S.ty
    obtain ⟨o, q1, q2⟩ := Option.map_eq_some_iff.mp w
    exact ⟨o, KI _ _ q1, q2⟩
  refine PySem.ks_wpAt_execs_cons (PySem.ks_wpAt_Expr_any (PySem.ks_wpAt_MethodCall (pl := pl) (PySem.ks_wpAt_super_base N.ks N.kc (by decide) N.fu (KI _ _ lf) df hp N.co (KI _ _ lk) dk hz hfile N.top ?_) hev) hi hs)
  have gl : ∀ {Q : Value → Shared → Prop}, Q (.type "super") s → wpAny (model X.prog X.w) X.A (loadName X.env "super") Q X.xe s := fun {Q} q => by
    obtain ⟨mb, b1, b2⟩ := I.mod.blt
    refine PySem.W.ks_loadName_global I.ok.kind N.ks ?_
    exact Calls.loadGlobal_builtin (by rw [I.ok.glob]; exact I.mod.glob.keeps I.bk) N.ms (by rw [I.ok.blt]; exact b1.keeps I.bk) ((b2 "super" (by decide)).trans (by decide +kernel)) q
  refine gl ⟨rfl, ?_⟩
  refine wpAny_loadName_free I.ok.kind N.kc N.cl ⟨oc, KI _ _ lc, dc⟩ ?_
  have self : ∀ {Q : Value → Shared → Prop}, Q (.ref a) s → wpAny (model X.prog X.w) X.A (loadName X.env ar.arg) Q X.xe s := fun {Q} q => by
    rcases la with ⟨hk, hmv⟩ | ⟨hk, c, hc, hcell⟩
    · exact wpAny_loadName_local I.ok.kind hk hn hmv q
    · rcases hk with hk | hk
      · exact wpAny_loadName_cell I.ok.kind hk hc hcell q
      · exact wpAny_loadName_free I.ok.kind hk hc hcell q N.nd
  refine self ?_
  obtain ⟨hh, gg, d, tt, os⟩ := s
  refine PySem.ks_wpAny_isType_cls hC1 hC2 ⟨rfl, ?_⟩
  refine PySem.ks_wpAny_call_super hC1 hC2 J.at_ J.cls (fun c q => by cases q) (PySem.W.looks_mroIn KI S.sub) fun h1 e1 k1 => ?_
  have I1 : Inv X pins σ H ⟨h1, gg, d, tt, os⟩ := I.kept (t' := tt) k1
  refine PySem.ks_wpAny_getMethod_super e1 (PySem.W.looks_opaque I1.kIn S.any) (l₀ := cC.mro) (fun A Q E s k q => wpAny_bind ((PySem.W.looks_clsIn I1.kIn hC) A _ E s k (wpAny_pure q))) rfl I1.kIn (S.along hC) (k1 _ _ hg) cg aC (by decide) ?_
  have I2 : Inv X ((h1.objs.size, PySem.W.methodObj (.ref g) (.ref a)) :: pins) σ H ⟨h1.push (PySem.W.methodObj (.ref g) (.ref a)), gg, d, tt + 1, os⟩ :=
    ClX.pin_new I1 (fun _ _ z => Heap.get?_push_of_some _ z) (Nat.le_refl _) (Heap.get?_push_size h1 rfl) (fun v z => nomatch z)
  refine ClX.callwith_cm (C := a) I2 (ClX.base_none I1 (Nat.le_refl _)) S.fn (thn (ha.run cpos _ _ σ H _ I2 h) fun us s3 ⟨ws, H1, I3, rv, q⟩ => ⟨⟨ClX.pin_at I3, I3.kIn⟩, ?_⟩) hst hpl
  refine thn (ClX.run_cm (C := a) F hr hx I3 rv q) fun v s4 ⟨y, H2, I4, ry, q2⟩ => ?_
  exact PySem.wpAt_of_wpAny (hrest.run pins s4 σ H2 D I4 q2)
/-- a def with the cell of its class -/
abbrev fnOfF (name qual : Str) (params : Arguments) (body : List Stmt) (scope : Scope) (cc : Addr) (dV kV doc pm : Value) (an : Option Addr) (cdv ct : Value) : FuncData :=
  { PySem.W.fnOf name qual params body scope dV kV doc pm an cdv ct with closure := [("__class__", cc)] }
section
variable {CX : CXT} {P : Program} {w : World} {K : PySem.W.Frag} {mg : Str → Option Value} {base : Heap} {k : Nat} {f cc D : Addr} {name qual : Str} {params : Arguments} {body : List Stmt} {scope : Scope} {dV kV doc pm cdv ct oc : Value} {an od : Option Addr} {osl : Array (Option Value)} {ocell : Obj} {N ps : List Str} {sp : Sp}
theorem fnF (lk : K.lookup f = some ⟨oc, od, .func (fnOfF name qual params body scope cc dV kV doc pm an cdv ct), osl⟩) (hcd : PySem.W.codeIn K cdv qual = true) (S : FnScopeF N ps scope) (lc : K.lookup cc = some ocell) (dc : ocell.data = .cell (some (.ref D))) (len : ∀ vs H Q E, sp vs H Q E → vs.length = ps.length)
    (hbody : ∀ (A : Around) (outer : List Env) (s : Shared) (H : Hp) (vs : List V) (Q : VK) (E : XK), Room k (A.deeper (envF qual scope s.heap.objs.size f cdv [("__class__", cc)])) → sp vs H Q E →
      ∃ t, PSsF (cxF CX P w K mg base N qual scope f cdv cc A outer s H E) (.func body (envF qual scope s.heap.objs.size f cdv [("__class__", cc)])) body t ∧ t { nx := fun _ H' => Q .non H', rt := Q } (L2.start N vs) H) :
    FnOk P w K mg base CX (k + 1) f (fnOfF name qual params body scope cc dV kV doc pm an cdv ct) ps sp := by
  refine ⟨len, fun A outer s H args us vs Q E hr e0 hb r hsp => ?_⟩
  have inK : K.In s.heap := e0.mod.kin.keeps fun b o e => (e0.bs b o e).1
  have noL : s.heap.NoLimit := e0.mod.nolimit.keeps fun b o e => (e0.bs b o e).1
  have kinds : ∀ b ∈ ps.zip us, scope.names.lookup b.1 = some .local ∨ (scope.names.lookup b.1 = some .cell ∧ ((cellsFrom (s.heap.objs.size + 1) scope.names []).lookup b.1).isSome = true) := fun b hb => by
    rcases S.par b.1 (List.of_mem_zip hb).1 with q | q
    · exact .inl q
    · exact .inr ⟨q, PySem.W.cellsFrom_some _ _ _ (.inl q)⟩
  refine codeAny_call_function hr.depth (inK _ _ lk) rfl S.co S.gen rfl (PySem.W.codeRec_of inK hcd) (hb _ _ _ _ ?_)
  refine frameF S.kind kinds fun s1 x => ⟨noL.keeps x.toInCall.keep, PySem.ks_codeAny_funcAt ?_⟩
  obtain ⟨t, ht, q⟩ := hbody A outer s H vs Q E (hr.deeper _) hsp
  have I := invF_start (CX := CX) (E := E) (P := P) (w := w) (mg := mg) (base := base) S hr.hd e0 (len _ _ _ _ hsp) r lc dc x
  refine PySem.wpAt_mono (ht.run [] s1 (L2.start N vs) H _ I q) (fun fl s' z => ?_) fun e s' z => z
  cases fl with
  | next =>
    obtain ⟨σ', H', J, z⟩ := z
    exact ⟨.non, H', J.os, J.bare, J.base, J.hok, rfl, z⟩
  | ret u =>
    obtain ⟨v, σ', H', J, rv, z⟩ := z
    exact ⟨v, H', J.os, J.bare, J.base, J.hok, rv, z⟩
  | brk =>
    obtain ⟨_, _, _, z⟩ := z
    exact z.elim
  | cont =>
    obtain ⟨_, _, _, z⟩ := z
    exact z.elim
end
end Wf
/-! what is shown of (letters, rows, marks) tells them -/
namespace Wf
open PySem L2
/-- , or ] or ) -/
def Dl (a : List Nat) : Prop := ∃ c r, a = c :: r ∧ (c = 44 ∨ c = 93 ∨ c = 41)
/-- what is shown begins with no such sign, and tells where it ends -/
structure Cut {α : Type} (tok : α → List Nat) (g : α → Prop) : Prop where
  cut : ∀ x y a b, g x → g y → Dl a → Dl b → tok x ++ a = tok y ++ b → x = y ∧ a = b
  hd : ∀ x, g x → ∃ c r, tok x = c :: r ∧ c ≠ 44 ∧ c ≠ 93 ∧ c ≠ 41
/-- signs that are none of the three -/
theorem flat_cut : ∀ {u v a b : List Nat}, (∀ c ∈ u, c ≠ 44 ∧ c ≠ 93 ∧ c ≠ 41) → (∀ c ∈ v, c ≠ 44 ∧ c ≠ 93 ∧ c ≠ 41) → Dl a → Dl b → u ++ a = v ++ b → u = v ∧ a = b
  | [], [], _, _, _, _, _, _, h => ⟨rfl, h⟩
  | [], y :: v, a, b, _, hv, ⟨c, r, ea, hc⟩, _, h => by
    rw [ea] at h
    have e : c = y := (List.cons.inj h).1
    have := hv y List.mem_cons_self
    omega
  | x :: u, [], a, b, hu, _, _, ⟨c, r, eb, hc⟩, h => by
    rw [eb] at h
    have e : x = c := (List.cons.inj h).1
    have := hu x List.mem_cons_self
    omega
  | x :: u, y :: v, a, b, hu, hv, da, db, h => by
    obtain ⟨e1, e2⟩ := List.cons.inj h
    obtain ⟨e3, e4⟩ := flat_cut (fun c hc => hu c (List.mem_cons_of_mem _ hc)) (fun c hc => hv c (List.mem_cons_of_mem _ hc)) da db e2
    exact ⟨by rw [e1, e3], e4⟩
theorem cut_flat {α : Type} {tok : α → List Nat} {g : α → Prop} (inj : ∀ x y, g x → g y → tok x = tok y → x = y) (ne : ∀ x, g x → tok x ≠ []) (no : ∀ x, g x → ∀ c ∈ tok x, c ≠ 44 ∧ c ≠ 93 ∧ c ≠ 41) : Cut tok g := by
  refine ⟨fun x y a b gx gy da db h => ?_, fun x gx => ?_⟩
  · obtain ⟨e1, e2⟩ := flat_cut (no x gx) (no y gy) da db h
    exact ⟨inj x y gx gy e1, e2⟩
  · cases q : tok x with
    | nil => exact absurd q (ne x gx)
    | cons c r => exact ⟨c, r, rfl, no x gx c (by rw [q]; exact List.mem_cons_self)⟩
/-- the items behind the first -/
def encT {α : Type} (tok : α → List Nat) (xs : List α) : List Nat := xs.flatMap fun x => 44 :: 32 :: tok x
def innT {α : Type} (tok : α → List Nat) : List α → List Nat
  | [] => []
  | x :: xs => tok x ++ encT tok xs
def lstT {α : Type} (tok : α → List Nat) (xs : List α) : List Nat := 91 :: (innT tok xs ++ [93])
section
variable {α : Type} {tok : α → List Nat} {g : α → Prop}
theorem encT_dl {xs : List α} {a : List Nat} : Dl (encT tok xs ++ 93 :: a) := by
  cases xs with
  | nil => exact ⟨93, a, rfl, .inr (.inl rfl)⟩
  | cons x xs =>
    unfold encT
    rw [List.flatMap_cons]
    exact ⟨44, _, rfl, .inl rfl⟩
theorem encT_cut (C : Cut tok g) : ∀ {xs ys : List α} {a b : List Nat}, (∀ x ∈ xs, g x) → (∀ y ∈ ys, g y) → encT tok xs ++ 93 :: a = encT tok ys ++ 93 :: b → xs = ys ∧ a = b
  | [], [], _, _, _, _, h => ⟨rfl, (List.cons.inj h).2⟩
  | [], y :: ys, _, _, _, _, h => by
    unfold encT at h
    rw [List.flatMap_cons] at h
    exact absurd (List.cons.inj h).1 (by decide)
  | x :: xs, [], _, _, _, _, h => by
    unfold encT at h
    rw [List.flatMap_cons] at h
    exact absurd (List.cons.inj h).1 (by decide)
  | x :: xs, y :: ys, a, b, hx, hy, h => by
    have ex : ∀ w ws, encT tok (w :: ws) = 44 :: 32 :: (tok w ++ encT tok ws) := fun w ws => by
      unfold encT
      rw [List.flatMap_cons]
      rfl
    rw [ex, ex] at h
    have h2 : (tok x ++ encT tok xs) ++ 93 :: a = (tok y ++ encT tok ys) ++ 93 :: b := (List.cons.inj (List.cons.inj h).2).2
    rw [List.append_assoc, List.append_assoc] at h2
    obtain ⟨e1, e2⟩ := C.cut x y _ _ (hx x List.mem_cons_self) (hy y List.mem_cons_self) encT_dl encT_dl h2
    obtain ⟨e3, e4⟩ := encT_cut C (fun w hw => hx w (List.mem_cons_of_mem _ hw)) (fun w hw => hy w (List.mem_cons_of_mem _ hw)) e2
    exact ⟨by rw [e1, e3], e4⟩
theorem innT_cut (C : Cut tok g) : ∀ {xs ys : List α} {a b : List Nat}, (∀ x ∈ xs, g x) → (∀ y ∈ ys, g y) → innT tok xs ++ 93 :: a = innT tok ys ++ 93 :: b → xs = ys ∧ a = b
  | [], [], _, _, _, _, h => ⟨rfl, (List.cons.inj h).2⟩
  | [], y :: ys, a, b, _, hy, h => by
    obtain ⟨c, r, e, _, n, _⟩ := C.hd y (hy y List.mem_cons_self)
    have h : 93 :: a = (tok y ++ encT tok ys) ++ 93 :: b := h
    rw [e] at h
    exact absurd (List.cons.inj h).1.symm n
  | x :: xs, [], a, b, hx, _, h => by
    obtain ⟨c, r, e, _, n, _⟩ := C.hd x (hx x List.mem_cons_self)
    have h : (tok x ++ encT tok xs) ++ 93 :: a = 93 :: b := h
    rw [e] at h
    exact absurd (List.cons.inj h).1 n
  | x :: xs, y :: ys, a, b, hx, hy, h => by
    unfold innT at h
    rw [List.append_assoc, List.append_assoc] at h
    obtain ⟨e1, e2⟩ := C.cut x y _ _ (hx x List.mem_cons_self) (hy y List.mem_cons_self) encT_dl encT_dl h
    obtain ⟨e3, e4⟩ := encT_cut C (fun w hw => hx w (List.mem_cons_of_mem _ hw)) (fun w hw => hy w (List.mem_cons_of_mem _ hw)) e2
    exact ⟨by rw [e1, e3], e4⟩
theorem cut_list (C : Cut tok g) : Cut (lstT tok) (fun xs => ∀ x ∈ xs, g x) := by
  refine ⟨fun xs ys a b gx gy _ _ h => ?_, fun xs _ => ⟨91, _, rfl, by decide, by decide, by decide⟩⟩
  unfold lstT at h
  have h2 : (innT tok xs ++ [93]) ++ a = (innT tok ys ++ [93]) ++ b := (List.cons.inj h).2
  rw [List.append_assoc, List.append_assoc] at h2
  exact innT_cut C gx gy h2
end
/-! ### the kinds of items -/
def tokO : Option Nat → List Nat
  | none => sgs (PyData.shown .none)
  | some n => sgs (PyData.shown (.int (n : Int)))
def tokB : Option Bool → List Nat
  | none => sgs (PyData.shown .none)
  | some b => sgs (PyData.shown (.bool b))
def noSep (l : List Nat) : Bool := !l.isEmpty && l.all fun c => c != 44 && c != 93 && c != 41
theorem noSep_of {l : List Nat} (h : noSep l = true) : l ≠ [] ∧ ∀ c ∈ l, c ≠ 44 ∧ c ≠ 93 ∧ c ≠ 41 := by
  unfold noSep at h
  rw [Bool.and_eq_true] at h
  refine ⟨fun e => by rw [e] at h; exact absurd h.1 (by decide), fun c hc => ?_⟩
  have := List.all_eq_true.mp h.2 c hc
  simp only [Bool.and_eq_true, bne_iff_ne] at this
  exact ⟨this.1.1, this.1.2, this.2⟩
def allO : List (Option Nat) := none :: (List.range 100).map some
theorem allO_mem {o : Option Nat} (h : ∀ n, o = some n → n < 100) : o ∈ allO := by
  cases o with
  | none => exact List.mem_cons_self
  | some n => exact List.mem_cons_of_mem _ (List.mem_map.mpr ⟨n, List.mem_range.mpr (h n rfl), rfl⟩)
theorem tokO_nd : (allO.map tokO).Nodup := by decide +kernel
theorem tokO_ok : (allO.map tokO).all noSep = true := by decide +kernel
theorem inj_of_nodup {α β : Type} {f : α → β} : ∀ {l : List α}, (l.map f).Nodup → ∀ x ∈ l, ∀ y ∈ l, f x = f y → x = y
  | [], _, x, hx, _, _, _ => absurd hx List.not_mem_nil
  | z :: l, nd, x, hx, y, hy, e => by
    rw [List.map_cons] at nd
    obtain ⟨n1, n2⟩ := List.nodup_cons.mp nd
    rcases List.mem_cons.mp hx with ex | lx <;> rcases List.mem_cons.mp hy with ey | ly
    · rw [ex, ey]
    · rw [ex] at e
      exact absurd (List.mem_map.mpr ⟨y, ly, e.symm⟩) n1
    · rw [ey] at e
      exact absurd (List.mem_map.mpr ⟨x, lx, e⟩) n1
    · exact inj_of_nodup n2 x lx y ly e
/-- a number below a hundred, or none -/
def SmO (o : Option Nat) : Prop := ∀ n, o = some n → n < 100
theorem cutO : Cut tokO SmO := cut_flat (fun x y gx gy e => inj_of_nodup tokO_nd x (allO_mem gx) y (allO_mem gy) e) (fun x gx => (noSep_of (List.all_eq_true.mp tokO_ok _ (List.mem_map.mpr ⟨x, allO_mem gx, rfl⟩))).1) (fun x gx => (noSep_of (List.all_eq_true.mp tokO_ok _ (List.mem_map.mpr ⟨x, allO_mem gx, rfl⟩))).2)
theorem cutB : Cut tokB (fun _ => True) := by
  have nd : (([none, some true, some false] : List (Option Bool)).map tokB).Nodup := by decide +kernel
  have ok : (([none, some true, some false] : List (Option Bool)).map tokB).all noSep = true := by decide +kernel
  have m : ∀ o : Option Bool, o ∈ ([none, some true, some false] : List (Option Bool)) := fun o => by
    cases o with
    | none => exact List.mem_cons_self
    | some b => cases b <;> simp
  exact cut_flat (fun x y _ _ e => inj_of_nodup nd x (m x) y (m y) e) (fun x _ => (noSep_of (List.all_eq_true.mp ok _ (List.mem_map.mpr ⟨x, m x, rfl⟩))).1) (fun x _ => (noSep_of (List.all_eq_true.mp ok _ (List.mem_map.mpr ⟨x, m x, rfl⟩))).2)
end Wf
/-! methods that may raise -/
namespace Wf
open PySem PySem.Spec PyProof.Rows L2
structure MtX (P : Program) (w : World) (K : PySem.W.Frag) (mg : Str → Option Value) (base : Heap) (k : Nat) (C : Addr) (x : Str) (ps : List Str) (sp : Sp) : Prop where
  ex : ∃ (g : Addr) (fd : FuncData), Meth K C x g ∧ FnOk P w K mg base (L2.CX P w) k g fd ps sp ∧ Binds K fd ps []
def tMethX (C : Addr) (m : Str) (sp : Sp) (E : L2.St → XK) (ta : TE) (t : TA) : TE := fun σ H Q => ta σ H fun x H1 => ∃ a dx fs, x = .ref a ∧ H1 a = some (.ins C dx fs) ∧ fs.lookup m = none ∧ t σ H1 fun vs H2 => sp (.ref a :: vs) H2 Q (E σ)
section
variable {X : Cx} {C : Addr} {x : Str} {k : Nat} {ps : List Str} {sp : Sp} {W : WX} {E : XK} {e o : Expr} {es : List Expr} {pos apos : Pos} {ta : TE} {t : TA} {pl : Sem Bool}
/-- in a def that may raise the same -/
theorem pe_mtX (N : MtX X.prog X.w X.K X.mg X.base k C x ps sp) (cl : Cls X.K C) (hr : Room k X.A) (tk : Takes X W) (he : PE X o ta) (ha : PA X (e :: es) t)
    (ht : eval (.Call (.Attribute o x apos) (e :: es) [] pos) X.env = (do
      let ov ← eval o X.env
      standAt apos.atName
      let (f, first) ← holding [ov] (getMethod ov x pl)
      callWith pos f first (backTo pos (starEach (e :: es) X.env)) (backToKw pos (keywordEach [] X.env))) := by rfl)
    (hst : starEach (e :: es) X.env = (false, eval e X.env) :: starEach es X.env := by rfl) (hpl : (backTo pos (starEach es X.env)).any (·.1) = false := by rfl) : PE X (.Call (.Attribute o x apos) (e :: es) [] pos) (tMethX C x sp (WE W) ta t) := by
  obtain ⟨g, fd, hm, F, hb⟩ := N.ex
  refine ⟨fun pins s σ H Q I h => ?_⟩
  refine PySem.W.methodCall_KW (pl := pl) (thn (he.run pins s σ H _ I h) fun u s1 ⟨y, H1, I1, rx, a, dx, fs, ex, ea, l, q⟩ => ?_) ht
  subst ex
  obtain rfl : u = Value.ref a := rx
  refine getmeth_ok I1 ea cl hm l ?_
  refine PySem.W.callWith_K (first := [.ref a]) (h₀ := X.base) I.ok.mod.kin hm.kp (thn (ha.run pos pins s1 σ H1 _ I1 q) fun us s2 ⟨vs, H2, I2, r, q2⟩ => ⟨I2.kIn, ?_⟩) hst hpl
  exact run_fnS (E := WE W) (us := .ref a :: us) (vs := .ref a :: vs) F hr hb (passAt tk σ) I2 (.cons rfl r) q2
/-- where nothing is raised -/
theorem pe_mtN (N : MtX X.prog X.w X.K X.mg X.base k C x ps sp) (cl : Cls X.K C) (hr : Room k X.A) (hx : Passes (L2.CX X.prog X.w) X E) (he : PE X o ta) (ha : PA X (e :: es) t)
    (ht : eval (.Call (.Attribute o x apos) (e :: es) [] pos) X.env = (do
      let ov ← eval o X.env
      standAt apos.atName
      let (f, first) ← holding [ov] (getMethod ov x pl)
      callWith pos f first (backTo pos (starEach (e :: es) X.env)) (backToKw pos (keywordEach [] X.env))) := by rfl)
    (hst : starEach (e :: es) X.env = (false, eval e X.env) :: starEach es X.env := by rfl) (hpl : (backTo pos (starEach es X.env)).any (·.1) = false := by rfl) : PE X (.Call (.Attribute o x apos) (e :: es) [] pos) (tMeth C x sp [] E ta t) :=
  let ⟨_, _, hm, F, hb⟩ := N.ex
  pe_meth he cl hm F hr hb .nil hx ha hst hpl ht
end
end Wf
/-! a step taken again and again: from the value that comes again on, the same values are passed in turn -/
namespace Wf
open PySem L2
section
variable {α : Type} {f : α → α} {s : α}
def itr (f : α → α) (s : α) : Nat → α
  | 0 => s
  | n + 1 => f (itr f s n)
theorem itr_add {a : Nat} : ∀ {b : Nat}, itr f s (a + b) = itr f (itr f s a) b
  | 0 => rfl
  | b + 1 => by
    show f (itr f s (a + b)) = f (itr f (itr f s a) b)
    rw [itr_add]
theorem itr_per {i k t : Nat} (h : itr f s k = itr f s i) (l : i ≤ k) (ht : i ≤ t) : itr f s (t + (k - i)) = itr f s t := by
  have e1 : t + (k - i) = k + (t - i) := by omega
  have e2 : t = i + (t - i) := by omega
  rw [e1, itr_add, h, ← itr_add, ← e2]
theorem itr_many {i k t : Nat} (h : itr f s k = itr f s i) (l : i ≤ k) (ht : i ≤ t) : ∀ q : Nat, itr f s (t + q * (k - i)) = itr f s t
  | 0 => by rw [Nat.zero_mul, Nat.add_zero]
  | q + 1 => by
    rw [Nat.succ_mul, ← Nat.add_assoc, itr_per h l (by omega), itr_many h l ht q]
theorem itr_mod {i k t : Nat} (h : itr f s k = itr f s i) (l : i < k) (ht : i ≤ t) : itr f s t = itr f s (i + (t - i) % (k - i)) := by
  have e := Nat.mod_add_div (t - i) (k - i)
  have e1 : t = (i + (t - i) % (k - i)) + (t - i) / (k - i) * (k - i) := by
    rw [Nat.mul_comm ((t - i) / (k - i))]
    omega
  have e2 := itr_many (t := i + (t - i) % (k - i)) h (Nat.le_of_lt l) (by omega) ((t - i) / (k - i))
  rw [← e1] at e2
  exact e2
/-- the values passed before the k-th -/
def passed (f : α → α) (s : α) (k : Nat) : List α := (List.range k).map (itr f s)
theorem passed_succ {k : Nat} : passed f s (k + 1) = passed f s k ++ [itr f s k] := by
  unfold passed
  rw [List.range_succ, List.map_append]
  rfl
theorem passed_at {k j : Nat} (h : j < k) : (passed f s k)[j]? = some (itr f s j) := by
  unfold passed
  rw [List.getElem?_map, List.getElem?_eq_getElem (by rw [List.length_range]; exact h), List.getElem_range]
  rfl
theorem passed_len {k : Nat} : (passed f s k).length = k := by
  unfold passed
  rw [List.length_map, List.length_range]
theorem passed_nodup {k : Nat} (h : (passed f s k).Nodup) (n : itr f s k ∉ passed f s k) : (passed f s (k + 1)).Nodup := by
  rw [passed_succ]
  exact List.nodup_append.mpr ⟨h, List.nodup_cons.mpr ⟨List.not_mem_nil, List.nodup_nil⟩, fun a ha b hb e => n (by rw [← List.mem_singleton.mp hb, ← e]; exact ha)⟩
theorem passed_mem {k : Nat} {x : α} : x ∈ passed f s k ↔ ∃ j, j < k ∧ itr f s j = x := by
  unfold passed
  rw [List.mem_map]
  exact ⟨fun ⟨j, hj, e⟩ => ⟨j, List.mem_range.mp hj, e⟩, fun ⟨j, hj, e⟩ => ⟨j, List.mem_range.mpr hj, e⟩⟩
end
/-- no more different values than there are -/
theorem passed_few {f : Option Nat → Option Nat} {s : Option Nat} {n k : Nat} (h : (passed f s k).Nodup) (r : ∀ j, ∀ m, itr f s j = some m → m < n) : k ≤ n + 1 := by
  have e := nodup_sub (ys := passed f s k) (ws := none :: (List.range n).map some) h fun y hy => by
    obtain ⟨j, _, rfl⟩ := passed_mem.mp hy
    cases q : itr f s j with
    | none => exact List.mem_cons_self
    | some m => exact List.mem_cons_of_mem _ (List.mem_map.mpr ⟨m, List.mem_range.mpr (r j m q), rfl⟩)
  rw [passed_len, List.length_cons, List.length_map, List.length_range] at e
  exact e
end Wf
/-! a word repeated leads where its step, repeated, leads -/
namespace Wf
open PySem L2
section
variable {zs : List Nat} {tb : List (List (Option Nat))}
theorem led_app {s : Option Nat} {a b : List Nat} : ledTo zs tb s (a ++ b) = ledTo zs tb (ledTo zs tb s a) b := by
  unfold ledTo
  exact List.foldl_append
theorem itr_step {α : Type} {f : α → α} {s : α} {n : Nat} : itr f (f s) n = itr f s (n + 1) := by
  rw [Nat.add_comm, itr_add]
  rfl
theorem led_rep {cs : List Nat} : ∀ {n : Nat} {s : Option Nat}, ledTo zs tb s (List.replicate n cs).flatten = itr (fun s => ledTo zs tb s cs) s n
  | 0, _ => rfl
  | n + 1, s => by
    rw [List.replicate_succ, List.flatten_cons, led_app, led_rep, itr_step (f := fun s => ledTo zs tb s cs)]
/-- repeated and repeated again -/
theorem itr_itr {α : Type} {f : α → α} {s : α} {m : Nat} : ∀ {n : Nat}, itr (fun x => itr f x m) s n = itr f s (n * m)
  | 0 => by rw [Nat.zero_mul]; rfl
  | n + 1 => by
    show itr f (itr (fun x => itr f x m) s n) m = _
    rw [itr_itr, ← itr_add, Nat.succ_mul]
end
end Wf
/-! N1: a `for` in a generator's body, with yields in it. -/
namespace L2
open PySem PySem.Spec PyProof.Rows GenW

def tGFor (wi : TI) (g : TG) (tb : TGn) : TGn := fun D ys σ H => wi σ H fun J H1 => ∃ W : Nat → Nat → List V → St → Hp → Prop, (∃ m, W 0 m ys σ H1) ∧ ∀ i m ys σ H, W i m ys σ H →
  (J.stop i H ∧ D.nx ys σ H) ∨ (J.go i H ∧ ∃ N : List V → St → Hp → Prop, (∀ ys' σ' H', N ys' σ' H' → ∃ m', m' < m ∧ W (i + 1) m' ys' σ' H') ∧
    ∀ x H', J.yld i H x H' → g x σ H' fun σ2 H2 => tb { D with nx := N, ct := N, bk := D.nx } ys σ2 H2)

theorem seg_runOwn {M : Model} {A : Around} {R : GenEnd} {Y : Protocol} {n : Nat} {s₀ : Shared} {c c' : Code} {fs : List Frame} {s : Shared} {env : Env} {K : Flow → Sem PySem.Fin} {J : Value → Sem PySem.Fin} {gd : Bool → Bool} {lv : List Value → List Value}
    (h : ∀ p, Seg M A R Y n s₀ c' (M.den c') (.ret (fun r => ((match r with | .ok f => (.pure f : Sem Flow) | .error e => .raise e).onRaise (cameBack env)).wrap K J gd lv) none (gd false) (lv []) c p [] :: fs) s) :
    Seg M A R Y n s₀ c ((runOwn c' env).wrap K J gd lv) fs s := seg_call h

section
variable {X : Cx}
theorem gs_for {tg iter : Expr} {body : List Stmt} {wi : TI} {g : TG} {tb : TGn} {pos : Pos} (hp : PassesOwn (model X.prog X.w) X.A X.env X.xe) (hc : X.calm = true) (hi : PI X tg iter wi) (hg : PG X tg g) (hb : GSs X body tb)
    (hs : ∀ x, foldedSetIterable iter X.env x = pure x := by intro _; rfl) : GS X (.For tg iter body [] pos) (tGFor wi g tb) := by
  refine ⟨fun A S ip R n ys s₀ c fs K J gd lv s σ H D gc hn k hI ht => ?_⟩
  obtain ⟨acc, cc, r, I⟩ := hI
  rw [exec_For]
  refine seg_bind_wrap (wpAny_standAt ?_)
  refine seg_bind_wrap ?_
  rw [gc.over]
  refine wpAny_mono (hi.run _ s σ H _ I ht) (fun v s1 h1 => ?_) fun x s' hx => k.exc n s₀ x s' hx
  rw [hs v]
  refine seg_bind_wrap (wpAny_pure ?_)
  refine seg_bind_wrap (wpAny_standAt ?_)
  refine seg_bind_wrap (wpAny_holding ?_)
  rw [gc.over]
  refine wpAny_mono h1 (fun itv s2 h2 => ?_) fun x s' hx => k.exc n s₀ x s' hx
  obtain ⟨it, fp, tn, Jt, H2, e, I2, T, st2, f2, W, ⟨m0, w0⟩, turn⟩ := h2
  subst e
  refine seg_runOwn fun p => ?_
  have gl := fun (kk : Result → Sem PySem.Fin) => gc_loop (k := kk) (c' := .forLoop tg (.ref it) body [] X.env) (l := lv []) (kp := []) (p := p) gc rfl rfl
  have stat : ∀ {acc : Array Value} {cc : Nat} {H' : Hp}, (∀ b ∈ fp, H' b = none) → ∀ b ∈ fp, FpOk X ((S, lstObj acc cc) :: ip) H' b := fun {acc cc H'} hn b hb => by
    obtain ⟨q1, q2, q3, q4, q5, q6⟩ := f2 b hb
    refine ⟨hn b hb, q2, q3, q4, q5, fun q hq => ?_⟩
    rcases List.mem_append.mp hq with z | z
    · exact q6 q (List.mem_append_left _ z)
    · rcases List.mem_cons.mp z with z | z
      · rw [z]; have q7 := q6 _ (List.mem_append_right _ List.mem_cons_self); exact q7
      · exact q6 q (List.mem_append_right _ (List.mem_cons_of_mem _ z))
  have apS : ∀ b ∈ fp, b ≠ S := fun b hb z => by
    obtain ⟨_, _, _, _, _, q6⟩ := f2 b hb
    exact q6 _ (List.mem_append_right _ List.mem_cons_self) z.symm
  have loop : ∀ (m n : Nat) (i : Nat) (ys : List V) (s₀ s : Shared) (σ : St) (H : Hp), n + ys.length = sizeLine → W i m ys σ H → GI X S ip ys σ H s → tn i s.heap → (∀ b ∈ fp, H b = none) →
      Seg (model X.prog X.w) A R (GY X S) n s₀ (.forLoop tg (.ref it) body [] X.env) ((model X.prog X.w).den (.forLoop tg (.ref it) body [] X.env))
        (.ret (fun r => ((match r with | .ok f => (.pure f : Sem Flow) | .error e => .raise e).onRaise (cameBack X.env)).wrap K J gd lv) none (gd false) (lv []) c p [] :: fs) s := by
    intro m
    induction m using Nat.strongRecOn with
    | ind m ih =>
      intro n i ys s₀ s3 σ3 H3 hn w3 hI st3 fr3
      have ee : ∀ (n : Nat) (s₀ : Shared) (x : Value) (s' : Shared), X.xe x s' → Seg (model X.prog X.w) A R (GY X S) n s₀ (.forLoop tg (.ref it) body [] X.env)
          ((do noteFrame x X.env; theTreesLotGoes x : Sem Unit).wrap (fun _ => .raise x) .raise id id)
          (.ret (fun r => ((match r with | .ok f => (.pure f : Sem Flow) | .error e => .raise e).onRaise (cameBack X.env)).wrap K J gd lv) none (gd false) (lv []) c p [] :: fs) s' := fun n s₀ x s' hx => by
        refine seg_wrap ?_
        rw [(gl _).over]
        refine wpAny_bind (wpAny_mono (hp x s' hx) (fun _ s'' hcb => wpAny_theTreesLotGoes ?_) fun y s'' hcb => ?_)
        · exact seg_leaf (.error x) (seg_cameBack gc k hcb)
        · exact seg_leaf (.error y) (seg_cameBack gc k hcb)
      obtain ⟨acc, cc, r, I3⟩ := hI
      show Seg _ A R _ n s₀ _ ((forTurn tg (.ref it) body [] X.env).onRaise (fun x => do noteFrame x X.env; theTreesLotGoes x)) _ s3
      unfold forTurn
      rw [Sem.onRaise_eq_wrap]
      simp only [Sem.bind_eq_wrap]
      refine seg_bind_wrap (wpAny_standAt ?_)
      refine seg_bind_wrap (wpAny_onRaise ?_)
      rw [(gl _).over]
      rcases turn i m ys σ3 H3 w3 with ⟨stop, qn⟩ | ⟨go, N, hN, step⟩
      · refine wpAny_mono (T.done X rfl rfl rfl hc i _ s3 σ3 H3 X.xe I3 (stat fr3) st3 stop) (fun r s4 ⟨hr, I4⟩ => ?_) fun x s' hx => wpAny_standAt (ee n s₀ x s' hx)
        subst hr
        show Seg _ A R _ n s₀ _ (.pure (.again (.block [] X.env))) _ s4
        refine seg_again rfl ?_
        exact seg_leaf (.ok .next) (k.ok n ys s₀ s4 .next hn ⟨σ3, H3, ⟨acc, cc, r, I4⟩, qn⟩)
      · refine wpAny_mono (T.item X rfl rfl rfl hc i _ s3 σ3 H3 X.xe I3 (stat fr3) st3 go) (fun r s4 ⟨u, hr, h4⟩ => ?_) fun x s' hx => wpAny_standAt (ee n s₀ x s' hx)
        subst hr
        refine seg_bind_wrap ?_
        rw [(gl _).over]
        refine wpAny_mono h4 (fun _ s5 ⟨x, H5, I5, r5, y5, st5, fr5⟩ => ?_) fun x s' hx => ee n s₀ x s' hx
        have I5' := I5.pinned (stat fr5) (T.obj _ _ st5)
        refine seg_bind_wrap ?_
        rw [(gl _).over]
        refine wpAny_mono (hg.run _ s5 σ3 H5 x u _ I5' r5 (step x H5 y5)) (fun _ s6 ⟨σ6, H6, I6, q6⟩ => ?_) fun x s' hx => ee n s₀ x s' hx
        rw [Sem.bind_eq_wrap', Sem.wrap_wrap]
        have gc2 : ∀ kk, GC X S (ip ++ pinsAt fp s5.heap) A (.forLoop tg (.ref it) body [] X.env) (.ret kk none (gd false) (lv []) c p [] :: fs) id := fun kk => by
          obtain ⟨z1, z2, z3, z4, z5, z6, z7⟩ := gl kk
          refine ⟨z1, fun q hq => ?_, z3, z4, z5, z6, z7⟩
          rcases List.mem_append.mp hq with z | z
          · exact z2 q z
          · exact apS q.1 (of_pinsAt z).1
        have back : ∀ {ys' : List V} {σ' : St} {H' : Hp} {s' : Shared}, GI X S (ip ++ pinsAt fp s5.heap) ys' σ' H' s' → GI X S ip ys' σ' H' s' ∧ tn (i + 1) s'.heap ∧ ∀ b ∈ fp, H' b = none := fun {ys' σ' H' s'} hI' => by
          obtain ⟨acc', cc', r', I'⟩ := hI'
          refine ⟨⟨acc', cc', r', Inv.unpinned (pins := (S, lstObj acc' cc') :: ip) I'⟩, T.keep _ _ _ st5 fun b hb o e => ?_, fun b hb => ?_⟩
          · exact (I'.pin (b, o) (List.mem_append_right _ (List.mem_cons_of_mem _ (List.mem_append_right _ (mem_pinsAt hb e))))).1
          · obtain ⟨o, e, d⟩ := T.obj _ _ st5 b hb
            exact (I'.pin (b, o) (List.mem_append_right _ (List.mem_cons_of_mem _ (List.mem_append_right _ (mem_pinsAt hb e))))).2.1
        refine hb.run A S (ip ++ pinsAt fp s5.heap) R n ys s₀ _ _ _ _ _ _ s6 σ6 H6 { D with nx := N, ct := N, bk := D.nx } (gc2 _) hn ⟨fun n' ys' s₀' s7 f hn' hs' => ?_, fun n' s₀' x s7 hx => ?_⟩ ⟨acc, cc, r, I6⟩ q6
        · cases f with
          | next =>
            obtain ⟨σ7, H7, I7, n7⟩ := hs'
            obtain ⟨m', hm, w7⟩ := hN ys' σ7 H7 n7
            obtain ⟨b1, b2, b3⟩ := back I7
            exact seg_again rfl (ih m' hm n' (i + 1) ys' s₀' s7 σ7 H7 hn' w7 b1 b2 b3)
          | cont =>
            obtain ⟨σ7, H7, I7, n7⟩ := hs'
            obtain ⟨m', hm, w7⟩ := hN ys' σ7 H7 n7
            obtain ⟨b1, b2, b3⟩ := back I7
            exact seg_again rfl (ih m' hm n' (i + 1) ys' s₀' s7 σ7 H7 hn' w7 b1 b2 b3)
          | brk =>
            obtain ⟨σ7, H7, I7, n7⟩ := hs'
            exact seg_leaf (.ok .next) (k.ok n' ys' s₀' s7 .next hn' ⟨σ7, H7, (back I7).1, n7⟩)
          | ret u =>
            obtain ⟨v7, σ7, H7, I7, r7, n7⟩ := hs'
            exact seg_leaf (.ok (.ret u)) (k.ok n' ys' s₀' s7 (.ret u) hn' ⟨v7, σ7, H7, (back I7).1, r7, n7⟩)
        · exact ee n' s₀' x s7 hx
  exact loop m0 n 0 ys s₀ s2 σ H2 hn w0 (by exact ⟨acc, cc, r, I2⟩) st2 (fun b hb => (f2 b hb).1)
end
end L2
/-! N2: generators of the text; properties and methods where an object is of one of several classes. -/
namespace Wf
open PySem PySem.Spec PyProof.Rows L2
section
variable {P : Program} {w : World} {K : PySem.W.Frag} {mg : Str → Option Value} {base : Heap}
/-- a generator def of the text -/
theorem Fun.gen {x qual : Str} {st : Stmt} {f : Addr} {fd : FuncData} {N ps : List Str} {k : Nat} {sp : SpG} (F : Fun K x qual st f fd) (S : GScope N ps (defScope st)) (len : ∀ vs H Q E, sp vs H Q E → vs.length = ps.length)
    (hbody : ∀ (cdv : Value) (A : Around) (outer : List Env) (s : Shared) (H : Hp) (vs : List V) (Q : List V → Hp → Prop) (E : XK) (pn : List (Addr × Obj)), Room k (A.deeper (envOfC qual (defScope st) s.heap.objs.size f cdv)) → sp vs H Q E →
      ∃ t, GSs (gcxOf P w K mg base N qual (defScope st) f cdv A outer s H E pn) (defBody st) t ∧ t { nx := fun ys _ H' => Q ys H', rt := fun ys v H' => v = .non ∧ Q ys H' } [] (start N vs) H) : GFn P w K mg base (k + 1) f fd ps sp := by
  obtain ⟨oc, od, kV, doc, pm, an, cdv, ct, osl, rfl, lk, hcd⟩ := F.ex
  exact gfn_of lk hcd S len fun A outer s H vs Q E pn hr hsp => hbody cdv A outer s H vs Q E pn hr hsp
end
/-- over the signs of a text, with yields -/
theorem for_charsG {z : Str} {g : TG} {tb : TGn} {D : GEnds} {ys : List V} {σ : L2.St} {H : Hp} (Pv : Nat → List V → L2.St → Hp → Prop) (first : Pv 0 ys σ H)
    (each : ∀ i c ys σ H, z.cps.toList[i]? = some c → Pv i ys σ H → g (.str ⟨#[c]⟩) σ H fun σ2 H2 => tb { D with nx := Pv (i + 1), ct := Pv (i + 1), bk := D.nx } ys σ2 H2) (last : ∀ ys σ H, Pv z.length ys σ H → D.nx ys σ H) :
    ∃ W : Nat → Nat → List V → L2.St → Hp → Prop, (∃ m, W 0 m ys σ H) ∧ ∀ i m ys σ H, W i m ys σ H → ((Its z).stop i H ∧ D.nx ys σ H) ∨
      ((Its z).go i H ∧ ∃ N : List V → L2.St → Hp → Prop, (∀ ys' σ' H', N ys' σ' H' → ∃ m', m' < m ∧ W (i + 1) m' ys' σ' H') ∧ ∀ x H', (Its z).yld i H x H' → g x σ H' fun σ2 H2 => tb { D with nx := N, ct := N, bk := D.nx } ys σ2 H2) := by
  refine ⟨fun i m ys σ H => m = z.length - i ∧ i ≤ z.length ∧ Pv i ys σ H, ⟨_, rfl, Nat.zero_le _, first⟩, fun i m ys σ H ⟨em, le, p⟩ => ?_⟩
  rcases Nat.lt_or_ge i z.length with lt | ge
  · refine .inr ⟨lt, Pv (i + 1), fun ys' σ' H' p' => ⟨z.length - (i + 1), by omega, rfl, lt, p'⟩, fun x H' ⟨eH, c, hc, ex⟩ => ?_⟩
    subst eH ex
    exact each i c ys σ _ (cps_get ▸ hc) p
  · obtain rfl : i = z.length := by omega
    exact .inl ⟨Nat.le_refl _, last ys σ H p⟩

/-! ### objects of one of several classes -/
def tPropS (S : Addr → Prop) (sp : Addr → Sp) (ta : TE) : TE := fun σ H Q => ta σ H fun x H1 => ∃ a dx fs C, x = .ref a ∧ H1 a = some (.ins C dx fs) ∧ S C ∧ sp C [.ref a] H1 Q L2.E0
def tMethS (S : Addr → Prop) (m : Str) (sp : Addr → Sp) (E : XK) (ta : TE) (t : TA) : TE := fun σ H Q => ta σ H fun x H1 => ∃ a dx fs C, x = .ref a ∧ H1 a = some (.ins C dx fs) ∧ S C ∧ fs.lookup m = none ∧ t σ H1 fun vs H2 => sp C (.ref a :: vs) H2 Q E
def tMethGS (S : Addr → Prop) (m : Str) (sp : Addr → SpG) (E : XK) (ta : TE) (t : TA) : TGen := fun σ H cont => ta σ H fun x H1 => ∃ a dx fs C, x = .ref a ∧ H1 a = some (.ins C dx fs) ∧ S C ∧ fs.lookup m = none ∧ t σ H1 fun vs H2 => sp C (.ref a :: vs) H2 cont E
/-- a generator method by its name -/
structure MtG (P : Program) (w : World) (K : PySem.W.Frag) (mg : Str → Option Value) (base : Heap) (k : Nat) (C : Addr) (x : Str) (ps : List Str) (sp : SpG) : Prop where
  ex : ∃ (g : Addr) (fd : FuncData), Meth K C x g ∧ GFn P w K mg base k g fd ps sp ∧ Binds K fd ps []
section
variable {X : Cx} {S : Addr → Prop} {x : Str} {k : Nat} {ps : List Str} {sp : Addr → Sp} {spg : Addr → SpG} {E : XK} {e o : Expr} {es : List Expr} {pos apos : Pos} {ta : TE} {t : TA} {pl : Sem Bool}
theorem pe_prS (N : ∀ C, S C → Pr X.prog X.w X.K X.mg X.base C x (sp C)) (cl : ∀ C, S C → Cls X.K C) (hr : Room 2 X.A) (he : PE X e ta) (hab : attributeBase e x X.env (eval e X.env) = eval e X.env := by rfl) : PE X (.Attribute e x pos) (tPropS S sp ta) := by
  refine ⟨fun pins s σ H Q I h => ?_⟩
  refine attr_of hab (thn (he.run pins s σ H _ I h) fun u s1 ⟨y, H1, I1, rx, a, dx, fs, C, ex, ea, hS, q⟩ => ?_)
  subst ex
  obtain rfl : u = Value.ref a := rx
  obtain ⟨p, g, fd, hp, F, hb⟩ := (N C hS).ex
  exact getprop_ok (dvs := []) (ds := []) I1 ea (cl C hS) hp F hr hb .nil pass0 q
theorem pe_mtS (N : ∀ C, S C → MtX X.prog X.w X.K X.mg X.base k C x ps (sp C)) (cl : ∀ C, S C → Cls X.K C) (hr : Room k X.A) (hx : Passes (L2.CX X.prog X.w) X E) (he : PE X o ta) (ha : PA X (e :: es) t)
    (ht : eval (.Call (.Attribute o x apos) (e :: es) [] pos) X.env = (do
      let ov ← eval o X.env
      standAt apos.atName
      let (f, first) ← holding [ov] (getMethod ov x pl)
      callWith pos f first (backTo pos (starEach (e :: es) X.env)) (backToKw pos (keywordEach [] X.env))) := by rfl)
    (hst : starEach (e :: es) X.env = (false, eval e X.env) :: starEach es X.env := by rfl) (hpl : (backTo pos (starEach es X.env)).any (·.1) = false := by rfl) : PE X (.Call (.Attribute o x apos) (e :: es) [] pos) (tMethS S x sp E ta t) := by
  refine ⟨fun pins s σ H Q I h => ?_⟩
  refine PySem.W.methodCall_KW (pl := pl) (thn (he.run pins s σ H _ I h) fun u s1 ⟨y, H1, I1, rx, a, dx, fs, C, ex, ea, hS, l, q⟩ => ?_) ht
  subst ex
  obtain rfl : u = Value.ref a := rx
  obtain ⟨g, fd, hm, F, hb⟩ := (N C hS).ex
  refine getmeth_ok I1 ea (cl C hS) hm l ?_
  refine PySem.W.callWith_K (first := [.ref a]) (h₀ := X.base) I.ok.mod.kin hm.kp (thn (ha.run pos pins s1 σ H1 _ I1 q) fun us s2 ⟨vs, H2, I2, r, q2⟩ => ⟨I2.kIn, ?_⟩) hst hpl
  exact run_fn (dvs := []) (ds := []) (us := .ref a :: us) (vs := .ref a :: vs) F hr hb .nil hx I2 (.cons rfl r) (by rw [List.append_nil]; exact q2)
/-- o.m(e, ..) of a generator method -/
theorem pgen_mtS (N : ∀ C, S C → MtG X.prog X.w X.K X.mg X.base k C x ps (spg C)) (cl : ∀ C, S C → Cls X.K C) (hr : Room k X.A) (he : PE X o ta) (ha : PA X (e :: es) t)
    (hst : starEach (e :: es) X.env = (false, eval e X.env) :: starEach es X.env := by rfl) (hpl : (backTo pos (starEach es X.env)).any (·.1) = false := by rfl)
    (ht : eval (.Call (.Attribute o x apos) (e :: es) [] pos) X.env = (do
      let ov ← eval o X.env
      standAt apos.atName
      let (f, first) ← holding [ov] (getMethod ov x pl)
      callWith pos f first (backTo pos (starEach (e :: es) X.env)) (backToKw pos (keywordEach [] X.env))) := by rfl) :
    PGen X k (.Call (.Attribute o x apos) (e :: es) [] pos) (tMethGS S x spg E ta t) E := by
  refine ⟨fun pins s σ H cont I h => ?_⟩
  refine PySem.W.methodCall_KW (pl := pl) (thn (he.run pins s σ H _ I h) fun u s1 ⟨y, H1, I1, rx, a, dx, fs, C, ex, ea, hS, l, q⟩ => ?_) ht
  subst ex
  obtain rfl : u = Value.ref a := rx
  obtain ⟨g, fd, hm, F, hb⟩ := (N C hS).ex
  refine getmeth_ok I1 ea (cl C hS) hm l ?_
  refine PySem.W.callWith_K (first := [.ref a]) (h₀ := X.base) I.ok.mod.kin hm.kp (thn (ha.run pos pins s1 σ H1 _ I1 q) fun us s2 ⟨vs, H2, I2, r, q2⟩ => ⟨I2.kIn, ?_⟩) hst hpl
  exact run_gfn (dvs := []) (ds := []) (us := .ref a :: us) (vs := .ref a :: vs) F hr hb .nil I2 (.cons rfl r) (by rw [List.append_nil]; exact q2)
/-- nothing ends an iterator where nothing is raised -/
theorem noStop0 {K : PySem.W.Frag} : NoStop K L2.E0 := fun _ _ _ h => h.elim
end
/-! ### promises that are matched by their names alone -/
structure Sealed (sp : Sp) (vs : List V) (H : Hp) (Q : VK) (E : XK) : Prop where
  h : sp vs H Q E
structure SealedG (sp : SpG) (vs : List V) (H : Hp) (Q : List V → Hp → Prop) (E : XK) : Prop where
  h : sp vs H Q E
section
variable {P : Program} {w : World} {K : PySem.W.Frag} {mg : Str → Option Value} {base : Heap} {CX : CXT} {k : Nat} {C f : Addr} {fd : FuncData} {x : Str} {ps : List Str} {sp sp' : Sp} {spg : SpG}
theorem MtX.sealed (N : MtX P w K mg base k C x ps sp) : MtX P w K mg base k C x ps (Sealed sp) :=
  let ⟨g, fd, hm, F, hb⟩ := N.ex
  ⟨g, fd, hm, FnOk.imp F fun _ _ _ _ y => y.h, hb⟩
theorem MtG.sealed (N : MtG P w K mg base k C x ps spg) : MtG P w K mg base k C x ps (SealedG spg) :=
  let ⟨g, fd, hm, F, hb⟩ := N.ex
  ⟨g, fd, hm, ⟨fun vs H Q E y => F.len vs H Q E y.h, fun A outer s H args us vs Q E hr e b r y => F.run A outer s H args us vs Q E hr e b r y.h⟩, hb⟩
theorem Dn.sealed (D : Dn P w K mg base k x ps sp) : Dn P w K mg base k x ps (Sealed sp) :=
  let ⟨g, fd, F, r⟩ := D.ex
  ⟨g, fd, FnOk.imp F fun _ _ _ _ y => y.h, r⟩
end
end Wf
/-! N3: a text repeated; defs with a star or with keywords called by their names. -/
namespace Wf
open PySem PySem.Spec PyProof.Rows L2
/-- a text, n times -/
def repS (z : Str) (n : Nat) : Str := ⟨(List.replicate n z.cps.toList).flatten.toArray⟩
theorem repS_cps {z : Str} {n : Nat} : (repS z n).cps.toList = (List.replicate n z.cps.toList).flatten := rfl
theorem repS_len {z : Str} {n : Nat} : (repS z n).length = n * z.length := by
  show ((List.replicate n z.cps.toList).flatten.toArray).size = _
  rw [List.size_toArray, List.length_flatten, List.map_replicate, List.sum_replicate_nat, Array.length_toList]
  rfl
theorem repS_in {z : Str} {n : Nat} {c : Nat} (h : c ∈ (repS z n).cps.toList) : c ∈ z.cps.toList := by
  rw [repS_cps] at h
  obtain ⟨l, hl, hc⟩ := List.mem_flatten.mp h
  rw [(List.mem_replicate.mp hl).2] at hc
  exact hc
theorem rep_arr (its : List Nat) : ∀ (k : Nat) (acc : List Nat), List.foldl (fun x1 x2 => x1 ++ x2) acc.toArray (List.replicate k its.toArray) = (acc ++ (List.replicate k its).flatten).toArray
  | 0, acc => by simp
  | k + 1, acc => by
    have e : acc.toArray ++ its.toArray = (acc ++ its).toArray := by simp
    rw [List.replicate_succ, List.foldl_cons, e, rep_arr its k, List.replicate_succ, List.flatten_cons, List.append_assoc]
def rMulS : R2 := fun x y H Q => ∃ (z : Str) (k : Nat), x = .str z ∧ y = .int (k : Int) ∧ k ≤ 1000 ∧ z.length ≤ 1000 ∧ Q (.str (repS z k)) H
section
variable {X : Cx}
theorem op_mul_str : OpR X (binaryOp .Mult) rMulS := by
  intro pins s σ H x y v u Q I rx ry h
  obtain ⟨z, k, rfl, rfl, hk, hz, q⟩ := h
  obtain ⟨t, rfl⟩ := rx
  obtain ⟨t', rfl⟩ := ry
  refine PySem.P.mul_str ?_ (fun h1 _ => ?_) (fun h1 _ => ?_) ?_
  · rw [decide_eq_false (by omega), decide_eq_false (by omega)]
    rfl
  · have e : (2 ^ 63 - 1 : Int) / (k : Int) ≥ (2 ^ 63 - 1 : Int) / 1000 := by
      have h2 : (0 : Int) < (k : Int) := by omega
      rw [ge_iff_le, Int.le_ediv_iff_mul_le h2]
      have h3 : (k : Int) ≤ 1000 := by omega
      have h4 : (2 ^ 63 - 1 : Int) / 1000 * (k : Int) ≤ (2 ^ 63 - 1 : Int) / 1000 * 1000 := Int.mul_le_mul_of_nonneg_left h3 (by decide)
      exact Int.le_trans h4 (by decide)
    have e2 : (2 ^ 63 - 1 : Int) / 1000 = 9223372036854775 := by decide
    rw [e2] at e
    omega
  · have : z.length * (k : Int).toNat ≤ 1000 * 1000 := Nat.mul_le_mul hz (by rw [Int.toNat_natCast]; exact hk)
    show decide (z.length * (k : Int).toNat > sizeLine) = false
    exact decide_eq_false (by rw [sizeLine_eq]; omega)
  · have fin : ∀ (tk : Tok) (n' : Nat), EP X pins σ Q (.str (repS z k) tk) { s with toks := n' } := fun tk n' => ⟨.str (repS z k), H, I.tok _, ⟨_, rfl⟩, q⟩
    split
    · rename_i h1
      have k0 : k = 0 := by omega
      subst k0
      exact ⟨by decide, ⟨.str (repS z 0), H, I.tok _, ⟨_, rfl⟩, q⟩⟩
    · split
      · rename_i h1 h2
        have e : repS z k = z := by
          rcases Bool.or_eq_true_iff.mp h2 with h | h
          · have k1 : k = 1 := by have := beq_iff_eq.mp h; omega
            subst k1
            show (⟨(List.replicate 1 z.cps.toList).flatten.toArray⟩ : Str) = z
            simp
          · have z0 : z.cps = #[] := Array.eq_empty_of_size_eq_zero (beq_iff_eq.mp h)
            show (⟨(List.replicate k z.cps.toList).flatten.toArray⟩ : Str) = z
            obtain ⟨zc⟩ := z
            have z0 : zc = #[] := z0
            subst z0
            simp
        rw [e] at q
        exact ⟨.str z, H, I, ⟨_, rfl⟩, q⟩
      · have e : (List.foldl (fun x1 x2 => x1 ++ x2) #[] (List.replicate (k : Int).toNat z.cps)) = (List.replicate k z.cps.toList).flatten.toArray := by
          have := rep_arr z.cps.toList k []
          rw [List.nil_append] at this
          exact this
        rw [e]
        refine ⟨?_, ⟨.str (repS z k), H, I.tok _, ⟨_, rfl⟩, q⟩⟩
        show (repS z k).length ≤ sizeLine
        rw [repS_len, sizeLine_eq]
        have : k * z.length ≤ 1000 * 1000 := Nat.mul_le_mul hk hz
        omega
end
/-! ### defs called by their names -/
/-- a def with a star parameter, that may raise -/
structure DnR (P : Program) (w : World) (K : PySem.W.Frag) (mg : Str → Option Value) (base : Heap) (k : Nat) (x : Str) (sp : Sp) : Prop where
  ex : ∃ f : Addr, FnR P w K mg base (L2.CX P w) k f sp ∧ mg x = some (.ref f) ∧ PySem.W.keepIn K (.ref f) = true
/-- a def with keywords: n values by position, the keywords ks -/
structure DnK (P : Program) (w : World) (K : PySem.W.Frag) (mg : Str → Option Value) (base : Heap) (k : Nat) (x : Str) (ps : List Str) (sp : Sp) (n : Nat) (ks : List Str) (gV : List V → List V → List V) : Prop where
  ex : ∃ (f : Addr) (fd : FuncData) (g : List Value → List Value → List Value), FnOk P w K mg base (L2.CX P w) k f fd ps sp ∧ mg x = some (.ref f) ∧ PySem.W.keepIn K (.ref f) = true ∧ KBn K fd ps n ks g gV
/-- a def whose last parameters have defaults -/
structure DnD (P : Program) (w : World) (K : PySem.W.Frag) (mg : Str → Option Value) (base : Heap) (k : Nat) (x : Str) (ps : List Str) (sp : Sp) (dvs : List V) : Prop where
  ex : ∃ (f : Addr) (fd : FuncData) (ds : List Value), FnOk P w K mg base (L2.CX P w) k f fd ps sp ∧ mg x = some (.ref f) ∧ PySem.W.keepIn K (.ref f) = true ∧ Binds K fd ps ds ∧ Vals dvs ds
section
variable {X : Cx} {k n : Nat} {x : Str} {ps ks : List Str} {sp : Sp} {W : WX} {E : XK} {dvs : List V} {gV : List V → List V → List V} {p pos : Pos} {e : Expr} {es : List Expr} {kws : List Keyword} {t tk : TA}
theorem pe_clR (D : DnR X.prog X.w X.K X.mg X.base k x sp) (hr : Room k X.A) (tk : Takes X W) (ha : PA X (e :: es) t) (hg : Gl X x := by rfl) (hdb : (x == ("__debug__" : Str)) = false := by decide)
    (he : starEach (e :: es) X.env = (false, eval e X.env) :: starEach es X.env := by rfl) (hpl : (backTo pos (starEach es X.env)).any (·.1) = false := by rfl) : PE X (.Call (.Name x p) (e :: es) [] pos) (tCallS sp (WE W) t) := by
  obtain ⟨f, F, hm, hk⟩ := D.ex
  refine ⟨fun pins s σ H Q I h => ?_⟩
  refine wpAny_Call_Name_kw (ld_glob I hg hm ?_ hdb)
  refine PySem.W.callWith_K (h₀ := X.base) I.ok.mod.kin hk (thn (ha.run pos pins s σ H _ I h) fun us s1 ⟨vs, H1, I1, r, q⟩ => ⟨I1.kIn, ?_⟩) he hpl
  refine wpAny_call (codeAny_mono (F X.A X.stack s1 H1 us vs Q (WE W σ) hr I1.env0 r q) fun r s' hq => ?_)
  cases r with
  | error e => exact (passAt tk σ) pins H1 s1 e s' I1 hq
  | ok fl =>
    cases fl with
    | ret u => exact I1.after hq
    | next => exact False.elim hq
    | brk => exact False.elim hq
    | cont => exact False.elim hq
theorem pe_clK (D : DnK X.prog X.w X.K X.mg X.base k x ps sp n ks gV) (hr : Room k X.A) (hx : Passes (L2.CX X.prog X.w) X E) (ha : PA X (e :: es) t) (hkw : PK X kws tk) (hg : Gl X x := by rfl) (hall : (backToKw pos (keywordEach kws X.env)).all (·.1.isSome) = true := by rfl) (hks : (backToKw pos (keywordEach kws X.env)).filterMap (·.1) = ks := by rfl)
    (hdb : (x == ("__debug__" : Str)) = false := by decide) (he : starEach (e :: es) X.env = (false, eval e X.env) :: starEach es X.env := by rfl)
    (hpl : ((backTo pos (starEach (e :: es) X.env)).any (·.1) || (backToKw pos (keywordEach kws X.env)).any (·.1.isNone)) = false := by rfl) :
    PE X (.Call (.Name x p) (e :: es) kws pos) (tCallN n ks.length sp gV E t tk) :=
  let ⟨_, _, _, F, hm, hk, hb⟩ := D.ex
  pe_callN F hr hg hm hk hb hx ha hkw hall hks hdb he hpl
theorem pe_clD (D : DnD X.prog X.w X.K X.mg X.base k x ps sp dvs) (hr : Room k X.A) (hx : Passes (L2.CX X.prog X.w) X E) (ha : PA X (e :: es) t) (hg : Gl X x := by rfl) (hdb : (x == ("__debug__" : Str)) = false := by decide)
    (he : starEach (e :: es) X.env = (false, eval e X.env) :: starEach es X.env := by rfl) (hpl : (backTo pos (starEach es X.env)).any (·.1) = false := by rfl) : PE X (.Call (.Name x p) (e :: es) [] pos) (tCall sp dvs E t) :=
  let ⟨_, _, _, F, hm, hk, hb, hd⟩ := D.ex
  pe_call F hr hg hm hk hb hd hx ha hdb he hpl
end
section
variable {P : Program} {w : World} {K : PySem.W.Frag} {mg : Str → Option Value} {base : Heap} {k n : Nat} {x : Str} {ps ks : List Str} {sp : Sp} {dvs : List V} {gV : List V → List V → List V}
theorem DnK.sealed (D : DnK P w K mg base k x ps sp n ks gV) : DnK P w K mg base k x ps (Sealed sp) n ks gV :=
  let ⟨f, fd, g, F, r⟩ := D.ex
  ⟨f, fd, g, FnOk.imp F fun _ _ _ _ y => y.h, r⟩
theorem DnD.sealed (D : DnD P w K mg base k x ps sp dvs) : DnD P w K mg base k x ps (Sealed sp) dvs :=
  let ⟨f, fd, ds, F, r⟩ := D.ex
  ⟨f, fd, ds, FnOk.imp F fun _ _ _ _ y => y.h, r⟩
end
end Wf
/-! lambdas: tables of code objects through a law -/
namespace Wf
open PySem PySem.Spec PyProof.Rows L2
/-! ### tables stay -/
section
variable {T : List (Addr × Str)} {H H' H1 : Hp} {p c : Addr} {n : Nat} {K : PySem.W.Frag}
theorem tabs_same (t : LamX.Tabs T H) (s : Same H H') : LamX.Tabs T H' := LamX.Tabs.ext t s
theorem tabs_but (t : LamX.Tabs T H) (b : But p H H') (hp : Pen H p c n) : LamX.Tabs T H' := fun q hq => by
  obtain ⟨ps, told, three, known⟩ := t q hq
  refine ⟨ps, b _ _ (pen_ne hp told nofun) told, three, fun pos cv hc => ?_⟩
  obtain ⟨cc, e1, e2⟩ := known pos cv hc
  exact ⟨cc, e1, b _ _ (pen_ne hp e2 fun kvs z => by unfold LamX.CodeO at z; cases z) e2⟩
/-- where all but the tables stays, data stays -/
theorem ext_sty (e : LamX.ExtN H H') : Sty K H H' := by
  refine ⟨⟨fun a xs h => ?_, fun a xs h => ?_⟩, fun a ks h => e _ _ h nofun⟩
  · rcases h with (h | ⟨o, h⟩) | h
    · exact .inl (.inl (e _ _ h nofun))
    · exact .inl (.inr ⟨o, e _ _ h nofun⟩)
    · exact .inr h
  · rcases h with (h | ⟨o, h⟩) | h
    · exact .inl (.inl (e _ _ h nofun))
    · exact .inl (.inr ⟨o, e _ _ h nofun⟩)
    · exact .inr h
theorem ext_of (s : Same H H') : LamX.ExtN H H' := LamX.ExtN.of s
theorem Pen.ext (hp : Pen H p c n) (e : LamX.ExtN H H') : Pen H' p c n :=
  let ⟨ns, sp, mo, e1, e2, r⟩ := hp
  ⟨ns, sp, mo, e _ _ e1 nofun, e _ _ e2 nofun, r⟩
end
/-! ### the end of a law whose defs make lambdas: cs, the code objects of the makers with their tables -/
section
variable {P : Program} {w : World} {K : PySem.W.Frag} {mg mb : Str → Option Value} {k : Nat} {fa a : Addr} {fd : FuncData} {x : Str} {sp : Sp} {s : Shared} {us : List Value} {ns : List Int} {cs : List (Addr × Addr)}
/-- a table with nothing in it -/
abbrev noTab : Obj := { cls := .none, data := .fields #[] }
/-- tracked at the law's entry: the script, if it is not the module's own, and the tables -/
def entryT (K : PySem.W.Frag) (a : Addr) (o : Obj) (xs : List V) (ts : List Addr) : Hp := fun b => if b ∈ ts then some (.tbl #[]) else entry K a o xs b
theorem entryT_tab {o : Obj} {xs : List V} {ts : List Addr} {b : Addr} (h : b ∈ ts) : entryT K a o xs ts b = some (.tbl #[]) := if_pos h
theorem entryT_off {o : Obj} {xs : List V} {ts : List Addr} {b : Addr} (h : b ∉ ts) : entryT K a o xs ts b = entry K a o xs b := if_neg h
theorem law_goesT (inK : K.In s.heap) (hm : s.heap.Ns mainGlobals mg) (hb : s.heap.Ns builtinsNs mb) (hbb : ∀ y : Str, y ≠ "__name__" → mb y = bootBuiltins y) (nl : s.heap.NoLimit) (mods : Mods s.heap) (hg : s.gens = #[])
    (empty : ∀ q ∈ cs, s.heap.get? q.2 = some noTab) (offK : ∀ q ∈ cs, K.lookup q.2 = none) (code : ∀ q ∈ cs, PySem.W.CodeHd s.heap q.1 q.2)
    (main : ∃ (bm : Addr) (ob : Obj), mg "__builtins__" = some (.ref bm) ∧ bm ≠ builtinsNs ∧ s.heap.get? bm = some ob ∧ ob.cls = .type "module" ∧ ob.dict = some builtinsNs ∧ ob.data = .plain)
    (ha : s.heap.get? a = some { cls := .type "list", data := .seq us.toArray }) (hi : IntsAre us ns) (hn : ns.length ≤ sizeLine) (room : Room k callerA)
    (F : ∀ base : Heap, K.In base → base.Ns mainGlobals mg → Mods base → (∀ q ∈ cs, LamX.TabB base mg q.1 q.2) → FnG P w K mg base CX0 k fa fd [x] sp) (bt : ∀ (t : Shared) (u : Value), BindsTo t fd ⟨[u], []⟩ [(x, u)])
    (hsp : ∀ H : Hp, (∀ q ∈ cs, H q.2 = some (.tbl #[])) → SqL K H a (ns.map V.int) → sp [.ref a] H (fun v _ => v = .bl true) fun _ _ _ => False) :
    codeAny (model P w) callerA (.call (.ref fa) ⟨[.ref a], []⟩) (fun r t => r = .ok (.ret (.bool true)) ∧ OldK s.heap t.heap ∧ t.os = s.os ∧ AllBare t.gens) s := by
  have vals := vals_ints hi
  obtain ⟨ts, ets⟩ : ∃ ts, ts = cs.map (·.2) := ⟨_, rfl⟩
  have inT : ∀ {q}, q ∈ cs → q.2 ∈ ts := fun {q} h => by rw [ets]; exact List.mem_map.mpr ⟨q, h, rfl⟩
  have ofT : ∀ {b}, b ∈ ts → ∃ q ∈ cs, q.2 = b := fun {b} h => by rw [ets] at h; exact List.mem_map.mp h
  have tabAt : ∀ {b}, b ∈ ts → s.heap.get? b = some noTab := fun {b} h => by
    obtain ⟨q, hq, e⟩ := ofT h
    rw [← e]
    exact empty q hq
  have aOff : a ∉ ts := fun h => by
    have e := tabAt h
    rw [ha] at e
    cases congrArg Obj.data (Option.some.inj e)
  let ob : Obj := { cls := .type "list", data := .seq us.toArray }
  let H : Hp := entryT K a ob (ns.map V.int) ts
  have Ha : H a = entry K a ob (ns.map V.int) a := entryT_off aOff
  have sq : SqL K H a (ns.map V.int) := by
    cases q : K.lookup a with
    | none => exact .inl (.inr ⟨ob, Ha.trans (if_pos ⟨q, rfl⟩)⟩)
    | some o =>
      have e : o = ob := Option.some.inj ((inK a o q).symm.trans ha)
      subst e
      exact .inr ⟨_, us.toArray, _, q, rfl, rfl, rfl, by rw [List.size_toArray, hi.length]; exact hn, by simpa using vals⟩
  have kinds : ∀ {b u}, H b = some u → (b ∈ ts ∧ u = .tbl #[]) ∨ (b ∉ ts ∧ K.lookup a = none ∧ b = a ∧ u = .frz ob (.lst (ns.map V.int))) := fun {b u} h => by
    by_cases t : b ∈ ts
    · exact .inl ⟨t, Option.some.inj (h.symm.trans (entryT_tab t))⟩
    · exact .inr ⟨t, entry_at ((entryT_off t).symm.trans h)⟩
  have ok : HOk P w H s.heap := by
    intro b u q
    rcases kinds q with ⟨t, rfl⟩ | ⟨_, _, rfl, rfl⟩
    · exact tabAt t
    · exact ⟨ha, by rw [List.length_map]; exact hn, us, _, vals, ha⟩
  have low : ∀ {b : Addr} {o : Obj}, s.heap.get? b = some o → H b = none → (hidT s.heap H).get? b = some o := fun q n => hidT_get q n
  -- what is neither a list nor an empty record is not tracked
  have free : ∀ {b : Addr} {o : Obj}, s.heap.get? b = some o → o.data ≠ ob.data → o.data ≠ noTab.data → H b = none := fun {b o} q n1 n2 => by
    cases hu : H b with
    | none => rfl
    | some u =>
      exfalso
      rcases kinds hu with ⟨t, _⟩ | ⟨_, _, e, _⟩
      · exact n2 (congrArg Obj.data (Option.some.inj (q.symm.trans (tabAt t))))
      · rw [e] at q
        exact n1 (congrArg Obj.data (Option.some.inj (q.symm.trans ha)))
  have isD : ∀ {b : Addr} {m : Str → Option Value}, s.heap.Ns b m → (hidT s.heap H).Ns b m := by
    rintro b m ⟨o, es, ep, q, d, r⟩
    exact ⟨o, es, ep, low q (free q (by rw [d]; exact nofun) (by rw [d]; exact nofun)), d, r⟩
  have inB : K.In (hidT s.heap H) := fun b o q => low (inK b o q) (by
    cases hu : H b with
    | none => rfl
    | some u =>
      exfalso
      rcases kinds hu with ⟨t, _⟩ | ⟨_, no, e, _⟩
      · obtain ⟨z, hz, ez⟩ := ofT t
        have := offK z hz
        rw [ez, q] at this
        cases this
      · rw [e, no] at q
        cases q)
  have lim : (hidT s.heap H).NoLimit := by
    obtain ⟨mc, l1, l2⟩ := nl
    exact ⟨mc, isD l1, l2⟩
  have tb : ∀ q ∈ cs, LamX.TabB (hidT s.heap H) mg q.1 q.2 := fun q hq => by
    have eT := empty q hq
    refine ⟨?_, ?_, fun z => ?_⟩
    · obtain ⟨oc, vs, fi, tf, fl, tg, fr, tx, tt, get, c1, dat, at11, more⟩ := code q hq
      refine ⟨oc, vs, fi, tf, fl, tg, fr, tx, tt, low get (free get (by rw [dat]; exact nofun) fun z => ?_), c1, dat, at11, more⟩
      rw [dat] at z
      have z2 : vs = #[] := Data.fields.inj z
      rw [z2] at at11
      cases at11
    · obtain ⟨bm, om, m1, m2, get, m4, m5, m6⟩ := main
      refine ⟨bm, om, m1, m2, fun z => ?_, fun z => ?_, low get (free get (by rw [m6]; exact nofun) (by rw [m6]; exact nofun)), m4, m5, m6⟩
      · obtain ⟨o, es, ep, q, d, _⟩ := hm
        rw [z] at get
        cases q.symm.trans get
        rw [m6] at d
        cases d
      · rw [z] at get
        cases eT.symm.trans get
        cases m6
    · obtain ⟨o, es, ep, g1, d, _⟩ := hm
      rw [z] at g1
      cases eT.symm.trans g1
      cases d
  have env : Env0 P w K mg (hidT s.heap H) callerA [] s H :=
    { frames := rfl, mod := ⟨inB, isD hm, ⟨mb, isD hb, hbb⟩, lim⟩, bs := fun b o q => of_hidT q, bsz := Nat.le_of_eq (hidT_size _ _), funs := trivial, frf := fun b q => absurd (show b ∈ ([] : List Addr) from q) (by simp), hok := ok, bare := .of_eq hg }
  refine codeAny_mono ((F _ inB (isD hm) (mods.imp fun _ h => isD h) tb).goes (us := [.ref a]) (vs := [.ref a]) rfl room env (bt s (.ref a)) (.cons rfl .nil) (hsp H (fun q hq => entryT_tab (inT hq)) sq)) ?_
  intro r t got
  match r, got with
  | .error _, got => exact got.elim
  | .ok .next, got => exact got.elim
  | .ok .brk, got => exact got.elim
  | .ok .cont, got => exact got.elim
  | .ok (.ret u), got =>
    obtain ⟨v, H', os, bare, un, ok', rv, ev⟩ := got
    have ev' : v = .bl true := ev
    subst ev'
    have eu : u = Value.bool true := rv
    subst eu
    have same : ∀ b o, b ∉ ts → s.heap.get? b = some o → t.heap.get? b = some o := fun b o out q => by
      cases hu : H b with
      | none => exact un.keep b o q hu (fun z => absurd (show b ∈ ([] : List Addr) from z) (by simp)) (fun z => absurd (show b ∈ ([] : List Addr) from z) (by simp))
      | some u =>
        rcases kinds hu with ⟨i, _⟩ | ⟨_, _, e, eu⟩
        · exact absurd i out
        · subst eu
          obtain ⟨g1, _⟩ := ok' b _ (un.frzs b ob _ hu)
          rw [e] at q g1 ⊢
          cases ha.symm.trans q
          exact g1
    have longer : ∀ b, b ∈ ts → ∃ ps : Array Value, t.heap.get? b = some { cls := .none, data := .fields ps } := fun b i => by
      obtain ⟨ps, e⟩ := un.tbls b #[] (entryT_tab i)
      exact ⟨_, ok' b _ e⟩
    refine ⟨rfl, ⟨fun b o q => ?_, fun b o q => ?_⟩, os, bare⟩
    · by_cases i : b ∈ ts
      · obtain ⟨ps, e⟩ := longer b i
        obtain ⟨z, hz, ez⟩ := ofT i
        subst ez
        cases (empty z hz).symm.trans q
        exact .inr (.inl ⟨PySem.W.CodeHd.tab (code z hz) (empty z hz) |>.isCodeTable, rfl, #[], ps, rfl, e.trans (by rw [Array.empty_append])⟩)
      · exact .inl (same b o i q)
    · by_cases i : b ∈ ts
      · obtain ⟨ps, e⟩ := longer b i
        exact ⟨_, e⟩
      · exact ⟨o, same b o i q⟩
end
end Wf
/-! Q1: defs that hand lambdas to a def of the text; the def that calls what it got, in a try -/
namespace Wf
open PySem PySem.Spec PyProof.Rows L2
/-- the table of code objects of a code object -/
def codeTab (K : PySem.W.Frag) (c : Addr) : Addr := match K.lookup c with
  | some ⟨_, _, .fields vs, _⟩ => (match vs.toList[11]? with
    | some (Value.ref P) => P
    | _ => 0)
  | _ => 0
/-- no two tables of the list are one -/
def uniqB : List (Addr × Str) → Bool
  | [] => true
  | p :: r => r.all (fun q => !decide (q.1 = p.1)) && uniqB r
theorem uniq_of : ∀ {T : List (Addr × Str)}, uniqB T = true → ∀ p ∈ T, ∀ q ∈ T, p.1 = q.1 → p.2 = q.2
  | [], _, _, h, _, _, _ => absurd h List.not_mem_nil
  | a :: r, u, p, hp, q, hq, e => by
    unfold uniqB at u
    rw [Bool.and_eq_true, List.all_eq_true] at u
    have no : ∀ x ∈ r, x.1 ≠ a.1 := fun x hx z => by
      have := u.1 x hx
      rw [z] at this
      simp at this
    rcases List.mem_cons.mp hp with rfl | mp <;> rcases List.mem_cons.mp hq with rfl | mq
    · rfl
    · exact absurd e.symm (no q mq)
    · exact absurd e (no p mp)
    · exact uniq_of u.2 p mp q mq e
/-- a def that hands lambdas on: its code object is known -/
structure FunL (K : PySem.W.Frag) (x qual : Str) (st : Stmt) (f : Addr) (fd : FuncData) (c : Addr) : Prop where
  ex : ∃ (oc : Value) (od : Option Addr) (kV doc pm : Value) (an : Option Addr) (ct : Value) (osl : Array (Option Value)),
    fd = PySem.W.fnOf x qual (defArgs st) (defBody st) (defScope st) .none kV doc pm an (.ref c) ct ∧ K.lookup f = some ⟨oc, od, .func fd, osl⟩ ∧ PySem.W.codeIn K (.ref c) qual = true
  kp : PySem.W.keepIn K (.ref f) = true
section
variable {P : Program} {w : World} {K : PySem.W.Frag} {mg : Str → Option Value} {base : Heap} {k : Nat} {f c : Addr} {fd : FuncData} {ps : List Str} {sp : Sp}
theorem FnG.plainL {x qual : Str} {st : Stmt} {N : List Str} (F : FunL K x qual st f fd c) (S : FnScope N ps (defScope st)) (many : ∀ {vs H Q E}, sp vs H Q E → vs.length = ps.length)
    (B : ∀ (A : Around) (outer : List Env) (s : Shared) (H : Hp) (vs : List V) (Q : VK) (E : XK), Qt A → Room k (A.deeper (envOfC qual (defScope st) s.heap.objs.size f (.ref c))) → sp vs H Q E →
      ∃ t, PSs (cxOf CX0 P w K mg base N qual (defScope st) f (.ref c) A outer s H E).nox (defBody st) t ∧ t { nx := fun _ H' => Q .non H', rt := Q } (start N vs) H) :
    FnG P w K mg base CX0 (k + 1) f fd ps sp := by
  obtain ⟨oc, od, kV, doc, pm, an, ct, osl, efd, lk, hcd⟩ := F.ex
  subst efd
  refine ⟨many, ?_⟩
  intro A outer s H args us vs Q E hq hr e0 hb r hsp
  have inK : K.In s.heap := e0.mod.kin.keeps (fun b o e => And.left (e0.bs b o e))
  have noL : s.heap.NoLimit := e0.mod.nolimit.keeps (fun b o e => And.left (e0.bs b o e))
  have kinds : ∀ z, z ∈ ps.zip us → (defScope st).names.lookup z.1 = some .local ∨
      ((defScope st).names.lookup z.1 = some .cell ∧ ((cellsFrom (s.heap.objs.size + 1) (defScope st).names []).lookup z.1).isSome = true) := by
    intro z hz
    cases S.par z.1 (List.of_mem_zip hz).1 with
    | inl q => exact Or.inl q
    | inr q => exact Or.inr (And.intro q (PySem.W.cellsFrom_some _ _ _ (Or.inl q)))
  refine codeAny_call_function (Room.depth hr) (inK _ _ lk) rfl S.co S.gen rfl (PySem.W.codeRec_of inK hcd) (hb _ _ _ _ (?_))
  refine wpAny_newFunctionEnv_cells S.kind kinds (fun env he s1 x => ?_)
  subst he
  refine And.intro (noL.keeps x.toInCall.keep) (codeAny_func ?_)
  obtain ⟨t, ht', q⟩ := B A outer s H vs Q E hq (Room.deeper hr _) hsp
  have ht := ht'.nox
  have J := inv_start (CX := CX0) (E := E) (P := P) (w := w) (K := K) (mg := mg) (base := base) S hr.hd e0 (many hsp) r x
  refine wpAny_mono (ht.run [] s1 (start N vs) H _ J q) (fun fl s' got => ?_) (fun e s' got => got)
  cases fl with
  | next =>
    obtain ⟨σ', H', J', q'⟩ := got
    exact ⟨.non, H', J'.os, J'.bare, J'.base, J'.hok, rfl, q'⟩
  | ret u =>
    obtain ⟨v, σ', H', J', rv, q'⟩ := got
    exact ⟨v, H', J'.os, J'.bare, J'.base, J'.hok, rv, q'⟩
  | brk => exact (Exists.elim got fun _ g => Exists.elim g fun _ g' => g'.2).elim
  | cont => exact (Exists.elim got fun _ g => Exists.elim g fun _ g' => g'.2).elim
end
/-! ### the def that calls what it got -/
abbrev TLm := (XK → Hp → VK → Prop) → Hp → VK → Prop
/-- call(), in the context of the def at g -/
def ActR (P : Program) (w : World) (K : PySem.W.Frag) (mg : Str → Option Value) (base : Heap) (A : Around) (stk : List Env) (Ng : List Str) (x : Str) (sg : Scope) (g : Addr) (cdg : Value) (a q : Str) (s : Shared) (H : Hp) (f c' : Addr) (tl : XK → Hp → VK → Prop) : Prop :=
  ∀ (W : WX) (pn : List (Addr × Obj)) (xe : Value → Shared → Prop) (E : XK) (p1 p2 : Pos), Takes ((cxOf C8.CX0 P w K mg base Ng x sg g cdg A stk s H C8.E0).tr pn xe) W → (∀ cls d σ' H', E cls d H' → W cls d σ' H') →
    PE ((cxOf C8.CX0 P w K mg base Ng x sg g cdg A stk s H C8.E0).tr pn xe) (.Call (.Name a p1) [] [] p2) (fun σZ HZ Q => σZ[0]? = some (some (.ref f)) ∧ HZ c' = some (LamX.CodeO c' q) ∧ tl E HZ Q)
structure Cau (P : Program) (w : World) (K : PySem.W.Frag) (mg : Str → Option Value) (base : Heap) (k : Nat) (x a : Str) (TT : TLm) : Prop where
  ex : ∃ (g : Addr) (pg : Arguments) (bg : List Stmt) (sg : Scope) (dV kV doc pm cdv ct oc : Value) (an od : Option Addr) (osl : Array (Option Value)) (Ng : List Str), mg x = some (.ref g) ∧ PySem.W.keepIn K (.ref g) = true ∧
    K.lookup g = some ⟨oc, od, .func (PySem.W.fnOf x x pg bg sg dV kV doc pm an cdv ct), osl⟩ ∧ PySem.W.codeIn K cdv x = true ∧ L2.Binds K (PySem.W.fnOf x x pg bg sg dV kV doc pm an cdv ct) [a] [] ∧ FnScope Ng [a] sg ∧ Ng[0]? = some a ∧ Vis sg a ∧
    ∀ (A : Around) (stk : List Env) (q : Str) (f c' : Addr) (s : Shared) (H : Hp) (Q : VK) (tl : XK → Hp → VK → Prop), Qt A → Room k (A.deeper (envOfC x sg s.heap.objs.size g cdv)) → ActR P w K mg base A stk Ng x sg g cdv a q s H f c' tl →
      H c' = some (LamX.CodeO c' q) → TT tl H Q → ∃ t, PSs (cxOf C8.CX0 P w K mg base Ng x sg g cdv A stk s H C8.E0).nox bg t ∧ t { nx := fun _ H' => Q .non H', rt := Q } (L2.start Ng [.ref f]) H
theorem Cau.of {P : Program} {w : World} {K : PySem.W.Frag} {mg : Str → Option Value} {base : Heap} {k : Nat} {x a : Str} {TT : TLm} {st : Stmt} {g : Addr} {fd : FuncData} {Ng : List Str} (F : Fun K x x st g fd) (S : FnScope Ng [a] (defScope st)) (hm : mg x = some (.ref g)) (hb : L2.Binds K fd [a] []) (h0 : Ng[0]? = some a) (hv : Vis (defScope st) a)
    (G : ∀ (cdv : Value) (A : Around) (stk : List Env) (q : Str) (f c' : Addr) (s : Shared) (H : Hp) (Q : VK) (tl : XK → Hp → VK → Prop), Qt A → Room k (A.deeper (envOfC x (defScope st) s.heap.objs.size g cdv)) → ActR P w K mg base A stk Ng x (defScope st) g cdv a q s H f c' tl →
      H c' = some (LamX.CodeO c' q) → TT tl H Q → ∃ t, PSs (cxOf C8.CX0 P w K mg base Ng x (defScope st) g cdv A stk s H C8.E0).nox (defBody st) t ∧ t { nx := fun _ H' => Q .non H', rt := Q } (L2.start Ng [.ref f]) H) : Cau P w K mg base k x a TT := by
  obtain ⟨oc, od, kV, doc, pm, an, cdv, ct, osl, efd, lk, hcd⟩ := F.ex
  subst efd
  exact ⟨g, _, _, _, _, _, _, _, _, _, _, _, _, _, _, hm, F.kp, lk, hcd, hb, S, h0, hv, G cdv⟩
/-- where an exception comes out the slots are as many as ever -/
theorem takes_len {X : Cx} {W : WX} (tk : Takes X W) : Takes X (fun cls d σ H => σ.length = X.N.length → W cls d σ H) := fun u s' ⟨a, B, sI, pins, σ, H, cls, d, e, I, nb, up, sky, na, os, ag, w⟩ => tk u s' ⟨a, B, sI, pins, σ, H, cls, d, e, I, nb, up, sky, na, os, ag, w I.len⟩
/-- what call() is, where W is wished of its exceptions -/
def tAct (n : Nat) (f c' : Addr) (q : Str) (tl : XK → Hp → VK → Prop) (W : WX) : TE := fun σ H Q => ∃ Ech : XK, (∀ cls d (σ' : L2.St) H', σ'.length = n → Ech cls d H' → W cls d σ' H') ∧ σ[0]? = some (some (.ref f)) ∧ H c' = some (LamX.CodeO c' q) ∧ tl Ech H Q
theorem pe_act0 {P : Program} {w : World} {K : PySem.W.Frag} {mg : Str → Option Value} {base : Heap} {A : Around} {stk : List Env} {Ng : List Str} {x : Str} {sg : Scope} {g : Addr} {cdg : Value} {a q : Str} {s : Shared} {H : Hp} {f c' : Addr} {tl : XK → Hp → VK → Prop} {W : WX} {pn : List (Addr × Obj)} {xe : Value → Shared → Prop} {p1 p2 : Pos}
    (act : ActR P w K mg base A stk Ng x sg g cdg a q s H f c' tl) (tk : Takes ((cxOf C8.CX0 P w K mg base Ng x sg g cdg A stk s H C8.E0).tr pn xe) W) : PE ((cxOf C8.CX0 P w K mg base Ng x sg g cdg A stk s H C8.E0).tr pn xe) (.Call (.Name a p1) [] [] p2) (tAct Ng.length f c' q tl W) :=
  ⟨fun pins s σ H Q I h => let ⟨Ech, hW, h1, h2, h3⟩ := h; (act _ pn xe Ech p1 p2 (takes_len tk) fun cls d σ' H' e l => hW cls d σ' H' l e).run pins s σ H Q I ⟨h1, h2, h3⟩⟩
section
variable {X : Cx}
/-- x(lambda: body) -/
theorem pe_lamG {T : List (Addr × Str)} {TT : TLm} {x a : Str} {c P : Addr} {k : Nat} {params : Arguments} {body : Expr} {scope : Scope} {t : XK → TE} {p lpos pos : Pos} (D : Cau X.prog X.w X.K X.mg X.base k x a TT) (hq : Qt X.A) (hr : Room (k + 1) X.A) (hr2 : Room 2 X.A) {j : Nat} (hrj : Room (j + 2) X.A)
    (TB : LamX.TabB X.base X.mg c P) (hmT : (P, X.env.qual ++ "<lambda>") ∈ T) (hu : uniqB T = true)
    (hbody : ∀ (A : Around) (outer : List Env) (s : Shared) (H : Hp) (E : XK) (f c' : Addr), Room j (A.deeper (LamX.lamEnv X scope s.heap.objs.size f c')) → PE (LamX.lamCx X A outer s H E scope f c') body (t E))
    (hg : Gl X x := by rfl) (hcode : X.env.code = .ref c := by rfl) (L : LamX.LamS X.env.scope scope := by exact LamX.lamS_by (by kernel_rfl)) (hdef : defaultsOf params X.env = ([], []) := by rfl)
    (hbind : ∀ (q : Str) (cl : List (Str × Addr)) (pm cv ctv : Value), bindArgs (PySem.W.kla_fn "<lambda>" q params body scope cl pm cv ctv) ⟨[], []⟩ = pure [] := by exact fun _ _ _ _ _ => rfl)
    (hdb : (x == ("__debug__" : Str)) = false := by decide) (hd : (a == ("__debug__" : Str)) = false := by decide) (hcd : (a == ("__classdict__" : Str)) = false := by decide) :
    PE X (.Call (.Name x p) [.Lambda params body scope lpos] [] pos) (LamX.tLam T TT t) := by
  obtain ⟨g, pg, bg, sg, dV, kV, doc, pm, cdv, ct, oc, an, od, osl, Ng, hm, hk, lk, hcg, hb, Sg, hNg, hva, G⟩ := D.ex
  exact LamX.pe_lamcall hg hm hk lk hcg hb Sg hNg hva (fun f c' s H Q tl act hc h => G X.A X.stack _ f c' s H Q tl hq (hr.deeper _) act hc h) TB hcode hmT (fun p hp e => uniq_of hu p hp _ hmT e) hrj L hdef hbind hbody hdb hd hcd
end
/-! ### methods without a positional argument -/
section
variable {X : Cx} {CX : CXT} {C : Addr} {x : Str} {k : Nat} {ks : List Str} {sp : Sp} {spk : SpK} {E : XK} {o : Expr} {kws : List Keyword} {pos apos : Pos} {ta : TE} {tk : TA} {pl : Sem Bool}
theorem pe_mtR0 (N : MtR X.prog X.w X.K X.mg X.base CX k C x sp) (cl : Cls X.K C) (hr : Room k X.A) (hx : Passes CX X E) (he : PE X o ta)
    (ht : eval (.Call (.Attribute o x apos) [] [] pos) X.env = (do
      let ov ← eval o X.env
      standAt apos.atName
      let (f, first) ← holding [ov] (getMethod ov x pl)
      callWith pos f first (backTo pos (starEach [] X.env)) (backToKw pos (keywordEach [] X.env))) := by rfl) : PE X (.Call (.Attribute o x apos) [] [] pos) (tMethR C x sp E ta tNil) := by
  obtain ⟨g, hm, F⟩ := N.ex
  refine ⟨fun pins s σ H Q I h => ?_⟩
  refine PySem.W.methodCall_KW (pl := pl) (thn (he.run pins s σ H _ I h) fun u s1 ⟨y, H1, I1, rx, a, dx, fs, ex, ea, l, q⟩ => ?_) ht
  subst ex
  obtain rfl : u = Value.ref a := rx
  refine getmeth_ok I1 ea cl hm l ?_
  exact PySem.W.callWith_K0 (first := [.ref a]) I1.kIn hm.kp (wpAny_call (run_fnR (us := [.ref a]) (vs := [.ref a]) F hr hx I1 (.cons rfl .nil) q))
theorem pe_mtK0 (N : MtK X.prog X.w X.K X.mg X.base CX k C x ks spk) (cl : Cls X.K C) (hr : Room k X.A) (hx : Passes CX X E) (he : PE X o ta) (hkw : PK X kws tk)
    (hall : (backToKw pos (keywordEach kws X.env)).all (·.1.isSome) = true := by rfl) (hks : (backToKw pos (keywordEach kws X.env)).filterMap (·.1) = ks := by rfl)
    (hpl : ((backTo pos (starEach [] X.env)).any (·.1) || (backToKw pos (keywordEach kws X.env)).any (·.1.isNone)) = false := by rfl)
    (ht : eval (.Call (.Attribute o x apos) [] kws pos) X.env = (do
      let ov ← eval o X.env
      standAt apos.atName
      let (f, first) ← holding [ov] (getMethod ov x pl)
      callWith pos f first (backTo pos (starEach [] X.env)) (backToKw pos (keywordEach kws X.env))) := by rfl) : PE X (.Call (.Attribute o x apos) [] kws pos) (tMethK C x ks.length spk E ta tNil tk) := by
  obtain ⟨g, hm, F⟩ := N.ex
  refine ⟨fun pins s σ H Q I h => ?_⟩
  refine PySem.W.methodCall_KW (pl := pl) (thn (he.run pins s σ H _ I h) fun u s1 ⟨y, H1, I1, rx, a, dx, fs, ex, ea, l, q⟩ => ?_) ht
  subst ex
  obtain rfl : u = Value.ref a := rx
  refine getmeth_ok I1 ea cl hm l ?_
  refine PySem.W.callWith_KW0 (first := [.ref a]) (h₀ := X.base) I1.ok.mod.kin hm.kp hall (thn (hkw.run pos pins s1 σ H1 _ I1 q) fun ws s3 ⟨zs, H3, I3, rz, l3, q3⟩ => ⟨I3.kIn, ?_⟩) hpl
  rw [hks]
  exact run_fnK (us := [.ref a]) (vs := [.ref a]) F hr hx I3 (.cons rfl .nil) rz l3 q3
end
/-! ### what stays where only tables grow -/
theorem ext_same {H H1 H2 : Hp} (a : LamX.ExtN H H1) (b : Same H1 H2) : LamX.ExtN H H2 := a.trans (ext_of b)
end Wf
/-! Q2: the end of a law whose defs make lambdas -/
namespace Wf
open PySem PySem.Spec PyProof.Rows L2
/-- the code object of a def of the module's top; its table -/
def codeAt (K : PySem.W.Frag) (x : Str) : Addr := match PySem.W.nsIn K mainGlobals x with
  | some (some (Value.ref f)) => (match K.lookup f with
    | some ⟨_, _, .func fd, _⟩ => (match fd.code with
      | Value.ref c => c
      | _ => 0)
    | _ => 0)
  | _ => 0
def tabAt (K : PySem.W.Frag) (x : Str) : Addr := codeTab K (codeAt K x)
/-- xs: the makers, each with the lambdas' qualified name -/
def tabsOf (K : PySem.W.Frag) (xs : List (Str × Str)) : List (Addr × Str) := xs.map fun p => (tabAt K p.1, p.2)
def csOk (K : PySem.W.Frag) (ts : List Addr) (xs : List (Str × Str)) : Bool :=
  (xs.all fun p => decide (tabAt K p.1 ∈ ts) && (K.lookup (tabAt K p.1)).isNone && PySem.W.codeHdIn K (codeAt K p.1) (tabAt K p.1)) && uniqB (tabsOf K xs)
section
variable {x : Str} {k : Nat}
theorem walkT {l : PySem.W.OpenLaw} {n : Nat} {q : Program} {loose : List Str} {XP : (Str → Option Value) → Heap → Prop} {YP : World → Heap → Prop} {d : DefRec} {K : Params → PySem.W.Frag} {xs : List (Str × Str)} {sp : PySem.W.Frag → Sp}
    (no : importsNone q = true) (hn : l.most = some n) (hn2 : n ≤ sizeLine) (hdf : d.params.defaults = []) (room : Room k callerA)
    (hY : ∀ (w : World) (h : Heap), YP w h → ∃ ts : List Addr, (K w.params).In h ∧ (∀ P ∈ ts, h.get? P = some noTab) ∧ csOk (K w.params) ts xs = true)
    (F : ∀ (w : World) (mg : Str → Option Value) (fa : Addr) (h : Heap), (K w.params).In h → h.Ns mainGlobals mg → mg d.name = some (.ref fa) → uniqB (tabsOf (K w.params) xs) = true →
      ∃ fd : FuncData, (∀ (t : Shared) (u : Value), BindsTo t fd ⟨[u], []⟩ [(x, u)]) ∧ ∀ base : Heap, (K w.params).In base → base.Ns mainGlobals mg → Mods base → (∀ p ∈ xs, LamX.TabB base mg (codeAt (K w.params) p.1) (tabAt (K w.params) p.1)) → FnG l.prog w (K w.params) mg base CX0 k fa fd [x] (sp (K w.params)))
    (hsp : ∀ (K : PySem.W.Frag) (H : Hp) (a : Addr) (ns : List Int), ns.length ≤ n → LamX.Tabs (tabsOf K xs) H → SqL K H a (ns.map V.int) → sp K [.ref a] H (fun v _ => v = .bl true) fun _ _ _ => False) :
    PySem.W.WalkO q loose XP YP l.row.toRowW d [] (fun f vs => PySem.call f vs) :=
  Att.attach_call hn hdf fun w s₀ s₁ mg mb fa o pm cd doc a vs ns G Y ho hd hcd hmg hobj hints hlen hg => by
    obtain ⟨ts, inK, empty, ok⟩ := hY w _ Y
    unfold csOk at ok
    rw [Bool.and_eq_true, List.all_eq_true] at ok
    obtain ⟨each, uq⟩ := ok
    have each' : ∀ p ∈ xs, tabAt (K w.params) p.1 ∈ ts ∧ (K w.params).lookup (tabAt (K w.params) p.1) = none ∧ PySem.W.codeHdIn (K w.params) (codeAt (K w.params) p.1) (tabAt (K w.params) p.1) = true := fun p hp => by
      have := each p hp
      simp only [Bool.and_eq_true, decide_eq_true_eq, Option.isNone_iff_eq_none] at this
      exact ⟨this.1.1, this.1.2, this.2⟩
    obtain ⟨_, bt, hF⟩ := F w mg fa _ inK G.T.g hmg uq
    refine law_goesT (cs := xs.map fun p => (codeAt (K w.params) p.1, tabAt (K w.params) p.1)) inK G.T.g G.T.b G.T.builtins G.T.nolimit ((G.T.seer no).mods.imp fun _ h => h.1) hg (fun q hq => ?_) (fun q hq => ?_) (fun q hq => ?_) G.T.bmain hobj hints (Nat.le_trans hlen hn2) room
      (fun base i1 i2 i3 tb => hF base i1 i2 i3 fun p hp => tb _ (List.mem_map.mpr ⟨p, hp, rfl⟩)) bt fun H em sq => hsp (K w.params) H a ns hlen (fun p hp => ?_) sq
    · obtain ⟨p, hp, rfl⟩ := List.mem_map.mp hq
      exact empty _ (each' p hp).1
    · obtain ⟨p, hp, rfl⟩ := List.mem_map.mp hq
      exact (each' p hp).2.1
    · obtain ⟨p, hp, rfl⟩ := List.mem_map.mp hq
      exact PySem.W.codeHd_of_K inK (each' p hp).2.2
    · unfold tabsOf at hp
      obtain ⟨p', hp', rfl⟩ := List.mem_map.mp hp
      exact LamX.TabS.nil (em (codeAt (K w.params) p'.1, tabAt (K w.params) p'.1) (List.mem_map.mpr ⟨p', hp', rfl⟩))
end
end Wf
/-! Q3: xs != [] whatever stands in xs; any data in a list of texts -/
namespace PySem.SeqAt
theorem str_eq_not_dict (b : Str) (u : Tok) (l : Addr) (c : Value) (es : Array DictEntry) (n : Nat) (dd : Option Addr) (sl : Array (Option Value)) :
    Meets (Builtin.«str.__eq__» ⟨[.str b u, .ref l], []⟩) (fun _ R s => s.heap.get? l = some { cls := c, dict := dd, data := .dict es n, slots := sl } ∧ R (.ok (.ret .notImplemented)) s) :=
  .of_wp fun prog w A R s h => by obtain ⟨hp, g, d, tk, os⟩ := s; obtain ⟨hl, h⟩ := h; wp_walk using wpAny_loadPart' hl, wpAny_load hl; exact ⟨_, rfl, h⟩
theorem dict_eq_not_str (l : Addr) (es : Array DictEntry) (n : Nat) (dd : Option Addr) (sl : Array (Option Value)) (b : Str) (u : Tok) :
    Meets (Builtin.«dict.__eq__» ⟨[.ref l, .str b u], []⟩) (fun _ R s => s.heap.get? l = some { cls := .type "dict", dict := dd, data := .dict es n, slots := sl } ∧ R (.ok (.ret .notImplemented)) s) :=
  .of_wp fun prog w A R s h => by
    obtain ⟨hp, g, d, tk, os⟩ := s
    obtain ⟨hl, h⟩ := h
    wp_walk using wpAny_loadPart' hl, wpAny_load hl
    refine wpAny_of_eq F.sub_str_dict ?_
    show wpAny _ _ (if (!false) = true then _ else _) _ _ _
    wp_walk
    exact ⟨_, rfl, h⟩
section
variable {A : Around} {s : Shared}
theorem RcAt.str_dictO {l : Addr} {es : Array DictEntry} {n : Nat} {dd : Option Addr} {sl : Array (Option Value)} (b : Str) (u : Tok) (ho : s.heap.get? l = some { cls := .type "dict", dict := dd, data := .dict es n, slots := sl }) (hu : A.units < cLine) : RcAt A s (.str b u) (.ref l) false := fun prog w E Q h => by
  exact rc_eq_decline_or (k := false) (typeIs_str s b u) ⟨_, ho, rfl⟩ (by decide) F.sub_dict_str F.slot_str_eq F.slot_dict_eq_refl
    (fun _ hq => call_meets F.slot_str_eq (typeIs_str s b u) F.entry_str_eq (F.args_str_eq_2 _ _) (str_eq_not_dict b u l (.type "dict") es n dd sl) ⟨ho, hq⟩)
    (fun _ hq => call_meets F.slot_dict_eq_refl ⟨_, ho, rfl⟩ F.entry_dict_eq (F.args_dict_eq_2 _ _) (dict_eq_not_str l es n dd sl b u) ⟨ho, hq⟩)
    (fun _ hq => wpAny_of_eq (rfl : isSame (.str b u) (.ref l) = pure false) hq) (.inr hu) h
theorem EqAt.str_dictO {l : Addr} {es : Array DictEntry} {n : Nat} {dd : Option Addr} {sl : Array (Option Value)} (b : Str) (u : Tok) (ho : s.heap.get? l = some { cls := .type "dict", dict := dd, data := .dict es n, slots := sl }) (hu : A.units < cLine) : EqAt A s (.str b u) (.ref l) false := fun prog w E Q h => by
  unfold eqBool
  refine wpAny_holding ?_
  refine wpAny_ite_split (fun hab => absurd (eq_of_beq hab) nofun) (fun _ => ?_)
  exact wpAny_bind (RcAt.str_dictO b u ho hu prog w E _ (wpAny_truthy_bool h))
end
end PySem.SeqAt
namespace Wf
open PySem PySem.Spec PyProof.Rows L2
section
variable {X : Cx}
/-- xs != [], whatever stands in xs -/
def rNeE (K : PySem.W.Frag) : R2 := fun x y H Q => ∃ a b xs, x = .ref a ∧ y = .ref b ∧ SqL K H a xs ∧ SqL K H b [] ∧ Q (.bl (!xs.isEmpty)) H
theorem op_neE (hu : X.A.units + 64 < cLine) : OpR X (compareOp .NotEq) (rNeE X.K) := by
  intro pins s σ H x y v u Q I rx ry h
  obtain ⟨a, b, xs, rfl, rfl, ha, hb, q⟩ := h
  obtain rfl : v = Value.ref a := rx
  obtain rfl : u = Value.ref b := ry
  obtain ⟨its, r, pl, _⟩ := I.list ha
  obtain ⟨its2, r2, pl2, _⟩ := I.list hb
  obtain rfl : its2 = [] := by cases r2; rfl
  have hu1 : X.A.units < cLine := by omega
  cases xs with
  | nil =>
    obtain rfl : its = [] := by cases r; rfl
    exact SeqAt.RcNeAt.lists (e := fun _ => true) pl.isList pl2.isList rfl hu1 (fun j h1 _ => absurd h1 (Nat.not_lt_zero j)) _ _ _ _ ⟨.bl _, H, I, rfl, q⟩
  | cons z zs =>
    obtain ⟨i0, is, rfl⟩ : ∃ i0 is, its = i0 :: is := by cases r; exact ⟨_, _, rfl⟩
    exact SeqAt.RcNeAt.lists_lengths pl.isList pl2.isList rfl hu1 _ _ _ _ ⟨.bl _, H, I, rfl, q⟩
/-- a != b of any data that can be held side by side -/
def rNeQ (K : PySem.W.Frag) : R2 := fun x y H Q => ∃ d e, Dq K H x d ∧ Dq K H y e ∧ SeqAt.shaped d = true ∧ SeqAt.shaped e = true ∧ Q (.bl (!PyData.eqv d e)) H
theorem op_neQ (M : Mods X.base) (hu : X.A.units + 64 < cLine) : OpR X (compareOp .NotEq) (rNeQ X.K) := by
  intro pins s σ H x y v u Q I rx ry h
  obtain ⟨d, e, hd, he, sd, se, q⟩ := h
  obtain ⟨as, r1, _⟩ := Dq.reads M I d x v hd rx
  obtain ⟨bs, r2, _⟩ := Dq.reads M I e y u he ry
  exact SeqAt.compareNe_shaped r1 r2 sd se hu ⟨.bl _, H, I, rfl, q⟩
/-- whether a value is one of the texts -/
def isTx (ws : List Str) : PyData → Bool
  | .str w => decide (w ∈ ws)
  | _ => false
def rInT (K : PySem.W.Frag) (neg : Bool) : R2 := fun x y H Q => ∃ p ws d, y = .ref p ∧ SqL K H p (ws.map V.str) ∧ Dq K H x d ∧ Q (.bl (if neg then !isTx ws d else isTx ws d)) H
/-- one text held against a value -/
def txU (d : PyData) (u : Value) : Bool := match u, d with
  | .str w _, .str z => w == z
  | _, _ => false
theorem any_txU {d : PyData} : ∀ {ws : List Str} {us : List Value}, Vals (ws.map V.str) us → us.any (txU d) = isTx ws d
  | [], us, r => by
    cases r
    cases d <;> rfl
  | w :: ws, us, r => by
    cases r with
    | cons a t =>
      obtain ⟨tk, rfl⟩ : ∃ tk, _ = Value.str w tk := a
      rw [List.any_cons, any_txU t]
      cases d with
      | str z =>
        show ((w == z) || decide (z ∈ ws)) = decide (z ∈ w :: ws)
        by_cases e : w = z
        · subst e
          rw [beq_self_eq_true, Bool.true_or]
          exact (decide_eq_true List.mem_cons_self).symm
        · rw [beq_eq_false_iff_ne.mpr e, Bool.false_or]
          exact decide_eq_decide.mpr ⟨List.mem_cons_of_mem _, fun h => (List.mem_cons.mp h).elim (fun z => absurd z.symm e) id⟩
      | _ => rfl
theorem mem_text : ∀ {ws : List Str} {us : List Value}, Vals (ws.map V.str) us → ∀ u ∈ us, ∃ w tk, u = Value.str w tk
  | [], us, r, u, hu => by
    cases r
    cases hu
  | w :: ws, us, r, u, hu => by
    cases r with
    | cons a t =>
      rcases List.mem_cons.mp hu with rfl | m
      · obtain ⟨tk, e⟩ : ∃ tk, _ = Value.str w tk := a
        exact ⟨_, _, e⟩
      · exact mem_text t u m
theorem eqAt_tx {pins : List (Addr × Obj)} {σ : L2.St} {H : Hp} {s : Shared} {A : Around} (I : Inv X pins σ H s) (hu : A.units < cLine) {x : V} {v : Value} {d : PyData} (hd : Dq X.K H x d) (rx : RelV x v) (w : Str) (tk : Tok) : SeqAt.EqAt A s (.str w tk) v (txU d (.str w tk)) := by
  cases hd with
  | non =>
    obtain rfl : v = Value.none := rx
    exact SeqAt.EqAt.str_none w tk
  | bl b =>
    obtain rfl : v = Value.bool b := rx
    exact SeqAt.EqAt.str_bool w tk b
  | int i =>
    obtain ⟨t, rfl⟩ : ∃ t, v = Value.int i t := rx
    exact SeqAt.EqAt.str_int w tk i t
  | str z =>
    obtain ⟨t, rfl⟩ : ∃ t, v = Value.str z t := rx
    exact SeqAt.EqAt.str_str w tk z t
  | lst hs _ =>
    cases rx
    obtain ⟨its, _, pl, _⟩ := I.list hs
    exact SeqAt.EqAt.str_list w tk pl.isList hu
  | tup hs _ =>
    cases rx
    obtain ⟨its, _, pl, _⟩ := I.tuple hs
    exact SeqAt.EqAt.str_tuple w tk pl hu
  | dk ea ek =>
    cases rx
    obtain ⟨_, ns, vs, kv, o, es, ep, ho, hx, hdt, _⟩ := dk_of I.hok ea
    obtain ⟨cls, dd, data, sl⟩ := o
    have e1 : cls = .type "dict" := hx.1
    have e2 : data = .dict es ep := hdt
    subst e1 e2
    exact SeqAt.EqAt.str_dictO w tk ho hu
theorem op_inT (hu : X.A.units + 64 < cLine) : OpR X (compareOp .In) (rInT X.K false) := by
  intro pins s σ H x y v u Q I rx ry h
  obtain ⟨p, ws, d, rfl, hq, hd, q⟩ := h
  obtain rfl : u = Value.ref p := ry
  obtain ⟨its, r, pl, hz⟩ := I.list hq
  refine SeqAt.in_listAt (txU d) pl.isList (fun u hu2 => ?_) ⟨.bl _, H, I, rfl, ?_⟩
  · obtain ⟨w, tk, rfl⟩ := mem_text r u (by simpa using hu2)
    exact eqAt_tx I (show X.A.units + 1 < cLine by omega) hd rx w tk
  · rw [show its.toArray.any (txU d) = its.any (txU d) by simp, any_txU r]
    exact q
theorem op_notInT (hu : X.A.units + 64 < cLine) : OpR X (compareOp .NotIn) (rInT X.K true) := by
  intro pins s σ H x y v u Q I rx ry h
  obtain ⟨p, ws, d, rfl, hq, hd, q⟩ := h
  obtain rfl : u = Value.ref p := ry
  obtain ⟨its, r, pl, hz⟩ := I.list hq
  refine SeqAt.notIn_listAt (txU d) pl.isList (fun u hu2 => ?_) ⟨.bl _, H, I, rfl, ?_⟩
  · obtain ⟨w, tk, rfl⟩ := mem_text r u (by simpa using hu2)
    exact eqAt_tx I (show X.A.units + 1 < cLine by omega) hd rx w tk
  · rw [show its.toArray.any (txU d) = its.any (txU d) by simp, any_txU r]
    exact q
end
end Wf
namespace Wf
open PySem L2
def top (i : Nat) : Stmt := PySem.Challenge.pw_wordfit_k04_samples_with_other_words.main.body.getD i (.Pass ⟨0, 0, 0, 0⟩)
/-- what the top has, beside the defs -/
structure Txt (K : PySem.W.Frag) (mg : Str → Option Value) : Prop where
  z_list : mg "list" = none
  z_len : mg "len" = none
  z_abs : mg "abs" = none
  z_range : mg "range" = none
  z_sorted : mg "sorted" = none
  z_repr : mg "repr" = none
  z_isinstance : mg "isinstance" = none
  z_tuple : mg "tuple" = none
  z_str : mg "str" = none
  z_int : mg "int" = none
  z_bool : mg "bool" = none
  z_all : mg "all" = none
  z_any : mg "any" = none
  z_enumerate : mg "enumerate" = none
  z_dict : mg "dict" = none
  z_set : mg "set" = none
  z_max : mg "max" = none
  z_min : mg "min" = none
  z_ValueError : mg "ValueError" = none
  z_KeyError : mg "KeyError" = none
  z_IndexError : mg "IndexError" = none
  z_ArithmeticError : mg "ArithmeticError" = none
  z_LookupError : mg "LookupError" = none
abbrev s_law_pen : Stmt := top 39
abbrev N_law_pen : List Str := ["script"]
theorem sc_law_pen : FnScope N_law_pen ["script"] (defScope s_law_pen) := ⟨rfl, rfl, rfl, by decide +kernel, rfl, by decide +kernel, by decide +kernel⟩
abbrev s_law_draw : Stmt := top 40
abbrev N_law_draw : List Str := ["pen", "many", "digit", "spot", "cell", "mix"]
theorem sc_law_draw : FnScope N_law_draw ["pen", "many"] (defScope s_law_draw) := ⟨rfl, rfl, rfl, by decide +kernel, rfl, by decide +kernel, by decide +kernel⟩
section
variable {P : Program} {w : World} {K : PySem.W.Frag} {mg : Str → Option Value} {base : Heap}
theorem ok_pen {f : Addr} {fd : FuncData} (F : Fun K "_law_pen" "_law_pen" s_law_pen f fd) (T : Txt K mg) : FnOk P w K mg base CX0 1 f fd ["script"] (spPen K) := by
  refine F.ok sc_law_pen (fun vs H Q E h => ?_) (fun cdv A outer s H vs Q E hr h => ?_)
  · obtain ⟨a, ns, rfl, _⟩ := h
    rfl
  · obtain ⟨a, ns, rfl, hs, hl, k⟩ := h
    refine ⟨_, (pss_one (ps_ret (pe_disp (pps_cons (pe_str) (pe_callTy call_list_of (by rfl) T.z_list (by decide +kernel) (pa_cons (pe_slice sl_list (pv 0) po_none (po_some (pe_int))) pa_nil)) (pps_cons (pe_str) (pe_int) (pps_cons (pe_str) (pe_int) pps_nil))) (by rfl) (by rfl) (fun z => by cases z) (by decide)))), ?_⟩
    intro p hp
    have s0 : Same H (upd H p (.dK [])) := fun b o e => by rw [upd_ne (ne_of_none e hp)]; exact e
    refine ⟨_, rfl, _, rfl, a, _, rfl, s0.seq hs, fun c hc => ?_⟩
    have pc : p ≠ c := ne_of_none upd_same hc
    have hc0 : H c = none := by rw [upd_ne pc.symm] at hc; exact hc
    refine ⟨c, _, rfl, .inl (SqL.of upd_same), fun l hl' => ?_⟩
    have ec : cutV (ns.map V.int) none (some 63) = ns.map V.int := by
      unfold cutV
      have e1 : HT.sIx (ns.map V.int).length 0 Option.none = 0 := rfl
      have e2 : HT.sIx (ns.map V.int).length (ns.map V.int).length (some 63) = ns.length := by
        rw [List.length_map]
        have e3 := HT.sIx_nat ns.length ns.length 63
        refine Eq.trans e3 ?_
        omega
      rw [e1, e2, List.drop_zero, Nat.sub_zero]
      exact List.take_of_length_le (by rw [List.length_map]; exact Nat.le_refl _)
    rw [ec] at hl' ⊢
    have lp : l ≠ p := fun z => by
      rw [z, upd_ne pc, upd_same] at hl'
      cases hl'
    have lc : l ≠ c := fun z => by
      rw [z, upd_same] at hl'
      cases hl'
    have hl0 : H l = none := by
      rw [upd_ne lc, upd_ne lp] at hl'
      exact hl'
    refine ⟨by rw [upd_ne lp.symm, upd_ne pc, upd_same], [(.inr "cells", .ref l), (.inr "spot", .int 0), (.inr "more", .int 0)], rfl, by show 3 ≤ 15; decide, ?_⟩
    refine k p l _ (fun b o e => ?_) hp ⟨ns, 0, 0, upd_same, by rw [upd_ne lp, upd_same], hl, Int.le_refl 0, Int.le_refl 0, Int.le_refl 0⟩
    rw [upd_ne (ne_of_none e hp), upd_ne (ne_of_none e hl0), upd_ne (ne_of_none e hc0), upd_ne (ne_of_none e hp)]
    exact e
theorem ok_draw {f : Addr} {fd : FuncData} (F : Fun K "_law_draw" "_law_draw" s_law_draw f fd) (T : Txt K mg) : FnOk P w K mg base CX0 1 f fd ["pen", "many"] spDraw := by
  refine F.ok sc_law_draw (fun vs H Q E h => ?_) (fun cdv A outer s H vs Q E hr h => ?_)
  · obtain ⟨p, c, n, many, rfl, _⟩ := h
    rfl
  · obtain ⟨p, c, n, many, rfl, ⟨ns, sp, mo, hp, hc, hl, s0, s1, m0⟩, hn, g0, g1, k⟩ := h
    have hu := hu_of hr
    refine ⟨_, (pss_cons (ps_if (pt_cmpR op_gt (pe_dget hu (pv 0) (pe_str) (fun _ _ => rfl)) (pe_int) (nomark _)) (pss_cons (ps_set (i := 2) sc_law_draw.nd rfl (Or.inl rfl) (pe_op op_mod (pe_dget hu (pv 0) (pe_str) (fun _ _ => rfl)) (pv 1)))
  (pss_cons (ps_dput hu (pv 0) (pe_str) (pe_op op_fdiv (pe_dget hu (pv 0) (pe_str) (fun _ _ => rfl)) (pv 1)) rfl)
  (pss_one (ps_ret (pv 2))))) pss_nil)
  (pss_cons (ps_set (i := 3) sc_law_draw.nd rfl (Or.inl rfl) (pe_dget hu (pv 0) (pe_str) (fun _ _ => rfl)))
  (pss_cons (ps_dput hu (pv 0) (pe_str) (pe_op op_add (pv 3) (pe_int)) rfl)
  (pss_cons (ps_set (i := 4) sc_law_draw.nd rfl (Or.inl rfl) (pe_ifExp (pt_cmpR (op_neD hr.units) (pe_dget hu (pv 0) (pe_str) (fun _ _ => rfl)) (pe_lst pa_nil) (nomark _)) (pe_ix ix_list (pe_dget hu (pv 0) (pe_str) (fun _ _ => rfl)) (pe_op op_mod (pv 3) (pe_callB call_len_seq (by rfl) T.z_len PySem.boot_len (pa_cons (pe_dget hu (pv 0) (pe_str) (fun _ _ => rfl)) pa_nil))) (fun _ _ => rfl)) (pe_op op_add (pe_op op_mul (pe_int) (pv 3)) (pe_int))))
  (pss_cons (ps_if (PW.pt (pw_and (pt_cmpR op_lt (pv 3) (pe_callB call_len_seq (by rfl) T.z_len PySem.boot_len (pa_cons (pe_dget hu (pv 0) (pe_str) (fun _ _ => rfl)) pa_nil)) (nomark _)) (pw_and1 (pt_cmpR op_ge (pe_callB call_abs (by rfl) T.z_abs (by decide +kernel) (pa_cons (pv 4) pa_nil)) (pe_op op_pow (pe_int) (pe_int)) (nomark _))))) (pss_cons (ps_dput hu (pv 0) (pe_str) (pe_op op_fdiv (pe_op op_sub (pe_callB call_abs (by rfl) T.z_abs (by decide +kernel) (pa_cons (pv 4) pa_nil)) (pe_op op_pow (pe_int) (pe_int))) (pv 1)) rfl)
  (pss_one (ps_ret (pe_op op_mod (pe_op op_sub (pe_callB call_abs (by rfl) T.z_abs (by decide +kernel) (pa_cons (pv 4) pa_nil)) (pe_op op_pow (pe_int) (pe_int))) (pv 1))))) pss_nil)
  (pss_cons (ps_set (i := 5) sc_law_draw.nd rfl (Or.inl rfl) (pe_op op_mod (pe_op op_add (pe_op op_add (pe_op op_add (pe_op op_mul (pe_op op_mod (pv 4) (pe_int)) (pe_int)) (pe_op op_mul (pe_op op_mul (pe_int) (pv 3)) (pv 3))) (pe_op op_mul (pe_int) (pv 3))) (pe_int)) (pe_int)))
  (pss_cons (ps_set (i := 5) sc_law_draw.nd rfl (Or.inl rfl) (pe_op op_mod (pe_op op_add (pe_op op_add (pe_op op_add (pe_op op_mul (pv 5) (pv 5)) (pe_op op_mul (pe_int) (pv 5))) (pe_op op_mul (pe_int) (pv 3))) (pe_int)) (pe_int)))
  (pss_one (ps_ret (pe_op op_mod (pe_op op_fdiv (pe_op op_mod (pe_op op_mul (pv 5) (pe_op op_add (pv 5) (pe_int))) (pe_int)) (pe_int)) (pv 1))))))))))), ?_⟩
    have pc : c ≠ p := ne_of hc hp (by intro z; cases z)
    refine ⟨_, rfl, p, .int mo, rfl, getM hp, _, _, rfl, rfl, _, rfl, ?_⟩
    refine ite2 (fun hm => ?_) (fun hm => ?_)
    · have hm' : 0 < mo := of_decide_eq_true hm
      refine ⟨_, rfl, p, .int mo, rfl, getM hp, _, rfl, _, _, rfl, rfl, g0, ?_⟩
      refine ⟨_, rfl, p, .int mo, rfl, getM hp, _, rfl, _, _, rfl, rfl, ⟨g0, by omega⟩, _, rfl, p, _, rfl, setM _ hp, ?_⟩
      refine ⟨_, rfl, ?_⟩
      refine k _ _ (Int.emod_nonneg _ (by omega)) (Int.emod_lt_of_pos _ g0) (fun b o hb e => by rw [upd_ne hb]; exact e) ⟨ns, sp, _, upd_same, by rw [upd_ne pc]; exact hc, hl, s0, by omega, Int.ediv_nonneg m0 (by omega)⟩
    · refine ⟨_, rfl, p, .int sp, rfl, getS hp, ?_⟩
      refine ⟨_, rfl, _, _, rfl, rfl, _, rfl, p, _, rfl, setS _ hp, ?_⟩
      have hp1 : (upd H p (penO c (sp + 1) mo)) p = some (penO c (sp + 1) mo) := upd_same
      have hc1 : (upd H p (penO c (sp + 1) mo)) c = some (.lst (ns.map V.int)) := by rw [upd_ne pc]; exact hc
      generalize hH1 : upd H p (penO c (sp + 1) mo) = H1 at hp1 hc1 ⊢
      refine ⟨_, rfl, p, _, rfl, getC hp1, Nat.zero_le _, fun l hl' => ?_⟩
      have lp : p ≠ l := ne_of_none hp1 hl'
      have lc : c ≠ l := ne_of_none hc1 hl'
      have hp2 : (upd H1 l (.lst [])) p = some (penO c (sp + 1) mo) := by rw [upd_ne lp]; exact hp1
      have hc2 : (upd H1 l (.lst [])) c = some (.lst (ns.map V.int)) := by rw [upd_ne lc]; exact hc1
      have hl0 : H l = none := by
        rw [← hH1, upd_ne lp.symm] at hl'
        exact hl'
      have bt : But p H (upd H1 l (.lst [])) := fun b o hb e => by
        rw [upd_ne (ne_of_none e hl0), ← hH1, upd_ne hb]
        exact e
      refine ints_ne (SqL.of hc2) (SqL.of upd_same) ?_
      generalize upd H1 l (.lst []) = H2 at hp2 hc2 bt ⊢
      have ns0 : (ns.length : Int) = 0 ∨ 0 < (ns.length : Int) := by omega
      refine ⟨_, rfl, ?_⟩
      have bounds : ∀ z : Int, 0 ≤ z % 2147483647 ∧ z % 2147483647 < 2147483647 := fun z => ⟨Int.emod_nonneg _ (by decide), Int.emod_lt_of_pos _ (by decide)⟩
      -- what follows, whatever the cell is
      have kd : ∀ d : Int, 0 ≤ d → d < many → Q (.int d) H2 := fun d d0 d1 => k d H2 d0 d1 bt ⟨ns, sp + 1, mo, hp2, hc2, hl, by omega, by omega, m0⟩
      have km : ∀ d mo' : Int, 0 ≤ d → d < many → 0 ≤ mo' → Q (.int d) (upd H2 p (penO c (sp + 1) mo')) := fun d mo' d0 d1 m1 => k d _ d0 d1 (fun b o hb e => by rw [upd_ne hb]; exact bt b o hb e)
        ⟨ns, sp + 1, mo', upd_same, by rw [upd_ne pc]; exact hc2, hl, by omega, by omega, m1⟩
      cases hns : ns.isEmpty with
      | true =>
        refine iteF ?_
        refine ⟨_, rfl, _, _, rfl, rfl, .inl ⟨by decide, by decide⟩, _, _, rfl, rfl, ?_⟩
        refine ⟨_, rfl, _, rfl, p, _, rfl, getC hp2, c, _, rfl, .inl (SqL.of hc2), _, _, rfl, rfl, _, rfl, ?_⟩
        refine ite2 (fun _ => ?_) (fun _ => ?_)
        · refine ⟨_, rfl, _, rfl, _, _, rfl, rfl, ⟨by decide, by decide, by decide⟩, _, _, rfl, rfl, _, rfl, ?_⟩
          refine ite2 (fun hbig => ?_) (fun _ => ?_)
          · have hbig' := of_decide_eq_true hbig
            refine ⟨_, rfl, _, rfl, _, _, rfl, rfl, ⟨by decide, by decide, by decide⟩, _, _, rfl, rfl, _, rfl, _, _, rfl, rfl, ⟨g0, by omega⟩, _, rfl, p, _, rfl, setM _ hp2, ?_⟩
            refine ⟨_, rfl, _, rfl, _, _, rfl, rfl, ⟨by decide, by decide, by decide⟩, _, _, rfl, rfl, _, rfl, _, _, rfl, rfl, g0, ?_⟩
            exact km _ _ (Int.emod_nonneg _ (by omega)) (Int.emod_lt_of_pos _ g0) (Int.ediv_nonneg (Int.sub_nonneg_of_le hbig') (by omega))
          · refine ⟨_, rfl, _, _, rfl, rfl, (by decide : (0 : Int) < 2147483647), _, _, rfl, rfl, .inl (bnd (by decide) (by decide)), _, rfl, _, _, rfl, rfl, .inl ⟨by decide, by decide⟩, _, rfl, _, _, rfl, rfl, .inl (lim (by omega) (by omega)), _, _, rfl, rfl, _, rfl, _, _, rfl, rfl, .inl ⟨by decide, by decide⟩, _, _, rfl, rfl, _, _, rfl, rfl, _, _, rfl, rfl, (by decide : (0 : Int) < 2147483629), ?_⟩
            refine ⟨_, rfl, _, rfl, _, _, rfl, rfl, .inl (bnd (by decide) (by decide)), _, rfl, _, _, rfl, rfl, .inl ⟨by decide, by decide⟩, _, _, rfl, rfl, _, rfl, _, _, rfl, rfl, .inl ⟨by decide, by decide⟩, _, _, rfl, rfl, _, _, rfl, rfl, _, _, rfl, rfl, (by decide : (0 : Int) < 2147483587), ?_⟩
            refine ⟨_, rfl, _, rfl, _, _, rfl, rfl, _, _, rfl, rfl, .inl (bnd (by decide) (by decide)), _, _, rfl, rfl, (by decide : (0 : Int) < 2147483579), _, _, rfl, rfl, ⟨by decide, by decide⟩, _, rfl, _, _, rfl, rfl, g0, ?_⟩
            exact kd _ (Int.emod_nonneg _ (by omega)) (Int.emod_lt_of_pos _ g0)
        · refine iteF ?_
          refine ⟨_, rfl, _, _, rfl, rfl, (by decide : (0 : Int) < 2147483647), _, _, rfl, rfl, .inl (bnd (by decide) (by decide)), _, rfl, _, _, rfl, rfl, .inl ⟨by decide, by decide⟩, _, rfl, _, _, rfl, rfl, .inl (lim (by omega) (by omega)), _, _, rfl, rfl, _, rfl, _, _, rfl, rfl, .inl ⟨by decide, by decide⟩, _, _, rfl, rfl, _, _, rfl, rfl, _, _, rfl, rfl, (by decide : (0 : Int) < 2147483629), ?_⟩
          refine ⟨_, rfl, _, rfl, _, _, rfl, rfl, .inl (bnd (by decide) (by decide)), _, rfl, _, _, rfl, rfl, .inl ⟨by decide, by decide⟩, _, _, rfl, rfl, _, rfl, _, _, rfl, rfl, .inl ⟨by decide, by decide⟩, _, _, rfl, rfl, _, _, rfl, rfl, _, _, rfl, rfl, (by decide : (0 : Int) < 2147483587), ?_⟩
          refine ⟨_, rfl, _, rfl, _, _, rfl, rfl, _, _, rfl, rfl, .inl (bnd (by decide) (by decide)), _, _, rfl, rfl, (by decide : (0 : Int) < 2147483579), _, _, rfl, rfl, ⟨by decide, by decide⟩, _, rfl, _, _, rfl, rfl, g0, ?_⟩
          exact kd _ (Int.emod_nonneg _ (by omega)) (Int.emod_lt_of_pos _ g0)
      | false =>
        refine iteT ?_
        have ne0 : ns ≠ [] := fun z => by rw [z] at hns; cases hns
        have lpos : 0 < ns.length := List.length_pos_iff.mpr ne0
        have lpos' : (0 : Int) < ((ns.map V.int).length : Int) := by rw [List.length_map]; omega
        obtain ⟨cell, hcell⟩ := atI_ints (ns := ns) (Int.emod_nonneg sp (by omega)) (Int.emod_lt_of_pos sp lpos')
        refine ⟨_, rfl, p, _, rfl, getC hp2, _, rfl, ⟨_, rfl, p, _, rfl, getC hp2, c, _, rfl, .inl (SqL.of hc2), _, _, rfl, rfl, lpos', c, _, _, _, rfl, rfl, SqL.of hc2, hcell, ?_⟩⟩
        refine ⟨_, rfl, _, rfl, p, _, rfl, getC hp2, c, _, rfl, .inl (SqL.of hc2), _, _, rfl, rfl, _, rfl, ?_⟩
        refine ite2 (fun _ => ?_) (fun _ => ?_)
        · refine ⟨_, rfl, _, rfl, _, _, rfl, rfl, ⟨by decide, by decide, by decide⟩, _, _, rfl, rfl, _, rfl, ?_⟩
          refine ite2 (fun hbig => ?_) (fun _ => ?_)
          · have hbig' := of_decide_eq_true hbig
            refine ⟨_, rfl, _, rfl, _, _, rfl, rfl, ⟨by decide, by decide, by decide⟩, _, _, rfl, rfl, _, rfl, _, _, rfl, rfl, ⟨g0, by omega⟩, _, rfl, p, _, rfl, setM _ hp2, ?_⟩
            refine ⟨_, rfl, _, rfl, _, _, rfl, rfl, ⟨by decide, by decide, by decide⟩, _, _, rfl, rfl, _, rfl, _, _, rfl, rfl, g0, ?_⟩
            exact km _ _ (Int.emod_nonneg _ (by omega)) (Int.emod_lt_of_pos _ g0) (Int.ediv_nonneg (Int.sub_nonneg_of_le hbig') (by omega))
          · refine ⟨_, rfl, _, _, rfl, rfl, (by decide : (0 : Int) < 2147483647), _, _, rfl, rfl, .inl (bnd (by decide) (by decide)), _, rfl, _, _, rfl, rfl, .inl ⟨by decide, by decide⟩, _, rfl, _, _, rfl, rfl, .inl (lim (by omega) (by omega)), _, _, rfl, rfl, _, rfl, _, _, rfl, rfl, .inl ⟨by decide, by decide⟩, _, _, rfl, rfl, _, _, rfl, rfl, _, _, rfl, rfl, (by decide : (0 : Int) < 2147483629), ?_⟩
            refine ⟨_, rfl, _, rfl, _, _, rfl, rfl, .inl (bnd (by decide) (by decide)), _, rfl, _, _, rfl, rfl, .inl ⟨by decide, by decide⟩, _, _, rfl, rfl, _, rfl, _, _, rfl, rfl, .inl ⟨by decide, by decide⟩, _, _, rfl, rfl, _, _, rfl, rfl, _, _, rfl, rfl, (by decide : (0 : Int) < 2147483587), ?_⟩
            refine ⟨_, rfl, _, rfl, _, _, rfl, rfl, _, _, rfl, rfl, .inl (bnd (by decide) (by decide)), _, _, rfl, rfl, (by decide : (0 : Int) < 2147483579), _, _, rfl, rfl, ⟨by decide, by decide⟩, _, rfl, _, _, rfl, rfl, g0, ?_⟩
            exact kd _ (Int.emod_nonneg _ (by omega)) (Int.emod_lt_of_pos _ g0)
        · refine iteF ?_
          refine ⟨_, rfl, _, _, rfl, rfl, (by decide : (0 : Int) < 2147483647), _, _, rfl, rfl, .inl (bnd (by decide) (by decide)), _, rfl, _, _, rfl, rfl, .inl ⟨by decide, by decide⟩, _, rfl, _, _, rfl, rfl, .inl (lim (by omega) (by omega)), _, _, rfl, rfl, _, rfl, _, _, rfl, rfl, .inl ⟨by decide, by decide⟩, _, _, rfl, rfl, _, _, rfl, rfl, _, _, rfl, rfl, (by decide : (0 : Int) < 2147483629), ?_⟩
          refine ⟨_, rfl, _, rfl, _, _, rfl, rfl, .inl (bnd (by decide) (by decide)), _, rfl, _, _, rfl, rfl, .inl ⟨by decide, by decide⟩, _, _, rfl, rfl, _, rfl, _, _, rfl, rfl, .inl ⟨by decide, by decide⟩, _, _, rfl, rfl, _, _, rfl, rfl, _, _, rfl, rfl, (by decide : (0 : Int) < 2147483587), ?_⟩
          refine ⟨_, rfl, _, rfl, _, _, rfl, rfl, _, _, rfl, rfl, .inl (bnd (by decide) (by decide)), _, _, rfl, rfl, (by decide : (0 : Int) < 2147483579), _, _, rfl, rfl, ⟨by decide, by decide⟩, _, rfl, _, _, rfl, rfl, g0, ?_⟩
          exact kd _ (Int.emod_nonneg _ (by omega)) (Int.emod_lt_of_pos _ g0)
end
end Wf
namespace Wf
open PySem L2
abbrev s_InvalidWord___init : Stmt := inClass (top 2) 0
abbrev N_InvalidWord___init : List Str := ["self", "word"]
theorem sc_InvalidWord___init : FnScope N_InvalidWord___init ["self", "word"] (defScope s_InvalidWord___init) := ⟨rfl, rfl, rfl, by decide +kernel, rfl, by decide +kernel, by decide +kernel⟩
abbrev s_InvalidSample___init : Stmt := inClass (top 3) 0
abbrev N_InvalidSample___init : List Str := ["self", "word"]
theorem sc_InvalidSample___init : FnScope N_InvalidSample___init ["self", "word"] (defScope s_InvalidSample___init) := ⟨rfl, rfl, rfl, by decide +kernel, rfl, by decide +kernel, by decide +kernel⟩
abbrev s_InvalidText___init : Stmt := inClass (top 4) 0
abbrev N_InvalidText___init : List Str := ["self", "line"]
theorem sc_InvalidText___init : FnScope N_InvalidText___init ["self", "line"] (defScope s_InvalidText___init) := ⟨rfl, rfl, rfl, by decide +kernel, rfl, by decide +kernel, by decide +kernel⟩
abbrev s_UnknownWord___init : Stmt := inClass (top 5) 0
abbrev N_UnknownWord___init : List Str := ["self", "word"]
theorem sc_UnknownWord___init : FnScope N_UnknownWord___init ["self", "word"] (defScope s_UnknownWord___init) := ⟨rfl, rfl, rfl, by decide +kernel, rfl, by decide +kernel, by decide +kernel⟩
abbrev s_DuplicateWord___init : Stmt := inClass (top 6) 0
abbrev N_DuplicateWord___init : List Str := ["self", "word"]
theorem sc_DuplicateWord___init : FnScope N_DuplicateWord___init ["self", "word"] (defScope s_DuplicateWord___init) := ⟨rfl, rfl, rfl, by decide +kernel, rfl, by decide +kernel, by decide +kernel⟩
abbrev s_TooLarge___init : Stmt := inClass (top 7) 0
abbrev N_TooLarge___init : List Str := ["self", "limit"]
theorem sc_TooLarge___init : FnScope N_TooLarge___init ["self", "limit"] (defScope s_TooLarge___init) := ⟨rfl, rfl, rfl, by decide +kernel, rfl, by decide +kernel, by decide +kernel⟩
section
variable {P : Program} {w : World} {K : PySem.W.Frag} {mg : Str → Option Value} {base : Heap} {fI : Addr} {fd : FuncData}
theorem ok_i_InvalidWord (F : Fun K "__init__" "InvalidWord.__init__" s_InvalidWord___init fI fd) : FnOk P w K mg base CX0 1 fI fd ["self", "word"] (spInit K "word") := by
  refine F.ok sc_InvalidWord___init (fun vs H Q E h => ?_) (fun cdv A outer s H vs Q E hr h => ?_)
  · obtain ⟨a, C, y, rfl, _⟩ := h
    rfl
  · refine ⟨_, (pss_one (ps_ov (pv 0) (pv 1))), ?_⟩
    obtain ⟨a, C, y, rfl, ea, T, hno, k⟩ := h
    exact ⟨_, rfl, _, rfl, a, C, rfl, T, hno, ea, fun d nd ne => k d nd ne⟩
theorem ok_i_InvalidSample (F : Fun K "__init__" "InvalidSample.__init__" s_InvalidSample___init fI fd) : FnOk P w K mg base CX0 1 fI fd ["self", "word"] (spInit K "word") := by
  refine F.ok sc_InvalidSample___init (fun vs H Q E h => ?_) (fun cdv A outer s H vs Q E hr h => ?_)
  · obtain ⟨a, C, y, rfl, _⟩ := h
    rfl
  · refine ⟨_, (pss_one (ps_ov (pv 0) (pv 1))), ?_⟩
    obtain ⟨a, C, y, rfl, ea, T, hno, k⟩ := h
    exact ⟨_, rfl, _, rfl, a, C, rfl, T, hno, ea, fun d nd ne => k d nd ne⟩
theorem ok_i_InvalidText (F : Fun K "__init__" "InvalidText.__init__" s_InvalidText___init fI fd) : FnOk P w K mg base CX0 1 fI fd ["self", "line"] (spInit K "line") := by
  refine F.ok sc_InvalidText___init (fun vs H Q E h => ?_) (fun cdv A outer s H vs Q E hr h => ?_)
  · obtain ⟨a, C, y, rfl, _⟩ := h
    rfl
  · refine ⟨_, (pss_one (ps_ov (pv 0) (pv 1))), ?_⟩
    obtain ⟨a, C, y, rfl, ea, T, hno, k⟩ := h
    exact ⟨_, rfl, _, rfl, a, C, rfl, T, hno, ea, fun d nd ne => k d nd ne⟩
theorem ok_i_UnknownWord (F : Fun K "__init__" "UnknownWord.__init__" s_UnknownWord___init fI fd) : FnOk P w K mg base CX0 1 fI fd ["self", "word"] (spInit K "word") := by
  refine F.ok sc_UnknownWord___init (fun vs H Q E h => ?_) (fun cdv A outer s H vs Q E hr h => ?_)
  · obtain ⟨a, C, y, rfl, _⟩ := h
    rfl
  · refine ⟨_, (pss_one (ps_ov (pv 0) (pv 1))), ?_⟩
    obtain ⟨a, C, y, rfl, ea, T, hno, k⟩ := h
    exact ⟨_, rfl, _, rfl, a, C, rfl, T, hno, ea, fun d nd ne => k d nd ne⟩
theorem ok_i_DuplicateWord (F : Fun K "__init__" "DuplicateWord.__init__" s_DuplicateWord___init fI fd) : FnOk P w K mg base CX0 1 fI fd ["self", "word"] (spInit K "word") := by
  refine F.ok sc_DuplicateWord___init (fun vs H Q E h => ?_) (fun cdv A outer s H vs Q E hr h => ?_)
  · obtain ⟨a, C, y, rfl, _⟩ := h
    rfl
  · refine ⟨_, (pss_one (ps_ov (pv 0) (pv 1))), ?_⟩
    obtain ⟨a, C, y, rfl, ea, T, hno, k⟩ := h
    exact ⟨_, rfl, _, rfl, a, C, rfl, T, hno, ea, fun d nd ne => k d nd ne⟩
theorem ok_i_TooLarge (F : Fun K "__init__" "TooLarge.__init__" s_TooLarge___init fI fd) : FnOk P w K mg base CX0 1 fI fd ["self", "limit"] (spInit K "limit") := by
  refine F.ok sc_TooLarge___init (fun vs H Q E h => ?_) (fun cdv A outer s H vs Q E hr h => ?_)
  · obtain ⟨a, C, y, rfl, _⟩ := h
    rfl
  · refine ⟨_, (pss_one (ps_ov (pv 0) (pv 1))), ?_⟩
    obtain ⟨a, C, y, rfl, ea, T, hno, k⟩ := h
    exact ⟨_, rfl, _, rfl, a, C, rfl, T, hno, ea, fun d nd ne => k d nd ne⟩
end
end Wf
namespace Wf
open PySem L2
abbrev s_law_pick : Stmt := top 41
abbrev N_law_pick : List Str := ["pen", "some"]
theorem sc_law_pick : FnScope N_law_pick ["pen", "some"] (defScope s_law_pick) := ⟨rfl, rfl, rfl, by decide +kernel, rfl, by decide +kernel, by decide +kernel⟩
abbrev s_law_shuffled : Stmt := top 42
abbrev N_law_shuffled : List Str := ["pen", "some", "rest", "found"]
theorem sc_law_shuffled : FnScope N_law_shuffled ["pen", "some"] (defScope s_law_shuffled) := ⟨rfl, rfl, rfl, by decide +kernel, rfl, by decide +kernel, by decide +kernel⟩
def spPick (K : PySem.W.Frag) : Sp := fun vs H Q _ => ∃ (p c : Addr) (n : Nat), Pen H p c n ∧ n < 1000000 ∧
  ((∃ (a : Addr) (xs : List V), vs = [.ref p, .ref a] ∧ (SqL K H a xs ∨ SqT K H a xs) ∧ 0 < xs.length ∧ xs.length < 1000000 ∧ ∀ (x : V) (H' : Hp), x ∈ xs → But p H H' → Pen H' p c (n + 1) → Q x H') ∨
   (∃ z : Str, vs = [.ref p, .str z] ∧ 0 < z.length ∧ z.length < 1000000 ∧ ∀ (ch : Nat) (H' : Hp), ch ∈ z.cps.toList → But p H H' → Pen H' p c (n + 1) → Q (.str ⟨#[ch]⟩) H'))
def spShuffled (K : PySem.W.Frag) : Sp := fun vs H Q _ => ∃ (p c a : Addr) (n : Nat) (xs : List V), vs = [.ref p, .ref a] ∧ Pen H p c n ∧ (SqL K H a xs ∨ SqT K H a xs) ∧ xs.length ≤ 10000 ∧ n + xs.length < 1000000 ∧ Dat K H xs ∧
  ∀ (l : Addr) (ys : List V) (H' : Hp), But p H H' → Pen H' p c (n + xs.length) → H l = none → H' l = some (.lst ys) → ys.Perm xs → Q (.ref l) H'
theorem atI_mem {α : Type} {xs : List α} {i : Int} {y : α} (h : atI xs i = some y) : y ∈ xs := by
  unfold atI at h
  obtain ⟨j, _, hj⟩ := Option.bind_eq_some_iff.mp h
  exact List.mem_of_getElem? hj
theorem seqIx {j n : Nat} (h : j < n) : seqIndex? (j : Int) n = some j := by
  have e : ixN n (j : Int) = some j := by
    unfold ixN
    rw [if_pos (by omega), if_pos (by omega)]
    simp
  exact (ixN_seq e).1
theorem take_out {α : Type} : ∀ {xs : List α} {j : Nat} (h : j < xs.length), (xs[j] :: xs.eraseIdx j).Perm xs
  | x :: xs, 0, _ => List.Perm.refl _
  | x :: xs, j + 1, h => by
    have e := take_out (xs := xs) (j := j) (Nat.lt_of_succ_lt_succ h)
    exact (List.Perm.swap x _ _).trans (List.Perm.cons x e)
section
variable {P : Program} {w : World} {K : PySem.W.Frag} {mg : Str → Option Value} {base : Heap}
theorem ok_pick {f : Addr} {fd : FuncData} (F : Fun K "_law_pick" "_law_pick" s_law_pick f fd) (T : Txt K mg) (D_law_draw : Dn P w K mg base 1 "_law_draw" ["pen", "many"] spDraw) : FnOk P w K mg base CX0 2 f fd ["pen", "some"] (spPick K) := by
  refine F.ok sc_law_pick (fun vs H Q E h => ?_) (fun cdv A outer s H vs Q E hr h => ?_)
  · obtain ⟨p, c, n, _, _, ⟨a, xs, rfl, _⟩ | ⟨z, rfl, _⟩⟩ := h <;> rfl
  · refine ⟨_, (pss_one (ps_ret (pe_ix ix_seq (pv 1) (pe_cl D_law_draw (hr.mono (by decide)) (pa_cons (pv 0) (pa_cons (pe_callB call_len (by rfl) T.z_len PySem.boot_len (pa_cons (pv 1) pa_nil)) pa_nil))) (fun _ _ => rfl)))), ?_⟩
    obtain ⟨p, c, n, hp, hn, ⟨a, xs, rfl, hs, l0, l1, k⟩ | ⟨z, rfl, l0, l1, k⟩⟩ := h
    · have hlen : LenV K (.ref a) H xs.length := hs.elim (fun h => .inl ⟨xs, h, rfl⟩) (fun h => .inr ⟨xs, h, rfl⟩)
      refine ⟨_, rfl, _, rfl, _, rfl, _, _, rfl, hlen, p, c, n, _, rfl, hp, by omega, by omega, by omega, fun d H' d0 d1 bt hp' => ?_⟩
      obtain ⟨y, hy⟩ := atI_in d0 d1
      rcases hs with hs | hs
      · exact .inl ⟨a, xs, d, y, rfl, rfl, bt.sql hp hs, hy, k y H' (atI_mem hy) bt hp'⟩
      · exact .inr (.inl ⟨a, xs, d, y, rfl, rfl, bt.sqt hp hs, hy, k y H' (atI_mem hy) bt hp'⟩)
    · have hz : z.length ≤ sizeLine := by rw [sizeLine_eq]; omega
      refine ⟨_, rfl, _, rfl, _, rfl, _, _, rfl, ⟨hz, rfl⟩, p, c, n, _, rfl, hp, by omega, by omega, by omega, fun d H' d0 d1 bt hp' => ?_⟩
      obtain ⟨ch, hc⟩ := atI_in (xs := z.cps.toList) d0 (by rw [Array.length_toList]; exact d1)
      exact .inr (.inr ⟨z, d, ch, rfl, rfl, hz, hc, k ch H' (atI_mem hc) bt hp'⟩)
theorem ok_shuffled {f : Addr} {fd : FuncData} (F : Fun K "_law_shuffled" "_law_shuffled" s_law_shuffled f fd) (T : Txt K mg) (D_law_draw : Dn P w K mg base 1 "_law_draw" ["pen", "many"] spDraw) : FnOk P w K mg base CX0 2 f fd ["pen", "some"] (spShuffled K) := by
  refine F.ok sc_law_shuffled (fun vs H Q E h => ?_) (fun cdv A outer s H vs Q E hr h => ?_)
  · obtain ⟨p, c, a, n, xs, rfl, _⟩ := h
    rfl
  · refine ⟨_, (pss_cons (ps_par (i := 2) (j := 3) (by rfl) sc_law_shuffled.nd rfl rfl (by decide) rfl rfl (pa_cons (pe_callTy call_list_of (by rfl) T.z_list (by decide +kernel) (pa_cons (pv 1) pa_nil)) (pa_cons (pe_lst pa_nil) pa_nil)) (by rfl))
  (pss_cons (ps_while PassesOwn.never (pt_cmpR (op_neD hr.units) (pv 2) (pe_lst pa_nil) (nomark _)) (pss_one (ps_expr (pe_bm PySem.F.plainAttrs_list PySem.F.slot_list_append PySem.F.type_list_append mt_append (pv 3) (pa_cons (pe_bm PySem.F.plainAttrs_list PySem.F.slot_list_pop PySem.F.type_list_pop mt_popAt (pv 2) (pa_cons (pe_cl D_law_draw (hr.mono (by decide)) (pa_cons (pv 0) (pa_cons (pe_callB call_len_seq (by rfl) T.z_len PySem.boot_len (pa_cons (pv 2) pa_nil)) pa_nil))) pa_nil)) pa_nil)))))
  (pss_one (ps_ret (pv 3))))), ?_⟩
    obtain ⟨p, c, a, n, xs, rfl, hp, hs, hl, hn, hd, k⟩ := h
    refine ⟨_, rfl, a, xs, rfl, hs, fun r hr0 => ?_⟩
    refine ⟨Nat.zero_le _, fun g hg0 => ?_⟩
    refine ⟨_, _, rfl, ?_⟩
    have rg : r ≠ g := ne_of_none upd_same hg0
    have hg1 : H g = none := by rw [upd_ne rg.symm] at hg0; exact hg0
    have rp : r ≠ p := fun z => by
      obtain ⟨kvs, e⟩ := hp.at
      rw [z, e] at hr0
      cases hr0
    have gp : g ≠ p := fun z => by
      obtain ⟨kvs, e⟩ := hp.at
      rw [z, e] at hg1
      cases hg1
    have cr : c ≠ r := fun z => by
      obtain ⟨ys, e⟩ := hp.cell
      rw [z, hr0] at e
      cases e
    have cg : c ≠ g := fun z => by
      obtain ⟨ys, e⟩ := hp.cell
      rw [z, hg1] at e
      cases e
    refine while_by (fun σ H' => ∃ (rs gs : List V), σ = [some (.ref p), some (.ref a), some (.ref r), some (.ref g)] ∧ But p H H' ∧ Pen H' p c (n + gs.length) ∧ H' r = some (.lst rs) ∧ H' g = some (.lst gs) ∧ (gs ++ rs).Perm xs)
      (fun _ H' => match H' r with | some (.lst rs) => rs.length | _ => 0) ?_ ?_ ?_
    · have s2 : Same H (upd (upd H r (.lst xs)) g (.lst [])) := fun b o e => by rw [upd_ne (ne_of_none e hg1), upd_ne (ne_of_none e hr0)]; exact e
      exact ⟨xs, [], rfl, But.of s2, hp.same s2, by rw [upd_ne rg, upd_same], upd_same, List.Perm.refl _⟩
    · rintro σ H' ⟨rs, gs, rfl, bt, hp', hr1, hg2, pm⟩
      have plen : gs.length + rs.length = xs.length := by rw [← List.length_append]; exact pm.length_eq
      have dt : Dat K H' rs := (hd.sub fun y hy => pm.mem_iff.mp (List.mem_append_right _ hy)).stay (bt.stay hp)
      refine ⟨_, rfl, Nat.zero_le _, fun l hl0 => ?_⟩
      have rl : r ≠ l := ne_of_none hr1 hl0
      have gl : g ≠ l := ne_of_none hg2 hl0
      have s3 : Same H' (upd H' l (.lst [])) := fun b o e => by rw [upd_ne (ne_of_none e hl0)]; exact e
      refine data_ne (SqL.of (s3 _ _ hr1)) (dt.stay (Stay.of s3)) (SqL.of upd_same) ?_
      have bt3 := bt.same s3
      have hp3 := hp'.same s3
      have hr3 := s3 _ _ hr1
      have hg3 := s3 _ _ hg2
      have mu : (match H' r with | some (.lst rs) => rs.length | _ => 0) = rs.length := by rw [hr1]
      rw [mu]
      generalize upd H' l (.lst []) = H3 at bt3 hp3 hr3 hg3 ⊢
      refine ⟨_, rfl, ?_⟩
      cases hrs : rs with
      | nil =>
        refine iteF ?_
        refine ⟨_, rfl, ?_⟩
        subst hrs
        rw [List.append_nil] at pm
        refine k g gs H3 bt3 ?_ hg1 hg3 pm
        rw [← pm.length_eq]
        exact hp3
      | cons z zs =>
        refine iteT ?_
        have rpos : 0 < rs.length := by rw [hrs]; exact Nat.succ_pos _
        rw [← hrs]
        refine ⟨_, rfl, .inl ⟨rfl, _, SqL.of hg3⟩, _, rfl, .inl ⟨rfl, _, SqL.of hr3⟩, _, rfl, _, rfl, r, _, rfl, .inl (SqL.of hr3), p, c, _, _, rfl, hp3, by omega, by omega, by omega, fun d H4 d0 d1 bt4 hp4 => ?_⟩
        obtain ⟨j, rfl⟩ := Int.eq_ofNat_of_zero_le d0
        have hj : j < rs.length := by omega
        have hr4 : H4 r = some (.lst rs) := bt4 _ _ rp hr3
        have hg4 : H4 g = some (.lst gs) := bt4 _ _ gp hg3
        refine ⟨r, rs, (j : Int), j, rs[j], rfl, rfl, hr4, by omega, by omega, seqIx hj, List.getElem?_eq_getElem hj, ?_⟩
        refine ⟨g, gs, _, rfl, rfl, by rw [upd_ne rg.symm]; exact hg4, ?_, ?_⟩
        · have : gs.length ≤ 10000 := by omega
          exact Nat.lt_of_le_of_lt this (by decide)
        · refine ⟨⟨rs.eraseIdx j, gs ++ [rs[j]], rfl, fun b o hb e => ?_, ?_, by rw [upd_ne rg, upd_same], upd_same, ?_⟩, ?_⟩
          · rw [upd_ne (ne_of_none e hg1), upd_ne (ne_of_none e hr0)]
            exact bt4 b o hb (bt3 b o hb e)
          · rw [List.length_append, ← Nat.add_assoc]
            refine hp4.keep fun b o hb e => ?_
            have n1 : b ≠ g := by
              rcases hb with rfl | rfl
              · exact gp.symm
              · exact fun z => cg z
            have n2 : b ≠ r := by
              rcases hb with rfl | rfl
              · exact rp.symm
              · exact fun z => cr z
            rw [upd_ne n1, upd_ne n2]
            exact e
          · have e1 : (rs.eraseIdx j).Perm (rs.eraseIdx j) := List.Perm.refl _
            have e2 : (rs[j] :: rs.eraseIdx j).Perm rs := take_out hj
            rw [List.append_assoc]
            exact (List.Perm.append_left gs e2).trans pm
          · show (match (upd (upd H4 r (.lst (rs.eraseIdx j))) g (.lst (gs ++ [rs[j]]))) r with | some (.lst rs) => rs.length | _ => 0) < rs.length
            rw [upd_ne rg, upd_same]
            show (rs.eraseIdx j).length < rs.length
            rw [List.length_eraseIdx_of_lt hj]
            omega
    · intro σ H' Q' Q'' hQ h
      obtain ⟨v, e, z, kk⟩ := h
      refine ⟨v, e, z, fun l hl0 => ?_⟩
      obtain ⟨d, e', a1, a2, a3, a4, b, eb, q⟩ := kk l hl0
      exact ⟨d, e', a1, a2, a3, a4, b, eb, hQ _ _ q⟩
end
end Wf
namespace Wf
open PySem L2
abbrev s_law_letters : Stmt := top 43
abbrev N_law_letters : List Str := ["pen", "most", "alphabet", "places", "at"]
theorem sc_law_letters : FnScope N_law_letters ["pen", "most"] (defScope s_law_letters) := ⟨rfl, rfl, rfl, by decide +kernel, rfl, by decide +kernel, by decide +kernel⟩
abbrev s_law_word : Stmt := top 44
abbrev N_law_word : List Str := ["pen", "letters", "most", "at"]
theorem sc_law_word : FnScope N_law_word ["pen", "letters", "most"] (defScope s_law_word) := ⟨rfl, rfl, rfl, by decide +kernel, rfl, by decide +kernel, by decide +kernel⟩
/-- letters: in ascending order, all different -/
def Ltrs (z : Str) (most : Nat) : Prop := z.cps.toList.Pairwise (· < ·) ∧ (∀ ch ∈ z.cps.toList, 97 ≤ ch ∧ ch ≤ 122) ∧ 1 ≤ z.length ∧ z.length ≤ most
def spLetters : Sp := fun vs H Q _ => ∃ (p c : Addr) (n : Nat) (most : Int), vs = [.ref p, .int most] ∧ Pen H p c n ∧ n < 900000 ∧ 1 ≤ most ∧ most ≤ 26 ∧
  ∀ (z : Str) (H' : Hp), But p H H' → Pen H' p c (n + 27) → Ltrs z most.toNat → Q (.str z) H'
def spWord : Sp := fun vs H Q _ => ∃ (p c : Addr) (n : Nat) (z : Str) (most : Int), vs = [.ref p, .str z, .int most] ∧ Pen H p c n ∧ n < 900000 ∧ 0 < z.length ∧ z.length < 1000 ∧ 0 ≤ most ∧ most < 1000 ∧
  ∀ (y : Str) (H' : Hp), But p H H' → Pen H' p c (n + 1 + most.toNat) → y.length ≤ most.toNat → (∀ ch ∈ y.cps.toList, ch ∈ z.cps.toList) → Q (.str y) H'
theorem perm_of_map {α β : Type} {f : α → β} : ∀ {l : List α} {ys : List β}, ys.Perm (l.map f) → ∃ l' : List α, ys = l'.map f ∧ l'.Perm l
  | [], ys, h => ⟨[], by rw [List.map_nil] at h; exact List.Perm.eq_nil h, .refl _⟩
  | a :: l, ys, h => by
    have hm : f a ∈ ys := h.mem_iff.mpr List.mem_cons_self
    obtain ⟨s, t, rfl⟩ := List.append_of_mem hm
    have h2 : (s ++ t).Perm (l.map f) := by
      have h3 : (f a :: (s ++ t)).Perm (f a :: l.map f) := (List.perm_middle.symm).trans h
      exact List.Perm.cons_inv h3
    obtain ⟨l', e, pm⟩ := perm_of_map h2
    obtain ⟨l1, l2, rfl, e1, e2⟩ := List.map_eq_append_iff.mp e.symm
    refine ⟨l1 ++ a :: l2, by rw [List.map_append, List.map_cons, e1, e2], List.perm_middle.trans (List.Perm.cons a pm)⟩
theorem cut_front {α : Type} {f : α → V} {ns : List α} {k : Int} (h : 0 ≤ k) : cutV (ns.map f) none (some k) = (ns.take k.toNat).map f := by
  unfold cutV
  have e1 : HT.sIx (ns.map f).length 0 Option.none = 0 := rfl
  have e2 : HT.sIx (ns.map f).length (ns.map f).length (some k) = min k.toNat ns.length := by
    rw [List.length_map]
    obtain ⟨j, rfl⟩ := Int.eq_ofNat_of_zero_le h
    exact HT.sIx_nat ns.length ns.length j
  rw [e1, e2, List.drop_zero, Nat.sub_zero, ← List.map_take]
  congr 1
  by_cases q : k.toNat ≤ ns.length
  · rw [Nat.min_eq_left q]
  · rw [Nat.min_eq_right (by omega), List.take_of_length_le (Nat.le_refl _), List.take_of_length_le (by omega)]
theorem str_app (x y : Str) : (x ++ y).cps.toList = x.cps.toList ++ y.cps.toList := Array.toList_append
theorem join_empty : ∀ ys : List Str, (Txt.join ("" : Str) ys).cps.toList = ys.flatMap fun y => y.cps.toList
  | [] => rfl
  | [y] => by
    show y.cps.toList = [y].flatMap _
    simp
  | y :: z :: r => by
    have e := join_empty (z :: r)
    have e2 : Txt.join ("" : Str) (y :: z :: r) = y ++ ("" : Str) ++ Txt.join ("" : Str) (z :: r) := by
      unfold Txt.join
      rw [StrLaws.glued_eq_join, StrLaws.glued_eq_join]
      rfl
    rw [e2, str_app, str_app, e]
    show (y.cps.toList ++ []) ++ _ = _
    rw [List.append_nil]
    simp
/-- 0 to 25 -/
def i26 : List Int := (List.range 26).map fun i => (0 : Int) + (i : Nat)
theorem rg26 : rgV 0 26 = i26.map V.int := by
  unfold rgV i26
  rw [List.map_map]
  rfl
theorem i26_nd : i26.Nodup := by decide
theorem i26_in : ∀ i ∈ i26, 0 ≤ i ∧ i ≤ 25 := by decide
theorem i26_len : i26.length = 26 := by decide
def abc : Str := "abcdefghijklmnopqrstuvwxyz"
theorem abc_at : ∀ i ∈ i26, atI abc.cps.toList i = some (97 + i.toNat) := by decide +kernel
/-- one letter, by its place -/
def sg (i : Int) : Str := ⟨#[97 + i.toNat]⟩
theorem sg_all : ∀ ks : List Int, ((ks.map sg).flatMap fun y : Str => y.cps.toList) = ks.map fun i => 97 + i.toNat
  | [] => rfl
  | i :: ks => by
    rw [List.map_cons, List.flatMap_cons, sg_all ks]
    rfl
theorem sg_len (ks : List Int) : ((ks.map sg).map (·.length)).sum = ks.length := by
  induction ks with
  | nil => rfl
  | cons i ks ih =>
    rw [List.map_cons, List.map_cons, List.sum_cons, ih, List.length_cons]
    show 1 + ks.length = ks.length + 1
    omega
theorem asc_of {ks : List Int} (h : ks.Pairwise (· ≤ ·)) (nd : ks.Nodup) (b : ∀ i ∈ ks, 0 ≤ i) : (ks.map fun i => 97 + i.toNat).Pairwise (· < ·) := by
  rw [List.pairwise_map]
  have h2 : ks.Pairwise fun a b => a ≤ b ∧ a ≠ b := h.and nd
  refine List.Pairwise.imp_of_mem (fun ha hb hab => ?_) h2
  have := b _ ha
  have := b _ hb
  omega
theorem ones {z : Str} : ∀ {ys : List Str}, (∀ y ∈ ys, ∃ ch ∈ z.cps.toList, y = (⟨#[ch]⟩ : Str)) → (ys.map (·.length)).sum = ys.length
  | [], _ => rfl
  | y :: ys, h => by
    obtain ⟨ch, _, rfl⟩ := h y List.mem_cons_self
    rw [List.map_cons, List.sum_cons, ones (ys := ys) fun x hx => h x (List.mem_cons_of_mem _ hx), List.length_cons]
    show 1 + ys.length = ys.length + 1
    omega
section
variable {P : Program} {w : World} {K : PySem.W.Frag} {mg : Str → Option Value} {base : Heap}
theorem ok_letters {f : Addr} {fd : FuncData} (F : Fun K "_law_letters" "_law_letters" s_law_letters f fd) (T : Txt K mg) (D_law_draw : Dn P w K mg base 1 "_law_draw" ["pen", "many"] spDraw)
    (D_law_shuffled : Dn P w K mg base 2 "_law_shuffled" ["pen", "some"] (spShuffled K)) : FnOk P w K mg base CX0 3 f fd ["pen", "most"] spLetters := by
  refine F.ok sc_law_letters (fun vs H Q E h => ?_) (fun cdv A outer s H vs Q E hr h => ?_)
  · obtain ⟨p, c, n, most, rfl, _⟩ := h
    rfl
  · refine ⟨_, (pss_cons (ps_set (i := 2) sc_law_letters.nd rfl (Or.inr rfl) (pe_str))
  (pss_cons (ps_set (i := 3) sc_law_letters.nd rfl (Or.inl rfl) (pe_callB cr_sorted (by rfl) T.z_sorted (by decide +kernel) (pa_cons (pe_slice sl_list (pe_cl D_law_shuffled (hr.mono (by decide)) (pa_cons (pv 0) (pa_cons (pe_listRg rfl (by rfl) T.z_list (prg_1 (by rfl) T.z_range (pe_int))) pa_nil))) po_none (po_some (pe_op op_add (pe_int) (pe_cl D_law_draw (hr.mono (by decide)) (pa_cons (pv 0) (pa_cons (pv 1) pa_nil)))))) pa_nil)))
  (pss_one (ps_ret (pe_join (pe_str) (pe_lc (own := [("at", 4)]) (g := gName 4) (tt := tYes) (by rfl) sc_law_letters.nd (pi_list (pv 3)) (blkOk_by (own := [("at", 4)]) (N := N_law_letters) (sc := defScope s_law_letters) (by decide +kernel)) (fun _ _ _ _ _ => (pg_name (i := 4) sc_law_letters.nd rfl (Or.inl rfl))) (fun _ _ _ _ _ => pts_nil) (fun _ _ _ _ _ => (pe_ix ix_str (pv 2) (pv 4) (fun _ _ => rfl))))))))), ?_⟩
    obtain ⟨p, c, n, most, rfl, hp, hn, m1, m2, k⟩ := h
    refine ⟨_, rfl, _, rfl, RgOk.of_le (by decide) (by decide) (by decide) (by decide), fun q hq => ?_⟩
    rw [rg26]
    have s1 : Same H (upd H q (.lst (i26.map V.int))) := fun b o e => by rw [upd_ne (ne_of_none e hq)]; exact e
    have hp1 := hp.same s1
    have bt1 : But p H (upd H q (.lst (i26.map V.int))) := But.of s1
    have hq1 : SqL K (upd H q (.lst (i26.map V.int))) q (i26.map V.int) := SqL.of upd_same
    generalize upd H q (.lst (i26.map V.int)) = H1 at s1 hp1 bt1 hq1 ⊢
    refine ⟨p, c, q, n, i26.map V.int, rfl, hp1, .inl hq1, by rw [List.length_map, i26_len]; decide, by rw [List.length_map, i26_len]; omega, fun x hx => ?_, fun l ys H2 bt2 hp2 hl0 hl2 pm => ?_⟩
    · obtain ⟨i, _, rfl⟩ := List.mem_map.mp hx
      exact ⟨.int i, .int i, pl_int⟩
    obtain ⟨ns, rfl, pn⟩ := perm_of_map pm
    rw [List.length_map, i26_len] at hp2
    refine ⟨_, rfl, _, rfl, p, c, n + 26, most, rfl, hp2, by omega, by omega, by omega, fun d H3 d0 d1 bt3 hp3 => ?_⟩
    have hl3 : SqL K H3 l (ns.map V.int) := bt3.sql hp2 (SqL.of hl2)
    refine ⟨_, _, rfl, rfl, _, rfl, l, _, rfl, hl3, fun r hr0 => ?_⟩
    rw [cut_front (by omega)]
    have s4 : Same H3 (upd H3 r (.lst ((ns.take (1 + d).toNat).map V.int))) := fun b o e => by rw [upd_ne (ne_of_none e hr0)]; exact e
    have bt4 := ((bt1.trans bt2).trans bt3).same s4
    have hp4 := hp3.same s4
    have hr4 : SqL K (upd H3 r (.lst ((ns.take (1 + d).toNat).map V.int))) r ((ns.take (1 + d).toNat).map V.int) := SqL.of upd_same
    generalize upd H3 r (.lst ((ns.take (1 + d).toNat).map V.int)) = H4 at s4 bt4 hp4 hr4 ⊢
    have nl : ns.length = 26 := by rw [pn.length_eq, i26_len]
    have kl : (ns.take (1 + d).toNat).length = (1 + d).toNat := by rw [List.length_take, nl]; omega
    refine ⟨r, _, rfl, hr4, by rw [kl]; omega, fun ks q5 pk ok hq5 => ?_⟩
    have s5 : Same H4 (upd H4 q5 (.lst (ks.map V.int))) := fun b o e => by rw [upd_ne (ne_of_none e hq5)]; exact e
    have bt5 := bt4.same s5
    have hp5 := hp4.same s5
    have hr5 : SqL K (upd H4 q5 (.lst (ks.map V.int))) q5 (ks.map V.int) := SqL.of upd_same
    generalize upd H4 q5 (.lst (ks.map V.int)) = H5 at s5 bt5 hp5 hr5 ⊢
    have k_in : ∀ i ∈ ks, i ∈ i26 := fun i hi => pn.mem_iff.mp (List.mem_of_mem_take (pk.mem_iff.mp hi))
    have k_nd : ks.Nodup := pk.nodup_iff.mpr ((pn.nodup_iff.mpr i26_nd).sublist (List.take_sublist _ _))
    have k_len : ks.length = (1 + d).toNat := by rw [pk.length_eq, kl]
    refine ⟨⟨_, rfl⟩, _, rfl, q5, rfl, ⟨_, hr5⟩, fun D hD => lc_list (K := K) (a := q5) (xs := ks.map V.int) (fun i H' => Same H5 H' ∧ H' D = some (.lst (((ks.take i).map sg).map V.str))) ?_ ?_ ?_ ?_⟩
    · exact ⟨fun b o e => by rw [upd_ne (ne_of_none e hD)]; exact e, upd_same⟩
    · rintro i H' _ ⟨sm, _⟩
      exact sm.seq hr5
    · rintro i x H' hi ⟨sm, hD'⟩
      rw [List.getElem?_map] at hi
      obtain ⟨m, hm, rfl⟩ := Option.map_eq_some_iff.mp hi
      have hmem : m ∈ ks := List.mem_of_getElem? hm
      refine ⟨rfl, ?_⟩
      refine ⟨_, rfl, _, rfl, abc, m, _, rfl, rfl, by decide +kernel, abc_at m (k_in m hmem), ?_⟩
      refine ⟨_, hD', ?_, fun b o e => ?_, ?_⟩
      · rw [List.length_map, List.length_map]
        have : (ks.take i).length ≤ 26 := by rw [List.length_take, k_len]; omega
        exact Nat.lt_of_le_of_lt this (by decide)
      · rw [upd_ne (ne_of_none e hD)]
        exact sm b o e
      · rw [upd_same, List.take_succ, hm, List.map_append, List.map_append]
        rfl
    · rintro H' ⟨sm, hD'⟩
      rw [List.length_map, List.take_length] at hD'
      refine ⟨_, D, ks.map sg, rfl, rfl, .inl (SqL.of hD'), ?_, ?_⟩
      · rw [sg_len, List.length_map]
        show ks.length + ks.length * 0 ≤ 16777216
        omega
      · have e := (join_empty (ks.map sg)).trans (sg_all ks)
        have b0 : ∀ i ∈ ks, 0 ≤ i := fun i hi => (i26_in i (k_in i hi)).1
        refine k _ H' (bt5.same sm) (hp5.same sm) ⟨?_, ?_, ?_, ?_⟩
        · rw [e]
          exact asc_of ok k_nd b0
        · rw [e]
          intro ch hch
          obtain ⟨i, hi, rfl⟩ := List.mem_map.mp hch
          have := i26_in i (k_in i hi)
          omega
        all_goals
          have el := congrArg List.length e
          rw [Array.length_toList, List.length_map, k_len] at el
          show _ ≤ _
          first | (show 1 ≤ (Txt.join _ _).cps.size; omega) | (show (Txt.join _ _).cps.size ≤ _; omega)
theorem ok_word {f : Addr} {fd : FuncData} (F : Fun K "_law_word" "_law_word" s_law_word f fd) (T : Txt K mg) (D_law_draw : Dn P w K mg base 1 "_law_draw" ["pen", "many"] spDraw)
    (D_law_pick : Dn P w K mg base 2 "_law_pick" ["pen", "some"] (spPick K)) : FnOk P w K mg base CX0 3 f fd ["pen", "letters", "most"] spWord := by
  refine F.ok sc_law_word (fun vs H Q E h => ?_) (fun cdv A outer s H vs Q E hr h => ?_)
  · obtain ⟨p, c, n, z, most, rfl, _⟩ := h
    rfl
  · refine ⟨_, (pss_one (ps_ret (pe_join (pe_str) (pe_lc (own := [("at", 3)]) (g := gName 3) (tt := tYes) (by rfl) sc_law_word.nd (pi_range1 (by rfl) T.z_range (pa_cons (pe_cl D_law_draw (hr.mono (by decide)) (pa_cons (pv 0) (pa_cons (pe_op op_add (pv 2) (pe_int)) pa_nil))) pa_nil)) (blkOk_by (own := [("at", 3)]) (N := N_law_word) (sc := defScope s_law_word) (by decide +kernel)) (fun _ _ _ _ _ => (pg_name (i := 3) sc_law_word.nd rfl (Or.inl rfl))) (fun _ _ _ _ _ => pts_nil) (fun _ _ _ _ _ => (pe_cl D_law_pick (hr.mono (by decide)) (pa_cons (pv 0) (pa_cons (pv 1) pa_nil)))))))), ?_⟩
    obtain ⟨p, c, n, z, most, rfl, hp, hn, z1, z2, m1, m2, k⟩ := h
    refine ⟨⟨_, rfl⟩, _, rfl, _, rfl, _, _, rfl, rfl, p, c, n, most + 1, rfl, hp, by omega, by omega, by omega, fun d H1 d0 d1 bt1 hp1 => ⟨d, rfl, by omega, by omega, fun D hD => ?_⟩⟩
    have hD0 : H D = none := bt1.free hp1 hD
    have Dp : D ≠ p := fun q => by
      obtain ⟨kvs, e⟩ := hp1.at
      rw [q, e] at hD
      cases hD
    have Dc : D ≠ c := fun q => by
      obtain ⟨kvs, e⟩ := hp1.cell
      rw [q, e] at hD
      cases hD
    refine lc_range (lo := 0) (n := d.toNat) (fun i H' => But p H H' ∧ Pen H' p c (n + 1 + i) ∧ ∃ ys : List Str, H' D = some (.lst (ys.map V.str)) ∧ ys.length = i ∧ ∀ y ∈ ys, ∃ ch ∈ z.cps.toList, y = ⟨#[ch]⟩) ?_ ?_ ?_
    · have s2 : Same H1 (upd H1 D (.lst [])) := fun b o e => by rw [upd_ne (ne_of_none e hD)]; exact e
      exact ⟨bt1.same s2, hp1.same s2, [], upd_same, rfl, fun y hy => by cases hy⟩
    · rintro i H' hi ⟨bt, hp', ys, hD', hl, hy⟩
      refine ⟨rfl, ?_⟩
      refine ⟨_, rfl, _, rfl, p, c, n + 1 + i, hp', by omega, .inr ⟨z, rfl, z1, by omega, fun ch H2 hch bt2 hp2 => ?_⟩⟩
      have hD2 : H2 D = some (.lst (ys.map V.str)) := bt2 _ _ Dp hD'
      refine ⟨_, hD2, ?_, fun b o hb e => ?_, hp2.keep fun b o hb e => ?_, ys ++ [⟨#[ch]⟩], ?_, ?_, fun y hm => ?_⟩
      · rw [List.length_map, hl]
        exact Nat.lt_of_lt_of_le (show i < 1000 by omega) (by decide)
      · rw [upd_ne (ne_of_none e hD0)]
        exact bt2 b o hb (bt b o hb e)
      · have ne : b ≠ D := by
          rcases hb with rfl | rfl
          · exact Dp.symm
          · exact Dc.symm
        rw [upd_ne ne]
        exact e
      · rw [upd_same, List.map_append]
        rfl
      · rw [List.length_append, hl]
        rfl
      · rcases List.mem_append.mp hm with hm | hm
        · exact hy y hm
        · exact ⟨ch, hch, List.mem_singleton.mp hm⟩
    · rintro H' ⟨bt, hp', ys, hD', hl, hy⟩
      have ln : (ys.map (·.length)).sum = ys.length := ones hy
      refine ⟨_, D, ys, rfl, rfl, .inl (SqL.of hD'), ?_, ?_⟩
      · rw [ln]
        show ys.length + ys.length * 0 ≤ 16777216
        omega
      · have e := join_empty ys
        refine k _ H' bt (hp'.up (by omega)) ?_ ?_
        · have el := congrArg List.length e
          rw [Array.length_toList, List.length_flatMap] at el
          show (Txt.join _ _).cps.size ≤ _
          have e2 : (ys.map fun y : Str => y.cps.toList.length) = ys.map (·.length) := by
            congr 1
          rw [e2, ln] at el
          rw [el]
          omega
        · intro ch hch
          rw [e] at hch
          obtain ⟨y, hm, hc⟩ := List.mem_flatMap.mp hch
          obtain ⟨ch', h1, rfl⟩ := hy y hm
          have : ch = ch' := by simpa using hc
          rw [this]
          exact h1
end
end Wf
namespace Wf
open PySem L2
abbrev s_law_table : Stmt := top 46
abbrev N_law_table : List Str := ["pen", "letters", "size", "is_full", "rows", "marks", "state", "row", "letter", "target"]
theorem sc_law_table : FnScope N_law_table ["pen", "letters", "size", "is_full"] (defScope s_law_table) := ⟨rfl, rfl, rfl, by decide +kernel, rfl, by decide +kernel, by decide +kernel⟩
section
variable {P : Program} {w : World} {K : PySem.W.Frag} {mg : Str → Option Value} {base : Heap}
theorem ok_table {f : Addr} {fd : FuncData} (F : Fun K "_law_table" "_law_table" s_law_table f fd) (T : Txt K mg) (D_law_draw : Dn P w K mg base 1 "_law_draw" ["pen", "many"] spDraw) : FnOk P w K mg base CX0 2 f fd ["pen", "letters", "size", "is_full"] spTable := by
  refine F.ok sc_law_table (fun vs H Q E h => ?_) (fun cdv A outer s H vs Q E hr h => ?_)
  · obtain ⟨p, c, n, z, sz, full, rfl, _⟩ := h
    rfl
  · refine ⟨_, (pss_cons (ps_par (i := 4) (j := 5) (by rfl) sc_law_table.nd rfl rfl (by decide) rfl rfl (pa_cons (pe_lst pa_nil) (pa_cons (pe_lst pa_nil) pa_nil)) (by rfl))
  (pss_cons (ps_for PassesOwn.never rfl (pi_range1 (by rfl) T.z_range (pa_cons (pv 2) pa_nil)) (pg_name (i := 6) sc_law_table.nd rfl (Or.inl rfl))
   (pss_cons (ps_setLc (i := 7) (own := [("letter", 8)]) (g := gName 8) (tt := tYes) (by rfl) sc_law_table.nd rfl rfl (sw_true rfl rfl rfl (by decide +kernel)) (pi_str (pv 1)) (blkOk_by (own := [("letter", 8)]) (N := N_law_table) (sc := defScope s_law_table) (by decide +kernel)) (fun _ _ _ _ _ => (pg_name (i := 8) sc_law_table.nd rfl (Or.inl rfl))) (fun _ _ _ _ _ => pts_nil) (fun _ _ _ _ _ => (pe_cl D_law_draw (hr.mono (by decide)) (pa_cons (pv 0) (pa_cons (pv 2) pa_nil)))))
  (pss_cons (ps_expr (pe_bm PySem.F.plainAttrs_list PySem.F.slot_list_append PySem.F.type_list_append mt_append (pv 5) (pa_cons (pe_ix ix_list (pe_lst (pa_cons (pe_bl) (pa_cons (pe_bl) (pa_cons (pe_non) pa_nil)))) (pe_cl D_law_draw (hr.mono (by decide)) (pa_cons (pv 0) (pa_cons (pe_ifExp (pt_val (pv 3)) (pe_int) (pe_int)) pa_nil))) (fun _ _ => rfl)) pa_nil)))
  (pss_one (ps_expr (pe_bm PySem.F.plainAttrs_list PySem.F.slot_list_append PySem.F.type_list_append mt_append (pv 4) (pa_cons (pe_lc (own := [("target", 9)]) (g := gName 9) (tt := tYes) (by rfl) sc_law_table.nd (pi_list (pv 7)) (blkOk_by (own := [("target", 9)]) (N := N_law_table) (sc := defScope s_law_table) (by decide +kernel)) (fun _ _ _ _ _ => (pg_name (i := 9) sc_law_table.nd rfl (Or.inl rfl))) (fun _ _ _ _ _ => pts_nil) (fun _ _ _ _ _ => (pe_ifExp (PW.pt (pw_or (pt_val (pv 3)) (pw_or1 (pt_cmpR op_gt (pe_cl D_law_draw (hr.mono (by decide)) (pa_cons (pv 0) (pa_cons (pe_int) pa_nil))) (pe_int) (nomark _))))) (pv 9) (pe_non)))) pa_nil)))))))
  (pss_one (ps_ret (pe_tup (pa_cons (pv 4) (pa_cons (pv 5) pa_nil))))))), ?_⟩
    obtain ⟨p, c, n, z, sz, full, rfl, hp, s0, s1, z1, hn, k⟩ := h
    refine ⟨Nat.zero_le _, fun r hr0 => ⟨Nat.zero_le _, fun m hm0 => ⟨_, _, rfl, ?_⟩⟩⟩
    have rm : r ≠ m := ne_of_none upd_same hm0
    have s2 : Same H (upd (upd H r (.lst [])) m (.lst [])) := (sm1 hr0).trans (sm1 hm0)
    have hm1 : H m = none := by rw [upd_ne rm.symm] at hm0; exact hm0
    have T0 : Tbl H (upd (upd H r (.lst [])) m (.lst [])) z.length sz full r m [] [] [] := Tbl.start ((upd_ne rm).trans upd_same) upd_same hr0 hm1 rm
    have hp2 := hp.same s2
    have bt2 : But p H _ := But.of s2
    generalize upd (upd H r (.lst [])) m (.lst []) = H2 at s2 T0 hp2 bt2 ⊢
    refine ⟨_, rfl, _, rfl, by omega, by omega, ?_⟩
    rw [show (sz : Int).toNat = sz from rfl]
    refine for_range (n := sz) (fun i σ H' => ∃ (v6 v7 v8 v9 : Option V) (bs : List Addr) (tb : List (List (Option Nat))) (ms : List (Option Bool)), σ = [some (.ref p), some (.str z), some (.int sz), some (.bl full), some (.ref r), some (.ref m), v6, v7, v8, v9] ∧
      But p H H' ∧ Pen H' p c (n + i * (2 * z.length + 1)) ∧ Tbl H H' z.length sz full r m bs tb ms ∧ tb.length = i ∧ ms.length = i) ⟨_, _, _, _, [], [], [], rfl, bt2, by rw [Nat.zero_mul]; exact hp2, T0, rfl, rfl⟩ ?_ ?_
    · rintro i σ H3 hi ⟨v6, v7, v8, v9, bs, tb, ms, rfl, bt3, hp3, T3, lt3, lm3⟩
      have room : n + i * (2 * z.length + 1) + (2 * z.length + 1) < 1000000 := by
        have := Nat.mul_le_mul_right (2 * z.length + 1) (show i + 1 ≤ sz from hi)
        rw [Nat.succ_mul] at this
        omega
      have more : n + (i + 1) * (2 * z.length + 1) = n + i * (2 * z.length + 1) + (2 * z.length + 1) := by rw [Nat.succ_mul, Nat.add_assoc]
      rw [more]
      generalize n + i * (2 * z.length + 1) = n3 at hp3 room ⊢
      -- row
      refine ⟨_, rfl, z, rfl, fun D hD => ?_⟩
      obtain ⟨Dp, Dc⟩ := hp3.off hD
      obtain ⟨Dr, Dm, Db⟩ := T3.off hD
      refine lc_chars (fun j H' => But p H3 H' ∧ Pen H' p c (n3 + j) ∧ ∃ ns : List Nat, H' D = some (.lst ((ns.map some).map oV)) ∧ ns.length = j ∧ ∀ x ∈ ns, x < sz) ⟨But.of (sm1 hD), hp3.same (sm1 hD), [], upd_same, rfl, fun x hx => absurd hx List.not_mem_nil⟩ ?_ ?_
      · rintro j ch H' hj ⟨bt', hp', ns, hD', nl, nlt⟩
        have jl : j < z.length := by
          obtain ⟨q, _⟩ := List.getElem?_eq_some_iff.mp hj
          rw [Array.length_toList] at q
          exact q
        refine ⟨rfl, _, rfl, _, rfl, p, c, _, sz, rfl, hp', by omega, by omega, by omega, fun d H4 d0 d1 bt4 hp4 => ?_⟩
        refine ⟨_, bt4 _ _ Dp hD', small1000 (by rw [List.length_map, List.length_map]; omega), (bt'.trans bt4).new hD, (hp4.wr Dp Dc).up (by omega), ns ++ [d.toNat], ?_, ?_, fun x hx => ?_⟩
        · rw [upd_same, List.map_append, List.map_append]
          have e : V.int d = oV (some d.toNat) := by
            show V.int d = V.int (d.toNat : Nat)
            rw [Int.toNat_of_nonneg d0]
          rw [e]
          rfl
        · rw [List.length_append, nl]
          rfl
        · rcases List.mem_append.mp hx with hx | hx
          · exact nlt x hx
          · rw [List.mem_singleton.mp hx]
            omega
      rintro H4 ⟨bt4, hp4, ns, hD4, nl, nlt⟩
      have T4 := T3.but bt4 hp3
      -- marks.append
      refine ⟨_, rfl, .inl ⟨rfl, _, SqL.of T4.ma⟩, by show 3 ≤ sizeLine; decide, fun q hq => ?_⟩
      have s5 := sm1 (o := .lst [.bl false, .bl true, .non]) hq
      have T5 := T4.same s5
      have hp5 := hp4.same s5
      have hD5 := s5 _ _ hD4
      have hq5 : (upd H4 q (.lst [.bl false, .bl true, .non])) q = some (.lst [.bl false, .bl true, .non]) := upd_same
      have bt5 := bt4.same s5
      generalize upd H4 q (.lst [.bl false, .bl true, .non]) = H5 at s5 T5 hp5 hD5 hq5 bt5 ⊢
      refine ⟨_, rfl, tIf_num (b := full) rfl ⟨p, c, _, _, rfl, hp5, by omega, by cases full <;> decide, by cases full <;> decide, fun d H6 d0 d1 bt6 hp6 => ?_⟩⟩
      obtain ⟨kvs, pe⟩ := hp5.at
      have qp : q ≠ p := fun e => by
        rw [e, pe] at hq5
        cases hq5
      obtain ⟨x, hx, hxf⟩ : ∃ x : Option Bool, atI [V.bl false, .bl true, .non] d = some (mV x) ∧ (full = true → x ≠ none) := by
        have d3 : d = 0 ∨ d = 1 ∨ (d = 2 ∧ full = false) := by
          cases full
          · have lt : d < 3 := d1
            have or3 : d = 0 ∨ d = 1 ∨ d = 2 := by omega
            exact or3.imp id fun z => z.imp id fun z => ⟨z, rfl⟩
          · have lt : d < 2 := d1
            have or2 : d = 0 ∨ d = 1 := by omega
            exact or2.imp id .inl
        rcases d3 with rfl | rfl | ⟨rfl, e⟩
        · exact ⟨some false, rfl, fun _ z => by cases z⟩
        · exact ⟨some true, rfl, fun _ z => by cases z⟩
        · exact ⟨none, rfl, fun y => by rw [e] at y; cases y⟩
      refine ⟨q, _, d, _, rfl, rfl, SqL.of (bt6 _ _ qp hq5), hx, ?_⟩
      have T6 := T5.but bt6 hp5
      have hD6 := bt6 _ _ Dp hD5
      refine ⟨m, _, _, rfl, rfl, T6.ma, small1000 (by rw [List.length_map]; omega), ?_⟩
      have T7 := T6.mark hxf
      have mp : m ≠ p ∧ m ≠ c := hp.off T3.new.2.1
      have rp : r ≠ p ∧ r ≠ c := hp.off T3.new.1
      have hp7 : Pen (upd H6 m (.lst (ms.map mV ++ [mV x]))) p c (n3 + z.length + 1) := hp6.wr mp.1 mp.2
      have hD7 : (upd H6 m (.lst (ms.map mV ++ [mV x]))) D = some (.lst ((ns.map some).map oV)) := (upd_ne Dm).trans hD6
      have bt7 : But p H (upd H6 m (.lst (ms.map mV ++ [mV x]))) := ((bt3.trans bt5).trans bt6).new T3.new.2.1
      generalize upd H6 m (.lst (ms.map mV ++ [mV x])) = H7 at T7 hp7 hD7 bt7 ⊢
      -- rows.append
      refine ⟨_, rfl, .inl ⟨rfl, _, SqL.of T7.ra⟩, _, rfl, D, rfl, ⟨_, SqL.of hD7⟩, fun D2 hD2 => ?_⟩
      obtain ⟨D2p, D2c⟩ := hp7.off hD2
      obtain ⟨D2r, D2m, D2b⟩ := T7.off hD2
      refine lc_list (K := K) (a := D) (xs := (ns.map some).map oV) (fun j H' => But p H7 H' ∧ Pen H' p c (n3 + z.length + 1 + j) ∧ ∃ os : List (Option Nat), H' D2 = some (.lst (os.map oV)) ∧ os.length = j ∧ (∀ x, some x ∈ os → x < sz) ∧ (full = true → none ∉ os))
        ⟨But.of (sm1 hD2), hp7.same (sm1 hD2), [], upd_same, rfl, fun x hx => absurd hx List.not_mem_nil, fun _ => List.not_mem_nil⟩ ?_ ?_ ?_
      · rintro j H' _ ⟨bt', _⟩
        exact SqL.of (bt' _ _ Dp hD7)
      · rintro j y H' hj ⟨bt', hp', os, hD', ol, olt, ofl⟩
        rw [List.map_map, List.getElem?_map] at hj
        obtain ⟨x, hx2, rfl⟩ := Option.map_eq_some_iff.mp hj
        have xlt := nlt x (List.mem_of_getElem? hx2)
        have jl : j < z.length := by
          obtain ⟨q, _⟩ := List.getElem?_eq_some_iff.mp hx2
          omega
        have cont : ∀ (o : Option Nat) (H8 : Hp), But p H' H8 → Pen H8 p c (n3 + z.length + 1 + (j + 1)) → (o = some x ∨ (o = none ∧ full = false)) → ∃ acc, H8 D2 = some (.lst acc) ∧ acc.length < sizeLine ∧
            (But p H7 (upd H8 D2 (.lst (acc ++ [oV o]))) ∧ Pen (upd H8 D2 (.lst (acc ++ [oV o]))) p c (n3 + z.length + 1 + (j + 1)) ∧ ∃ os : List (Option Nat), (upd H8 D2 (.lst (acc ++ [oV o]))) D2 = some (.lst (os.map oV)) ∧ os.length = j + 1 ∧ (∀ x, some x ∈ os → x < sz) ∧ (full = true → none ∉ os)) := by
          intro o H8 bt8 hp8 ho
          refine ⟨_, bt8 _ _ D2p hD', small1000 (by rw [List.length_map]; omega), (bt'.trans bt8).new hD2, hp8.wr D2p D2c, os ++ [o], ?_, ?_, fun y hy => ?_, fun e hn => ?_⟩
          · rw [upd_same, List.map_append]
            rfl
          · rw [List.length_append, ol]
            rfl
          · rcases List.mem_append.mp hy with hy | hy
            · exact olt y hy
            · have e := List.mem_singleton.mp hy
              rcases ho with ho | ho
              · rw [ho] at e
                cases e
                exact xlt
              · rw [ho.1] at e
                cases e
          · rcases List.mem_append.mp hn with hn | hn
            · exact ofl e hn
            · have e2 := List.mem_singleton.mp hn
              rcases ho with ho | ho
              · rw [ho] at e2
                cases e2
              · rw [ho.2] at e
                cases e
        refine ⟨rfl, ⟨_, rfl, full, rfl, ?_⟩⟩
        rcases Bool.eq_false_or_eq_true full with ef | ef
        · rw [if_pos ef]
          exact iteT ⟨_, rfl, cont (some x) H' (But.refl _ _) (hp'.up (by omega)) (.inl rfl)⟩
        · rw [if_neg (by rw [ef]; decide)]
          refine ⟨_, rfl, p, c, _, 4, rfl, hp', by omega, by decide, by decide, fun d H9 d0 d1 bt9 hp9 => ⟨d, 0, rfl, rfl, _, rfl, ?_⟩⟩
          rcases Decidable.em ((0 : Int) < d) with pos | npos
          · rw [decide_eq_true pos]
            exact iteT ⟨_, rfl, cont (some x) H9 bt9 hp9 (.inl rfl)⟩
          · rw [decide_eq_false npos]
            exact iteF (cont none H9 bt9 hp9 (.inr ⟨rfl, ef⟩))
      · rintro H8 ⟨bt8, hp8, os, hD8, ol, olt, ofl⟩
        have T8 := T7.but bt8 hp7
        refine ⟨r, _, _, rfl, rfl, T8.ra, small1000 (by rw [List.length_map, T8.lb]; omega), ?_⟩
        have ll : os.length = z.length := by
          rw [ol, List.length_map, List.length_map, nl]
        have h0 : H D2 = none := bt7.free hp7 hD2
        refine ⟨_, _, _, _, bs ++ [D2], tb ++ [os], ms ++ [x], rfl, (bt7.trans bt8).new T3.new.1, (hp8.wr rp.1 rp.2).up (by rw [List.length_map, List.length_map, nl]; omega), T8.add hD8 h0 D2r D2m D2b ll olt ofl, ?_, ?_⟩
        · rw [List.length_append, lt3]
          rfl
        · rw [List.length_append, lm3]
          rfl
    · rintro σ H' ⟨v6, v7, v8, v9, bs, tb, ms, rfl, bt3, hp3, T3, lt3, lm3⟩
      refine ⟨_, rfl, _, rfl, by show 2 ≤ sizeLine; decide, fun t ht => ?_⟩
      refine k t r m bs tb ms _ (bt3.same (sm1 ht)) (hp3.same (sm1 ht)) (bt3.free hp3 ht) upd_same (T3.same (sm1 ht)) lt3 lm3
end
end Wf
namespace Wf
open PySem L2
structure TxtW (K : PySem.W.Frag) (mg : Str → Option Value) : Prop extends Txt K mg where
  g_MOST_LETTERS : ∃ t, mg "MOST_LETTERS" = some (.int 4 t)
abbrev s_is_sequence : Stmt := top 9
abbrev N_is_sequence : List Str := ["value"]
theorem sc_is_sequence : FnScope N_is_sequence ["value"] (defScope s_is_sequence) := ⟨rfl, rfl, rfl, by decide +kernel, rfl, by decide +kernel, by decide +kernel⟩
/-- a question of one value -/
def spAsk (K : PySem.W.Frag) (g : PyData → Bool) : Sp := fun vs H Q _ => ∃ (v : V) (d : PyData), vs = [v] ∧ Dq K H v d ∧ ∀ H', Same H H' → Q (.bl (g d)) H'
def spTarget (K : PySem.W.Frag) : Sp := fun vs H Q _ => ∃ (v : V) (d : PyData) (n : Int), vs = [v, .int n] ∧ Dq K H v d ∧ ∀ H', Same H H' → Q (.bl (isTarget n d)) H'
theorem same_refl {H : Hp} : Same H H := fun _ _ z => z
theorem Dq.isN {K : PySem.W.Frag} {H : Hp} {v : V} {d : PyData} (h : Dq K H v d) : decide (v = .non) = (match d with | .none => true | _ => false) := by
  cases h with
  | non => exact decide_eq_true rfl
  | _ => exact decide_eq_false fun z => by cases z
theorem Dq.isB {K : PySem.W.Frag} {H : Hp} {v : V} {d : PyData} {b : Bool} (h : Dq K H v d) : decide (v = .bl b) = (match d with | .bool c => c == b | _ => false) := by
  cases h with
  | bl c => 
    by_cases e : c = b
    · rw [e]
      show _ = (b == b)
      rw [beq_self_eq_true]
      exact decide_eq_true rfl
    · show _ = (c == b)
      rw [beq_eq_false_iff_ne.mpr e]
      exact decide_eq_false fun z => e (V.bl.inj z)
  | _ => exact decide_eq_false fun z => by cases z
section
variable {P : Program} {w : World} {K : PySem.W.Frag} {mg : Str → Option Value} {base : Heap} {f : Addr} {fd : FuncData}
theorem ok_is_sequence (F : Fun K "is_sequence" "is_sequence" s_is_sequence f fd) (T : Txt K mg) : FnOk P w K mg base CX0 1 f fd ["value"] (spAsk K isSeq) := by
  refine F.ok sc_is_sequence (fun vs H Q E h => ?_) (fun cdv A outer s H vs Q E hr h => ?_)
  · obtain ⟨v, d, rfl, _⟩ := h
    rfl
  · obtain ⟨v, d, rfl, hd, k⟩ := h
    refine ⟨_, (pss_one (ps_ret (pe_callB call_isSeq (by rfl) T.z_isinstance (by decide +kernel) (pa_cons (pv 0) (pa_cons (pe_tup (pa_cons (pe_ty (T := "list") T.z_list (by decide +kernel)) (pa_cons (pe_ty (T := "tuple") T.z_tuple (by decide +kernel)) pa_nil))) pa_nil))))), ?_⟩
    exact ⟨_, rfl, by show 2 ≤ sizeLine; decide, fun t ht => ⟨v, d, t, rfl, upd_same, (Sty.of (sm1 ht)).dq hd, k _ (sm1 ht)⟩⟩
end
end Wf
namespace Wf
open PySem L2
def spRow (K : PySem.W.Frag) : Sp := fun vs H Q _ => ∃ (v : V) (d : PyData) (wd : Nat) (n : Int), vs = [v, .int (wd : Int), .int n] ∧ Dq K H v d ∧ (its d).length < 1000000 ∧ ∀ H', Same H H' → Q (.bl (isRow wd n d)) H'
def isTable (d e : PyData) : Bool := isSeq d && isSeq e && ((its d).length == (its e).length) && decide (0 < (its d).length)
def spTbl2 (K : PySem.W.Frag) : Sp := fun vs H Q _ => ∃ (v u : V) (d e : PyData), vs = [v, u] ∧ Dq K H v d ∧ Dq K H u e ∧ ∀ H', Same H H' → Q (.bl (isTable d e)) H'
/-- the first number below n at which p is not so, or none -/
def Fst (p : Nat → Bool) (n : Nat) : Option Nat → Prop
  | none => ∀ j, j < n → p j = true
  | some i => i < n ∧ p i = false ∧ ∀ j, j < i → p j = true
theorem Fst.one {p : Nat → Bool} {n : Nat} : ∀ {o u : Option Nat}, Fst p n o → Fst p n u → o = u
  | none, none, _, _ => rfl
  | none, some i, h, ⟨a, b, _⟩ => by
    have c : p i = true := h i a
    rw [b] at c
    cases c
  | some i, none, ⟨a, b, _⟩, h => by
    have c : p i = true := h i a
    rw [b] at c
    cases c
  | some i, some j, ⟨_, b, c⟩, ⟨_, e, f⟩ => by
    rcases Nat.lt_trichotomy i j with l | l | l
    · have z := f i l
      rw [b] at z
      cases z
    · rw [l]
    · have z := c j l
      rw [e] at z
      cases z
/-- the row with this number can stand in the table -/
def rowOk (wd : Nat) (ds ms : List PyData) (i : Nat) : Bool := isRow wd ds.length (ds.getD i .none) && isMark (ms.getD i .none)
def spWrong (K : PySem.W.Frag) : Sp := fun vs H Q _ => ∃ (z : Str) (r m : V) (dr e : PyData), vs = [.str z, r, m] ∧ Dq K H r dr ∧ isSeq dr = true ∧ Dq K H m e ∧ isSeq e = true ∧ (its e).length = (its dr).length ∧ z.length ≤ 1000 ∧ (its dr).length < 1000000 ∧ (∀ d ∈ its dr, (its d).length < 1000000) ∧
  ∀ (o : Option Nat) (H' : Hp), Same H H' → Fst (rowOk z.length (its dr) (its e)) (its dr).length o → Q (oV o) H'
def spCopied (K : PySem.W.Frag) : Sp := fun vs H Q _ => ∃ (v : V) (d : PyData), vs = [v] ∧ Dq K H v d ∧ isSeq d = true ∧ (∀ e ∈ its d, isSeq e = true) ∧ (its d).length < 1000000 ∧ ∀ (t : Addr) (H' : Hp), Same H H' → Dq K H' (.ref t) (.tuple ((its d).map fun e => .tuple (its e))) → Q (.ref t) H'
theorem dec_nat {a b : Nat} : decide (V.int (a : Int) = V.int (b : Int)) = (a == b) := by
  by_cases h : a = b
  · rw [h, beq_self_eq_true]
    exact decide_eq_true rfl
  · rw [beq_eq_false_iff_ne.mpr h]
    exact decide_eq_false fun z => h (Int.ofNat.inj (V.int.inj z))
theorem getD_of {α : Type} {xs : List α} {i : Nat} {x y : α} (h : xs[i]? = some x) : xs.getD i y = x := by
  rw [List.getD_eq_getElem?_getD, h]
  rfl
theorem dqAll_pair {K : PySem.W.Frag} {H : Hp} {g : PyData → PyData} : ∀ {us : List Addr} {ds : List PyData}, us.length = ds.length → (∀ (j : Nat) (u : Addr) (e : PyData), us[j]? = some u → ds[j]? = some e → Dq K H (.ref u) (g e)) → DqAll K H (us.map V.ref) (ds.map g)
  | [], [], _, _ => .nil
  | [], _ :: _, h, _ => by cases h
  | _ :: _, [], h, _ => by cases h
  | u :: us, d :: ds, h, k => .cons (k 0 u d rfl rfl) (dqAll_pair (Nat.succ.inj h) fun j u e e1 e2 => k (j + 1) u e e1 e2)
section
variable {P : Program} {w : World} {K : PySem.W.Frag} {mg : Str → Option Value} {base : Heap} {f : Addr} {fd : FuncData}
end
end Wf
namespace Wf
open PySem L2
abbrev s_are_letters : Stmt := top 16
abbrev N_are_letters : List Str := ["value", "letter", "at"]
theorem sc_are_letters : FnScope N_are_letters ["value"] (defScope s_are_letters) := ⟨rfl, rfl, rfl, by decide +kernel, rfl, by decide +kernel, by decide +kernel⟩
/-- letters in ascending order, one to four -/
def ascL (l : List Nat) : Bool := (List.range (l.length - 1)).all fun i => decide (l.getD i 0 < l.getD (i + 1) 0)
def lettersOk : PyData → Bool
  | .str z => (decide (1 ≤ z.length) && decide (z.length ≤ 4)) && (z.cps.toList.all fun c => decide (97 ≤ c) && decide (c ≤ 122)) && ascL z.cps.toList
  | _ => false
theorem lt_sign {a b : Nat} : decide ([a] < [b]) = decide (a < b) := by
  by_cases h : a < b
  · rw [decide_eq_true h]
    exact decide_eq_true (List.cons_lt_cons_iff.mpr (.inl h))
  · rw [decide_eq_false h]
    refine decide_eq_false fun z => ?_
    rcases List.cons_lt_cons_iff.mp z with z | ⟨_, z⟩
    · exact h z
    · exact absurd z (List.not_lt_nil _)
theorem not_lt {a b : Nat} : (!decide (b < a)) = decide (a ≤ b) := by
  by_cases h : b < a
  · rw [decide_eq_true h, decide_eq_false (by omega)]
    rfl
  · rw [decide_eq_false h, decide_eq_true (by omega)]
    rfl
theorem dec_le {a b : Nat} : decide ((a : Int) ≤ (b : Int)) = decide (a ≤ b) := by
  by_cases h : a ≤ b
  · rw [decide_eq_true h]
    exact decide_eq_true (by omega)
  · rw [decide_eq_false h]
    exact decide_eq_false (by omega)
def spLtrs (K : PySem.W.Frag) : Sp := fun vs H Q _ => ∃ (v : V) (d : PyData), vs = [v] ∧ Dq K H v d ∧ (∀ z, d = .str z → z.length < 1000000) ∧ ∀ H', Same H H' → Q (.bl (lettersOk d)) H'
section
variable {P : Program} {w : World} {K : PySem.W.Frag} {mg : Str → Option Value} {base : Heap} {f : Addr} {fd : FuncData}
theorem ok_are_letters (F : Fun K "are_letters" "are_letters" s_are_letters f fd) (T : TxtW K mg) : FnOk P w K mg base CX0 1 f fd ["value"] (spLtrs K) := by
  refine F.ok sc_are_letters (fun vs H Q E h => ?_) (fun cdv A outer s H vs Q E hr h => ?_)
  · obtain ⟨v, d, rfl, _⟩ := h
    rfl
  · obtain ⟨v, d, rfl, hd, small, k⟩ := h
    refine ⟨_, (pss_cons (ps_if (PW.pt (pw_or (pt_not (pt_val (pe_callB (call_isD kit_str) (by rfl) T.z_isinstance (by decide +kernel) (pa_cons (pv 0) (pa_cons (pe_ty (T := "str") T.z_str (by decide +kernel)) pa_nil))))) (pw_or1 (pt_not (pt_chain op_le op_le (pe_int) (pe_callB call_len_str (by rfl) T.z_len PySem.boot_len (pa_cons (pv 0) pa_nil)) (pe_gi T.g_MOST_LETTERS)))))) (pss_one (ps_ret (pe_bl))) pss_nil)
  (pss_cons (ps_if (pt_not (pt_truth (pe_callB (cr_all rfl) (by rfl) T.z_all (by decide +kernel) (pa_cons (pe_lc (own := [("letter", 1)]) (g := gName 1) (tt := tYes) (by rfl) sc_are_letters.nd (pi_str (pv 0)) (blkOk_by (own := [("letter", 1)]) (N := N_are_letters) (sc := defScope s_are_letters) (by decide +kernel)) (fun _ _ _ _ _ => (pg_name (i := 1) sc_are_letters.nd rfl (Or.inl rfl))) (fun _ _ _ _ _ => pts_nil) (fun _ _ _ _ _ => (pe_chain op_le_str op_le_str (pe_str) (pv 1) (pe_str)))) pa_nil)) (by intro _; rfl))) (pss_one (ps_ret (pe_bl))) pss_nil)
  (pss_one (ps_ret (pe_callB (cr_all rfl) (by rfl) T.z_all (by decide +kernel) (pa_cons (pe_lc (own := [("at", 2)]) (g := gName 2) (tt := tYes) (by rfl) sc_are_letters.nd (pi_range1 (by rfl) T.z_range (pa_cons (pe_op op_sub (pe_callB call_len_str (by rfl) T.z_len PySem.boot_len (pa_cons (pv 0) pa_nil)) (pe_int)) pa_nil)) (blkOk_by (own := [("at", 2)]) (N := N_are_letters) (sc := defScope s_are_letters) (by decide +kernel)) (fun _ _ _ _ _ => (pg_name (i := 2) sc_are_letters.nd rfl (Or.inl rfl))) (fun _ _ _ _ _ => pts_nil) (fun _ _ _ _ _ => (pe_cmpR op_lt_str (pe_ix ix_str (pv 0) (pv 2) (fun _ _ => rfl)) (pe_ix ix_str (pv 0) (pe_op op_add (pv 2) (pe_int)) (fun _ _ => rfl)) (nomark _)))) pa_nil)))))), ?_⟩
    refine ⟨_, rfl, v, d, rfl, hd, _, rfl, ?_⟩
    cases e : isStr d with
    | false =>
      have k := k _ same_refl
      have e2 : lettersOk d = false := by cases d <;> first | rfl | cases e
      rw [e2] at k
      exact iteT k
    | true =>
      obtain ⟨z, rfl⟩ : ∃ z, d = .str z := by cases d <;> first | exact ⟨_, rfl⟩ | cases e
      cases hd
      have zl := small z rfl
      have ltr : z.cps.toList.length = z.length := Array.length_toList
      have fail : ∀ H', Same H H' → ((decide (1 ≤ z.length) && decide (z.length ≤ 4)) && (z.cps.toList.all fun c => decide (97 ≤ c) && decide (c ≤ 122)) && ascL z.cps.toList) = false → Q (.bl false) H' := fun H' s e => by
        have k := k H' s
        rw [show lettersOk (.str z) = _ from e] at k
        exact k
      refine iteF ⟨_, rfl, z, rfl, Nat.le_of_lt (small1000000 zl), _, _, rfl, rfl, _, rfl, ?_⟩
      have i1 : decide ((1 : Int) ≤ (z.length : Int)) = decide (1 ≤ z.length) := dec_le (a := 1)
      have i4 : decide ((z.length : Int) ≤ (4 : Int)) = decide (z.length ≤ 4) := dec_le (b := 4)
      rw [i1]
      cases l1 : decide (1 ≤ z.length) with
      | false => exact iteF ⟨_, rfl, iteT (fail _ same_refl (by rw [l1]; rfl))⟩
      | true =>
        refine iteT ⟨_, _, rfl, rfl, _, rfl, ?_⟩
        show if (!decide ((z.length : Int) ≤ (4 : Int))) = true then _ else _
        rw [i4]
        cases l4 : decide (z.length ≤ 4) with
        | false => exact iteT (fail _ same_refl (by rw [l1, l4]; rfl))
        | true =>
          refine iteF ?_
          -- the signs
          refine ⟨_, rfl, z, rfl, fun D hD => ?_⟩
          refine lc_chars (fun i H' => Same H H' ∧ H' D = some (.lst (((z.cps.toList.take i).map fun c => decide (97 ≤ c) && decide (c ≤ 122)).map V.bl))) ⟨sm1 hD, upd_same⟩ ?_ ?_
          · rintro i c H1 hc ⟨s1, hD1⟩
            have put : ∀ b : Bool, b = (decide (97 ≤ c) && decide (c ≤ 122)) → ∃ acc, H1 D = some (.lst acc) ∧ acc.length < sizeLine ∧ (Same H (upd H1 D (.lst (acc ++ [.bl b]))) ∧ (upd H1 D (.lst (acc ++ [.bl b]))) D = some (.lst (((z.cps.toList.take (i + 1)).map fun c => decide (97 ≤ c) && decide (c ≤ 122)).map V.bl))) := fun b eb => by
              refine ⟨_, hD1, small1000000 (by rw [List.length_map, List.length_map, List.length_take]; omega), swr s1 hD, ?_⟩
              rw [upd_same, List.take_succ, hc, List.map_append, List.map_append, eb]
              rfl
            refine ⟨rfl, _, rfl, _, _, rfl, rfl, _, rfl, ?_⟩
            rw [show (!decide ((⟨#[c]⟩ : Str).cps.toList < ("a" : Str).cps.toList)) = decide (97 ≤ c) from by
              show (!decide ([c] < [97])) = _
              rw [lt_sign, not_lt]]
            cases q1 : decide (97 ≤ c) with
            | false => exact iteF (put false (by rw [q1]; rfl))
            | true =>
              refine iteT ⟨_, _, rfl, rfl, ?_⟩
              rw [show (!decide (("z" : Str).cps.toList < (⟨#[c]⟩ : Str).cps.toList)) = decide (c ≤ 122) from by
                show (!decide ([122] < [c])) = _
                rw [lt_sign, not_lt]]
              exact put _ (by rw [q1, Bool.true_and])
          rintro H1 ⟨s1, hD1⟩
          rw [← ltr, List.take_length] at hD1
          refine ⟨D, _, rfl, SqL.of hD1, _, rfl, ?_⟩
          rw [List.all_map]
          cases q2 : z.cps.toList.all (id ∘ fun c => decide (97 ≤ c) && decide (c ≤ 122)) with
          | false => exact iteT (fail _ s1 (by rw [l1, l4, show (z.cps.toList.all fun c => decide (97 ≤ c) && decide (c ≤ 122)) = false from q2]; rfl))
          | true =>
            have lp : 1 ≤ z.length := of_decide_eq_true l1
            have l4' : z.length ≤ 4 := of_decide_eq_true l4
            refine iteF ⟨_, rfl, z, rfl, Nat.le_of_lt (small1000000 zl), _, _, rfl, rfl, _, rfl, by omega, by omega, fun D2 hD2 => ?_⟩
            rw [show ((z.length : Int) - 1).toNat = z.length - 1 from by omega]
            refine lc_range (lo := 0) (n := z.length - 1) (fun i H' => Same H1 H' ∧ H' D2 = some (.lst (((List.range i).map fun i => decide (z.cps.toList.getD i 0 < z.cps.toList.getD (i + 1) 0)).map V.bl))) ⟨sm1 hD2, upd_same⟩ ?_ ?_
            · rintro i H2 hi ⟨s2, hD3⟩
              have h1 : z.cps.toList[i]? = some (z.cps.toList.getD i 0) := by
                rw [List.getD_eq_getElem?_getD, List.getElem?_eq_getElem (by omega)]
                rfl
              have h2 : z.cps.toList[i + 1]? = some (z.cps.toList.getD (i + 1) 0) := by
                rw [List.getD_eq_getElem?_getD, List.getElem?_eq_getElem (by omega)]
                rfl
              refine ⟨rfl, _, rfl, _, rfl, z, _, _, rfl, rfl, Nat.le_of_lt (small1000000 zl), by rw [Int.zero_add]; exact atI_nat h1, _, rfl, _, rfl, _, _, rfl, rfl, z, _, _, rfl, rfl, Nat.le_of_lt (small1000000 zl), by rw [Int.zero_add]; exact atI_nat h2, _, _, rfl, rfl, ?_⟩
              refine ⟨_, hD3, small1000000 (by rw [List.length_map, List.length_map, List.length_range]; omega), swr s2 hD2, ?_⟩
              rw [upd_same, List.range_succ, List.map_append, List.map_append]
              rw [show decide ((⟨#[z.cps.toList.getD i 0]⟩ : Str).cps.toList < (⟨#[z.cps.toList.getD (i + 1) 0]⟩ : Str).cps.toList) = decide (z.cps.toList.getD i 0 < z.cps.toList.getD (i + 1) 0) from lt_sign]
              rfl
            rintro H2 ⟨s2, hD3⟩
            refine ⟨D2, _, rfl, SqL.of hD3, ?_⟩
            have k := k _ (s1.trans s2)
            rw [show lettersOk (.str z) = ((decide (1 ≤ z.length) && decide (z.length ≤ 4)) && (z.cps.toList.all fun c => decide (97 ≤ c) && decide (c ≤ 122)) && ascL z.cps.toList) from rfl, l1, l4, show (z.cps.toList.all fun c => decide (97 ≤ c) && decide (c ≤ 122)) = true from q2, Bool.true_and, Bool.true_and] at k
            rw [List.all_map]
            unfold ascL at k
            rw [ltr] at k
            exact k
end
end Wf
namespace Wf
open PySem L2
/-- small data: texts, and at two levels -/
def Sml (d : PyData) : Prop := (∀ z, d = .str z → z.length < 1000000) ∧ (its d).length < 1000000 ∧ ∀ e ∈ its d, (its e).length < 1000000
/-- how many letters -/
def nL : PyData → Nat
  | .str z => z.length
  | _ => 0
theorem But.stx {K : PySem.W.Frag} {H H' : Hp} {x C dx : Addr} {fs : List (Str × V)} (b : But x H H') (e : H x = some (.ins C dx fs)) : Sty K H H' := by
  have ne : ∀ {a : Addr} {o : HO}, H a = some o → (∀ C dx fs, o ≠ .ins C dx fs) → a ≠ x := fun {a o} h n z => by
    rw [z, e] at h
    exact n C dx fs (Option.some.inj h).symm
  refine ⟨⟨fun a xs h => ?_, fun a xs h => ?_⟩, fun a ks h => b _ _ (ne h fun _ _ _ z => by cases z) h⟩
  · rcases h with (h | ⟨o, h⟩) | h
    · exact .inl (.inl (b _ _ (ne h fun _ _ _ z => by cases z) h))
    · exact .inl (.inr ⟨o, b _ _ (ne h fun _ _ _ z => by cases z) h⟩)
    · exact .inr h
  · rcases h with (h | ⟨o, h⟩) | h
    · exact .inl (.inl (b _ _ (ne h fun _ _ _ z => by cases z) h))
    · exact .inl (.inr ⟨o, b _ _ (ne h fun _ _ _ z => by cases z) h⟩)
    · exact .inr h
theorem letters_str {d : PyData} (h : lettersOk d = true) : ∃ z, d = .str z ∧ 1 ≤ z.length ∧ z.length ≤ 4 := by
  cases d with
  | str z =>
    have h2 : ((decide (1 ≤ z.length) && decide (z.length ≤ 4)) && (z.cps.toList.all fun c => decide (97 ≤ c) && decide (c ≤ 122)) && ascL z.cps.toList) = true := h
    simp only [Bool.and_eq_true, decide_eq_true_eq] at h2
    exact ⟨z, rfl, h2.1.1⟩
  | _ => cases h
theorem table_seq {d e : PyData} (h : isTable d e = true) : isSeq d = true ∧ isSeq e = true ∧ (its e).length = (its d).length ∧ 0 < (its d).length := by
  unfold isTable at h
  simp only [Bool.and_eq_true, decide_eq_true_eq, beq_iff_eq] at h
  exact ⟨h.1.1.1, h.1.1.2, h.1.2.symm, h.2⟩
end Wf
namespace Wf
open PySem L2
structure TxtS (K : PySem.W.Frag) (mg : Str → Option Value) : Prop extends TxtW K mg where
  g_LENGTH : ∃ t, mg "LENGTH" = some (.int 12 t)
  g_WORDS : ∃ t, mg "WORDS" = some (.int 200 t)
  g_PREFIXES : ∃ t, mg "PREFIXES" = some (.int 600 t)
abbrev s_word_order : Stmt := top 15
abbrev N_word_order : List Str := ["words"]
theorem sc_word_order : FnScope N_word_order ["words"] (defScope s_word_order) := ⟨rfl, rfl, rfl, by decide +kernel, rfl, by decide +kernel, by decide +kernel⟩
def spOrder (K : PySem.W.Frag) : Sp := fun vs H Q _ => ∃ (a : Addr) (zs : List Str), vs = [.ref a] ∧ (SqL K H a (zs.map V.str) ∨ SqT K H a (zs.map V.str)) ∧ zs.length ≤ 10000 ∧ (∀ z ∈ zs, z.length ≤ 10000) ∧
  ∀ (l : Addr) (H' : Hp), Same H H' → H l = none → H' l = some (.lst ((wordOrder zs).map V.str)) → Q (.ref l) H'
section
variable {P : Program} {w : World} {K : PySem.W.Frag} {mg : Str → Option Value} {base : Heap}
theorem ok_order {f : Addr} {fd : FuncData} (F : Fun K "word_order" "word_order" s_word_order f fd) (T : Txt K mg) : FnOk P w K mg base CX0 1 f fd ["words"] (spOrder K) := by
  refine F.ok sc_word_order (fun vs H Q E h => ?_) (fun cdv A outer s H vs Q E hr h => ?_)
  · obtain ⟨a, zs, rfl, _⟩ := h
    rfl
  · refine ⟨_, (pss_one (ps_ret (pe_sortLen (pa_cons (pe_callB (cr_sortD hr.units) (by rfl) T.z_sorted (by decide +kernel) (pa_cons (pv 0) pa_nil)) pa_nil) hr.units (by rfl) T.z_sorted (by rfl) T.z_len))), ?_⟩
    obtain ⟨a, zs, rfl, hs, hl, hz, k⟩ := h
    let vd : Str → VD := fun z => (.str z, .str z)
    have ef : ∀ ys : List Str, firsts (ys.map vd) = ys.map V.str := fun ys => by
      unfold firsts
      rw [List.map_map]
      rfl
    have es : (zs.map vd).mergeSort leD = (zs.mergeSort leS).map vd := (PySem.W.sort_maps (r := leS) (s := leD) vd fun a _ b _ => rfl).symm
    refine ⟨_, rfl, a, zs.map vd, rfl, by rw [ef]; exact hs, fun p hp => ?_, ?_, ?_, fun p hp => ?_, fun l hl0 => ?_⟩
    · obtain ⟨z, _, rfl⟩ := List.mem_map.mp hp
      exact .str z
    · rw [List.map_map]
      exact PySem.W.AllAlike.of fun b b' => rfl
    · rw [List.map_map]
      exact PySem.W.Sortable.others fun b => ⟨(fun h => by cases h), (fun xs h => by cases h)⟩
    · obtain ⟨z, _, rfl⟩ := List.mem_map.mp hp
      exact Nat.zero_le _
    · rw [es, ef]
      have s1 : Same H (upd H l (.lst ((zs.mergeSort leS).map V.str))) := fun b o e => by rw [upd_ne (ne_of_none e hl0)]; exact e
      refine ⟨l, zs.mergeSort leS, rfl, SqL.of upd_same, fun z hm => ?_, fun q hq => ?_⟩
      · have := hz z (List.mem_mergeSort.mp hm)
        exact Nat.le_trans this (by decide)
      · exact k q _ (fun b o e => by rw [upd_ne (ne_of_none (s1 b o e) hq)]; exact s1 b o e) (s1.free hq) upd_same
end
end Wf
namespace Wf
open PySem L2
abbrev s_is_word : Stmt := top 17
abbrev N_is_word : List Str := ["value", "letters", "sign"]
theorem sc_is_word : FnScope N_is_word ["value", "letters"] (defScope s_is_word) := ⟨rfl, rfl, rfl, by decide +kernel, rfl, by decide +kernel, by decide +kernel⟩
abbrev s_is_word_up_to : Stmt := top 18
abbrev N_is_word_up_to : List Str := ["value", "letters", "length"]
theorem sc_is_word_up_to : FnScope N_is_word_up_to ["value", "letters", "length"] (defScope s_is_word_up_to) := ⟨rfl, rfl, rfl, by decide +kernel, rfl, by decide +kernel, by decide +kernel⟩
abbrev s_check_words : Stmt := top 35
abbrev N_check_words : List Str := ["words", "letters", "word"]
theorem sc_check_words : FnScope N_check_words ["words", "letters"] (defScope s_check_words) := ⟨rfl, rfl, rfl, by decide +kernel, rfl, by decide +kernel, by decide +kernel⟩
abbrev s_check_sequence : Stmt := top 36
abbrev N_check_sequence : List Str := ["words", "letters"]
theorem sc_check_sequence : FnScope N_check_sequence ["words", "letters"] (defScope s_check_sequence) := ⟨rfl, rfl, rfl, by decide +kernel, rfl, by decide +kernel, by decide +kernel⟩
/-- a word over the letters -/
def isWord (z : Str) : PyData → Bool
  | .str w => w.cps.toList.all fun c => decide (c ∈ z.cps.toList)
  | _ => false
/-- .. of at most n signs -/
def wordOk (z : Str) (n : Nat) (d : PyData) : Bool := isWord z d && decide (nL d ≤ n)
def spIsWord (K : PySem.W.Frag) : Sp := fun vs H Q _ => ∃ (v : V) (d : PyData) (z : Str), vs = [v, .str z] ∧ Dq K H v d ∧ (∀ w, d = .str w → w.length < 1000000) ∧ ∀ H', Same H H' → Q (.bl (isWord z d)) H'
def spUpTo (K : PySem.W.Frag) : Sp := fun vs H Q _ => ∃ (v : V) (d : PyData) (z : Str) (n : Nat), vs = [v, .str z, .int n] ∧ Dq K H v d ∧ (∀ w, d = .str w → w.length < 1000000) ∧ ∀ H', Same H H' → Q (.bl (wordOk z n d)) H'
section
variable {P : Program} {w : World} {K : PySem.W.Frag} {mg : Str → Option Value} {base : Heap} {f : Addr} {fd : FuncData}
theorem ok_is_word (F : Fun K "is_word" "is_word" s_is_word f fd) (T : Txt K mg) : FnOk P w K mg base CX0 1 f fd ["value", "letters"] (spIsWord K) := by
  refine F.ok sc_is_word (fun vs H Q E h => ?_) (fun cdv A outer s H vs Q E hr h => ?_)
  · obtain ⟨v, d, z, rfl, _⟩ := h
    rfl
  · obtain ⟨v, d, z, rfl, hd, small, k⟩ := h
    refine ⟨_, (pss_one (ps_ret (pe_and (pe_callB (call_isD kit_str) (by rfl) T.z_isinstance (by decide +kernel) (pa_cons (pv 0) (pa_cons (pe_ty (T := "str") T.z_str (by decide +kernel)) pa_nil))) (pe_one (pe_callB (cr_all rfl) (by rfl) T.z_all (by decide +kernel) (pa_cons (pe_lc (own := [("sign", 2)]) (g := gName 2) (tt := tYes) (by rfl) sc_is_word.nd (pi_str (pv 0)) (blkOk_by (own := [("sign", 2)]) (N := N_is_word) (sc := defScope s_is_word) (by decide +kernel)) (fun _ _ _ _ _ => (pg_name (i := 2) sc_is_word.nd rfl (Or.inl rfl))) (fun _ _ _ _ _ => pts_nil) (fun _ _ _ _ _ => (pe_cmpR op_in_sign (pv 2) (pv 1) (by rfl)))) pa_nil)))))), ?_⟩
    refine ⟨_, rfl, v, d, rfl, hd, _, rfl, ?_⟩
    cases e : isStr d with
    | false =>
      have k := k _ same_refl
      rw [show isWord z d = false from by cases d <;> first | rfl | cases e] at k
      exact iteF k
    | true =>
      obtain ⟨u, rfl⟩ : ∃ u, d = .str u := by cases d <;> first | exact ⟨_, rfl⟩ | cases e
      cases hd
      have ul := small u rfl
      have ltr : u.cps.toList.length = u.length := Array.length_toList
      refine iteT ⟨_, rfl, u, rfl, fun D hD => ?_⟩
      refine lc_chars (fun i H' => Same H H' ∧ H' D = some (.lst (((u.cps.toList.take i).map fun c => decide (c ∈ z.cps.toList)).map V.bl))) ⟨sm1 hD, upd_same⟩ ?_ ?_
      · rintro i c H1 hc ⟨s1, hD1⟩
        refine ⟨rfl, _, rfl, _, rfl, c, z, rfl, rfl, _, hD1, small1000000 (by rw [List.length_map, List.length_map, List.length_take]; omega), swr s1 hD, ?_⟩
        rw [upd_same, List.take_succ, hc, List.map_append, List.map_append]
        rfl
      rintro H1 ⟨s1, hD1⟩
      rw [← ltr, List.take_length] at hD1
      refine ⟨D, _, rfl, SqL.of hD1, ?_⟩
      rw [List.all_map]
      exact k _ s1
theorem ok_is_word_up_to (F : Fun K "is_word_up_to" "is_word_up_to" s_is_word_up_to f fd) (T : Txt K mg) (D_is_word : Dn P w K mg base 1 "is_word" ["value", "letters"] (spIsWord K)) : FnOk P w K mg base CX0 2 f fd ["value", "letters", "length"] (spUpTo K) := by
  refine F.ok sc_is_word_up_to (fun vs H Q E h => ?_) (fun cdv A outer s H vs Q E hr h => ?_)
  · obtain ⟨v, d, z, n, rfl, _⟩ := h
    rfl
  · obtain ⟨v, d, z, n, rfl, hd, small, k⟩ := h
    refine ⟨_, (pss_one (ps_ret (pe_and (pe_cl D_is_word (hr.mono (by decide)) (pa_cons (pv 0) (pa_cons (pv 1) pa_nil))) (pe_one (pe_cmpR op_le (pe_callB call_len_str (by rfl) T.z_len PySem.boot_len (pa_cons (pv 0) pa_nil)) (pv 2) (nomark _)))))), ?_⟩
    refine ⟨_, rfl, _, rfl, v, d, z, rfl, hd, small, fun H1 s1 => ⟨_, rfl, ?_⟩⟩
    have k := k _ s1
    unfold wordOk at k
    cases e : isWord z d with
    | false =>
      rw [e] at k
      exact iteF k
    | true =>
      obtain ⟨u, rfl⟩ : ∃ u, d = .str u := by cases d <;> first | exact ⟨_, rfl⟩ | cases e
      cases hd
      rw [e, Bool.true_and] at k
      refine iteT ⟨_, rfl, u, rfl, Nat.le_of_lt (small1000000 (small u rfl)), _, rfl, _, _, rfl, rfl, ?_⟩
      show Q (.bl (decide ((u.length : Int) ≤ (n : Int)))) H1
      rw [show decide ((u.length : Int) ≤ (n : Int)) = decide (nL (.str u) ≤ n) from dec_le]
      exact k
/-- the first thing that is no word of a sample -/
def wrongWord (z : Str) (ds : List PyData) (i : Nat) : Bool := wordOk z 12 (ds.getD i .none)
def spCheckW (K : PySem.W.Frag) (CW : Addr) : Sp := fun vs H Q E => ∃ (v : V) (d : PyData) (z : Str), vs = [v, .str z] ∧ Dq K H v d ∧ isSeq d = true ∧ (∀ e ∈ its d, ∀ w, e = .str w → w.length < 1000000) ∧
  (∀ i, Fst (wrongWord z (its d)) (its d).length (some i) → ∀ x dd H', Same H H' → Dq K H' x ((its d).getD i .none) → H dd = none → H' dd = some (.xd [("word", x)]) → E (.ref CW) (some dd) H') ∧
  (Fst (wrongWord z (its d)) (its d).length none → ∀ H', Same H H' → Q .non H')
theorem ok_check_words {CW : Addr} (F : Fun K "check_words" "check_words" s_check_words f fd) (T : TxtS K mg) (D_is_word_up_to : Dn P w K mg base 2 "is_word_up_to" ["value", "letters", "length"] (spUpTo K)) (N_InvalidWord : E1 P w K mg base "InvalidWord" CW "word") :
    FnOk P w K mg base (L2.CX P w) 3 f fd ["words", "letters"] (spCheckW K CW) := by
  refine F.okX sc_check_words (fun vs H Q E h => ?_) (fun cdv A outer s H vs Q E hr h => ?_)
  · obtain ⟨v, d, z, rfl, _⟩ := h
    rfl
  · obtain ⟨v, d, z, rfl, hd, qs, small, e1, k⟩ := h
    refine ⟨_, (pss_one (ps_for (passes_of rfl) rfl (pi_seq (pv 0)) (pg_name (i := 2) sc_check_words.nd rfl (Or.inl rfl))
   (pss_one (ps_if (pt_not (pt_val (pe_cl D_is_word_up_to (hr.mono (by decide)) (pa_cons (pv 2) (pa_cons (pv 1) (pa_cons (pe_gi T.g_LENGTH) pa_nil)))))) (pss_one (ps_r1 N_InvalidWord (hr.mono (by decide)) (pv 2) rfl rfl (takes_of rfl rfl rfl rfl))) pss_nil)))), ?_⟩
    obtain ⟨a, xs, rfl, hs, ha⟩ := hd.seq qs
    have lx : xs.length = (its d).length := ha.len
    refine seq_walk rfl hs fun J G wk st => ?_
    refine for_it wk (fun i σ H' => ∃ v2 : Option V, σ = [some (.ref a), some (.str z), v2] ∧ Same H H' ∧ ∀ j, j < i → wrongWord z (its d) j = true) ⟨_, rfl, same_refl, fun j hj => absurd hj (Nat.not_lt_zero j)⟩ (fun i σ H' _ ⟨_, _, s, _⟩ => st H' (Stay.of s)) ?_ ?_
    · rintro i x σ _ H2 hi ⟨v2, rfl, s2, before⟩ ⟨rfl, hx⟩
      obtain ⟨e, he, hq⟩ := ha.get hx
      have hq2 := (Sty.of s2).dq hq
      have gd : (its d).getD i .none = e := getD_of he
      have il : i < (its d).length := by rw [← lx]; exact hi
      refine ⟨_, rfl, _, rfl, x, e, z, 12, rfl, hq2, small e (List.mem_of_getElem? he), fun H3 s3 => ⟨_, rfl, ?_⟩⟩
      cases q : wordOk z 12 e with
      | false =>
        refine iteT ⟨_, rfl, There.of (s2.trans s3), fun dd H' s' nd ed => ?_⟩
        refine e1 i ⟨il, by unfold wrongWord; rw [gd]; exact q, before⟩ x dd H' ((s2.trans s3).trans s') ?_ (There.of (s2.trans s3) _ nd) ed
        rw [gd]
        exact (Sty.of (s3.trans s')).dq hq2
      | true =>
        refine iteF ⟨_, rfl, s2.trans s3, fun j hj => ?_⟩
        rcases Nat.lt_or_ge j i with l | l
        · exact before j l
        · obtain rfl : j = i := by omega
          unfold wrongWord
          rw [gd]
          exact q
    · rintro σ H2 ⟨v2, rfl, s2, all⟩
      exact k (fun j hj => all j (by rw [lx]; exact hj)) _ s2
def spCheckS (K : PySem.W.Frag) (CW : Addr) : Sp := fun vs H Q E => ∃ (v : V) (d : PyData) (z : Str), vs = [v, .str z] ∧ Dq K H v d ∧ (∀ e ∈ its d, ∀ w, e = .str w → w.length < 1000000) ∧
  (isSeq d = false → ∀ dd H', Same H H' → H dd = none → H' dd = some (.xd [("word", v)]) → E (.ref CW) (some dd) H') ∧
  (isSeq d = true → ∀ i, Fst (wrongWord z (its d)) (its d).length (some i) → ∀ x dd H', Same H H' → Dq K H' x ((its d).getD i .none) → H dd = none → H' dd = some (.xd [("word", x)]) → E (.ref CW) (some dd) H') ∧
  (isSeq d = true → Fst (wrongWord z (its d)) (its d).length none → ∀ H', Same H H' → Q .non H')
theorem ok_check_sequence {CW : Addr} (F : Fun K "check_sequence" "check_sequence" s_check_sequence f fd) (T : TxtS K mg) (D_is_sequence : Dn P w K mg base 1 "is_sequence" ["value"] (spAsk K isSeq)) (D_check_words : DnX P w K mg base 3 "check_words" ["words", "letters"] (spCheckW K CW))
    (N_InvalidWord : E1 P w K mg base "InvalidWord" CW "word") : FnOk P w K mg base (L2.CX P w) 4 f fd ["words", "letters"] (spCheckS K CW) := by
  refine F.okX sc_check_sequence (fun vs H Q E h => ?_) (fun cdv A outer s H vs Q E hr h => ?_)
  · obtain ⟨v, d, z, rfl, _⟩ := h
    rfl
  · obtain ⟨v, d, z, rfl, hd, small, e0, e1, k⟩ := h
    refine ⟨_, (pss_cons (ps_if (pt_not (pt_val (pe_cl D_is_sequence (hr.mono (by decide)) (pa_cons (pv 0) pa_nil)))) (pss_one (ps_r1 N_InvalidWord (hr.mono (by decide)) (pv 0) rfl rfl (takes_of rfl rfl rfl rfl))) pss_nil)
  (pss_one (ps_expr (pe_clX D_check_words (hr.mono (by decide)) (takes_of rfl rfl rfl rfl) (pa_cons (pv 0) (pa_cons (pv 1) pa_nil)))))), ?_⟩
    refine ⟨_, rfl, v, d, rfl, hd, fun H1 s1 => ⟨_, rfl, ?_⟩⟩
    cases qs : isSeq d with
    | false => exact iteT ⟨_, rfl, There.of s1, fun dd H' s' nd ed => e0 qs dd H' (s1.trans s') (There.of s1 _ nd) ed⟩
    | true =>
      refine iteF ⟨_, rfl, _, rfl, v, d, z, rfl, (Sty.of s1).dq hd, qs, small, fun i fst x dd H' s' hx nd ed => e1 qs i fst x dd H' (s1.trans s') hx (There.of s1 _ nd) ed, fun fst H' s' => k qs fst H' (s1.trans s')⟩
end
end Wf
namespace Wf
open PySem L2
abbrev s_add_beginnings : Stmt := top 19
abbrev N_add_beginnings : List Str := ["found", "word", "length"]
theorem sc_add_beginnings : FnScope N_add_beginnings ["found", "word"] (defScope s_add_beginnings) := ⟨rfl, rfl, rfl, by decide +kernel, rfl, by decide +kernel, by decide +kernel⟩
abbrev s_prefixes_of : Stmt := top 20
abbrev N_prefixes_of : List Str := ["words", "found", "word"]
theorem sc_prefixes_of : FnScope N_prefixes_of ["words"] (defScope s_prefixes_of) := ⟨rfl, rfl, rfl, by decide +kernel, rfl, by decide +kernel, by decide +kernel⟩
/-- the keys, and all beginnings of a word -/
def Grown (ms ms' : List (Str × Bool)) (w : Str) (n : Nat) : Prop := (keysM ms').Nodup ∧ (∀ x, x ∈ keysM ms' ↔ x ∈ keysM ms ∨ ∃ k, k < n ∧ x = tk w k) ∧ ms'.length ≤ ms.length + n
theorem Grown.step {ms ms' : List (Str × Bool)} {w : Str} {n : Nat} (h : Grown ms ms' w n) (b : Bool) : Grown ms (putW ms' (tk w n) b) w (n + 1) := by
  refine ⟨set_nodup h.1, fun x => ?_, ?_⟩
  · rw [set_mem, h.2.1]
    constructor
    · rintro ((h | ⟨k, hk, e⟩) | e)
      · exact .inl h
      · exact .inr ⟨k, by omega, e⟩
      · exact .inr ⟨n, by omega, e⟩
    · rintro (h | ⟨k, hk, e⟩)
      · exact .inl (.inl h)
      · rcases Nat.lt_or_ge k n with l | l
        · exact .inl (.inr ⟨k, l, e⟩)
        · obtain rfl : k = n := by omega
          exact .inr e
  · have := set_len (ms := ms') (w := tk w n) (b := b)
    have := h.2.2
    omega
def spAddB : Sp := fun vs H Q _ => ∃ (a : Addr) (w : Str) (ms : List (Str × Bool)), vs = [.ref a, .str w] ∧ H a = some (.dK (mkK ms)) ∧ (keysM ms).Nodup ∧ ms.length < 1000000 ∧ w.length < 10000 ∧
  ∀ (ms' : List (Str × Bool)) (H' : Hp), But a H H' → H' a = some (.dK (mkK ms')) → Grown ms ms' w (w.length + 1) → Q .non H'
section
variable {P : Program} {w : World} {K : PySem.W.Frag} {mg : Str → Option Value} {base : Heap} {f : Addr} {fd : FuncData}
theorem ok_add_beginnings (F : Fun K "add_beginnings" "add_beginnings" s_add_beginnings f fd) (T : Txt K mg) : FnOk P w K mg base CX0 1 f fd ["found", "word"] spAddB := by
  refine F.ok sc_add_beginnings (fun vs H Q E h => ?_) (fun cdv A outer s H vs Q E hr h => ?_)
  · obtain ⟨a, w, ms, rfl, _⟩ := h
    rfl
  · obtain ⟨a, w, ms, rfl, ha, nd, ml, wl, k⟩ := h
    have hu := hu_of hr
    refine ⟨_, (pss_one (ps_for PassesOwn.never rfl (pi_range1 (by rfl) T.z_range (pa_cons (pe_op op_add (pe_callB call_len_str (by rfl) T.z_len PySem.boot_len (pa_cons (pv 1) pa_nil)) (pe_int)) pa_nil)) (pg_name (i := 2) sc_add_beginnings.nd rfl (Or.inl rfl))
   (pss_one (ps_dput hu (pv 0) (pe_slice sl_str (pv 1) po_none (po_some (pv 2))) (pe_bl) rfl)))), ?_⟩
    refine ⟨_, rfl, w, rfl, by rw [sizeLine_eq]; omega, _, _, rfl, rfl, _, rfl, by omega, by omega, ?_⟩
    rw [show ((w.length : Int) + 1).toNat = w.length + 1 from by omega]
    refine for_range (n := w.length + 1) (fun i σ H' => ∃ (v2 : Option V) (ms' : List (Str × Bool)), σ = [some (.ref a), some (.str w), v2] ∧ But a H H' ∧ H' a = some (.dK (mkK ms')) ∧ Grown ms ms' w i) ⟨_, ms, rfl, But.refl _ _, ha, nd, fun x => ⟨.inl, fun z => z.elim id fun ⟨k, h, _⟩ => absurd h (Nat.not_lt_zero k)⟩, Nat.le_refl _⟩ ?_ ?_
    · rintro i σ H1 hi ⟨v2, ms', rfl, bt, e1, gr⟩
      rw [Int.zero_add]
      refine ⟨_, rfl, _, rfl, _, rfl, _, rfl, w, rfl, by rw [sizeLine_eq]; omega, a, _, rfl, DPut.k (k := .inr (cutS w none (some (i : Int)))) e1 (by rw [mk_len]; have := gr.2.2; rw [sizeLine_eq]; omega), ?_⟩
      rw [cut_text, put_mk]
      exact ⟨_, _, rfl, fun b o nb e => (upd_ne nb).trans (bt b o nb e), upd_same, gr.step true⟩
    · rintro σ H1 ⟨v2, ms', rfl, bt, e1, gr⟩
      exact k ms' H1 bt e1 gr
theorem prefs_next {ws : List Str} {w x : Str} {j : Nat} (h : ws[j]? = some w) : x ∈ prefs (ws.take (j + 1)) ↔ x ∈ prefs (ws.take j) ∨ ∃ k, k < w.length + 1 ∧ x = tk w k := by
  rw [prefs_mem, prefs_mem, List.take_succ, h]
  constructor
  · rintro (e | ⟨u, hu, k, hk, e⟩)
    · exact .inl (.inl e)
    · rcases List.mem_append.mp hu with m | m
      · exact .inl (.inr ⟨u, m, k, hk, e⟩)
      · have eu : u = w := List.mem_singleton.mp m
        rw [eu] at hk e
        exact .inr ⟨k, by omega, e⟩
  · rintro ((e | ⟨u, hu, k, hk, e⟩) | ⟨k, hk, e⟩)
    · exact .inl e
    · exact .inr ⟨u, List.mem_append_left _ hu, k, hk, e⟩
    · exact .inr ⟨w, List.mem_append_right _ (List.mem_singleton.mpr rfl), k, by omega, e⟩
theorem keys_text {ms : List (Str × Bool)} : (mkK ms).map (fun kv => kV kv.1) = (keysM ms).map V.str := by
  unfold mkK keysM
  rw [List.map_map, List.map_map]
  rfl
def spPrefOf (K : PySem.W.Frag) : Sp := fun vs H Q _ => ∃ (l : Addr) (ws : List Str), vs = [.ref l] ∧ SqL K H l (ws.map V.str) ∧ ws.length ≤ 300 ∧ (∀ w ∈ ws, w.length ≤ 12) ∧
  ∀ (p : Addr) (ys : List Str) (H' : Hp), Same H H' → H p = none → H' p = some (.lst (ys.map V.str)) → Srt ys (prefs ws) → Q (.ref p) H'
theorem ok_prefixes_of (F : Fun K "prefixes_of" "prefixes_of" s_prefixes_of f fd) (T : Txt K mg) (D_add_beginnings : Dn P w K mg base 1 "add_beginnings" ["found", "word"] spAddB) (D_word_order : Dn P w K mg base 1 "word_order" ["words"] (spOrder K)) :
    FnOk P w K mg base CX0 2 f fd ["words"] (spPrefOf K) := by
  refine F.ok sc_prefixes_of (fun vs H Q E h => ?_) (fun cdv A outer s H vs Q E hr h => ?_)
  · obtain ⟨l, ws, rfl, _⟩ := h
    rfl
  · obtain ⟨l, ws, rfl, hs, wn, wl, k⟩ := h
    refine ⟨_, (pss_cons (ps_set (i := 1) sc_prefixes_of.nd rfl (Or.inl rfl) (pe_disp (pps_cons (pe_str) (pe_bl) pps_nil) (by rfl) (by rfl) (fun z => by cases z) (by decide)))
  (pss_cons (ps_for PassesOwn.never rfl (pi_list (pv 0)) (pg_name (i := 2) sc_prefixes_of.nd rfl (Or.inl rfl))
   (pss_one (ps_expr (pe_cl D_add_beginnings (hr.mono (by decide)) (pa_cons (pv 1) (pa_cons (pv 2) pa_nil))))))
  (pss_one (ps_ret (pe_cl D_word_order (hr.mono (by decide)) (pa_cons (pe_callTy (call_list_dK rfl) (by rfl) T.z_list (by decide +kernel) (pa_cons (pv 1) pa_nil)) pa_nil)))))), ?_⟩
    refine fun a ha => ⟨upd_same, [(.inr "", .bl true)], rfl, by decide, ?_⟩
    rw [show upd (upd H a (.dK [])) a (.dK (mergeK [] [(.inr "", .bl true)])) = upd H a (.dK (mkK [("", true)])) from upd_upd]
    have s1 := sm1 (o := .dK (mkK [("", true)])) ha
    have e1 : (upd H a (.dK (mkK [("", true)]))) a = some (.dK (mkK [("", true)])) := upd_same
    generalize upd H a (.dK (mkK [("", true)])) = H1 at s1 e1 ⊢
    refine ⟨_, rfl, l, rfl, ⟨_, (Stay.of s1).l _ _ hs⟩, for_list (K := K) (a := l) (xs := ws.map V.str) (fun j σ H' => ∃ (v2 : Option V) (ms : List (Str × Bool)), σ = [some (.ref l), some (.ref a), v2] ∧ Same H H' ∧ H' a = some (.dK (mkK ms)) ∧ (keysM ms).Nodup ∧ (∀ x, x ∈ keysM ms ↔ x ∈ prefs (ws.take j)) ∧ ms.length ≤ 1 + j * 13) ⟨_, _, rfl, s1, e1, List.nodup_cons.mpr ⟨List.not_mem_nil, List.nodup_nil⟩, fun x => Iff.rfl, Nat.le_refl _⟩ ?_ ?_ ?_⟩
    · rintro j σ H' _ ⟨v2, ms, rfl, s2, _⟩
      exact (Stay.of s2).l _ _ hs
    · rintro j x σ H2 hx ⟨v2, ms, rfl, s2, e2, nd, mem, ml⟩
      obtain ⟨w, hw, rfl⟩ := Option.map_eq_some_iff.mp (show (ws[j]?).map V.str = some x by rw [← List.getElem?_map]; exact hx)
      have wl2 := wl w (List.mem_of_getElem? hw)
      have jl : j < ws.length := (List.getElem?_eq_some_iff.mp hw).1
      refine ⟨_, rfl, _, rfl, a, w, ms, rfl, e2, nd, by omega, by omega, fun ms' H3 bt e3 gr => ?_⟩
      refine ⟨_, ms', rfl, fun b o e => bt b o (ne_of_none e ha) (s2 b o e), e3, gr.1, fun x => ?_, ?_⟩
      · rw [gr.2.1, mem, prefs_next hw]
      · have := gr.2.2
        omega
    · rintro σ H2 ⟨v2, ms, rfl, s2, e2, nd, mem, ml⟩
      rw [List.length_map] at ml
      rw [List.length_map, List.take_length] at mem
      refine ⟨_, rfl, a, _, rfl, e2, fun q hq => ?_⟩
      rw [keys_text]
      have s3 := s2.trans (sm1 (o := .lst ((keysM ms).map V.str)) hq)
      refine ⟨q, keysM ms, rfl, .inl (SqL.of upd_same), by unfold keysM; rw [List.length_map]; omega, fun z hz => ?_, fun p H3 s4 hp e3 => ?_⟩
      · rcases prefs_mem.mp ((mem z).mp hz) with rfl | ⟨w, hw, k, hk, rfl⟩
        · decide
        · have := wl w hw
          have := tk_len (w := w) (k := k)
          omega
      · have so := order_srt nd
        exact k p _ H3 (s3.trans s4) (There.of s3 _ hp) e3 ⟨fun x => (so.mem x).trans (mem x), so.ord⟩
end
end Wf
namespace Wf
open PySem L2
abbrev s_Sample___init : Stmt := inClass (top 37) 0
abbrev N_Sample___init : List Str := ["self", "letters", "yes", "no", "marks", "word", "prefixes"]
theorem sc_Sample___init : FnScope N_Sample___init ["self", "letters", "yes", "no"] (defScope s_Sample___init) := ⟨rfl, rfl, rfl, by decide +kernel, rfl, by decide +kernel, by decide +kernel⟩
structure SmC (K : PySem.W.Frag) (C : Addr) : Prop where
  cl : Cls K C
  n1 : NoAttr K C "_letters"
  n2 : NoAttr K C "_marks"
  n3 : NoAttr K C "_yes"
  n4 : NoAttr K C "_no"
  n5 : NoAttr K C "_prefixes"
/-- the words of a sequence of texts -/
def txt : PyData → Str
  | .str z => z
  | _ => ""
def wordsOf (d : PyData) : List Str := (its d).map txt
theorem words_seq {K : PySem.W.Frag} {H : Hp} {z : Str} : ∀ {vs : List V} {ds : List PyData}, DqAll K H vs ds → (∀ d ∈ ds, wordOk z 12 d = true) → vs = (ds.map txt).map V.str
  | _, _, .nil, _ => rfl
  | _, _, .cons (d := d) a b, h => by
    have h1 := h _ List.mem_cons_self
    have e : ∃ u, d = .str u := by cases d <;> first | exact ⟨_, rfl⟩ | cases h1
    obtain ⟨u, rfl⟩ := e
    cases a
    rw [words_seq b fun d hd => h d (List.mem_cons_of_mem _ hd)]
    rfl
theorem words_short {z : Str} {ds : List PyData} (h : ∀ d ∈ ds, wordOk z 12 d = true) : ∀ w ∈ ds.map txt, w.length ≤ 12 := fun w hw => by
  obtain ⟨d, hd, rfl⟩ := List.mem_map.mp hw
  have h1 := h d hd
  unfold wordOk at h1
  rw [Bool.and_eq_true] at h1
  have h2 := of_decide_eq_true h1.2
  cases d <;> first | exact h2 | exact Nat.zero_le _
/-- not too much of it -/
structure SqS (d : PyData) : Prop where
  few : (its d).length ≤ 5000
  low : ∀ e ∈ its d, ∀ w, e = .str w → w.length < 1000000
def goodW (z : Str) (d : PyData) : Prop := isSeq d = true ∧ Fst (wrongWord z (its d)) (its d).length none
theorem goodW.all {z : Str} {d : PyData} (h : goodW z d) : ∀ e ∈ its d, wordOk z 12 e = true := fun e he => by
  obtain ⟨j, hj, rfl⟩ := List.getElem_of_mem he
  have h1 := h.2 j hj
  unfold wrongWord at h1
  rw [getD_of (List.getElem?_eq_getElem hj)] at h1
  exact h1
/-- nothing is a word in both -/
def Apart (yw nw : List Str) : Prop := ∀ w ∈ nw, w ∉ yw
def spSam (K : PySem.W.Frag) (CL CW CS CT : Addr) : Sp := fun vs H Q E => ∃ (x C dx : Addr) (l y n : V) (dl dy dn : PyData), vs = [.ref x, l, y, n] ∧ H x = some (.ins C dx []) ∧ SmC K C ∧ Dq K H l dl ∧ Dq K H y dy ∧ Dq K H n dn ∧ (∀ z, dl = .str z → z.length < 1000000) ∧ SqS dy ∧ SqS dn ∧
  (lettersOk dl = false → ∀ H', Same H H' → E (.ref CL) none H') ∧
  ∀ z, dl = .str z → lettersOk dl = true →
    (isSeq dy = false → ∀ dd H', Same H H' → H dd = none → H' dd = some (.xd [("word", y)]) → E (.ref CW) (some dd) H') ∧
    (isSeq dy = true → ∀ i, Fst (wrongWord z (its dy)) (its dy).length (some i) → ∀ u dd H', Same H H' → Dq K H' u ((its dy).getD i .none) → H dd = none → H' dd = some (.xd [("word", u)]) → E (.ref CW) (some dd) H') ∧
    (goodW z dy →
      (isSeq dn = false → ∀ dd H', Same H H' → H dd = none → H' dd = some (.xd [("word", n)]) → E (.ref CW) (some dd) H') ∧
      (isSeq dn = true → ∀ i, Fst (wrongWord z (its dn)) (its dn).length (some i) → ∀ u dd H', Same H H' → Dq K H' u ((its dn).getD i .none) → H dd = none → H' dd = some (.xd [("word", u)]) → E (.ref CW) (some dd) H') ∧
      (goodW z dn →
        (∀ (i : Nat) (w : Str), (wordOrder (wordsOf dn))[i]? = some w → w ∈ wordsOf dy → (∀ u ∈ (wordOrder (wordsOf dn)).take i, u ∉ wordsOf dy) → ∀ dd H', Same H H' → H dd = none → H' dd = some (.xd [("word", .str w)]) → E (.ref CS) (some dd) H') ∧
        (Apart (wordsOf dy) (wordsOf dn) → ∀ ys ns, Marks (wordsOf dy) (wordsOf dn) (marksOf (wordsOf dy) (wordsOf dn)) ys ns →
          (200 < ys.length + ns.length → ∀ dd H', Same H H' → H dd = none → H' dd = some (.xd [("limit", .int 200)]) → E (.ref CT) (some dd) H') ∧
          (ys.length + ns.length ≤ 200 → ∀ ps, Srt ps (prefs (ys ++ ns)) →
            (600 < ps.length → ∀ dd H', Same H H' → H dd = none → H' dd = some (.xd [("limit", .int 600)]) → E (.ref CT) (some dd) H') ∧
            (ps.length ≤ 600 → ∀ (md t1 t2 t3 : Addr) (H' : Hp), But x H H' → H md = none → H t1 = none → H t2 = none → H t3 = none →
              H' x = some (.ins C dx [("_letters", l), ("_marks", .ref md), ("_yes", .ref t1), ("_no", .ref t2), ("_prefixes", .ref t3)]) → H' md = some (.dK (mkK (marksOf (wordsOf dy) (wordsOf dn)))) →
              H' t1 = some (.tup (ys.map V.str)) → H' t2 = some (.tup (ns.map V.str)) → H' t3 = some (.tup (ps.map V.str)) → Q .non H')))))
section
variable {P : Program} {w : World} {K : PySem.W.Frag} {mg : Str → Option Value} {base : Heap} {f : Addr} {fd : FuncData}
theorem ok_Sample_init {CL CW CS CT : Addr} {dvs : List V} (F : FunD K "__init__" "Sample.__init__" (defArgs s_Sample___init) (defBody s_Sample___init) (defScope s_Sample___init) dvs [] f fd) (T : TxtS K mg) (D_are_letters : Dn P w K mg base 1 "are_letters" ["value"] (spLtrs K)) (D_check_sequence : DnX P w K mg base 4 "check_sequence" ["words", "letters"] (spCheckS K CW))
    (D_word_order : Dn P w K mg base 1 "word_order" ["words"] (spOrder K)) (D_prefixes_of : Dn P w K mg base 2 "prefixes_of" ["words"] (spPrefOf K)) (N_InvalidLetters : E0 K mg "InvalidLetters" CL) (N_InvalidSample : E1 P w K mg base "InvalidSample" CS "word") (N_TooLarge : E1 P w K mg base "TooLarge" CT "limit") :
    FnOk P w K mg base (L2.CX P w) 6 f fd ["self", "letters", "yes", "no"] (spSam K CL CW CS CT) := by
  refine F.ok (CX := L2.CX P w) sc_Sample___init (fun vs H Q E h => ?_) (fun cdv A outer s H vs Q E hr h => ?_)
  · obtain ⟨x, C, dx, l, y, n, dl, dy, dn, rfl, _⟩ := h
    rfl
  · obtain ⟨x, C, dx, l, y, n, dl, dy, dn, rfl, hx, sc, hl, hy, hn, sl, sy, sn, e1, rest⟩ := h
    have hu := hu_of hr
    refine ⟨_, (pss_cons (ps_if (pt_not (pt_val (pe_cl D_are_letters (hr.mono (by decide)) (pa_cons (pv 1) pa_nil)))) (pss_one (ps_r0 N_InvalidLetters rfl rfl (takes_of rfl rfl rfl rfl))) pss_nil)
  (pss_cons (ps_expr (pe_clX D_check_sequence (hr.mono (by decide)) (takes_of rfl rfl rfl rfl) (pa_cons (pv 2) (pa_cons (pv 1) pa_nil))))
  (pss_cons (ps_expr (pe_clX D_check_sequence (hr.mono (by decide)) (takes_of rfl rfl rfl rfl) (pa_cons (pv 3) (pa_cons (pv 1) pa_nil))))
  (pss_cons (ps_set (i := 4) sc_Sample___init.nd rfl (Or.inr rfl) (pe_dc (own := [("word", 5)]) (g := gName 5) (tt := tYes) rfl sc_Sample___init.nd (pi_list (pe_cl D_word_order (hr.mono (by decide)) (pa_cons (pv 2) pa_nil))) (blkOk_by (own := [("word", 5)]) (N := N_Sample___init) (sc := defScope s_Sample___init) (by decide +kernel)) (fun _ _ _ _ _ => (pg_name (i := 5) sc_Sample___init.nd rfl (Or.inl rfl))) (fun _ _ _ _ _ => pts_nil) (fun _ _ _ _ _ => (pv 5)) (fun _ _ _ _ _ => (pe_bl))))
  (pss_cons (ps_for (passes_of rfl) rfl (pi_list (pe_cl D_word_order (hr.mono (by decide)) (pa_cons (pv 3) pa_nil))) (pg_name (i := 5) sc_Sample___init.nd rfl (Or.inl rfl))
   (pss_cons (ps_if (pt_truth (pe_dget1 hu (pv 4) (pv 5) ⟨rfl, rfl, rfl, rfl⟩) (by intro _; rfl)) (pss_one (ps_r1 N_InvalidSample (hr.mono (by decide)) (pv 5) rfl rfl (takes_of rfl rfl rfl rfl))) pss_nil)
  (pss_one (ps_dput hu (pv 4) (pv 5) (pe_bl) rfl))))
  (pss_cons (ps_if (pt_cmpR op_gt (pe_callB call_lenD (by rfl) T.z_len PySem.boot_len (pa_cons (pv 4) pa_nil)) (pe_gi T.g_WORDS) (nomark _)) (pss_one (ps_r1 N_TooLarge (hr.mono (by decide)) (pe_gi T.g_WORDS) rfl rfl (takes_of rfl rfl rfl rfl))) pss_nil)
  (pss_cons (ps_set (i := 6) sc_Sample___init.nd rfl (Or.inl rfl) (pe_cl D_prefixes_of (hr.mono (by decide)) (pa_cons (pe_callTy (call_list_dK rfl) (by rfl) T.z_list (by decide +kernel) (pa_cons (pv 4) pa_nil)) pa_nil)))
  (pss_cons (ps_if (pt_cmpR op_gt (pe_callB call_len_seq (by rfl) T.z_len PySem.boot_len (pa_cons (pv 6) pa_nil)) (pe_gi T.g_PREFIXES) (nomark _)) (pss_one (ps_r1 N_TooLarge (hr.mono (by decide)) (pe_gi T.g_PREFIXES) rfl rfl (takes_of rfl rfl rfl rfl))) pss_nil)
  (pss_cons (ps_fld (pv 0) (pv 1) rfl)
  (pss_cons (ps_fld (pv 0) (pv 4) rfl)
  (pss_cons (ps_fld (pv 0) (pe_callTy call_tuple_of (by rfl) T.z_tuple (by decide +kernel) (pa_cons (pe_lock (pe_lc (own := [("word", 5)]) (g := gName 5) (by rfl) sc_Sample___init.nd (pi_keys (pv 4)) (blkOk_by (own := [("word", 5)]) (N := N_Sample___init) (sc := defScope s_Sample___init) (by decide +kernel)) (fun _ _ _ _ _ => (pg_name (i := 5) sc_Sample___init.nd rfl (Or.inl rfl))) (fun _ _ _ _ _ => (pts_one (pt_val (pe_dget hu (pv 4) (pv 5) (fun _ _ => rfl))))) (fun _ _ _ _ _ => (pv 5)))) pa_nil)) rfl)
  (pss_cons (ps_fld (pv 0) (pe_callTy call_tuple_of (by rfl) T.z_tuple (by decide +kernel) (pa_cons (pe_lock (pe_lc (own := [("word", 5)]) (g := gName 5) (by rfl) sc_Sample___init.nd (pi_keys (pv 4)) (blkOk_by (own := [("word", 5)]) (N := N_Sample___init) (sc := defScope s_Sample___init) (by decide +kernel)) (fun _ _ _ _ _ => (pg_name (i := 5) sc_Sample___init.nd rfl (Or.inl rfl))) (fun _ _ _ _ _ => (pts_one (pt_not (pt_val (pe_dget hu (pv 4) (pv 5) (fun _ _ => rfl)))))) (fun _ _ _ _ _ => (pv 5)))) pa_nil)) rfl)
  (pss_one (ps_fld (pv 0) (pe_callTy call_tuple_of (by rfl) T.z_tuple (by decide +kernel) (pa_cons (pv 6) pa_nil)) rfl)))))))))))))), ?_⟩
    -- letters
    refine ⟨_, rfl, l, dl, rfl, hl, sl, fun H1 s1 => ⟨_, rfl, ?_⟩⟩
    cases q1 : lettersOk dl with
    | false => exact iteT ⟨There.of s1, fun H' s' => e1 q1 H' (s1.trans s')⟩
    | true =>
    refine iteF ?_
    obtain ⟨z, rfl, z1, z4⟩ := letters_str q1
    obtain ⟨e2, e3, rest2⟩ := rest z rfl q1
    clear rest
    cases hl
    -- the two sequences
    refine ⟨_, rfl, _, rfl, y, dy, z, rfl, (Sty.of s1).dq hy, sy.low, fun qs dd H' s' nd ed => e2 qs dd H' (s1.trans s') (There.of s1 _ nd) ed, fun qs i fst u dd H' s' hu' nd ed => e3 qs i fst u dd H' (s1.trans s') hu' (There.of s1 _ nd) ed, fun qy fy H2 s2 => ?_⟩
    have gy : goodW z dy := ⟨qy, fy⟩
    obtain ⟨e4, e5, rest3⟩ := rest2 gy
    clear rest2
    have s12 := s1.trans s2
    refine ⟨_, rfl, _, rfl, n, dn, z, rfl, (Sty.of s12).dq hn, sn.low, fun qs dd H' s' nd ed => e4 qs dd H' (s12.trans s') (There.of s12 _ nd) ed, fun qs i fst u dd H' s' hu' nd ed => e5 qs i fst u dd H' (s12.trans s') hu' (There.of s12 _ nd) ed, fun qn fn H3 s3 => ?_⟩
    have gn : goodW z dn := ⟨qn, fn⟩
    obtain ⟨e6, rest4⟩ := rest3 gn
    clear rest3
    have s13 := s12.trans s3
    obtain ⟨ya, yxs, rfl, hys, hya⟩ := hy.seq qy
    obtain ⟨na, nxs, rfl, hns, hna⟩ := hn.seq qn
    have yx := words_seq hya gy.all
    have nx := words_seq hna gn.all
    have yshort := words_short gy.all
    have nshort := words_short gn.all
    have yfew : ((its dy).map txt).length ≤ 5000 := by rw [List.length_map]; exact sy.few
    have nfew : ((its dn).map txt).length ≤ 5000 := by rw [List.length_map]; exact sn.few
    rw [yx] at hys
    rw [nx] at hns
    change (∀ (i : Nat) (w : Str), (wordOrder ((its dn).map txt))[i]? = some w → w ∈ (its dy).map txt → _ → _) at e6
    unfold wordsOf at e6 rest4
    generalize (its dy).map txt = yw at hys yshort yfew e6 rest4
    generalize (its dn).map txt = nw at hns nshort nfew e6 rest4
    -- marks = {..}
    refine ⟨_, rfl, ya, yw, rfl, (Stay.of s13).sq hys, by omega, fun u hu' => by have := yshort u hu'; omega, fun q H4 s4 hq0 eq => ?_⟩
    refine ⟨q, rfl, ⟨_, SqL.of eq⟩, fun D hD => ?_⟩
    refine dc_walk (H0 := upd H4 D (.dK [])) (walk_list (K := K)) (fun i H' => Same H4 H' ∧ H' D = some (.dK (mkK (allTrue ((wordOrder yw).take i))))) ⟨sm1 hD, upd_same⟩ (fun i H' iv => (Stay.of iv.1).l _ _ (SqL.of eq)) ?_ ?_
    · rintro i v H5 _ il ⟨s5, e5⟩ ⟨rfl, hv⟩
      obtain ⟨w, hw, rfl⟩ := Option.map_eq_some_iff.mp (show ((wordOrder yw)[i]?).map V.str = some v by rw [← List.getElem?_map]; exact hv)
      refine ⟨rfl, _, rfl, _, .inr w, rfl, e5, ?_, swr s5 hD, ?_⟩
      · rw [mk_len, sizeLine_eq]
        have h1 := fold_len (b := true) (ws := (wordOrder yw).take i) (ms := [])
        rw [List.length_take, order_len] at h1
        unfold allTrue
        have h2 : ([] : List (Str × Bool)).length = 0 := rfl
        omega
      · rw [upd_same, put_mk, allTrue_step hw]
    rintro H5 ⟨s5, e5⟩
    rw [List.length_map, List.take_length] at e5
    have lA : (allTrue (wordOrder yw)).length ≤ 5000 := by
      have h1 := fold_len (b := true) (ws := wordOrder yw) (ms := [])
      rw [order_len] at h1
      unfold allTrue
      have h2 : ([] : List (Str × Bool)).length = 0 := rfl
      omega
    have s15 := s13.trans (s4.trans s5)
    have hD0 : H D = none := There.of (s13.trans s4) D hD
    have kA : ∀ x, markOf (allTrue (wordOrder yw)) x = if x ∈ yw then some true else none := fun x => by
      unfold allTrue
      rw [fold_mark]
      by_cases h : x ∈ yw
      · rw [if_pos h, if_pos (order_mem.mpr h)]
      · rw [if_neg h, if_neg fun z => h (order_mem.mp z)]
        rfl
    -- for word in word_order(no)
    refine ⟨_, rfl, na, nw, rfl, (Stay.of s15).sq hns, by omega, fun u hu' => by have := nshort u hu'; omega, fun q2 H6 s6 hq2 eq2 => ?_⟩
    have s16 := s15.trans s6
    have e6D := s6 _ _ e5
    have q2D : q2 ≠ D := (ne_of_none e5 hq2).symm
    refine ⟨q2, rfl, ⟨_, SqL.of eq2⟩, for_list (K := K) (a := q2) (xs := (wordOrder nw).map V.str) (fun j σ H' => ∃ v5 : Option V, σ = [some (.ref x), some (.str z), some (.ref ya), some (.ref na), some (.ref D), v5, none] ∧ But D H6 H' ∧ H' D = some (.dK (mkK (andFalse (allTrue (wordOrder yw)) ((wordOrder nw).take j)))) ∧ ∀ u ∈ (wordOrder nw).take j, u ∉ yw) ⟨_, rfl, But.refl _ _, e6D, fun u hu' => absurd hu' List.not_mem_nil⟩ ?_ ?_ ?_⟩
    · rintro j σ H' _ ⟨v5, rfl, bt, _⟩
      exact SqL.of (bt _ _ q2D eq2)
    · rintro j v σ H7 hv ⟨v5, rfl, bt, e7, clean⟩
      obtain ⟨w, hw, rfl⟩ := Option.map_eq_some_iff.mp (show ((wordOrder nw)[j]?).map V.str = some v by rw [← List.getElem?_map]; exact hv)
      have jl : j < (wordOrder nw).length := (List.getElem?_eq_some_iff.mp hw).1
      have s17 : Same H H7 := fun b o e => bt b o (ne_of_none e hD0) (s16 _ _ e)
      have lB : (mkK (andFalse (allTrue (wordOrder yw)) ((wordOrder nw).take j))).length < sizeLine := by
        have h1 := fold_len (b := false) (ws := (wordOrder nw).take j) (ms := allTrue (wordOrder yw))
        rw [List.length_take, order_len] at h1
        rw [mk_len, sizeLine_eq]
        unfold andFalse
        omega
      have mo : markOf (andFalse (allTrue (wordOrder yw)) ((wordOrder nw).take j)) w = if w ∈ (wordOrder nw).take j then some false else if w ∈ yw then some true else none := by
        unfold andFalse
        rw [fold_mark, kA]
      have dg := DGet.k (k := .inr w) e7
      rw [val_mk, mo] at dg
      have next : w ∉ yw → sDPut (tVar 4) (tVar 5) (tC (V.bl false)) ⟨fun σ H' => ∃ v5 : Option V, σ = [some (.ref x), some (.str z), some (.ref ya), some (.ref na), some (.ref D), v5, none] ∧ But D H6 H' ∧ H' D = some (.dK (mkK (andFalse (allTrue (wordOrder yw)) ((wordOrder nw).take (j + 1))))) ∧ ∀ u ∈ (wordOrder nw).take (j + 1), u ∉ yw, fun _ _ => False, fun _ _ => False, fun _ _ => False⟩ [some (.ref x), some (.str z), some (.ref ya), some (.ref na), some (.ref D), some (.str w), none] H7 := fun nw' => by
        refine ⟨_, rfl, _, rfl, D, _, rfl, DPut.k (k := .inr w) e7 lB, _, rfl, fun b o nb e => (upd_ne nb).trans (bt b o nb e), ?_, fun u hu' => ?_⟩
        · rw [upd_same, put_mk, andFalse_step hw]
        · rw [List.take_succ, hw] at hu'
          rcases List.mem_append.mp hu' with m | m
          · exact clean u m
          · rw [List.mem_singleton.mp m]
            exact nw'
      refine ⟨_, rfl, D, rfl, .inl ⟨_, .inl e7⟩, _, rfl, _, dg, ?_⟩
      by_cases c1 : w ∈ (wordOrder nw).take j
      · rw [if_pos c1]
        exact ⟨false, rfl, iteF (next (clean w c1))⟩
      · rw [if_neg c1]
        by_cases c2 : w ∈ yw
        · rw [if_pos c2]
          exact ⟨true, rfl, iteT ⟨_, rfl, There.of s17, fun dd H' s' nd ed => e6 j w hw c2 clean dd H' (s17.trans s') (There.of s17 _ nd) ed⟩⟩
        · rw [if_neg c2]
          exact ⟨false, rfl, iteF (next c2)⟩
    · rintro σ H7 ⟨v5, rfl, bt, e7, clean⟩
      rw [List.length_map, List.take_length] at e7 clean
      have s17 : Same H H7 := fun b o e => bt b o (ne_of_none e hD0) (s16 _ _ e)
      have dis : Apart yw nw := fun w hw => clean w (order_mem.mpr hw)
      obtain ⟨ys, ns, mks⟩ := marks_of dis
      obtain ⟨e8, rest5⟩ := rest4 dis ys ns mks
      have e7 : H7 D = some (.dK (mkK (marksOf yw nw))) := e7
      have lM : (mkK (marksOf yw nw)).length = ys.length + ns.length := by
        rw [mk_len, ← List.length_append, ← mks.ks]
        exact (List.length_map _).symm
      refine ⟨_, rfl, D, _, rfl, e7, _, _, rfl, rfl, _, rfl, ?_⟩
      cases q6 : decide ((200 : Int) < ((mkK (marksOf yw nw)).length : Int)) with
      | true =>
        have q5 : 200 < ys.length + ns.length := by have := of_decide_eq_true q6; omega
        exact iteT ⟨There.of s17, fun dd H' s' nd ed => e8 q5 dd H' (s17.trans s') (There.of s17 _ nd) ed⟩
      | false =>
      have q5 : ys.length + ns.length ≤ 200 := by have := of_decide_eq_false q6; omega
      refine iteF ⟨_, rfl, D, _, rfl, e7, fun q3 hq3 => ?_⟩
      rw [keys_text, mks.ks]
      have s8 := s17.trans (sm1 (o := .lst ((ys ++ ns).map V.str)) hq3)
      have e8D := sm1 (o := .lst ((ys ++ ns).map V.str)) hq3 _ _ e7
      have el8 : (upd H7 q3 (.lst ((ys ++ ns).map V.str))) q3 = some (.lst ((ys ++ ns).map V.str)) := upd_same
      generalize upd H7 q3 (.lst ((ys ++ ns).map V.str)) = H8 at s8 e8D el8 ⊢
      refine ⟨q3, ys ++ ns, rfl, SqL.of el8, by rw [List.length_append]; omega, fun u hu' => ?_, fun p4 ps H9 s9 hp4 e9 srt => ?_⟩
      · rcases List.mem_append.mp hu' with m | m
        · exact yshort u ((mks.ys.mem u).mp m)
        · exact nshort u ((mks.ns.mem u).mp m)
      obtain ⟨e10, fin⟩ := rest5 q5 ps srt
      have s19 := s8.trans s9
      have e9D := s9 _ _ e8D
      refine ⟨_, rfl, p4, _, rfl, .inl (SqL.of e9), _, _, rfl, rfl, _, rfl, ?_⟩
      rw [List.length_map]
      cases q7 : decide ((600 : Int) < (ps.length : Int)) with
      | true => exact iteT ⟨There.of s19, fun dd H' s' nd ed => e10 (by have := of_decide_eq_true q7; omega) dd H' (s19.trans s') (There.of s19 _ nd) ed⟩
      | false =>
      have fin := fin (by have := of_decide_eq_false q7; omega)
      refine iteF ?_
      have hx9 := s19 _ _ hx
      -- self._letters = letters
      refine ⟨_, rfl, _, rfl, x, C, dx, _, rfl, hx9, sc.cl, sc.n1, by show 0 < 1000; decide, ?_⟩
      have b10 : But x H (upd H9 x (.ins C dx (putF "_letters" (.str z) []))) := fun b o nb e => (upd_ne nb).trans (s19 _ _ e)
      have hx10 : (upd H9 x (.ins C dx (putF "_letters" (.str z) []))) x = some (.ins C dx [("_letters", .str z)]) := upd_same
      have Dx : D ≠ x := fun e => by rw [e, hx9] at e9D; cases e9D
      have px : p4 ≠ x := fun e => by rw [e, hx9] at e9; cases e9
      have e10D : (upd H9 x (.ins C dx (putF "_letters" (.str z) []))) D = some (.dK (mkK (marksOf yw nw))) := (upd_ne Dx).trans e9D
      have e10p : (upd H9 x (.ins C dx (putF "_letters" (.str z) []))) p4 = some (.lst (ps.map V.str)) := (upd_ne px).trans e9
      generalize upd H9 x (.ins C dx (putF "_letters" (.str z) [])) = H10 at b10 hx10 e10D e10p ⊢
      -- self._marks = marks
      refine ⟨_, rfl, _, rfl, x, C, dx, _, rfl, hx10, sc.cl, sc.n2, by show 1 < 1000; decide, ?_⟩
      have b11 : But x H (upd H10 x (.ins C dx (putF "_marks" (.ref D) [("_letters", .str z)]))) := fun b o nb e => (upd_ne nb).trans (b10 _ _ nb e)
      have hx11 : (upd H10 x (.ins C dx (putF "_marks" (.ref D) [("_letters", .str z)]))) x = some (.ins C dx [("_letters", .str z), ("_marks", .ref D)]) := upd_same
      have e11D : (upd H10 x (.ins C dx (putF "_marks" (.ref D) [("_letters", .str z)]))) D = some (.dK (mkK (marksOf yw nw))) := (upd_ne Dx).trans e10D
      have e11p : (upd H10 x (.ins C dx (putF "_marks" (.ref D) [("_letters", .str z)]))) p4 = some (.lst (ps.map V.str)) := (upd_ne px).trans e10p
      generalize upd H10 x (.ins C dx (putF "_marks" (.ref D) [("_letters", .str z)])) = H11 at b11 hx11 e11D e11p ⊢
      -- self._yes = ..
      refine ⟨D, _, e11D, trivial, fun od => ?_⟩
      refine ⟨_, rfl, D, od, rfl, .inl ⟨_, upd_same, fun L hL => ?_⟩⟩
      refine lc_it (walk_keys (d := D) (o := od) (kvs := mkK (marksOf yw nw))) (fun i H' => Same (upd H11 D (.frz od (.dK (mkK (marksOf yw nw))))) H' ∧ H' L = some (.lst ((((keysM (marksOf yw nw)).take i).filter fun w => markOf (marksOf yw nw) w == some true).map V.str))) ⟨sm1 hL, upd_same⟩ (fun i H' _ iv => iv.1 _ _ upd_same) ?_ ?_
      · rintro i v H12 _ il ⟨st, eL⟩ ⟨rfl, key, val, hk, rfl⟩
        obtain ⟨w, b, hm, rfl, rfl⟩ := mk_at hk
        have mw := mark_at mks.nd hm
        refine ⟨rfl, _, rfl, _, rfl, D, .bl b, rfl, get_frz (st _ _ upd_same) mw, b, rfl, ?_⟩
        rw [keys_take hm, List.filter_append]
        have few : ((((keysM (marksOf yw nw)).take i).filter fun w => markOf (marksOf yw nw) w == some true).map V.str).length < sizeLine := by
          rw [List.length_map, sizeLine_eq]
          have h1 := List.length_filter_le (fun w => markOf (marksOf yw nw) w == some true) ((keysM (marksOf yw nw)).take i)
          rw [List.length_take] at h1
          have h2 : (keysM (marksOf yw nw)).length = ys.length + ns.length := by rw [mks.ks, List.length_append]
          omega
        cases b with
        | true =>
          refine iteT ⟨_, rfl, _, eL, few, swr st hL, ?_⟩
          rw [upd_same, List.map_append, List.filter_cons_of_pos (by rw [mw]; rfl)]
          rfl
        | false =>
          refine iteF ⟨st, ?_⟩
          rw [eL, List.filter_cons_of_neg (by rw [mw]; decide), List.filter_nil, List.append_nil]
      rintro H12 ⟨stt1, eLt1⟩
      rw [mk_len, show (marksOf yw nw).length = (keysM (marksOf yw nw)).length from (List.length_map _).symm, List.take_length, mks.yes dis] at eLt1
      have Lt1D : L ≠ D := fun e => by rw [e, upd_same] at hL; cases hL
      refine ⟨stt1 _ _ upd_same, L, _, rfl, .inl ⟨SqL.of ((upd_ne Lt1D).trans eLt1), fun t1 ht1 => ?_⟩⟩
      have ut1 := (unlock e11D stt1).trans (sm1 (o := .tup (ys.map V.str)) ht1)
      have ft1 := There.of (unlock e11D stt1) t1 ht1
      have gt1 : (upd (upd H12 D (.dK (mkK (marksOf yw nw)))) t1 (.tup (ys.map V.str))) t1 = some (.tup (ys.map V.str)) := upd_same
      generalize upd (upd H12 D (.dK (mkK (marksOf yw nw)))) t1 (.tup (ys.map V.str)) = H13 at ut1 gt1 ⊢
      have hx13 := ut1 _ _ hx11
      refine ⟨_, rfl, x, C, dx, _, rfl, hx13, sc.cl, sc.n3, by show 2 < 1000; decide, ?_⟩
      have b13 : But x H H13 := b11.same ut1
      have e13D := ut1 _ _ e11D
      have e13p := ut1 _ _ e11p
      have n1 : H t1 = none := But.fresh b11 hx11 ft1
      have t1x : t1 ≠ x := fun e => by rw [e, hx11] at ft1; cases ft1
      have b14 : But x H (upd H13 x (.ins C dx (putF "_yes" (.ref t1) [("_letters", .str z), ("_marks", .ref D)]))) := fun b o nb e => (upd_ne nb).trans (b13 _ _ nb e)
      have hx14 : (upd H13 x (.ins C dx (putF "_yes" (.ref t1) [("_letters", .str z), ("_marks", .ref D)]))) x = some (.ins C dx [("_letters", .str z), ("_marks", .ref D), ("_yes", .ref t1)]) := upd_same
      have e14D : (upd H13 x (.ins C dx (putF "_yes" (.ref t1) [("_letters", .str z), ("_marks", .ref D)]))) D = some (.dK (mkK (marksOf yw nw))) := (upd_ne Dx).trans e13D
      have e14p : (upd H13 x (.ins C dx (putF "_yes" (.ref t1) [("_letters", .str z), ("_marks", .ref D)]))) p4 = some (.lst (ps.map V.str)) := (upd_ne px).trans e13p
      have g14 : (upd H13 x (.ins C dx (putF "_yes" (.ref t1) [("_letters", .str z), ("_marks", .ref D)]))) t1 = some (.tup (ys.map V.str)) := (upd_ne t1x).trans gt1
      generalize upd H13 x (.ins C dx (putF "_yes" (.ref t1) [("_letters", .str z), ("_marks", .ref D)])) = H14 at b14 hx14 e14D e14p g14 ⊢
      -- self._no = ..
      refine ⟨D, _, e14D, trivial, fun oe => ?_⟩
      refine ⟨_, rfl, D, oe, rfl, .inl ⟨_, upd_same, fun M hM => ?_⟩⟩
      refine lc_it (walk_keys (d := D) (o := oe) (kvs := mkK (marksOf yw nw))) (fun i H' => Same (upd H14 D (.frz oe (.dK (mkK (marksOf yw nw))))) H' ∧ H' M = some (.lst ((((keysM (marksOf yw nw)).take i).filter fun w => !(markOf (marksOf yw nw) w == some true)).map V.str))) ⟨sm1 hM, upd_same⟩ (fun i H' _ iv => iv.1 _ _ upd_same) ?_ ?_
      · rintro i v H15 _ il ⟨st, eL⟩ ⟨rfl, key, val, hk, rfl⟩
        obtain ⟨w, b, hm, rfl, rfl⟩ := mk_at hk
        have mw := mark_at mks.nd hm
        refine ⟨rfl, _, rfl, _, rfl, D, .bl b, rfl, get_frz (st _ _ upd_same) mw, b, rfl, ?_⟩
        rw [keys_take hm, List.filter_append]
        have few : ((((keysM (marksOf yw nw)).take i).filter fun w => !(markOf (marksOf yw nw) w == some true)).map V.str).length < sizeLine := by
          rw [List.length_map, sizeLine_eq]
          have h1 := List.length_filter_le (fun w => !(markOf (marksOf yw nw) w == some true)) ((keysM (marksOf yw nw)).take i)
          rw [List.length_take] at h1
          have h2 : (keysM (marksOf yw nw)).length = ys.length + ns.length := by rw [mks.ks, List.length_append]
          omega
        cases b with
        | false =>
          refine iteT ⟨_, rfl, _, eL, few, swr st hM, ?_⟩
          rw [upd_same, List.map_append, List.filter_cons_of_pos (by rw [mw]; rfl)]
          rfl
        | true =>
          refine iteF ⟨st, ?_⟩
          rw [eL, List.filter_cons_of_neg (by rw [mw]; decide), List.filter_nil, List.append_nil]
      rintro H15 ⟨stt2, eLt2⟩
      rw [mk_len, show (marksOf yw nw).length = (keysM (marksOf yw nw)).length from (List.length_map _).symm, List.take_length, mks.no dis] at eLt2
      have Lt2D : M ≠ D := fun e => by rw [e, upd_same] at hM; cases hM
      refine ⟨stt2 _ _ upd_same, M, _, rfl, .inl ⟨SqL.of ((upd_ne Lt2D).trans eLt2), fun t2 ht2 => ?_⟩⟩
      have ut2 := (unlock e14D stt2).trans (sm1 (o := .tup (ns.map V.str)) ht2)
      have ft2 := There.of (unlock e14D stt2) t2 ht2
      have gt2 : (upd (upd H15 D (.dK (mkK (marksOf yw nw)))) t2 (.tup (ns.map V.str))) t2 = some (.tup (ns.map V.str)) := upd_same
      generalize upd (upd H15 D (.dK (mkK (marksOf yw nw)))) t2 (.tup (ns.map V.str)) = H16 at ut2 gt2 ⊢
      have hx16 := ut2 _ _ hx14
      refine ⟨_, rfl, x, C, dx, _, rfl, hx16, sc.cl, sc.n4, by show 3 < 1000; decide, ?_⟩
      have b16 : But x H H16 := b14.same ut2
      have n2 : H t2 = none := But.fresh b14 hx14 ft2
      have t2x : t2 ≠ x := fun e => by rw [e, hx14] at ft2; cases ft2
      have b17 : But x H (upd H16 x (.ins C dx (putF "_no" (.ref t2) [("_letters", .str z), ("_marks", .ref D), ("_yes", .ref t1)]))) := fun b o nb e => (upd_ne nb).trans (b16 _ _ nb e)
      have hx17 : (upd H16 x (.ins C dx (putF "_no" (.ref t2) [("_letters", .str z), ("_marks", .ref D), ("_yes", .ref t1)]))) x = some (.ins C dx [("_letters", .str z), ("_marks", .ref D), ("_yes", .ref t1), ("_no", .ref t2)]) := upd_same
      have e17D : (upd H16 x (.ins C dx (putF "_no" (.ref t2) [("_letters", .str z), ("_marks", .ref D), ("_yes", .ref t1)]))) D = some (.dK (mkK (marksOf yw nw))) := (upd_ne Dx).trans (ut2 _ _ e14D)
      have e17p : (upd H16 x (.ins C dx (putF "_no" (.ref t2) [("_letters", .str z), ("_marks", .ref D), ("_yes", .ref t1)]))) p4 = some (.lst (ps.map V.str)) := (upd_ne px).trans (ut2 _ _ e14p)
      have g17 : (upd H16 x (.ins C dx (putF "_no" (.ref t2) [("_letters", .str z), ("_marks", .ref D), ("_yes", .ref t1)]))) t1 = some (.tup (ys.map V.str)) := (upd_ne t1x).trans (ut2 _ _ g14)
      have k17 : (upd H16 x (.ins C dx (putF "_no" (.ref t2) [("_letters", .str z), ("_marks", .ref D), ("_yes", .ref t1)]))) t2 = some (.tup (ns.map V.str)) := (upd_ne t2x).trans gt2
      generalize upd H16 x (.ins C dx (putF "_no" (.ref t2) [("_letters", .str z), ("_marks", .ref D), ("_yes", .ref t1)])) = H17 at b17 hx17 e17D e17p g17 k17 ⊢
      -- self._prefixes = ..
      refine ⟨_, rfl, p4, _, rfl, .inl ⟨SqL.of e17p, fun t3 ht3 => ?_⟩⟩
      have s18 := sm1 (o := .tup (ps.map V.str)) ht3
      have n3 : H t3 = none := But.fresh b17 hx17 ht3
      have t3x : t3 ≠ x := fun e => by rw [e, hx17] at ht3; cases ht3
      refine ⟨_, rfl, x, C, dx, _, rfl, s18 _ _ hx17, sc.cl, sc.n5, by show 4 < 1000; decide, ?_⟩
      exact fin D t1 t2 t3 _ (fun b o nb e => (upd_ne nb).trans (s18 _ _ (b17 _ _ nb e))) hD0 n1 n2 n3 upd_same ((upd_ne Dx).trans (s18 _ _ e17D)) ((upd_ne t1x).trans (s18 _ _ g17)) ((upd_ne t2x).trans (s18 _ _ k17)) ((upd_ne t3x).trans upd_same)
end
end Wf
namespace Wf
open PySem L2
abbrev s_Sample_letters : Stmt := inClass (top 37) 4
abbrev N_Sample_letters : List Str := ["self"]
theorem sc_Sample_letters : FnScope N_Sample_letters ["self"] (defScope s_Sample_letters) := ⟨rfl, rfl, rfl, by decide +kernel, rfl, by decide +kernel, by decide +kernel⟩
abbrev s_Sample_yes : Stmt := inClass (top 37) 5
abbrev N_Sample_yes : List Str := ["self"]
theorem sc_Sample_yes : FnScope N_Sample_yes ["self"] (defScope s_Sample_yes) := ⟨rfl, rfl, rfl, by decide +kernel, rfl, by decide +kernel, by decide +kernel⟩
abbrev s_Sample_no : Stmt := inClass (top 37) 6
abbrev N_Sample_no : List Str := ["self"]
theorem sc_Sample_no : FnScope N_Sample_no ["self"] (defScope s_Sample_no) := ⟨rfl, rfl, rfl, by decide +kernel, rfl, by decide +kernel, by decide +kernel⟩
abbrev s_Sample_prefixes : Stmt := inClass (top 37) 7
abbrev N_Sample_prefixes : List Str := ["self"]
theorem sc_Sample_prefixes : FnScope N_Sample_prefixes ["self"] (defScope s_Sample_prefixes) := ⟨rfl, rfl, rfl, by decide +kernel, rfl, by decide +kernel, by decide +kernel⟩
abbrev s_Sample_size : Stmt := inClass (top 37) 8
abbrev N_Sample_size : List Str := ["self"]
theorem sc_Sample_size : FnScope N_Sample_size ["self"] (defScope s_Sample_size) := ⟨rfl, rfl, rfl, by decide +kernel, rfl, by decide +kernel, by decide +kernel⟩
abbrev s_Sample_mark : Stmt := inClass (top 37) 9
abbrev N_Sample_mark : List Str := ["self", "word"]
theorem sc_Sample_mark : FnScope N_Sample_mark ["self", "word"] (defScope s_Sample_mark) := ⟨rfl, rfl, rfl, by decide +kernel, rfl, by decide +kernel, by decide +kernel⟩
abbrev s_Sample___eq : Stmt := inClass (top 37) 1
abbrev N_Sample___eq : List Str := ["self", "other"]
theorem sc_Sample___eq : FnScope N_Sample___eq ["self", "other"] (defScope s_Sample___eq) := ⟨rfl, rfl, rfl, by decide +kernel, rfl, by decide +kernel, by decide +kernel⟩
/-- a sample, as it stands -/
structure Sam where
  z : Str
  ms : List (Str × Bool)
  ys : List Str
  ns : List Str
  ps : List Str
/-- where its parts stand -/
structure SamP where
  a : Addr
  dx : Addr
  md : Addr
  t1 : Addr
  t2 : Addr
  t3 : Addr
structure SamAt (C : Addr) (H : Hp) (p : SamP) (s : Sam) : Prop where
  ob : H p.a = some (.ins C p.dx [("_letters", .str s.z), ("_marks", .ref p.md), ("_yes", .ref p.t1), ("_no", .ref p.t2), ("_prefixes", .ref p.t3)])
  dk : H p.md = some (.dK (mkK s.ms))
  ys : H p.t1 = some (.tup (s.ys.map V.str))
  ns : H p.t2 = some (.tup (s.ns.map V.str))
  ps : H p.t3 = some (.tup (s.ps.map V.str))
/-- nothing that is read elsewhere is one of it -/
structure NotC (K : PySem.W.Frag) (C : Addr) : Prop where
  no : ∀ d : PyData, PySem.W.kitOne K (.type (tyN d)) (.ref C) = some false
  yes : PySem.W.kitOne K (.ref C) (.ref C) = some true
  ty : ∀ {H : Hp} {a dx : Addr} {fs : List (Str × V)}, H a = some (.ins C dx fs) → TyX K H (.ref a) (.ref C)
def spSize (C : Addr) : Sp := fun vs H Q _ => ∃ (p : SamP) (s : Sam), vs = [.ref p.a] ∧ SamAt C H p s ∧ Q (.int s.ms.length) H
/-- the mark of any value -/
def markD (ms : List (Str × Bool)) : PyData → V
  | .str w => mV (markOf ms w)
  | _ => .non
def spMark (K : PySem.W.Frag) (C : Addr) : Sp := fun vs H Q _ => ∃ (p : SamP) (s : Sam) (v : V) (d : PyData), vs = [.ref p.a, v] ∧ SamAt C H p s ∧ Dq K H v d ∧ Q (markD s.ms d) H
section
variable {P : Program} {w : World} {K : PySem.W.Frag} {mg : Str → Option Value} {base : Heap} {f : Addr} {fd : FuncData}
theorem ok_Sample_size {C : Addr} (F : Fun K "size" "Sample.size" s_Sample_size f fd) (T : Txt K mg) (sc : SmC K C) : FnOk P w K mg base CX0 1 f fd ["self"] (spSize C) := by
  refine F.ok sc_Sample_size (fun vs H Q E h => ?_) (fun cdv A outer s H vs Q E hr h => ?_)
  · obtain ⟨p, sm, rfl, _⟩ := h
    rfl
  · obtain ⟨p, sm, rfl, at_, q⟩ := h
    refine ⟨_, (pss_one (ps_ret (pe_callB call_lenD (by rfl) T.z_len PySem.boot_len (pa_cons (pe_fld (pv 0) rfl) pa_nil)))), ?_⟩
    refine ⟨_, rfl, p.a, C, p.dx, _, _, rfl, at_.ob, sc.cl, sc.n2, rfl, p.md, _, rfl, at_.dk, ?_⟩
    rw [mk_len]
    exact q
theorem ok_Sample_mark {C : Addr} (F : Fun K "mark" "Sample.mark" s_Sample_mark f fd) (T : Txt K mg) (sc : SmC K C) : FnOk P w K mg base CX0 1 f fd ["self", "word"] (spMark K C) := by
  refine F.ok sc_Sample_mark (fun vs H Q E h => ?_) (fun cdv A outer s H vs Q E hr h => ?_)
  · obtain ⟨p, sm, v, d, rfl, _⟩ := h
    rfl
  · obtain ⟨p, sm, v, d, rfl, at_, hd, q⟩ := h
    have hu := hu_of hr
    refine ⟨_, (pss_one (ps_ret (pe_ifExp (pt_val (pe_callB (call_isD kit_str) (by rfl) T.z_isinstance (by decide +kernel) (pa_cons (pv 1) (pa_cons (pe_ty (T := "str") T.z_str (by decide +kernel)) pa_nil)))) (pe_dget1 hu (pe_fld (pv 0) rfl) (pv 1) ⟨rfl, rfl, rfl, rfl⟩) (pe_non)))), ?_⟩
    refine ⟨_, rfl, v, d, rfl, hd, _, rfl, ?_⟩
    cases e : isStr d with
    | false =>
      rw [show markD sm.ms d = .non from by cases d <;> first | rfl | cases e] at q
      exact iteF q
    | true =>
      obtain ⟨u, rfl⟩ : ∃ u, d = .str u := by cases d <;> first | exact ⟨_, rfl⟩ | cases e
      cases hd
      refine iteT ⟨_, rfl, p.a, C, p.dx, _, _, rfl, at_.ob, sc.cl, sc.n2, rfl, p.md, rfl, .inl ⟨_, .inl at_.dk⟩, _, rfl, _, DGet.k (k := .inr u) at_.dk, ?_⟩
      rw [val_mk, show ((markOf sm.ms u).map V.bl).getD .non = mV (markOf sm.ms u) from by cases markOf sm.ms u <;> rfl]
      exact q
theorem eqv_texts : ∀ {xs ys : List Str}, PyData.eqv (.tuple (xs.map PyData.str)) (.tuple (ys.map PyData.str)) = decide (xs = ys) := by
  intro xs ys
  rw [PyData.eqv]
  induction xs generalizing ys with
  | nil =>
    cases ys with
    | nil =>
      rw [decide_eq_true rfl]
      rfl
    | cons y ys =>
      rw [decide_eq_false (by simp)]
      rfl
  | cons x xs ih =>
    cases ys with
    | nil =>
      rw [decide_eq_false (by simp)]
      rfl
    | cons y ys =>
      rw [List.map_cons, List.map_cons, PyData.eqvAll, ih, PyData.eqv]
      by_cases h : x = y
      · subst h
        simp
      · rw [decide_eq_false (show ¬ x :: xs = y :: ys from fun z => h (List.cons.inj z).1), beq_eq_false_iff_ne.mpr h, Bool.false_and]
theorem dp_texts {K : PySem.W.Frag} {H : Hp} {t : Addr} {xs : List Str} (e : H t = some (.tup (xs.map V.str))) : Dp K H (.ref t) (.tuple (xs.map PyData.str)) := by
  refine .tup (SqT.of e) ?_
  clear e
  induction xs with
  | nil => exact .nil
  | cons x xs ih => exact .cons (.str x) ih
theorem pl_texts {xs : List Str} (h : ∀ x ∈ xs, PyData.strOk x = true) : Pl 1 (.tuple (xs.map PyData.str)) := pl_tup fun d hd => by
  obtain ⟨x, hx, rfl⟩ := List.mem_map.mp hd
  exact pl_str (h x hx)
/-- its words are texts -/
structure SamOk (s : Sam) : Prop where
  ys : ∀ x ∈ s.ys, PyData.strOk x = true
  ns : ∀ x ∈ s.ns, PyData.strOk x = true
/-- ==, of two samples; of a sample and anything else -/
def spEqS (K : PySem.W.Frag) (C : Addr) : Sp := fun vs H Q _ => ∃ (p : SamP) (s : Sam) (v : V), vs = [.ref p.a, v] ∧ SamAt C H p s ∧ SamOk s ∧
  ((∃ (p' : SamP) (s' : Sam), v = .ref p'.a ∧ SamAt C H p' s' ∧ SamOk s' ∧ Q (.bl (decide (s.z = s'.z ∧ s.ys = s'.ys ∧ s.ns = s'.ns))) H) ∨ (∃ d, Dq K H v d ∧ Q (.bl false) H))
theorem ok_Sample_eq {C : Addr} (F : Fun K "__eq__" "Sample.__eq__" s_Sample___eq f fd) (T : Txt K mg) (sc : SmC K C) (nc : NotC K C) (gC : mg "Sample" = some (.ref C)) : FnOk P w K mg base CX0 1 f fd ["self", "other"] (spEqS K C) := by
  refine F.ok sc_Sample___eq (fun vs H Q E h => ?_) (fun cdv A outer s H vs Q E hr h => ?_)
  · obtain ⟨p, sm, v, rfl, _⟩ := h
    rfl
  · obtain ⟨p, sm, v, rfl, at_, ok, h⟩ := h
    refine ⟨_, (pss_one (ps_ret (pe_and (pe_callB call_isi (by rfl) T.z_isinstance (by decide +kernel) (pa_cons (pv 1) (pa_cons (pe_glob (v := .ref C) rfl gC rfl) pa_nil))) (pe_and (pe_cmpR op_eq (pe_fld (pv 0) rfl) (pe_fld (pv 1) rfl) (nomark _)) (pe_and (pe_cmpR (op_eqD hr.units) (pe_fld (pv 0) rfl) (pe_fld (pv 1) rfl) (nomark _)) (pe_one (pe_cmpR (op_eqD hr.units) (pe_fld (pv 0) rfl) (pe_fld (pv 1) rfl) (nomark _)))))))), ?_⟩
    rcases h with ⟨p', s', rfl, at', ok', q⟩ | ⟨d, hd, q⟩
    · refine ⟨_, rfl, .ref p'.a, .ref C, .ref C, .ref C, true, rfl, .own C, nc.ty at'.ob, nc.yes, _, rfl, iteT ?_⟩
      refine ⟨_, rfl, p.a, C, p.dx, _, _, rfl, at_.ob, sc.cl, sc.n1, rfl, _, rfl, p'.a, C, p'.dx, _, _, rfl, at'.ob, sc.cl, sc.n1, rfl, rfl, _, rfl, ?_⟩
      have e1 : decide (V.str sm.z = V.str s'.z) = decide (sm.z = s'.z) := by
        by_cases h : sm.z = s'.z
        · rw [h]
          simp
        · rw [decide_eq_false h]
          exact decide_eq_false fun z => h (V.str.inj z)
      rw [e1]
      by_cases h1 : sm.z = s'.z
      · rw [decide_eq_true h1]
        refine iteT ⟨_, rfl, p.a, C, p.dx, _, _, rfl, at_.ob, sc.cl, sc.n3, rfl, _, rfl, p'.a, C, p'.dx, _, _, rfl, at'.ob, sc.cl, sc.n3, rfl, _, _, dp_texts at_.ys, dp_texts at'.ys, (pl_texts ok.ys).shaped, (pl_texts ok'.ys).shaped, _, rfl, ?_⟩
        rw [eqv_texts]
        by_cases h2 : sm.ys = s'.ys
        · rw [decide_eq_true h2]
          refine iteT ⟨_, rfl, p.a, C, p.dx, _, _, rfl, at_.ob, sc.cl, sc.n4, rfl, _, rfl, p'.a, C, p'.dx, _, _, rfl, at'.ob, sc.cl, sc.n4, rfl, _, _, dp_texts at_.ns, dp_texts at'.ns, (pl_texts ok.ns).shaped, (pl_texts ok'.ns).shaped, ?_⟩
          rw [eqv_texts]
          rw [show decide (sm.z = s'.z ∧ sm.ys = s'.ys ∧ sm.ns = s'.ns) = decide (sm.ns = s'.ns) from decide_eq_decide.mpr ⟨fun h => h.2.2, fun h => ⟨h1, h2, h⟩⟩] at q
          exact q
        · rw [decide_eq_false h2]
          rw [decide_eq_false fun h => h2 h.2.1] at q
          exact iteF q
      · rw [decide_eq_false h1]
        rw [decide_eq_false fun h => h1 h.1] at q
        exact iteF q
    · exact ⟨_, rfl, v, .ref C, .type (tyN d), .ref C, false, rfl, .own C, hd.ty, nc.no d, _, rfl, iteF q⟩
end
end Wf
namespace Wf
open PySem L2
abbrev s_law_led : Stmt := top 47
abbrev N_law_led : List Str := ["letters", "rows", "word", "state", "letter"]
theorem sc_law_led : FnScope N_law_led ["letters", "rows", "word"] (defScope s_law_led) := ⟨rfl, rfl, rfl, by decide +kernel, rfl, by decide +kernel, by decide +kernel⟩
def spLed (K : PySem.W.Frag) : Sp := fun vs H Q _ => ∃ (z w : Str) (r : Addr) (tb : List (List (Option Nat))), vs = [.str z, .ref r, .str w] ∧ Rws K H r tb ∧ TbOk z.length tb ∧ (∀ c ∈ w.cps.toList, c ∈ z.cps.toList) ∧ Q (oV (ledTo z.cps.toList tb (some 0) w.cps.toList)) H
section
variable {P : Program} {w : World} {K : PySem.W.Frag} {mg : Str → Option Value} {base : Heap}
theorem ok_led {f : Addr} {fd : FuncData} (F : Fun K "_law_led" "_law_led" s_law_led f fd) (T : Txt K mg) : FnOk P w K mg base CX0 1 f fd ["letters", "rows", "word"] (spLed K) := by
  refine F.ok sc_law_led (fun vs H Q E h => ?_) (fun cdv A outer s H vs Q E hr h => ?_)
  · obtain ⟨z, w, r, tb, rfl, _⟩ := h
    rfl
  · refine ⟨_, (pss_cons (ps_set (i := 3) sc_law_led.nd rfl (Or.inl rfl) (pe_int))
  (pss_cons (ps_for PassesOwn.never rfl (pi_str (pv 2)) (pg_name (i := 4) sc_law_led.nd rfl (Or.inl rfl))
   (pss_one (ps_set (i := 3) sc_law_led.nd rfl (Or.inl rfl) (pe_ifExp (pt_cmpR op_isN (pv 3) (pe_non) (nomark _)) (pe_non) (pe_ix ix_seq (pe_ix ix_seq (pv 1) (pv 3) (fun _ _ => rfl)) (pe_bm PySem.F.plainAttrs_str PySem.F.slot_str_index PySem.F.type_str_index (mt_letter rfl) (pv 0) (pa_cons (pv 4) pa_nil)) (fun _ _ => rfl))))))
  (pss_one (ps_ret (pv 3))))), ?_⟩
    obtain ⟨z, w, r, tb, rfl, hr', T, hw, k⟩ := h
    refine ⟨_, rfl, w, rfl, for_chars (fun i σ H' => H' = H ∧ ∃ v4, σ = [some (.str z), some (.ref r), some (.str w), some (oV (ledTo z.cps.toList tb (some 0) (w.cps.toList.take i))), v4]) ⟨rfl, _, rfl⟩ ?_ ?_⟩
    · rintro i c σ H' hc ⟨rfl, v4, rfl⟩
      have step := led_take (zs := z.cps.toList) (tb := tb) (s := some 0) hc
      have lt := led_lt (zs := z.cps.toList) T (w.cps.toList.take i) (some 0) fun n e => by cases e; exact T.pos
      rw [step]
      generalize ledTo z.cps.toList tb (some 0) (w.cps.toList.take i) = st at lt ⊢
      cases st with
      | none => exact ⟨_, rfl, rfl, _, rfl, iteT ⟨rfl, _, rfl⟩⟩
      | some n =>
        obtain ⟨f1, f2⟩ := idx_at (hw c (List.mem_of_getElem? hc))
        have zl : z.cps.toList.idxOf c < z.length := by
          have q := List.idxOf_lt_length_of_mem (hw c (List.mem_of_getElem? hc))
          rw [Array.length_toList] at q
          exact q
        obtain ⟨bs, b, row, h1, h2, h3, h4⟩ := hr'.row T (lt n rfl) zl
        refine ⟨_, rfl, rfl, _, rfl, iteF ⟨_, rfl, _, rfl, ?_⟩⟩
        exact rix_any h1 h2 ⟨_, rfl, rfl, _, rfl, z, c, _, rfl, rfl, f1, f2, rix_any h3 h4 ⟨rfl, _, rfl⟩⟩
    · rintro σ H' ⟨rfl, v4, rfl⟩
      refine ⟨_, rfl, ?_⟩
      have e : w.cps.toList.take w.length = w.cps.toList := by
        rw [show w.length = w.cps.toList.length from Array.length_toList.symm, List.take_length]
      rw [e]
      exact k
end
end Wf
namespace Wf
open PySem L2
abbrev s_law_raw : Stmt := top 48
abbrev N_law_raw : List Str := ["pen", "most_letters", "many", "most", "letters", "words", "at", "rows", "marks", "is_random", "yes", "no", "word", "sign"]
theorem sc_law_raw : FnScope N_law_raw ["pen", "most_letters", "many", "most"] (defScope s_law_raw) := ⟨rfl, rfl, rfl, by decide +kernel, rfl, by decide +kernel, by decide +kernel⟩
def spRaw : Sp := fun vs H Q _ => ∃ (p c : Addr) (n mL many most : Nat), vs = [.ref p, .int (mL : Int), .int (many : Int), .int (most : Int)] ∧ Pen H p c n ∧ n < 400000 ∧ 1 ≤ mL ∧ mL ≤ 26 ∧ many < 64 ∧ most ≤ 60 ∧
  ∀ (t y o : Addr) (z : Str) (yes no : List Str) (H' : Hp), But p H H' → Pen H' p c (n + 33 + 6 * mL + many * (most + 2)) → Ltrs z mL → H t = none → H y = none → H o = none → y ≠ o → H' t = some (.tup [.str z, .ref y, .ref o]) →
    H' y = some (.lst (yes.map V.str)) → H' o = some (.lst (no.map V.str)) → Raw z many most yes no → Q (.ref t) H'
section
variable {P : Program} {w : World} {K : PySem.W.Frag} {mg : Str → Option Value} {base : Heap}
theorem ok_raw {f : Addr} {fd : FuncData} (F : Fun K "_law_raw" "_law_raw" s_law_raw f fd) (T : Txt K mg) (D_law_draw : Dn P w K mg base 1 "_law_draw" ["pen", "many"] spDraw) (D_law_letters : Dn P w K mg base 3 "_law_letters" ["pen", "most"] spLetters)
    (D_law_word : Dn P w K mg base 3 "_law_word" ["pen", "letters", "most"] spWord) (D_law_sorted : Dn P w K mg base 1 "_law_sorted" ["words"] (spSorted K)) (D_law_table : Dn P w K mg base 2 "_law_table" ["pen", "letters", "size", "is_full"] spTable)
    (D_law_led : Dn P w K mg base 1 "_law_led" ["letters", "rows", "word"] (spLed K)) : FnOk P w K mg base CX0 4 f fd ["pen", "most_letters", "many", "most"] spRaw := by
  refine F.ok sc_law_raw (fun vs H Q E h => ?_) (fun cdv A outer s H vs Q E hr h => ?_)
  · obtain ⟨p, c, n, mL, many, most, rfl, _⟩ := h
    rfl
  · refine ⟨_, (pss_cons (ps_set (i := 4) sc_law_raw.nd rfl (Or.inr rfl) (pe_cl D_law_letters (hr.mono (by decide)) (pa_cons (pv 0) (pa_cons (pv 1) pa_nil))))
  (pss_cons (ps_set (i := 5) sc_law_raw.nd rfl (Or.inl rfl) (pe_cl D_law_sorted (hr.mono (by decide)) (pa_cons (pe_lc (own := [("at", 6)]) (g := gName 6) (tt := tYes) (by rfl) sc_law_raw.nd (pi_range1 (by rfl) T.z_range (pa_cons (pe_cl D_law_draw (hr.mono (by decide)) (pa_cons (pv 0) (pa_cons (pe_op op_add (pv 2) (pe_int)) pa_nil))) pa_nil)) (blkOk_by (own := [("at", 6)]) (N := N_law_raw) (sc := defScope s_law_raw) (by decide +kernel)) (fun _ _ _ _ _ => (pg_name (i := 6) sc_law_raw.nd rfl (Or.inl rfl))) (fun _ _ _ _ _ => pts_nil) (fun _ _ _ _ _ => (pe_cl D_law_word (hr.mono (by decide)) (pa_cons (pv 0) (pa_cons (pv 4) (pa_cons (pv 3) pa_nil)))))) pa_nil)))
  (pss_cons (ps_asg (pe_cl D_law_table (hr.mono (by decide)) (pa_cons (pv 0) (pa_cons (pv 4) (pa_cons (pe_op op_add (pe_int) (pe_cl D_law_draw (hr.mono (by decide)) (pa_cons (pv 0) (pa_cons (pe_int) pa_nil)))) (pa_cons (pe_bl) pa_nil))))) (pg_tup (by rfl) (pgs_cons (pg_name (i := 7) sc_law_raw.nd rfl (Or.inl rfl)) (pgs_cons (pg_name (i := 8) sc_law_raw.nd rfl (Or.inl rfl)) pgs_nil))))
  (pss_cons (ps_set (i := 9) sc_law_raw.nd rfl (Or.inl rfl) (pe_cmpR op_eq (pe_cl D_law_draw (hr.mono (by decide)) (pa_cons (pv 0) (pa_cons (pe_int) pa_nil))) (pe_int) (nomark _)))
  (pss_cons (ps_par (i := 10) (j := 11) (by rfl) sc_law_raw.nd rfl rfl (by decide) rfl rfl (pa_cons (pe_lst pa_nil) (pa_cons (pe_lst pa_nil) pa_nil)) (by rfl))
  (pss_cons (ps_for PassesOwn.never rfl (pi_list (pv 5)) (pg_name (i := 12) sc_law_raw.nd rfl (Or.inl rfl))
   (pss_cons (ps_set (i := 13) sc_law_raw.nd rfl (Or.inl rfl) (pe_ifExp (pt_val (pv 9)) (pe_cmpR op_eq (pe_cl D_law_draw (hr.mono (by decide)) (pa_cons (pv 0) (pa_cons (pe_int) pa_nil))) (pe_int) (nomark _)) (pe_ix ix_list (pv 8) (pe_cl D_law_led (hr.mono (by decide)) (pa_cons (pv 4) (pa_cons (pv 7) (pa_cons (pv 12) pa_nil)))) (fun _ _ => rfl))))
  (pss_one (ps_if (pt_val (pv 13)) (pss_one (ps_expr (pe_bm PySem.F.plainAttrs_list PySem.F.slot_list_append PySem.F.type_list_append mt_append (pv 10) (pa_cons (pv 12) pa_nil)))) (pss_one (ps_expr (pe_bm PySem.F.plainAttrs_list PySem.F.slot_list_append PySem.F.type_list_append mt_append (pv 11) (pa_cons (pv 12) pa_nil))))))))
  (pss_one (ps_ret (pe_tup (pa_cons (pv 4) (pa_cons (pv 10) (pa_cons (pv 11) pa_nil)))))))))))), ?_⟩
    obtain ⟨p, c, n, mL, many, most, rfl, hp, hn, l1, l2, m1, m2, k⟩ := h
    -- letters
    refine ⟨_, rfl, _, rfl, p, c, n, mL, rfl, hp, by omega, by omega, by omega, fun z H1 bt1 hp1 lz => ?_⟩
    replace lz : Ltrs z mL := lz
    -- words
    refine ⟨_, rfl, _, rfl, _, _, rfl, rfl, p, c, _, (many : Int) + 1, rfl, hp1, by omega, by omega, by omega, fun d H2 d0 d1 bt2 hp2 => ⟨d, rfl, by omega, by omega, fun D hD => ?_⟩⟩
    obtain ⟨Dp, Dc⟩ := hp2.off hD
    have sq : ∀ j : Nat, j ≤ many → j * (most + 1) ≤ 63 * 61 := fun j hj => Nat.mul_le_mul (by omega) (by omega)
    refine lc_range (lo := 0) (n := d.toNat) (fun j H' => But p H2 H' ∧ Pen H' p c (n + 28 + j * (most + 1)) ∧ ∃ ws : List Str, H' D = some (.lst (ws.map V.str)) ∧ ws.length = j ∧ ∀ y ∈ ws, y.length ≤ most ∧ ∀ ch ∈ y.cps.toList, ch ∈ z.cps.toList)
      ⟨But.of (sm1 hD), (hp2.same (sm1 hD)).up (by omega), [], upd_same, rfl, fun y hy => absurd hy List.not_mem_nil⟩ ?_ ?_
    · rintro j H' hj ⟨bt', hp', ws, hD', wl, hw⟩
      have sj := sq j (by omega)
      refine ⟨rfl, _, rfl, _, rfl, _, rfl, p, c, _, z, most, rfl, hp', by omega, lz.2.2.1, by have := lz.2.2.2; omega, by omega, by omega, fun y H6 bt6 hp6 y1 y2 => ?_⟩
      refine ⟨_, bt6 _ _ Dp hD', small1000 (by rw [List.length_map]; omega), (bt'.trans bt6).new hD, (hp6.wr Dp Dc).up (by rw [Nat.succ_mul, Int.toNat_natCast]; omega), ws ++ [y], ?_, ?_, fun x hx => ?_⟩
      · rw [upd_same, List.map_append]
        rfl
      · rw [List.length_append, wl]
        rfl
      · rcases List.mem_append.mp hx with hx | hx
        · exact hw x hx
        · rw [List.mem_singleton.mp hx]
          exact ⟨y1, y2⟩
    rintro H3 ⟨bt3, hp3, ws, hD3, wl, hw⟩
    have sd := sq d.toNat (by omega)
    refine ⟨D, ws, rfl, SqL.of hD3, by omega, fun y hy => by have := (hw y hy).1; omega, fun l ys H4 s4 hl0 hl4 srt => ?_⟩
    have yl : ys.length ≤ many := by have := srt.len; omega
    have hy4 : ∀ y ∈ ys, y.length ≤ most ∧ ∀ ch ∈ y.cps.toList, ch ∈ z.cps.toList := fun y hy => hw y ((srt.mem y).mp hy)
    have hp4 := (hp3.same s4).up (show n + 28 + d.toNat * (most + 1) ≤ n + 28 + many * (most + 1) from Nat.add_le_add_left (Nat.mul_le_mul_right _ (by omega)) _)
    have sm := sq many (Nat.le_refl _)
    have bt4 : But p H H4 := ((bt1.trans bt2).trans bt3).same s4
    -- rows, marks
    refine ⟨_, rfl, _, rfl, _, rfl, p, c, _, 3, rfl, hp4, by omega, by decide, by decide, fun d2 H5 e0 e1 bt5 hp5 => ⟨_, _, rfl, rfl, ?_⟩⟩
    obtain ⟨e, rfl⟩ := Int.eq_ofNat_of_zero_le e0
    have zl := lz.2.2.2
    have se : (1 + e) * (2 * z.length + 1) ≤ 3 * (2 * mL + 1) := Nat.mul_le_mul (by omega) (by omega)
    refine ⟨p, c, _, z, 1 + e, true, rfl, hp5, by omega, by omega, by omega, by omega, fun t r m bs tb ms H6 bt6 hp6 ht0 ht T6 ltb lms => ?_⟩
    refine ⟨t, _, rfl, SqT.of ht, rfl, _, _, rfl, _, _, rfl, rfl, ?_⟩
    replace hp6 := hp6.up (show n + 28 + many * (most + 1) + 1 + (1 + e) * (2 * z.length + 1) ≤ n + 29 + many * (most + 1) + 3 * (2 * mL + 1) by omega)
    -- is_random
    refine ⟨_, rfl, p, c, _, 4, rfl, hp6, by omega, by decide, by decide, fun d3 H7 f0 f1 bt7 hp7 => ⟨rfl, ?_⟩⟩
    have T7 := T6.but bt7 hp6
    have hl7 : SqL K H7 l (ys.map V.str) := bt7.sql hp6 (bt6.sql hp5 (bt5.sql hp4 (SqL.of hl4)))
    have bt70 : But p H H7 := ((bt4.trans bt5).trans bt6).trans bt7
    generalize decide (V.int d3 = V.int 0) = rnd
    -- yes, no
    refine ⟨Nat.zero_le _, fun y hy0 => ⟨Nat.zero_le _, fun o ho0 => ⟨_, _, rfl, ?_⟩⟩⟩
    have yo : y ≠ o := ne_of_none upd_same ho0
    have ho7 : H7 o = none := by rw [upd_ne yo.symm] at ho0; exact ho0
    have s8 : Same H7 (upd (upd H7 y (.lst [])) o (.lst [])) := (sm1 hy0).trans (sm1 ho0)
    obtain ⟨yp, yc⟩ := hp7.off hy0
    obtain ⟨op, oc⟩ := hp7.off ho7
    refine ⟨_, rfl, l, rfl, ⟨_, s8.seq hl7⟩, for_list (K := K) (a := l) (xs := ys.map V.str) (fun j σ H' => ∃ (v12 v13 : Option V) (yes no : List Str), σ = [some (.ref p), some (.int mL), some (.int many), some (.int most), some (.str z), some (.ref l), _, some (.ref r), some (.ref m), some (.bl rnd), some (.ref y), some (.ref o), v12, v13] ∧
      But p H7 H' ∧ Pen H' p c (n + 30 + many * (most + 1) + 3 * (2 * mL + 1) + j) ∧ H' y = some (.lst (yes.map V.str)) ∧ H' o = some (.lst (no.map V.str)) ∧ yes.Sublist (ys.take j) ∧ no.Sublist (ys.take j) ∧ (yes ++ no).Perm (ys.take j))
      ⟨_, _, [], [], rfl, But.of s8, (hp7.same s8).up (by omega), (upd_ne yo).trans upd_same, upd_same, List.nil_sublist _, List.nil_sublist _, List.Perm.refl _⟩ ?_ ?_ ?_⟩
    · rintro j σ H' _ ⟨_, _, _, _, _, bt', _⟩
      exact bt'.sql hp7 hl7
    · rintro j x σ H8 hx ⟨v12, v13, yes, no, rfl, bt8, hp8, hy8, ho8, sy, so, pm⟩
      rw [List.getElem?_map] at hx
      obtain ⟨wd, hwd, rfl⟩ := Option.map_eq_some_iff.mp hx
      have jl : j < ys.length := (List.getElem?_eq_some_iff.mp hwd).1
      have next : ys.take (j + 1) = ys.take j ++ [wd] := by
        rw [List.take_succ, hwd]
        rfl
      have wdm := hy4 wd (List.mem_of_getElem? hwd)
      have sign : ∀ Q2 : VK, (∀ (b : Bool) (H9 : Hp), But p H8 H9 → Pen H9 p c (n + 30 + many * (most + 1) + 3 * (2 * mL + 1) + (j + 1)) → Q2 (.bl b) H9) →
          (tIf (tB (tVar 9)) (tOp rEq (tCall spDraw [] L2.E0 (tCons (tVar 0) (tCons (tC (V.int 2)) tNil))) (tC (V.int 0))) (tOp (rIxL K) (tVar 8) (tCall (spLed K) [] L2.E0 (tCons (tVar 4) (tCons (tVar 7) (tCons (tVar 12) tNil))))))
            [some (V.ref p), some (V.int mL), some (V.int many), some (V.int most), some (V.str z), some (V.ref l), none, some (V.ref r), some (V.ref m), some (V.bl rnd), some (V.ref y), some (V.ref o), some (V.str wd), v13] H8 Q2 := by
        intro Q2 q
        refine ⟨_, rfl, rnd, rfl, ?_⟩
        cases rnd with
        | true => exact iteT ⟨_, rfl, p, c, _, 2, rfl, hp8, by omega, by decide, by decide, fun d H9 _ _ bt9 hp9 => ⟨rfl, q _ H9 bt9 hp9⟩⟩
        | false =>
          have T8 := T7.but bt8 hp7
          have ok := T8.ok ltb (by omega)
          obtain ⟨i, e1, e2⟩ := led_some ok Array.length_toList (T8.fl rfl).1 wd.cps.toList 0 wdm.2 ok.pos
          have im : i < ms.length := by omega
          cases em : ms[i] with
          | none => exact absurd (by rw [← em]; exact List.getElem_mem im) (T8.fl rfl).2
          | some b =>
            refine iteF ⟨_, rfl, _, rfl, _, rfl, _, rfl, z, wd, r, tb, rfl, T8.rws, ok, wdm.2, ?_⟩
            rw [e1]
            exact ⟨m, _, (i : Int), .bl b, rfl, rfl, SqL.of T8.ma, atI_nat (by rw [List.getElem?_map, List.getElem?_eq_getElem im, em]; rfl), q b H8 (But.refl _ _) (hp8.up (by omega))⟩
      refine sign _ ?_
      intro b H9 bt9 hp9
      have hy9 := bt9 _ _ yp hy8
      have ho9 := bt9 _ _ op ho8
      have ylen : yes.length ≤ j := Nat.le_trans sy.length_le (by rw [List.length_take]; omega)
      have olen : no.length ≤ j := Nat.le_trans so.length_le (by rw [List.length_take]; omega)
      refine ⟨_, rfl, b, rfl, ?_⟩
      cases b with
      | true =>
        refine iteT ⟨_, rfl, .inl ⟨rfl, _, SqL.of hy9⟩, _, rfl, y, _, _, rfl, rfl, hy9, small1000 (by rw [List.length_map]; omega), ?_⟩
        refine ⟨_, _, yes ++ [wd], no, rfl, (bt8.trans bt9).new hy0, hp9.wr yp yc, by rw [upd_same, List.map_append]; rfl, (upd_ne yo.symm).trans ho9, ?_, ?_, ?_⟩
        · rw [next]
          exact sy.append (List.Sublist.refl _)
        · rw [next]
          exact so.trans (List.sublist_append_left _ _)
        · rw [next, List.append_assoc]
          refine (List.Perm.append_left yes List.perm_append_comm).trans ?_
          rw [← List.append_assoc]
          exact pm.append_right [wd]
      | false =>
        refine iteF ⟨_, rfl, .inl ⟨rfl, _, SqL.of ho9⟩, _, rfl, o, _, _, rfl, rfl, ho9, small1000 (by rw [List.length_map]; omega), ?_⟩
        refine ⟨_, _, yes, no ++ [wd], rfl, (bt8.trans bt9).new ho7, hp9.wr op oc, (upd_ne yo).trans hy9, by rw [upd_same, List.map_append]; rfl, ?_, ?_, ?_⟩
        · rw [next]
          exact sy.trans (List.sublist_append_left _ _)
        · rw [next]
          exact so.append (List.Sublist.refl _)
        · rw [next, ← List.append_assoc]
          exact pm.append_right [wd]
    · rintro σ H8 ⟨v12, v13, yes, no, rfl, bt8, hp8, hy8, ho8, sy, so, pm⟩
      rw [List.length_map, List.take_length] at sy so pm
      rw [List.length_map] at hp8
      refine ⟨_, rfl, _, rfl, _, rfl, by show 3 ≤ sizeLine; decide, fun t2 ht2 => ?_⟩
      have st := sm1 (o := .tup [.str z, .ref y, .ref o]) ht2
      refine k t2 y o z yes no _ ((bt70.trans bt8).same st) ((hp8.same st).up ?_) lz ((bt70.trans bt8).free hp8 ht2) (bt70.free hp7 hy0) (bt70.free hp7 ho7) yo upd_same (st _ _ hy8) (st _ _ ho8) ⟨ys, srt.ord, yl, hy4, sy, so, pm⟩
      have e : many * (most + 2) = many * (most + 1) + many := by rw [show most + 2 = most + 1 + 1 from rfl, Nat.mul_succ]
      omega
end
end Wf
namespace Wf
open PySem L2
abbrev s_law_sorted : Stmt := top 45
abbrev N_law_sorted : List Str := ["words", "size", "word"]
theorem sc_law_sorted : FnScope N_law_sorted ["words"] (defScope s_law_sorted) := ⟨rfl, rfl, rfl, by decide +kernel, rfl, by decide +kernel, by decide +kernel⟩
section
variable {P : Program} {w : World} {K : PySem.W.Frag} {mg : Str → Option Value} {base : Heap}
theorem ok_sorted {f : Addr} {fd : FuncData} (F : Fun K "_law_sorted" "_law_sorted" s_law_sorted f fd) (T : Txt K mg) : FnOk P w K mg base CX0 1 f fd ["words"] (spSorted K) := by
  refine F.ok sc_law_sorted (fun vs H Q E h => ?_) (fun cdv A outer s H vs Q E hr h => ?_)
  · obtain ⟨a, ws, rfl, _⟩ := h
    rfl
  · refine ⟨_, (pss_one (ps_ret (pe_lc (own := [("size", 1), ("word", 2)]) (g := gTup K 2 (gCons (gName 1) (gCons (gName 2) gNil))) (tt := tYes) (by rfl) sc_law_sorted.nd (pi_list (pe_sortSet rfl hr.units (by rfl) T.z_sorted (by rfl) T.z_set (pe_lc (own := [("word", 2)]) (g := gName 2) (tt := tYes) (by rfl) sc_law_sorted.nd (pi_list (pv 0)) (blkOk_by (own := [("word", 2)]) (N := N_law_sorted) (sc := defScope s_law_sorted) (by decide +kernel)) (fun _ _ _ _ _ => (pg_name (i := 2) sc_law_sorted.nd rfl (Or.inl rfl))) (fun _ _ _ _ _ => pts_nil) (fun _ _ _ _ _ => (pe_tup (pa_cons (pe_callB call_len_str (by rfl) T.z_len PySem.boot_len (pa_cons (pv 2) pa_nil)) (pa_cons (pv 2) pa_nil))))))) (blkOk_by (own := [("size", 1), ("word", 2)]) (N := N_law_sorted) (sc := defScope s_law_sorted) (by decide +kernel)) (fun _ _ _ _ _ => (pg_tup (by rfl) (pgs_cons (pg_name (i := 1) sc_law_sorted.nd rfl (Or.inl rfl)) (pgs_cons (pg_name (i := 2) sc_law_sorted.nd rfl (Or.inl rfl)) pgs_nil)))) (fun _ _ _ _ _ => pts_nil) (fun _ _ _ _ _ => (pv 2))))), ?_⟩
    obtain ⟨a, ws, rfl, ha, few, len, k⟩ := h
    have wl : ∀ w ∈ ws, w.length ≤ sizeLine := fun w hw => Nat.le_of_lt (small1000 (len w hw))
    refine ⟨_, rfl, a, rfl, ⟨_, ha⟩, fun D hD => ?_⟩
    refine lc_list (K := K) (a := a) (xs := ws.map V.str) (fun j H' => Same H H' ∧ ∃ ps : List At, H' D = some (.lst (ps.map fun q => V.ref q.1)) ∧ ps.map (·.2) = ws.take j ∧ ∀ q ∈ ps, H' q.1 = some (.tup [.int (q.2.length : Int), .str q.2]))
      ⟨sm1 hD, [], upd_same, rfl, fun q hq => absurd hq List.not_mem_nil⟩ (fun j H' _ ⟨s, _⟩ => s.seq ha) ?_ ?_
    · rintro j x H' hx ⟨s, ps, hD', eps, hps⟩
      rw [List.getElem?_map] at hx
      obtain ⟨wd, hw, rfl⟩ := Option.map_eq_some_iff.mp hx
      have wm := List.mem_of_getElem? hw
      have pl : ps.length ≤ 64 := by
        have e := congrArg List.length eps
        rw [List.length_map, List.length_take] at e
        omega
      refine ⟨rfl, _, rfl, _, rfl, wl wd wm, _, rfl, by show 2 ≤ sizeLine; decide, fun t ht => ?_⟩
      have nD : D ≠ t := ne_of_none hD' ht
      refine ⟨_, (upd_ne nD).trans hD', small1000 (by rw [List.length_map]; omega), swr (s.trans (sm1 ht)) hD, ps ++ [(t, wd)], ?_, ?_, ?_⟩
      · rw [upd_same, List.map_append]
        rfl
      · rw [List.map_append, eps, List.take_succ, hw]
        rfl
      · intro q hq
        rcases List.mem_append.mp hq with hq | hq
        · have e := hps q hq
          have n1 : q.1 ≠ D := fun z => by
            rw [z, hD'] at e
            cases e
          exact (upd_ne n1).trans ((upd_ne (ne_of_none e ht)).trans e)
        · rw [List.mem_singleton.mp hq]
          exact (upd_ne nD.symm).trans upd_same
    rintro H1 ⟨s1, ps, hD1, eps, hps⟩
    rw [List.length_map, List.take_length] at eps
    have pl : ps.length = ws.length := by rw [← eps, List.length_map]
    refine ⟨D, ps, rfl, SqL.of hD1, fun q hq => SqT.of (hps q hq), by omega, fun r qs hr sel => ?_⟩
    have s2 := sm1 (o := .lst (qs.map fun q => V.ref q.1)) hr
    have hr2 : SqL K (upd H1 r (.lst (qs.map fun q => V.ref q.1))) r (qs.map fun q => V.ref q.1) := SqL.of upd_same
    have el2 : ∀ q ∈ qs, (upd H1 r (.lst (qs.map fun q => V.ref q.1))) q.1 = some (.tup [.int (q.2.length : Int), .str q.2]) := fun q hq => s2 _ _ (hps q (sel.sub q hq))
    have s12 := s1.trans s2
    generalize upd H1 r (.lst (qs.map fun q => V.ref q.1)) = H2 at s2 hr2 el2 s12 ⊢
    have srt : Srt (qs.map (·.2)) ws := by
      refine ⟨fun y => ⟨fun hy => ?_, fun hy => ?_⟩, List.pairwise_map.mpr sel.ord⟩
      · obtain ⟨q, hq, rfl⟩ := List.mem_map.mp hy
        rw [← eps]
        exact List.mem_map.mpr ⟨q, sel.sub q hq, rfl⟩
      · rw [← eps] at hy
        obtain ⟨p, hp, rfl⟩ := List.mem_map.mp hy
        obtain ⟨q, hq, e⟩ := sel.cov p hp
        exact List.mem_map.mpr ⟨q, hq, e⟩
    have ql : qs.length < 64 := by
      have := srt.len
      rw [List.length_map] at this
      omega
    refine ⟨r, rfl, ⟨_, hr2⟩, fun D2 hD2 => ?_⟩
    refine lc_list (K := K) (a := r) (xs := qs.map fun q => V.ref q.1) (fun j H' => Same H2 H' ∧ H' D2 = some (.lst ((qs.take j).map fun q => V.str q.2))) ⟨sm1 hD2, upd_same⟩ (fun j H' _ ⟨s, _⟩ => s.seq hr2) ?_ ?_
    · rintro j x H' hx ⟨s, hD'⟩
      rw [List.getElem?_map] at hx
      obtain ⟨q, hq, rfl⟩ := Option.map_eq_some_iff.mp hx
      refine ⟨q.1, _, rfl, SqT.of (s _ _ (el2 q (List.mem_of_getElem? hq))), rfl, _, _, rfl, _, _, rfl, rfl, rfl, _, rfl, _, hD', small1000 (by rw [List.length_map, List.length_take]; omega), swr s hD2, ?_⟩
      rw [upd_same, List.take_succ, hq, List.map_append]
      rfl
    rintro H3 ⟨s3, hD3⟩
    rw [List.length_map, List.take_length] at hD3
    have none0 : H D2 = none := by
      cases e : H D2 with
      | none => rfl
      | some u =>
        rw [s12 _ _ e] at hD2
        cases hD2
    exact k D2 (qs.map (·.2)) H3 (s12.trans s3) none0 (by rw [List.map_map]; exact hD3) srt
end
end Wf
namespace Wf
open PySem L2
theorem prefs_step {ws : List Str} {w : Str} {j : Nat} (h : ws[j]? = some w) : prefs (ws.take (j + 1)) = prefs (ws.take j) ++ (List.range w.length).map fun k => tk w (k + 1) := by
  unfold prefs
  rw [List.take_succ, h, List.flatMap_append]
  simp
theorem prefs_le {ws : List Str} {j : Nat} : (prefs (ws.take j)).length ≤ (prefs ws).length := by
  have e : prefs ws = prefs (ws.take j) ++ (ws.drop j).flatMap fun w => (List.range w.length).map fun k => tk w (k + 1) := by
    unfold prefs
    rw [List.cons_append, ← List.flatMap_append, List.take_append_drop]
  rw [e, List.length_append]
  omega
def spPrefixes (K : PySem.W.Frag) : Sp := fun vs H Q _ => ∃ (t y o : Addr) (z : V) (yes no : List Str), vs = [.ref t] ∧ SqT K H t [z, .ref y, .ref o] ∧ H y = some (.lst (yes.map V.str)) ∧ H o = some (.lst (no.map V.str)) ∧ (yes ++ no).length ≤ 1000 ∧ (∀ w ∈ yes ++ no, w.length ≤ 1000) ∧ (prefs (yes ++ no)).length < 64 ∧
  ∀ (l : Addr) (ys : List Str) (H' : Hp), Same H H' → H l = none → H' l = some (.lst (ys.map V.str)) → Srt ys (prefs (yes ++ no)) → Q (.ref l) H'
section
variable {P : Program} {w : World} {K : PySem.W.Frag} {mg : Str → Option Value} {base : Heap}
end
end Wf
namespace Wf
open PySem L2
abbrev s_law_odd : Stmt := top 50
abbrev N_law_odd : List Str := ["pen", "some"]
theorem sc_law_odd : FnScope N_law_odd ["pen"] (defScope s_law_odd) := ⟨rfl, rfl, rfl, by decide +kernel, rfl, by decide +kernel, by decide +kernel⟩
theorem upd_upd {H : Hp} {a : Addr} {o u : HO} : upd (upd H a o) a u = upd H a u := by
  funext b
  by_cases e : b = a
  · rw [e, upd_same, upd_same]
  · rw [upd_ne e, upd_ne e, upd_ne e]
/-- odd things: small, and they can be shown -/
structure Od (d : PyData) : Prop where
  s : d.showable = true
  dp : d.depth ≤ 5
  sz : d.shown.length ≤ 1000
  sm : Sml d
  st : ∀ z, d = .str z → PyData.strOk z = true
  it : ∀ e ∈ its d, e.showable = true ∧ e.depth ≤ 60 ∧ e.shown.length ≤ 1000
  so : PyData.strOk d.shown = true
def smlB (d : PyData) : Bool := (match d with | .str z => decide (z.length < 1000000) | _ => true) && decide ((its d).length < 1000000) && (its d).all fun e => decide ((its e).length < 1000000)
theorem sml_of {d : PyData} (h : smlB d = true) : Sml d := by
  unfold smlB at h
  simp only [Bool.and_eq_true, decide_eq_true_eq, List.all_eq_true] at h
  obtain ⟨⟨h1, h2⟩, h3⟩ := h
  refine ⟨fun z e => ?_, h2, h3⟩
  subst e
  exact of_decide_eq_true h1
theorem od_of {d : PyData} (h : ((d.showable && decide (d.depth ≤ 5) && decide (d.shown.length ≤ 1000) && smlB d && (match d with | .str z => PyData.strOk z | _ => true) && (its d).all fun e => e.showable && decide (e.depth ≤ 60) && decide (e.shown.length ≤ 1000)) && PyData.strOk d.shown) = true) : Od d := by
  simp only [Bool.and_eq_true, decide_eq_true_eq, List.all_eq_true] at h
  obtain ⟨h, so⟩ := h
  refine ⟨h.1.1.1.1.1, h.1.1.1.1.2, h.1.1.1.2, sml_of h.1.1.2, fun z e => ?_, fun e he => ?_, so⟩
  · subst e
    exact h.1.2
  · exact ⟨(h.2 e he).1.1, (h.2 e he).1.2, (h.2 e he).2⟩
def spOdd (K : PySem.W.Frag) : Sp := fun vs H Q _ => ∃ (p c : Addr) (n : Nat), vs = [.ref p] ∧ Pen H p c n ∧ n < 1000000 ∧ ∀ (v : V) (d : PyData) (H' : Hp), NewD K H H' v d → Od d → But p H H' → Pen H' p c (n + 1) → Q v H'
section
variable {P : Program} {w : World} {K : PySem.W.Frag} {mg : Str → Option Value} {base : Heap} {f : Addr} {fd : FuncData}
theorem ok_odd (F : Fun K "_law_odd" "_law_odd" s_law_odd f fd) (T : Txt K mg) (D_law_pick : Dn P w K mg base 2 "_law_pick" ["pen", "some"] (spPick K)) : FnOk P w K mg base CX0 3 f fd ["pen"] (spOdd K) := by
  refine F.ok sc_law_odd (fun vs H Q E h => ?_) (fun cdv A outer s H vs Q E hr h => ?_)
  · obtain ⟨p, c, n, rfl, _⟩ := h
    rfl
  · refine ⟨_, (pss_cons (ps_set (i := 1) sc_law_odd.nd rfl (Or.inl rfl) (pe_lst (pa_cons (pe_non) (pa_cons (pe_bl) (pa_cons (pe_bl) (pa_cons (pe_int) (pa_cons (pe_int) (pa_cons (pe_un un_neg (pe_int)) (pa_cons (pe_int) (pa_cons (pe_op op_pow (pe_int) (pe_int)) (pa_cons (pe_str) (pa_cons (pe_str) (pa_cons (pe_str) (pa_cons (pe_str) (pa_cons (pe_str) (pa_cons (pe_str) (pa_cons (pe_str) (pa_cons (pe_str) (pa_cons (pe_tup pa_nil) (pa_cons (pe_tup (pa_cons (pe_str) pa_nil)) (pa_cons (pe_lst pa_nil) pa_nil)))))))))))))))))))))
  (pss_one (ps_ret (pe_cl D_law_pick (hr.mono (by decide)) (pa_cons (pv 0) (pa_cons (pe_op op_cat (pv 1) (pe_lst (pa_cons (pe_lst (pa_cons (pe_str) pa_nil)) (pa_cons (pe_dnewK) (pa_cons (pe_disp (pps_cons (pe_str) (pe_int) pps_nil) (by rfl) (by rfl) (fun z => by cases z) (by decide)) (pa_cons (pe_tup (pa_cons (pe_tup pa_nil) pa_nil)) (pa_cons (pe_tup (pa_cons (pe_int) pa_nil)) (pa_cons (pe_lst (pa_cons (pe_int) pa_nil)) (pa_cons (pe_tup (pa_cons (pe_non) pa_nil)) (pa_cons (pe_lst (pa_cons (pe_lst pa_nil) pa_nil)) (pa_cons (pe_tup (pa_cons (pe_bl) (pa_cons (pe_bl) pa_nil))) (pa_cons (pe_tup (pa_cons (pe_tup (pa_cons (pe_int) pa_nil)) pa_nil)) pa_nil)))))))))))) pa_nil)))))), ?_⟩
    obtain ⟨p, c, n, rfl, hp, hn, k⟩ := h
    refine ⟨_, rfl, _, _, rfl, rfl, ⟨by decide, by decide, by decide⟩, by show 0 ≤ sizeLine; decide, fun t1 n1 => ?_⟩
    have q1 : Same H (upd H t1 (.tup [])) := sm1 n1
    have e1 : (upd H t1 (.tup [])) t1 = some (.tup []) := upd_same
    generalize upd H t1 (.tup []) = A1 at q1 e1 ⊢
    refine ⟨by show 1 ≤ sizeLine; decide, fun t2 n2 => ?_⟩
    have q2 : Same A1 (upd A1 t2 (.tup [.str "a"])) := sm1 n2
    have e2 : (upd A1 t2 (.tup [.str "a"])) t2 = some (.tup [.str "a"]) := upd_same
    generalize upd A1 t2 (.tup [.str "a"]) = A2 at q2 e2 ⊢
    refine ⟨by show 0 ≤ sizeLine; decide, fun t3 n3 => ?_⟩
    have q3 : Same A2 (upd A2 t3 (.lst [])) := sm1 n3
    have e3 : (upd A2 t3 (.lst [])) t3 = some (.lst []) := upd_same
    generalize upd A2 t3 (.lst []) = A3 at q3 e3 ⊢
    refine ⟨by show 19 ≤ sizeLine; decide, fun l n4 => ?_⟩
    have q4 : Same A3 (upd A3 l (.lst [.non, .bl true, .bl false, .int 0, .int 1, .int (-1), .int 2, .int (10 ^ (60 : Int).toNat), .str "", .str "a", .str "ab", .str "ba", .str "A", .str "a b", .str "zz", .str "abcde", .ref t1, .ref t2, .ref t3])) := sm1 n4
    have e4 : (upd A3 l (.lst [.non, .bl true, .bl false, .int 0, .int 1, .int (-1), .int 2, .int (10 ^ (60 : Int).toNat), .str "", .str "a", .str "ab", .str "ba", .str "A", .str "a b", .str "zz", .str "abcde", .ref t1, .ref t2, .ref t3])) l = some (.lst [.non, .bl true, .bl false, .int 0, .int 1, .int (-1), .int 2, .int (10 ^ (60 : Int).toNat), .str "", .str "a", .str "ab", .str "ba", .str "A", .str "a b", .str "zz", .str "abcde", .ref t1, .ref t2, .ref t3]) := upd_same
    generalize upd A3 l (.lst [.non, .bl true, .bl false, .int 0, .int 1, .int (-1), .int 2, .int (10 ^ (60 : Int).toNat), .str "", .str "a", .str "ab", .str "ba", .str "A", .str "a b", .str "zz", .str "abcde", .ref t1, .ref t2, .ref t3]) = A4 at q4 e4 ⊢
    refine ⟨_, rfl, _, rfl, by show 1 ≤ sizeLine; decide, fun u1 n5 => ?_⟩
    have q5 : Same A4 (upd A4 u1 (.lst [.str "a"])) := sm1 n5
    have e5 : (upd A4 u1 (.lst [.str "a"])) u1 = some (.lst [.str "a"]) := upd_same
    generalize upd A4 u1 (.lst [.str "a"]) = A5 at q5 e5 ⊢
    refine fun u2 n6 => ?_
    have q6 : Same A5 (upd A5 u2 (.dK [])) := sm1 n6
    have e6 : (upd A5 u2 (.dK [])) u2 = some (.dK []) := upd_same
    generalize upd A5 u2 (.dK []) = A6 at q6 e6 ⊢
    refine fun u3 n7 => ⟨upd_same, [(.inr "a", .int 1)], rfl, by decide, ?_⟩
    rw [show upd (upd A6 u3 (.dK [])) u3 (.dK (mergeK [] [(.inr "a", .int 1)])) = upd A6 u3 (dkI [(.inr "a", 1)]) from upd_upd]
    refine ?_
    have q7 : Same A6 (upd A6 u3 (dkI [(.inr "a", 1)])) := sm1 n7
    have e7 : (upd A6 u3 (dkI [(.inr "a", 1)])) u3 = some (dkI [(.inr "a", 1)]) := upd_same
    generalize upd A6 u3 (dkI [(.inr "a", 1)]) = A7 at q7 e7 ⊢
    refine ⟨by show 0 ≤ sizeLine; decide, fun w4 n8 => ?_⟩
    have q8 : Same A7 (upd A7 w4 (.tup [])) := sm1 n8
    have e8 : (upd A7 w4 (.tup [])) w4 = some (.tup []) := upd_same
    generalize upd A7 w4 (.tup []) = A8 at q8 e8 ⊢
    refine ⟨by show 1 ≤ sizeLine; decide, fun u4 n9 => ?_⟩
    have q9 : Same A8 (upd A8 u4 (.tup [.ref w4])) := sm1 n9
    have e9 : (upd A8 u4 (.tup [.ref w4])) u4 = some (.tup [.ref w4]) := upd_same
    generalize upd A8 u4 (.tup [.ref w4]) = A9 at q9 e9 ⊢
    refine ⟨by show 1 ≤ sizeLine; decide, fun u5 n10 => ?_⟩
    have q10 : Same A9 (upd A9 u5 (.tup [.int 0])) := sm1 n10
    have e10 : (upd A9 u5 (.tup [.int 0])) u5 = some (.tup [.int 0]) := upd_same
    generalize upd A9 u5 (.tup [.int 0]) = A10 at q10 e10 ⊢
    refine ⟨by show 1 ≤ sizeLine; decide, fun u6 n11 => ?_⟩
    have q11 : Same A10 (upd A10 u6 (.lst [.int 0])) := sm1 n11
    have e11 : (upd A10 u6 (.lst [.int 0])) u6 = some (.lst [.int 0]) := upd_same
    generalize upd A10 u6 (.lst [.int 0]) = A11 at q11 e11 ⊢
    refine ⟨by show 1 ≤ sizeLine; decide, fun u7 n12 => ?_⟩
    have q12 : Same A11 (upd A11 u7 (.tup [.non])) := sm1 n12
    have e12 : (upd A11 u7 (.tup [.non])) u7 = some (.tup [.non]) := upd_same
    generalize upd A11 u7 (.tup [.non]) = A12 at q12 e12 ⊢
    refine ⟨by show 0 ≤ sizeLine; decide, fun w8 n13 => ?_⟩
    have q13 : Same A12 (upd A12 w8 (.lst [])) := sm1 n13
    have e13 : (upd A12 w8 (.lst [])) w8 = some (.lst []) := upd_same
    generalize upd A12 w8 (.lst []) = A13 at q13 e13 ⊢
    refine ⟨by show 1 ≤ sizeLine; decide, fun u8 n14 => ?_⟩
    have q14 : Same A13 (upd A13 u8 (.lst [.ref w8])) := sm1 n14
    have e14 : (upd A13 u8 (.lst [.ref w8])) u8 = some (.lst [.ref w8]) := upd_same
    generalize upd A13 u8 (.lst [.ref w8]) = A14 at q14 e14 ⊢
    refine ⟨by show 2 ≤ sizeLine; decide, fun u9 n15 => ?_⟩
    have q15 : Same A14 (upd A14 u9 (.tup [.bl true, .bl false])) := sm1 n15
    have e15 : (upd A14 u9 (.tup [.bl true, .bl false])) u9 = some (.tup [.bl true, .bl false]) := upd_same
    generalize upd A14 u9 (.tup [.bl true, .bl false]) = A15 at q15 e15 ⊢
    refine ⟨by show 1 ≤ sizeLine; decide, fun w10 n16 => ?_⟩
    have q16 : Same A15 (upd A15 w10 (.tup [.int 0])) := sm1 n16
    have e16 : (upd A15 w10 (.tup [.int 0])) w10 = some (.tup [.int 0]) := upd_same
    generalize upd A15 w10 (.tup [.int 0]) = A16 at q16 e16 ⊢
    refine ⟨by show 1 ≤ sizeLine; decide, fun u10 n17 => ?_⟩
    have q17 : Same A16 (upd A16 u10 (.tup [.ref w10])) := sm1 n17
    have e17 : (upd A16 u10 (.tup [.ref w10])) u10 = some (.tup [.ref w10]) := upd_same
    generalize upd A16 u10 (.tup [.ref w10]) = A17 at q17 e17 ⊢
    refine ⟨by show 10 ≤ sizeLine; decide, fun l2 n18 => ?_⟩
    have q18 : Same A17 (upd A17 l2 (.lst [.ref u1, .ref u2, .ref u3, .ref u4, .ref u5, .ref u6, .ref u7, .ref u8, .ref u9, .ref u10])) := sm1 n18
    have e18 : (upd A17 l2 (.lst [.ref u1, .ref u2, .ref u3, .ref u4, .ref u5, .ref u6, .ref u7, .ref u8, .ref u9, .ref u10])) l2 = some (.lst [.ref u1, .ref u2, .ref u3, .ref u4, .ref u5, .ref u6, .ref u7, .ref u8, .ref u9, .ref u10]) := upd_same
    generalize upd A17 l2 (.lst [.ref u1, .ref u2, .ref u3, .ref u4, .ref u5, .ref u6, .ref u7, .ref u8, .ref u9, .ref u10]) = A18 at q18 e18 ⊢
    refine ⟨l, l2, _, _, rfl, rfl, Same.trans q5 (Same.trans q6 (Same.trans q7 (Same.trans q8 (Same.trans q9 (Same.trans q10 (Same.trans q11 (Same.trans q12 (Same.trans q13 (Same.trans q14 (Same.trans q15 (Same.trans q16 (Same.trans q17 q18)))))))))))) _ _ e4, e18, by show 29 ≤ sizeLine; decide, fun l3 n19 => ?_⟩
    have q19 : Same A18 (upd A18 l3 (.lst ([.non, .bl true, .bl false, .int 0, .int 1, .int (-1), .int 2, .int (10 ^ (60 : Int).toNat), .str "", .str "a", .str "ab", .str "ba", .str "A", .str "a b", .str "zz", .str "abcde", .ref t1, .ref t2, .ref t3] ++ [.ref u1, .ref u2, .ref u3, .ref u4, .ref u5, .ref u6, .ref u7, .ref u8, .ref u9, .ref u10]))) := sm1 n19
    have e19 : (upd A18 l3 (.lst ([.non, .bl true, .bl false, .int 0, .int 1, .int (-1), .int 2, .int (10 ^ (60 : Int).toNat), .str "", .str "a", .str "ab", .str "ba", .str "A", .str "a b", .str "zz", .str "abcde", .ref t1, .ref t2, .ref t3] ++ [.ref u1, .ref u2, .ref u3, .ref u4, .ref u5, .ref u6, .ref u7, .ref u8, .ref u9, .ref u10]))) l3 = some (.lst ([.non, .bl true, .bl false, .int 0, .int 1, .int (-1), .int 2, .int (10 ^ (60 : Int).toNat), .str "", .str "a", .str "ab", .str "ba", .str "A", .str "a b", .str "zz", .str "abcde", .ref t1, .ref t2, .ref t3] ++ [.ref u1, .ref u2, .ref u3, .ref u4, .ref u5, .ref u6, .ref u7, .ref u8, .ref u9, .ref u10])) := upd_same
    generalize upd A18 l3 (.lst ([.non, .bl true, .bl false, .int 0, .int 1, .int (-1), .int 2, .int (10 ^ (60 : Int).toNat), .str "", .str "a", .str "ab", .str "ba", .str "A", .str "a b", .str "zz", .str "abcde", .ref t1, .ref t2, .ref t3] ++ [.ref u1, .ref u2, .ref u3, .ref u4, .ref u5, .ref u6, .ref u7, .ref u8, .ref u9, .ref u10])) = A19 at q19 e19 ⊢
    have f1 : Same H A1 := q1
    have f2 : Same H A2 := f1.trans q2
    have f3 : Same H A3 := f2.trans q3
    have f4 : Same H A4 := f3.trans q4
    have f5 : Same H A5 := f4.trans q5
    have f6 : Same H A6 := f5.trans q6
    have f7 : Same H A7 := f6.trans q7
    have f8 : Same H A8 := f7.trans q8
    have f9 : Same H A9 := f8.trans q9
    have f10 : Same H A10 := f9.trans q10
    have f11 : Same H A11 := f10.trans q11
    have f12 : Same H A12 := f11.trans q12
    have f13 : Same H A13 := f12.trans q13
    have f14 : Same H A14 := f13.trans q14
    have f15 : Same H A15 := f14.trans q15
    have f16 : Same H A16 := f15.trans q16
    have f17 : Same H A17 := f16.trans q17
    have f18 : Same H A18 := f17.trans q18
    have f19 : Same H A19 := f18.trans q19
    have g19 : Same A19 A19 := same_refl
    have g18 : Same A18 A19 := q19.trans g19
    have g17 : Same A17 A19 := q18.trans g18
    have g16 : Same A16 A19 := q17.trans g17
    have g15 : Same A15 A19 := q16.trans g16
    have g14 : Same A14 A19 := q15.trans g15
    have g13 : Same A13 A19 := q14.trans g14
    have g12 : Same A12 A19 := q13.trans g13
    have g11 : Same A11 A19 := q12.trans g12
    have g10 : Same A10 A19 := q11.trans g11
    have g9 : Same A9 A19 := q10.trans g10
    have g8 : Same A8 A19 := q9.trans g9
    have g7 : Same A7 A19 := q8.trans g8
    have g6 : Same A6 A19 := q7.trans g7
    have g5 : Same A5 A19 := q6.trans g6
    have g4 : Same A4 A19 := q5.trans g5
    have g3 : Same A3 A19 := q4.trans g4
    have g2 : Same A2 A19 := q3.trans g3
    have g1 : Same A1 A19 := q2.trans g2
    have z1 : ∀ H', New H A19 H' → H' t1 = some (.tup []) := fun H' nw => nw _ _ (n1) (g1 _ _ e1)
    have z2 : ∀ H', New H A19 H' → H' t2 = some (.tup [.str "a"]) := fun H' nw => nw _ _ (There.of f1 _ n2) (g2 _ _ e2)
    have z3 : ∀ H', New H A19 H' → H' t3 = some (.lst []) := fun H' nw => nw _ _ (There.of f2 _ n3) (g3 _ _ e3)
    have z5 : ∀ H', New H A19 H' → H' u1 = some (.lst [.str "a"]) := fun H' nw => nw _ _ (There.of f4 _ n5) (g5 _ _ e5)
    have z6 : ∀ H', New H A19 H' → H' u2 = some (.dK []) := fun H' nw => nw _ _ (There.of f5 _ n6) (g6 _ _ e6)
    have z7 : ∀ H', New H A19 H' → H' u3 = some (dkI [(.inr "a", 1)]) := fun H' nw => nw _ _ (There.of f6 _ n7) (g7 _ _ e7)
    have z8 : ∀ H', New H A19 H' → H' w4 = some (.tup []) := fun H' nw => nw _ _ (There.of f7 _ n8) (g8 _ _ e8)
    have z9 : ∀ H', New H A19 H' → H' u4 = some (.tup [.ref w4]) := fun H' nw => nw _ _ (There.of f8 _ n9) (g9 _ _ e9)
    have z10 : ∀ H', New H A19 H' → H' u5 = some (.tup [.int 0]) := fun H' nw => nw _ _ (There.of f9 _ n10) (g10 _ _ e10)
    have z11 : ∀ H', New H A19 H' → H' u6 = some (.lst [.int 0]) := fun H' nw => nw _ _ (There.of f10 _ n11) (g11 _ _ e11)
    have z12 : ∀ H', New H A19 H' → H' u7 = some (.tup [.non]) := fun H' nw => nw _ _ (There.of f11 _ n12) (g12 _ _ e12)
    have z13 : ∀ H', New H A19 H' → H' w8 = some (.lst []) := fun H' nw => nw _ _ (There.of f12 _ n13) (g13 _ _ e13)
    have z14 : ∀ H', New H A19 H' → H' u8 = some (.lst [.ref w8]) := fun H' nw => nw _ _ (There.of f13 _ n14) (g14 _ _ e14)
    have z15 : ∀ H', New H A19 H' → H' u9 = some (.tup [.bl true, .bl false]) := fun H' nw => nw _ _ (There.of f14 _ n15) (g15 _ _ e15)
    have z16 : ∀ H', New H A19 H' → H' w10 = some (.tup [.int 0]) := fun H' nw => nw _ _ (There.of f15 _ n16) (g16 _ _ e16)
    have z17 : ∀ H', New H A19 H' → H' u10 = some (.tup [.ref w10]) := fun H' nw => nw _ _ (There.of f16 _ n17) (g17 _ _ e17)
    have hp1 := hp.same f19
    obtain ⟨kvs, hpk⟩ := hp.at
    have pn : H p ≠ none := fun z => by rw [hpk] at z; cases z
    refine ⟨p, c, n, hp1, hn, .inl ⟨l3, _, rfl, .inl (SqL.of e19), by show 0 < 29; decide, by show 29 < 1000000; decide, fun x H' hx bt hp' => ?_⟩⟩
    have fin : ∀ d, NewD K H A19 x d → Od d → Q x H' := fun d nd od => k x d H' (nd.but bt pn) od (But.trans (But.of f19) bt) hp'
    simp only [List.cons_append, List.nil_append, List.mem_cons, List.not_mem_nil, or_false] at hx
    rcases hx with rfl | rfl | rfl | rfl | rfl | rfl | rfl | rfl | rfl | rfl | rfl | rfl | rfl | rfl | rfl | rfl | rfl | rfl | rfl | rfl | rfl | rfl | rfl | rfl | rfl | rfl | rfl | rfl | rfl
    · exact fin (.none) (fun _ _ => .non) (od_of (by decide +kernel))
    · exact fin (.bool true) (fun _ _ => .bl _) (od_of (by decide +kernel))
    · exact fin (.bool false) (fun _ _ => .bl _) (od_of (by decide +kernel))
    · exact fin (.int 0) (fun _ _ => .int _) (od_of (by decide +kernel))
    · exact fin (.int 1) (fun _ _ => .int _) (od_of (by decide +kernel))
    · exact fin (.int (-1)) (fun _ _ => .int _) (od_of (by decide +kernel))
    · exact fin (.int 2) (fun _ _ => .int _) (od_of (by decide +kernel))
    · exact fin (.int (10 ^ (60 : Int).toNat)) (fun _ _ => .int _) (od_of (by decide +kernel))
    · exact fin (.str "") (fun _ _ => .str _) (od_of (by decide +kernel))
    · exact fin (.str "a") (fun _ _ => .str _) (od_of (by decide +kernel))
    · exact fin (.str "ab") (fun _ _ => .str _) (od_of (by decide +kernel))
    · exact fin (.str "ba") (fun _ _ => .str _) (od_of (by decide +kernel))
    · exact fin (.str "A") (fun _ _ => .str _) (od_of (by decide +kernel))
    · exact fin (.str "a b") (fun _ _ => .str _) (od_of (by decide +kernel))
    · exact fin (.str "zz") (fun _ _ => .str _) (od_of (by decide +kernel))
    · exact fin (.str "abcde") (fun _ _ => .str _) (od_of (by decide +kernel))
    · exact fin (.tuple []) (fun H' nw => .tup (SqT.of (z1 H' nw)) .nil) (od_of (by decide +kernel))
    · exact fin (.tuple [.str "a"]) (fun H' nw => .tup (SqT.of (z2 H' nw)) (.cons (.str _) .nil)) (od_of (by decide +kernel))
    · exact fin (.list []) (fun H' nw => .lst (SqL.of (z3 H' nw)) .nil) (od_of (by decide +kernel))
    · exact fin (.list [.str "a"]) (fun H' nw => .lst (SqL.of (z5 H' nw)) (.cons (.str _) .nil)) (od_of (by decide +kernel))
    · exact fin (.dict []) (fun H' nw => .dk (ks := []) (z6 H' nw) rfl) (od_of (by decide +kernel))
    · exact fin (.dict [(.str "a", .int 1)]) (fun H' nw => .dk (ks := [(.inr "a", 1)]) (z7 H' nw) rfl) (od_of (by decide +kernel))
    · exact fin (.tuple [.tuple []]) (fun H' nw => .tup (SqT.of (z9 H' nw)) (.cons (.tup (SqT.of (z8 H' nw)) .nil) .nil)) (od_of (by decide +kernel))
    · exact fin (.tuple [.int 0]) (fun H' nw => .tup (SqT.of (z10 H' nw)) (.cons (.int _) .nil)) (od_of (by decide +kernel))
    · exact fin (.list [.int 0]) (fun H' nw => .lst (SqL.of (z11 H' nw)) (.cons (.int _) .nil)) (od_of (by decide +kernel))
    · exact fin (.tuple [.none]) (fun H' nw => .tup (SqT.of (z12 H' nw)) (.cons .non .nil)) (od_of (by decide +kernel))
    · exact fin (.list [.list []]) (fun H' nw => .lst (SqL.of (z14 H' nw)) (.cons (.lst (SqL.of (z13 H' nw)) .nil) .nil)) (od_of (by decide +kernel))
    · exact fin (.tuple [.bool true, .bool false]) (fun H' nw => .tup (SqT.of (z15 H' nw)) (.cons (.bl _) (.cons (.bl _) .nil))) (od_of (by decide +kernel))
    · exact fin (.tuple [.tuple [.int 0]]) (fun H' nw => .tup (SqT.of (z17 H' nw)) (.cons (.tup (SqT.of (z16 H' nw)) (.cons (.int _) .nil)) .nil)) (od_of (by decide +kernel))
end
end Wf
namespace Wf
open PySem L2
abbrev s_law_made : Stmt := top 49
abbrev N_law_made : List Str := ["raw"]
theorem sc_law_made : FnScope N_law_made ["raw"] (defScope s_law_made) := ⟨rfl, rfl, rfl, by decide +kernel, rfl, by decide +kernel, by decide +kernel⟩
def spMixed (K : PySem.W.Frag) : Sp := fun vs H Q _ => ∃ (p c l : Addr) (n : Nat) (ws : List Str), vs = [.ref p, .ref l] ∧ Pen H p c n ∧ n < 900000 ∧ H l = some (.lst (ws.map V.str)) ∧ ws.length ≤ 60 ∧ (∀ w ∈ ws, PyData.strOk w = true) ∧
  ∀ (q : Addr) (us : List Str) (H' : Hp), But p H H' → Pen H' p c (n + 130) → H q = none → H' q = some (.lst (us.map V.str)) → us.length ≤ 2 * ws.length → (∀ x, x ∈ us ↔ x ∈ ws) → Q (.ref q) H'
section
variable {P : Program} {w : World} {K : PySem.W.Frag} {mg : Str → Option Value} {base : Heap} {f : Addr} {fd : FuncData}
end
end Wf
namespace Wf
open PySem L2
theorem ascL_of {l : List Nat} (h : l.Pairwise (· < ·)) : ascL l = true := by
  unfold ascL
  rw [List.all_eq_true]
  intro i hi
  have hi2 := List.mem_range.mp hi
  have h0 : i < l.length := by omega
  have h1 : i + 1 < l.length := by omega
  rw [getD_of (List.getElem?_eq_getElem h0), getD_of (List.getElem?_eq_getElem h1)]
  exact decide_eq_true (List.pairwise_iff_getElem.mp h i (i + 1) h0 h1 (by omega))
theorem letters_ok {z : Str} {n : Nat} (h : Ltrs z n) (n4 : n ≤ 4) : lettersOk (.str z) = true := by
  show ((decide (1 ≤ z.length) && decide (z.length ≤ 4)) && (z.cps.toList.all fun c => decide (97 ≤ c) && decide (c ≤ 122)) && ascL z.cps.toList) = true
  rw [decide_eq_true h.2.2.1, decide_eq_true (by have := h.2.2.2; omega), ascL_of h.1, List.all_eq_true.mpr fun c hc => by rw [decide_eq_true (h.2.1 c hc).1, decide_eq_true (h.2.1 c hc).2]; rfl]
  rfl
/-- words over the letters, of at most twelve signs -/
def WdsOk (z : Str) (ws : List Str) : Prop := ∀ w ∈ ws, w.length ≤ 12 ∧ ∀ c ∈ w.cps.toList, c ∈ z.cps.toList
theorem word_ok {z w : Str} (h : w.length ≤ 12 ∧ ∀ c ∈ w.cps.toList, c ∈ z.cps.toList) : wordOk z 12 (.str w) = true := by
  show ((w.cps.toList.all fun c => decide (c ∈ z.cps.toList)) && decide (w.length ≤ 12)) = true
  rw [decide_eq_true h.1, List.all_eq_true.mpr fun c hc => decide_eq_true (h.2 c hc)]
  rfl
theorem wrong_no {z : Str} {ws : List Str} (h : WdsOk z ws) {i : Nat} (f : Fst (wrongWord z (ws.map PyData.str)) (ws.map PyData.str).length (some i)) : False := by
  obtain ⟨il, q, _⟩ := f
  rw [List.length_map] at il
  unfold wrongWord at q
  rw [getD_of (show (ws.map PyData.str)[i]? = some (.str ws[i]) from by rw [List.getElem?_map, List.getElem?_eq_getElem il]; rfl), word_ok (h _ (List.getElem_mem il))] at q
  cases q
theorem txt_map {ws : List Str} : (ws.map PyData.str).map txt = ws := by
  rw [List.map_map]
  exact List.map_id ws
theorem prefs_count {n : Nat} : ∀ {ws : List Str}, (∀ w ∈ ws, w.length ≤ n) → (prefs ws).length ≤ 1 + ws.length * n
  | [], _ => by
    show 1 ≤ 1 + 0 * n
    omega
  | w :: ws, h => by
    have h1 := prefs_count (ws := ws) fun u hu => h u (List.mem_cons_of_mem _ hu)
    have h2 := h w List.mem_cons_self
    have e : (prefs (w :: ws)).length = w.length + (prefs ws).length := by
      unfold prefs
      rw [List.flatMap_cons, List.length_cons, List.length_append, List.length_map, List.length_range, List.length_cons]
      omega
    rw [e, List.length_cons, Nat.add_mul]
    omega
/-- the sample that these words make -/
structure SamOf (z : Str) (yw nw : List Str) (s : Sam) : Prop where
  z : s.z = z
  ms : Marks yw nw s.ms s.ys s.ns
  ps : Srt s.ps (prefs (yw ++ nw))
/-- all its parts are new -/
structure SamNew (H : Hp) (p : SamP) : Prop where
  a : H p.a = none
  dx : H p.dx = none
  md : H p.md = none
  t1 : H p.t1 = none
  t2 : H p.t2 = none
  t3 : H p.t3 = none
theorem sam_goes {K : PySem.W.Frag} {CL CW CS CT C : Addr} (sc : SmC K C) {H : Hp} {x dx : Addr} {y n : V} {dy dn : PyData} {z : Str} {yw nw : List Str} {m4 : Nat} {Q : VK} (nx : H x = none) (nd : H dx = none) (ne : dx ≠ x) (hy : Dq K H y dy) (hn : Dq K H n dn) (hz : Ltrs z m4) (z4 : m4 ≤ 4)
    (qy : isSeq dy = true) (qn : isSeq dn = true) (iy : its dy = yw.map PyData.str) (in_ : its dn = nw.map PyData.str) (oy : WdsOk z yw) (on : WdsOk z nw) (ap : Apart yw nw) (few : yw.length + nw.length ≤ 49)
    (k : ∀ (p : SamP) (s : Sam) (H' : Hp), p.a = x → Same H H' → SamNew H p → SamAt C H' p s → SamOf z yw nw s → Q .non H') :
    spSam K CL CW CS CT [.ref x, .str z, y, n] (upd (upd H dx (.own x)) x (.ins C dx [])) Q L2.E0 := by
  have s1 : Same H (upd (upd H dx (.own x)) x (.ins C dx [])) := swr (sm1 nd) nx
  have lz := letters_ok hz z4
  have sy : SqS dy := ⟨by rw [iy, List.length_map]; omega, fun e he w ew => by
    rw [iy] at he
    obtain ⟨u, hu, rfl⟩ := List.mem_map.mp he
    rw [← PyData.str.inj ew]
    have := (oy u hu).1
    omega⟩
  have sn : SqS dn := ⟨by rw [in_, List.length_map]; omega, fun e he w ew => by
    rw [in_] at he
    obtain ⟨u, hu, rfl⟩ := List.mem_map.mp he
    rw [← PyData.str.inj ew]
    have := (on u hu).1
    omega⟩
  have wy : wordsOf dy = yw := by unfold wordsOf; rw [iy, txt_map]
  have wn : wordsOf dn = nw := by unfold wordsOf; rw [in_, txt_map]
  refine ⟨x, C, dx, .str z, y, n, .str z, dy, dn, rfl, upd_same, sc, .str z, (Sty.of s1).dq hy, (Sty.of s1).dq hn, fun w ew => by cases ew; have := hz.2.2.2; omega, sy, sn, fun e => absurd (lz.symm.trans e) (by decide), fun z' ez _ => ?_⟩
  cases ez
  refine ⟨fun e => absurd (qy.symm.trans e) (by decide), fun _ i f => ?_, fun gy => ⟨fun e => absurd (qn.symm.trans e) (by decide), fun _ i f => ?_, fun gn => ⟨fun i w hw m _ => ?_, fun _ ys ns mk => ⟨fun l => ?_, fun _ ps srt => ⟨fun l => ?_, fun _ md t1 t2 t3 H' bt n1 n2 n3 n4 ex em e1 e2 e3 => ?_⟩⟩⟩⟩⟩
  · rw [iy] at f
    exact (wrong_no oy f).elim
  · rw [in_] at f
    exact (wrong_no on f).elim
  · rw [wn] at hw
    rw [wy] at m
    exact absurd m (ap w (order_mem.mp (List.mem_of_getElem? hw)))
  · have h1 := mk.ys.len
    have h2 := mk.ns.len
    rw [wy] at h1
    rw [wn] at h2
    omega
  · have h1 := mk.ys.len
    have h2 := mk.ns.len
    rw [wy] at h1
    rw [wn] at h2
    have h3 := srt.len
    have h4 := prefs_count (n := 12) (ws := ys ++ ns) fun w hw => by
      rcases List.mem_append.mp hw with m | m
      · exact (oy w (by rw [← wy]; exact (mk.ys.mem w).mp m)).1
      · exact (on w (by rw [← wn]; exact (mk.ns.mem w).mp m)).1
    rw [List.length_append] at h4
    omega
  · rw [wy, wn] at mk em
    have same : Same H H' := fun b o e => bt b o (ne_of_none e nx) (s1 _ _ e)
    have old := There.of s1
    have mem : ∀ w, w ∈ ys ++ ns ↔ w ∈ yw ++ nw := fun w => by rw [List.mem_append, List.mem_append, mk.ys.mem, mk.ns.mem]
    exact k ⟨x, dx, md, t1, t2, t3⟩ ⟨z, marksOf yw nw, ys, ns, ps⟩ H' rfl same ⟨nx, nd, old _ n1, old _ n2, old _ n3, old _ n4⟩ ⟨ex, em, e1, e2, e3⟩ ⟨rfl, mk, ⟨fun w => (srt.mem w).trans (by
      rw [prefs_mem, prefs_mem]
      exact or_congr_right (exists_congr fun u => and_congr_left' (mem u))), srt.ord⟩⟩
theorem dq_words {K : PySem.W.Frag} {H : Hp} : ∀ {ws : List Str}, DqAll K H (ws.map V.str) (ws.map PyData.str)
  | [] => .nil
  | w :: _ => .cons (.str w) dq_words
def spMade (K : PySem.W.Frag) (C : Addr) : Sp := fun vs H Q _ => ∃ (t y o : Addr) (z : Str) (m4 : Nat) (yw nw : List Str), vs = [.ref t] ∧ SqT K H t [.str z, .ref y, .ref o] ∧ H y = some (.lst (yw.map V.str)) ∧ H o = some (.lst (nw.map V.str)) ∧ Ltrs z m4 ∧ m4 ≤ 4 ∧ WdsOk z yw ∧ WdsOk z nw ∧ Apart yw nw ∧ yw.length + nw.length ≤ 49 ∧
  ∀ (p : SamP) (s : Sam) (H' : Hp), Same H H' → SamNew H p → SamAt C H' p s → SamOf z yw nw s → Q (.ref p.a) H'
section
variable {P : Program} {w : World} {K : PySem.W.Frag} {mg : Str → Option Value} {base : Heap} {f : Addr} {fd : FuncData}
theorem ok_made {CL CW CS CT C : Addr} (F : Fun K "_law_made" "_law_made" s_law_made f fd) (sc : SmC K C) (N_Sample : CnD P w K mg base (L2.CX P w) 6 "Sample" C ["self", "letters", "yes", "no"] (spSam K CL CW CS CT) []) :
    FnOk P w K mg base CX0 8 f fd ["raw"] (spMade K C) := by
  refine F.ok sc_law_made (fun vs H Q E h => ?_) (fun cdv A outer s H vs Q E hr h => ?_)
  · obtain ⟨t, y, o, z, m4, yw, nw, rfl, _⟩ := h
    rfl
  · obtain ⟨t, y, o, z, m4, yw, nw, rfl, ht, hy, ho, hz, z4, oy, on, ap, few, k⟩ := h
    refine ⟨_, (pss_one (ps_ret (pe_mkD N_Sample (hr.mono (by decide)) passN (pa_cons (pe_ix ix_tup (pv 0) (pe_int) (fun _ _ => rfl)) (pa_cons (pe_ix ix_tup (pv 0) (pe_int) (fun _ _ => rfl)) (pa_cons (pe_ix ix_tup (pv 0) (pe_int) (fun _ _ => rfl)) pa_nil)))))), ?_⟩
    refine ⟨_, rfl, t, _, 0, _, rfl, rfl, ht, rfl, _, rfl, t, _, 1, _, rfl, rfl, ht, rfl, _, rfl, t, _, 2, _, rfl, rfl, ht, rfl, fun x dx nx nd ne => ?_⟩
    exact sam_goes sc nx nd ne (.lst (SqL.of hy) dq_words) (.lst (SqL.of ho) dq_words) hz z4 rfl rfl rfl rfl oy on ap few fun p s H' e same new at_ of => ⟨rfl, e ▸ k p s H' same new at_ of⟩
end
end Wf
namespace Wf
open PySem PySem.Spec PyProof.Rows L2
/-! samples as they are made -/
/-- a sample as its maker leaves it -/
structure SamG (s : Sam) : Prop where
  lz : Ltrs s.z 4
  oy : WdsOk s.z s.ys
  on : WdsOk s.z s.ns
  ap : Apart s.ys s.ns
  ks : keysM s.ms = s.ys ++ s.ns
  mo : ∀ x, markOf s.ms x = if x ∈ s.ns then some false else if x ∈ s.ys then some true else none
  sy : s.ys.Pairwise ltW
  sn : s.ns.Pairwise ltW
  ps : Srt s.ps (prefs (s.ys ++ s.ns))
theorem prefs_mem_congr {us vs : List Str} (h : ∀ w, w ∈ us ↔ w ∈ vs) (x : Str) : x ∈ prefs us ↔ x ∈ prefs vs := by
  rw [prefs_mem, prefs_mem]
  exact or_congr_right (exists_congr fun u => and_congr_left' (h u))
theorem SamOf.g {z : Str} {yw nw : List Str} {s : Sam} (h : SamOf z yw nw s) (lz : Ltrs z 4) (oy : WdsOk z yw) (on : WdsOk z nw) (ap : Apart yw nw) : SamG s := by
  obtain ⟨rfl, mk, srt⟩ := h
  have my := mk.ys.mem
  have mn := mk.ns.mem
  refine ⟨lz, fun w hw => oy w ((my w).mp hw), fun w hw => on w ((mn w).mp hw), fun w hw hy => ap w ((mn w).mp hw) ((my w).mp hy), mk.ks, fun x => ?_, mk.ys.ord, mk.ns.ord, ⟨fun x => (srt.mem x).trans (prefs_mem_congr (fun w => ?_) x), srt.ord⟩⟩
  · rw [mk.mo]
    simp only [my, mn]
  · rw [List.mem_append, List.mem_append, my, mn]
/-- what a sample is -/
theorem SamG.one {s t : Sam} (a : SamG s) (b : SamG t) (hy : ∀ w, w ∈ s.ys ↔ w ∈ t.ys) (hn : ∀ w, w ∈ s.ns ↔ w ∈ t.ns) : s.ys = t.ys ∧ s.ns = t.ns ∧ s.ps = t.ps := by
  have e1 := sorted_one a.sy b.sy hy
  have e2 := sorted_one a.sn b.sn hn
  refine ⟨e1, e2, sorted_one a.ps.ord b.ps.ord fun x => ?_⟩
  rw [a.ps.mem, b.ps.mem, e1, e2]
theorem SamG.key {s : Sam} (h : SamG s) {w : Str} : w ∈ keysM s.ms ↔ w ∈ s.ys ∨ w ∈ s.ns := by rw [h.ks, List.mem_append]
theorem SamG.len {s : Sam} (h : SamG s) : s.ms.length = s.ys.length + s.ns.length := by
  rw [← List.length_append, ← h.ks]
  exact (List.length_map _).symm
theorem SamG.some {s : Sam} (h : SamG s) {w : Str} : (markOf s.ms w).isSome = decide (w ∈ keysM s.ms) := by
  rw [h.mo, decide_eq_decide.mpr h.key]
  by_cases h1 : w ∈ s.ns
  · rw [if_pos h1, decide_eq_true (.inr h1)]
    rfl
  · rw [if_neg h1]
    by_cases h2 : w ∈ s.ys
    · rw [if_pos h2, decide_eq_true (.inl h2)]
      rfl
    · rw [if_neg h2, decide_eq_false fun z => z.elim h2 h1]
      rfl
theorem SamG.ok {s : Sam} (h : SamG s) : SamOk s := by
  have a : ∀ w : Str, (∀ c ∈ w.cps.toList, c ∈ s.z.cps.toList) → PyData.strOk w = true := fun w hw => by
    show w.cps.all (· < 0x110000) = true
    rw [← Array.all_toList, List.all_eq_true]
    intro c hc
    have := (h.lz.2.1 c (hw c hc)).2
    exact decide_eq_true (by omega)
  exact ⟨fun w hw => a w (h.oy w hw).2, fun w hw => a w (h.on w hw).2⟩
theorem fst_all {z : Str} {ds : List PyData} (h : Fst (wrongWord z ds) ds.length none) : ∀ e ∈ ds, wordOk z 12 e = true := fun e he => by
  obtain ⟨j, hj, rfl⟩ := List.getElem_of_mem he
  have h1 := h j hj
  unfold wrongWord at h1
  rw [getD_of (List.getElem?_eq_getElem hj)] at h1
  exact h1
theorem wordOk_str {z : Str} {e : PyData} (h : wordOk z 12 e = true) : ∃ u, e = .str u ∧ u.length ≤ 12 ∧ ∀ c ∈ u.cps.toList, c ∈ z.cps.toList := by
  unfold wordOk at h
  rw [Bool.and_eq_true] at h
  obtain ⟨h1, h2⟩ := h
  have h2 := of_decide_eq_true h2
  cases e with
  | str u =>
    refine ⟨u, rfl, h2, fun c hc => ?_⟩
    have h3 := List.all_eq_true.mp (show (u.cps.toList.all fun c => decide (c ∈ z.cps.toList)) = true from h1) c hc
    exact of_decide_eq_true h3
  | _ => cases h1
theorem SamNew.old {H H' : Hp} {p : SamP} (n : SamNew H' p) (s : Same H H') : SamNew H p :=
  ⟨There.of s _ n.a, There.of s _ n.dx, There.of s _ n.md, There.of s _ n.t1, There.of s _ n.t2, There.of s _ n.t3⟩
theorem SamAt.same {C : Addr} {H H' : Hp} {p : SamP} {s : Sam} (h : SamAt C H p s) (k : Same H H') : SamAt C H' p s := ⟨k _ _ h.ob, k _ _ h.dk, k _ _ h.ys, k _ _ h.ns, k _ _ h.ps⟩
theorem words_of_ok {K : PySem.W.Frag} {H : Hp} {z : Str} {xs : List V} {ds : List PyData} (h : DqAll K H xs ds) (ok : ∀ e ∈ ds, wordOk z 12 e = true) : xs = (ds.map txt).map V.str ∧ WdsOk z (ds.map txt) := by
  refine ⟨words_seq h ok, fun w hw => ?_⟩
  obtain ⟨e, he, rfl⟩ := List.mem_map.mp hw
  obtain ⟨u, rfl, a, b⟩ := wordOk_str (ok e he)
  exact ⟨a, b⟩
theorem allTrue_mark {ws : List Str} {x : Str} : markOf (allTrue ws) x = if x ∈ ws then some true else none := by
  unfold allTrue
  rw [fold_mark]
  rfl
theorem allTrue_len {ws : List Str} : (allTrue ws).length ≤ ws.length := by
  have := fold_len (b := true) (ws := ws) (ms := [])
  unfold allTrue
  have e : ([] : List (Str × Bool)).length = 0 := rfl
  omega
end Wf
namespace Wf
open PySem PySem.Spec PyProof.Rows L2
/-! samples with other words -/
abbrev s_Sample_adding : Stmt := inClass (top 37) 10
abbrev N_Sample_adding : List Str := ["self", "mark", "words", "seen", "word"]
theorem sc_Sample_adding : FnScope N_Sample_adding ["self", "mark", "words"] (defScope s_Sample_adding) := ⟨rfl, rfl, rfl, by decide +kernel, rfl, by decide +kernel, by decide +kernel⟩
abbrev s_Sample_without : Stmt := inClass (top 37) 11
abbrev N_Sample_without : List Str := ["self", "words", "seen", "word", "yes"]
theorem sc_Sample_without : FnScope N_Sample_without ["self", "words"] (defScope s_Sample_without) := ⟨rfl, rfl, rfl, by decide +kernel, rfl, by decide +kernel, by decide +kernel⟩
/-- the words ahead are new, each -/
def NewTo (ks ws : List Str) (i : Nat) : Prop := ∀ j u, j < i → ws[j]? = some u → u ∉ ks ∧ u ∉ ws.take j
theorem NewTo.succ {ks ws : List Str} {i : Nat} {w : Str} (h : NewTo ks ws i) (e : ws[i]? = some w) (n1 : w ∉ ks) (n2 : w ∉ ws.take i) : NewTo ks ws (i + 1) := fun j u hj hu => by
  rcases Nat.lt_or_ge j i with l | l
  · exact h j u l hu
  · obtain rfl : j = i := by omega
    rw [e] at hu
    cases hu
    exact ⟨n1, n2⟩
theorem NewTo.all {ks ws : List Str} (h : NewTo ks ws ws.length) : ws.Nodup ∧ ∀ w ∈ ws, w ∉ ks := by
  refine ⟨List.nodup_iff_pairwise_ne.mpr (List.pairwise_iff_getElem.mpr fun i j hi hj l e => ?_), fun w hw => ?_⟩
  · exact (h j _ hj (List.getElem?_eq_getElem hj)).2 (List.mem_take_iff_getElem.mpr ⟨i, by omega, e⟩)
  · obtain ⟨j, hj, rfl⟩ := List.getElem_of_mem hw
    exact (h j _ hj (List.getElem?_eq_getElem hj)).1
def spAdding (K : PySem.W.Frag) (CW CD C : Addr) : Sp := fun vs H Q E => ∃ (p : SamP) (s : Sam) (b : Bool) (t : Addr) (xs : List V) (ds : List PyData), vs = [.ref p.a, .bl b, .ref t] ∧ SamAt C H p s ∧ SamG s ∧ SqT K H t xs ∧ DqAll K H xs ds ∧ (∀ e ∈ ds, ∀ w, e = .str w → w.length < 1000000) ∧ s.ys.length + s.ns.length + ds.length ≤ 49 ∧
  (∀ i, Fst (wrongWord s.z ds) ds.length (some i) → ∀ x dd H', Same H H' → Dq K H' x (ds.getD i .none) → H dd = none → H' dd = some (.xd [("word", x)]) → E (.ref CW) (some dd) H') ∧
  (Fst (wrongWord s.z ds) ds.length none →
    (∀ (i : Nat) (w : Str), (ds.map txt)[i]? = some w → (w ∈ keysM s.ms ∨ w ∈ (ds.map txt).take i) → NewTo (keysM s.ms) (ds.map txt) i → ∀ dd H', Same H H' → H dd = none → H' dd = some (.xd [("word", .str w)]) → E (.ref CD) (some dd) H') ∧
    (NewTo (keysM s.ms) (ds.map txt) ds.length → ∀ (p' : SamP) (s' : Sam) (H' : Hp), Same H H' → SamNew H p' → SamAt C H' p' s' → SamG s' → s'.z = s.z → (∀ w, w ∈ s'.ys ↔ w ∈ s.ys ∨ b = true ∧ w ∈ ds.map txt) → (∀ w, w ∈ s'.ns ↔ w ∈ s.ns ∨ b = false ∧ w ∈ ds.map txt) → Q (.ref p'.a) H'))
theorem catA_any {K : PySem.W.Frag} {H : Hp} {a b : Addr} {xs ys : List V} {Q : VK} (ha : SqT K H a xs) (hb : SqT K H b ys) (l : xs.length + ys.length ≤ sizeLine) (k : ∀ q H', Same H H' → SqT K H' q (xs ++ ys) → Q (.ref q) H') : rCatA K (.ref a) (.ref b) H Q := by
  refine ⟨a, b, xs, ys, rfl, rfl, ha, hb, l, fun e => ?_, fun _ e => ?_, fun _ _ p hp => ?_⟩
  · exact k b H same_refl (by rw [e, List.nil_append]; exact hb)
  · exact k a H same_refl (by rw [e, List.append_nil]; exact ha)
  · exact k p _ (sm1 hp) (SqT.of upd_same)
section
variable {P : Program} {w : World} {K : PySem.W.Frag} {mg : Str → Option Value} {base : Heap}
theorem body_adding {CL CW CS CT CD C : Addr} (T : TxtS K mg) (sc : SmC K C) (D_check_words : DnX P w K mg base 3 "check_words" ["words", "letters"] (spCheckW K CW)) (N_DuplicateWord : E1 P w K mg base "DuplicateWord" CD "word")
    (N_Sample : CnD P w K mg base (L2.CX P w) 6 "Sample" C ["self", "letters", "yes", "no"] (spSam K CL CW CS CT) []) {f : Addr} {cdv : Value} (A : Around) (outer : List Env) (s : Shared) (H : Hp) (vs : List V) (Q : VK) (E : XK)
    (hr : Room 7 (A.deeper (envOfC "Sample.adding" (defScope s_Sample_adding) s.heap.objs.size f cdv))) (h : spAdding K CW CD C vs H Q E) :
    ∃ t, PSs (cxOf (L2.CX P w) P w K mg base N_Sample_adding "Sample.adding" (defScope s_Sample_adding) f cdv A outer s H E) (defBody s_Sample_adding) t ∧ t { nx := fun _ H' => Q .non H', rt := Q } (start N_Sample_adding vs) H := by
  obtain ⟨p, sm, b, t, xs, ds, rfl, at_, g, ht, hd, small, few, e1, rest⟩ := h
  have hu := hu_of hr
  refine ⟨_, (pss_cons (ps_expr (pe_clX D_check_words (hr.mono (by decide)) (takes_of rfl rfl rfl rfl) (pa_cons (pv 2) (pa_cons (pe_fld (pv 0) rfl) pa_nil))))
  (pss_cons (ps_set (i := 3) sc_Sample_adding.nd rfl (Or.inl rfl) (pe_dnewK))
  (pss_cons (ps_for (passes_of rfl) rfl (pi_tup (pv 2)) (pg_name (i := 4) sc_Sample_adding.nd rfl (Or.inl rfl))
   (pss_cons (ps_if (PW.pt (pw_or (pt_cmp (pc_din hu (pv 4) (pe_fld (pv 0) rfl))) (pw_or1 (pt_cmp (pc_din hu (pv 4) (pv 3)))))) (pss_one (ps_r1 N_DuplicateWord (hr.mono (by decide)) (pv 4) rfl rfl (takes_of rfl rfl rfl rfl))) pss_nil)
  (pss_one (ps_dput hu (pv 3) (pv 4) (pe_bl) rfl))))
  (pss_cons (ps_if (pt_val (pv 1)) (pss_one (ps_ret (pe_mkD N_Sample (hr.mono (by decide)) passN (pa_cons (pe_fld (pv 0) rfl) (pa_cons (pe_op op_catA (pe_fld (pv 0) rfl) (pv 2)) (pa_cons (pe_fld (pv 0) rfl) pa_nil)))))) pss_nil)
  (pss_one (ps_ret (pe_mkD N_Sample (hr.mono (by decide)) passN (pa_cons (pe_fld (pv 0) rfl) (pa_cons (pe_fld (pv 0) rfl) (pa_cons (pe_op op_catA (pe_fld (pv 0) rfl) (pv 2)) pa_nil)))))))))), ?_⟩
  refine ⟨_, rfl, _, rfl, p.a, C, p.dx, _, _, rfl, at_.ob, sc.cl, sc.n1, rfl, .ref t, .tuple ds, sm.z, rfl, .tup ht hd, rfl, small, fun i fst x dd H' s' hx nd ed => e1 i fst x dd H' s' hx nd ed, fun fst H1 s1 => ?_⟩
  obtain ⟨e2, k⟩ := rest fst
  obtain ⟨rfl, okw⟩ := words_of_ok hd (fst_all fst)
  have lw : (ds.map txt).length = ds.length := List.length_map _
  rw [← lw] at few k
  generalize ds.map txt = ws at ht okw e2 k few
  clear hd fst small e1 rest lw
  refine fun D hD => ?_
  have hD0 : H D = none := There.of s1 _ hD
  refine ⟨_, rfl, t, rfl, ⟨_, (Stay.of (s1.trans (sm1 hD))).t _ _ ht⟩, for_tup (K := K) (a := t) (xs := ws.map V.str) (fun j σ H' => ∃ v4 : Option V, σ = [some (.ref p.a), some (.bl b), some (.ref t), some (.ref D), v4] ∧ Same H H' ∧ H' D = some (.dK (mkK (allTrue (ws.take j)))) ∧ NewTo (keysM sm.ms) ws j) ⟨_, rfl, s1.trans (sm1 hD), upd_same, fun j u hj => absurd hj (Nat.not_lt_zero j)⟩ ?_ ?_ ?_⟩
  · rintro j σ H' _ ⟨v4, rfl, s3, _⟩
    exact (Stay.of s3).t _ _ ht
  · rintro j v σ H3 hv ⟨v4, rfl, s3, e3, new⟩
    obtain ⟨w, hw, rfl⟩ := Option.map_eq_some_iff.mp (show (ws[j]?).map V.str = some v by rw [← List.getElem?_map]; exact hv)
    have at3 := at_.same s3
    have dg := DGet.k (k := .inr w) at3.dk
    rw [val_mk] at dg
    have dg2 := DGet.k (k := .inr w) e3
    rw [val_mk, allTrue_mark] at dg2
    refine ⟨_, rfl, _, rfl, p.a, C, p.dx, _, _, rfl, at3.ob, sc.cl, sc.n2, rfl, p.md, _, rfl, dg, _, rfl, ?_⟩
    rw [Option.isSome_map, g.some]
    by_cases c1 : w ∈ keysM sm.ms
    · rw [decide_eq_true c1]
      exact iteT ⟨_, rfl, There.of s3, fun dd H' s' nd ed => e2 j w hw (.inl c1) new dd H' (s3.trans s') (There.of s3 _ nd) ed⟩
    · rw [decide_eq_false c1]
      refine iteF ⟨_, rfl, _, rfl, D, _, rfl, dg2, _, rfl, ?_⟩
      by_cases c2 : w ∈ ws.take j
      · rw [if_pos c2]
        exact iteT ⟨_, rfl, There.of s3, fun dd H' s' nd ed => e2 j w hw (.inr c2) new dd H' (s3.trans s') (There.of s3 _ nd) ed⟩
      · rw [if_neg c2]
        refine iteF ⟨_, rfl, _, rfl, D, _, rfl, DPut.k (k := .inr w) e3 ?_, _, rfl, fun b o e => (upd_ne (ne_of_none e hD0)).trans (s3 b o e), ?_, new.succ hw c1 c2⟩
        · have h1 := allTrue_len (ws := ws.take j)
          rw [List.length_take] at h1
          rw [mk_len, sizeLine_eq]
          omega
        · rw [upd_same, put_mk, allTrue_step hw]
  · rintro σ H3 ⟨v4, rfl, s3, e3, new⟩
    rw [List.length_map] at new
    have at3 := at_.same s3
    have k := k new
    obtain ⟨nd, out⟩ := new.all
    have ht3 := (Stay.of s3 (K := K)).t _ _ ht
    have l1 : (sm.ys.map V.str).length + (ws.map V.str).length ≤ sizeLine := by
      rw [List.length_map, List.length_map, sizeLine_eq]
      omega
    have l2 : (sm.ns.map V.str).length + (ws.map V.str).length ≤ sizeLine := by
      rw [List.length_map, List.length_map, sizeLine_eq]
      omega
    have oyw : WdsOk sm.z (sm.ys ++ ws) := fun w hw => (List.mem_append.mp hw).elim (g.oy w) (okw w)
    have onw : WdsOk sm.z (sm.ns ++ ws) := fun w hw => (List.mem_append.mp hw).elim (g.on w) (okw w)
    refine ⟨_, rfl, b, rfl, ?_⟩
    cases b with
    | true =>
      refine iteT ⟨_, rfl, p.a, C, p.dx, _, _, rfl, at3.ob, sc.cl, sc.n1, rfl, _, rfl, p.a, C, p.dx, _, _, rfl, at3.ob, sc.cl, sc.n3, rfl, _, rfl, catA_any (SqT.of at3.ys) ht3 l1 fun q H4 s4 hq => ?_⟩
      have at4 := at3.same s4
      have s4' := s3.trans s4
      rw [← List.map_append] at hq
      have ap : Apart (sm.ys ++ ws) sm.ns := fun w hw hy => (List.mem_append.mp hy).elim (g.ap w hw) fun m => out w m (g.key.mpr (.inr hw))
      refine ⟨_, rfl, p.a, C, p.dx, _, _, rfl, at4.ob, sc.cl, sc.n4, rfl, fun x dx nx nd ne => ?_⟩
      refine sam_goes sc nx nd ne (.tup hq dq_words) (.tup (SqT.of at4.ns) dq_words) g.lz (by decide) rfl rfl rfl rfl oyw g.on ap (by rw [List.length_append]; omega) fun p' s' H' e same new' at' of' => ⟨rfl, e ▸ ?_⟩
      exact k p' s' H' (s4'.trans same) (new'.old s4') at' (of'.g g.lz oyw g.on ap) of'.z (fun w => by rw [of'.ms.ys.mem, List.mem_append]; exact or_congr_right ⟨fun h => ⟨rfl, h⟩, fun h => h.2⟩) (fun w => by rw [of'.ms.ns.mem]; exact ⟨.inl, fun h => h.elim id fun h => absurd h.1 (by decide)⟩)
    | false =>
      refine iteF ⟨_, rfl, p.a, C, p.dx, _, _, rfl, at3.ob, sc.cl, sc.n1, rfl, _, rfl, p.a, C, p.dx, _, _, rfl, at3.ob, sc.cl, sc.n3, rfl, _, rfl, p.a, C, p.dx, _, _, rfl, at3.ob, sc.cl, sc.n4, rfl, _, rfl, catA_any (SqT.of at3.ns) ht3 l2 fun q H4 s4 hq => ?_⟩
      have at4 := at3.same s4
      have s4' := s3.trans s4
      rw [← List.map_append] at hq
      have ap : Apart sm.ys (sm.ns ++ ws) := fun w hw hy => (List.mem_append.mp hw).elim (fun m => g.ap w m hy) fun m => out w m (g.key.mpr (.inl hy))
      refine fun x dx nx nd ne => ?_
      refine sam_goes sc nx nd ne (.tup (SqT.of at4.ys) dq_words) (.tup hq dq_words) g.lz (by decide) rfl rfl rfl rfl g.oy onw ap (by rw [List.length_append]; omega) fun p' s' H' e same new' at' of' => ⟨rfl, e ▸ ?_⟩
      exact k p' s' H' (s4'.trans same) (new'.old s4') at' (of'.g g.lz g.oy onw ap) of'.z (fun w => by rw [of'.ms.ys.mem]; exact ⟨.inl, fun h => h.elim id fun h => absurd h.1 (by decide)⟩) (fun w => by rw [of'.ms.ns.mem, List.mem_append]; exact or_congr_right ⟨fun h => ⟨rfl, h⟩, fun h => h.2⟩)
/-- a word of the sample, that was not passed before -/
def leftOk (ks : List Str) (ds : List PyData) (i : Nat) : Bool := match ds.getD i .none with
  | .str w => decide (w ∈ ks) && !decide (w ∈ (ds.take i).map txt)
  | _ => false
def spWithout (K : PySem.W.Frag) (CU C : Addr) : Sp := fun vs H Q E => ∃ (p : SamP) (s : Sam) (t : Addr) (xs : List V) (ds : List PyData), vs = [.ref p.a, .ref t] ∧ SamAt C H p s ∧ SamG s ∧ SqT K H t xs ∧ DqAll K H xs ds ∧ s.ys.length + s.ns.length ≤ 49 ∧ ds.length ≤ 1000 ∧
  (∀ i, Fst (leftOk (keysM s.ms) ds) ds.length (some i) → ∀ x dd H', Same H H' → Dq K H' x (ds.getD i .none) → H dd = none → H' dd = some (.xd [("word", x)]) → E (.ref CU) (some dd) H') ∧
  (Fst (leftOk (keysM s.ms) ds) ds.length none → ∀ (p' : SamP) (s' : Sam) (H' : Hp), Same H H' → SamNew H p' → SamAt C H' p' s' → SamG s' → s'.z = s.z → (∀ w, w ∈ s'.ys ↔ w ∈ s.ys ∧ w ∉ ds.map txt) → (∀ w, w ∈ s'.ns ↔ w ∈ s.ns ∧ w ∉ ds.map txt) → Q (.ref p'.a) H')
/-- what is left of words -/
def leftW (ws gone : List Str) : List Str := ws.filter fun w => !decide (w ∈ gone)
theorem leftW_mem {ws gone : List Str} {w : Str} : w ∈ leftW ws gone ↔ w ∈ ws ∧ w ∉ gone := by
  unfold leftW
  rw [List.mem_filter, Bool.not_eq_true', decide_eq_false_iff_not]
theorem leftW_step {ws gone : List Str} {w : Str} {i : Nat} (h : ws[i]? = some w) : leftW (ws.take (i + 1)) gone = if w ∈ gone then leftW (ws.take i) gone else leftW (ws.take i) gone ++ [w] := by
  unfold leftW
  rw [List.take_succ, h, List.filter_append]
  by_cases m : w ∈ gone
  · rw [if_pos m]
    show _ ++ List.filter _ [w] = _
    rw [List.filter_cons_of_neg (by rw [decide_eq_true m]; decide), List.filter_nil, List.append_nil]
  · rw [if_neg m]
    show _ ++ List.filter _ [w] = _
    rw [List.filter_cons_of_pos (by rw [decide_eq_false m]; decide), List.filter_nil]
theorem body_without {CL CW CS CT CU C : Addr} (T : TxtS K mg) (sc : SmC K C) (M_mark : Mt P w K mg base 1 C "mark" ["self", "word"] (spMark K C)) (N_UnknownWord : E1 P w K mg base "UnknownWord" CU "word")
    (N_Sample : CnD P w K mg base (L2.CX P w) 6 "Sample" C ["self", "letters", "yes", "no"] (spSam K CL CW CS CT) []) {f : Addr} {cdv : Value} (A : Around) (outer : List Env) (s : Shared) (H : Hp) (vs : List V) (Q : VK) (E : XK)
    (hr : Room 7 (A.deeper (envOfC "Sample.without" (defScope s_Sample_without) s.heap.objs.size f cdv))) (h : spWithout K CU C vs H Q E) :
    ∃ t, PSs (cxOf (L2.CX P w) P w K mg base N_Sample_without "Sample.without" (defScope s_Sample_without) f cdv A outer s H E) (defBody s_Sample_without) t ∧ t { nx := fun _ H' => Q .non H', rt := Q } (start N_Sample_without vs) H := by
  obtain ⟨p, sm, t, xs, ds, rfl, at_, g, ht, hd, few, few2, e1, k⟩ := h
  have hu := hu_of hr
  refine ⟨_, (pss_cons (ps_set (i := 2) sc_Sample_without.nd rfl (Or.inr rfl) (pe_dnewK))
  (pss_cons (ps_for (passes_of rfl) rfl (pi_tup (pv 1)) (pg_name (i := 3) sc_Sample_without.nd rfl (Or.inl rfl))
   (pss_cons (ps_if (PW.pt (pw_or (pt_cmpR op_isN (pe_mt M_mark sc.cl (hr.mono (by decide)) (pv 0) (pa_cons (pv 3) pa_nil)) (pe_non) (nomark _)) (pw_or1 (pt_cmp (pc_din hu (pv 3) (pv 2)))))) (pss_one (ps_r1 N_UnknownWord (hr.mono (by decide)) (pv 3) rfl rfl (takes_of rfl rfl rfl rfl))) pss_nil)
  (pss_one (ps_dput hu (pv 2) (pv 3) (pe_bl) rfl))))
  (pss_cons (ps_setLc (i := 4) (own := [("word", 3)]) (g := gName 3) (by rfl) sc_Sample_without.nd rfl rfl (sw_true rfl rfl rfl (by decide +kernel)) (pi_tup (pe_fld (pv 0) rfl)) (blkOk_by (own := [("word", 3)]) (N := N_Sample_without) (sc := defScope s_Sample_without) (by decide +kernel)) (fun _ _ _ _ _ => (pg_name (i := 3) sc_Sample_without.nd rfl (Or.inl rfl))) (fun _ _ _ _ _ => (pts_one (pt_cmp (pc_dnotin hu (pv 3) (pv 2))))) (fun _ _ _ _ _ => (pv 3)))
  (pss_one (ps_ret (pe_mkD N_Sample (hr.mono (by decide)) passN (pa_cons (pe_fld (pv 0) rfl) (pa_cons (pv 4) (pa_cons (pe_lc (own := [("word", 3)]) (g := gName 3) (by rfl) sc_Sample_without.nd (pi_tup (pe_fld (pv 0) rfl)) (blkOk_by (own := [("word", 3)]) (N := N_Sample_without) (sc := defScope s_Sample_without) (by decide +kernel)) (fun _ _ _ _ _ => (pg_name (i := 3) sc_Sample_without.nd rfl (Or.inl rfl))) (fun _ _ _ _ _ => (pts_one (pt_cmp (pc_dnotin hu (pv 3) (pv 2))))) (fun _ _ _ _ _ => (pv 3))) pa_nil))))))))), ?_⟩
  refine fun D hD => ?_
  have lx : xs.length = ds.length := hd.len
  have st0 : Same H (upd H D (.dK [])) := sm1 hD
  refine ⟨_, rfl, t, rfl, ⟨_, (Stay.of st0).t _ _ ht⟩, for_tup (K := K) (a := t) (xs := xs) (fun j σ H' => ∃ v3 : Option V, σ = [some (.ref p.a), some (.ref t), some (.ref D), v3, none] ∧ Same H H' ∧ H' D = some (.dK (mkK (allTrue ((ds.take j).map txt)))) ∧ ∀ i, i < j → leftOk (keysM sm.ms) ds i = true) ⟨_, rfl, st0, upd_same, fun j hj => absurd hj (Nat.not_lt_zero j)⟩ ?_ ?_ ?_⟩
  · rintro j σ H' _ ⟨v3, rfl, s3, _⟩
    exact (Stay.of s3).t _ _ ht
  · rintro j v σ H3 hv ⟨v3, rfl, s3, e3, before⟩
    obtain ⟨d, hdj, hq⟩ := hd.get hv
    have gd : ds.getD j .none = d := getD_of hdj
    have jl : j < ds.length := (List.getElem?_eq_some_iff.mp hdj).1
    have at3 := at_.same s3
    have hq3 := (Sty.of s3 (K := K)).dq hq
    have bad : leftOk (keysM sm.ms) ds j = false → ∀ dd H', Same H3 H' → H3 dd = none → H' dd = some (.xd [("word", v)]) → E (.ref CU) (some dd) H' := fun q dd H' s' nd ed =>
      e1 j ⟨jl, q, before⟩ v dd H' (s3.trans s') (by rw [gd]; exact (Sty.of s' (K := K)).dq hq3) (There.of s3 _ nd) ed
    refine ⟨_, rfl, p.a, p.dx, _, rfl, at3.ob, rfl, _, rfl, p, sm, v, d, rfl, at3, hq3, rfl, _, rfl, ?_⟩
    cases q : leftOk (keysM sm.ms) ds j with
    | false =>
      have bad := bad q
      unfold leftOk at q
      rw [gd] at q
      cases d with
      | str w =>
        cases hq3
        have md : markD sm.ms (.str w) = mV (markOf sm.ms w) := rfl
        rw [md]
        by_cases c1 : w ∈ keysM sm.ms
        · have dg2 := DGet.k (k := .inr w) e3
          rw [val_mk, allTrue_mark] at dg2
          have c2 : w ∈ (ds.take j).map txt := by
            have q : (decide (w ∈ keysM sm.ms) && !decide (w ∈ (ds.take j).map txt)) = false := q
            rw [decide_eq_true c1, Bool.true_and, Bool.not_eq_false', decide_eq_true_iff] at q
            exact q
          rw [if_pos c2] at dg2
          have sm1' := g.some (w := w)
          rw [decide_eq_true c1] at sm1'
          obtain ⟨b, hb⟩ := Option.isSome_iff_exists.mp sm1'
          rw [hb]
          exact iteF ⟨_, rfl, _, rfl, D, _, rfl, dg2, _, rfl, iteT ⟨_, rfl, There.of s3, bad⟩⟩
        · have sm1' := g.some (w := w)
          rw [decide_eq_false c1, Option.isSome_eq_false_iff, Option.isNone_iff_eq_none] at sm1'
          rw [sm1']
          exact iteT ⟨_, rfl, There.of s3, bad⟩
      | _ => exact iteT ⟨_, rfl, There.of s3, bad⟩
    | true =>
      unfold leftOk at q
      rw [gd] at q
      cases d with
      | str w =>
        cases hq3
        have q' : (decide (w ∈ keysM sm.ms) && !decide (w ∈ (ds.take j).map txt)) = true := q
        rw [Bool.and_eq_true, decide_eq_true_iff, Bool.not_eq_true', decide_eq_false_iff_not] at q'
        obtain ⟨c1, c2⟩ := q'
        have dg2 := DGet.k (k := .inr w) e3
        rw [val_mk, allTrue_mark, if_neg c2] at dg2
        have sm1' := g.some (w := w)
        rw [decide_eq_true c1] at sm1'
        obtain ⟨b, hb⟩ := Option.isSome_iff_exists.mp sm1'
        have md : markD sm.ms (.str w) = mV (markOf sm.ms w) := rfl
        rw [md, hb]
        refine iteF ⟨_, rfl, _, rfl, D, _, rfl, dg2, _, rfl, iteF ?_⟩
        refine ⟨_, rfl, _, rfl, D, _, rfl, DPut.k (k := .inr w) e3 ?_, _, rfl, fun b o e => (upd_ne (ne_of_none e hD)).trans (s3 b o e), ?_, fun i hi => ?_⟩
        · have h1 := allTrue_len (ws := (ds.take j).map txt)
          rw [List.length_map, List.length_take] at h1
          rw [mk_len, sizeLine_eq]
          omega
        · rw [upd_same, put_mk, List.take_succ, hdj]
          show some (HO.dK (mkK (putW (allTrue ((ds.take j).map txt)) w true))) = some (HO.dK (mkK (allTrue (((ds.take j) ++ [PyData.str w]).map txt))))
          rw [List.map_append]
          unfold allTrue
          rw [List.foldl_append]
          rfl
        · rcases Nat.lt_or_ge i j with l | l
          · exact before i l
          · obtain rfl : i = j := by omega
            unfold leftOk
            rw [gd]
            exact q
      | _ => cases q
  · rintro σ H3 ⟨v3, rfl, s3, e3, all⟩
    rw [lx, List.take_length] at e3
    rw [lx] at all
    have k := k all
    generalize ds.map txt = ws at e3 k
    clear e1 all hd
    have at3 := at_.same s3
    -- yes
    refine ⟨_, rfl, p.a, C, p.dx, _, _, rfl, at3.ob, sc.cl, sc.n3, rfl, p.t1, rfl, ⟨_, SqT.of at3.ys⟩, fun L hL => lc_tup (K := K) (a := p.t1) (xs := sm.ys.map V.str) (fun i H' => Same H3 H' ∧ H' L = some (.lst ((leftW (sm.ys.take i) ws).map V.str))) ⟨sm1 hL, upd_same⟩ (fun i H' _ iv => SqT.of (iv.1 _ _ at3.ys)) ?_ ?_⟩
    · rintro i x H4 hx ⟨s4, e4⟩
      obtain ⟨u, hu', rfl⟩ := Option.map_eq_some_iff.mp (show (sm.ys[i]?).map V.str = some x by rw [← List.getElem?_map]; exact hx)
      have dg := DGet.k (k := .inr u) (s4 _ _ e3)
      rw [val_mk, allTrue_mark] at dg
      refine ⟨rfl, _, rfl, _, rfl, D, _, rfl, dg, _, rfl, ?_⟩
      have step := leftW_step (gone := ws) hu'
      by_cases m : u ∈ ws
      · rw [if_pos m] at step ⊢
        refine iteF ⟨s4, ?_⟩
        rw [step]
        exact e4
      · rw [if_neg m] at step ⊢
        refine iteT ⟨_, rfl, _, e4, ?_, fun b o e => (upd_ne (ne_of_none e hL)).trans (s4 b o e), ?_⟩
        · have h1 : (leftW (sm.ys.take i) ws).length ≤ (sm.ys.take i).length := List.length_filter_le _ _
          rw [List.length_take] at h1
          rw [List.length_map, sizeLine_eq]
          omega
        · rw [upd_same, step, List.map_append]
          rfl
    rintro H5 ⟨s5, e5⟩
    rw [List.length_map, List.take_length] at e5
    have at5 := at3.same s5
    have s35 := s3.trans s5
    have e5D := s5 _ _ e3
    -- Sample(..)
    refine ⟨_, rfl, p.a, C, p.dx, _, _, rfl, at5.ob, sc.cl, sc.n1, rfl, _, rfl, ?_⟩
    refine ⟨_, rfl, p.a, C, p.dx, _, _, rfl, at5.ob, sc.cl, sc.n4, rfl, p.t2, rfl, ⟨_, SqT.of at5.ns⟩, fun N hN => lc_tup (K := K) (a := p.t2) (xs := sm.ns.map V.str) (fun i H' => Same H5 H' ∧ H' N = some (.lst ((leftW (sm.ns.take i) ws).map V.str))) ⟨sm1 hN, upd_same⟩ (fun i H' _ iv => SqT.of (iv.1 _ _ at5.ns)) ?_ ?_⟩
    · rintro i x H4 hx ⟨s4, e4⟩
      obtain ⟨u, hu', rfl⟩ := Option.map_eq_some_iff.mp (show (sm.ns[i]?).map V.str = some x by rw [← List.getElem?_map]; exact hx)
      have dg := DGet.k (k := .inr u) (s4 _ _ e5D)
      rw [val_mk, allTrue_mark] at dg
      refine ⟨rfl, _, rfl, _, rfl, D, _, rfl, dg, _, rfl, ?_⟩
      have step := leftW_step (gone := ws) hu'
      by_cases m : u ∈ ws
      · rw [if_pos m] at step ⊢
        refine iteF ⟨s4, ?_⟩
        rw [step]
        exact e4
      · rw [if_neg m] at step ⊢
        refine iteT ⟨_, rfl, _, e4, ?_, fun b o e => (upd_ne (ne_of_none e hN)).trans (s4 b o e), ?_⟩
        · have h1 : (leftW (sm.ns.take i) ws).length ≤ (sm.ns.take i).length := List.length_filter_le _ _
          rw [List.length_take] at h1
          rw [List.length_map, sizeLine_eq]
          omega
        · rw [upd_same, step, List.map_append]
          rfl
    rintro H6 ⟨s6, e6⟩
    rw [List.length_map, List.take_length] at e6
    have e5' := s6 _ _ e5
    have s36 := s35.trans s6
    have oy : WdsOk sm.z (leftW sm.ys ws) := fun w hw => g.oy w (leftW_mem.mp hw).1
    have on : WdsOk sm.z (leftW sm.ns ws) := fun w hw => g.on w (leftW_mem.mp hw).1
    have ap : Apart (leftW sm.ys ws) (leftW sm.ns ws) := fun w hw hy => g.ap w (leftW_mem.mp hw).1 (leftW_mem.mp hy).1
    have l1 : (leftW sm.ys ws).length ≤ sm.ys.length := List.length_filter_le _ _
    have l2 : (leftW sm.ns ws).length ≤ sm.ns.length := List.length_filter_le _ _
    refine fun x dx nx nd ne => ?_
    refine sam_goes sc nx nd ne (.lst (SqL.of e5') dq_words) (.lst (SqL.of e6) dq_words) g.lz (by decide) rfl rfl rfl rfl oy on ap (by omega) fun p' s' H' e same new' at' of' => ⟨rfl, e ▸ ?_⟩
    exact k p' s' H' (s36.trans same) (new'.old s36) at' (of'.g g.lz oy on ap) of'.z (fun w => by rw [of'.ms.ys.mem, leftW_mem]) (fun w => by rw [of'.ms.ns.mem, leftW_mem])
end
end Wf
namespace Wf
open PySem PySem.Spec PyProof.Rows L2
abbrev s_law_caught : Stmt := top 52
abbrev N_law_caught : List Str := ["call", "heard", "e", "found"]
theorem sc_law_caught : FnScope N_law_caught ["call"] (defScope s_law_caught) := ⟨rfl, rfl, rfl, by decide +kernel, rfl, by decide +kernel, by decide +kernel⟩
abbrev s_law_is_word : Stmt := top 51
abbrev N_law_is_word : List Str := ["letters", "value", "letter"]
theorem sc_law_is_word : FnScope N_law_is_word ["letters", "value"] (defScope s_law_is_word) := ⟨rfl, rfl, rfl, by decide +kernel, rfl, by decide +kernel, by decide +kernel⟩
/-- what a sample says of itself, told as data -/
def samD (s : Sam) : PyData := .tuple [.str s.z, .tuple (s.ys.map PyData.str), .tuple (s.ns.map PyData.str)]
/-- the class of an exception, and the law's word for it -/
def ErrW (CW CD CU : Addr) (k : Str) (c : Value) : Prop := (c = .ref CW ∧ k = "word") ∨ (c = .ref CD ∧ k = "twice") ∨ (c = .ref CU ∧ k = "unknown")
def ErrS (K : PySem.W.Frag) (CW CD CU : Addr) (Q : VK) : XK := fun cls d H1 => ∃ (k : Str) (dd : Addr) (x : V) (e : PyData), ErrW CW CD CU k cls ∧ d = some dd ∧ H1 dd = some (.xd [("word", x)]) ∧ Dq K H1 x e ∧ e.showable = true ∧ e.depth ≤ 60 ∧ e.shown.length ≤ sizeLine ∧
  ∀ (u : V) (H2 : Hp), Same H1 H2 → Dq K H2 u (.tuple [.str k, .str e.shown, .bool true]) → Q u H2
def TTs (K : PySem.W.Frag) (CW CD CU C : Addr) : TLm := fun tl H Q =>
  ∀ Qc : VK, (∀ (p : SamP) (s : Sam) (H1 : Hp), SamAt C H1 p s → (∀ (u : V) (H2 : Hp), Same H1 H2 → Dq K H2 u (samD s) → Q u H2) → Qc (.ref p.a) H1) → tl (ErrS K CW CD CU Q) H Qc
section
variable {P : Program} {w : World} {K : PySem.W.Frag} {mg : Str → Option Value} {base : Heap} {f g : Addr} {fd : FuncData}
theorem ok_caught {CW CD CU C : Addr} (F : Fun K "_law_caught" "_law_caught" s_law_caught g fd) (T : Txt K mg) (MB : Mods base) (hm : mg "_law_caught" = some (.ref g)) (hb : L2.Binds K fd ["call"] [])
    (N_InvalidWord : E1 P w K mg base "InvalidWord" CW "word") (N_DuplicateWord : E1 P w K mg base "DuplicateWord" CD "word") (N_UnknownWord : E1 P w K mg base "UnknownWord" CU "word") (sc : SmC K C)
    (P_letters : Pr P w K mg base C "letters" (getSp C "_letters")) (P_yes : Pr P w K mg base C "yes" (getSp C "_yes")) (P_no : Pr P w K mg base C "no" (getSp C "_no"))
    (sWW : PySem.W.subIn K (.ref CW) (.ref CW) = some true) (sDW : PySem.W.subIn K (.ref CD) (.ref CW) = some false) (sDD : PySem.W.subIn K (.ref CD) (.ref CD) = some true) (sUW : PySem.W.subIn K (.ref CU) (.ref CW) = some false) (sUD : PySem.W.subIn K (.ref CU) (.ref CD) = some false) (sUU : PySem.W.subIn K (.ref CU) (.ref CU) = some true)
    (kW : PySem.W.kitOne K (.ref CW) (.type "ValueError") = some true) (kD : PySem.W.kitOne K (.ref CD) (.type "KeyError") = some true) (kU : PySem.W.kitOne K (.ref CU) (.type "KeyError") = some true) :
    Cau P w K mg base 7 "_law_caught" "call" (TTs K CW CD CU C) := by
  refine Cau.of F sc_law_caught hm hb rfl (.inl rfl) fun cdv A stk q f c' s H Q tl hq hr act hc h => ?_
  have mW : PySem.W.exmOne K (.ref CW) (.ref CW) = some true := PySem.W.exm_ref N_InvalidWord.vn.cls.is.hs N_InvalidWord.vn.cls.is.hd N_InvalidWord.ty sWW
  have mDW : PySem.W.exmOne K (.ref CD) (.ref CW) = some false := PySem.W.exm_ref N_InvalidWord.vn.cls.is.hs N_InvalidWord.vn.cls.is.hd N_InvalidWord.ty sDW
  have mD : PySem.W.exmOne K (.ref CD) (.ref CD) = some true := PySem.W.exm_ref N_DuplicateWord.vn.cls.is.hs N_DuplicateWord.vn.cls.is.hd N_DuplicateWord.ty sDD
  have mUW : PySem.W.exmOne K (.ref CU) (.ref CW) = some false := PySem.W.exm_ref N_InvalidWord.vn.cls.is.hs N_InvalidWord.vn.cls.is.hd N_InvalidWord.ty sUW
  have mUD : PySem.W.exmOne K (.ref CU) (.ref CD) = some false := PySem.W.exm_ref N_DuplicateWord.vn.cls.is.hs N_DuplicateWord.vn.cls.is.hd N_DuplicateWord.ty sUD
  have mU : PySem.W.exmOne K (.ref CU) (.ref CU) = some true := PySem.W.exm_ref N_UnknownWord.vn.cls.is.hs N_UnknownWord.vn.cls.is.hd N_UnknownWord.ty sUU
  refine ⟨_, (pss_cons (ps_set (i := 1) sc_law_caught.nd rfl (Or.inl rfl) (pe_non))
  (pss_cons (ps_try_manyAs rfl rfl sc_law_caught.nd takes0 (fun W pn xe tk _ => (pss_cons (ps_set (i := 3) sc_law_caught.nd rfl (Or.inl rfl) (pe_act0 act tk))
  (pss_one (ps_set (i := 1) sc_law_caught.nd rfl (Or.inl rfl) (pe_tup (pa_cons (pe_pr P_letters sc.cl (hr.mono (by decide)) (pv 3)) (pa_cons (pe_pr P_yes sc.cl (hr.mono (by decide)) (pv 3)) (pa_cons (pe_pr P_no sc.cl (hr.mono (by decide)) (pv 3)) pa_nil))))))))
  (.cons (i := 2) rfl rfl ⟨rfl, by decide, .inl N_InvalidWord.vn.gC⟩ (fun a oe cls d pn hz hf => (pss_one (ps_set (i := 1) sc_law_caught.nd rfl (Or.inl rfl) (pe_tup (pa_cons (pe_str) (pa_cons (pe_callB (show CallR _ (.builtin "repr") (rReprQ K) from cr_reprQ MB hq hr.units) (by rfl) T.z_repr (by decide +kernel) (pa_cons (pe_xg hz hf (pv 2)) pa_nil)) (pa_cons (pe_callB (call_isF hz hf) (by rfl) T.z_isinstance (by decide +kernel) (pa_cons (pv 2) (pa_cons (pe_ty (T := "ValueError") T.z_ValueError (by decide +kernel)) pa_nil))) pa_nil)))))))
   (.cons (i := 2) rfl rfl ⟨rfl, by decide, .inl N_DuplicateWord.vn.gC⟩ (fun a oe cls d pn hz hf => (pss_one (ps_set (i := 1) sc_law_caught.nd rfl (Or.inl rfl) (pe_tup (pa_cons (pe_str) (pa_cons (pe_callB (show CallR _ (.builtin "repr") (rReprQ K) from cr_reprQ MB hq hr.units) (by rfl) T.z_repr (by decide +kernel) (pa_cons (pe_xg hz hf (pv 2)) pa_nil)) (pa_cons (pe_callB (call_isF hz hf) (by rfl) T.z_isinstance (by decide +kernel) (pa_cons (pv 2) (pa_cons (pe_ty (T := "KeyError") T.z_KeyError (by decide +kernel)) pa_nil))) pa_nil)))))))
   (.cons (i := 2) rfl rfl ⟨rfl, by decide, .inl N_UnknownWord.vn.gC⟩ (fun a oe cls d pn hz hf => (pss_one (ps_set (i := 1) sc_law_caught.nd rfl (Or.inl rfl) (pe_tup (pa_cons (pe_str) (pa_cons (pe_callB (show CallR _ (.builtin "repr") (rReprQ K) from cr_reprQ MB hq hr.units) (by rfl) T.z_repr (by decide +kernel) (pa_cons (pe_xg hz hf (pv 2)) pa_nil)) (pa_cons (pe_callB (call_isF hz hf) (by rfl) T.z_isinstance (by decide +kernel) (pa_cons (pv 2) (pa_cons (pe_ty (T := "KeyError") T.z_KeyError (by decide +kernel)) pa_nil))) pa_nil)))))))
   .nil))))
  (pss_one (ps_ret (pv 1))))), ?_⟩
  refine ⟨ErrS K CW CD CU Q, fun cls d σ1 H1 l4 er => ?_, rfl, hc, h _ fun p sm H1 at_ k => ?_⟩
  · obtain ⟨s0, s1, s2, s3, rfl⟩ : ∃ a b c d, σ1 = [a, b, c, d] := match σ1, l4 with | [a, b, c, d], _ => ⟨a, b, c, d, rfl⟩
    obtain ⟨k, dd, x, e, kind, rfl, hx, hd, sh, dp, sz, k⟩ := er
    rcases kind with ⟨rfl, rfl⟩ | ⟨rfl, rfl⟩ | ⟨rfl, rfl⟩
    · refine ⟨true, mW, fun _ a na => ?_, nofun⟩
      refine ⟨_, rfl, rfl, CW, dd, _, x, rfl, N_InvalidWord.vn.cls.is, N_InvalidWord.vn.no, rfl, hx, rfl, x, e, rfl, hd, sh, dp, sz, _, rfl, CW, "ValueError", true, rfl, rfl, N_InvalidWord.vn.cls.is, kW, .inr ⟨dd, _, rfl, hx⟩, by show 3 ≤ sizeLine; decide, fun t ht => ⟨_, rfl, ?_⟩⟩
      exact k _ _ (sm1 ht) (.tup (SqT.of upd_same) (.cons (.str _) (.cons (.str _) (.cons (.bl _) .nil))))
    · refine ⟨false, mDW, nofun, fun _ => ⟨true, mD, fun _ a na => ?_, nofun⟩⟩
      refine ⟨_, rfl, rfl, CD, dd, _, x, rfl, N_DuplicateWord.vn.cls.is, N_DuplicateWord.vn.no, rfl, hx, rfl, x, e, rfl, hd, sh, dp, sz, _, rfl, CD, "KeyError", true, rfl, rfl, N_DuplicateWord.vn.cls.is, kD, .inr ⟨dd, _, rfl, hx⟩, by show 3 ≤ sizeLine; decide, fun t ht => ⟨_, rfl, ?_⟩⟩
      exact k _ _ (sm1 ht) (.tup (SqT.of upd_same) (.cons (.str _) (.cons (.str _) (.cons (.bl _) .nil))))
    · refine ⟨false, mUW, nofun, fun _ => ⟨false, mUD, nofun, fun _ => ⟨true, mU, fun _ a na => ?_, nofun⟩⟩⟩
      refine ⟨_, rfl, rfl, CU, dd, _, x, rfl, N_UnknownWord.vn.cls.is, N_UnknownWord.vn.no, rfl, hx, rfl, x, e, rfl, hd, sh, dp, sz, _, rfl, CU, "KeyError", true, rfl, rfl, N_UnknownWord.vn.cls.is, kU, .inr ⟨dd, _, rfl, hx⟩, by show 3 ≤ sizeLine; decide, fun t ht => ⟨_, rfl, ?_⟩⟩
      exact k _ _ (sm1 ht) (.tup (SqT.of upd_same) (.cons (.str _) (.cons (.str _) (.cons (.bl _) .nil))))
  · refine ⟨_, rfl, p.a, p.dx, _, rfl, at_.ob, ⟨p.a, p.dx, _, _, rfl, at_.ob, rfl, _, rfl, p.a, p.dx, _, rfl, at_.ob, ⟨p.a, p.dx, _, _, rfl, at_.ob, rfl, _, rfl, p.a, p.dx, _, rfl, at_.ob, ⟨p.a, p.dx, _, _, rfl, at_.ob, rfl, ?_⟩⟩⟩⟩
    refine ⟨by show 3 ≤ sizeLine; decide, fun t ht => ⟨_, rfl, ?_⟩⟩
    exact k _ _ (sm1 ht) (.tup (SqT.of upd_same) (.cons (.str _) (.cons (.tup (SqT.of ((sm1 ht) _ _ at_.ys)) dq_words) (.cons (.tup (SqT.of ((sm1 ht) _ _ at_.ns)) dq_words) .nil))))
end
end Wf
namespace Wf
open PySem PySem.Spec PyProof.Rows L2
theorem filter_emptyW {α β : Type} {xs : List α} {p : α → Bool} {f : α → β} : ((xs.filter fun x => !p x).map f).isEmpty = xs.all p := by
  induction xs with
  | nil => rfl
  | cons x xs ih =>
    rw [List.filter_cons, List.all_cons]
    cases h : p x with
    | true => exact ih
    | false => rfl
theorem filter_oneW {α : Type} {p : α → Bool} {x : α} : [x].filter p = if p x = true then [x] else [] := by
  rw [List.filter_cons]
  rfl
theorem sign_ok {z : Str} (h : PyData.strOk z = true) {ch : Nat} (hc : ch ∈ z.cps.toList) : PyData.strOk ⟨#[ch]⟩ = true := by
  have z2 : z.cps.all (· < 0x110000) = true := h
  rw [← Array.all_toList, List.all_eq_true] at z2
  show (#[ch] : Array Nat).all (· < 0x110000) = true
  rw [← Array.all_toList]
  show (decide (ch < 0x110000) && true) = true
  rw [Bool.and_true]
  exact z2 ch hc
def spIsW (K : PySem.W.Frag) : Sp := fun vs H Q _ => ∃ (v : V) (d : PyData) (z : Str), vs = [.str z, v] ∧ Dq K H v d ∧ (∀ w, d = .str w → w.length < 1000000 ∧ PyData.strOk w = true) ∧ ∀ H', Same H H' → Q (.bl (isWord z d)) H'
section
variable {P : Program} {w : World} {K : PySem.W.Frag} {mg : Str → Option Value} {base : Heap} {f : Addr} {fd : FuncData}
theorem ok_law_word (F : Fun K "_law_is_word" "_law_is_word" s_law_is_word f fd) (T : Txt K mg) : FnOk P w K mg base CX0 1 f fd ["letters", "value"] (spIsW K) := by
  refine F.ok sc_law_is_word (fun vs H Q E h => ?_) (fun cdv A outer s H vs Q E hr h => ?_)
  · obtain ⟨v, d, z, rfl, _⟩ := h
    rfl
  · obtain ⟨v, d, z, rfl, hd, small, k⟩ := h
    refine ⟨_, (pss_one (ps_ret (pe_and (pe_callB (call_isD kit_str) (by rfl) T.z_isinstance (by decide +kernel) (pa_cons (pv 1) (pa_cons (pe_ty (T := "str") T.z_str (by decide +kernel)) pa_nil))) (pe_one (pe_cmpR (op_eqD hr.units) (pe_lc (own := [("letter", 2)]) (g := gName 2) (by rfl) sc_law_is_word.nd (pi_str (pv 1)) (blkOk_by (own := [("letter", 2)]) (N := N_law_is_word) (sc := defScope s_law_is_word) (by decide +kernel)) (fun _ _ _ _ _ => (pg_name (i := 2) sc_law_is_word.nd rfl (Or.inl rfl))) (fun _ _ _ _ _ => (pts_one (pt_cmpR op_notIn_sign (pv 2) (pv 0) (by rfl)))) (fun _ _ _ _ _ => (pv 2))) (pe_lst pa_nil) (nomark _)))))), ?_⟩
    refine ⟨_, rfl, v, d, rfl, hd, _, rfl, ?_⟩
    cases e : isStr d with
    | false =>
      have k := k _ same_refl
      rw [show isWord z d = false from by cases d <;> first | rfl | cases e] at k
      exact iteF k
    | true =>
      obtain ⟨u, rfl⟩ : ∃ u, d = .str u := by cases d <;> first | exact ⟨_, rfl⟩ | cases e
      cases hd
      obtain ⟨ul, uo⟩ := small u rfl
      have ltr : u.cps.toList.length = u.length := Array.length_toList
      refine iteT ⟨_, rfl, u, rfl, fun D hD => ?_⟩
      refine lc_chars (fun i H' => Same H H' ∧ H' D = some (.lst (((u.cps.toList.take i).filter fun c => !decide (c ∈ z.cps.toList)).map fun c => V.str ⟨#[c]⟩))) ⟨sm1 hD, upd_same⟩ ?_ ?_
      · rintro i c H1 hc ⟨s1, hD1⟩
        refine ⟨rfl, _, rfl, _, rfl, c, z, rfl, rfl, _, rfl, ?_⟩
        rw [List.take_succ, hc, List.filter_append]
        rw [Option.toList_some, filter_oneW]
        show if (!decide (c ∈ z.cps.toList)) = true then _ else _
        cases q1 : (!decide (c ∈ z.cps.toList)) with
        | true =>
          refine iteT ⟨_, rfl, _, hD1, small1000000 (by rw [List.length_map]; refine Nat.lt_of_le_of_lt (List.length_filter_le _ _) ?_; rw [List.length_take]; omega), swr s1 hD, ?_⟩
          rw [upd_same, List.map_append]
          rfl
        | false =>
          refine iteF ⟨s1, ?_⟩
          rw [hD1, List.map_append]
          show _ = some (HO.lst (_ ++ []))
          rw [List.append_nil]
      rintro H1 ⟨s1, hD1⟩
      rw [← ltr, List.take_length] at hD1
      refine ⟨Nat.zero_le _, fun l hl => ?_⟩
      have s2 := sm1 (o := .lst []) hl
      have hD2 := s2 _ _ hD1
      refine data_eq (X := cxOf CX0 P w K mg base N_law_is_word "_law_is_word" (defScope s_law_is_word) f cdv A outer s H E) (SqL.of hD2) (fun y hy => ?_) (SqL.of upd_same) ?_
      · obtain ⟨c, hc, rfl⟩ := List.mem_map.mp hy
        exact ⟨_, .str _, pl_str (sign_ok uo (List.mem_filter.mp hc).1)⟩
      rw [filter_emptyW (p := fun c => decide (c ∈ z.cps.toList))]
      exact k _ (s1.trans s2)
end
end Wf
namespace Wf
open PySem PySem.Spec PyProof.Rows L2
abbrev s_law_added : Stmt := top 53
abbrev N_law_added : List Str := ["sample", "words", "given"]
theorem sc_law_added : FnScope N_law_added ["sample", "words", "given"] (defScope s_law_added) := ⟨rfl, rfl, rfl, by decide +kernel, rfl, by decide +kernel, by decide +kernel⟩
abbrev s_law_left : Stmt := top 54
abbrev N_law_left : List Str := ["sample", "words"]
theorem sc_law_left : FnScope N_law_left ["sample", "words"] (defScope s_law_left) := ⟨rfl, rfl, rfl, by decide +kernel, rfl, by decide +kernel, by decide +kernel⟩
abbrev spAddK (K : PySem.W.Frag) (CW CD C : Addr) : SpK := fun vs zs H Q E => ∃ a m rest, vs = a :: rest ∧ zs = [m] ∧ rest.length ≤ sizeLine ∧ ∀ p, H p = none → spAdding K CW CD C [a, m, V.ref p] (upd H p (.tup rest)) Q E
abbrev spWoR (K : PySem.W.Frag) (CU C : Addr) : Sp := fun vs H Q E => ∃ ws rest, vs = ws ++ rest ∧ ws.length = ["self"].length ∧ rest.length ≤ sizeLine ∧ ∀ p, H p = none → spWithout K CU C (ws ++ [V.ref p]) (upd H p (.tup rest)) Q E
/-- letters, and words in order, told as data -/
def plnD (z : Str) (ys ns : List Str) : PyData := .tuple [.str z, .tuple (ys.map PyData.str), .tuple (ns.map PyData.str)]
/-- what adding is due to say: of the sample with letters z, words ys and ns -/
def AddDue (z : Str) (yw nw : List Str) (b : Bool) (ds : List PyData) (r : PyData) : Prop :=
  (∃ i, Fst (wrongWord z ds) ds.length (some i) ∧ r = .tuple [.str "word", .str (ds.getD i .none).shown, .bool true]) ∨
  (Fst (wrongWord z ds) ds.length none ∧ ∃ i w, (ds.map txt)[i]? = some w ∧ (w ∈ yw ++ nw ∨ w ∈ (ds.map txt).take i) ∧ NewTo (yw ++ nw) (ds.map txt) i ∧ r = .tuple [.str "twice", .str (PyData.str w).shown, .bool true]) ∨
  (Fst (wrongWord z ds) ds.length none ∧ NewTo (yw ++ nw) (ds.map txt) ds.length ∧ ∃ ys ns, ys.Pairwise ltW ∧ ns.Pairwise ltW ∧ (∀ w, w ∈ ys ↔ w ∈ yw ∨ b = true ∧ w ∈ ds.map txt) ∧ (∀ w, w ∈ ns ↔ w ∈ nw ∨ b = false ∧ w ∈ ds.map txt) ∧ r = plnD z ys ns)
def LeftDue (z : Str) (yw nw : List Str) (ds : List PyData) (r : PyData) : Prop :=
  (∃ i, Fst (leftOk (yw ++ nw) ds) ds.length (some i) ∧ r = .tuple [.str "unknown", .str (ds.getD i .none).shown, .bool true]) ∨
  (Fst (leftOk (yw ++ nw) ds) ds.length none ∧ ∃ ys ns, ys.Pairwise ltW ∧ ns.Pairwise ltW ∧ (∀ w, w ∈ ys ↔ w ∈ yw ∧ w ∉ ds.map txt) ∧ (∀ w, w ∈ ns ↔ w ∈ nw ∧ w ∉ ds.map txt) ∧ r = plnD z ys ns)
/-- a value that can be shown -/
structure Shn (d : PyData) : Prop where
  s : d.showable = true
  dp : d.depth ≤ 60
  sz : d.shown.length ≤ 1000
  sm : ∀ w, d = .str w → w.length < 1000000 ∧ PyData.strOk w = true
  ok : PyData.strOk d.shown = true
def spAddedL (K : PySem.W.Frag) (Tt : List (Addr × Str)) (C : Addr) : Sp := fun vs H Q _ => ∃ (p : SamP) (s : Sam) (t : Addr) (b : Bool) (xs : List V) (ds : List PyData), vs = [.ref p.a, .ref t, .bl b] ∧ SamAt C H p s ∧ SamG s ∧ SqL K H t xs ∧ DqAll K H xs ds ∧ ds.length ≤ 3 ∧
  (∀ e ∈ ds, Shn e) ∧ s.ys.length + s.ns.length ≤ 40 ∧ LamX.Tabs Tt H ∧ ∀ (v : V) (r : PyData) (H' : Hp), LamX.ExtN H H' → LamX.Tabs Tt H' → AddDue s.z s.ys s.ns b ds r → Dq K H' v r → Q v H'
def spLeftL (K : PySem.W.Frag) (Tt : List (Addr × Str)) (C : Addr) : Sp := fun vs H Q _ => ∃ (p : SamP) (s : Sam) (t : Addr) (xs : List V) (ds : List PyData), vs = [.ref p.a, .ref t] ∧ SamAt C H p s ∧ SamG s ∧ SqL K H t xs ∧ DqAll K H xs ds ∧ ds.length ≤ 3 ∧
  (∀ e ∈ ds, Shn e) ∧ s.ys.length + s.ns.length ≤ 40 ∧ LamX.Tabs Tt H ∧ ∀ (v : V) (r : PyData) (H' : Hp), LamX.ExtN H H' → LamX.Tabs Tt H' → LeftDue s.z s.ys s.ns ds r → Dq K H' v r → Q v H'
theorem SamAt.ext {C : Addr} {H H' : Hp} {p : SamP} {s : Sam} (h : SamAt C H p s) (e : LamX.ExtN H H') : SamAt C H' p s := ⟨e _ _ h.ob nofun, e _ _ h.dk nofun, e _ _ h.ys nofun, e _ _ h.ns nofun, e _ _ h.ps nofun⟩
theorem three {K : PySem.W.Frag} {H : Hp} {xs : List V} {ds : List PyData} (h : DqAll K H xs ds) (l : ds.length ≤ 3) : xs = [] ∨ (∃ x0, xs = [x0]) ∨ (∃ x0 x1, xs = [x0, x1]) ∨ ∃ x0 x1 x2, xs = [x0, x1, x2] := by
  match xs, ds, h, l with
  | [], [], _, _ => exact .inl rfl
  | [a], [_], _, _ => exact .inr (.inl ⟨a, rfl⟩)
  | [a, b], [_, _], _, _ => exact .inr (.inr (.inl ⟨a, b, rfl⟩))
  | [a, b, c], [_, _, _], _, _ => exact .inr (.inr (.inr ⟨a, b, c, rfl⟩))
  | _ :: _ :: _ :: _ :: _, _ :: _ :: _ :: _ :: _, _, l => exact absurd l (by simp)
theorem ite_lenT {i j : Int} {A B : Prop} (h : (i == j) = true) (a : A) : if decide (V.int i = V.int j) = true then A else B := by
  rw [dec_int, h]
  exact iteT a
theorem ite_lenF {i j : Int} {A B : Prop} (h : (i == j) = false) (b : B) : if decide (V.int i = V.int j) = true then A else B := by
  rw [dec_int, h]
  exact iteF b
section
variable {P : Program} {w : World} {K : PySem.W.Frag} {mg : Str → Option Value} {base : Heap} {f : Addr} {fd : FuncData}
/-- adding of these values, each outcome told to the law's own def -/
theorem adding_told {Tt : List (Addr × Str)} {CW CD CU C : Addr} {H H1 : Hp} {p : SamP} {s : Sam} {b : Bool} {t : Addr} {xs : List V} {ds : List PyData} {Q Qc : VK} (at_ : SamAt C H p s) (g : SamG s) (hd : DqAll K H xs ds) (l3 : ds.length ≤ 3) (sh : ∀ e ∈ ds, Shn e) (few : s.ys.length + s.ns.length ≤ 40)
    (k : ∀ (v : V) (r : PyData) (H' : Hp), LamX.ExtN H H' → LamX.Tabs Tt H' → AddDue s.z s.ys s.ns b ds r → Dq K H' v r → Q v H') (e01 : LamX.ExtN H H1) (T1 : LamX.Tabs Tt H1)
    (back : ∀ (p : SamP) (s : Sam) (H1 : Hp), SamAt C H1 p s → (∀ (u : V) (H2 : Hp), Same H1 H2 → Dq K H2 u (samD s) → Q u H2) → Qc (.ref p.a) H1) (ht : H1 t = none) :
    spAdding K CW CD C [.ref p.a, .bl b, .ref t] (upd H1 t (.tup xs)) Qc (ErrS K CW CD CU Q) := by
  have s1 : Same H1 (upd H1 t (.tup xs)) := sm1 ht
  have e02 : LamX.ExtN H (upd H1 t (.tup xs)) := ext_same e01 s1
  have st : Sty K H (upd H1 t (.tup xs)) := ext_sty e02
  refine ⟨p, s, b, t, xs, ds, rfl, at_.ext e02, g, SqT.of upd_same, st.dqAll hd, fun e he w ew => ((sh e he).sm w ew).1, by omega, fun i fst x dd H2 s2 hx nd ed => ?_, fun fst => ⟨fun i w hw tw new dd H2 s2 nd ed => ?_, fun new p' s' H2 s2 _ at2 g2 ez ey en => ?_⟩⟩
  · have il := fst.1
    have m : ds.getD i .none ∈ ds := by
      rw [List.getD_eq_getElem?_getD, List.getElem?_eq_getElem il]
      exact List.getElem_mem il
    have q := sh _ m
    exact ⟨"word", dd, x, _, .inl ⟨rfl, rfl⟩, rfl, ed, hx, q.s, q.dp, Nat.le_trans q.sz (by decide), fun u H3 s3 hu => k u _ H3 (ext_same e02 (s2.trans s3)) (tabs_same T1 (s1.trans (s2.trans s3))) (.inl ⟨i, fst, rfl⟩) hu⟩
  · obtain ⟨d, hdi, rfl⟩ := Option.map_eq_some_iff.mp (show (ds[i]?).map txt = some w by rw [← List.getElem?_map]; exact hw)
    obtain ⟨il, ed2⟩ := List.getElem?_eq_some_iff.mp hdi
    have q := sh d (ed2 ▸ List.getElem_mem il)
    have isw : wordOk s.z 12 d = true := by
      have := fst i il
      unfold wrongWord at this
      rw [List.getD_eq_getElem?_getD, hdi] at this
      exact this
    obtain ⟨u, rfl⟩ : ∃ u, d = .str u := by
      unfold wordOk at isw
      cases d <;> first | exact ⟨_, rfl⟩ | cases isw
    rw [g.ks] at tw new
    exact ⟨"twice", dd, .str u, .str u, .inr (.inl ⟨rfl, rfl⟩), rfl, ed, .str u, q.s, q.dp, Nat.le_trans q.sz (by decide), fun v H3 s3 hu => k v _ H3 (ext_same e02 (s2.trans s3)) (tabs_same T1 (s1.trans (s2.trans s3))) (.inr (.inl ⟨fst, i, u, hw, tw, new, rfl⟩)) hu⟩
  · rw [g.ks] at new
    exact back p' s' H2 at2 fun u H3 s3 hu => k u _ H3 (ext_same e02 (s2.trans s3)) (tabs_same T1 (s1.trans (s2.trans s3))) (.inr (.inr ⟨fst, new, s'.ys, s'.ns, g2.sy, g2.sn, ey, en, by rw [← ez]; rfl⟩)) hu
theorem ok_added {Tt : List (Addr × Str)} {CW CD CU C c PA : Addr} (F : FunL K "_law_added" "_law_added" s_law_added f fd c) (T : Txt K mg) (Dc : Cau P w K mg base 7 "_law_caught" "call" (TTs K CW CD CU C)) (sc : SmC K C) (M_adding : MtK P w K mg base (L2.CX P w) 8 C "adding" ["mark"] (spAddK K CW CD C))
    (TB : LamX.TabB base mg c PA) (hmT : (PA, ("_law_added.<locals>.<lambda>" : Str)) ∈ Tt) (hu : uniqB Tt = true) : FnG P w K mg base CX0 11 f fd ["sample", "words", "given"] (spAddedL K Tt C) := by
  refine FnG.plainL F sc_law_added (fun {vs H Q E} h => ?_) (fun A outer s H vs Q E hq hr h => ?_)
  · obtain ⟨p, sm, t, b, xs, ds, rfl, _⟩ := h
    rfl
  · obtain ⟨p, sm, t, b, xs, ds, rfl, at_, g, ht, hd, l3, sh, few, tabs, k⟩ := h
    refine ⟨_, (pss_cons (ps_if (pt_cmpR op_eq (pe_callB call_len_seq (by rfl) T.z_len PySem.boot_len (pa_cons (pv 1) pa_nil)) (pe_int) (nomark _)) (pss_one (ps_ret (pe_lamG Dc hq (hr.mono (by decide)) (hr.mono (by decide)) (j := 8) (hr.mono (by decide)) TB hmT hu (fun A outer s H E f c' hr => pe_mtK0 M_adding sc.cl hr (passes_call (takes_of rfl rfl rfl rfl) (fun _ _ _ _ h => h)) (pv 0) (pk_cons (pv 2) pk_nil))))) pss_nil)
  (pss_cons (ps_if (pt_cmpR op_eq (pe_callB call_len_seq (by rfl) T.z_len PySem.boot_len (pa_cons (pv 1) pa_nil)) (pe_int) (nomark _)) (pss_one (ps_ret (pe_lamG Dc hq (hr.mono (by decide)) (hr.mono (by decide)) (j := 8) (hr.mono (by decide)) TB hmT hu (fun A outer s H E f c' hr => pe_mtK M_adding sc.cl hr (passes_call (takes_of rfl rfl rfl rfl) (fun _ _ _ _ h => h)) (pv 0) (pa_cons (pe_ix (show IxR _ (rIxL K) from ix_list) (pv 1) (pe_int) (fun _ _ => rfl)) pa_nil) (pk_cons (pv 2) pk_nil))))) pss_nil)
  (pss_cons (ps_if (pt_cmpR op_eq (pe_callB call_len_seq (by rfl) T.z_len PySem.boot_len (pa_cons (pv 1) pa_nil)) (pe_int) (nomark _)) (pss_one (ps_ret (pe_lamG Dc hq (hr.mono (by decide)) (hr.mono (by decide)) (j := 8) (hr.mono (by decide)) TB hmT hu (fun A outer s H E f c' hr => pe_mtK M_adding sc.cl hr (passes_call (takes_of rfl rfl rfl rfl) (fun _ _ _ _ h => h)) (pv 0) (pa_cons (pe_ix (show IxR _ (rIxL K) from ix_list) (pv 1) (pe_int) (fun _ _ => rfl)) (pa_cons (pe_ix (show IxR _ (rIxL K) from ix_list) (pv 1) (pe_int) (fun _ _ => rfl)) pa_nil)) (pk_cons (pv 2) pk_nil))))) pss_nil)
  (pss_one (ps_ret (pe_lamG Dc hq (hr.mono (by decide)) (hr.mono (by decide)) (j := 8) (hr.mono (by decide)) TB hmT hu (fun A outer s H E f c' hr => pe_mtK M_adding sc.cl hr (passes_call (takes_of rfl rfl rfl rfl) (fun _ _ _ _ h => h)) (pv 0) (pa_cons (pe_ix (show IxR _ (rIxL K) from ix_list) (pv 1) (pe_int) (fun _ _ => rfl)) (pa_cons (pe_ix (show IxR _ (rIxL K) from ix_list) (pv 1) (pe_int) (fun _ _ => rfl)) (pa_cons (pe_ix (show IxR _ (rIxL K) from ix_list) (pv 1) (pe_int) (fun _ _ => rfl)) pa_nil))) (pk_cons (pv 2) pk_nil)))))))), ?_⟩
    have fin : ∀ {H1 : Hp} {Qc : VK}, LamX.ExtN H H1 → LamX.Tabs Tt H1 → (∀ (p : SamP) (s : Sam) (H1 : Hp), SamAt C H1 p s → (∀ (u : V) (H2 : Hp), Same H1 H2 → Dq K H2 u (samD s) → Q u H2) → Qc (.ref p.a) H1) → ∀ q, H1 q = none → spAdding K CW CD C [.ref p.a, .bl b, .ref q] (upd H1 q (.tup xs)) Qc (ErrS K CW CD CU Q) := fun e01 T1 back q hq => adding_told (Tt := Tt) at_ g hd l3 sh few k e01 T1 back hq
    have at1 : ∀ {H1 : Hp}, LamX.ExtN H H1 → SqL K H1 t xs := fun e01 => (ext_sty (K := K) e01).l _ _ ht
    rcases three hd l3 with rfl | ⟨x0, rfl⟩ | ⟨x0, x1, rfl⟩ | ⟨x0, x1, x2, rfl⟩
    · refine ⟨_, rfl, t, [], rfl, .inl ht, rfl, _, rfl, ite_lenT rfl ?_⟩
      exact ⟨tabs, fun H1 e01 T1 Qc back => ⟨_, rfl, p.a, p.dx, _, rfl, (at_.ext e01).ob, rfl, _, rfl, rfl, _, _, [], rfl, rfl, Nat.le_of_lt (small1000000 (Nat.lt_of_le_of_lt (Nat.le_of_ble_eq_true rfl : _ ≤ 3) (by decide))), fun q hq => fin e01 T1 back q hq⟩⟩
    · refine ⟨_, rfl, t, [x0], rfl, .inl ht, rfl, _, rfl, ite_lenF rfl ?_⟩
      refine ⟨_, rfl, t, [x0], rfl, .inl ht, rfl, _, rfl, ite_lenT rfl ?_⟩
      exact ⟨tabs, fun H1 e01 T1 Qc back => ⟨_, rfl, p.a, p.dx, _, rfl, (at_.ext e01).ob, rfl, _, rfl, t, [x0], 0, x0, rfl, rfl, at1 e01, rfl, _, rfl, rfl, _, _, [x0], rfl, rfl, Nat.le_of_lt (small1000000 (Nat.lt_of_le_of_lt (Nat.le_of_ble_eq_true rfl : _ ≤ 3) (by decide))), fun q hq => fin e01 T1 back q hq⟩⟩
    · refine ⟨_, rfl, t, [x0, x1], rfl, .inl ht, rfl, _, rfl, ite_lenF rfl ?_⟩
      refine ⟨_, rfl, t, [x0, x1], rfl, .inl ht, rfl, _, rfl, ite_lenF rfl ?_⟩
      refine ⟨_, rfl, t, [x0, x1], rfl, .inl ht, rfl, _, rfl, ite_lenT rfl ?_⟩
      exact ⟨tabs, fun H1 e01 T1 Qc back => ⟨_, rfl, p.a, p.dx, _, rfl, (at_.ext e01).ob, rfl, _, rfl, t, [x0, x1], 0, x0, rfl, rfl, at1 e01, rfl, _, rfl, t, [x0, x1], 1, x1, rfl, rfl, at1 e01, rfl, _, rfl, rfl, _, _, [x0, x1], rfl, rfl, Nat.le_of_lt (small1000000 (Nat.lt_of_le_of_lt (Nat.le_of_ble_eq_true rfl : _ ≤ 3) (by decide))), fun q hq => fin e01 T1 back q hq⟩⟩
    · refine ⟨_, rfl, t, [x0, x1, x2], rfl, .inl ht, rfl, _, rfl, ite_lenF rfl ?_⟩
      refine ⟨_, rfl, t, [x0, x1, x2], rfl, .inl ht, rfl, _, rfl, ite_lenF rfl ?_⟩
      refine ⟨_, rfl, t, [x0, x1, x2], rfl, .inl ht, rfl, _, rfl, ite_lenF rfl ?_⟩
      exact ⟨tabs, fun H1 e01 T1 Qc back => ⟨_, rfl, p.a, p.dx, _, rfl, (at_.ext e01).ob, rfl, _, rfl, t, [x0, x1, x2], 0, x0, rfl, rfl, at1 e01, rfl, _, rfl, t, [x0, x1, x2], 1, x1, rfl, rfl, at1 e01, rfl, _, rfl, t, [x0, x1, x2], 2, x2, rfl, rfl, at1 e01, rfl, _, rfl, rfl, _, _, [x0, x1, x2], rfl, rfl, Nat.le_of_lt (small1000000 (Nat.lt_of_le_of_lt (Nat.le_of_ble_eq_true rfl : _ ≤ 3) (by decide))), fun q hq => fin e01 T1 back q hq⟩⟩
/-- without of these values, each outcome told to the law's own def -/
theorem without_told {Tt : List (Addr × Str)} {CW CD CU C : Addr} {H H1 : Hp} {p : SamP} {s : Sam} {t : Addr} {xs : List V} {ds : List PyData} {Q Qc : VK} (at_ : SamAt C H p s) (g : SamG s) (hd : DqAll K H xs ds) (l3 : ds.length ≤ 3) (sh : ∀ e ∈ ds, Shn e) (few : s.ys.length + s.ns.length ≤ 40)
    (k : ∀ (v : V) (r : PyData) (H' : Hp), LamX.ExtN H H' → LamX.Tabs Tt H' → LeftDue s.z s.ys s.ns ds r → Dq K H' v r → Q v H') (e01 : LamX.ExtN H H1) (T1 : LamX.Tabs Tt H1)
    (back : ∀ (p : SamP) (s : Sam) (H1 : Hp), SamAt C H1 p s → (∀ (u : V) (H2 : Hp), Same H1 H2 → Dq K H2 u (samD s) → Q u H2) → Qc (.ref p.a) H1) (ht : H1 t = none) :
    spWithout K CU C [.ref p.a, .ref t] (upd H1 t (.tup xs)) Qc (ErrS K CW CD CU Q) := by
  have s1 : Same H1 (upd H1 t (.tup xs)) := sm1 ht
  have e02 : LamX.ExtN H (upd H1 t (.tup xs)) := ext_same e01 s1
  have st : Sty K H (upd H1 t (.tup xs)) := ext_sty e02
  refine ⟨p, s, t, xs, ds, rfl, at_.ext e02, g, SqT.of upd_same, st.dqAll hd, by omega, by omega, fun i fst x dd H2 s2 hx nd ed => ?_, fun fst p' s' H2 s2 _ at2 g2 ez ey en => ?_⟩
  · have il := fst.1
    have m : ds.getD i .none ∈ ds := by
      rw [List.getD_eq_getElem?_getD, List.getElem?_eq_getElem il]
      exact List.getElem_mem il
    have q := sh _ m
    rw [g.ks] at fst
    exact ⟨"unknown", dd, x, _, .inr (.inr ⟨rfl, rfl⟩), rfl, ed, hx, q.s, q.dp, Nat.le_trans q.sz (by decide), fun u H3 s3 hu => k u _ H3 (ext_same e02 (s2.trans s3)) (tabs_same T1 (s1.trans (s2.trans s3))) (.inl ⟨i, fst, rfl⟩) hu⟩
  · rw [g.ks] at fst
    exact back p' s' H2 at2 fun u H3 s3 hu => k u _ H3 (ext_same e02 (s2.trans s3)) (tabs_same T1 (s1.trans (s2.trans s3))) (.inr ⟨fst, s'.ys, s'.ns, g2.sy, g2.sn, ey, en, by rw [← ez]; rfl⟩) hu
theorem ok_left {Tt : List (Addr × Str)} {CW CD CU C c PA : Addr} (F : FunL K "_law_left" "_law_left" s_law_left f fd c) (T : Txt K mg) (Dc : Cau P w K mg base 7 "_law_caught" "call" (TTs K CW CD CU C)) (sc : SmC K C) (M_without : MtR P w K mg base (L2.CX P w) 8 C "without" (spWoR K CU C))
    (TB : LamX.TabB base mg c PA) (hmT : (PA, ("_law_left.<locals>.<lambda>" : Str)) ∈ Tt) (hu : uniqB Tt = true) : FnG P w K mg base CX0 11 f fd ["sample", "words"] (spLeftL K Tt C) := by
  refine FnG.plainL F sc_law_left (fun {vs H Q E} h => ?_) (fun A outer s H vs Q E hq hr h => ?_)
  · obtain ⟨p, sm, t, xs, ds, rfl, _⟩ := h
    rfl
  · obtain ⟨p, sm, t, xs, ds, rfl, at_, g, ht, hd, l3, sh, few, tabs, k⟩ := h
    refine ⟨_, (pss_cons (ps_if (pt_cmpR op_eq (pe_callB call_len_seq (by rfl) T.z_len PySem.boot_len (pa_cons (pv 1) pa_nil)) (pe_int) (nomark _)) (pss_one (ps_ret (pe_lamG Dc hq (hr.mono (by decide)) (hr.mono (by decide)) (j := 8) (hr.mono (by decide)) TB hmT hu (fun A outer s H E f c' hr => pe_mtR0 M_without sc.cl hr (passes_call (takes_of rfl rfl rfl rfl) (fun _ _ _ _ h => h)) (pv 0))))) pss_nil)
  (pss_cons (ps_if (pt_cmpR op_eq (pe_callB call_len_seq (by rfl) T.z_len PySem.boot_len (pa_cons (pv 1) pa_nil)) (pe_int) (nomark _)) (pss_one (ps_ret (pe_lamG Dc hq (hr.mono (by decide)) (hr.mono (by decide)) (j := 8) (hr.mono (by decide)) TB hmT hu (fun A outer s H E f c' hr => pe_mtR M_without sc.cl hr (passes_call (takes_of rfl rfl rfl rfl) (fun _ _ _ _ h => h)) (pv 0) (pa_cons (pe_ix (show IxR _ (rIxL K) from ix_list) (pv 1) (pe_int) (fun _ _ => rfl)) pa_nil))))) pss_nil)
  (pss_cons (ps_if (pt_cmpR op_eq (pe_callB call_len_seq (by rfl) T.z_len PySem.boot_len (pa_cons (pv 1) pa_nil)) (pe_int) (nomark _)) (pss_one (ps_ret (pe_lamG Dc hq (hr.mono (by decide)) (hr.mono (by decide)) (j := 8) (hr.mono (by decide)) TB hmT hu (fun A outer s H E f c' hr => pe_mtR M_without sc.cl hr (passes_call (takes_of rfl rfl rfl rfl) (fun _ _ _ _ h => h)) (pv 0) (pa_cons (pe_ix (show IxR _ (rIxL K) from ix_list) (pv 1) (pe_int) (fun _ _ => rfl)) (pa_cons (pe_ix (show IxR _ (rIxL K) from ix_list) (pv 1) (pe_int) (fun _ _ => rfl)) pa_nil)))))) pss_nil)
  (pss_one (ps_ret (pe_lamG Dc hq (hr.mono (by decide)) (hr.mono (by decide)) (j := 8) (hr.mono (by decide)) TB hmT hu (fun A outer s H E f c' hr => pe_mtR M_without sc.cl hr (passes_call (takes_of rfl rfl rfl rfl) (fun _ _ _ _ h => h)) (pv 0) (pa_cons (pe_ix (show IxR _ (rIxL K) from ix_list) (pv 1) (pe_int) (fun _ _ => rfl)) (pa_cons (pe_ix (show IxR _ (rIxL K) from ix_list) (pv 1) (pe_int) (fun _ _ => rfl)) (pa_cons (pe_ix (show IxR _ (rIxL K) from ix_list) (pv 1) (pe_int) (fun _ _ => rfl)) pa_nil)))))))))), ?_⟩
    have fin : ∀ {H1 : Hp} {Qc : VK}, LamX.ExtN H H1 → LamX.Tabs Tt H1 → (∀ (p : SamP) (s : Sam) (H1 : Hp), SamAt C H1 p s → (∀ (u : V) (H2 : Hp), Same H1 H2 → Dq K H2 u (samD s) → Q u H2) → Qc (.ref p.a) H1) → ∀ q, H1 q = none → spWithout K CU C [.ref p.a, .ref q] (upd H1 q (.tup xs)) Qc (ErrS K CW CD CU Q) := fun e01 T1 back q hq => without_told (Tt := Tt) at_ g hd l3 sh few k e01 T1 back hq
    have at1 : ∀ {H1 : Hp}, LamX.ExtN H H1 → SqL K H1 t xs := fun e01 => (ext_sty (K := K) e01).l _ _ ht
    rcases three hd l3 with rfl | ⟨x0, rfl⟩ | ⟨x0, x1, rfl⟩ | ⟨x0, x1, x2, rfl⟩
    · refine ⟨_, rfl, t, [], rfl, .inl ht, rfl, _, rfl, ite_lenT rfl ?_⟩
      exact ⟨tabs, fun H1 e01 T1 Qc back => ⟨_, rfl, p.a, p.dx, _, rfl, (at_.ext e01).ob, rfl, [.ref p.a], [], rfl, rfl, Nat.le_of_lt (small1000000 (Nat.lt_of_le_of_lt (Nat.le_of_ble_eq_true rfl : _ ≤ 3) (by decide))), fun q hq => fin e01 T1 back q hq⟩⟩
    · refine ⟨_, rfl, t, [x0], rfl, .inl ht, rfl, _, rfl, ite_lenF rfl ?_⟩
      refine ⟨_, rfl, t, [x0], rfl, .inl ht, rfl, _, rfl, ite_lenT rfl ?_⟩
      exact ⟨tabs, fun H1 e01 T1 Qc back => ⟨_, rfl, p.a, p.dx, _, rfl, (at_.ext e01).ob, rfl, _, rfl, t, [x0], 0, x0, rfl, rfl, at1 e01, rfl, [.ref p.a], [x0], rfl, rfl, Nat.le_of_lt (small1000000 (Nat.lt_of_le_of_lt (Nat.le_of_ble_eq_true rfl : _ ≤ 3) (by decide))), fun q hq => fin e01 T1 back q hq⟩⟩
    · refine ⟨_, rfl, t, [x0, x1], rfl, .inl ht, rfl, _, rfl, ite_lenF rfl ?_⟩
      refine ⟨_, rfl, t, [x0, x1], rfl, .inl ht, rfl, _, rfl, ite_lenF rfl ?_⟩
      refine ⟨_, rfl, t, [x0, x1], rfl, .inl ht, rfl, _, rfl, ite_lenT rfl ?_⟩
      exact ⟨tabs, fun H1 e01 T1 Qc back => ⟨_, rfl, p.a, p.dx, _, rfl, (at_.ext e01).ob, rfl, _, rfl, t, [x0, x1], 0, x0, rfl, rfl, at1 e01, rfl, _, rfl, t, [x0, x1], 1, x1, rfl, rfl, at1 e01, rfl, [.ref p.a], [x0, x1], rfl, rfl, Nat.le_of_lt (small1000000 (Nat.lt_of_le_of_lt (Nat.le_of_ble_eq_true rfl : _ ≤ 3) (by decide))), fun q hq => fin e01 T1 back q hq⟩⟩
    · refine ⟨_, rfl, t, [x0, x1, x2], rfl, .inl ht, rfl, _, rfl, ite_lenF rfl ?_⟩
      refine ⟨_, rfl, t, [x0, x1, x2], rfl, .inl ht, rfl, _, rfl, ite_lenF rfl ?_⟩
      refine ⟨_, rfl, t, [x0, x1, x2], rfl, .inl ht, rfl, _, rfl, ite_lenF rfl ?_⟩
      exact ⟨tabs, fun H1 e01 T1 Qc back => ⟨_, rfl, p.a, p.dx, _, rfl, (at_.ext e01).ob, rfl, _, rfl, t, [x0, x1, x2], 0, x0, rfl, rfl, at1 e01, rfl, _, rfl, t, [x0, x1, x2], 1, x1, rfl, rfl, at1 e01, rfl, _, rfl, t, [x0, x1, x2], 2, x2, rfl, rfl, at1 e01, rfl, [.ref p.a], [x0, x1, x2], rfl, rfl, Nat.le_of_lt (small1000000 (Nat.lt_of_le_of_lt (Nat.le_of_ble_eq_true rfl : _ ≤ 3) (by decide))), fun q hq => fin e01 T1 back q hq⟩⟩
end
end Wf
namespace Wf
open PySem PySem.Spec PyProof.Rows L2
abbrev s_law_added_due : Stmt := top 55
abbrev N_law_added_due : List Str := ["raw", "words", "given", "wrong", "word", "at", "yes", "no"]
theorem sc_law_added_due : FnScope N_law_added_due ["raw", "words", "given"] (defScope s_law_added_due) := ⟨rfl, rfl, rfl, by decide +kernel, rfl, by decide +kernel, by decide +kernel⟩
theorem cutV_to {xs : List V} {i : Nat} : cutV xs none (some (i : Nat)) = xs.take i := by
  unfold cutV
  rw [HT.sIx_nat]
  show (xs.drop 0).take (min i xs.length - 0) = xs.take i
  rw [List.drop_zero, Nat.sub_zero, List.take_eq_take_iff]
  omega
theorem rep_if {α : Type} {xs : List α} : ∀ b : Bool, (List.replicate (if b = true then (1 : Int) else 0).toNat xs).flatten = if b = true then xs else []
  | true => by
    show (List.replicate 1 xs).flatten = xs
    simp
  | false => by
    show (List.replicate 0 xs).flatten = []
    rfl
theorem fst_none_of {p : Nat → Bool} {n : Nat} (h : (List.range n).filter (fun j => !p j) = []) : Fst p n none := fun j hj => by
  have := List.filter_eq_nil_iff.mp h j (List.mem_range.mpr hj)
  simpa using this
theorem fst_some_of {p : Nat → Bool} : ∀ {n i : Nat} {r : List Nat}, (List.range n).filter (fun j => !p j) = i :: r → Fst p n (some i)
  | 0, _, _, h => by cases h
  | n + 1, i, r, h => by
    rw [List.range_succ, List.filter_append] at h
    cases e : (List.range n).filter (fun j => !p j) with
    | nil =>
      have a := fst_none_of e
      rw [e, List.nil_append, filter_oneW] at h
      cases q : p n with
      | true =>
        rw [q] at h
        cases h
      | false =>
        rw [q] at h
        have : n = i := (List.cons.inj h).1
        subst this
        exact ⟨Nat.lt_succ_self _, q, a⟩
    | cons j t =>
      rw [e, List.cons_append] at h
      have : j = i := (List.cons.inj h).1
      subst this
      have ⟨a, b, c⟩ := fst_some_of e
      exact ⟨Nat.lt_succ_of_lt a, b, c⟩
def spAddDue (K : PySem.W.Frag) : Sp := fun vs H Q _ => ∃ (rt t y o : Addr) (z : Str) (b : Bool) (yw nw : List Str) (xs : List V) (ds : List PyData), vs = [.ref rt, .ref t, .bl b] ∧ SqT K H rt [.str z, .ref y, .ref o] ∧ H y = some (.lst (yw.map V.str)) ∧ H o = some (.lst (nw.map V.str)) ∧
  H t = some (.lst xs) ∧ DqAll K H xs ds ∧ ds.length ≤ 3 ∧ (∀ e ∈ ds, Shn e) ∧ yw.length + nw.length ≤ 40 ∧ (∀ u ∈ yw, u.length ≤ 12) ∧ (∀ u ∈ nw, u.length ≤ 12) ∧ ∀ (v : V) (r : PyData) (H' : Hp), Same H H' → AddDue z yw nw b ds r → Dq K H' v r → Q v H'
section
variable {P : Program} {w : World} {K : PySem.W.Frag} {mg : Str → Option Value} {base : Heap} {f : Addr} {fd : FuncData}
theorem ok_added_due (F : Fun K "_law_added_due" "_law_added_due" s_law_added_due f fd) (T : Txt K mg) (MB : Mods base) (D_law_is_word : Dn P w K mg base 1 "_law_is_word" ["letters", "value"] (spIsW K)) (D_law_sorted : Dn P w K mg base 1 "_law_sorted" ["words"] (spSorted K)) :
    FnG P w K mg base CX0 2 f fd ["raw", "words", "given"] (spAddDue K) := by
  refine FnG.plain F sc_law_added_due (fun {vs H Q E} h => ?_) (fun cdv A outer s H vs Q E hq hr h => ?_)
  · obtain ⟨rt, t, y, o, z, b, yw, nw, xs, ds, rfl, _⟩ := h
    rfl
  · obtain ⟨rt, t, y, o, z, b, yw, nw, xs, ds, rfl, hrt, hy, ho, ht, hd, l3, sh, few, yl, nl, k⟩ := h
    refine ⟨_, (pss_cons (ps_setLc (i := 3) (own := [("word", 4)]) (g := gName 4) (by rfl) sc_law_added_due.nd rfl rfl (sw_true rfl rfl rfl (by decide +kernel)) (pi_list (pv 1)) (blkOk_by (own := [("word", 4)]) (N := N_law_added_due) (sc := defScope s_law_added_due) (by decide +kernel)) (fun _ _ _ _ _ => (pg_name (i := 4) sc_law_added_due.nd rfl (Or.inl rfl))) (fun _ _ _ _ _ => (pts_one (PW.pt (pw_or (pt_not (pt_val (pe_cl D_law_is_word (hr.mono (by decide)) (pa_cons (pe_ix (show IxR _ (rIxT K) from ix_tup) (pv 0) (pe_int) (fun _ _ => rfl)) (pa_cons (pv 4) pa_nil))))) (pw_or1 (pt_cmpR op_gt (pe_callB call_len_str (by rfl) T.z_len PySem.boot_len (pa_cons (pv 4) pa_nil)) (pe_int) (nomark _))))))) (fun _ _ _ _ _ => (pv 4)))
  (pss_cons (ps_if (pt_cmpR (op_neE hr.units) (pv 3) (pe_lst pa_nil) (nomark _)) (pss_one (ps_ret (pe_tup (pa_cons (pe_str) (pa_cons (pe_callB (cr_reprQ MB hq hr.units) (by rfl) T.z_repr (by decide +kernel) (pa_cons (pe_ix ix_list (pv 3) (pe_int) (fun _ _ => rfl)) pa_nil)) (pa_cons (pe_bl) pa_nil)))))) pss_nil)
  (pss_cons (ps_for PassesOwn.never rfl (pi_enum (by rfl) T.z_enumerate (pa_cons (pv 1) pa_nil)) (pg_tup (by rfl) (pgs_cons (pg_name (i := 5) sc_law_added_due.nd rfl (Or.inl rfl)) (pgs_cons (pg_name (i := 4) sc_law_added_due.nd rfl (Or.inl rfl)) pgs_nil)))
   (pss_one (ps_if (pt_cmpR (op_inT hr.units) (pv 4) (pe_op op_cat (pe_op op_cat (pe_ix ix_tup (pv 0) (pe_int) (fun _ _ => rfl)) (pe_ix ix_tup (pv 0) (pe_int) (fun _ _ => rfl))) (pe_slice sl_list (pv 1) po_none (po_some (pv 5)))) (by rfl)) (pss_one (ps_ret (pe_tup (pa_cons (pe_str) (pa_cons (pe_callB (cr_reprQ MB hq hr.units) (by rfl) T.z_repr (by decide +kernel) (pa_cons (pv 4) pa_nil)) (pa_cons (pe_bl) pa_nil)))))) pss_nil)))
  (pss_cons (ps_set (i := 6) sc_law_added_due.nd rfl (Or.inl rfl) (pe_op op_cat (pe_ix ix_tup (pv 0) (pe_int) (fun _ _ => rfl)) (pe_op op_rep (pv 1) (pe_callTy call_int1 (by rfl) T.z_int (by decide +kernel) (pa_cons (pv 2) pa_nil)))))
  (pss_cons (ps_set (i := 7) sc_law_added_due.nd rfl (Or.inl rfl) (pe_op op_cat (pe_ix ix_tup (pv 0) (pe_int) (fun _ _ => rfl)) (pe_op op_rep (pv 1) (pe_callTy call_int1 (by rfl) T.z_int (by decide +kernel) (pa_cons (pe_not (pv 2)) pa_nil)))))
  (pss_one (ps_ret (pe_tup (pa_cons (pe_ix ix_tup (pv 0) (pe_int) (fun _ _ => rfl)) (pa_cons (pe_callTy call_tuple_of (by rfl) T.z_tuple (by decide +kernel) (pa_cons (pe_cl D_law_sorted (hr.mono (by decide)) (pa_cons (pv 6) pa_nil)) pa_nil)) (pa_cons (pe_callTy call_tuple_of (by rfl) T.z_tuple (by decide +kernel) (pa_cons (pe_cl D_law_sorted (hr.mono (by decide)) (pa_cons (pv 7) pa_nil)) pa_nil)) pa_nil))))))))))), ?_⟩
    have hyK : ∀ {H' : Hp}, Same H H' → SqT K H' rt [.str z, .ref y, .ref o] := fun s => (Stay.of s).t _ _ hrt
    refine ⟨_, rfl, t, rfl, ⟨_, SqL.of ht⟩, fun D hD => ?_⟩
    refine lc_list (K := K) (a := t) (xs := xs) (fun i H' => Same H H' ∧ H' D = some (.lst (((List.range i).filter fun j => !wrongWord z ds j).map fun j => xs.getD j .non))) ⟨sm1 hD, upd_same⟩ (fun i H' _ p => SqL.of (p.1 _ _ ht)) ?_ ?_
    · rintro i x H1 hi ⟨s1, hD1⟩
      obtain ⟨d, hdi, dx⟩ := hd.get hi
      have dx1 := (Sty.of (K := K) s1).dq dx
      have q := sh d (List.mem_of_getElem? hdi)
      have dg : ds.getD i .none = d := by rw [List.getD_eq_getElem?_getD, hdi]; rfl
      have xg : xs.getD i .non = x := by rw [List.getD_eq_getElem?_getD, hi]; rfl
      have wr : wrongWord z ds i = (isWord z d && decide (nL d ≤ 12)) := by unfold wrongWord wordOk; rw [dg]
      have add : ∀ {H2 : Hp}, Same H1 H2 → wrongWord z ds i = false → ∃ acc, H2 D = some (HO.lst acc) ∧ acc.length < sizeLine ∧ Same H (upd H2 D (HO.lst (acc ++ [x]))) ∧
          upd H2 D (HO.lst (acc ++ [x])) D = some (HO.lst (List.map (fun j => xs.getD j V.non) (List.filter (fun j => !wrongWord z ds j) (List.range (i + 1))))) := fun s2 e => by
        refine ⟨_, s2 _ _ hD1, small1000000 ?_, swr (s1.trans s2) hD, ?_⟩
        · rw [List.length_map]
          refine Nat.lt_of_le_of_lt (List.length_filter_le _ _) ?_
          rw [List.length_range]
          have := (List.getElem?_eq_some_iff.mp hi).1
          have := hd.len
          omega
        · rw [upd_same, List.range_succ, List.filter_append, List.map_append, filter_oneW, e]
          show _ = some (HO.lst (_ ++ [xs.getD i .non]))
          rw [xg]
      have leave : ∀ {H2 : Hp}, Same H1 H2 → wrongWord z ds i = true → Same H H2 ∧ H2 D = some (HO.lst (List.map (fun j => xs.getD j V.non) (List.filter (fun j => !wrongWord z ds j) (List.range (i + 1))))) := fun s2 e => by
        refine ⟨s1.trans s2, ?_⟩
        rw [s2 _ _ hD1, List.range_succ, List.filter_append, List.map_append, filter_oneW, e]
        show _ = some (HO.lst (_ ++ []))
        rw [List.append_nil]
      refine ⟨rfl, _, rfl, rt, _, 0, .str z, rfl, rfl, hyK s1, rfl, _, rfl, x, d, z, rfl, dx1, q.sm, fun H2 s2 => ⟨_, rfl, ?_⟩⟩
      show if (!isWord z d) = true then _ else _
      cases iw : isWord z d with
      | false => exact iteT (iteT ⟨_, rfl, add s2 (by rw [wr, iw]; rfl)⟩)
      | true =>
        obtain ⟨u, rfl⟩ : ∃ u, d = .str u := by cases d <;> first | exact ⟨_, rfl⟩ | cases iw
        cases dx
        refine iteF ⟨_, rfl, u, rfl, Nat.le_of_lt (small1000000 (q.sm u rfl).1), _, _, rfl, rfl, _, rfl, ?_⟩
        show if decide ((12 : Int) < (u.length : Int)) = true then _ else _
        rw [show decide ((12 : Int) < (u.length : Int)) = !decide (u.length ≤ 12) from by rw [← decide_not]; exact decide_eq_decide.mpr (by omega)]
        cases l12 : decide (u.length ≤ 12) with
        | true => exact iteF (leave s2 (by rw [wr, iw]; exact l12))
        | false => exact iteT ⟨_, rfl, add s2 (by rw [wr, iw]; exact l12)⟩
    rintro H1 ⟨s1, hD1⟩
    rw [hd.len] at hD1
    refine ⟨_, rfl, Nat.zero_le _, fun l hl => ?_⟩
    have s2 := sm1 (o := .lst []) hl
    have hD2 := s2 _ _ hD1
    refine ⟨D, l, _, rfl, rfl, SqL.of hD2, SqL.of upd_same, _, rfl, ?_⟩
    have s12 := s1.trans s2
    generalize upd H1 l (.lst []) = H2 at s12 hD2 ⊢
    cases e : (List.range ds.length).filter (fun j => !wrongWord z ds j) with
    | cons i0 rest =>
      have fst := fst_some_of e
      rw [e] at hD2
      obtain ⟨d, hdi⟩ : ∃ d, ds[i0]? = some d := ⟨_, List.getElem?_eq_getElem fst.1⟩
      obtain ⟨x, hx, dx⟩ := hd.at hdi
      have xg : xs.getD i0 .non = x := by rw [List.getD_eq_getElem?_getD, hx]; rfl
      have dg : ds.getD i0 .none = d := by rw [List.getD_eq_getElem?_getD, hdi]; rfl
      have q := sh d (List.mem_of_getElem? hdi)
      refine iteT ⟨_, rfl, D, _, 0, x, rfl, rfl, SqL.of hD2, by rw [List.map_cons, xg]; exact atI_nat (j := 0) rfl, x, d, rfl, (Sty.of (K := K) s12).dq dx, q.s, q.dp, Nat.le_trans q.sz (by decide), by show 3 ≤ sizeLine; decide, fun tt htt => ?_⟩
      exact k _ _ _ (s12.trans (sm1 htt)) (.inl ⟨i0, fst, by rw [dg]⟩) (.tup (SqT.of upd_same) (.cons (.str _) (.cons (.str _) (.cons (.bl _) .nil))))
    | nil =>
      have fst := fst_none_of e
      rw [e] at hD2
      refine iteF ?_
      obtain ⟨exs, okw⟩ := words_of_ok hd (fst_all fst)
      have lw : (ds.map txt).length = ds.length := List.length_map _
      have tx : ∀ (j : Nat) (u : Str), (ds.map txt)[j]? = some u → Shn (.str u) := fun j u hj => by
        have e1 : xs[j]? = some (V.str u) := by rw [exs, List.getElem?_map, hj]; rfl
        obtain ⟨d, hdj, dq⟩ := hd.get e1
        cases dq
        exact sh _ (List.mem_of_getElem? hdj)
      subst exs
      have k := fun (v : V) (r : PyData) (H' : Hp) (s : Same H H') (q) => k v r H' s (.inr q)
      have ht2 := s12 _ _ ht
      clear hd sh hD2 hD1 s1 s2 hl e
      refine ⟨_, rfl, t, _, rfl, SqL.of ht2, ?_⟩
      refine for_it (walk_enum (K := K) (a := t) (xs := (ds.map txt).map V.str)) (fun i σ H' => ∃ v4 v5 : Option V, σ = [some (.ref rt), some (.ref t), some (.bl b), some (.ref D), v4, v5, none, none] ∧ Same H H' ∧ NewTo (yw ++ nw) (ds.map txt) i) ⟨_, _, rfl, s12, fun j u hj => absurd hj (Nat.not_lt_zero j)⟩ (fun i σ H' _ ⟨_, _, _, s, _⟩ => SqL.of (s _ _ ht)) ?_ ?_
      · rintro i _ σ H3 _ hi ⟨v4, v5, rfl, s3, new⟩ ⟨T, _, x, rfl, hT, rfl, ei, hx⟩
        cases ei
        have s4 := sm1 (o := .tup [.int (i : Nat), x]) hT
        have tT : (upd H3 T (.tup [.int (i : Nat), x])) T = some (.tup [.int (i : Nat), x]) := upd_same
        generalize upd H3 T (.tup [.int (i : Nat), x]) = H4 at s4 tT ⊢
        have s34 := s3.trans s4
        obtain ⟨u, hu, rfl⟩ := Option.map_eq_some_iff.mp (show ((ds.map txt)[i]?).map V.str = some x by rw [← List.getElem?_map]; exact hx)
        refine ⟨T, _, rfl, SqT.of tT, rfl, ?_⟩
        refine ⟨_, _, rfl, _, _, rfl, rfl, ?_⟩
        refine ⟨_, rfl, _, rfl, rt, _, 1, .ref y, rfl, rfl, hyK s34, rfl, _, rfl, rt, _, 2, .ref o, rfl, rfl, hyK s34, rfl, y, o, _, _, rfl, rfl, s34 _ _ hy, s34 _ _ ho, ?_, fun p1 hp1 => ?_⟩
        · rw [List.length_map, List.length_map]
          exact Nat.le_of_lt (small1000000 (by omega))
        have s5 := sm1 (o := .lst (yw.map V.str ++ nw.map V.str)) hp1
        have e5 : (upd H4 p1 (.lst (yw.map V.str ++ nw.map V.str))) p1 = some (.lst (yw.map V.str ++ nw.map V.str)) := upd_same
        generalize upd H4 p1 (.lst (yw.map V.str ++ nw.map V.str)) = H5 at s5 e5 ⊢
        have s35 := s34.trans s5
        refine ⟨_, rfl, _, rfl, (i : Nat), rfl, t, _, rfl, SqL.of (s35 _ _ ht), fun p2 hp2 => ?_⟩
        rw [cutV_to]
        have s6 := sm1 (o := .lst (((ds.map txt).map V.str).take i)) hp2
        have e6 : (upd H5 p2 (.lst (((ds.map txt).map V.str).take i))) p2 = some (.lst (((ds.map txt).map V.str).take i)) := upd_same
        generalize upd H5 p2 (.lst (((ds.map txt).map V.str).take i)) = H6 at s6 e6 ⊢
        have s36 := s35.trans s6
        refine ⟨p1, p2, _, _, rfl, rfl, s6 _ _ e5, e6, ?_, fun p3 hp3 => ?_⟩
        · rw [List.length_append, List.length_map, List.length_map, List.length_take, List.length_map, List.length_map]
          exact Nat.le_of_lt (small1000000 (by omega))
        have s7 := sm1 (o := .lst (yw.map V.str ++ nw.map V.str ++ ((ds.map txt).map V.str).take i)) hp3
        have e7 : (upd H6 p3 (.lst (yw.map V.str ++ nw.map V.str ++ ((ds.map txt).map V.str).take i))) p3 = some (.lst ((yw ++ nw ++ (ds.map txt).take i).map V.str)) := by
          rw [upd_same, List.map_append, List.map_append, List.map_take]
        generalize upd H6 p3 (.lst (yw.map V.str ++ nw.map V.str ++ ((ds.map txt).map V.str).take i)) = H7 at s7 e7 ⊢
        have s37 := s36.trans s7
        refine ⟨p3, _, .str u, rfl, SqL.of e7, .str u, _, rfl, ?_⟩
        show if decide (u ∈ yw ++ nw ++ (ds.map txt).take i) = true then _ else _
        have iff : u ∈ yw ++ nw ++ (ds.map txt).take i ↔ u ∈ yw ++ nw ∨ u ∈ (ds.map txt).take i := List.mem_append
        have q := tx i u hu
        cases e : decide (u ∈ yw ++ nw ++ (ds.map txt).take i) with
        | true =>
          refine iteT ⟨_, rfl, .str u, .str u, rfl, .str u, q.s, q.dp, Nat.le_trans q.sz (by decide), by show 3 ≤ sizeLine; decide, fun tt htt => ?_⟩
          exact k _ _ _ (s37.trans (sm1 htt)) (.inl ⟨fst, i, u, hu, iff.mp (of_decide_eq_true e), new, rfl⟩) (.tup (SqT.of upd_same) (.cons (.str _) (.cons (.str _) (.cons (.bl _) .nil))))
        | false =>
          have no : ¬ (u ∈ yw ++ nw ∨ u ∈ (ds.map txt).take i) := fun z => of_decide_eq_false e (iff.mpr z)
          exact iteF ⟨_, _, rfl, s37, new.succ hu (fun z => no (.inl z)) (fun z => no (.inr z))⟩
      · rintro σ H3 ⟨v4, v5, rfl, s3, new⟩
        rw [List.length_map, lw] at new
        obtain ⟨W, hW⟩ : ∃ W : Bool → List Str, W = fun c => if c = true then ds.map txt else [] := ⟨_, rfl⟩
        have rp : ∀ c : Bool, (List.replicate (if c = true then (1 : Int) else 0).toNat ((ds.map txt).map V.str)).flatten = (W c).map V.str := fun c => by
          rw [rep_if, hW]
          cases c <;> rfl
        have wl : ∀ c, (W c).length ≤ 3 := fun c => by
          rw [hW]
          cases c
          · exact Nat.zero_le _
          · show (ds.map txt).length ≤ 3
            omega
        have wm : ∀ c u, u ∈ W c ↔ c = true ∧ u ∈ ds.map txt := fun c u => by
          rw [hW]
          cases c <;> simp
        have big : ∀ (c : Bool), (((ds.map txt).map V.str).length * (if c = true then (1 : Int) else 0).toNat) ≤ sizeLine := fun c => by
          refine Nat.le_of_lt (small1000000 ?_)
          rw [List.length_map, lw]
          cases c
          · show ds.length * 0 < _
            omega
          · show ds.length * 1 < _
            omega
        have lo : ∀ c : Bool, -(2 ^ 63) ≤ (if c = true then (1 : Int) else 0) ∧ (if c = true then (1 : Int) else 0) < 2 ^ 63 := fun c => by cases c <;> decide
        have sizes : ∀ (vs : List Str) (c : Bool), vs.length ≤ 40 → (vs.map V.str).length + ((W c).map V.str).length ≤ sizeLine := fun vs c h => by
          have := wl c
          rw [List.length_map, List.length_map]
          exact Nat.le_of_lt (small1000000 (by omega))
        clear hW
        -- yes
        refine ⟨_, rfl, rt, _, 1, .ref y, rfl, rfl, hyK s3, rfl, _, rfl, _, rfl, .inr ⟨b, rfl, t, _, _, rfl, rfl, s3 _ _ ht, (lo b).1, (lo b).2, big b, fun p1 hp1 => ?_⟩⟩
        rw [rp]
        have s4 := sm1 (o := .lst ((W b).map V.str)) hp1
        have e4 : (upd H3 p1 (.lst ((W b).map V.str))) p1 = some (.lst ((W b).map V.str)) := upd_same
        generalize upd H3 p1 (.lst ((W b).map V.str)) = H4 at s4 e4 ⊢
        have s34 := s3.trans s4
        refine ⟨y, p1, _, _, rfl, rfl, s34 _ _ hy, e4, sizes yw b (by omega), fun p2 hp2 => ?_⟩
        rw [← List.map_append]
        have s5 := sm1 (o := .lst ((yw ++ W b).map V.str)) hp2
        have e5 : (upd H4 p2 (.lst ((yw ++ W b).map V.str))) p2 = some (.lst ((yw ++ W b).map V.str)) := upd_same
        generalize upd H4 p2 (.lst ((yw ++ W b).map V.str)) = H5 at s5 e5 ⊢
        have s35 := s34.trans s5
        -- no
        refine ⟨_, rfl, rt, _, 2, .ref o, rfl, rfl, hyK s35, rfl, _, rfl, _, rfl, b, rfl, .inr ⟨!b, rfl, t, _, _, rfl, rfl, s35 _ _ ht, (lo _).1, (lo _).2, big _, fun p3 hp3 => ?_⟩⟩
        rw [rp]
        have s6 := sm1 (o := .lst ((W !b).map V.str)) hp3
        have e6 : (upd H5 p3 (.lst ((W !b).map V.str))) p3 = some (.lst ((W !b).map V.str)) := upd_same
        generalize upd H5 p3 (.lst ((W !b).map V.str)) = H6 at s6 e6 ⊢
        have s36 := s35.trans s6
        refine ⟨o, p3, _, _, rfl, rfl, s36 _ _ ho, e6, sizes nw _ (by omega), fun p4 hp4 => ?_⟩
        rw [← List.map_append]
        have s7 := sm1 (o := .lst ((nw ++ W !b).map V.str)) hp4
        have e7 : (upd H6 p4 (.lst ((nw ++ W !b).map V.str))) p4 = some (.lst ((nw ++ W !b).map V.str)) := upd_same
        generalize upd H6 p4 (.lst ((nw ++ W !b).map V.str)) = H7 at s7 e7 ⊢
        have s37 := s36.trans s7
        have dl : ∀ u ∈ ds.map txt, u.length ≤ 12 := fun u hu => (okw u hu).1
        have le : ∀ (vs : List Str) (c : Bool), (∀ u ∈ vs, u.length ≤ 12) → ∀ u ∈ vs ++ W c, u.length ≤ 1000 := fun vs c h u hu => by
          rcases List.mem_append.mp hu with m | m
          · have := h u m
            omega
          · have := dl u ((wm c u).mp m).2
            omega
        have l64 : ∀ (vs : List Str) (c : Bool), vs.length ≤ 40 → (vs ++ W c).length < 64 := fun vs c h => by
          have := wl c
          rw [List.length_append]
          omega
        -- sorted
        refine ⟨_, rfl, rt, _, 0, .str z, rfl, rfl, hyK s37, rfl, _, rfl, p2, yw ++ W b, rfl, SqL.of (s7 _ _ (s6 _ _ e5)), l64 yw b (by omega), le yw b yl, fun q1 ys H8 s8 nq1 hq1 so1 => ?_⟩
        have s38 := s37.trans s8
        refine ⟨q1, _, rfl, .inl ⟨SqL.of hq1, fun t1 nt1 => ?_⟩⟩
        have s9 := sm1 (o := .tup (ys.map V.str)) nt1
        have e9 : (upd H8 t1 (.tup (ys.map V.str))) t1 = some (.tup (ys.map V.str)) := upd_same
        generalize upd H8 t1 (.tup (ys.map V.str)) = H9 at s9 e9 ⊢
        refine ⟨_, rfl, p4, nw ++ W !b, rfl, SqL.of (s9 _ _ (s8 _ _ e7)), l64 nw _ (by omega), le nw _ nl, fun q2 ns H10 s10 nq2 hq2 so2 => ?_⟩
        refine ⟨q2, _, rfl, .inl ⟨SqL.of hq2, fun t2 nt2 => ?_⟩⟩
        have s11 := sm1 (o := .tup (ns.map V.str)) nt2
        have e11 : (upd H10 t2 (.tup (ns.map V.str))) t2 = some (.tup (ns.map V.str)) := upd_same
        generalize upd H10 t2 (.tup (ns.map V.str)) = H11 at s11 e11 ⊢
        refine ⟨by show 3 ≤ sizeLine; decide, fun tt htt => ?_⟩
        have s12' := sm1 (o := .tup [.str z, .ref t1, .ref t2]) htt
        have e91 : H11 t1 = some (.tup (ys.map V.str)) := s11 _ _ (s10 _ _ e9)
        refine k _ _ _ (((((s38.trans s9).trans s10).trans s11)).trans s12') (.inr ⟨fst, new, ys, ns, so1.ord, so2.ord, fun u => ?_, fun u => ?_, rfl⟩) (.tup (SqT.of upd_same) (.cons (.str _) (.cons (.tup (SqT.of (s12' _ _ e91)) dq_words) (.cons (.tup (SqT.of (s12' _ _ e11)) dq_words) .nil))))
        · rw [so1.mem, List.mem_append, wm]
        · rw [so2.mem, List.mem_append, wm]
          cases b <;> simp
end
end Wf
namespace Wf
open PySem PySem.Spec PyProof.Rows L2
abbrev s_law_left_due : Stmt := top 56
abbrev N_law_left_due : List Str := ["raw", "words", "at", "word", "yes"]
theorem sc_law_left_due : FnScope N_law_left_due ["raw", "words"] (defScope s_law_left_due) := ⟨rfl, rfl, rfl, by decide +kernel, rfl, by decide +kernel, by decide +kernel⟩
def spLeftDue (K : PySem.W.Frag) : Sp := fun vs H Q _ => ∃ (rt t y o : Addr) (z : Str) (yw nw : List Str) (xs : List V) (ds : List PyData), vs = [.ref rt, .ref t] ∧ SqT K H rt [.str z, .ref y, .ref o] ∧ H y = some (.lst (yw.map V.str)) ∧ H o = some (.lst (nw.map V.str)) ∧
  H t = some (.lst xs) ∧ DqAll K H xs ds ∧ ds.length ≤ 3 ∧ (∀ e ∈ ds, Shn e) ∧ yw.length + nw.length ≤ 40 ∧ yw.Pairwise ltW ∧ nw.Pairwise ltW ∧ ∀ (v : V) (r : PyData) (H' : Hp), Same H H' → LeftDue z yw nw ds r → Dq K H' v r → Q v H'
theorem texts_of {K : PySem.W.Frag} {H : Hp} : ∀ {xs : List V} {ds : List PyData}, DqAll K H xs ds → (∀ e ∈ ds, ∃ u, e = .str u) → xs = (ds.map txt).map V.str
  | _, _, .nil, _ => rfl
  | _, _, .cons h r, e => by
    obtain ⟨u, rfl⟩ := e _ List.mem_cons_self
    cases h
    rw [texts_of r fun d hd => e d (List.mem_cons_of_mem _ hd)]
    rfl
theorem leftOk_is {ks : List Str} {ds : List PyData} {i : Nat} {d : PyData} (h : ds[i]? = some d) : leftOk ks ds i = (isTx ks d && !isTx ((ds.take i).map txt) d) := by
  unfold leftOk
  rw [List.getD_eq_getElem?_getD, h]
  cases d <;> rfl
theorem leftOk_str {ks : List Str} {ds : List PyData} {i : Nat} {d : PyData} (h : ds[i]? = some d) (e : leftOk ks ds i = true) : ∃ u, d = .str u := by
  rw [leftOk_is h] at e
  cases d <;> first | exact ⟨_, rfl⟩ | cases e
theorem take_str {ks : List Str} {ds : List PyData} {i : Nat} (h : ∀ j, j < i → leftOk ks ds j = true) : ∀ e ∈ ds.take i, ∃ u, e = .str u := fun e he => by
  obtain ⟨j, hj, rfl⟩ := List.mem_take_iff_getElem.mp he
  exact leftOk_str (List.getElem?_eq_getElem (by omega)) (h j (by omega))
section
variable {P : Program} {w : World} {K : PySem.W.Frag} {mg : Str → Option Value} {base : Heap} {f : Addr} {fd : FuncData}
theorem ok_left_due (F : Fun K "_law_left_due" "_law_left_due" s_law_left_due f fd) (T : Txt K mg) (MB : Mods base) :
    FnG P w K mg base CX0 1 f fd ["raw", "words"] (spLeftDue K) := by
  refine FnG.plain F sc_law_left_due (fun {vs H Q E} h => ?_) (fun cdv A outer s H vs Q E hq hr h => ?_)
  · obtain ⟨rt, t, y, o, z, yw, nw, xs, ds, rfl, _⟩ := h
    rfl
  · obtain ⟨rt, t, y, o, z, yw, nw, xs, ds, rfl, hrt, hy, ho, ht, hd, l3, sh, few, yo, no, k⟩ := h
    refine ⟨_, (pss_cons (ps_for PassesOwn.never rfl (pi_enum (by rfl) T.z_enumerate (pa_cons (pv 1) pa_nil)) (pg_tup (by rfl) (pgs_cons (pg_name (i := 2) sc_law_left_due.nd rfl (Or.inl rfl)) (pgs_cons (pg_name (i := 3) sc_law_left_due.nd rfl (Or.inl rfl)) pgs_nil)))
   (pss_one (ps_if (PW.pt (pw_or (pt_cmpR (op_notInT hr.units) (pv 3) (pe_op op_cat (pe_ix ix_tup (pv 0) (pe_int) (fun _ _ => rfl)) (pe_ix ix_tup (pv 0) (pe_int) (fun _ _ => rfl))) (by rfl)) (pw_or1 (pt_cmpR (op_inT hr.units) (pv 3) (pe_slice sl_list (pv 1) po_none (po_some (pv 2))) (by rfl))))) (pss_one (ps_ret (pe_tup (pa_cons (pe_str) (pa_cons (pe_callB (cr_reprQ MB hq hr.units) (by rfl) T.z_repr (by decide +kernel) (pa_cons (pv 3) pa_nil)) (pa_cons (pe_bl) pa_nil)))))) pss_nil)))
  (pss_cons (ps_setLc (i := 4) (own := [("word", 3)]) (g := gName 3) (by rfl) sc_law_left_due.nd rfl rfl (sw_true rfl rfl rfl (by decide +kernel)) (pi_list (pe_ix ix_tup (pv 0) (pe_int) (fun _ _ => rfl))) (blkOk_by (own := [("word", 3)]) (N := N_law_left_due) (sc := defScope s_law_left_due) (by decide +kernel)) (fun _ _ _ _ _ => (pg_name (i := 3) sc_law_left_due.nd rfl (Or.inl rfl))) (fun _ _ _ _ _ => (pts_one (pt_cmpR (show OpR _ _ (rInT K true) from op_notInT hr.units) (pv 3) (pv 1) (by rfl)))) (fun _ _ _ _ _ => (pv 3)))
  (pss_one (ps_ret (pe_tup (pa_cons (pe_ix ix_tup (pv 0) (pe_int) (fun _ _ => rfl)) (pa_cons (pe_callTy call_tuple_of (by rfl) T.z_tuple (by decide +kernel) (pa_cons (pv 4) pa_nil)) (pa_cons (pe_callTy call_tuple_of (by rfl) T.z_tuple (by decide +kernel) (pa_cons (pe_lc (own := [("word", 3)]) (g := gName 3) (by rfl) sc_law_left_due.nd (pi_list (pe_ix ix_tup (pv 0) (pe_int) (fun _ _ => rfl))) (blkOk_by (own := [("word", 3)]) (N := N_law_left_due) (sc := defScope s_law_left_due) (by decide +kernel)) (fun _ _ _ _ _ => (pg_name (i := 3) sc_law_left_due.nd rfl (Or.inl rfl))) (fun _ _ _ _ _ => (pts_one (pt_cmpR (show OpR _ _ (rInT K true) from op_notInT hr.units) (pv 3) (pv 1) (by rfl)))) (fun _ _ _ _ _ => (pv 3))) pa_nil)) pa_nil)))))))), ?_⟩
    have hyK : ∀ {H' : Hp}, Same H H' → SqT K H' rt [.str z, .ref y, .ref o] := fun s => (Stay.of s).t _ _ hrt
    refine ⟨_, rfl, t, _, rfl, SqL.of ht, ?_⟩
    refine for_it (walk_enum (K := K) (a := t) (xs := xs)) (fun i σ H' => ∃ v3 v2 : Option V, σ = [some (.ref rt), some (.ref t), v2, v3, none] ∧ Same H H' ∧ ∀ j, j < i → leftOk (yw ++ nw) ds j = true) ⟨_, _, rfl, same_refl, fun j hj => absurd hj (Nat.not_lt_zero j)⟩ (fun i σ H' _ ⟨_, _, _, s, _⟩ => SqL.of (s _ _ ht)) ?_ ?_
    · rintro i _ σ H3 _ hi ⟨v4, v5, rfl, s3, before⟩ ⟨T, _, x, rfl, hT, rfl, ei, hx⟩
      cases ei
      have s4 := sm1 (o := .tup [.int (i : Nat), x]) hT
      have tT : (upd H3 T (.tup [.int (i : Nat), x])) T = some (.tup [.int (i : Nat), x]) := upd_same
      generalize upd H3 T (.tup [.int (i : Nat), x]) = H4 at s4 tT ⊢
      have s34 := s3.trans s4
      obtain ⟨d, hdi, dx⟩ := hd.get hx
      rw [hd.len] at hi
      refine ⟨T, _, rfl, SqT.of tT, rfl, ?_⟩
      refine ⟨_, _, rfl, _, _, rfl, rfl, ?_⟩
      refine ⟨_, rfl, _, rfl, rt, _, 1, .ref y, rfl, rfl, hyK s34, rfl, _, rfl, rt, _, 2, .ref o, rfl, rfl, hyK s34, rfl, y, o, _, _, rfl, rfl, s34 _ _ hy, s34 _ _ ho, ?_, fun p1 hp1 => ?_⟩
      · rw [List.length_map, List.length_map]
        exact Nat.le_of_lt (small1000000 (by omega))
      rw [← List.map_append]
      have s5 := sm1 (o := .lst ((yw ++ nw).map V.str)) hp1
      have e5 : (upd H4 p1 (.lst ((yw ++ nw).map V.str))) p1 = some (.lst ((yw ++ nw).map V.str)) := upd_same
      generalize upd H4 p1 (.lst ((yw ++ nw).map V.str)) = H5 at s5 e5 ⊢
      have s35 := s34.trans s5
      refine ⟨p1, _, d, rfl, SqL.of e5, (Sty.of (K := K) s35).dq dx, _, rfl, ?_⟩
      show if (!isTx (yw ++ nw) d) = true then _ else _
      have q := sh d (List.mem_of_getElem? hdi)
      have bad : ∀ {H6 : Hp}, Same H5 H6 → leftOk (yw ++ nw) ds i = false → ∀ tt, H6 tt = none → Q (.ref tt) (upd H6 tt (.tup [.str "unknown", .str d.shown, .bl true])) := fun s6 e tt htt => by
        refine k _ _ _ ((s35.trans s6).trans (sm1 htt)) (.inl ⟨i, ⟨hi, e, before⟩, ?_⟩) (.tup (SqT.of upd_same) (.cons (.str _) (.cons (.str _) (.cons (.bl _) .nil))))
        rw [List.getD_eq_getElem?_getD, hdi]
        rfl
      cases e1 : isTx (yw ++ nw) d with
      | false =>
        refine iteT (iteT ⟨_, rfl, x, d, rfl, (Sty.of (K := K) s35).dq dx, q.s, q.dp, Nat.le_trans q.sz (by decide), by show 3 ≤ sizeLine; decide, fun tt htt => bad same_refl (by rw [leftOk_is hdi, e1]; rfl) tt htt⟩)
      | true =>
        refine iteF ⟨_, rfl, _, rfl, _, rfl, (i : Nat), rfl, t, _, rfl, SqL.of (s35 _ _ ht), fun p2 hp2 => ?_⟩
        rw [cutV_to, texts_of (hd.take i) (take_str before)]
        have s6 := sm1 (o := .lst (((ds.take i).map txt).map V.str)) hp2
        have e6 : (upd H5 p2 (.lst (((ds.take i).map txt).map V.str))) p2 = some (.lst (((ds.take i).map txt).map V.str)) := upd_same
        generalize upd H5 p2 (.lst (((ds.take i).map txt).map V.str)) = H6 at s6 e6 ⊢
        have s36 := s35.trans s6
        refine ⟨p2, _, d, rfl, SqL.of e6, (Sty.of (K := K) s36).dq dx, _, rfl, ?_⟩
        show if isTx ((ds.take i).map txt) d = true then _ else _
        cases e2 : isTx ((ds.take i).map txt) d with
        | true => exact iteT ⟨_, rfl, x, d, rfl, (Sty.of (K := K) s36).dq dx, q.s, q.dp, Nat.le_trans q.sz (by decide), by show 3 ≤ sizeLine; decide, fun tt htt => bad s6 (by rw [leftOk_is hdi, e1, e2]; rfl) tt htt⟩
        | false =>
          refine iteF ⟨_, _, rfl, s36, fun j hj => ?_⟩
          rcases Nat.lt_or_ge j i with l | l
          · exact before j l
          · obtain rfl : j = i := by omega
            rw [leftOk_is hdi, e1, e2]
            rfl
    · rintro σ H3 ⟨v4, v5, rfl, s3, all⟩
      rw [hd.len] at all
      have exs := texts_of hd (by
        have := take_str (i := ds.length) all
        rw [List.take_length] at this
        exact this)
      subst exs
      have fst : Fst (leftOk (yw ++ nw) ds) ds.length none := all
      refine ⟨_, rfl, rt, _, 1, .ref y, rfl, rfl, hyK s3, rfl, y, rfl, ⟨_, SqL.of (s3 _ _ hy)⟩, fun D hD => ?_⟩
      refine lc_list (K := K) (a := y) (xs := yw.map V.str) (fun i H' => Same H3 H' ∧ H' D = some (.lst ((leftW (yw.take i) (ds.map txt)).map V.str))) ⟨sm1 hD, upd_same⟩ (fun i H' _ p => SqL.of (p.1 _ _ (s3 _ _ hy))) ?_ ?_
      · rintro i x H1 hi ⟨s1, hD1⟩
        obtain ⟨u, hu, rfl⟩ := Option.map_eq_some_iff.mp (show (yw[i]?).map V.str = some x by rw [← List.getElem?_map]; exact hi)
        have il := (List.getElem?_eq_some_iff.mp hu).1
        refine ⟨rfl, _, rfl, _, rfl, t, _, .str u, rfl, SqL.of (s1 _ _ (s3 _ _ ht)), .str u, _, rfl, ?_⟩
        show if (!decide (u ∈ ds.map txt)) = true then _ else _
        cases e : (!decide (u ∈ ds.map txt)) with
        | true =>
          refine iteT ⟨_, rfl, _, hD1, small1000000 ?_, swr s1 hD, ?_⟩
          · rw [List.length_map]
            refine Nat.lt_of_le_of_lt (List.length_filter_le _ _) ?_
            rw [List.length_take]
            omega
          · rw [upd_same, leftW, leftW, List.take_succ, hu, List.filter_append, List.map_append, Option.toList_some, filter_oneW, e]
            rfl
        | false =>
          refine iteF ⟨s1, ?_⟩
          rw [hD1, leftW, leftW, List.take_succ, hu, List.filter_append, Option.toList_some, filter_oneW, e]
          show _ = some (HO.lst ((_ ++ []).map V.str))
          rw [List.append_nil]
      rintro H4 ⟨s4, eD⟩
      rw [List.length_map, List.take_length] at eD
      have s34 := s3.trans s4
      refine ⟨_, rfl, rt, _, 0, .str z, rfl, rfl, hyK s34, rfl, _, rfl, D, _, rfl, .inl ⟨SqL.of eD, fun t1 nt1 => ?_⟩⟩
      have s5 := sm1 (o := .tup ((leftW yw (ds.map txt)).map V.str)) nt1
      have e5 : (upd H4 t1 (.tup ((leftW yw (ds.map txt)).map V.str))) t1 = some (.tup ((leftW yw (ds.map txt)).map V.str)) := upd_same
      generalize upd H4 t1 (.tup ((leftW yw (ds.map txt)).map V.str)) = H5 at s5 e5 ⊢
      have s35 := s34.trans s5
      refine ⟨_, rfl, rt, _, 2, .ref o, rfl, rfl, hyK s35, rfl, o, rfl, ⟨_, SqL.of (s35 _ _ ho)⟩, fun D2 hD2 => ?_⟩
      refine lc_list (K := K) (a := o) (xs := nw.map V.str) (fun i H' => Same H5 H' ∧ H' D2 = some (.lst ((leftW (nw.take i) (ds.map txt)).map V.str))) ⟨sm1 hD2, upd_same⟩ (fun i H' _ p => SqL.of (p.1 _ _ (s35 _ _ ho))) ?_ ?_
      · rintro i x H1 hi ⟨s1, hD1⟩
        obtain ⟨u, hu, rfl⟩ := Option.map_eq_some_iff.mp (show (nw[i]?).map V.str = some x by rw [← List.getElem?_map]; exact hi)
        have il := (List.getElem?_eq_some_iff.mp hu).1
        refine ⟨rfl, _, rfl, _, rfl, t, _, .str u, rfl, SqL.of (s1 _ _ (s35 _ _ ht)), .str u, _, rfl, ?_⟩
        show if (!decide (u ∈ ds.map txt)) = true then _ else _
        cases e : (!decide (u ∈ ds.map txt)) with
        | true =>
          refine iteT ⟨_, rfl, _, hD1, small1000000 ?_, swr s1 hD2, ?_⟩
          · rw [List.length_map]
            refine Nat.lt_of_le_of_lt (List.length_filter_le _ _) ?_
            rw [List.length_take]
            omega
          · rw [upd_same, leftW, leftW, List.take_succ, hu, List.filter_append, List.map_append, Option.toList_some, filter_oneW, e]
            rfl
        | false =>
          refine iteF ⟨s1, ?_⟩
          rw [hD1, leftW, leftW, List.take_succ, hu, List.filter_append, Option.toList_some, filter_oneW, e]
          show _ = some (HO.lst ((_ ++ []).map V.str))
          rw [List.append_nil]
      rintro H6 ⟨s6, eD2⟩
      rw [List.length_map, List.take_length] at eD2
      have s36 := s35.trans s6
      refine ⟨D2, _, rfl, .inl ⟨SqL.of eD2, fun t2 nt2 => ?_⟩⟩
      have s7 := sm1 (o := .tup ((leftW nw (ds.map txt)).map V.str)) nt2
      have e7 : (upd H6 t2 (.tup ((leftW nw (ds.map txt)).map V.str))) t2 = some (.tup ((leftW nw (ds.map txt)).map V.str)) := upd_same
      generalize upd H6 t2 (.tup ((leftW nw (ds.map txt)).map V.str)) = H7 at s7 e7 ⊢
      refine ⟨by show 3 ≤ sizeLine; decide, fun tt htt => ?_⟩
      have s8 := sm1 (o := .tup [.str z, .ref t1, .ref t2]) htt
      exact k _ _ _ ((s36.trans s7).trans s8) (.inr ⟨fst, _, _, yo.sublist List.filter_sublist, no.sublist List.filter_sublist, fun u => leftW_mem, fun u => leftW_mem, rfl⟩)
        (.tup (SqT.of upd_same) (.cons (.str _) (.cons (.tup (SqT.of (s8 _ _ (s7 _ _ (s6 _ _ e5)))) dq_words) (.cons (.tup (SqT.of (s8 _ _ e7)) dq_words) .nil))))
end
end Wf
namespace Wf
open PySem PySem.Spec PyProof.Rows L2
theorem nodup_lt {ws : List Str} (h : ws.Pairwise ltW) : ws.Nodup := List.Pairwise.imp (R := ltW) (S := fun a b => a ≠ b) (fun {a b} l e => ltW_irrefl a (by rw [← e] at l; exact l)) h
structure RawG (z : Str) (m : Nat) (yw nw : List Str) : Prop where
  oy : WdsOk z yw
  on : WdsOk z nw
  ap : Apart yw nw
  sy : yw.Pairwise ltW
  sn : nw.Pairwise ltW
  few : yw.length + nw.length ≤ m
theorem rawG {z : Str} {m l : Nat} {yw nw : List Str} (raw : Raw z m l yw nw) (l12 : l ≤ 12) : RawG z m yw nw := by
  obtain ⟨ws, ord, len, wd, sy, sn, pm⟩ := raw.ex
  have nd2 := (pm.nodup_iff).mpr (nodup_lt ord)
  have e := pm.length_eq
  rw [List.length_append] at e
  exact ⟨fun w hw => ⟨by have := (wd w (sy.subset hw)).1; omega, (wd w (sy.subset hw)).2⟩, fun w hw => ⟨by have := (wd w (sn.subset hw)).1; omega, (wd w (sn.subset hw)).2⟩,
    fun w hn hy => (List.nodup_append.mp nd2).2.2 w hy w hn rfl, ord.sublist sy, ord.sublist sn, by omega⟩
theorem strOk_of {z w : Str} (lz : Ltrs z 4) (h : ∀ c ∈ w.cps.toList, c ∈ z.cps.toList) : PyData.strOk w = true := by
  show w.cps.all (· < 0x110000) = true
  rw [← Array.all_toList, List.all_eq_true]
  intro c hc
  have := (lz.2.1 c (h c hc)).2
  exact decide_eq_true (by omega)
theorem SamAt.but {C p0 : Addr} {H H' : Hp} {p : SamP} {s : Sam} (h : SamAt C H p s) (b : But p0 H H') (n : p.md ≠ p0) (d : ∃ kvs, H p0 = some (.dK kvs)) : SamAt C H' p s := by
  obtain ⟨kvs, e0⟩ := d
  have ne : ∀ {x : Addr} {u : HO}, H x = some u → (∀ kvs, u ≠ .dK kvs) → H' x = some u := fun {x u} e q => b x u (fun z => by rw [z, e0] at e; exact q kvs (Option.some.inj e).symm) e
  exact ⟨ne h.ob nofun, b _ _ n h.dk, ne h.ys nofun, ne h.ns nofun, ne h.ps nofun⟩
/-! what is due is one thing, and it can be shown -/
theorem srt_uniq {a b : List Str} (ha : a.Pairwise ltW) (hb : b.Pairwise ltW) (h : ∀ w, w ∈ a ↔ w ∈ b) : a = b := Srt.one (⟨fun _ => .rfl, ha⟩ : Srt a a) (⟨fun _ => .rfl, hb⟩ : Srt b b) h
theorem NewTo.not {ks ws : List Str} {n i : Nat} {w : Str} (h : NewTo ks ws n) (l : i < n) (e : ws[i]? = some w) (t : w ∈ ks ∨ w ∈ ws.take i) : False := t.elim (h i w l e).1 (h i w l e).2
theorem AddDue.one {z : Str} {yw nw : List Str} {b : Bool} {ds : List PyData} {r q : PyData} (a : AddDue z yw nw b ds r) (c : AddDue z yw nw b ds q) : r = q := by
  have lt : ∀ {i : Nat} {w : Str}, (ds.map txt)[i]? = some w → i < ds.length := fun e => by
    have := (List.getElem?_eq_some_iff.mp e).1
    rwa [List.length_map] at this
  rcases a with ⟨i, a1, rfl⟩ | ⟨a1, i, u, a2, a3, a4, rfl⟩ | ⟨a1, a2, ys, ns, a3, a4, a5, a6, rfl⟩ <;> rcases c with ⟨j, c1, rfl⟩ | ⟨c1, j, v, c2, c3, c4, rfl⟩ | ⟨c1, c2, ys', ns', c3, c4, c5, c6, rfl⟩
  · cases a1.one c1
    rfl
  · cases a1.one c1
  · cases a1.one c1
  · cases a1.one c1
  · rcases Nat.lt_trichotomy i j with l | l | l
    · exact (c4.not l a2 a3).elim
    · subst l
      cases a2.symm.trans c2
      rfl
    · exact (a4.not l c2 c3).elim
  · exact (c2.not (lt a2) a2 a3).elim
  · cases a1.one c1
  · exact (a2.not (lt c2) c2 c3).elim
  · rw [srt_uniq a3 c3 fun w => (a5 w).trans (c5 w).symm, srt_uniq a4 c4 fun w => (a6 w).trans (c6 w).symm]
theorem LeftDue.one {z : Str} {yw nw : List Str} {ds : List PyData} {r q : PyData} (a : LeftDue z yw nw ds r) (c : LeftDue z yw nw ds q) : r = q := by
  rcases a with ⟨i, a1, rfl⟩ | ⟨a1, ys, ns, a3, a4, a5, a6, rfl⟩ <;> rcases c with ⟨j, c1, rfl⟩ | ⟨c1, ys', ns', c3, c4, c5, c6, rfl⟩
  · cases a1.one c1
    rfl
  · cases a1.one c1
  · cases a1.one c1
  · rw [srt_uniq a3 c3 fun w => (a5 w).trans (c5 w).symm, srt_uniq a4 c4 fun w => (a6 w).trans (c6 w).symm]
/-- can be shown, and held side by side -/
structure Fin2 (r : PyData) : Prop where
  s : r.showable = true
  p : r.canLay0 = true
  dp : r.depth ≤ 60
  sz : r.shown.length ≤ sizeLine
theorem shw_err {k t : Str} (k10 : k.length ≤ 10) (ko : PyData.strOk k = true) (to : PyData.strOk t = true) (l : t.length ≤ 1000) : Shw 20000 (.tuple [.str k, .str t, .bool true]) := by
  refine ⟨rfl, ?_, ?_, ?_⟩
  · show (PyData.strOk k && (PyData.strOk t && (true && true))) = true
    rw [ko, to]
    rfl
  · show max 0 (max 0 (max 0 0)) + 1 ≤ 60
    decide
  · show ((10 * k.length + 2) + 2 + ((10 * t.length + 2) + 2 + (5 + 2 + 0))) + 3 ≤ 20000
    omega
theorem shw_pln {z : Str} {ys ns : List Str} (hz : Wd 4 z) (hy : ∀ w ∈ ys, Wd 13 w) (hn : ∀ w ∈ ns, Wd 13 w) (ly : ys.length ≤ 50) (ln : ns.length ≤ 50) : Shw 20000 (plnD z ys ns) := by
  have a := shw_str hz
  have b := shw_wordsT hy ly
  have c := shw_wordsT hn ln
  refine ⟨?_, ?_, ?_, ?_⟩
  · show ((PyData.str z).showable && ((PyData.tuple (ys.map PyData.str)).showable && ((PyData.tuple (ns.map PyData.str)).showable && true))) = true
    rw [a.s, b.s, c.s]
    rfl
  · show (PyData.canLay0 (.str z) && (PyData.canLay0 (.tuple (ys.map PyData.str)) && (PyData.canLay0 (.tuple (ns.map PyData.str)) && true))) = true
    rw [a.p, b.p, c.p]
    rfl
  · have d1 : (PyData.tuple (ys.map PyData.str)).depth ≤ 1 := by
      have := dep_map (f := PyData.str) (xs := ys) fun _ _ => Nat.le_refl 0
      show PyData.depthAll _ + 1 ≤ 1
      omega
    have d2 : (PyData.tuple (ns.map PyData.str)).depth ≤ 1 := by
      have := dep_map (f := PyData.str) (xs := ns) fun _ _ => Nat.le_refl 0
      show PyData.depthAll _ + 1 ≤ 1
      omega
    show max 0 (max (PyData.tuple (ys.map PyData.str)).depth (max (PyData.tuple (ns.map PyData.str)).depth 0)) + 1 ≤ 60
    omega
  · have h1 := a.c
    have h2 := b.c
    have h3 := c.c
    show (cost (.str z) + 2 + (cost (.tuple (ys.map PyData.str)) + 2 + (cost (.tuple (ns.map PyData.str)) + 2 + 0))) + 3 ≤ 20000
    omega
theorem Shw.fin2 {n : Nat} {r : PyData} (h : Shw n r) (e : n ≤ 16777216) : Fin2 r := ⟨h.s, h.p, h.dp, h.sz e⟩
theorem word_str {z : Str} {ds : List PyData} (f : Fst (wrongWord z ds) ds.length none) {u : Str} (h : u ∈ ds.map txt) : PyData.str u ∈ ds ∧ u.length ≤ 12 ∧ ∀ c ∈ u.cps.toList, c ∈ z.cps.toList := by
  obtain ⟨d, hd, rfl⟩ := List.mem_map.mp h
  have ok := fst_all f d hd
  unfold wordOk at ok
  cases d <;> first | (cases ok; done) | skip
  rename_i v
  rw [Bool.and_eq_true] at ok
  refine ⟨hd, of_decide_eq_true ok.2, fun c hc => ?_⟩
  have h2 := ok.1
  unfold isWord at h2
  rw [List.all_eq_true] at h2
  exact of_decide_eq_true (h2 c hc)
theorem shn_fin {k : Str} {d : PyData} (h : Shn d) (k10 : k.length ≤ 10 := by decide) (ko : PyData.strOk k = true := by decide +kernel) : Fin2 (.tuple [.str k, .str d.shown, .bool true]) := (shw_err k10 ko h.ok h.sz).fin2 (by decide)
theorem AddDue.fin {z : Str} {yw nw : List Str} {b : Bool} {ds : List PyData} {r : PyData} (a : AddDue z yw nw b ds r) (hz : Wd 4 z) (hy : ∀ w ∈ yw, Wd 13 w) (hn : ∀ w ∈ nw, Wd 13 w) (few : yw.length + nw.length ≤ 40) (l3 : ds.length ≤ 3) (sh : ∀ e ∈ ds, Shn e) : Fin2 r := by
  rcases a with ⟨i, a1, rfl⟩ | ⟨a1, i, u, a2, a3, a4, rfl⟩ | ⟨a1, a2, ys, ns, a3, a4, a5, a6, rfl⟩
  · refine shn_fin (sh _ ?_)
    rw [List.getD_eq_getElem?_getD, List.getElem?_eq_getElem a1.1]
    exact List.getElem_mem a1.1
  · exact shn_fin (sh _ (word_str a1 (List.mem_of_getElem? a2)).1)
  · have wd : ∀ w ∈ ds.map txt, Wd 13 w := fun w hw => by
      have h := word_str a1 hw
      exact ⟨by have := h.2.1; omega, fun c hc => hz.2 c (h.2.2 c hc)⟩
    have sub : ∀ {xs vs : List Str} {c : Prop}, xs.Pairwise ltW → vs.length ≤ 40 → (∀ w, w ∈ xs ↔ w ∈ vs ∨ c ∧ w ∈ ds.map txt) → xs.length ≤ 50 := fun {xs vs c} p l m => by
      have h := nodup_sub (ys := xs) (ws := vs ++ ds.map txt) (Srt.nd (⟨fun _ => .rfl, p⟩ : Srt xs xs)) fun w hw => List.mem_append.mpr (((m w).mp hw).imp id And.right)
      rw [List.length_append, List.length_map] at h
      omega
    exact (shw_pln hz (fun w hw => ((a5 w).mp hw).elim (hy w) fun h => wd w h.2) (fun w hw => ((a6 w).mp hw).elim (hn w) fun h => wd w h.2) (sub a3 (by omega) a5) (sub a4 (by omega) a6)).fin2 (by decide)
theorem LeftDue.fin {z : Str} {yw nw : List Str} {ds : List PyData} {r : PyData} (a : LeftDue z yw nw ds r) (hz : Wd 4 z) (hy : ∀ w ∈ yw, Wd 13 w) (hn : ∀ w ∈ nw, Wd 13 w) (few : yw.length + nw.length ≤ 40) (sh : ∀ e ∈ ds, Shn e) : Fin2 r := by
  rcases a with ⟨i, a1, rfl⟩ | ⟨a1, ys, ns, a3, a4, a5, a6, rfl⟩
  · refine shn_fin (sh _ ?_)
    rw [List.getD_eq_getElem?_getD, List.getElem?_eq_getElem a1.1]
    exact List.getElem_mem a1.1
  · have sub : ∀ {xs vs : List Str}, xs.Pairwise ltW → vs.length ≤ 40 → (∀ w, w ∈ xs ↔ w ∈ vs ∧ w ∉ ds.map txt) → xs.length ≤ 50 := fun {xs vs} p l m => by
      have h := nodup_sub (ys := xs) (ws := vs) (Srt.nd (⟨fun _ => .rfl, p⟩ : Srt xs xs)) fun w hw => ((m w).mp hw).1
      omega
    exact (shw_pln hz (fun w hw => hy w ((a5 w).mp hw).1) (fun w hw => hn w ((a6 w).mp hw).1) (sub a3 (by omega) a5) (sub a4 (by omega) a6)).fin2 (by decide)
end Wf
namespace Wf
open PySem PySem.Spec PyProof.Rows L2
abbrev s_law : Stmt := top 57
abbrev N_law : List Str := ["script", "pen", "bout", "raw", "sample", "again", "due", "some", "words", "given", "at"]
theorem sc_law : FnScope N_law ["script"] (defScope s_law) := ⟨rfl, rfl, rfl, by decide +kernel, rfl, by decide +kernel, by decide +kernel⟩
def spLaw (K : PySem.W.Frag) (Tt : List (Addr × Str)) : Sp := fun vs H Q _ => ∃ (a : Addr) (ns : List Int), vs = [.ref a] ∧ LamX.Tabs Tt H ∧ SqL K H a (ns.map V.int) ∧ ns.length ≤ 63 ∧ ∀ H', Q (.bl true) H'
abbrev spAddR (K : PySem.W.Frag) (CW CD C : Addr) : Sp := fun vs H Q E => ∃ a rest, vs = a :: rest ∧ rest.length ≤ sizeLine ∧ ∀ p, H p = none → spAdding K CW CD C [a, .bl true, V.ref p] (upd H p (.tup rest)) Q E
/-- what the law holds on to: the raw sample, the sample made of it, the tables -/
structure Hold (Tt : List (Addr × Str)) (C t y o : Addr) (z : Str) (yw nw : List Str) (sp : SamP) (sm : Sam) (H : Hp) : Prop where
  t : H t = some (.tup [.str z, .ref y, .ref o])
  y : H y = some (.lst (yw.map V.str))
  o : H o = some (.lst (nw.map V.str))
  s : SamAt C H sp sm
  tb : LamX.Tabs Tt H
section
variable {Tt : List (Addr × Str)} {C t y o p c : Addr} {n : Nat} {z : Str} {yw nw : List Str} {sp : SamP} {sm : Sam} {H H' : Hp}
theorem Hold.same (h : Hold Tt C t y o z yw nw sp sm H) (s : Same H H') : Hold Tt C t y o z yw nw sp sm H' := ⟨s _ _ h.t, s _ _ h.y, s _ _ h.o, h.s.same s, tabs_same h.tb s⟩
theorem Hold.but (h : Hold Tt C t y o z yw nw sp sm H) (b : But p H H') (hp : Pen H p c n) (m : sp.md ≠ p) : Hold Tt C t y o z yw nw sp sm H' :=
  ⟨b _ _ (pen_ne hp h.t fun _ z => by cases z) h.t, b _ _ (pen_ne hp h.y fun _ z => by cases z) h.y, b _ _ (pen_ne hp h.o fun _ z => by cases z) h.o, h.s.but b m hp.at, tabs_but h.tb b hp⟩
theorem Hold.ext (h : Hold Tt C t y o z yw nw sp sm H) (e : LamX.ExtN H H') (tb : LamX.Tabs Tt H') : Hold Tt C t y o z yw nw sp sm H' := ⟨e _ _ h.t nofun, e _ _ h.y nofun, e _ _ h.o nofun, h.s.ext e, tb⟩
end
theorem shn_word {u : Str} (l : u.length ≤ 13) (abc : ∀ c ∈ u.cps.toList, 97 ≤ c ∧ c ≤ 122) : Shn (.str u) := by
  have w : Wd 13 u := ⟨l, abc⟩
  have ok := w.ok
  refine ⟨rfl, Nat.zero_le _, ?_, fun v e => ?_, ?_⟩
  · have h := shown_le (.str u) ok
    have : cost (.str u) = 10 * u.length + 2 := rfl
    omega
  · cases e
    exact ⟨by omega, ok⟩
  · show (reprText u).cps.all (· < 0x110000) = true
    rw [← Array.all_toList, List.all_eq_true]
    intro c hc
    have hc : c ∈ sgs (reprText u) := hc
    rw [sgs_word abc] at hc
    refine decide_eq_true ?_
    rcases List.mem_cons.mp hc with rfl | h
    · decide
    · rcases List.mem_append.mp h with h | h
      · have := (abc c h).2
        omega
      · rw [List.mem_singleton.mp h]
        decide
theorem od_shn {d : PyData} (h : Od d) : Shn d := ⟨h.s, Nat.le_trans h.dp (by decide), h.sz, fun w e => ⟨h.sm.1 w e, h.st w e⟩, h.so⟩
section
variable {P : Program} {w : World} {K : PySem.W.Frag} {mg : Str → Option Value} {base : Heap} {f : Addr} {fd : FuncData}
theorem ok_law {Tt : List (Addr × Str)} {CW CD CU C c PA fe : Addr} {fde : FuncData} (F : FunL K "law" "law" s_law f fd c) (T : Txt K mg) (MB : Mods base) (sc : SmC K C) (nc : NotC K C) (nf : PySem.W.notFirst K C (.ref C) = true) (D_law_pen : Dn P w K mg base 1 "_law_pen" ["script"] (spPen K))
    (D_law_draw : Dn P w K mg base 1 "_law_draw" ["pen", "many"] spDraw) (D_law_pick : Dn P w K mg base 2 "_law_pick" ["pen", "some"] (spPick K)) (D_law_word : Dn P w K mg base 3 "_law_word" ["pen", "letters", "most"] spWord) (D_law_odd : Dn P w K mg base 3 "_law_odd" ["pen"] (spOdd K))
    (D_law_raw : Dn P w K mg base 4 "_law_raw" ["pen", "most_letters", "many", "most"] spRaw) (D_law_made : Dn P w K mg base 8 "_law_made" ["raw"] (spMade K C))
    (D_law_added : DnG P w K mg base 11 "_law_added" ["sample", "words", "given"] (spAddedL K Tt C)) (D_law_left : DnG P w K mg base 11 "_law_left" ["sample", "words"] (spLeftL K Tt C))
    (D_law_added_due : DnG P w K mg base 2 "_law_added_due" ["raw", "words", "given"] (spAddDue K)) (D_law_left_due : DnG P w K mg base 1 "_law_left_due" ["raw", "words"] (spLeftDue K))
    (Dc : Cau P w K mg base 7 "_law_caught" "call" (TTs K CW CD CU C)) (M_addingd : MtR P w K mg base (L2.CX P w) 8 C "adding" (spAddR K CW CD C))
    (Feq : FnOk P w K mg base CX0 1 fe fde ["self", "other"] (spEqS K C)) (ateq : PySem.W.findIn K (.ref C) "__eq__" = some (some (.ref fe))) (atne : PySem.W.findIn K (.ref C) "__ne__" = some (some (.builtin "object.__ne__"))) (mo : PySem.W.mroIn K C (.type "object") = some true) (fneq : PySem.W.isFn K (.ref fe) = true) (beq : Binds K fde ["self", "other"] [])
    (TB : LamX.TabB base mg c PA) (hmT : (PA, ("law.<locals>.<lambda>" : Str)) ∈ Tt) (hu : uniqB Tt = true) :
    FnG P w K mg base CX0 13 f fd ["script"] (spLaw K Tt) := by
  refine FnG.plainL F sc_law (fun h => ?_) (fun A outer s H vs Q E hq hr h => ?_)
  · obtain ⟨a, ns, rfl, _⟩ := h
    rfl
  · refine ⟨_, (pss_cons (ps_set (i := 1) sc_law.nd rfl (Or.inr rfl) (pe_cl D_law_pen (hr.mono (by decide)) (pa_cons (pv 0) pa_nil)))
  (pss_cons (ps_for PassesOwn.never rfl (pi_range1 (by rfl) T.z_range (pa_cons (pe_int) pa_nil)) (pg_name (i := 2) sc_law.nd rfl (Or.inl rfl))
   (pss_cons (ps_set (i := 3) sc_law.nd rfl (Or.inr rfl) (pe_cl D_law_raw (hr.mono (by decide)) (pa_cons (pv 1) (pa_cons (pe_int) (pa_cons (pe_int) (pa_cons (pe_int) pa_nil))))))
  (pss_cons (ps_set (i := 4) sc_law.nd rfl (Or.inr rfl) (pe_cl D_law_made (hr.mono (by decide)) (pa_cons (pv 3) pa_nil)))
  (pss_cons (ps_for PassesOwn.never rfl (pi_range1 (by rfl) T.z_range (pa_cons (pe_int) pa_nil)) (pg_name (i := 5) sc_law.nd rfl (Or.inl rfl))
   (pss_cons (ps_set (i := 7) sc_law.nd rfl (Or.inr rfl) (pe_op op_cat (pe_op op_cat (pe_ix ix_tup (pv 3) (pe_int) (fun _ _ => rfl)) (pe_ix ix_tup (pv 3) (pe_int) (fun _ _ => rfl))) (pe_lst (pa_cons (pe_cl D_law_word (hr.mono (by decide)) (pa_cons (pv 1) (pa_cons (pe_ix ix_tup (pv 3) (pe_int) (fun _ _ => rfl)) (pa_cons (pe_int) pa_nil)))) (pa_cons (pe_cl D_law_word (hr.mono (by decide)) (pa_cons (pv 1) (pa_cons (pe_ix ix_tup (pv 3) (pe_int) (fun _ _ => rfl)) (pa_cons (pe_int) pa_nil)))) (pa_cons (pe_op op_mul_str (pe_ix ix_str (pe_ix ix_tup (pv 3) (pe_int) (fun _ _ => rfl)) (pe_int) (fun _ _ => rfl)) (pe_int)) pa_nil))))))
  (pss_cons (ps_setLc (i := 8) (own := [("at", 10)]) (g := gName 10) (tt := tYes) (by rfl) sc_law.nd rfl rfl (sw_true rfl rfl rfl (by decide +kernel)) (pi_range1 (by rfl) T.z_range (pa_cons (pe_cl D_law_draw (hr.mono (by decide)) (pa_cons (pv 1) (pa_cons (pe_int) pa_nil))) pa_nil)) (blkOk_by (own := [("at", 10)]) (N := N_law) (sc := defScope s_law) (by decide +kernel)) (fun _ _ _ _ _ => (pg_name (i := 10) sc_law.nd rfl (Or.inl rfl))) (fun _ _ _ _ _ => pts_nil) (fun _ _ _ _ _ => (pe_cl D_law_pick (hr.mono (by decide)) (pa_cons (pv 1) (pa_cons (pv 7) pa_nil)))))
  (C8.pss_cut (ps_if (pt_cmpR op_eq (pe_cl D_law_draw (hr.mono (by decide)) (pa_cons (pv 1) (pa_cons (pe_int) pa_nil))) (pe_int) (nomark _)) (pss_one (ps_set (i := 8) sc_law.nd rfl (Or.inl rfl) (pe_op op_cat (pe_slice sl_list (pv 8) po_none (po_some (pe_int))) (pe_lst (pa_cons (pe_cl D_law_odd (hr.mono (by decide)) (pa_cons (pv 1) pa_nil)) pa_nil))))) pss_nil)
  (pss_cons (ps_set (i := 9) sc_law.nd rfl (Or.inl rfl) (pe_cmpR op_eq (pe_cl D_law_draw (hr.mono (by decide)) (pa_cons (pv 1) (pa_cons (pe_int) pa_nil))) (pe_int) (nomark _)))
  (pss_cons (ps_if (pt_cmpR op_ne (pe_callB (cr_reprQ MB hq hr.units) (by rfl) T.z_repr (by decide +kernel) (pa_cons (pe_clG D_law_added hq (hr.mono (by decide)) (pa_cons (pv 4) (pa_cons (pv 8) (pa_cons (pv 9) pa_nil)))) pa_nil)) (pe_callB (cr_reprQ MB hq hr.units) (by rfl) T.z_repr (by decide +kernel) (pa_cons (pe_clG D_law_added_due hq (hr.mono (by decide)) (pa_cons (pv 3) (pa_cons (pv 8) (pa_cons (pv 9) pa_nil)))) pa_nil)) (nomark _)) (pss_one (ps_ret (pe_bl))) pss_nil)
  (pss_one (ps_if (pt_cmpR op_ne (pe_callB (cr_reprQ MB hq hr.units) (by rfl) T.z_repr (by decide +kernel) (pa_cons (pe_clG D_law_left hq (hr.mono (by decide)) (pa_cons (pv 4) (pa_cons (pv 8) pa_nil))) pa_nil)) (pe_callB (cr_reprQ MB hq hr.units) (by rfl) T.z_repr (by decide +kernel) (pa_cons (pe_clG D_law_left_due hq (hr.mono (by decide)) (pa_cons (pv 3) (pa_cons (pv 8) pa_nil))) pa_nil)) (nomark _)) (pss_one (ps_ret (pe_bl))) pss_nil))))))))
  (pss_cons (ps_set (i := 6) sc_law.nd rfl (Or.inl rfl) (pe_clG D_law_added_due hq (hr.mono (by decide)) (pa_cons (pv 3) (pa_cons (pe_lst (pa_cons (pe_op op_mul_str (pe_ix ix_str (pe_ix ix_tup (pv 3) (pe_int) (fun _ _ => rfl)) (pe_int) (fun _ _ => rfl)) (pe_int)) pa_nil)) (pa_cons (pe_bl) pa_nil)))))
  (pss_one (ps_if (PW.pt (pw_or (pt_cmpR (op_neQ MB hr.units) (pe_lamG Dc hq (hr.mono (by decide)) (hr.mono (by decide)) (j := 8) (hr.mono (by decide)) TB hmT hu (fun A outer s H E f c' hr => pe_mtR M_addingd sc.cl hr (passes_call (takes_of rfl rfl rfl rfl) (fun _ _ _ _ h => h)) (pv 4) (pa_cons (pe_op op_mul_str (pe_ix ix_str (pe_ix (show IxR _ (rIxT K) from ix_tup) (pv 3) (pe_int) (fun _ _ => rfl)) (pe_int) (fun _ _ => rfl)) (pe_int)) pa_nil))) (pv 6) (nomark _)) (pw_or1 (pt_cmpR (op_neOwn Feq (hr.mono (by decide)) ateq atne mo fneq beq pass0) (pv 4) (pe_cl D_law_made (hr.mono (by decide)) (pa_cons (pv 3) pa_nil)) (nomark _))))) (pss_one (ps_ret (pe_bl))) pss_nil)))))))
  (pss_one (ps_ret (pe_bl))))), ?_⟩
    obtain ⟨a, ns, rfl, tabs, hs, hl, k⟩ := h
    refine ⟨_, rfl, a, ns, rfl, hs, hl, fun p c0 H1 s1 hp0 hp1 => ?_⟩
    refine ⟨5, rfl, by decide, by decide, for_range (n := 5) (fun i σ H' => ∃ (v2 v3 v4 v5 v6 v7 v8 v9 : Option V), σ = [some (.ref a), some (.ref p), v2, v3, v4, v5, v6, v7, v8, v9, none] ∧ Pen H' p c0 (i * 5000) ∧ LamX.Tabs Tt H') ⟨_, _, _, _, _, _, _, _, rfl, hp1, tabs_same tabs s1⟩ ?_ ?_⟩
    · rintro i σ H2 hi ⟨v2, v3, v4, v5, v6, v7, v8, v9, rfl, hp2, tb2⟩
      refine ⟨_, rfl, p, c0, _, 3, 8, 5, rfl, hp2, by omega, by decide, by decide, by decide, by decide, fun t y o z yw nw H3 bt3 hp3 lz nt ny no' yo et ey eo raw => ?_⟩
      have R := rawG raw (by decide)
      have few := R.few
      have lz4 : Ltrs z 4 := ⟨lz.1, lz.2.1, lz.2.2.1, Nat.le_trans lz.2.2.2 (by decide)⟩
      have tp : t ≠ p := pen_ne hp3 et fun _ z => by cases z
      have op : o ≠ p := pen_ne hp3 eo fun _ z => by cases z
      have yp : y ≠ p := pen_ne hp3 ey fun _ z => by cases z
      have tb3 := tabs_but tb2 bt3 hp2
      refine ⟨_, rfl, t, y, o, z, 3, yw, nw, rfl, SqT.of et, ey, eo, lz, by decide, R.oy, R.on, R.ap, by omega, fun sp sm H4 same4 new4 at4 of4 => ?_⟩
      have g4 := of4.g lz4 R.oy R.on R.ap
      have hp4 := hp3.same same4
      have ez := of4.z
      have eys : sm.ys = yw := srt_uniq of4.ms.ys.ord R.sy of4.ms.ys.mem
      have ens : sm.ns = nw := srt_uniq of4.ms.ns.ord R.sn of4.ms.ns.mem
      have yl : ∀ u ∈ yw, u.length ≤ 12 := fun u hu => (R.oy u hu).1
      have nl : ∀ u ∈ nw, u.length ≤ 12 := fun u hu => (R.on u hu).1
      have hz : Wd 4 z := ⟨lz4.2.2.2, lz.2.1⟩
      have wy : ∀ u ∈ yw, Wd 13 u := fun u hu => ⟨Nat.le_trans (yl u hu) (by decide), fun c hc => lz.2.1 c ((R.oy u hu).2 c hc)⟩
      have wn : ∀ u ∈ nw, Wd 13 u := fun u hu => ⟨Nat.le_trans (nl u hu) (by decide), fun c hc => lz.2.1 c ((R.on u hu).2 c hc)⟩
      have mdp : sp.md ≠ p := fun e => by
        obtain ⟨kvs, e0⟩ := hp3.at
        have := new4.md
        rw [e, e0] at this
        cases this
      refine ⟨6, rfl, by decide, by decide, for_range (n := 6) (fun j σ H' => ∃ (v5 v6 v7 v8 v9 : Option V), σ = [some (.ref a), some (.ref p), some (.int (0 + (i : Int))), some (.ref t), some (.ref sp.a), v5, v6, v7, v8, v9, none] ∧ Pen H' p c0 (i * 5000 + 200 + j * 500) ∧ LamX.Tabs Tt H' ∧ H' t = some (.tup [.str z, .ref y, .ref o]) ∧ H' y = some (.lst (yw.map V.str)) ∧ H' o = some (.lst (nw.map V.str)) ∧ SamAt C H' sp sm)
        ⟨_, _, _, _, _, rfl, hp4.up (by omega), tabs_same tb3 same4, same4 _ _ et, same4 _ _ ey, same4 _ _ eo, at4⟩ ?_ ?_⟩
      · rintro j σ H5 hj ⟨v5, v6, v7, v8, v9, rfl, hp5, tb5, et5, ey5, eo5, at5⟩
        have zl : z.length ≤ 3 := lz.2.2.2
        have zl1 : 1 ≤ z.length := lz.2.2.1
        refine ⟨_, rfl, t, _, 1, .ref y, rfl, rfl, SqT.of et5, rfl, _, rfl, t, _, 2, .ref o, rfl, rfl, SqT.of et5, rfl, y, o, _, _, rfl, rfl, ey5, eo5, by rw [List.length_map, List.length_map]; exact Nat.le_of_lt (small1000000 (by omega)), fun q1 hq1 => ?_⟩
        rw [← List.map_append]
        have s6 := sm1 (o := .lst ((yw ++ nw).map V.str)) hq1
        have e6 : (upd H5 q1 (.lst ((yw ++ nw).map V.str))) q1 = some (.lst ((yw ++ nw).map V.str)) := upd_same
        generalize upd H5 q1 (.lst ((yw ++ nw).map V.str)) = H6 at s6 e6 ⊢
        have et6 := s6 _ _ et5
        have hp6 := hp5.same s6
        have tb6 := tabs_same tb5 s6
        have ey6 := s6 _ _ ey5
        have eo6 := s6 _ _ eo5
        have at6 := at5.same s6
        clear et5 hp5 tb5 ey5 eo5 at5 hq1 s6
        refine ⟨_, rfl, _, rfl, t, _, 0, .str z, rfl, rfl, SqT.of et6, rfl, p, c0, _, z, 6, rfl, hp6, by omega, by omega, by omega, by decide, by decide, fun w1 H7 bt7 hp7 l7 in7 => ?_⟩
        have et7 := bt7 _ _ tp et6
        have tb7 := tabs_but tb6 bt7 hp6
        have ey7 := bt7 _ _ yp ey6
        have eo7 := bt7 _ _ op eo6
        have at7 := at6.but bt7 mdp hp6.at
        have e7 := bt7 _ _ (pen_ne hp6 e6 fun _ z => by cases z) e6
        clear et6 hp6 tb6 ey6 eo6 at6 e6 bt7
        refine ⟨_, rfl, _, rfl, t, _, 0, .str z, rfl, rfl, SqT.of et7, rfl, p, c0, _, z, 6, rfl, hp7, by omega, by omega, by omega, by decide, by decide, fun w2 H8 bt8 hp8 l8 in8 => ?_⟩
        have et8 := bt8 _ _ tp et7
        have tb8 := tabs_but tb7 bt8 hp7
        have ey8 := bt8 _ _ yp ey7
        have eo8 := bt8 _ _ op eo7
        have at8 := at7.but bt8 mdp hp7.at
        have e8 := bt8 _ _ (pen_ne hp7 e7 fun _ z => by cases z) e7
        clear et7 hp7 tb7 ey7 eo7 at7 e7 bt8
        obtain ⟨ch, hch⟩ : ∃ ch, z.cps.toList[0]? = some ch := ⟨_, List.getElem?_eq_getElem (by rw [Array.length_toList]; exact zl1)⟩
        refine ⟨_, rfl, t, _, 0, .str z, rfl, rfl, SqT.of et8, rfl, z, 0, ch, rfl, rfl, Nat.le_of_lt (small1000000 (by omega)), atI_nat (j := 0) hch, ?_⟩
        have h8 : Hold Tt C t y o z yw nw sp sm H8 := ⟨et8, ey8, eo8, at8, tb8⟩
        clear et8 ey8 eo8 at8 tb8
        refine ⟨⟨#[ch]⟩, 13, rfl, rfl, by decide, by show 1 ≤ 1000; decide, by show 3 ≤ sizeLine; decide, fun q2 hq2 => ?_⟩
        have hz : Wd 4 z := ⟨by omega, lz.2.1⟩
        have chz : ch ∈ z.cps.toList := List.mem_of_getElem? hch
        have mem : ∀ u ∈ yw ++ nw ++ [w1, w2, repS ⟨#[ch]⟩ 13], u.length ≤ 13 ∧ ∀ c ∈ u.cps.toList, c ∈ z.cps.toList := fun u hu => by
          rcases List.mem_append.mp hu with m | m
          · rcases List.mem_append.mp m with m | m
            · exact ⟨by have := (R.oy u m).1; omega, (R.oy u m).2⟩
            · exact ⟨by have := (R.on u m).1; omega, (R.on u m).2⟩
          · simp only [List.mem_cons, List.not_mem_nil, or_false] at m
            rcases m with rfl | rfl | rfl
            · exact ⟨Nat.le_trans l7 (by decide), in7⟩
            · exact ⟨Nat.le_trans l8 (by decide), in8⟩
            · refine ⟨by rw [repS_len]; show 13 * 1 ≤ 13; decide, fun c hc => ?_⟩
              have := repS_in hc
              rw [List.mem_singleton.mp (show c ∈ [ch] from this)]
              exact chz
        have shn : ∀ u ∈ yw ++ nw ++ [w1, w2, repS ⟨#[ch]⟩ 13], Shn (.str u) := fun u hu => shn_word (mem u hu).1 fun c hc => lz.2.1 c ((mem u hu).2 c hc)
        have s9 := sm1 (o := .lst [V.str w1, V.str w2, V.str (repS ⟨#[ch]⟩ 13)]) hq2
        have e9 : (upd H8 q2 (.lst [V.str w1, V.str w2, V.str (repS ⟨#[ch]⟩ 13)])) q2 = some (.lst ([w1, w2, repS ⟨#[ch]⟩ 13].map V.str)) := upd_same
        generalize upd H8 q2 (.lst [V.str w1, V.str w2, V.str (repS ⟨#[ch]⟩ 13)]) = H9 at s9 e9 ⊢
        have h9 := h8.same s9
        have hp9 := hp8.same s9
        have e89 := s9 _ _ e8
        clear h8 hp8 e8 hq2 s9
        have l3 : [w1, w2, repS ⟨#[ch]⟩ 13].length = 3 := rfl
        generalize [w1, w2, repS ⟨#[ch]⟩ 13] = w3 at mem shn e9 l3
        refine ⟨q1, q2, _, _, rfl, rfl, e89, e9, by rw [List.length_map, List.length_map, List.length_append]; exact Nat.le_of_lt (small1000000 (by omega)), fun q3 hq3 => ?_⟩
        rw [← List.map_append]
        have sl : (yw ++ nw ++ w3).length ≤ 43 := by
          rw [List.length_append, List.length_append]
          omega
        have sp0 : 0 < (yw ++ nw ++ w3).length := by
          rw [List.length_append]
          omega
        generalize yw ++ nw ++ w3 = S at mem shn sl sp0 hq3 ⊢
        have s10 := sm1 (o := .lst (S.map V.str)) hq3
        have e10 : (upd H9 q3 (.lst (S.map V.str))) q3 = some (.lst (S.map V.str)) := upd_same
        generalize upd H9 q3 (.lst (S.map V.str)) = H10 at s10 e10 ⊢
        have h10 := h9.same s10
        have hp10 := hp9.same s10
        clear h9 hp9 e89 e9 s10
        -- words
        refine ⟨_, rfl, p, c0, _, 4, rfl, hp10, by omega, by decide, by decide, fun d H11 d0 d4 bt11 hp11 => ⟨d, rfl, by omega, by omega, fun D hD => ?_⟩⟩
        have h11 := h10.but bt11 hp10 mdp
        have e11 := bt11 _ _ (pen_ne hp10 e10 fun _ z => by cases z) e10
        clear h10 hp10 e10 bt11
        have Dp : D ≠ p := (hp11.off hD).1
        have Dc : D ≠ c0 := (hp11.off hD).2
        refine lc_range (lo := 0) (n := d.toNat) (fun k H' => But p H11 H' ∧ Pen H' p c0 (i * 5000 + 200 + j * 500 + 20 + k) ∧ ∃ us : List Str, H' D = some (.lst (us.map V.str)) ∧ us.length = k ∧ ∀ u ∈ us, u ∈ S) ⟨(But.refl p H11).new hD, (hp11.same (sm1 hD)).up (by simp), [], upd_same, rfl, fun u hu => absurd hu List.not_mem_nil⟩ ?_ ?_
        · rintro k H12 hk ⟨bt12, hp12, us, eD, lu, mu⟩
          have e12 := bt12 _ _ (pen_ne hp11 e11 fun _ z => by cases z) e11
          refine ⟨rfl, _, rfl, _, rfl, p, c0, _, hp12, by omega, .inl ⟨q3, _, rfl, .inl (SqL.of e12), by rw [List.length_map]; exact sp0, by rw [List.length_map]; omega, fun x H13 hx bt13 hp13 => ?_⟩⟩
          obtain ⟨u, hu, rfl⟩ := List.mem_map.mp hx
          refine ⟨_, bt13 _ _ Dp eD, small1000000 (by rw [List.length_map]; omega), (bt12.trans bt13).new hD, hp13.wr Dp Dc, us ++ [u], by rw [upd_same, List.map_append]; rfl, by rw [List.length_append, lu]; rfl, fun v hv => ?_⟩
          rcases List.mem_append.mp hv with m | m
          · exact mu v m
          · rw [List.mem_singleton.mp m]
            exact hu
        rintro H12 ⟨bt12, hp12, us, eD, lu, mu⟩
        have h12 := h11.but bt12 hp11 mdp
        have lu3 : us.length ≤ 3 := by omega
        have shu : ∀ u ∈ us, Shn (.str u) := fun u hu => shn u (mu u hu)
        have hp12 := hp12.up (m := i * 5000 + 200 + j * 500 + 25) (by omega)
        clear h11 hp11 e11 bt12 hD Dp Dc mu lu sl sp0 mem shn
        refine ⟨fun σ H' => ∃ (v9 : Option V) (wl : Addr) (xs : List V) (ds : List PyData), σ = [some (.ref a), some (.ref p), some (.int (0 + (i : Int))), some (.ref t), some (.ref sp.a), some (.int (0 + (j : Int))), v6, some (.ref q3), some (.ref wl), v9, none] ∧ Pen H' p c0 (i * 5000 + 200 + j * 500 + 40) ∧ Hold Tt C t y o z yw nw sp sm H' ∧ H' wl = some (.lst xs) ∧
          ds.length ≤ 3 ∧ (∀ e ∈ ds, Shn e) ∧ ∀ G, But p H' G → DqAll K G xs ds, ?_, ?_⟩
        · refine ⟨_, rfl, p, c0, _, 4, rfl, hp12, by omega, by decide, by decide, fun d2 H13 d20 d24 bt13 hp13 => ⟨rfl, _, rfl, ?_⟩⟩
          have h13 := h12.but bt13 hp12 mdp
          have e13 := bt13 _ _ (pen_ne hp12 eD fun _ z => by cases z) eD
          clear h12 hp12 eD bt13
          cases decide (V.int d2 = V.int 0) with
          | false => exact iteF ⟨_, _, _, us.map PyData.str, rfl, hp13.up (by omega), h13, e13, by rw [List.length_map]; exact lu3, fun e he => by
              obtain ⟨u, hu, rfl⟩ := List.mem_map.mp he
              exact shu u hu, fun G _ => dq_words⟩
          | true =>
            refine iteT ⟨_, rfl, 2, rfl, D, _, rfl, SqL.of e13, fun p2 hp2 => ?_⟩
            rw [show cutV (us.map V.str) none (some 2) = (us.map V.str).take 2 from cutV_to (i := 2), ← List.map_take]
            have s14 := sm1 (o := .lst ((us.take 2).map V.str)) hp2
            have e14 : (upd H13 p2 (.lst ((us.take 2).map V.str))) p2 = some (.lst ((us.take 2).map V.str)) := upd_same
            generalize upd H13 p2 (.lst ((us.take 2).map V.str)) = H14 at s14 e14 ⊢
            have h14 := h13.same s14
            have hp14 := hp13.same s14
            refine ⟨_, rfl, p, c0, _, rfl, hp14, by omega, fun x dx H15 nx od bt15 hp15 => ⟨by show 1 ≤ sizeLine; decide, fun p3 hp3 => ?_⟩⟩
            have h15 := h14.but bt15 hp14 mdp
            have e15 := bt15 _ _ (pen_ne hp14 e14 fun _ z => by cases z) e14
            have s16 := sm1 (o := .lst [x]) hp3
            have e16 : (upd H15 p3 (.lst [x])) p3 = some (.lst [x]) := upd_same
            generalize upd H15 p3 (.lst [x]) = H16 at s16 e16 ⊢
            have lt2 : (us.take 2).length ≤ 2 := by rw [List.length_take]; omega
            refine ⟨p2, p3, _, _, rfl, rfl, s16 _ _ e15, e16, by rw [List.length_map]; exact Nat.le_of_lt (small1000000 (by show (us.take 2).length + 1 < 1000000; omega)), fun p4 hp4 => ?_⟩
            have s17 := sm1 (o := .lst ((us.take 2).map V.str ++ [x])) hp4
            refine ⟨_, p4, _, (us.take 2).map PyData.str ++ [dx], rfl, ((hp15.same s16).same s17).up (by omega), (h15.same s16).same s17, upd_same, by rw [List.length_append, List.length_map]; show (us.take 2).length + 1 ≤ 3; omega, fun e he => ?_, fun G bG => dq_words.app (.cons ?_ .nil)⟩
            · rcases List.mem_append.mp he with m | m
              · obtain ⟨u, hu, rfl⟩ := List.mem_map.mp m
                exact shu u (List.mem_of_mem_take hu)
              · rw [List.mem_singleton.mp m]
                exact od_shn od
            · have pn : H14 p ≠ none := fun z => by
                obtain ⟨kvs, e⟩ := hp14.at
                rw [z] at e
                cases e
              exact (((nx.same s16).same s17).but bG pn).dq
        · rintro σ H13 ⟨v9', wl, xs, ds, rfl, hp13, h13, ew, l3', shd, dqs⟩
          clear h12 hp12 eD shu lu3
          refine ⟨_, rfl, p, c0, _, 2, rfl, hp13, by omega, by decide, by decide, fun d3 H14 _ _ bt14 hp14 => ⟨rfl, ?_⟩⟩
          have h14 := h13.but bt14 hp13 mdp
          have ew14 := bt14 _ _ (pen_ne hp13 ew fun _ z => by cases z) ew
          have dq14 := dqs _ bt14
          clear h13 hp13 ew dqs bt14
          generalize decide (V.int d3 = V.int 0) = gb
          -- adding
          refine ⟨_, rfl, _, rfl, _, rfl, sp, sm, wl, gb, xs, ds, rfl, h14.s, g4, SqL.of ew14, dq14, l3', shd, by rw [eys, ens]; omega, h14.tb, fun v1 r1 H15 e15 tb15 due1 dv1 => ?_⟩
          rw [ez, eys, ens] at due1
          have h15 := h14.ext e15 tb15
          have hp15 := hp14.ext e15
          have ew15 := e15 _ _ ew14 nofun
          have dq15 := (ext_sty (K := K) e15).dqAll dq14
          have f1 := due1.fin hz wy wn (by omega) l3' shd
          clear h14 hp14 ew14 dq14 e15 tb15
          refine ⟨v1, r1, rfl, dv1, f1.s, f1.dp, f1.sz, _, rfl, _, rfl, _, rfl, t, wl, y, o, z, gb, yw, nw, xs, ds, rfl, SqT.of h15.t, h15.y, h15.o, ew15, dq15, l3', shd, by omega, yl, nl, fun v2 r2 H16 s16 due2 dv2 => ?_⟩
          cases due1.one due2
          have h16 := h15.same s16
          have hp16 := hp15.same s16
          have ew16 := s16 _ _ ew15
          have dq16 := (Sty.of (K := K) s16).dqAll dq15
          clear h15 hp15 ew15 dq15 s16 due1 due2 dv1
          refine ⟨v2, r1, rfl, dv2, f1.s, f1.dp, f1.sz, rfl, _, rfl, ?_⟩
          generalize r1.shown = tx1
          rw [show (!decide (V.str tx1 = V.str tx1)) = false from by simp]
          clear f1 dv2
          refine iteF ?_
          -- without
          refine ⟨_, rfl, _, rfl, sp, sm, wl, xs, ds, rfl, h16.s, g4, SqL.of ew16, dq16, l3', shd, by rw [eys, ens]; omega, h16.tb, fun v1 r1 H17 e17 tb17 due1 dv1 => ?_⟩
          rw [ez, eys, ens] at due1
          have h17 := h16.ext e17 tb17
          have hp17 := hp16.ext e17
          have ew17 := e17 _ _ ew16 nofun
          have dq17 := (ext_sty (K := K) e17).dqAll dq16
          have f1 := due1.fin hz wy wn (by omega) shd
          clear h16 hp16 ew16 dq16 e17 tb17
          refine ⟨v1, r1, rfl, dv1, f1.s, f1.dp, f1.sz, _, rfl, _, rfl, t, wl, y, o, z, yw, nw, xs, ds, rfl, SqT.of h17.t, h17.y, h17.o, ew17, dq17, l3', shd, by omega, R.sy, R.sn, fun v2 r2 H18 s18 due2 dv2 => ?_⟩
          cases due1.one due2
          have h18 := h17.same s18
          have hp18 := hp17.same s18
          clear h17 hp17 ew17 dq17 s18 due1 due2 dv1
          refine ⟨v2, r1, rfl, dv2, f1.s, f1.dp, f1.sz, rfl, _, rfl, ?_⟩
          generalize r1.shown = tx1
          rw [show (!decide (V.str tx1 = V.str tx1)) = false from by simp]
          refine iteF ⟨_, _, _, _, _, rfl, hp18.up (by omega), h18.tb, h18.t, h18.y, h18.o, h18.s⟩
      · rintro σ H5 ⟨v5, v6, v7, v8, v9, rfl, hp5, tb5, et5, ey5, eo5, at5⟩
        have h5 : Hold Tt C t y o z yw nw sp sm H5 := ⟨et5, ey5, eo5, at5, tb5⟩
        clear et5 ey5 eo5 at5 tb5
        have zl : z.length ≤ 3 := lz.2.2.2
        obtain ⟨ch, hch⟩ : ∃ ch, z.cps.toList[0]? = some ch := ⟨_, List.getElem?_eq_getElem (by rw [Array.length_toList]; exact lz.2.2.1)⟩
        have chz : ch ∈ z.cps.toList := List.mem_of_getElem? hch
        have zs : z.length ≤ sizeLine := Nat.le_of_lt (small1000000 (by omega))
        refine ⟨_, rfl, _, rfl, t, _, 0, .str z, rfl, rfl, SqT.of h5.t, rfl, z, 0, ch, rfl, rfl, zs, atI_nat (j := 0) hch, ⟨#[ch]⟩, 7, rfl, rfl, by decide, by show 1 ≤ 1000; decide, by show 1 ≤ sizeLine; decide, fun q hq => ?_⟩
        have sh7 : Shn (.str (repS ⟨#[ch]⟩ 7)) := shn_word (by rw [repS_len]; show 7 * 1 ≤ 13; decide) fun c hc => by
          have := repS_in hc
          rw [List.mem_singleton.mp (show c ∈ [ch] from this)]
          exact lz.2.1 ch chz
        generalize ew7 : repS ⟨#[ch]⟩ 7 = w7 at sh7 hq ⊢
        have s6 := sm1 (o := .lst [V.str w7]) hq
        have e6 : (upd H5 q (.lst [V.str w7])) q = some (.lst [V.str w7]) := upd_same
        generalize upd H5 q (.lst [V.str w7]) = H6 at s6 e6 ⊢
        have h6 := h5.same s6
        have hp6 := hp5.same s6
        have sh1 : ∀ e ∈ [PyData.str w7], Shn e := fun e he => by
          rw [List.mem_singleton.mp he]
          exact sh7
        have dq1 : ∀ {G : Hp}, DqAll K G [V.str w7] [PyData.str w7] := .cons (.str _) .nil
        clear h5 hp5 s6
        refine ⟨t, q, y, o, z, true, yw, nw, _, _, rfl, SqT.of h6.t, h6.y, h6.o, e6, dq1, by show 1 ≤ 3; decide, sh1, by omega, yl, nl, fun v2 r2 H7 s7 due2 dv2 => ?_⟩
        have h7 := h6.same s7
        have hp7 := hp6.same s7
        have f2 := due2.fin hz wy wn (by omega) (by show 1 ≤ 3; decide) sh1
        have shp : SeqAt.shaped r2 = true := by
          show (r2.canLay0 && decide (r2.depth ≤ 64)) = true
          rw [f2.p, decide_eq_true (show r2.depth ≤ 64 by have := f2.dp; omega)]
          rfl
        clear h6 hp6 e6 s7 hq
        refine ⟨h7.tb, fun H8 e8 T8 Qc back => ⟨_, rfl, sp.a, sp.dx, _, rfl, (h7.s.ext e8).ob, rfl, _, rfl, t, _, 0, .str z, rfl, rfl, SqT.of (e8 _ _ h7.t nofun), rfl, z, 0, ch, rfl, rfl, zs, atI_nat (j := 0) hch, ⟨#[ch]⟩, 7, rfl, rfl, by decide, by show 1 ≤ 1000; decide, .ref sp.a, [.str w7], by rw [ew7], by show 1 ≤ sizeLine; decide,
          fun q3 hq3 => adding_told (Tt := Tt) (b := true) h7.s g4 dq1 (by show 1 ≤ 3; decide) sh1 (by rw [eys, ens]; omega) (fun v1 r1 H9 e9 T9 due1 dv1 => ?_) e8 T8 back hq3⟩⟩
        rw [ez, eys, ens] at due1
        cases due1.one due2
        have h9 := h7.ext e9 T9
        have hp9 := hp7.ext e9
        refine ⟨_, rfl, r2, r2, dv1, (ext_sty (K := K) e9).dq dv2, shp, shp, _, rfl, ?_⟩
        rw [SeqAt.eqv_refl r2 f2.p]
        refine iteF ?_
        refine ⟨_, rfl, _, rfl, t, y, o, z, 3, yw, nw, rfl, SqT.of h9.t, h9.y, h9.o, lz, by decide, R.oy, R.on, R.ap, by omega, fun sp2 sm2 H10 s10 new10 at10 of10 => ?_⟩
        have h10 := h9.same s10
        have ok1 : SamOk sm := ⟨fun x hx => (wy x (by rw [← eys]; exact hx)).ok, fun x hx => (wn x (by rw [← ens]; exact hx)).ok⟩
        have ey2 : sm2.ys = yw := srt_uniq of10.ms.ys.ord R.sy of10.ms.ys.mem
        have en2 : sm2.ns = nw := srt_uniq of10.ms.ns.ord R.sn of10.ms.ns.mem
        have ok2 : SamOk sm2 := ⟨fun x hx => (wy x (by rw [← ey2]; exact hx)).ok, fun x hx => (wn x (by rw [← en2]; exact hx)).ok⟩
        refine ⟨sp.a, sp.dx, _, .ref C, rfl, h10.s.ob, nc.ty at10.ob, nf, sp, sm, _, rfl, h10.s, ok1, .inl ⟨sp2, sm2, rfl, at10, ok2, _, rfl, _, rfl, ?_⟩⟩
        rw [ez, of10.z, eys, ey2, ens, en2, decide_eq_true (show z = z ∧ yw = yw ∧ nw = nw from ⟨rfl, rfl, rfl⟩)]
        exact iteF ⟨_, _, _, _, _, _, _, _, rfl, (hp9.same s10).up (by omega), h10.tb⟩
    · rintro σ H2 ⟨v2, v3, v4, v5, v6, v7, v8, v9, rfl, _, _⟩
      exact k _
end
end Wf
namespace Wf
open PySem L2
abbrev makers : List (Str × Str) := [("_law_added", "_law_added.<locals>.<lambda>"), ("_law_left", "_law_left.<locals>.<lambda>"), ("law", "law.<locals>.<lambda>")]
theorem all_mk {l : PySem.W.OpenLaw} {w : World} {K : PySem.W.Frag} {h : Heap} {mg : Str → Option Value} {fa f_is_sequence f_word_order f_are_letters f_is_word f_is_word_up_to f_add_beginnings f_prefixes_of f_check_words f_check_sequence f_law_pen f_law_draw f_law_pick f_law_shuffled f_law_letters f_law_word f_law_sorted f_law_table f_law_led f_law_raw f_law_made f_law_odd f_law_is_word f_law_caught f_law_added f_law_left f_law_added_due f_law_left_due f_law C_InvalidWord i_InvalidWord C_InvalidSample i_InvalidSample C_TooLarge i_TooLarge C_DuplicateWord i_DuplicateWord C_UnknownWord i_UnknownWord C_InvalidLetters  : Addr} (X : K.In h) (G : h.Ns mainGlobals mg) (hfa : mg "law" = some (.ref fa)) (uq : uniqB (tabsOf K makers) = true)
    {od_is_sequence an_is_sequence : Option Addr} {sl_is_sequence : Array (Option Value)} {oc_is_sequence kV_is_sequence dc_is_sequence pm_is_sequence cd_is_sequence ct_is_sequence : Value}
    (a_is_sequence : PySem.W.nsIn K mainGlobals "is_sequence" = some (some (.ref f_is_sequence)))
    (l_is_sequence : K.lookup f_is_sequence = some ⟨oc_is_sequence, od_is_sequence, .func (PySem.W.fnOf "is_sequence" "is_sequence" (defArgs s_is_sequence) (defBody s_is_sequence) (defScope s_is_sequence) .none kV_is_sequence dc_is_sequence pm_is_sequence an_is_sequence cd_is_sequence ct_is_sequence), sl_is_sequence⟩)
    (c_is_sequence : PySem.W.codeIn K cd_is_sequence "is_sequence" = true)
    (k_is_sequence : PySem.W.keepIn K (.ref f_is_sequence) = true)
    {od_word_order an_word_order : Option Addr} {sl_word_order : Array (Option Value)} {oc_word_order kV_word_order dc_word_order pm_word_order cd_word_order ct_word_order : Value}
    (a_word_order : PySem.W.nsIn K mainGlobals "word_order" = some (some (.ref f_word_order)))
    (l_word_order : K.lookup f_word_order = some ⟨oc_word_order, od_word_order, .func (PySem.W.fnOf "word_order" "word_order" (defArgs s_word_order) (defBody s_word_order) (defScope s_word_order) .none kV_word_order dc_word_order pm_word_order an_word_order cd_word_order ct_word_order), sl_word_order⟩)
    (c_word_order : PySem.W.codeIn K cd_word_order "word_order" = true)
    (k_word_order : PySem.W.keepIn K (.ref f_word_order) = true)
    {od_are_letters an_are_letters : Option Addr} {sl_are_letters : Array (Option Value)} {oc_are_letters kV_are_letters dc_are_letters pm_are_letters cd_are_letters ct_are_letters : Value}
    (a_are_letters : PySem.W.nsIn K mainGlobals "are_letters" = some (some (.ref f_are_letters)))
    (l_are_letters : K.lookup f_are_letters = some ⟨oc_are_letters, od_are_letters, .func (PySem.W.fnOf "are_letters" "are_letters" (defArgs s_are_letters) (defBody s_are_letters) (defScope s_are_letters) .none kV_are_letters dc_are_letters pm_are_letters an_are_letters cd_are_letters ct_are_letters), sl_are_letters⟩)
    (c_are_letters : PySem.W.codeIn K cd_are_letters "are_letters" = true)
    (k_are_letters : PySem.W.keepIn K (.ref f_are_letters) = true)
    {od_is_word an_is_word : Option Addr} {sl_is_word : Array (Option Value)} {oc_is_word kV_is_word dc_is_word pm_is_word cd_is_word ct_is_word : Value}
    (a_is_word : PySem.W.nsIn K mainGlobals "is_word" = some (some (.ref f_is_word)))
    (l_is_word : K.lookup f_is_word = some ⟨oc_is_word, od_is_word, .func (PySem.W.fnOf "is_word" "is_word" (defArgs s_is_word) (defBody s_is_word) (defScope s_is_word) .none kV_is_word dc_is_word pm_is_word an_is_word cd_is_word ct_is_word), sl_is_word⟩)
    (c_is_word : PySem.W.codeIn K cd_is_word "is_word" = true)
    (k_is_word : PySem.W.keepIn K (.ref f_is_word) = true)
    {od_is_word_up_to an_is_word_up_to : Option Addr} {sl_is_word_up_to : Array (Option Value)} {oc_is_word_up_to kV_is_word_up_to dc_is_word_up_to pm_is_word_up_to cd_is_word_up_to ct_is_word_up_to : Value}
    (a_is_word_up_to : PySem.W.nsIn K mainGlobals "is_word_up_to" = some (some (.ref f_is_word_up_to)))
    (l_is_word_up_to : K.lookup f_is_word_up_to = some ⟨oc_is_word_up_to, od_is_word_up_to, .func (PySem.W.fnOf "is_word_up_to" "is_word_up_to" (defArgs s_is_word_up_to) (defBody s_is_word_up_to) (defScope s_is_word_up_to) .none kV_is_word_up_to dc_is_word_up_to pm_is_word_up_to an_is_word_up_to cd_is_word_up_to ct_is_word_up_to), sl_is_word_up_to⟩)
    (c_is_word_up_to : PySem.W.codeIn K cd_is_word_up_to "is_word_up_to" = true)
    (k_is_word_up_to : PySem.W.keepIn K (.ref f_is_word_up_to) = true)
    {od_add_beginnings an_add_beginnings : Option Addr} {sl_add_beginnings : Array (Option Value)} {oc_add_beginnings kV_add_beginnings dc_add_beginnings pm_add_beginnings cd_add_beginnings ct_add_beginnings : Value}
    (a_add_beginnings : PySem.W.nsIn K mainGlobals "add_beginnings" = some (some (.ref f_add_beginnings)))
    (l_add_beginnings : K.lookup f_add_beginnings = some ⟨oc_add_beginnings, od_add_beginnings, .func (PySem.W.fnOf "add_beginnings" "add_beginnings" (defArgs s_add_beginnings) (defBody s_add_beginnings) (defScope s_add_beginnings) .none kV_add_beginnings dc_add_beginnings pm_add_beginnings an_add_beginnings cd_add_beginnings ct_add_beginnings), sl_add_beginnings⟩)
    (c_add_beginnings : PySem.W.codeIn K cd_add_beginnings "add_beginnings" = true)
    (k_add_beginnings : PySem.W.keepIn K (.ref f_add_beginnings) = true)
    {od_prefixes_of an_prefixes_of : Option Addr} {sl_prefixes_of : Array (Option Value)} {oc_prefixes_of kV_prefixes_of dc_prefixes_of pm_prefixes_of cd_prefixes_of ct_prefixes_of : Value}
    (a_prefixes_of : PySem.W.nsIn K mainGlobals "prefixes_of" = some (some (.ref f_prefixes_of)))
    (l_prefixes_of : K.lookup f_prefixes_of = some ⟨oc_prefixes_of, od_prefixes_of, .func (PySem.W.fnOf "prefixes_of" "prefixes_of" (defArgs s_prefixes_of) (defBody s_prefixes_of) (defScope s_prefixes_of) .none kV_prefixes_of dc_prefixes_of pm_prefixes_of an_prefixes_of cd_prefixes_of ct_prefixes_of), sl_prefixes_of⟩)
    (c_prefixes_of : PySem.W.codeIn K cd_prefixes_of "prefixes_of" = true)
    (k_prefixes_of : PySem.W.keepIn K (.ref f_prefixes_of) = true)
    {od_check_words an_check_words : Option Addr} {sl_check_words : Array (Option Value)} {oc_check_words kV_check_words dc_check_words pm_check_words cd_check_words ct_check_words : Value}
    (a_check_words : PySem.W.nsIn K mainGlobals "check_words" = some (some (.ref f_check_words)))
    (l_check_words : K.lookup f_check_words = some ⟨oc_check_words, od_check_words, .func (PySem.W.fnOf "check_words" "check_words" (defArgs s_check_words) (defBody s_check_words) (defScope s_check_words) .none kV_check_words dc_check_words pm_check_words an_check_words cd_check_words ct_check_words), sl_check_words⟩)
    (c_check_words : PySem.W.codeIn K cd_check_words "check_words" = true)
    (k_check_words : PySem.W.keepIn K (.ref f_check_words) = true)
    {od_check_sequence an_check_sequence : Option Addr} {sl_check_sequence : Array (Option Value)} {oc_check_sequence kV_check_sequence dc_check_sequence pm_check_sequence cd_check_sequence ct_check_sequence : Value}
    (a_check_sequence : PySem.W.nsIn K mainGlobals "check_sequence" = some (some (.ref f_check_sequence)))
    (l_check_sequence : K.lookup f_check_sequence = some ⟨oc_check_sequence, od_check_sequence, .func (PySem.W.fnOf "check_sequence" "check_sequence" (defArgs s_check_sequence) (defBody s_check_sequence) (defScope s_check_sequence) .none kV_check_sequence dc_check_sequence pm_check_sequence an_check_sequence cd_check_sequence ct_check_sequence), sl_check_sequence⟩)
    (c_check_sequence : PySem.W.codeIn K cd_check_sequence "check_sequence" = true)
    (k_check_sequence : PySem.W.keepIn K (.ref f_check_sequence) = true)
    {od_law_pen an_law_pen : Option Addr} {sl_law_pen : Array (Option Value)} {oc_law_pen kV_law_pen dc_law_pen pm_law_pen cd_law_pen ct_law_pen : Value}
    (a_law_pen : PySem.W.nsIn K mainGlobals "_law_pen" = some (some (.ref f_law_pen)))
    (l_law_pen : K.lookup f_law_pen = some ⟨oc_law_pen, od_law_pen, .func (PySem.W.fnOf "_law_pen" "_law_pen" (defArgs s_law_pen) (defBody s_law_pen) (defScope s_law_pen) .none kV_law_pen dc_law_pen pm_law_pen an_law_pen cd_law_pen ct_law_pen), sl_law_pen⟩)
    (c_law_pen : PySem.W.codeIn K cd_law_pen "_law_pen" = true)
    (k_law_pen : PySem.W.keepIn K (.ref f_law_pen) = true)
    {od_law_draw an_law_draw : Option Addr} {sl_law_draw : Array (Option Value)} {oc_law_draw kV_law_draw dc_law_draw pm_law_draw cd_law_draw ct_law_draw : Value}
    (a_law_draw : PySem.W.nsIn K mainGlobals "_law_draw" = some (some (.ref f_law_draw)))
    (l_law_draw : K.lookup f_law_draw = some ⟨oc_law_draw, od_law_draw, .func (PySem.W.fnOf "_law_draw" "_law_draw" (defArgs s_law_draw) (defBody s_law_draw) (defScope s_law_draw) .none kV_law_draw dc_law_draw pm_law_draw an_law_draw cd_law_draw ct_law_draw), sl_law_draw⟩)
    (c_law_draw : PySem.W.codeIn K cd_law_draw "_law_draw" = true)
    (k_law_draw : PySem.W.keepIn K (.ref f_law_draw) = true)
    {od_law_pick an_law_pick : Option Addr} {sl_law_pick : Array (Option Value)} {oc_law_pick kV_law_pick dc_law_pick pm_law_pick cd_law_pick ct_law_pick : Value}
    (a_law_pick : PySem.W.nsIn K mainGlobals "_law_pick" = some (some (.ref f_law_pick)))
    (l_law_pick : K.lookup f_law_pick = some ⟨oc_law_pick, od_law_pick, .func (PySem.W.fnOf "_law_pick" "_law_pick" (defArgs s_law_pick) (defBody s_law_pick) (defScope s_law_pick) .none kV_law_pick dc_law_pick pm_law_pick an_law_pick cd_law_pick ct_law_pick), sl_law_pick⟩)
    (c_law_pick : PySem.W.codeIn K cd_law_pick "_law_pick" = true)
    (k_law_pick : PySem.W.keepIn K (.ref f_law_pick) = true)
    {od_law_shuffled an_law_shuffled : Option Addr} {sl_law_shuffled : Array (Option Value)} {oc_law_shuffled kV_law_shuffled dc_law_shuffled pm_law_shuffled cd_law_shuffled ct_law_shuffled : Value}
    (a_law_shuffled : PySem.W.nsIn K mainGlobals "_law_shuffled" = some (some (.ref f_law_shuffled)))
    (l_law_shuffled : K.lookup f_law_shuffled = some ⟨oc_law_shuffled, od_law_shuffled, .func (PySem.W.fnOf "_law_shuffled" "_law_shuffled" (defArgs s_law_shuffled) (defBody s_law_shuffled) (defScope s_law_shuffled) .none kV_law_shuffled dc_law_shuffled pm_law_shuffled an_law_shuffled cd_law_shuffled ct_law_shuffled), sl_law_shuffled⟩)
    (c_law_shuffled : PySem.W.codeIn K cd_law_shuffled "_law_shuffled" = true)
    (k_law_shuffled : PySem.W.keepIn K (.ref f_law_shuffled) = true)
    {od_law_letters an_law_letters : Option Addr} {sl_law_letters : Array (Option Value)} {oc_law_letters kV_law_letters dc_law_letters pm_law_letters cd_law_letters ct_law_letters : Value}
    (a_law_letters : PySem.W.nsIn K mainGlobals "_law_letters" = some (some (.ref f_law_letters)))
    (l_law_letters : K.lookup f_law_letters = some ⟨oc_law_letters, od_law_letters, .func (PySem.W.fnOf "_law_letters" "_law_letters" (defArgs s_law_letters) (defBody s_law_letters) (defScope s_law_letters) .none kV_law_letters dc_law_letters pm_law_letters an_law_letters cd_law_letters ct_law_letters), sl_law_letters⟩)
    (c_law_letters : PySem.W.codeIn K cd_law_letters "_law_letters" = true)
    (k_law_letters : PySem.W.keepIn K (.ref f_law_letters) = true)
    {od_law_word an_law_word : Option Addr} {sl_law_word : Array (Option Value)} {oc_law_word kV_law_word dc_law_word pm_law_word cd_law_word ct_law_word : Value}
    (a_law_word : PySem.W.nsIn K mainGlobals "_law_word" = some (some (.ref f_law_word)))
    (l_law_word : K.lookup f_law_word = some ⟨oc_law_word, od_law_word, .func (PySem.W.fnOf "_law_word" "_law_word" (defArgs s_law_word) (defBody s_law_word) (defScope s_law_word) .none kV_law_word dc_law_word pm_law_word an_law_word cd_law_word ct_law_word), sl_law_word⟩)
    (c_law_word : PySem.W.codeIn K cd_law_word "_law_word" = true)
    (k_law_word : PySem.W.keepIn K (.ref f_law_word) = true)
    {od_law_sorted an_law_sorted : Option Addr} {sl_law_sorted : Array (Option Value)} {oc_law_sorted kV_law_sorted dc_law_sorted pm_law_sorted cd_law_sorted ct_law_sorted : Value}
    (a_law_sorted : PySem.W.nsIn K mainGlobals "_law_sorted" = some (some (.ref f_law_sorted)))
    (l_law_sorted : K.lookup f_law_sorted = some ⟨oc_law_sorted, od_law_sorted, .func (PySem.W.fnOf "_law_sorted" "_law_sorted" (defArgs s_law_sorted) (defBody s_law_sorted) (defScope s_law_sorted) .none kV_law_sorted dc_law_sorted pm_law_sorted an_law_sorted cd_law_sorted ct_law_sorted), sl_law_sorted⟩)
    (c_law_sorted : PySem.W.codeIn K cd_law_sorted "_law_sorted" = true)
    (k_law_sorted : PySem.W.keepIn K (.ref f_law_sorted) = true)
    {od_law_table an_law_table : Option Addr} {sl_law_table : Array (Option Value)} {oc_law_table kV_law_table dc_law_table pm_law_table cd_law_table ct_law_table : Value}
    (a_law_table : PySem.W.nsIn K mainGlobals "_law_table" = some (some (.ref f_law_table)))
    (l_law_table : K.lookup f_law_table = some ⟨oc_law_table, od_law_table, .func (PySem.W.fnOf "_law_table" "_law_table" (defArgs s_law_table) (defBody s_law_table) (defScope s_law_table) .none kV_law_table dc_law_table pm_law_table an_law_table cd_law_table ct_law_table), sl_law_table⟩)
    (c_law_table : PySem.W.codeIn K cd_law_table "_law_table" = true)
    (k_law_table : PySem.W.keepIn K (.ref f_law_table) = true)
    {od_law_led an_law_led : Option Addr} {sl_law_led : Array (Option Value)} {oc_law_led kV_law_led dc_law_led pm_law_led cd_law_led ct_law_led : Value}
    (a_law_led : PySem.W.nsIn K mainGlobals "_law_led" = some (some (.ref f_law_led)))
    (l_law_led : K.lookup f_law_led = some ⟨oc_law_led, od_law_led, .func (PySem.W.fnOf "_law_led" "_law_led" (defArgs s_law_led) (defBody s_law_led) (defScope s_law_led) .none kV_law_led dc_law_led pm_law_led an_law_led cd_law_led ct_law_led), sl_law_led⟩)
    (c_law_led : PySem.W.codeIn K cd_law_led "_law_led" = true)
    (k_law_led : PySem.W.keepIn K (.ref f_law_led) = true)
    {od_law_raw an_law_raw : Option Addr} {sl_law_raw : Array (Option Value)} {oc_law_raw kV_law_raw dc_law_raw pm_law_raw cd_law_raw ct_law_raw : Value}
    (a_law_raw : PySem.W.nsIn K mainGlobals "_law_raw" = some (some (.ref f_law_raw)))
    (l_law_raw : K.lookup f_law_raw = some ⟨oc_law_raw, od_law_raw, .func (PySem.W.fnOf "_law_raw" "_law_raw" (defArgs s_law_raw) (defBody s_law_raw) (defScope s_law_raw) .none kV_law_raw dc_law_raw pm_law_raw an_law_raw cd_law_raw ct_law_raw), sl_law_raw⟩)
    (c_law_raw : PySem.W.codeIn K cd_law_raw "_law_raw" = true)
    (k_law_raw : PySem.W.keepIn K (.ref f_law_raw) = true)
    {od_law_made an_law_made : Option Addr} {sl_law_made : Array (Option Value)} {oc_law_made kV_law_made dc_law_made pm_law_made cd_law_made ct_law_made : Value}
    (a_law_made : PySem.W.nsIn K mainGlobals "_law_made" = some (some (.ref f_law_made)))
    (l_law_made : K.lookup f_law_made = some ⟨oc_law_made, od_law_made, .func (PySem.W.fnOf "_law_made" "_law_made" (defArgs s_law_made) (defBody s_law_made) (defScope s_law_made) .none kV_law_made dc_law_made pm_law_made an_law_made cd_law_made ct_law_made), sl_law_made⟩)
    (c_law_made : PySem.W.codeIn K cd_law_made "_law_made" = true)
    (k_law_made : PySem.W.keepIn K (.ref f_law_made) = true)
    {od_law_odd an_law_odd : Option Addr} {sl_law_odd : Array (Option Value)} {oc_law_odd kV_law_odd dc_law_odd pm_law_odd cd_law_odd ct_law_odd : Value}
    (a_law_odd : PySem.W.nsIn K mainGlobals "_law_odd" = some (some (.ref f_law_odd)))
    (l_law_odd : K.lookup f_law_odd = some ⟨oc_law_odd, od_law_odd, .func (PySem.W.fnOf "_law_odd" "_law_odd" (defArgs s_law_odd) (defBody s_law_odd) (defScope s_law_odd) .none kV_law_odd dc_law_odd pm_law_odd an_law_odd cd_law_odd ct_law_odd), sl_law_odd⟩)
    (c_law_odd : PySem.W.codeIn K cd_law_odd "_law_odd" = true)
    (k_law_odd : PySem.W.keepIn K (.ref f_law_odd) = true)
    {od_law_is_word an_law_is_word : Option Addr} {sl_law_is_word : Array (Option Value)} {oc_law_is_word kV_law_is_word dc_law_is_word pm_law_is_word cd_law_is_word ct_law_is_word : Value}
    (a_law_is_word : PySem.W.nsIn K mainGlobals "_law_is_word" = some (some (.ref f_law_is_word)))
    (l_law_is_word : K.lookup f_law_is_word = some ⟨oc_law_is_word, od_law_is_word, .func (PySem.W.fnOf "_law_is_word" "_law_is_word" (defArgs s_law_is_word) (defBody s_law_is_word) (defScope s_law_is_word) .none kV_law_is_word dc_law_is_word pm_law_is_word an_law_is_word cd_law_is_word ct_law_is_word), sl_law_is_word⟩)
    (c_law_is_word : PySem.W.codeIn K cd_law_is_word "_law_is_word" = true)
    (k_law_is_word : PySem.W.keepIn K (.ref f_law_is_word) = true)
    {od_law_caught an_law_caught : Option Addr} {sl_law_caught : Array (Option Value)} {oc_law_caught kV_law_caught dc_law_caught pm_law_caught cd_law_caught ct_law_caught : Value}
    (a_law_caught : PySem.W.nsIn K mainGlobals "_law_caught" = some (some (.ref f_law_caught)))
    (l_law_caught : K.lookup f_law_caught = some ⟨oc_law_caught, od_law_caught, .func (PySem.W.fnOf "_law_caught" "_law_caught" (defArgs s_law_caught) (defBody s_law_caught) (defScope s_law_caught) .none kV_law_caught dc_law_caught pm_law_caught an_law_caught cd_law_caught ct_law_caught), sl_law_caught⟩)
    (c_law_caught : PySem.W.codeIn K cd_law_caught "_law_caught" = true)
    (k_law_caught : PySem.W.keepIn K (.ref f_law_caught) = true)
    {od_law_added an_law_added : Option Addr} {sl_law_added : Array (Option Value)} {oc_law_added kV_law_added dc_law_added pm_law_added ct_law_added : Value} {ca_law_added : Addr}
    (a_law_added : PySem.W.nsIn K mainGlobals "_law_added" = some (some (.ref f_law_added)))
    (l_law_added : K.lookup f_law_added = some ⟨oc_law_added, od_law_added, .func (PySem.W.fnOf "_law_added" "_law_added" (defArgs s_law_added) (defBody s_law_added) (defScope s_law_added) .none kV_law_added dc_law_added pm_law_added an_law_added (.ref ca_law_added) ct_law_added), sl_law_added⟩)
    (c_law_added : PySem.W.codeIn K (.ref ca_law_added) "_law_added" = true)
    (k_law_added : PySem.W.keepIn K (.ref f_law_added) = true)
    (e_law_added : codeAt K "_law_added" = ca_law_added)
    {od_law_left an_law_left : Option Addr} {sl_law_left : Array (Option Value)} {oc_law_left kV_law_left dc_law_left pm_law_left ct_law_left : Value} {ca_law_left : Addr}
    (a_law_left : PySem.W.nsIn K mainGlobals "_law_left" = some (some (.ref f_law_left)))
    (l_law_left : K.lookup f_law_left = some ⟨oc_law_left, od_law_left, .func (PySem.W.fnOf "_law_left" "_law_left" (defArgs s_law_left) (defBody s_law_left) (defScope s_law_left) .none kV_law_left dc_law_left pm_law_left an_law_left (.ref ca_law_left) ct_law_left), sl_law_left⟩)
    (c_law_left : PySem.W.codeIn K (.ref ca_law_left) "_law_left" = true)
    (k_law_left : PySem.W.keepIn K (.ref f_law_left) = true)
    (e_law_left : codeAt K "_law_left" = ca_law_left)
    {od_law_added_due an_law_added_due : Option Addr} {sl_law_added_due : Array (Option Value)} {oc_law_added_due kV_law_added_due dc_law_added_due pm_law_added_due cd_law_added_due ct_law_added_due : Value}
    (a_law_added_due : PySem.W.nsIn K mainGlobals "_law_added_due" = some (some (.ref f_law_added_due)))
    (l_law_added_due : K.lookup f_law_added_due = some ⟨oc_law_added_due, od_law_added_due, .func (PySem.W.fnOf "_law_added_due" "_law_added_due" (defArgs s_law_added_due) (defBody s_law_added_due) (defScope s_law_added_due) .none kV_law_added_due dc_law_added_due pm_law_added_due an_law_added_due cd_law_added_due ct_law_added_due), sl_law_added_due⟩)
    (c_law_added_due : PySem.W.codeIn K cd_law_added_due "_law_added_due" = true)
    (k_law_added_due : PySem.W.keepIn K (.ref f_law_added_due) = true)
    {od_law_left_due an_law_left_due : Option Addr} {sl_law_left_due : Array (Option Value)} {oc_law_left_due kV_law_left_due dc_law_left_due pm_law_left_due cd_law_left_due ct_law_left_due : Value}
    (a_law_left_due : PySem.W.nsIn K mainGlobals "_law_left_due" = some (some (.ref f_law_left_due)))
    (l_law_left_due : K.lookup f_law_left_due = some ⟨oc_law_left_due, od_law_left_due, .func (PySem.W.fnOf "_law_left_due" "_law_left_due" (defArgs s_law_left_due) (defBody s_law_left_due) (defScope s_law_left_due) .none kV_law_left_due dc_law_left_due pm_law_left_due an_law_left_due cd_law_left_due ct_law_left_due), sl_law_left_due⟩)
    (c_law_left_due : PySem.W.codeIn K cd_law_left_due "_law_left_due" = true)
    (k_law_left_due : PySem.W.keepIn K (.ref f_law_left_due) = true)
    {od_law an_law : Option Addr} {sl_law : Array (Option Value)} {oc_law kV_law dc_law pm_law ct_law : Value} {ca_law : Addr}
    (a_law : PySem.W.nsIn K mainGlobals "law" = some (some (.ref f_law)))
    (l_law : K.lookup f_law = some ⟨oc_law, od_law, .func (PySem.W.fnOf "law" "law" (defArgs s_law) (defBody s_law) (defScope s_law) .none kV_law dc_law pm_law an_law (.ref ca_law) ct_law), sl_law⟩)
    (c_law : PySem.W.codeIn K (.ref ca_law) "law" = true)
    (k_law : PySem.W.keepIn K (.ref f_law) = true)
    (e_law : codeAt K "law" = ca_law)
    {od_InvalidWord an_InvalidWord : Option Addr} {sl_InvalidWord : Array (Option Value)} {oc_InvalidWord kV_InvalidWord dc_InvalidWord pm_InvalidWord cd_InvalidWord ct_InvalidWord : Value}
    (a_InvalidWord : PySem.W.nsIn K mainGlobals "InvalidWord" = some (some (.ref C_InvalidWord)))
    (x_InvalidWord : PySem.W.excInitIn K C_InvalidWord mroV "ValueError.__new__" = true)
    (w_InvalidWord : PySem.W.excOver K C_InvalidWord mroV = true)
    (s_InvalidWord : PySem.W.findIn K (.ref C_InvalidWord) "__setattr__" = some (some (.builtin "object.__setattr__")))
    (q_InvalidWord : PySem.W.keepIn K (.ref C_InvalidWord) = true)
    (hg_InvalidWord : PySem.W.findIn K (.ref C_InvalidWord) "__getattribute__" = some (some (.builtin "BaseException.__getattribute__")))
    (hk_InvalidWord : PySem.W.findIn K (.ref C_InvalidWord) "__getattr__" = some none)
    (hs_InvalidWord : PySem.W.subIn K (.ref C_InvalidWord) (.type "BaseException") = some true)
    (hd_InvalidWord : PySem.W.hasDictIn K C_InvalidWord = true)
    (ha_InvalidWord : PySem.W.findIn K (.ref C_InvalidWord) "__class__" = some (some (.builtin "object.__class__")))
    (hm_InvalidWord : PySem.W.mroIn K C_InvalidWord (.type "object") = some true)
    (ty_InvalidWord : PySem.W.typeIn K (.ref C_InvalidWord) = some (.type "type"))
    (n_InvalidWord : PySem.W.findIn K (.ref C_InvalidWord) "word" = some none)
    (i_InvalidWord' : PySem.W.findIn K (.ref C_InvalidWord) "__init__" = some (some (.ref i_InvalidWord)))
    (t_InvalidWord : PySem.W.typeIn K (.ref i_InvalidWord) = some (.type "function"))
    (l_InvalidWord : K.lookup i_InvalidWord = some ⟨oc_InvalidWord, od_InvalidWord, .func (PySem.W.fnOf "__init__" "InvalidWord.__init__" (defArgs s_InvalidWord___init) (defBody s_InvalidWord___init) (defScope s_InvalidWord___init) .none kV_InvalidWord dc_InvalidWord pm_InvalidWord an_InvalidWord cd_InvalidWord ct_InvalidWord), sl_InvalidWord⟩)
    (c_InvalidWord : PySem.W.codeIn K cd_InvalidWord "InvalidWord.__init__" = true)
    (k_InvalidWord : PySem.W.keepIn K (.ref i_InvalidWord) = true)
    {od_InvalidSample an_InvalidSample : Option Addr} {sl_InvalidSample : Array (Option Value)} {oc_InvalidSample kV_InvalidSample dc_InvalidSample pm_InvalidSample cd_InvalidSample ct_InvalidSample : Value}
    (a_InvalidSample : PySem.W.nsIn K mainGlobals "InvalidSample" = some (some (.ref C_InvalidSample)))
    (x_InvalidSample : PySem.W.excInitIn K C_InvalidSample mroV "ValueError.__new__" = true)
    (w_InvalidSample : PySem.W.excOver K C_InvalidSample mroV = true)
    (s_InvalidSample : PySem.W.findIn K (.ref C_InvalidSample) "__setattr__" = some (some (.builtin "object.__setattr__")))
    (q_InvalidSample : PySem.W.keepIn K (.ref C_InvalidSample) = true)
    (hg_InvalidSample : PySem.W.findIn K (.ref C_InvalidSample) "__getattribute__" = some (some (.builtin "BaseException.__getattribute__")))
    (hk_InvalidSample : PySem.W.findIn K (.ref C_InvalidSample) "__getattr__" = some none)
    (hs_InvalidSample : PySem.W.subIn K (.ref C_InvalidSample) (.type "BaseException") = some true)
    (hd_InvalidSample : PySem.W.hasDictIn K C_InvalidSample = true)
    (ha_InvalidSample : PySem.W.findIn K (.ref C_InvalidSample) "__class__" = some (some (.builtin "object.__class__")))
    (hm_InvalidSample : PySem.W.mroIn K C_InvalidSample (.type "object") = some true)
    (ty_InvalidSample : PySem.W.typeIn K (.ref C_InvalidSample) = some (.type "type"))
    (n_InvalidSample : PySem.W.findIn K (.ref C_InvalidSample) "word" = some none)
    (i_InvalidSample' : PySem.W.findIn K (.ref C_InvalidSample) "__init__" = some (some (.ref i_InvalidSample)))
    (t_InvalidSample : PySem.W.typeIn K (.ref i_InvalidSample) = some (.type "function"))
    (l_InvalidSample : K.lookup i_InvalidSample = some ⟨oc_InvalidSample, od_InvalidSample, .func (PySem.W.fnOf "__init__" "InvalidSample.__init__" (defArgs s_InvalidSample___init) (defBody s_InvalidSample___init) (defScope s_InvalidSample___init) .none kV_InvalidSample dc_InvalidSample pm_InvalidSample an_InvalidSample cd_InvalidSample ct_InvalidSample), sl_InvalidSample⟩)
    (c_InvalidSample : PySem.W.codeIn K cd_InvalidSample "InvalidSample.__init__" = true)
    (k_InvalidSample : PySem.W.keepIn K (.ref i_InvalidSample) = true)
    {od_TooLarge an_TooLarge : Option Addr} {sl_TooLarge : Array (Option Value)} {oc_TooLarge kV_TooLarge dc_TooLarge pm_TooLarge cd_TooLarge ct_TooLarge : Value}
    (a_TooLarge : PySem.W.nsIn K mainGlobals "TooLarge" = some (some (.ref C_TooLarge)))
    (x_TooLarge : PySem.W.excInitIn K C_TooLarge mroA "ArithmeticError.__new__" = true)
    (w_TooLarge : PySem.W.excOver K C_TooLarge mroA = true)
    (s_TooLarge : PySem.W.findIn K (.ref C_TooLarge) "__setattr__" = some (some (.builtin "object.__setattr__")))
    (q_TooLarge : PySem.W.keepIn K (.ref C_TooLarge) = true)
    (hg_TooLarge : PySem.W.findIn K (.ref C_TooLarge) "__getattribute__" = some (some (.builtin "BaseException.__getattribute__")))
    (hk_TooLarge : PySem.W.findIn K (.ref C_TooLarge) "__getattr__" = some none)
    (hs_TooLarge : PySem.W.subIn K (.ref C_TooLarge) (.type "BaseException") = some true)
    (hd_TooLarge : PySem.W.hasDictIn K C_TooLarge = true)
    (ha_TooLarge : PySem.W.findIn K (.ref C_TooLarge) "__class__" = some (some (.builtin "object.__class__")))
    (hm_TooLarge : PySem.W.mroIn K C_TooLarge (.type "object") = some true)
    (ty_TooLarge : PySem.W.typeIn K (.ref C_TooLarge) = some (.type "type"))
    (n_TooLarge : PySem.W.findIn K (.ref C_TooLarge) "limit" = some none)
    (i_TooLarge' : PySem.W.findIn K (.ref C_TooLarge) "__init__" = some (some (.ref i_TooLarge)))
    (t_TooLarge : PySem.W.typeIn K (.ref i_TooLarge) = some (.type "function"))
    (l_TooLarge : K.lookup i_TooLarge = some ⟨oc_TooLarge, od_TooLarge, .func (PySem.W.fnOf "__init__" "TooLarge.__init__" (defArgs s_TooLarge___init) (defBody s_TooLarge___init) (defScope s_TooLarge___init) .none kV_TooLarge dc_TooLarge pm_TooLarge an_TooLarge cd_TooLarge ct_TooLarge), sl_TooLarge⟩)
    (c_TooLarge : PySem.W.codeIn K cd_TooLarge "TooLarge.__init__" = true)
    (k_TooLarge : PySem.W.keepIn K (.ref i_TooLarge) = true)
    {od_DuplicateWord an_DuplicateWord : Option Addr} {sl_DuplicateWord : Array (Option Value)} {oc_DuplicateWord kV_DuplicateWord dc_DuplicateWord pm_DuplicateWord cd_DuplicateWord ct_DuplicateWord : Value}
    (a_DuplicateWord : PySem.W.nsIn K mainGlobals "DuplicateWord" = some (some (.ref C_DuplicateWord)))
    (x_DuplicateWord : PySem.W.excInitIn K C_DuplicateWord mroK "LookupError.__new__" = true)
    (w_DuplicateWord : PySem.W.excOver K C_DuplicateWord mroK = true)
    (s_DuplicateWord : PySem.W.findIn K (.ref C_DuplicateWord) "__setattr__" = some (some (.builtin "object.__setattr__")))
    (q_DuplicateWord : PySem.W.keepIn K (.ref C_DuplicateWord) = true)
    (hg_DuplicateWord : PySem.W.findIn K (.ref C_DuplicateWord) "__getattribute__" = some (some (.builtin "BaseException.__getattribute__")))
    (hk_DuplicateWord : PySem.W.findIn K (.ref C_DuplicateWord) "__getattr__" = some none)
    (hs_DuplicateWord : PySem.W.subIn K (.ref C_DuplicateWord) (.type "BaseException") = some true)
    (hd_DuplicateWord : PySem.W.hasDictIn K C_DuplicateWord = true)
    (ha_DuplicateWord : PySem.W.findIn K (.ref C_DuplicateWord) "__class__" = some (some (.builtin "object.__class__")))
    (hm_DuplicateWord : PySem.W.mroIn K C_DuplicateWord (.type "object") = some true)
    (ty_DuplicateWord : PySem.W.typeIn K (.ref C_DuplicateWord) = some (.type "type"))
    (n_DuplicateWord : PySem.W.findIn K (.ref C_DuplicateWord) "word" = some none)
    (i_DuplicateWord' : PySem.W.findIn K (.ref C_DuplicateWord) "__init__" = some (some (.ref i_DuplicateWord)))
    (t_DuplicateWord : PySem.W.typeIn K (.ref i_DuplicateWord) = some (.type "function"))
    (l_DuplicateWord : K.lookup i_DuplicateWord = some ⟨oc_DuplicateWord, od_DuplicateWord, .func (PySem.W.fnOf "__init__" "DuplicateWord.__init__" (defArgs s_DuplicateWord___init) (defBody s_DuplicateWord___init) (defScope s_DuplicateWord___init) .none kV_DuplicateWord dc_DuplicateWord pm_DuplicateWord an_DuplicateWord cd_DuplicateWord ct_DuplicateWord), sl_DuplicateWord⟩)
    (c_DuplicateWord : PySem.W.codeIn K cd_DuplicateWord "DuplicateWord.__init__" = true)
    (k_DuplicateWord : PySem.W.keepIn K (.ref i_DuplicateWord) = true)
    {od_UnknownWord an_UnknownWord : Option Addr} {sl_UnknownWord : Array (Option Value)} {oc_UnknownWord kV_UnknownWord dc_UnknownWord pm_UnknownWord cd_UnknownWord ct_UnknownWord : Value}
    (a_UnknownWord : PySem.W.nsIn K mainGlobals "UnknownWord" = some (some (.ref C_UnknownWord)))
    (x_UnknownWord : PySem.W.excInitIn K C_UnknownWord mroK "LookupError.__new__" = true)
    (w_UnknownWord : PySem.W.excOver K C_UnknownWord mroK = true)
    (s_UnknownWord : PySem.W.findIn K (.ref C_UnknownWord) "__setattr__" = some (some (.builtin "object.__setattr__")))
    (q_UnknownWord : PySem.W.keepIn K (.ref C_UnknownWord) = true)
    (hg_UnknownWord : PySem.W.findIn K (.ref C_UnknownWord) "__getattribute__" = some (some (.builtin "BaseException.__getattribute__")))
    (hk_UnknownWord : PySem.W.findIn K (.ref C_UnknownWord) "__getattr__" = some none)
    (hs_UnknownWord : PySem.W.subIn K (.ref C_UnknownWord) (.type "BaseException") = some true)
    (hd_UnknownWord : PySem.W.hasDictIn K C_UnknownWord = true)
    (ha_UnknownWord : PySem.W.findIn K (.ref C_UnknownWord) "__class__" = some (some (.builtin "object.__class__")))
    (hm_UnknownWord : PySem.W.mroIn K C_UnknownWord (.type "object") = some true)
    (ty_UnknownWord : PySem.W.typeIn K (.ref C_UnknownWord) = some (.type "type"))
    (n_UnknownWord : PySem.W.findIn K (.ref C_UnknownWord) "word" = some none)
    (i_UnknownWord' : PySem.W.findIn K (.ref C_UnknownWord) "__init__" = some (some (.ref i_UnknownWord)))
    (t_UnknownWord : PySem.W.typeIn K (.ref i_UnknownWord) = some (.type "function"))
    (l_UnknownWord : K.lookup i_UnknownWord = some ⟨oc_UnknownWord, od_UnknownWord, .func (PySem.W.fnOf "__init__" "UnknownWord.__init__" (defArgs s_UnknownWord___init) (defBody s_UnknownWord___init) (defScope s_UnknownWord___init) .none kV_UnknownWord dc_UnknownWord pm_UnknownWord an_UnknownWord cd_UnknownWord ct_UnknownWord), sl_UnknownWord⟩)
    (c_UnknownWord : PySem.W.codeIn K cd_UnknownWord "UnknownWord.__init__" = true)
    (k_UnknownWord : PySem.W.keepIn K (.ref i_UnknownWord) = true)
    (a_InvalidLetters : PySem.W.nsIn K mainGlobals "InvalidLetters" = some (some (.ref C_InvalidLetters)))
    (x_InvalidLetters : PySem.W.excIn K C_InvalidLetters mroV "ValueError.__new__" = true)
    (hg_InvalidLetters : PySem.W.findIn K (.ref C_InvalidLetters) "__getattribute__" = some (some (.builtin "BaseException.__getattribute__")))
    (hk_InvalidLetters : PySem.W.findIn K (.ref C_InvalidLetters) "__getattr__" = some none)
    (hs_InvalidLetters : PySem.W.subIn K (.ref C_InvalidLetters) (.type "BaseException") = some true)
    (hd_InvalidLetters : PySem.W.hasDictIn K C_InvalidLetters = true)
    (ha_InvalidLetters : PySem.W.findIn K (.ref C_InvalidLetters) "__class__" = some (some (.builtin "object.__class__")))
    (hm_InvalidLetters : PySem.W.mroIn K C_InvalidLetters (.type "object") = some true)
    (ty_InvalidLetters : PySem.W.typeIn K (.ref C_InvalidLetters) = some (.type "type"))
    (k_InvalidLetters : PySem.W.keepIn K (.ref C_InvalidLetters) = true)
    (spec : PySem.W.specialIn K (.builtin "object.__class__") "__get__" = some (some (.builtin "getset_descriptor.__get__")))
    (take : PySem.W.takesIn K (.builtin "object.__class__") = some true)
    {C_Sample f_S T_S D1 D2 : Addr} {oT : Value} {dT : Option Addr} {nT n1 n2 : Nat} {slT sl1 sl2 : Array (Option Value)} {od_S an_S : Option Addr} {sl_S : Array (Option Value)} {oc_S kV_S dc_S pm_S cd_S ct_S : Value} {od_mark an_mark : Option Addr} {sl_mark : Array (Option Value)} {oc_mark kV_mark dc_mark pm_mark cd_mark ct_mark : Value} {od_eq an_eq : Option Addr} {sl_eq : Array (Option Value)} {oc_eq kV_eq dc_eq pm_eq cd_eq ct_eq : Value} {od_adding an_adding : Option Addr} {sl_adding : Array (Option Value)} {oc_adding dc_adding pm_adding cd_adding ct_adding : Value} {od_without an_without : Option Addr} {sl_without : Array (Option Value)} {oc_without kV_without dc_without pm_without cd_without ct_without : Value} {od_letters an_letters : Option Addr} {sl_letters : Array (Option Value)} {oc_letters kV_letters dc_letters pm_letters cd_letters ct_letters : Value} {od_yes an_yes : Option Addr} {sl_yes : Array (Option Value)} {oc_yes kV_yes dc_yes pm_yes cd_yes ct_yes : Value} {od_no an_no : Option Addr} {sl_no : Array (Option Value)} {oc_no kV_no dc_no pm_no cd_no ct_no : Value}
    {f_mark f_eq f_adding f_without f_letters p_letters f_yes p_yes f_no p_no : Addr} {rs_letters rs_yes rs_no : List Value}
    (a_Sample : PySem.W.nsIn K mainGlobals "Sample" = some (some (.ref C_Sample)))
    (mk_S : PySem.W.makesIn K C_Sample = true)
    (kp_S : PySem.W.keepIn K (.ref C_Sample) = true)
    (pg_S : PySem.W.plainGet K C_Sample Str.empty = true)
    (hd_S : PySem.W.hasDictIn K C_Sample = true)
    (po_S : PySem.W.plainOver K C_Sample = true)
    (sa_S : PySem.W.findIn K (.ref C_Sample) "__setattr__" = some (some (.builtin "object.__setattr__")))
    (n0_S : PySem.W.findIn K (.ref C_Sample) "_letters" = some none)
    (n1_S : PySem.W.findIn K (.ref C_Sample) "_marks" = some none)
    (n2_S : PySem.W.findIn K (.ref C_Sample) "_yes" = some none)
    (n3_S : PySem.W.findIn K (.ref C_Sample) "_no" = some none)
    (n4_S : PySem.W.findIn K (.ref C_Sample) "_prefixes" = some none)
    (i_S : PySem.W.findIn K (.ref C_Sample) "__init__" = some (some (.ref f_S)))
    (l_S : K.lookup f_S = some ⟨oc_S, od_S, .func (PySem.W.fnOf "__init__" "Sample.__init__" (defArgs s_Sample___init) (defBody s_Sample___init) (defScope s_Sample___init) (.ref T_S) kV_S dc_S pm_S an_S cd_S ct_S), sl_S⟩)
    (c_S : PySem.W.codeIn K cd_S "Sample.__init__" = true)
    (k_S : PySem.W.keepIn K (.ref f_S) = true)
    (fn_S : PySem.W.isFn K (.ref f_S) = true)
    (lT_S : K.lookup T_S = some ⟨oT, dT, .seq #[.ref D1, .ref D2] nT, slT⟩)
    (l1_S : K.lookup D1 = some ⟨.type "tuple", none, .seq #[] n1, sl1⟩)
    (l2_S : K.lookup D2 = some ⟨.type "tuple", none, .seq #[] n2, sl2⟩)
    (at_letters : PySem.W.findIn K (.ref C_Sample) "letters" = some (some (.ref p_letters)))
    (ge_letters : PySem.W.specialIn K (.ref p_letters) "__get__" = some (some (.builtin "property.__get__")))
    (ta_letters : PySem.W.takesIn K (.ref p_letters) = some true)
    (re_letters : PySem.W.recIn K p_letters "property" = some (.ref f_letters :: rs_letters))
    (l_letters : K.lookup f_letters = some ⟨oc_letters, od_letters, .func (PySem.W.fnOf "letters" "Sample.letters" (defArgs s_Sample_letters) (defBody s_Sample_letters) (defScope s_Sample_letters) .none kV_letters dc_letters pm_letters an_letters cd_letters ct_letters), sl_letters⟩)
    (c_letters : PySem.W.codeIn K cd_letters "Sample.letters" = true)
    (k_letters : PySem.W.keepIn K (.ref f_letters) = true)
    (at_yes : PySem.W.findIn K (.ref C_Sample) "yes" = some (some (.ref p_yes)))
    (ge_yes : PySem.W.specialIn K (.ref p_yes) "__get__" = some (some (.builtin "property.__get__")))
    (ta_yes : PySem.W.takesIn K (.ref p_yes) = some true)
    (re_yes : PySem.W.recIn K p_yes "property" = some (.ref f_yes :: rs_yes))
    (l_yes : K.lookup f_yes = some ⟨oc_yes, od_yes, .func (PySem.W.fnOf "yes" "Sample.yes" (defArgs s_Sample_yes) (defBody s_Sample_yes) (defScope s_Sample_yes) .none kV_yes dc_yes pm_yes an_yes cd_yes ct_yes), sl_yes⟩)
    (c_yes : PySem.W.codeIn K cd_yes "Sample.yes" = true)
    (k_yes : PySem.W.keepIn K (.ref f_yes) = true)
    (at_no : PySem.W.findIn K (.ref C_Sample) "no" = some (some (.ref p_no)))
    (ge_no : PySem.W.specialIn K (.ref p_no) "__get__" = some (some (.builtin "property.__get__")))
    (ta_no : PySem.W.takesIn K (.ref p_no) = some true)
    (re_no : PySem.W.recIn K p_no "property" = some (.ref f_no :: rs_no))
    (l_no : K.lookup f_no = some ⟨oc_no, od_no, .func (PySem.W.fnOf "no" "Sample.no" (defArgs s_Sample_no) (defBody s_Sample_no) (defScope s_Sample_no) .none kV_no dc_no pm_no an_no cd_no ct_no), sl_no⟩)
    (c_no : PySem.W.codeIn K cd_no "Sample.no" = true)
    (k_no : PySem.W.keepIn K (.ref f_no) = true)
    (at_mark : PySem.W.findIn K (.ref C_Sample) "mark" = some (some (.ref f_mark)))
    (fn_mark : PySem.W.isFn K (.ref f_mark) = true)
    (l_mark : K.lookup f_mark = some ⟨oc_mark, od_mark, .func (PySem.W.fnOf "mark" "Sample.mark" (defArgs s_Sample_mark) (defBody s_Sample_mark) (defScope s_Sample_mark) .none kV_mark dc_mark pm_mark an_mark cd_mark ct_mark), sl_mark⟩)
    (c_mark : PySem.W.codeIn K cd_mark "Sample.mark" = true)
    (k_mark : PySem.W.keepIn K (.ref f_mark) = true)
    (at_eq : PySem.W.findIn K (.ref C_Sample) "__eq__" = some (some (.ref f_eq)))
    (fn_eq : PySem.W.isFn K (.ref f_eq) = true)
    (l_eq : K.lookup f_eq = some ⟨oc_eq, od_eq, .func (PySem.W.fnOf "__eq__" "Sample.__eq__" (defArgs s_Sample___eq) (defBody s_Sample___eq) (defScope s_Sample___eq) .none kV_eq dc_eq pm_eq an_eq cd_eq ct_eq), sl_eq⟩)
    (c_eq : PySem.W.codeIn K cd_eq "Sample.__eq__" = true)
    (k_eq : PySem.W.keepIn K (.ref f_eq) = true)
    {D_kw : Addr}
    (at_adding : PySem.W.findIn K (.ref C_Sample) "adding" = some (some (.ref f_adding)))
    (fn_adding : PySem.W.isFn K (.ref f_adding) = true)
    (l_adding : K.lookup f_adding = some ⟨oc_adding, od_adding, .func (PySem.W.fnOf "adding" "Sample.adding" (defArgs s_Sample_adding) (defBody s_Sample_adding) (defScope s_Sample_adding) .none (.ref D_kw) dc_adding pm_adding an_adding cd_adding ct_adding), sl_adding⟩)
    (c_adding : PySem.W.codeIn K cd_adding "Sample.adding" = true)
    (k_adding : PySem.W.keepIn K (.ref f_adding) = true)
    (kw_adding : PySem.W.nsIn K D_kw "mark" = some (some (.bool true)))
    (at_without : PySem.W.findIn K (.ref C_Sample) "without" = some (some (.ref f_without)))
    (fn_without : PySem.W.isFn K (.ref f_without) = true)
    (l_without : K.lookup f_without = some ⟨oc_without, od_without, .func (PySem.W.fnOf "without" "Sample.without" (defArgs s_Sample_without) (defBody s_Sample_without) (defScope s_Sample_without) .none kV_without dc_without pm_without an_without cd_without ct_without), sl_without⟩)
    (c_without : PySem.W.codeIn K cd_without "Sample.without" = true)
    (k_without : PySem.W.keepIn K (.ref f_without) = true)
    (atne : PySem.W.findIn K (.ref C_Sample) "__ne__" = some (some (.builtin "object.__ne__")))
    (kt_NoneType : PySem.W.kitOne K (.type "NoneType") (.ref C_Sample) = some false)
    (su_NoneType : PySem.W.subIn K (.type "NoneType") (.ref C_Sample) = some false)
    (kt_bool : PySem.W.kitOne K (.type "bool") (.ref C_Sample) = some false)
    (su_bool : PySem.W.subIn K (.type "bool") (.ref C_Sample) = some false)
    (kt_int : PySem.W.kitOne K (.type "int") (.ref C_Sample) = some false)
    (su_int : PySem.W.subIn K (.type "int") (.ref C_Sample) = some false)
    (kt_str : PySem.W.kitOne K (.type "str") (.ref C_Sample) = some false)
    (su_str : PySem.W.subIn K (.type "str") (.ref C_Sample) = some false)
    (kt_list : PySem.W.kitOne K (.type "list") (.ref C_Sample) = some false)
    (su_list : PySem.W.subIn K (.type "list") (.ref C_Sample) = some false)
    (kt_tuple : PySem.W.kitOne K (.type "tuple") (.ref C_Sample) = some false)
    (su_tuple : PySem.W.subIn K (.type "tuple") (.ref C_Sample) = some false)
    (kt_dict : PySem.W.kitOne K (.type "dict") (.ref C_Sample) = some false)
    (su_dict : PySem.W.subIn K (.type "dict") (.ref C_Sample) = some false)
    (kt_own : PySem.W.kitOne K (.ref C_Sample) (.ref C_Sample) = some true)
    (ca_S : PySem.W.findIn K (.ref C_Sample) "__class__" = some (some (.builtin "object.__class__")))
    (mo_S : PySem.W.mroIn K C_Sample (.type "object") = some true)
    (sWW : PySem.W.subIn K (.ref C_InvalidWord) (.ref C_InvalidWord) = some true)
    (sDW : PySem.W.subIn K (.ref C_DuplicateWord) (.ref C_InvalidWord) = some false)
    (sDD : PySem.W.subIn K (.ref C_DuplicateWord) (.ref C_DuplicateWord) = some true)
    (sUW : PySem.W.subIn K (.ref C_UnknownWord) (.ref C_InvalidWord) = some false)
    (sUD : PySem.W.subIn K (.ref C_UnknownWord) (.ref C_DuplicateWord) = some false)
    (sUU : PySem.W.subIn K (.ref C_UnknownWord) (.ref C_UnknownWord) = some true)
    (kWV : PySem.W.kitOne K (.ref C_InvalidWord) (.type "ValueError") = some true)
    (kDK : PySem.W.kitOne K (.ref C_DuplicateWord) (.type "KeyError") = some true)
    (kUK : PySem.W.kitOne K (.ref C_UnknownWord) (.type "KeyError") = some true)
    (z_list : PySem.W.nsIn K mainGlobals "list" = some none)
    (z_len : PySem.W.nsIn K mainGlobals "len" = some none)
    (z_abs : PySem.W.nsIn K mainGlobals "abs" = some none)
    (z_range : PySem.W.nsIn K mainGlobals "range" = some none)
    (z_sorted : PySem.W.nsIn K mainGlobals "sorted" = some none)
    (z_repr : PySem.W.nsIn K mainGlobals "repr" = some none)
    (z_isinstance : PySem.W.nsIn K mainGlobals "isinstance" = some none)
    (z_tuple : PySem.W.nsIn K mainGlobals "tuple" = some none)
    (z_str : PySem.W.nsIn K mainGlobals "str" = some none)
    (z_int : PySem.W.nsIn K mainGlobals "int" = some none)
    (z_bool : PySem.W.nsIn K mainGlobals "bool" = some none)
    (z_all : PySem.W.nsIn K mainGlobals "all" = some none)
    (z_any : PySem.W.nsIn K mainGlobals "any" = some none)
    (z_enumerate : PySem.W.nsIn K mainGlobals "enumerate" = some none)
    (z_dict : PySem.W.nsIn K mainGlobals "dict" = some none)
    (z_set : PySem.W.nsIn K mainGlobals "set" = some none)
    (z_max : PySem.W.nsIn K mainGlobals "max" = some none)
    (z_min : PySem.W.nsIn K mainGlobals "min" = some none)
    (z_ValueError : PySem.W.nsIn K mainGlobals "ValueError" = some none)
    (z_KeyError : PySem.W.nsIn K mainGlobals "KeyError" = some none)
    (z_IndexError : PySem.W.nsIn K mainGlobals "IndexError" = some none)
    (z_ArithmeticError : PySem.W.nsIn K mainGlobals "ArithmeticError" = some none)
    (z_LookupError : PySem.W.nsIn K mainGlobals "LookupError" = some none)
    {tk_MOST_LETTERS : Tok}
    (g_MOST_LETTERS : PySem.W.nsIn K mainGlobals "MOST_LETTERS" = some (some (.int 4 tk_MOST_LETTERS)))
    {tk_LENGTH : Tok}
    (g_LENGTH : PySem.W.nsIn K mainGlobals "LENGTH" = some (some (.int 12 tk_LENGTH)))
    {tk_WORDS : Tok}
    (g_WORDS : PySem.W.nsIn K mainGlobals "WORDS" = some (some (.int 200 tk_WORDS)))
    {tk_PREFIXES : Tok}
    (g_PREFIXES : PySem.W.nsIn K mainGlobals "PREFIXES" = some (some (.int 600 tk_PREFIXES)))
    : ∃ fd : FuncData, (∀ (t : Shared) (v : Value), BindsTo t fd ⟨[v], []⟩ [("script", v)]) ∧ ∀ base : Heap, K.In base → base.Ns mainGlobals mg → Mods base → (∀ p ∈ makers, LamX.TabB base mg (codeAt K p.1) (tabAt K p.1)) → FnG l.prog w K mg base CX0 13 fa fd ["script"] (spLaw K (tabsOf K makers)) := by
  have e := hfa.symm.trans (PySem.W.mg_of X G a_law)
  cases e
  have Z_list := PySem.W.mg_none_of X G z_list
  have Z_len := PySem.W.mg_none_of X G z_len
  have Z_abs := PySem.W.mg_none_of X G z_abs
  have Z_range := PySem.W.mg_none_of X G z_range
  have Z_sorted := PySem.W.mg_none_of X G z_sorted
  have Z_repr := PySem.W.mg_none_of X G z_repr
  have Z_isinstance := PySem.W.mg_none_of X G z_isinstance
  have Z_tuple := PySem.W.mg_none_of X G z_tuple
  have Z_str := PySem.W.mg_none_of X G z_str
  have Z_int := PySem.W.mg_none_of X G z_int
  have Z_bool := PySem.W.mg_none_of X G z_bool
  have Z_all := PySem.W.mg_none_of X G z_all
  have Z_any := PySem.W.mg_none_of X G z_any
  have Z_enumerate := PySem.W.mg_none_of X G z_enumerate
  have Z_dict := PySem.W.mg_none_of X G z_dict
  have Z_set := PySem.W.mg_none_of X G z_set
  have Z_max := PySem.W.mg_none_of X G z_max
  have Z_min := PySem.W.mg_none_of X G z_min
  have Z_ValueError := PySem.W.mg_none_of X G z_ValueError
  have Z_KeyError := PySem.W.mg_none_of X G z_KeyError
  have Z_IndexError := PySem.W.mg_none_of X G z_IndexError
  have Z_ArithmeticError := PySem.W.mg_none_of X G z_ArithmeticError
  have Z_LookupError := PySem.W.mg_none_of X G z_LookupError
  have T0 : Txt K mg := { z_list := Z_list, z_len := Z_len, z_abs := Z_abs, z_range := Z_range, z_sorted := Z_sorted, z_repr := Z_repr, z_isinstance := Z_isinstance, z_tuple := Z_tuple, z_str := Z_str, z_int := Z_int, z_bool := Z_bool, z_all := Z_all, z_any := Z_any, z_enumerate := Z_enumerate, z_dict := Z_dict, z_set := Z_set, z_max := Z_max, z_min := Z_min, z_ValueError := Z_ValueError, z_KeyError := Z_KeyError, z_IndexError := Z_IndexError, z_ArithmeticError := Z_ArithmeticError, z_LookupError := Z_LookupError }
  have T : TxtS K mg := ⟨⟨T0, ⟨_, PySem.W.mg_of X G g_MOST_LETTERS⟩⟩, ⟨_, PySem.W.mg_of X G g_LENGTH⟩, ⟨_, PySem.W.mg_of X G g_WORDS⟩, ⟨_, PySem.W.mg_of X G g_PREFIXES⟩⟩
  have F_is_sequence := fun_mk (st := s_is_sequence) l_is_sequence c_is_sequence k_is_sequence
  have b_is_sequence := F_is_sequence.binds (ps := ["value"]) fun _ _ _ _ _ _ us hl => match us, hl with | [_], _ => rfl
  have F_word_order := fun_mk (st := s_word_order) l_word_order c_word_order k_word_order
  have b_word_order := F_word_order.binds (ps := ["words"]) fun _ _ _ _ _ _ us hl => match us, hl with | [_], _ => rfl
  have F_are_letters := fun_mk (st := s_are_letters) l_are_letters c_are_letters k_are_letters
  have b_are_letters := F_are_letters.binds (ps := ["value"]) fun _ _ _ _ _ _ us hl => match us, hl with | [_], _ => rfl
  have F_is_word := fun_mk (st := s_is_word) l_is_word c_is_word k_is_word
  have b_is_word := F_is_word.binds (ps := ["value", "letters"]) fun _ _ _ _ _ _ us hl => match us, hl with | [_, _], _ => rfl
  have F_is_word_up_to := fun_mk (st := s_is_word_up_to) l_is_word_up_to c_is_word_up_to k_is_word_up_to
  have b_is_word_up_to := F_is_word_up_to.binds (ps := ["value", "letters", "length"]) fun _ _ _ _ _ _ us hl => match us, hl with | [_, _, _], _ => rfl
  have F_add_beginnings := fun_mk (st := s_add_beginnings) l_add_beginnings c_add_beginnings k_add_beginnings
  have b_add_beginnings := F_add_beginnings.binds (ps := ["found", "word"]) fun _ _ _ _ _ _ us hl => match us, hl with | [_, _], _ => rfl
  have F_prefixes_of := fun_mk (st := s_prefixes_of) l_prefixes_of c_prefixes_of k_prefixes_of
  have b_prefixes_of := F_prefixes_of.binds (ps := ["words"]) fun _ _ _ _ _ _ us hl => match us, hl with | [_], _ => rfl
  have F_check_words := fun_mk (st := s_check_words) l_check_words c_check_words k_check_words
  have b_check_words := F_check_words.binds (ps := ["words", "letters"]) fun _ _ _ _ _ _ us hl => match us, hl with | [_, _], _ => rfl
  have F_check_sequence := fun_mk (st := s_check_sequence) l_check_sequence c_check_sequence k_check_sequence
  have b_check_sequence := F_check_sequence.binds (ps := ["words", "letters"]) fun _ _ _ _ _ _ us hl => match us, hl with | [_, _], _ => rfl
  have F_law_pen := fun_mk (st := s_law_pen) l_law_pen c_law_pen k_law_pen
  have b_law_pen := F_law_pen.binds (ps := ["script"]) fun _ _ _ _ _ _ us hl => match us, hl with | [_], _ => rfl
  have F_law_draw := fun_mk (st := s_law_draw) l_law_draw c_law_draw k_law_draw
  have b_law_draw := F_law_draw.binds (ps := ["pen", "many"]) fun _ _ _ _ _ _ us hl => match us, hl with | [_, _], _ => rfl
  have F_law_pick := fun_mk (st := s_law_pick) l_law_pick c_law_pick k_law_pick
  have b_law_pick := F_law_pick.binds (ps := ["pen", "some"]) fun _ _ _ _ _ _ us hl => match us, hl with | [_, _], _ => rfl
  have F_law_shuffled := fun_mk (st := s_law_shuffled) l_law_shuffled c_law_shuffled k_law_shuffled
  have b_law_shuffled := F_law_shuffled.binds (ps := ["pen", "some"]) fun _ _ _ _ _ _ us hl => match us, hl with | [_, _], _ => rfl
  have F_law_letters := fun_mk (st := s_law_letters) l_law_letters c_law_letters k_law_letters
  have b_law_letters := F_law_letters.binds (ps := ["pen", "most"]) fun _ _ _ _ _ _ us hl => match us, hl with | [_, _], _ => rfl
  have F_law_word := fun_mk (st := s_law_word) l_law_word c_law_word k_law_word
  have b_law_word := F_law_word.binds (ps := ["pen", "letters", "most"]) fun _ _ _ _ _ _ us hl => match us, hl with | [_, _, _], _ => rfl
  have F_law_sorted := fun_mk (st := s_law_sorted) l_law_sorted c_law_sorted k_law_sorted
  have b_law_sorted := F_law_sorted.binds (ps := ["words"]) fun _ _ _ _ _ _ us hl => match us, hl with | [_], _ => rfl
  have F_law_table := fun_mk (st := s_law_table) l_law_table c_law_table k_law_table
  have b_law_table := F_law_table.binds (ps := ["pen", "letters", "size", "is_full"]) fun _ _ _ _ _ _ us hl => match us, hl with | [_, _, _, _], _ => rfl
  have F_law_led := fun_mk (st := s_law_led) l_law_led c_law_led k_law_led
  have b_law_led := F_law_led.binds (ps := ["letters", "rows", "word"]) fun _ _ _ _ _ _ us hl => match us, hl with | [_, _, _], _ => rfl
  have F_law_raw := fun_mk (st := s_law_raw) l_law_raw c_law_raw k_law_raw
  have b_law_raw := F_law_raw.binds (ps := ["pen", "most_letters", "many", "most"]) fun _ _ _ _ _ _ us hl => match us, hl with | [_, _, _, _], _ => rfl
  have F_law_made := fun_mk (st := s_law_made) l_law_made c_law_made k_law_made
  have b_law_made := F_law_made.binds (ps := ["raw"]) fun _ _ _ _ _ _ us hl => match us, hl with | [_], _ => rfl
  have F_law_odd := fun_mk (st := s_law_odd) l_law_odd c_law_odd k_law_odd
  have b_law_odd := F_law_odd.binds (ps := ["pen"]) fun _ _ _ _ _ _ us hl => match us, hl with | [_], _ => rfl
  have F_law_is_word := fun_mk (st := s_law_is_word) l_law_is_word c_law_is_word k_law_is_word
  have b_law_is_word := F_law_is_word.binds (ps := ["letters", "value"]) fun _ _ _ _ _ _ us hl => match us, hl with | [_, _], _ => rfl
  have F_law_caught := fun_mk (st := s_law_caught) l_law_caught c_law_caught k_law_caught
  have b_law_caught := F_law_caught.binds (ps := ["call"]) fun _ _ _ _ _ _ us hl => match us, hl with | [_], _ => rfl
  have F_law_added := fun_mk (st := s_law_added) l_law_added c_law_added k_law_added
  have b_law_added := F_law_added.binds (ps := ["sample", "words", "given"]) fun _ _ _ _ _ _ us hl => match us, hl with | [_, _, _], _ => rfl
  have F_law_left := fun_mk (st := s_law_left) l_law_left c_law_left k_law_left
  have b_law_left := F_law_left.binds (ps := ["sample", "words"]) fun _ _ _ _ _ _ us hl => match us, hl with | [_, _], _ => rfl
  have F_law_added_due := fun_mk (st := s_law_added_due) l_law_added_due c_law_added_due k_law_added_due
  have b_law_added_due := F_law_added_due.binds (ps := ["raw", "words", "given"]) fun _ _ _ _ _ _ us hl => match us, hl with | [_, _, _], _ => rfl
  have F_law_left_due := fun_mk (st := s_law_left_due) l_law_left_due c_law_left_due k_law_left_due
  have b_law_left_due := F_law_left_due.binds (ps := ["raw", "words"]) fun _ _ _ _ _ _ us hl => match us, hl with | [_, _], _ => rfl
  have F_law := fun_mk (st := s_law) l_law c_law k_law
  have b_law := F_law.binds (ps := ["script"]) fun _ _ _ _ _ _ us hl => match us, hl with | [_], _ => rfl
  refine ⟨PySem.W.fnOf "law" "law" (defArgs s_law) (defBody s_law) (defScope s_law) .none kV_law dc_law pm_law an_law (.ref ca_law) ct_law, fun t v => .of_eq rfl, fun base _ _ MB tb => ?_⟩
  have TB_law_added : LamX.TabB base mg ca_law_added (tabAt K "_law_added") := by
    have h : LamX.TabB base mg (codeAt K "_law_added") (tabAt K "_law_added") := tb ("_law_added", "_law_added.<locals>.<lambda>") (.head _)
    rw [e_law_added] at h
    exact h
  have hT_law_added : (tabAt K "_law_added", ("_law_added.<locals>.<lambda>" : Str)) ∈ tabsOf K makers := List.mem_map.mpr ⟨("_law_added", "_law_added.<locals>.<lambda>"), (.head _), rfl⟩
  have FL_law_added : FunL K "_law_added" "_law_added" s_law_added _ _ ca_law_added := ⟨⟨_, _, _, _, _, _, _, _, rfl, l_law_added, c_law_added⟩, k_law_added⟩
  have TB_law_left : LamX.TabB base mg ca_law_left (tabAt K "_law_left") := by
    have h : LamX.TabB base mg (codeAt K "_law_left") (tabAt K "_law_left") := tb ("_law_left", "_law_left.<locals>.<lambda>") (.tail _ (.head _))
    rw [e_law_left] at h
    exact h
  have hT_law_left : (tabAt K "_law_left", ("_law_left.<locals>.<lambda>" : Str)) ∈ tabsOf K makers := List.mem_map.mpr ⟨("_law_left", "_law_left.<locals>.<lambda>"), (.tail _ (.head _)), rfl⟩
  have FL_law_left : FunL K "_law_left" "_law_left" s_law_left _ _ ca_law_left := ⟨⟨_, _, _, _, _, _, _, _, rfl, l_law_left, c_law_left⟩, k_law_left⟩
  have TB_law : LamX.TabB base mg ca_law (tabAt K "law") := by
    have h : LamX.TabB base mg (codeAt K "law") (tabAt K "law") := tb ("law", "law.<locals>.<lambda>") (.tail _ (.tail _ (.head _)))
    rw [e_law] at h
    exact h
  have hT_law : (tabAt K "law", ("law.<locals>.<lambda>" : Str)) ∈ tabsOf K makers := List.mem_map.mpr ⟨("law", "law.<locals>.<lambda>"), (.tail _ (.tail _ (.head _))), rfl⟩
  have FL_law : FunL K "law" "law" s_law _ _ ca_law := ⟨⟨_, _, _, _, _, _, _, _, rfl, l_law, c_law⟩, k_law⟩
  have N_InvalidWord : E1 l.prog w K mg base "InvalidWord" C_InvalidWord "word" := ⟨⟨⟨⟨_, _, vxb_V, x_InvalidWord, w_InvalidWord⟩, s_InvalidWord, q_InvalidWord, ⟨hg_InvalidWord, hk_InvalidWord, hs_InvalidWord, hd_InvalidWord, ha_InvalidWord, spec, take, hm_InvalidWord⟩⟩, PySem.W.mg_of X G a_InvalidWord, n_InvalidWord, _, _, i_InvalidWord', t_InvalidWord, ok_i_InvalidWord (fun_mk (st := s_InvalidWord___init) l_InvalidWord c_InvalidWord k_InvalidWord), fun _ _ _ => .of_eq rfl, fun _ _ _ => .of_eq rfl⟩, ty_InvalidWord⟩
  have N_InvalidSample : E1 l.prog w K mg base "InvalidSample" C_InvalidSample "word" := ⟨⟨⟨⟨_, _, vxb_V, x_InvalidSample, w_InvalidSample⟩, s_InvalidSample, q_InvalidSample, ⟨hg_InvalidSample, hk_InvalidSample, hs_InvalidSample, hd_InvalidSample, ha_InvalidSample, spec, take, hm_InvalidSample⟩⟩, PySem.W.mg_of X G a_InvalidSample, n_InvalidSample, _, _, i_InvalidSample', t_InvalidSample, ok_i_InvalidSample (fun_mk (st := s_InvalidSample___init) l_InvalidSample c_InvalidSample k_InvalidSample), fun _ _ _ => .of_eq rfl, fun _ _ _ => .of_eq rfl⟩, ty_InvalidSample⟩
  have N_TooLarge : E1 l.prog w K mg base "TooLarge" C_TooLarge "limit" := ⟨⟨⟨⟨_, _, vxb_A, x_TooLarge, w_TooLarge⟩, s_TooLarge, q_TooLarge, ⟨hg_TooLarge, hk_TooLarge, hs_TooLarge, hd_TooLarge, ha_TooLarge, spec, take, hm_TooLarge⟩⟩, PySem.W.mg_of X G a_TooLarge, n_TooLarge, _, _, i_TooLarge', t_TooLarge, ok_i_TooLarge (fun_mk (st := s_TooLarge___init) l_TooLarge c_TooLarge k_TooLarge), fun _ _ _ => .of_eq rfl, fun _ _ _ => .of_eq rfl⟩, ty_TooLarge⟩
  have N_DuplicateWord : E1 l.prog w K mg base "DuplicateWord" C_DuplicateWord "word" := ⟨⟨⟨⟨_, _, vxb_K, x_DuplicateWord, w_DuplicateWord⟩, s_DuplicateWord, q_DuplicateWord, ⟨hg_DuplicateWord, hk_DuplicateWord, hs_DuplicateWord, hd_DuplicateWord, ha_DuplicateWord, spec, take, hm_DuplicateWord⟩⟩, PySem.W.mg_of X G a_DuplicateWord, n_DuplicateWord, _, _, i_DuplicateWord', t_DuplicateWord, ok_i_DuplicateWord (fun_mk (st := s_DuplicateWord___init) l_DuplicateWord c_DuplicateWord k_DuplicateWord), fun _ _ _ => .of_eq rfl, fun _ _ _ => .of_eq rfl⟩, ty_DuplicateWord⟩
  have N_UnknownWord : E1 l.prog w K mg base "UnknownWord" C_UnknownWord "word" := ⟨⟨⟨⟨_, _, vxb_K, x_UnknownWord, w_UnknownWord⟩, s_UnknownWord, q_UnknownWord, ⟨hg_UnknownWord, hk_UnknownWord, hs_UnknownWord, hd_UnknownWord, ha_UnknownWord, spec, take, hm_UnknownWord⟩⟩, PySem.W.mg_of X G a_UnknownWord, n_UnknownWord, _, _, i_UnknownWord', t_UnknownWord, ok_i_UnknownWord (fun_mk (st := s_UnknownWord___init) l_UnknownWord c_UnknownWord k_UnknownWord), fun _ _ _ => .of_eq rfl, fun _ _ _ => .of_eq rfl⟩, ty_UnknownWord⟩
  have N_InvalidLetters : E0 K mg "InvalidLetters" C_InvalidLetters := ⟨⟨⟨_, _, _, _, PySem.F.excBase_ValueError, x_InvalidLetters⟩, ⟨hg_InvalidLetters, hk_InvalidLetters, hs_InvalidLetters, hd_InvalidLetters, ha_InvalidLetters, spec, take, hm_InvalidLetters⟩, k_InvalidLetters, PySem.W.mg_of X G a_InvalidLetters⟩, ty_InvalidLetters⟩
  have D_is_sequence : Dn l.prog w K mg base 1 "is_sequence" ["value"] (spAsk K isSeq) := ⟨_, _, ok_is_sequence F_is_sequence T.toTxtW.toTxt, PySem.W.mg_of X G a_is_sequence, k_is_sequence, b_is_sequence⟩
  have D_word_order : Dn l.prog w K mg base 1 "word_order" ["words"] (spOrder K) := ⟨_, _, ok_order F_word_order T.toTxtW.toTxt, PySem.W.mg_of X G a_word_order, k_word_order, b_word_order⟩
  have D_are_letters : Dn l.prog w K mg base 1 "are_letters" ["value"] (spLtrs K) := ⟨_, _, ok_are_letters F_are_letters T.toTxtW, PySem.W.mg_of X G a_are_letters, k_are_letters, b_are_letters⟩
  have D_is_word : Dn l.prog w K mg base 1 "is_word" ["value", "letters"] (spIsWord K) := ⟨_, _, ok_is_word F_is_word T.toTxtW.toTxt, PySem.W.mg_of X G a_is_word, k_is_word, b_is_word⟩
  have D_is_word_up_to : Dn l.prog w K mg base 2 "is_word_up_to" ["value", "letters", "length"] (spUpTo K) := ⟨_, _, ok_is_word_up_to F_is_word_up_to T.toTxtW.toTxt D_is_word, PySem.W.mg_of X G a_is_word_up_to, k_is_word_up_to, b_is_word_up_to⟩
  have D_add_beginnings : Dn l.prog w K mg base 1 "add_beginnings" ["found", "word"] spAddB := ⟨_, _, ok_add_beginnings F_add_beginnings T.toTxtW.toTxt, PySem.W.mg_of X G a_add_beginnings, k_add_beginnings, b_add_beginnings⟩
  have D_prefixes_of : Dn l.prog w K mg base 2 "prefixes_of" ["words"] (spPrefOf K) := ⟨_, _, ok_prefixes_of F_prefixes_of T.toTxtW.toTxt D_add_beginnings D_word_order, PySem.W.mg_of X G a_prefixes_of, k_prefixes_of, b_prefixes_of⟩
  have D_check_words : DnX l.prog w K mg base 3 "check_words" ["words", "letters"] (spCheckW K C_InvalidWord) := ⟨_, _, ok_check_words F_check_words T D_is_word_up_to N_InvalidWord, PySem.W.mg_of X G a_check_words, k_check_words, b_check_words⟩
  have D_check_sequence : DnX l.prog w K mg base 4 "check_sequence" ["words", "letters"] (spCheckS K C_InvalidWord) := ⟨_, _, ok_check_sequence F_check_sequence T D_is_sequence D_check_words N_InvalidWord, PySem.W.mg_of X G a_check_sequence, k_check_sequence, b_check_sequence⟩
  have D_law_pen : Dn l.prog w K mg base 1 "_law_pen" ["script"] (spPen K) := ⟨_, _, ok_pen F_law_pen T.toTxtW.toTxt, PySem.W.mg_of X G a_law_pen, k_law_pen, b_law_pen⟩
  have D_law_draw : Dn l.prog w K mg base 1 "_law_draw" ["pen", "many"] spDraw := ⟨_, _, ok_draw F_law_draw T.toTxtW.toTxt, PySem.W.mg_of X G a_law_draw, k_law_draw, b_law_draw⟩
  have D_law_pick : Dn l.prog w K mg base 2 "_law_pick" ["pen", "some"] (spPick K) := ⟨_, _, ok_pick F_law_pick T.toTxtW.toTxt D_law_draw, PySem.W.mg_of X G a_law_pick, k_law_pick, b_law_pick⟩
  have D_law_shuffled : Dn l.prog w K mg base 2 "_law_shuffled" ["pen", "some"] (spShuffled K) := ⟨_, _, ok_shuffled F_law_shuffled T.toTxtW.toTxt D_law_draw, PySem.W.mg_of X G a_law_shuffled, k_law_shuffled, b_law_shuffled⟩
  have D_law_letters : Dn l.prog w K mg base 3 "_law_letters" ["pen", "most"] spLetters := ⟨_, _, ok_letters F_law_letters T.toTxtW.toTxt D_law_draw D_law_shuffled, PySem.W.mg_of X G a_law_letters, k_law_letters, b_law_letters⟩
  have D_law_word : Dn l.prog w K mg base 3 "_law_word" ["pen", "letters", "most"] spWord := ⟨_, _, ok_word F_law_word T.toTxtW.toTxt D_law_draw D_law_pick, PySem.W.mg_of X G a_law_word, k_law_word, b_law_word⟩
  have D_law_sorted : Dn l.prog w K mg base 1 "_law_sorted" ["words"] (spSorted K) := ⟨_, _, ok_sorted F_law_sorted T.toTxtW.toTxt, PySem.W.mg_of X G a_law_sorted, k_law_sorted, b_law_sorted⟩
  have D_law_table : Dn l.prog w K mg base 2 "_law_table" ["pen", "letters", "size", "is_full"] spTable := ⟨_, _, ok_table F_law_table T.toTxtW.toTxt D_law_draw, PySem.W.mg_of X G a_law_table, k_law_table, b_law_table⟩
  have D_law_led : Dn l.prog w K mg base 1 "_law_led" ["letters", "rows", "word"] (spLed K) := ⟨_, _, ok_led F_law_led T.toTxtW.toTxt, PySem.W.mg_of X G a_law_led, k_law_led, b_law_led⟩
  have D_law_raw : Dn l.prog w K mg base 4 "_law_raw" ["pen", "most_letters", "many", "most"] spRaw := ⟨_, _, ok_raw F_law_raw T.toTxtW.toTxt D_law_draw D_law_letters D_law_word D_law_sorted D_law_table D_law_led, PySem.W.mg_of X G a_law_raw, k_law_raw, b_law_raw⟩
  have D_law_odd : Dn l.prog w K mg base 3 "_law_odd" ["pen"] (spOdd K) := ⟨_, _, ok_odd F_law_odd T.toTxtW.toTxt D_law_pick, PySem.W.mg_of X G a_law_odd, k_law_odd, b_law_odd⟩
  have D_law_is_word : Dn l.prog w K mg base 1 "_law_is_word" ["letters", "value"] (spIsW K) := ⟨_, _, ok_law_word F_law_is_word T.toTxtW.toTxt, PySem.W.mg_of X G a_law_is_word, k_law_is_word, b_law_is_word⟩
  have sc : SmC K C_Sample := ⟨⟨pg_S, hd_S, po_S, sa_S⟩, n0_S, n1_S, n2_S, n3_S, n4_S⟩
  have nc : NotC K C_Sample := ⟨fun d => by cases d <;> assumption, kt_own, fun e => .base (.ins e sc.cl ca_S spec take mo_S)⟩
  have nf : ∀ d : PyData, PySem.W.notFirst K C_Sample (.type (tyN d)) = true := fun d => by
    unfold PySem.W.notFirst
    rw [show PySem.W.subIn K (.type (tyN d)) (.ref C_Sample) = some false from by cases d <;> assumption]
    rw [show ((some false : Option Bool) == some false) = true from rfl, Bool.or_true]
  have nfC : PySem.W.notFirst K C_Sample (.ref C_Sample) = true := by
    unfold PySem.W.notFirst
    rw [show ((Value.ref C_Sample : Value) == .ref C_Sample) = true from beq_self_eq_true _, Bool.true_or]
  have FS : FunD K "__init__" "Sample.__init__" (defArgs s_Sample___init) (defBody s_Sample___init) (defScope s_Sample___init) [V.ref D1, V.ref D2] [] f_S _ := ⟨⟨_, _, _, _, _, _, _, _, _, _, rfl, l_S, c_S, .inr ⟨by simp, T_S, _, [.ref D1, .ref D2], _, rfl, lT_S, rfl, .cons rfl (.cons rfl .nil)⟩, .inl rfl⟩, k_S⟩
  have okS := ok_Sample_init (P := l.prog) (w := w) (mg := mg) (base := base) FS T D_are_letters D_check_sequence D_word_order D_prefixes_of N_InvalidLetters N_InvalidSample N_TooLarge
  obtain ⟨ds4, v4, b4⟩ := FS.binds1 (ps := ["self", "letters", "yes", "no"]) 4 2 (by simp) rfl fun T kV doc pm an cdv ct us its h1 h2 => match us, its, h1, h2 with | [_, _, _, _], [_, _], _, _ => ⟨_, rfl, rfl⟩
  obtain ⟨ds2, v2, b2⟩ := FS.binds1 (ps := ["self", "letters", "yes", "no"]) 2 0 (by simp) rfl fun T kV doc pm an cdv ct us its h1 h2 => match us, its, h1, h2 with | [_, _], [_, _], _, _ => ⟨_, rfl, rfl⟩
  have N_Sample : CnD l.prog w K mg base (L2.CX l.prog w) 6 "Sample" C_Sample ["self", "letters", "yes", "no"] (spSam K C_InvalidLetters C_InvalidWord C_InvalidSample C_TooLarge) [] := ⟨⟨_, _, ds4, ⟨mk_S, i_S, fn_S, kp_S⟩, okS, b4, v4⟩, PySem.W.mg_of X G a_Sample⟩
  have N_Sample1 : CnD l.prog w K mg base (L2.CX l.prog w) 6 "Sample" C_Sample ["self", "letters", "yes", "no"] (spSam K C_InvalidLetters C_InvalidWord C_InvalidSample C_TooLarge) [V.ref D1, V.ref D2] := ⟨⟨_, _, ds2, ⟨mk_S, i_S, fn_S, kp_S⟩, okS, b2, v2⟩, PySem.W.mg_of X G a_Sample⟩
  have P_letters : Pr l.prog w K mg base C_Sample "letters" (getSp C_Sample "_letters") := ⟨p_letters, f_letters, _, ⟨at_letters, ge_letters, ta_letters, _, re_letters⟩, fn_getter (CX := CX0) (k := 0) l_letters c_letters sc_Sample_letters rfl rfl sc.cl sc.n1, (fun_mk (st := s_Sample_letters) l_letters c_letters k_letters).binds (ps := ["self"]) fun _ _ _ _ _ _ us hl => match us, hl with | [_], _ => rfl⟩
  have P_yes : Pr l.prog w K mg base C_Sample "yes" (getSp C_Sample "_yes") := ⟨p_yes, f_yes, _, ⟨at_yes, ge_yes, ta_yes, _, re_yes⟩, fn_getter (CX := CX0) (k := 0) l_yes c_yes sc_Sample_yes rfl rfl sc.cl sc.n3, (fun_mk (st := s_Sample_yes) l_yes c_yes k_yes).binds (ps := ["self"]) fun _ _ _ _ _ _ us hl => match us, hl with | [_], _ => rfl⟩
  have P_no : Pr l.prog w K mg base C_Sample "no" (getSp C_Sample "_no") := ⟨p_no, f_no, _, ⟨at_no, ge_no, ta_no, _, re_no⟩, fn_getter (CX := CX0) (k := 0) l_no c_no sc_Sample_no rfl rfl sc.cl sc.n4, (fun_mk (st := s_Sample_no) l_no c_no k_no).binds (ps := ["self"]) fun _ _ _ _ _ _ us hl => match us, hl with | [_], _ => rfl⟩
  have M_mark : Mt l.prog w K mg base 1 C_Sample "mark" ["self", "word"] (spMark K C_Sample) := ⟨f_mark, _, ⟨at_mark, fn_mark, k_mark⟩, ok_Sample_mark (fun_mk (st := s_Sample_mark) l_mark c_mark k_mark) T.toTxtW.toTxt sc, (fun_mk (st := s_Sample_mark) l_mark c_mark k_mark).binds (ps := ["self", "word"]) fun _ _ _ _ _ _ us hl => match us, hl with | [_, _], _ => rfl⟩
  have Feq := ok_Sample_eq (P := l.prog) (w := w) (base := base) (fun_mk (st := s_Sample___eq) l_eq c_eq k_eq) T.toTxtW.toTxt sc nc (PySem.W.mg_of X G a_Sample)
  have beq := (fun_mk (st := s_Sample___eq) l_eq c_eq k_eq).binds (ps := ["self", "other"]) fun _ _ _ _ _ _ us hl => match us, hl with | [_, _], _ => rfl
  have M_adding : MtK l.prog w K mg base (L2.CX l.prog w) 8 C_Sample "adding" ["mark"] (fun vs zs H Q E => ∃ a m rest, vs = a :: rest ∧ zs = [m] ∧ rest.length ≤ sizeLine ∧ ∀ p, H p = none → spAdding K C_InvalidWord C_DuplicateWord C_Sample [a, m, V.ref p] (upd H p (.tup rest)) Q E) := ⟨f_adding, ⟨at_adding, fn_adding, k_adding⟩, fn_star1k l_adding c_adding sc_Sample_adding StX.cxUp (fun a m rest => match rest with | [] => rfl | _ :: _ => rfl) fun A outer s H vs Q E hr h => body_adding T sc D_check_words N_DuplicateWord N_Sample A outer s H vs Q E hr h⟩
  have M_addingd : MtR l.prog w K mg base (L2.CX l.prog w) 8 C_Sample "adding" (fun vs H Q E => ∃ a rest, vs = a :: rest ∧ rest.length ≤ sizeLine ∧ ∀ p, H p = none → spAdding K C_InvalidWord C_DuplicateWord C_Sample [a, .bl true, V.ref p] (upd H p (.tup rest)) Q E) := ⟨f_adding, ⟨at_adding, fn_adding, k_adding⟩, fn_star1d (m0 := .bl true) (u0 := .bool true) l_adding c_adding sc_Sample_adding StX.cxUp kw_adding rfl (fun a rest => match rest with | [] => ⟨_, _, _, _, _, _, rfl, rfl, rfl⟩ | _ :: _ => ⟨_, _, _, _, _, _, rfl, rfl, rfl⟩) fun A outer s H vs Q E hr h => body_adding T sc D_check_words N_DuplicateWord N_Sample A outer s H vs Q E hr h⟩
  have M_without : MtR l.prog w K mg base (L2.CX l.prog w) 8 C_Sample "without" (fun vs H Q E => ∃ ws rest, vs = ws ++ rest ∧ ws.length = ["self"].length ∧ rest.length ≤ sizeLine ∧ ∀ p, H p = none → spWithout K C_UnknownWord C_Sample (ws ++ [V.ref p]) (upd H p (.tup rest)) Q E) := ⟨f_without, ⟨at_without, fn_without, k_without⟩, StX.fn_star (ps := ["self"]) (pv := "words") l_without c_without sc_Sample_without StX.cxUp (fun us rest hl => match us, rest, hl with | [_], [], _ => rfl | [_], _ :: _, _ => rfl) fun A outer s H vs Q E hr h => body_without T sc M_mark N_UnknownWord N_Sample A outer s H vs Q E hr h⟩
  have D_law_made : Dn l.prog w K mg base 8 "_law_made" ["raw"] (spMade K C_Sample) := ⟨_, _, ok_made F_law_made sc N_Sample, PySem.W.mg_of X G a_law_made, k_law_made, b_law_made⟩
  have Dc : Cau l.prog w K mg base 7 "_law_caught" "call" (TTs K C_InvalidWord C_DuplicateWord C_UnknownWord C_Sample) := ok_caught F_law_caught T.toTxtW.toTxt MB (PySem.W.mg_of X G a_law_caught) b_law_caught N_InvalidWord N_DuplicateWord N_UnknownWord sc P_letters P_yes P_no sWW sDW sDD sUW sUD sUU kWV kDK kUK
  have D_law_added : DnG l.prog w K mg base 11 "_law_added" ["sample", "words", "given"] (spAddedL K (tabsOf K makers) C_Sample) := ⟨_, _, ok_added FL_law_added T.toTxtW.toTxt Dc sc M_adding TB_law_added hT_law_added uq, PySem.W.mg_of X G a_law_added, k_law_added, b_law_added⟩
  have D_law_left : DnG l.prog w K mg base 11 "_law_left" ["sample", "words"] (spLeftL K (tabsOf K makers) C_Sample) := ⟨_, _, ok_left FL_law_left T.toTxtW.toTxt Dc sc M_without TB_law_left hT_law_left uq, PySem.W.mg_of X G a_law_left, k_law_left, b_law_left⟩
  have D_law_added_due : DnG l.prog w K mg base 2 "_law_added_due" ["raw", "words", "given"] (spAddDue K) := ⟨_, _, ok_added_due F_law_added_due T.toTxtW.toTxt MB D_law_is_word D_law_sorted, PySem.W.mg_of X G a_law_added_due, k_law_added_due, b_law_added_due⟩
  have D_law_left_due : DnG l.prog w K mg base 1 "_law_left_due" ["raw", "words"] (spLeftDue K) := ⟨_, _, ok_left_due F_law_left_due T.toTxtW.toTxt MB, PySem.W.mg_of X G a_law_left_due, k_law_left_due, b_law_left_due⟩
  exact ok_law FL_law T.toTxtW.toTxt MB sc nc nfC D_law_pen D_law_draw D_law_pick D_law_word D_law_odd D_law_raw D_law_made D_law_added D_law_left D_law_added_due D_law_left_due Dc M_addingd Feq at_eq atne mo_S fn_eq beq TB_law hT_law uq
end Wf

open PySem PySem.W PyProof.Rows in
set_option maxRecDepth 100000 in
set_option maxHeartbeats 0 in
theorem PySem.Challenge.cw_wordfit_k04_samples_with_other_words_holds : PySem.Challenge.rw_wordfit_k04_samples_with_other_words.Holds := by
  w_on; o_law; k_head; (case hw => w_witness2)
  k_fill
  refine Wf.walkT (l := PySem.Challenge.rw_wordfit_k04_samples_with_other_words) (xs := Wf.makers) (sp := fun K => Wf.spLaw K (Wf.tabsOf K Wf.makers)) (n := 63) (k := 13) (x := "script") (by decide +kernel) rfl (by decide) rfl ⟨rfl, by decide, by decide⟩ (fun w h Y => ⟨_, PySem.W.km_in_of Y, PySem.W.km_tabs_of Y, by kernel_rfl⟩) ?F (fun K H a ns hn tb hs => ⟨a, ns, rfl, tb, hs, hn, fun _ => rfl⟩)
  case F =>
    intro w mg fa h KX G hmg uq
    refine' Wf.all_mk KX G hmg uq ?a_is_sequence ?l_is_sequence ?c_is_sequence ?k_is_sequence ?a_word_order ?l_word_order ?c_word_order ?k_word_order ?a_are_letters ?l_are_letters ?c_are_letters ?k_are_letters ?a_is_word ?l_is_word ?c_is_word ?k_is_word ?a_is_word_up_to ?l_is_word_up_to ?c_is_word_up_to ?k_is_word_up_to ?a_add_beginnings ?l_add_beginnings ?c_add_beginnings ?k_add_beginnings ?a_prefixes_of ?l_prefixes_of ?c_prefixes_of ?k_prefixes_of ?a_check_words ?l_check_words ?c_check_words ?k_check_words ?a_check_sequence ?l_check_sequence ?c_check_sequence ?k_check_sequence ?a_law_pen ?l_law_pen ?c_law_pen ?k_law_pen ?a_law_draw ?l_law_draw ?c_law_draw ?k_law_draw ?a_law_pick ?l_law_pick ?c_law_pick ?k_law_pick ?a_law_shuffled ?l_law_shuffled ?c_law_shuffled ?k_law_shuffled ?a_law_letters ?l_law_letters ?c_law_letters ?k_law_letters ?a_law_word ?l_law_word ?c_law_word ?k_law_word ?a_law_sorted ?l_law_sorted ?c_law_sorted ?k_law_sorted ?a_law_table ?l_law_table ?c_law_table ?k_law_table ?a_law_led ?l_law_led ?c_law_led ?k_law_led ?a_law_raw ?l_law_raw ?c_law_raw ?k_law_raw ?a_law_made ?l_law_made ?c_law_made ?k_law_made ?a_law_odd ?l_law_odd ?c_law_odd ?k_law_odd ?a_law_is_word ?l_law_is_word ?c_law_is_word ?k_law_is_word ?a_law_caught ?l_law_caught ?c_law_caught ?k_law_caught ?a_law_added ?l_law_added ?c_law_added ?k_law_added ?e_law_added ?a_law_left ?l_law_left ?c_law_left ?k_law_left ?e_law_left ?a_law_added_due ?l_law_added_due ?c_law_added_due ?k_law_added_due ?a_law_left_due ?l_law_left_due ?c_law_left_due ?k_law_left_due ?a_law ?l_law ?c_law ?k_law ?e_law ?a_InvalidWord ?x_InvalidWord ?w_InvalidWord ?s_InvalidWord ?q_InvalidWord ?hg_InvalidWord ?hk_InvalidWord ?hs_InvalidWord ?hd_InvalidWord ?ha_InvalidWord ?hm_InvalidWord ?ty_InvalidWord ?n_InvalidWord ?i_InvalidWordq ?t_InvalidWord ?l_InvalidWord ?c_InvalidWord ?k_InvalidWord ?a_InvalidSample ?x_InvalidSample ?w_InvalidSample ?s_InvalidSample ?q_InvalidSample ?hg_InvalidSample ?hk_InvalidSample ?hs_InvalidSample ?hd_InvalidSample ?ha_InvalidSample ?hm_InvalidSample ?ty_InvalidSample ?n_InvalidSample ?i_InvalidSampleq ?t_InvalidSample ?l_InvalidSample ?c_InvalidSample ?k_InvalidSample ?a_TooLarge ?x_TooLarge ?w_TooLarge ?s_TooLarge ?q_TooLarge ?hg_TooLarge ?hk_TooLarge ?hs_TooLarge ?hd_TooLarge ?ha_TooLarge ?hm_TooLarge ?ty_TooLarge ?n_TooLarge ?i_TooLargeq ?t_TooLarge ?l_TooLarge ?c_TooLarge ?k_TooLarge ?a_DuplicateWord ?x_DuplicateWord ?w_DuplicateWord ?s_DuplicateWord ?q_DuplicateWord ?hg_DuplicateWord ?hk_DuplicateWord ?hs_DuplicateWord ?hd_DuplicateWord ?ha_DuplicateWord ?hm_DuplicateWord ?ty_DuplicateWord ?n_DuplicateWord ?i_DuplicateWordq ?t_DuplicateWord ?l_DuplicateWord ?c_DuplicateWord ?k_DuplicateWord ?a_UnknownWord ?x_UnknownWord ?w_UnknownWord ?s_UnknownWord ?q_UnknownWord ?hg_UnknownWord ?hk_UnknownWord ?hs_UnknownWord ?hd_UnknownWord ?ha_UnknownWord ?hm_UnknownWord ?ty_UnknownWord ?n_UnknownWord ?i_UnknownWordq ?t_UnknownWord ?l_UnknownWord ?c_UnknownWord ?k_UnknownWord ?a_InvalidLetters ?x_InvalidLetters ?hg_InvalidLetters ?hk_InvalidLetters ?hs_InvalidLetters ?hd_InvalidLetters ?ha_InvalidLetters ?hm_InvalidLetters ?ty_InvalidLetters ?k_InvalidLetters ?spec ?take ?a_Sample ?mk_S ?kp_S ?pg_S ?hd_S ?po_S ?sa_S ?n0_S ?n1_S ?n2_S ?n3_S ?n4_S ?i_S ?l_S ?c_S ?k_S ?fn_S ?lT_S ?l1_S ?l2_S ?at_letters ?ge_letters ?ta_letters ?re_letters ?l_letters ?c_letters ?k_letters ?at_yes ?ge_yes ?ta_yes ?re_yes ?l_yes ?c_yes ?k_yes ?at_no ?ge_no ?ta_no ?re_no ?l_no ?c_no ?k_no ?at_mark ?fn_mark ?l_mark ?c_mark ?k_mark ?at_eq ?fn_eq ?l_eq ?c_eq ?k_eq ?at_adding ?fn_adding ?l_adding ?c_adding ?k_adding ?kw_adding ?at_without ?fn_without ?l_without ?c_without ?k_without ?atne ?kt_NoneType ?su_NoneType ?kt_bool ?su_bool ?kt_int ?su_int ?kt_str ?su_str ?kt_list ?su_list ?kt_tuple ?su_tuple ?kt_dict ?su_dict ?kt_own ?ca_S ?mo_S ?sWW ?sDW ?sDD ?sUW ?sUD ?sUU ?kWV ?kDK ?kUK ?z_list ?z_len ?z_abs ?z_range ?z_sorted ?z_repr ?z_isinstance ?z_tuple ?z_str ?z_int ?z_bool ?z_all ?z_any ?z_enumerate ?z_dict ?z_set ?z_max ?z_min ?z_ValueError ?z_KeyError ?z_IndexError ?z_ArithmeticError ?z_LookupError ?g_MOST_LETTERS ?g_LENGTH ?g_WORDS ?g_PREFIXES
    (case a_is_sequence => k_is)
    (case l_is_sequence => k_is)
    (case c_is_sequence => k_is)
    (case k_is_sequence => k_is)
    (case a_word_order => k_is)
    (case l_word_order => k_is)
    (case c_word_order => k_is)
    (case k_word_order => k_is)
    (case a_are_letters => k_is)
    (case l_are_letters => k_is)
    (case c_are_letters => k_is)
    (case k_are_letters => k_is)
    (case a_is_word => k_is)
    (case l_is_word => k_is)
    (case c_is_word => k_is)
    (case k_is_word => k_is)
    (case a_is_word_up_to => k_is)
    (case l_is_word_up_to => k_is)
    (case c_is_word_up_to => k_is)
    (case k_is_word_up_to => k_is)
    (case a_add_beginnings => k_is)
    (case l_add_beginnings => k_is)
    (case c_add_beginnings => k_is)
    (case k_add_beginnings => k_is)
    (case a_prefixes_of => k_is)
    (case l_prefixes_of => k_is)
    (case c_prefixes_of => k_is)
    (case k_prefixes_of => k_is)
    (case a_check_words => k_is)
    (case l_check_words => k_is)
    (case c_check_words => k_is)
    (case k_check_words => k_is)
    (case a_check_sequence => k_is)
    (case l_check_sequence => k_is)
    (case c_check_sequence => k_is)
    (case k_check_sequence => k_is)
    (case a_law_pen => k_is)
    (case l_law_pen => k_is)
    (case c_law_pen => k_is)
    (case k_law_pen => k_is)
    (case a_law_draw => k_is)
    (case l_law_draw => k_is)
    (case c_law_draw => k_is)
    (case k_law_draw => k_is)
    (case a_law_pick => k_is)
    (case l_law_pick => k_is)
    (case c_law_pick => k_is)
    (case k_law_pick => k_is)
    (case a_law_shuffled => k_is)
    (case l_law_shuffled => k_is)
    (case c_law_shuffled => k_is)
    (case k_law_shuffled => k_is)
    (case a_law_letters => k_is)
    (case l_law_letters => k_is)
    (case c_law_letters => k_is)
    (case k_law_letters => k_is)
    (case a_law_word => k_is)
    (case l_law_word => k_is)
    (case c_law_word => k_is)
    (case k_law_word => k_is)
    (case a_law_sorted => k_is)
    (case l_law_sorted => k_is)
    (case c_law_sorted => k_is)
    (case k_law_sorted => k_is)
    (case a_law_table => k_is)
    (case l_law_table => k_is)
    (case c_law_table => k_is)
    (case k_law_table => k_is)
    (case a_law_led => k_is)
    (case l_law_led => k_is)
    (case c_law_led => k_is)
    (case k_law_led => k_is)
    (case a_law_raw => k_is)
    (case l_law_raw => k_is)
    (case c_law_raw => k_is)
    (case k_law_raw => k_is)
    (case a_law_made => k_is)
    (case l_law_made => k_is)
    (case c_law_made => k_is)
    (case k_law_made => k_is)
    (case a_law_odd => k_is)
    (case l_law_odd => k_is)
    (case c_law_odd => k_is)
    (case k_law_odd => k_is)
    (case a_law_is_word => k_is)
    (case l_law_is_word => k_is)
    (case c_law_is_word => k_is)
    (case k_law_is_word => k_is)
    (case a_law_caught => k_is)
    (case l_law_caught => k_is)
    (case c_law_caught => k_is)
    (case k_law_caught => k_is)
    (case a_law_added => k_is)
    (case l_law_added => k_is)
    (case c_law_added => k_is)
    (case k_law_added => k_is)
    (case e_law_added => kernel_rfl)
    (case a_law_left => k_is)
    (case l_law_left => k_is)
    (case c_law_left => k_is)
    (case k_law_left => k_is)
    (case e_law_left => kernel_rfl)
    (case a_law_added_due => k_is)
    (case l_law_added_due => k_is)
    (case c_law_added_due => k_is)
    (case k_law_added_due => k_is)
    (case a_law_left_due => k_is)
    (case l_law_left_due => k_is)
    (case c_law_left_due => k_is)
    (case k_law_left_due => k_is)
    (case a_law => k_is)
    (case l_law => k_is)
    (case c_law => k_is)
    (case k_law => k_is)
    (case e_law => kernel_rfl)
    (case a_InvalidWord => k_is)
    (case x_InvalidWord => kx_is)
    (case w_InvalidWord => kx_is)
    (case s_InvalidWord => k_is)
    (case q_InvalidWord => k_is)
    (case hg_InvalidWord => k_is)
    (case hk_InvalidWord => k_is)
    (case hs_InvalidWord => k_is)
    (case hd_InvalidWord => k_is)
    (case ha_InvalidWord => k_is)
    (case hm_InvalidWord => k_is)
    (case ty_InvalidWord => k_is)
    (case n_InvalidWord => k_is)
    (case i_InvalidWordq => k_is)
    (case t_InvalidWord => k_is)
    (case l_InvalidWord => k_is)
    (case c_InvalidWord => k_is)
    (case k_InvalidWord => k_is)
    (case a_InvalidSample => k_is)
    (case x_InvalidSample => kx_is)
    (case w_InvalidSample => kx_is)
    (case s_InvalidSample => k_is)
    (case q_InvalidSample => k_is)
    (case hg_InvalidSample => k_is)
    (case hk_InvalidSample => k_is)
    (case hs_InvalidSample => k_is)
    (case hd_InvalidSample => k_is)
    (case ha_InvalidSample => k_is)
    (case hm_InvalidSample => k_is)
    (case ty_InvalidSample => k_is)
    (case n_InvalidSample => k_is)
    (case i_InvalidSampleq => k_is)
    (case t_InvalidSample => k_is)
    (case l_InvalidSample => k_is)
    (case c_InvalidSample => k_is)
    (case k_InvalidSample => k_is)
    (case a_TooLarge => k_is)
    (case x_TooLarge => kx_is)
    (case w_TooLarge => kx_is)
    (case s_TooLarge => k_is)
    (case q_TooLarge => k_is)
    (case hg_TooLarge => k_is)
    (case hk_TooLarge => k_is)
    (case hs_TooLarge => k_is)
    (case hd_TooLarge => k_is)
    (case ha_TooLarge => k_is)
    (case hm_TooLarge => k_is)
    (case ty_TooLarge => k_is)
    (case n_TooLarge => k_is)
    (case i_TooLargeq => k_is)
    (case t_TooLarge => k_is)
    (case l_TooLarge => k_is)
    (case c_TooLarge => k_is)
    (case k_TooLarge => k_is)
    (case a_DuplicateWord => k_is)
    (case x_DuplicateWord => kx_is)
    (case w_DuplicateWord => kx_is)
    (case s_DuplicateWord => k_is)
    (case q_DuplicateWord => k_is)
    (case hg_DuplicateWord => k_is)
    (case hk_DuplicateWord => k_is)
    (case hs_DuplicateWord => k_is)
    (case hd_DuplicateWord => k_is)
    (case ha_DuplicateWord => k_is)
    (case hm_DuplicateWord => k_is)
    (case ty_DuplicateWord => k_is)
    (case n_DuplicateWord => k_is)
    (case i_DuplicateWordq => k_is)
    (case t_DuplicateWord => k_is)
    (case l_DuplicateWord => k_is)
    (case c_DuplicateWord => k_is)
    (case k_DuplicateWord => k_is)
    (case a_UnknownWord => k_is)
    (case x_UnknownWord => kx_is)
    (case w_UnknownWord => kx_is)
    (case s_UnknownWord => k_is)
    (case q_UnknownWord => k_is)
    (case hg_UnknownWord => k_is)
    (case hk_UnknownWord => k_is)
    (case hs_UnknownWord => k_is)
    (case hd_UnknownWord => k_is)
    (case ha_UnknownWord => k_is)
    (case hm_UnknownWord => k_is)
    (case ty_UnknownWord => k_is)
    (case n_UnknownWord => k_is)
    (case i_UnknownWordq => k_is)
    (case t_UnknownWord => k_is)
    (case l_UnknownWord => k_is)
    (case c_UnknownWord => k_is)
    (case k_UnknownWord => k_is)
    (case a_InvalidLetters => k_is)
    (case x_InvalidLetters => k_exc)
    (case hg_InvalidLetters => k_is)
    (case hk_InvalidLetters => k_is)
    (case hs_InvalidLetters => k_is)
    (case hd_InvalidLetters => k_is)
    (case ha_InvalidLetters => k_is)
    (case hm_InvalidLetters => k_is)
    (case ty_InvalidLetters => k_is)
    (case k_InvalidLetters => k_is)
    (case spec => k_is)
    (case take => k_is)
    (case a_Sample => k_is)
    (case mk_S => k_is)
    (case kp_S => k_is)
    (case pg_S => k_is)
    (case hd_S => k_is)
    (case po_S => k_is)
    (case sa_S => k_is)
    (case n0_S => k_is)
    (case n1_S => k_is)
    (case n2_S => k_is)
    (case n3_S => k_is)
    (case n4_S => k_is)
    (case i_S => k_is)
    (case l_S => k_is)
    (case c_S => k_is)
    (case k_S => k_is)
    (case fn_S => k_is)
    (case lT_S => k_is)
    (case l1_S => k_is)
    (case l2_S => k_is)
    (case at_letters => k_is)
    (case ge_letters => k_is)
    (case ta_letters => k_is)
    (case re_letters => k_is)
    (case l_letters => k_is)
    (case c_letters => k_is)
    (case k_letters => k_is)
    (case at_yes => k_is)
    (case ge_yes => k_is)
    (case ta_yes => k_is)
    (case re_yes => k_is)
    (case l_yes => k_is)
    (case c_yes => k_is)
    (case k_yes => k_is)
    (case at_no => k_is)
    (case ge_no => k_is)
    (case ta_no => k_is)
    (case re_no => k_is)
    (case l_no => k_is)
    (case c_no => k_is)
    (case k_no => k_is)
    (case at_mark => k_is)
    (case fn_mark => k_is)
    (case l_mark => k_is)
    (case c_mark => k_is)
    (case k_mark => k_is)
    (case at_eq => k_is)
    (case fn_eq => k_is)
    (case l_eq => k_is)
    (case c_eq => k_is)
    (case k_eq => k_is)
    (case at_adding => k_is)
    (case fn_adding => k_is)
    (case l_adding => k_is)
    (case c_adding => k_is)
    (case k_adding => k_is)
    (case kw_adding => k_is)
    (case at_without => k_is)
    (case fn_without => k_is)
    (case l_without => k_is)
    (case c_without => k_is)
    (case k_without => k_is)
    (case atne => k_is)
    (case kt_NoneType => kit_is)
    (case su_NoneType => k_is)
    (case kt_bool => kit_is)
    (case su_bool => k_is)
    (case kt_int => kit_is)
    (case su_int => k_is)
    (case kt_str => kit_is)
    (case su_str => k_is)
    (case kt_list => kit_is)
    (case su_list => k_is)
    (case kt_tuple => kit_is)
    (case su_tuple => k_is)
    (case kt_dict => kit_is)
    (case su_dict => k_is)
    (case kt_own => kit_is)
    (case ca_S => k_is)
    (case mo_S => k_is)
    (case sWW => k_is)
    (case sDW => k_is)
    (case sDD => k_is)
    (case sUW => k_is)
    (case sUD => k_is)
    (case sUU => k_is)
    (case kWV => kit_is)
    (case kDK => kit_is)
    (case kUK => kit_is)
    (case z_list => k_is)
    (case z_len => k_is)
    (case z_abs => k_is)
    (case z_range => k_is)
    (case z_sorted => k_is)
    (case z_repr => k_is)
    (case z_isinstance => k_is)
    (case z_tuple => k_is)
    (case z_str => k_is)
    (case z_int => k_is)
    (case z_bool => k_is)
    (case z_all => k_is)
    (case z_any => k_is)
    (case z_enumerate => k_is)
    (case z_dict => k_is)
    (case z_set => k_is)
    (case z_max => k_is)
    (case z_min => k_is)
    (case z_ValueError => k_is)
    (case z_KeyError => k_is)
    (case z_IndexError => k_is)
    (case z_ArithmeticError => k_is)
    (case z_LookupError => k_is)
    (case g_MOST_LETTERS => k_is)
    (case g_LENGTH => k_is)
    (case g_WORDS => k_is)
    (case g_PREFIXES => k_is)
