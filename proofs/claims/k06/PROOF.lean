import PyProof.Rows.All
import Wide.All
import OpenK.AllK
import Wide.FinOn
import HandS.ForMost
import KE.SortData
import KE.SortKeyHeap
import HandS.Conv
import HandS.Zip
import HandS.StrMore
import PyProof.StrLawsIn
import HandS.Dict
import HandS.Iter
import KE.KExcInit
import KE.KExcIs
import HandS.ExcInit
import HandS.ExcValue
import HandS.ExcIs
import HandS.ExcField
import HandS.IsInst
import HandS.TryMany
import HandS.Style
import HandS.Walk
import KE.GoesEnum
import HandS.WordsExc
import KE.KIntText
import KE.KRevSl
import HandS.Codes
import HandS.Text
import PySem.Challenge.RW_wordfit_k06_invalid_machines
set_option Elab.async false
set_option maxRecDepth 100000
set_option maxHeartbeats 4000000
set_option linter.all false
/-! defs called where nothing is being shown (no repr is under way) -/
namespace Wf
open PySem PySem.Spec PyProof.Rows L2

/-- nothing is being shown around -/
abbrev Qt (A : Around) : Prop := A.guards = some []

/-- the promise of a def that is called where nothing is being shown -/
structure FnG (P : Program) (w : World) (K : PySem.W.Frag) (mg : Str → Option Value) (base : Heap) (CX : CXT) (k : Nat) (f : Addr) (fd : FuncData) (ps : List Str) (sp : Sp) : Prop where
  many : ∀ {vs H Q E}, sp vs H Q E → vs.length = ps.length
  goes : ∀ {A : Around} {outer : List Env} {s : Shared} {H : Hp} {args : Args} {us : List Value} {vs : List V} {Q : VK} {E : XK}, Qt A → Room k A → Env0 P w K mg base A outer s H →
    BindsTo s fd args (ps.zip us) → Vals vs us → sp vs H Q E → codeAny (model P w) A (.call (.ref f) args) (CR CX outer P w H s Q E) s
section
variable {P : Program} {w : World} {K : PySem.W.Frag} {mg : Str → Option Value} {base : Heap} {CX : CXT} {k : Nat} {f : Addr} {fd : FuncData} {ps : List Str} {sp : Sp}
theorem FnG.of (F : FnOk P w K mg base CX k f fd ps sp) : FnG P w K mg base CX k f fd ps sp :=
  ⟨fun h => F.len _ _ _ _ h, fun _ hr e0 hb r h => F.run _ _ _ _ _ _ _ _ _ hr e0 hb r h⟩
theorem FnG.up {j : Nat} (F : FnG P w K mg base CX j f fd ps sp) (h : j ≤ k) : FnG P w K mg base CX k f fd ps sp :=
  ⟨F.many, fun g hr => F.goes g (hr.mono h)⟩

/-- a def by its body, where nothing is being shown -/
theorem FnG.body {x qual : Str} {st : Stmt} {N : List Str} (F : Fun K x qual st f fd) (S : FnScope N ps (defScope st)) (many : ∀ {vs H Q E}, sp vs H Q E → vs.length = ps.length)
    (B : ∀ (cdv : Value) (A : Around) (outer : List Env) (s : Shared) (H : Hp) (vs : List V) (Q : VK) (E : XK), Qt A → Room k (A.deeper (envOfC qual (defScope st) s.heap.objs.size f cdv)) → sp vs H Q E →
      ∃ t, PSs (cxOf CX P w K mg base N qual (defScope st) f cdv A outer s H E) (defBody st) t ∧ t { nx := fun _ H' => Q .non H', rt := Q } (start N vs) H) :
    FnG P w K mg base CX (k + 1) f fd ps sp := by
  obtain ⟨oc, od, kV, doc, pm, an, cdv, ct, osl, efd, lk, hcd⟩ := F.ex
  subst efd
  refine ⟨many, ?_⟩
  intro A outer s H args us vs Q E hq hr e0 hb r hsp
  have inK : K.In s.heap := e0.mod.kin.keeps (fun b o e => And.left (e0.bs b o e))
  have noL : s.heap.NoLimit := e0.mod.nolimit.keeps (fun b o e => And.left (e0.bs b o e))
  have kinds : ∀ z, z ∈ ps.zip us → (defScope st).names.lookup z.1 = some .local ∨
      ((defScope st).names.lookup z.1 = some .cell ∧ ((cellsFrom (s.heap.objs.size + 1) (defScope st).names []).lookup z.1).isSome = true) := by
    intro z hz
    cases S.par z.1 (List.of_mem_zip hz).1 with
    | inl q => exact Or.inl q
    | inr q => exact Or.inr (And.intro q (PySem.W.cellsFrom_some _ _ _ (Or.inl q)))
  refine codeAny_call_function (Room.depth hr) (inK _ _ lk) rfl S.co S.gen rfl (PySem.W.codeRec_of inK hcd) (hb _ _ _ _ (?_))
  refine wpAny_newFunctionEnv_cells S.kind kinds (fun env he s1 x => ?_)
  subst he
  refine And.intro (noL.keeps x.toInCall.keep) (codeAny_func ?_)
  obtain ⟨t, ht, q⟩ := B cdv A outer s H vs Q E hq (Room.deeper hr _) hsp
  have J := inv_start (CX := CX) (E := E) (P := P) (w := w) (K := K) (mg := mg) (base := base) S hr.hd e0 (many hsp) r x
  refine wpAny_mono (ht.run [] s1 (start N vs) H _ J q) (fun fl s' got => ?_) (fun e s' got => got)
  cases fl with
  | next =>
    obtain ⟨σ', H', J', q'⟩ := got
    exact ⟨.non, H', J'.os, J'.bare, J'.base, J'.hok, rfl, q'⟩
  | ret u =>
    obtain ⟨v, σ', H', J', rv, q'⟩ := got
    exact ⟨v, H', J'.os, J'.bare, J'.base, J'.hok, rv, q'⟩
  | brk => exact (Exists.elim got fun _ g => Exists.elim g fun _ g' => g'.2).elim
  | cont => exact (Exists.elim got fun _ g => Exists.elim g fun _ g' => g'.2).elim
end

section
variable {X : Cx} {CX : CXT} {k : Nat} {f : Addr} {fd : FuncData} {ps : List Str} {sp : Sp} {dvs : List V} {ds : List Value} {E : XK} {x : Str} {p pos : Pos} {e : Expr} {es : List Expr} {t : TA}
theorem FnG.ran {pins : List (Addr × Obj)} {σ : L2.St} {H : Hp} {s : Shared} {Q : VK} {us : List Value} {vs : List V} (F : FnG X.prog X.w X.K X.mg X.base CX k f fd ps sp) (hq : Qt X.A) (hr : Room k X.A) (hb : Binds X.K fd ps ds) (hd : Vals dvs ds)
    (hx : Passes CX X E) (I : Inv X pins σ H s) (r : Vals vs us) (h : sp (vs ++ dvs) H Q E) : wpAny (model X.prog X.w) X.A (call (.ref f) us) (EP X pins σ Q) X.xe s := by
  have r' := Vals.append r hd
  have hl : (us ++ ds).length = ps.length := (Vals.length r').symm.trans (F.many h)
  refine wpAny_call (codeAny_mono (F.goes (us := us ++ ds) (vs := vs ++ dvs) hq hr I.env0 (hb s us I.kIn hl) r' h) (fun r s' got => ?_))
  match r, got with
  | .error e, got => exact hx pins σ H s e s' I got
  | .ok (.ret u), got => exact I.after got
  | .ok .next, got => exact got.elim
  | .ok .brk, got => exact got.elim
  | .ok .cont, got => exact got.elim
/-- f(e, ..) -/
theorem pe_callG (F : FnG X.prog X.w X.K X.mg X.base CX k f fd ps sp) (hq : Qt X.A) (hr : Room k X.A) (hg : Gl X x) (hm : X.mg x = some (.ref f)) (hk : PySem.W.keepIn X.K (.ref f) = true) (hb : Binds X.K fd ps ds) (hd : Vals dvs ds)
    (hx : Passes CX X E) (ha : PA X (e :: es) t) (hdb : (x == ("__debug__" : Str)) = false := by decide) (he : starEach (e :: es) X.env = (false, eval e X.env) :: starEach es X.env := by rfl)
    (hpl : (backTo pos (starEach es X.env)).any (·.1) = false := by rfl) : PE X (.Call (.Name x p) (e :: es) [] pos) (tCall sp dvs E t) :=
  ⟨fun pins s σ H Q I h => wpAny_Call_Name_kw (ld_glob I hg hm (PySem.W.callWith_K (h₀ := X.base) I.ok.mod.kin hk
    (thn (ha.run pos pins s σ H _ I h) fun us s1 ⟨vs, H1, I1, r, q⟩ => ⟨I1.kIn, F.ran hq hr hb hd hx I1 r q⟩) he hpl) hdb)⟩
end
end Wf
namespace Wf
open PySem PySem.Spec PyProof.Rows L2

/-! ### repr of data -/
section
variable {K : PySem.W.Frag} {H : Hp}
mutual
theorem dp_plain : ∀ {d : PyData} {v : V}, Dp K H v d → d.hasDict = false
  | .none, _, _ => rfl
  | .bool _, _, _ => rfl
  | .int _, _, _ => rfl
  | .str _, _, _ => rfl
  | .list ds, _, h => by
    cases h with
    | lst _ a => exact dpAll_plain a
  | .tuple ds, _, h => by
    cases h with
    | tup _ a => exact dpAll_plain a
  | .dict _, _, h => by cases h
theorem dpAll_plain : ∀ {ds : List PyData} {vs : List V}, DpAll K H vs ds → PyData.hasDictAll ds = false
  | [], _, _ => rfl
  | d :: ds, _, h => by
    cases h with
    | cons a b =>
      show (PyData.hasDict d || PyData.hasDictAll ds) = false
      rw [dp_plain a, dpAll_plain b]
      rfl
end
end

section
variable {X : Cx}
def rRepr (K : PySem.W.Frag) : List V → Hp → VK → Prop := fun xs H Q => ∃ v d, xs = [v] ∧ Dp K H v d ∧ d.showable = true ∧ d.depth ≤ 60 ∧ d.shown.length ≤ sizeLine ∧ Q (.str d.shown) H
theorem cr_repr (hq : Qt X.A) (hu : X.A.units + 64 < cLine) : CallR X (.builtin "repr") (rRepr X.K) := by
  intro pins s σ H xs us Q I r h
  obtain ⟨v, d, rfl, hd, sh, dp, sz, q⟩ := h
  obtain ⟨u, rfl, rx⟩ := vals1 r
  obtain ⟨as, rd⟩ := Dp.reads I d v u hd rx
  have np := dp_plain hd
  cases rd with
  | none => exact PySem.P.repr_of_none ⟨.str _, H, I.tok _, ⟨_, rfl⟩, q⟩
  | bool b => exact PySem.P.repr_of_bool ⟨.str _, H, I.tok _, ⟨_, rfl⟩, q⟩
  | int i t => exact PySem.P.repr_of_int (of_decide_eq_true sh) ⟨.str _, H, I.tok _, ⟨_, rfl⟩, q⟩
  | str x t => exact PySem.P.repr_of_str ⟨.str _, H, I.tok _, ⟨_, rfl⟩, q⟩ sz
  | list a b c e => exact repr_of_reads' (Reads.list a b c e) sh (PyData.noDict_hsm np) hq (by omega) (fun _ _ z => z) (fun h' u tk k => ⟨.str _, H, I.kept k, ⟨_, rfl⟩, q⟩) sz
  | tuple a b c e => exact repr_of_reads' (Reads.tuple a b c e) sh (PyData.noDict_hsm np) hq (by omega) (fun _ _ z => z) (fun h' u tk k => ⟨.str _, H, I.kept k, ⟨_, rfl⟩, q⟩) sz
  | dict a b c e f => cases hd
end
end Wf
namespace Wf
open PySem PySem.Spec PyProof.Rows L2 PySem.W PySem.Calls

/-! ### sorted of data, of a list or of a tuple -/
section
variable {prog : Program} {w : World} {A : Around} {E : Value → Shared → Prop} {s : Shared} {β : Type} {vs : List Value} {bs : List β} {enc : β → PyData} {R : Value → β → Prop}

/-- a list or a tuple gathered into a new list -/
theorem gather {l : Addr} {T : String} {o : Obj} {n : Nat} {Q : List Value → Shared → Prop} (hT : T = "list" ∨ T = "tuple") (ho : s.heap.get? l = some o) (hc : o.cls = .type T) (hd : o.data = .seq vs.toArray n) (hL : vs.length ≤ sizeLine)
    (h : Q vs { s with heap := (s.heap.push (seqObj "list" #[] 0)).update s.heap.objs.size (Obj.mapSeq (· ++ vs.toArray)) }) : wpAny (model prog w) A (collect (.ref l)) Q E s := by
  have at0 : (s.heap.push (seqObj "list" #[] 0)).get? s.heap.objs.size = some (seqObj "list" #[] 0) := Heap.get?_push_size _ rfl
  have last : ∀ s', s' = { s with heap := (s.heap.push (seqObj "list" #[] 0)).update s.heap.objs.size (Obj.mapSeq (· ++ vs.toArray)) } → wpAny (model prog w) A (do
      let o ← load s.heap.objs.size
      match o.data with
      | .seq xs _ => pure xs.toList
      | _ => unsupported "internal:collect") Q E s' := by
    intro s' es
    subst es
    refine wpAny_bind (wpAny_load (get?_update_seq at0 _) ?_)
    refine wpAny_pure ?_
    have e : ((#[] : Array Value) ++ vs.toArray).toList = vs := by simp
    show Q ((#[] : Array Value) ++ vs.toArray).toList _
    rw [e]
    exact h
  unfold collect
  refine wpAny_bind (wpAny_runValue (codeAny_builtin F.entry_proto_collect ?_))
  rw [Around.under_plainId F.plain_proto_collect _]
  show wpAny _ A.in1 (do again (.builtin "list.__iadd__" ⟨[← newList [], .ref l], []⟩)) _ _ _
  refine wpAny_bind (wpAny_newList ?_ (Nat.zero_le _))
  refine wpAny_pure ⟨plainId_quiet F.plain_list_iadd _, codeAny_builtin F.entry_list_iadd ?_⟩
  rw [Around.under_plainId F.plain_list_iadd _]
  refine wpAny_mono (wpAny_extend_seq (A := A) (s := { s with heap := s.heap.push (seqObj "list" #[] 0) }) (o := o) (items := vs.toArray) (n := n) (R := fun r s' => r = .ok (.ret (.ref s.heap.objs.size)) ∧ s' = { s with heap := (s.heap.push (seqObj "list" #[] 0)).update s.heap.objs.size (Obj.mapSeq (· ++ vs.toArray)) })
    s.heap.objs.size l (.ref s.heap.objs.size) 0 hT at0 (Heap.get?_push_of_some _ ho) hc hd ⟨rfl, rfl⟩ (by simpa using hL)) (fun fin s' got => ?_) (fun e s' got => ?_)
  · cases fin with
    | done f =>
      obtain ⟨ef, es⟩ := got
      cases ef
      exact last s' es
    | again c =>
      refine ⟨got.1, codeAny_mono got.2 fun r s'' hr => ?_⟩
      obtain ⟨er, es⟩ := hr
      subst er
      exact last s'' es
  · exact absurd got.1 (by simp)

theorem reads_there {h : Heap} : (∀ (d : PyData) (v : Value) (as : List Addr), Reads h v d as → ∀ a ∈ as, ∃ o, h.get? a = some o) := by
  intro d v as r
  refine Reads.rec (motive_1 := fun v d as _ => ∀ a ∈ as, ∃ o, h.get? a = some o) (motive_2 := fun v d as _ => ∀ a ∈ as, ∃ o, h.get? a = some o) ?_ ?_ ?_ ?_ ?_ ?_ ?_ ?_ ?_ r
  · intro a ha; cases ha
  · intro b a ha; cases ha
  · intro i t a ha; cases ha
  · intro x t a ha; cases ha
  · intro a o vs n xs as h1 _ _ _ ih b hb
    cases hb with
    | head => exact ⟨_, h1⟩
    | tail _ hb => exact ih b hb
  · intro a o vs n xs as _ _ _ _ ih b hb
    exact ih b hb
  · intro a o es n kvs as bs h1 _ _ _ _ i1 i2 b hb
    rcases List.mem_append.mp hb with hb | hb
    · cases hb with
      | head => exact ⟨_, h1⟩
      | tail _ hb => exact i1 b hb
    · exact i2 b hb
  · intro a ha; cases ha
  · intro v vs d ds as bs _ _ i1 i2 b hb
    rcases List.mem_append.mp hb with hb | hb
    · exact i1 b hb
    · exact i2 b hb

/-- sorted(t), t a list or a tuple -/
theorem sorted_seqd {l : Addr} {T : String} {o : Obj} {n : Nat} {Q : Value → Shared → Prop} (hT : T = "list" ∨ T = "tuple") (ho : s.heap.get? l = some o) (hc : o.cls = .type T) (hd : o.data = .seq vs.toArray n)
    (e : EachIs R vs bs) (er : EachIs (fun v b => ∃ as, Reads s.heap v (enc b) as) vs bs) (hal : AllAlike (bs.map enc)) (hk : Sortable (bs.map enc)) (hL : bs.length ≤ sizeLine)
    (hu : ∀ b, b ∈ bs → A.units + 4 + (enc b).depth < cLine)
    (h : ∀ out : List Value, EachIs R out (bs.mergeSort (dataLe false enc)) → Q (.ref (s.heap.objs.size + 1)) { s with heap := sortedHeap (copyHeap s.heap vs) (s.heap.objs.size + 1) vs out.toArray }) :
    wpAny (model prog w) A (call (.builtin "sorted") [.ref l]) Q E s := by
  have hL' : vs.length ≤ sizeLine := by rw [e.length]; exact hL
  refine call_function_entry kind_sorted plain_sorted entry_sorted (args_sorted1 _) ?_
  unfold Builtin.«sorted»
  refine wpAny_bind (m := checkCount "sorted" 1 1 _) (wpAny_pure ?_)
  refine wpAny_bind (gather hT ho hc hd hL' ?_)
  refine wpAny_bind (wpAny_newList ?_ hL')
  have hsz : ((s.heap.push (seqObj "list" #[] 0)).update s.heap.objs.size (Obj.mapSeq (· ++ vs.toArray))).objs.size = s.heap.objs.size + 1 := by
    rw [Heap.size_update, size_push']
  show wpAny _ _ _ _ _ { s with heap := copyHeap s.heap vs }
  rw [hsz]
  have at1 := copyHeap_at s.heap vs
  have er1 : EachIs (fun v b => ∃ as, Reads (copyHeap s.heap vs) v (enc b) as ∧ s.heap.objs.size + 1 ∉ as) vs bs := by
    refine EachIs.mono (R := fun v b => ∃ as, Reads s.heap v (enc b) as) (fun v b h => ?_) er
    obtain ⟨as, r⟩ := h
    refine ⟨as, PyProof.Rows.Reads.keeps (fun _ _ => copyHeap_old) r, fun ha => ?_⟩
    obtain ⟨ob, hob⟩ := reads_there _ _ _ r _ ha
    exact absurd (Heap.lt_size hob) (Nat.not_lt_of_le (Nat.le_succ _))
  refine wpAny_bind (wpAny_holding ?_)
  refine list_sort_data (A := A.in1) (s := { s with heap := copyHeap s.heap vs }) (R := R) (enc := enc) (bs := bs) (vs := vs) at1 e er1 hal hk hL ?_ ?_
  · intro b hb
    have := hu b hb
    show A.units + 1 + 1 + (enc b).depth < cLine
    omega
  · intro out hl he
    exact wpAny_pure ⟨_, rfl, h out he⟩
end
end Wf
namespace Wf
open PySem PySem.Spec PyProof.Rows L2

/-! ### sorted, by data -/
/-- things with the data that they are -/
abbrev VD := V × PyData
def leD : VD → VD → Bool := PySem.W.dataLe false (fun p : VD => p.2)
def firsts (ps : List VD) : List V := ps.map (·.1)
def rSortD (K : PySem.W.Frag) : List V → Hp → VK → Prop := fun xs H Q => ∃ (a : Addr) (ps : List VD), xs = [.ref a] ∧ (SqL K H a (firsts ps) ∨ SqT K H a (firsts ps)) ∧ (∀ p ∈ ps, Dp K H p.1 p.2) ∧
  PySem.W.AllAlike (ps.map (·.2)) ∧ PySem.W.Sortable (ps.map (·.2)) ∧ (∀ p ∈ ps, p.2.depth ≤ 20) ∧ ∀ l, H l = none → Q (.ref l) (upd H l (.lst (firsts (ps.mergeSort leD))))

theorem each_of_vals {R : Value → VD → Prop} : ∀ {ps : List VD} {us : List Value}, Vals (firsts ps) us → (∀ p ∈ ps, ∀ u, RelV p.1 u → R u p) → PySem.W.EachIs R us ps
  | [], _, r, _ => by
    cases r
    exact .nil
  | p :: ps, _, r, h => by
    cases r with
    | cons r1 r2 => exact .cons (h p List.mem_cons_self _ r1) (each_of_vals r2 fun q hq => h q (List.mem_cons_of_mem _ hq))
theorem vals_of_each : ∀ {ps : List VD} {us : List Value}, PySem.W.EachIs (fun u (p : VD) => RelV p.1 u) us ps → Vals (firsts ps) us
  | _, _, .nil => .nil
  | _, _, .cons a b => .cons a (vals_of_each b)
theorem vals_of_strs : ∀ {zs : List Str} {us : List Value}, PySem.W.EachIs (fun u (z : Str) => RelV (.str z) u) us zs → Vals (zs.map V.str) us
  | _, _, .nil => .nil
  | _, _, .cons a b => .cons a (vals_of_strs b)
theorem each_of_strs : ∀ {zs : List Str} {us : List Value}, Vals (zs.map V.str) us → PySem.W.EachIs (fun u (z : Str) => RelV (.str z) u) us zs
  | [], _, r => by
    cases r
    exact .nil
  | z :: zs, _, r => by
    cases r with
    | cons r1 r2 => exact .cons r1 (each_of_strs r2)

section
variable {X : Cx}
theorem cr_sortD (hu : X.A.units + 64 < cLine) : CallR X (.builtin "sorted") (rSortD X.K) := by
  intro pins s σ H xs us Q I r h
  obtain ⟨a, ps, rfl, hs, hdp, hal, hsb, hdd, q⟩ := h
  obtain ⟨u, rfl, rx⟩ := vals1 r
  cases rx
  have got : ∃ (its : List Value) (T : String) (o : Obj) (n : Nat), Vals (firsts ps) its ∧ (T = "list" ∨ T = "tuple") ∧ s.heap.get? a = some o ∧ o.cls = .type T ∧ o.data = .seq its.toArray n ∧ (firsts ps).length ≤ sizeLine := by
    rcases hs with hs | hs
    · obtain ⟨its, rv, pl, hz⟩ := I.list hs
      obtain ⟨o, ho, hc, n, hd⟩ := pl.isList
      exact ⟨its, "list", o, n, rv, .inl rfl, ho, hc, hd, hz⟩
    · obtain ⟨its, rv, pl, hz⟩ := I.tuple hs
      obtain ⟨o, ho, hc, n, hd⟩ := pl
      exact ⟨its, "tuple", o, n, rv, .inr rfl, ho, hc, hd, hz⟩
  obtain ⟨its, T, o, n, rv, hT, ho, hc, hd, hz⟩ := got
  have hps : ps.length ≤ sizeLine := by
    unfold firsts at hz
    rw [List.length_map] at hz
    exact hz
  refine sorted_seqd (R := fun u (p : VD) => RelV p.1 u) (enc := fun p : VD => p.2) hT ho hc hd (each_of_vals rv fun p _ u z => z) (each_of_vals rv fun p hp u z => Dp.reads I p.2 p.1 u (hdp p hp) z) hal hsb hps
    (fun b hb => by have := hdd b hb; omega) fun out he => ?_
  have rv2 := vals_of_each he
  obtain ⟨ep, hat⟩ := PyProof.Rows.sortedHeap_at (h := PySem.W.copyHeap s.heap its) (a := s.heap.objs.size + 1) (vs := its) (out := out.toArray) (PySem.W.copyHeap_at s.heap its)
  have hlen : (firsts (ps.mergeSort leD)).length ≤ sizeLine := by
    unfold firsts
    rw [List.length_map, List.length_mergeSort]
    exact hps
  have old : ∀ b ob, s.heap.get? b = some ob → (sortedHeap (PySem.W.copyHeap s.heap its) (s.heap.objs.size + 1) its out.toArray).get? b = some ob := fun b ob e => by
    have hlt := Heap.lt_size e
    have e1 := PySem.W.copyHeap_old (vs := its) e
    rw [PyProof.Rows.sortedHeap_old (Nat.ne_of_lt (Nat.lt_succ_of_lt hlt)) (Heap.lt_size e1)]
    exact e1
  exact ⟨.ref _, upd H (s.heap.objs.size + 1) (.lst (firsts (ps.mergeSort leD))), I.laid (t' := s.toks) old (Nat.le_succ _) ⟨hlen, out, ep, rv2, hat⟩, rfl, q _ (I.hok.fresh (Nat.le_succ _))⟩

/-- sorted(e, key=len), of a list of texts -/
def leLen : Str → Str → Bool := PySem.W.dataLe false (fun z : Str => PyData.int (z.length : Int))
def tSortLen (K : PySem.W.Frag) (t : TA) : TE := fun σ H Q => t σ H fun xs H1 => ∃ (a : Addr) (zs : List Str), xs = [.ref a] ∧ SqL K H1 a (zs.map V.str) ∧ (∀ z ∈ zs, z.length ≤ sizeLine) ∧ ∀ l, H1 l = none → Q (.ref l) (upd H1 l (.lst ((zs.mergeSort leLen).map V.str)))
theorem run_sortLen {pins : List (Addr × Obj)} {σ : L2.St} {H : Hp} {s : Shared} {a : Addr} {zs : List Str} {Q : VK} (I : Inv X pins σ H s) (hu : X.A.units + 64 < cLine) (hs : SqL X.K H a (zs.map V.str)) (hz : ∀ z ∈ zs, z.length ≤ sizeLine)
    (q : ∀ l, H l = none → Q (.ref l) (upd H l (.lst ((zs.mergeSort leLen).map V.str)))) : wpAny (model X.prog X.w) X.A (call (.builtin "sorted") [.ref a] [(Str.ofString "key", .builtin "len")]) (EP X pins σ Q) X.xe s := by
  obtain ⟨its, rv, pl, hzl⟩ := I.list hs
  rw [List.length_map] at hzl
  refine PySem.W.sorted_key_data (R := fun u (z : Str) => RelV (.str z) u) (b := false) (f := .builtin "len") (fun z : Str => PyData.int (z.length : Int)) pl.isList (each_of_strs rv) (PySem.W.AllAlike.of fun b b' => rfl)
    (PySem.W.Sortable.others fun b => ⟨(fun h => by cases h), (fun xs h => by cases h)⟩) hzl (fun x _ => by show X.A.units + 2 + 0 < cLine; omega) (PyProof.Rows.ksk_s1 _ _) (fun _ => PyProof.Rows.ksk_l1 _ _) (fun x => PyProof.Rows.ksk_t4 "len" x)
    (fun v x r hx h tk k => ?_) fun out c h' tk k nf hat hl he => ?_
  · obtain ⟨t, rfl⟩ := r
    have hx2 := hz x hx
    rw [sizeLine_eq] at hx2
    exact PySem.P.len_str (by omega) ⟨h, _, rfl, fun _ _ z => z, Reads.int _ _⟩
  · have rv2 := vals_of_strs he
    exact ⟨.ref _, upd H (s.heap.objs.size + 1) (.lst ((zs.mergeSort leLen).map V.str)), I.laid (t' := tk) k (Nat.le_succ _) ⟨by rw [List.length_map, List.length_mergeSort]; exact hzl, out, c, rv2, hat⟩, rfl, q _ (I.hok.fresh (Nat.le_succ _))⟩
theorem pe_sortLen {e : Expr} {t : TA} {p lp kp pos : Pos} (ha : PA X [e] t) (hu : X.A.units + 64 < cLine) (hg : Gl X "sorted") (hm : X.mg "sorted" = none) (hgl : Gl X "len") (hml : X.mg "len" = none)
    (h1 : backTo pos (starEach [e] X.env) = (false, eval e X.env) :: backTo pos (starEach [] X.env) := by rfl)
    (hall : (backToKw pos (keywordEach [⟨some "key", .Name "len" lp, kp⟩] X.env)).all (·.1.isSome) = true := by rfl) (hnone : (backToKw pos (keywordEach [⟨some "key", .Name "len" lp, kp⟩] X.env)).any (·.1.isNone) = false := by rfl)
    (hpl : (backTo pos (starEach [e] X.env)).any (·.1) = false := by rfl)
    (hks : (backToKw pos (keywordEach [⟨some "key", .Name "len" lp, kp⟩] X.env)).filterMap (·.1) = [Str.ofString "key"] := by rfl) :
    PE X (.Call (.Name "sorted" p) [e] [⟨some "key", .Name "len" lp, kp⟩] pos) (tSortLen X.K t) := by
  refine ⟨fun pins s σ H Q I h => ?_⟩
  refine wpAny_Call_Name_kw (ld_blt I hg hm (by decide +kernel : bootBuiltins "sorted" = some (.builtin "sorted")) ?_ (by decide) (by decide))
  refine PyProof.Rows.callWith_kw ?_ h1 hpl hall hnone
  refine thn (ha.run pos pins s σ H _ I h) fun us s1 got => ?_
  obtain ⟨vs, H1, I1, r, a, zs, rfl, hs, hz, q⟩ := got
  obtain ⟨u, rfl, rx⟩ := vals1 r
  cases rx
  show wpAny _ _ (evalAll [(do let v ← eval (.Name "len" lp) X.env; standAt pos; pure v)]) _ _ s1
  refine wpAny_evalAll_cons (wpAny_bind (ld_blt I1 hgl hml PySem.boot_len ?_ (by decide) (by decide)))
  refine wpAny_bind (wpAny_standAt (wpAny_pure ?_))
  refine wpAny_evalAll_nil ?_
  rw [hks]
  exact run_sortLen I1 hu hs hz q
end
end Wf
namespace Wf
open PySem PySem.Spec PyProof.Rows L2

/-! ### data -/
theorem lay_all : ∀ {ds : List PyData}, (∀ d ∈ ds, d.canLay0 = true) → PyData.canLayAll0 ds = true
  | [], _ => rfl
  | d :: ds, h => by
    show (PyData.canLay0 d && PyData.canLayAll0 ds) = true
    rw [h d List.mem_cons_self, lay_all fun x hx => h x (List.mem_cons_of_mem _ hx)]
    rfl
theorem dep_all {n : Nat} : ∀ {ds : List PyData}, (∀ d ∈ ds, d.depth ≤ n) → PyData.depthAll ds ≤ n
  | [], _ => Nat.zero_le _
  | d :: ds, h => by
    show max (PyData.depth d) (PyData.depthAll ds) ≤ n
    exact Nat.max_le.mpr ⟨h d List.mem_cons_self, dep_all fun x hx => h x (List.mem_cons_of_mem _ hx)⟩
/-- plain data: it can be laid, of small depth -/
def Pl (n : Nat) (d : PyData) : Prop := d.canLay0 = true ∧ d.depth ≤ n
theorem Pl.mono {n m : Nat} {d : PyData} (h : Pl n d) (e : n ≤ m) : Pl m d := ⟨h.1, Nat.le_trans h.2 e⟩
theorem pl_none {n : Nat} : Pl n .none := ⟨rfl, Nat.zero_le _⟩
theorem pl_bool {n : Nat} {b : Bool} : Pl n (.bool b) := ⟨rfl, Nat.zero_le _⟩
theorem pl_int {n : Nat} {i : Int} : Pl n (.int i) := ⟨rfl, Nat.zero_le _⟩
theorem pl_str {n : Nat} {x : Str} (h : PyData.strOk x = true) : Pl n (.str x) := ⟨h, Nat.zero_le _⟩
theorem pl_list {n : Nat} {ds : List PyData} (h : ∀ d ∈ ds, Pl n d) : Pl (n + 1) (.list ds) := ⟨lay_all fun d hd => (h d hd).1, Nat.succ_le_succ (dep_all fun d hd => (h d hd).2)⟩
theorem pl_tup {n : Nat} {ds : List PyData} (h : ∀ d ∈ ds, Pl n d) : Pl (n + 1) (.tuple ds) := ⟨lay_all fun d hd => (h d hd).1, Nat.succ_le_succ (dep_all fun d hd => (h d hd).2)⟩
theorem Pl.shaped {n : Nat} {d : PyData} (h : Pl n d) (e : n ≤ 64 := by decide) : SeqAt.shaped d = true := by
  show (d.canLay0 && decide (d.depth ≤ 64)) = true
  rw [h.1, decide_eq_true (Nat.le_trans h.2 e)]
  rfl
theorem eqv_nil {ds : List PyData} : PyData.eqv (.list ds) (.list []) = ds.isEmpty := by
  cases ds <;> rfl
section
variable {K : PySem.W.Frag} {H H' : Hp}
theorem dpAll_of {α : Type} {f : α → V} {g : α → PyData} : ∀ {xs : List α}, (∀ x ∈ xs, Dp K H (f x) (g x)) → DpAll K H (xs.map f) (xs.map g)
  | [], _ => .nil
  | x :: xs, h => .cons (h x List.mem_cons_self) (dpAll_of fun y hy => h y (List.mem_cons_of_mem _ hy))
theorem dpAll_ints {ns : List Int} : DpAll K H (ns.map V.int) (ns.map PyData.int) := dpAll_of fun i _ => .int i
theorem dpAll_strs {zs : List Str} : DpAll K H (zs.map V.str) (zs.map PyData.str) := dpAll_of fun z _ => .str z
theorem rd_keep {a : Addr} {u : HO} (k : ∀ o, H a = some o → H' a = some o) (h : Rd H a u) : Rd H' a u := by
  rcases h with h | ⟨o, h⟩
  · exact .inl (k _ h)
  · exact .inr ⟨o, k _ h⟩
end
/-- xs == [], xs != [] -/
theorem ints_ne {X : Cx} {H : Hp} {a l : Addr} {ns : List Int} {Q : VK} (h : SqL X.K H a (ns.map V.int)) (hl : SqL X.K H l []) (q : Q (.bl (!ns.isEmpty)) H) : rNeD X.K (.ref a) (.ref l) H Q :=
  ⟨.list (ns.map PyData.int), .list [], .lst h dpAll_ints, .lst hl .nil, (pl_list (n := 0) fun d hd => by
    obtain ⟨i, _, rfl⟩ := List.mem_map.mp hd
    exact pl_int).shaped, (pl_list (n := 0) fun d hd => by cases hd).shaped, by rw [eqv_nil]; simpa using q⟩
end Wf
namespace Wf
open PySem L2
/-! ### a def of the text, to be called by its name -/
structure Dn (P : Program) (w : World) (K : PySem.W.Frag) (mg : Str → Option Value) (base : Heap) (k : Nat) (x : Str) (ps : List Str) (sp : Sp) : Prop where
  ex : ∃ (f : Addr) (fd : FuncData), FnOk P w K mg base CX0 k f fd ps sp ∧ mg x = some (.ref f) ∧ PySem.W.keepIn K (.ref f) = true ∧ Binds K fd ps []
structure DnG (P : Program) (w : World) (K : PySem.W.Frag) (mg : Str → Option Value) (base : Heap) (k : Nat) (x : Str) (ps : List Str) (sp : Sp) : Prop where
  ex : ∃ (f : Addr) (fd : FuncData), FnG P w K mg base CX0 k f fd ps sp ∧ mg x = some (.ref f) ∧ PySem.W.keepIn K (.ref f) = true ∧ Binds K fd ps []
section
variable {X : Cx} {k : Nat} {x : Str} {ps : List Str} {sp : Sp} {p pos : Pos} {e : Expr} {es : List Expr} {t : TA}
theorem pe_cl (D : Dn X.prog X.w X.K X.mg X.base k x ps sp) (hr : Room k X.A) (ha : PA X (e :: es) t) (hg : Gl X x := by rfl) (hdb : (x == ("__debug__" : Str)) = false := by decide)
    (he : starEach (e :: es) X.env = (false, eval e X.env) :: starEach es X.env := by rfl) (hpl : (backTo pos (starEach es X.env)).any (·.1) = false := by rfl) : PE X (.Call (.Name x p) (e :: es) [] pos) (tCall sp [] E0 t) :=
  let ⟨_, _, F, hm, hk, hb⟩ := D.ex
  pe_call F hr hg hm hk hb .nil pass0 ha hdb he hpl
theorem pe_clG (D : DnG X.prog X.w X.K X.mg X.base k x ps sp) (hq : Qt X.A) (hr : Room k X.A) (ha : PA X (e :: es) t) (hg : Gl X x := by rfl) (hdb : (x == ("__debug__" : Str)) = false := by decide)
    (he : starEach (e :: es) X.env = (false, eval e X.env) :: starEach es X.env := by rfl) (hpl : (backTo pos (starEach es X.env)).any (·.1) = false := by rfl) : PE X (.Call (.Name x p) (e :: es) [] pos) (tCall sp [] E0 t) :=
  let ⟨_, _, F, hm, hk, hb⟩ := D.ex
  pe_callG F hq hr hg hm hk hb .nil pass0 ha hdb he hpl
end

/-! ### the pen -/
def penO (c : Addr) (sp mo : Int) : HO := .dK [(.inr "cells", .ref c), (.inr "spot", .int sp), (.inr "more", .int mo)]
/-- a pen at p that has drawn at most n times -/
def Pen (H : Hp) (p c : Addr) (n : Nat) : Prop := ∃ (ns : List Int) (sp mo : Int), H p = some (penO c sp mo) ∧ H c = some (.lst (ns.map V.int)) ∧ ns.length ≤ 63 ∧ 0 ≤ sp ∧ sp ≤ n ∧ 0 ≤ mo
/-- nothing but p has changed -/
def But (p : Addr) (H H' : Hp) : Prop := ∀ b o, b ≠ p → H b = some o → H' b = some o

theorem pen_c {c : Addr} {sp mo : Int} : valV [((.inr "cells" : Key), V.ref c), (.inr "spot", .int sp), (.inr "more", .int mo)] (.inr "cells") = some (.ref c) := by rfl
theorem pen_s {c : Addr} {sp mo : Int} : valV [((.inr "cells" : Key), V.ref c), (.inr "spot", .int sp), (.inr "more", .int mo)] (.inr "spot") = some (.int sp) := by rfl
theorem pen_m {c : Addr} {sp mo : Int} : valV [((.inr "cells" : Key), V.ref c), (.inr "spot", .int sp), (.inr "more", .int mo)] (.inr "more") = some (.int mo) := by rfl
theorem pen_ps {c : Addr} {sp mo z : Int} : putK [((.inr "cells" : Key), V.ref c), (.inr "spot", .int sp), (.inr "more", .int mo)] (.inr "spot") (.int z) = [((.inr "cells" : Key), V.ref c), (.inr "spot", .int z), (.inr "more", .int mo)] := by rfl
theorem pen_pm {c : Addr} {sp mo z : Int} : putK [((.inr "cells" : Key), V.ref c), (.inr "spot", .int sp), (.inr "more", .int mo)] (.inr "more") (.int z) = [((.inr "cells" : Key), V.ref c), (.inr "spot", .int sp), (.inr "more", .int z)] := by rfl
theorem getC {H : Hp} {p c : Addr} {sp mo : Int} (h : H p = some (penO c sp mo)) : DGet H p (.str "cells") (some (.ref c)) := by
  have e := DGet.k (k := .inr "cells") h
  rw [pen_c] at e
  exact e
theorem getS {H : Hp} {p c : Addr} {sp mo : Int} (h : H p = some (penO c sp mo)) : DGet H p (.str "spot") (some (.int sp)) := by
  have e := DGet.k (k := .inr "spot") h
  rw [pen_s] at e
  exact e
theorem getM {H : Hp} {p c : Addr} {sp mo : Int} (h : H p = some (penO c sp mo)) : DGet H p (.str "more") (some (.int mo)) := by
  have e := DGet.k (k := .inr "more") h
  rw [pen_m] at e
  exact e
theorem setS {H : Hp} {p c : Addr} {sp mo : Int} (z : Int) (h : H p = some (penO c sp mo)) : DPut H p (.str "spot") (.int z) (upd H p (penO c z mo)) := by
  have e := DPut.k (k := .inr "spot") (v := .int z) h (by show 3 < sizeLine; decide)
  rw [pen_ps] at e
  exact e
theorem setM {H : Hp} {p c : Addr} {sp mo : Int} (z : Int) (h : H p = some (penO c sp mo)) : DPut H p (.str "more") (.int z) (upd H p (penO c sp z)) := by
  have e := DPut.k (k := .inr "more") (v := .int z) h (by show 3 < sizeLine; decide)
  rw [pen_pm] at e
  exact e
theorem atI_in {α : Type} {xs : List α} {i : Int} (h0 : 0 ≤ i) (h1 : i < (xs.length : Int)) : ∃ y, atI xs i = some y := by
  obtain ⟨j, rfl⟩ := Int.eq_ofNat_of_zero_le h0
  exact ⟨_, atI_nat (List.getElem?_eq_getElem (by omega))⟩
theorem atI_ints {ns : List Int} {i : Int} (h0 : 0 ≤ i) (h1 : i < ((ns.map V.int).length : Int)) : ∃ z : Int, atI (ns.map V.int) i = some (.int z) := by
  obtain ⟨j, rfl⟩ := Int.eq_ofNat_of_zero_le h0
  rw [List.length_map] at h1
  exact ⟨ns[j]'(by omega), atI_nat (by rw [List.getElem?_map, List.getElem?_eq_getElem (by omega)]; rfl)⟩
theorem bnd {z m : Int} (h : 0 < m) (h2 : m < 2 ^ 64) : -(2 ^ 64) < z % m ∧ z % m < 2 ^ 64 := by
  have h3 := Int.emod_nonneg z (show m ≠ 0 by omega)
  have h4 := Int.emod_lt_of_pos z h
  omega
theorem lim {z : Int} (h : 0 ≤ z) (h2 : z < 2 ^ 64) : -(2 ^ 64) < z ∧ z < 2 ^ 64 := by omega
def spPen (K : PySem.W.Frag) : Sp := fun vs H Q _ => ∃ (a : Addr) (ns : List Int), vs = [.ref a] ∧ SqL K H a (ns.map V.int) ∧ ns.length ≤ 63 ∧ ∀ p c H', Same H H' → H p = none → Pen H' p c 0 → Q (.ref p) H'
def spDraw : Sp := fun vs H Q _ => ∃ (p c : Addr) (n : Nat) (many : Int), vs = [.ref p, .int many] ∧ Pen H p c n ∧ n ≤ 1000000 ∧ 0 < many ∧ many < 1000000 ∧
  ∀ (d : Int) (H' : Hp), 0 ≤ d → d < many → But p H H' → Pen H' p c (n + 1) → Q (.int d) H'


/-! ### data as the heap grows -/
theorem sm1 {H : Hp} {l : Addr} {o : HO} (h : H l = none) : Same H (upd H l o) := fun b u e => by
  rw [upd_ne (ne_of_none e h)]
  exact e
/-- what was not there may be written -/
theorem swr {H H' : Hp} {l : Addr} {o : HO} (s : Same H H') (h : H l = none) : Same H (upd H' l o) := fun b u e => by
  rw [upd_ne (ne_of_none e h)]
  exact s b u e
theorem But.refl (p : Addr) (H : Hp) : But p H H := fun _ _ _ h => h
theorem But.trans {p : Addr} {H H1 H2 : Hp} (a : But p H H1) (b : But p H1 H2) : But p H H2 := fun x o n h => b x o n (a x o n h)
theorem But.of {p : Addr} {H H' : Hp} (s : Same H H') : But p H H' := fun b o _ h => s b o h
theorem But.new {p l : Addr} {o : HO} {H H' : Hp} (b : But p H H') (h : H l = none) : But p H (upd H' l o) := fun x u n e => by
  rw [upd_ne (ne_of_none e h)]
  exact b x u n e
theorem But.same {p : Addr} {H H1 H2 : Hp} (a : But p H H1) (b : Same H1 H2) : But p H H2 := fun x o n h => b x o (a x o n h)
theorem Pen.at {H : Hp} {p c : Addr} {n : Nat} (h : Pen H p c n) : ∃ kvs, H p = some (.dK kvs) := let ⟨_, _, _, e, _⟩ := h; ⟨_, e⟩
/-- the pen stays where neither of its places is touched -/
theorem Pen.keep {H H' : Hp} {p c : Addr} {n : Nat} (h : Pen H p c n) (s : ∀ b o, b = p ∨ b = c → H b = some o → H' b = some o) : Pen H' p c n := let ⟨ns, sp, mo, e1, e2, r⟩ := h; ⟨ns, sp, mo, s _ _ (.inl rfl) e1, s _ _ (.inr rfl) e2, r⟩
theorem Pen.cell {H : Hp} {p c : Addr} {n : Nat} (h : Pen H p c n) : ∃ xs, H c = some (.lst xs) := let ⟨_, _, _, _, e, _⟩ := h; ⟨_, e⟩
theorem Pen.same {H H' : Hp} {p c : Addr} {n : Nat} (h : Pen H p c n) (s : Same H H') : Pen H' p c n := let ⟨ns, sp, mo, e1, e2, r⟩ := h; ⟨ns, sp, mo, s _ _ e1, s _ _ e2, r⟩
/-- a new object is none of the pen's -/
theorem Pen.off {H : Hp} {p c l : Addr} {n : Nat} (h : Pen H p c n) (hl : H l = none) : l ≠ p ∧ l ≠ c := by
  obtain ⟨kvs, e⟩ := h.at
  obtain ⟨xs, e2⟩ := h.cell
  refine ⟨fun z => ?_, fun z => ?_⟩
  · rw [z, e] at hl
    cases hl
  · rw [z, e2] at hl
    cases hl
/-- another list is written -/
theorem Pen.wr {H : Hp} {p c l : Addr} {n : Nat} {o : HO} (h : Pen H p c n) (n1 : l ≠ p) (n2 : l ≠ c) : Pen (upd H l o) p c n := h.keep fun b u hb e => by
  have : b ≠ l := by
    rcases hb with rfl | rfl
    · exact n1.symm
    · exact n2.symm
  rw [upd_ne this]
  exact e
theorem Pen.up {H : Hp} {p c : Addr} {n m : Nat} (h : Pen H p c n) (e : n ≤ m) : Pen H p c m := let ⟨ns, sp, mo, e1, e2, a1, a2, a3, a4⟩ := h; ⟨ns, sp, mo, e1, e2, a1, a2, by omega, a4⟩
/-- a fresh place is fresh before -/
theorem But.free {p l c : Addr} {n : Nat} {H H' : Hp} (b : But p H H') (hp : Pen H' p c n) (h : H' l = none) : H l = none := by
  cases q : H l with
  | none => rfl
  | some o =>
    obtain ⟨kvs, e⟩ := hp.at
    have ne : l ≠ p := fun z => by rw [z, e] at h; cases h
    rw [b l o ne q] at h
    cases h
theorem pen_ne {H : Hp} {p a c : Addr} {n : Nat} {o : HO} (hp : Pen H p c n) (h : H a = some o) (d : ∀ kvs, o ≠ .dK kvs) : a ≠ p := fun z => by
  obtain ⟨kvs, e⟩ := hp.at
  rw [z, e] at h
  exact d kvs (Option.some.inj h).symm
theorem But.sql {K : PySem.W.Frag} {H H' : Hp} {p a c : Addr} {n : Nat} {xs : List V} (b : But p H H') (hp : Pen H p c n) (h : SqL K H a xs) : SqL K H' a xs := by
  rcases h with (h | ⟨o, h⟩) | h
  · exact .inl (.inl (b _ _ (pen_ne hp h fun _ z => by cases z) h))
  · exact .inl (.inr ⟨o, b _ _ (pen_ne hp h fun _ z => by cases z) h⟩)
  · exact .inr h
theorem But.sqt {K : PySem.W.Frag} {H H' : Hp} {p a c : Addr} {n : Nat} {xs : List V} (b : But p H H') (hp : Pen H p c n) (h : SqT K H a xs) : SqT K H' a xs := by
  rcases h with (h | ⟨o, h⟩) | h
  · exact .inl (.inl (b _ _ (pen_ne hp h fun _ z => by cases z) h))
  · exact .inl (.inr ⟨o, b _ _ (pen_ne hp h fun _ z => by cases z) h⟩)
  · exact .inr h
/-- what is read stays -/
structure Stay (K : PySem.W.Frag) (H H' : Hp) : Prop where
  l : ∀ a xs, SqL K H a xs → SqL K H' a xs
  t : ∀ a xs, SqT K H a xs → SqT K H' a xs
theorem But.stay {K : PySem.W.Frag} {H H' : Hp} {p c : Addr} {n : Nat} (b : But p H H') (hp : Pen H p c n) : Stay K H H' := ⟨fun _ _ h => b.sql hp h, fun _ _ h => b.sqt hp h⟩
theorem Stay.of {K : PySem.W.Frag} {H H' : Hp} (s : Same H H') : Stay K H H' := ⟨fun a xs h => s.seq h, fun a xs h => by
  rcases h with (h | ⟨o, h⟩) | h
  · exact .inl (.inl (s _ _ h))
  · exact .inl (.inr ⟨o, s _ _ h⟩)
  · exact .inr h⟩
theorem Stay.refl {K : PySem.W.Frag} {H : Hp} : Stay K H H := ⟨fun _ _ h => h, fun _ _ h => h⟩
theorem Stay.trans {K : PySem.W.Frag} {H H1 H2 : Hp} (a : Stay K H H1) (b : Stay K H1 H2) : Stay K H H2 := ⟨fun x xs h => b.l x xs (a.l x xs h), fun x xs h => b.t x xs (a.t x xs h)⟩
mutual
theorem Stay.dp {K : PySem.W.Frag} {H H' : Hp} (s : Stay K H H') : ∀ {d : PyData} {v : V}, Dp K H v d → Dp K H' v d
  | .none, _, h => by
    cases h
    exact .non
  | .bool _, _, h => by
    cases h
    exact .bl _
  | .int _, _, h => by
    cases h
    exact .int _
  | .str _, _, h => by
    cases h
    exact .str _
  | .list ds, _, h => by
    cases h with
    | lst q a => exact .lst (s.l _ _ q) (s.dpAll a)
  | .tuple ds, _, h => by
    cases h with
    | tup q a => exact .tup (s.t _ _ q) (s.dpAll a)
  | .dict _, _, h => by cases h
theorem Stay.dpAll {K : PySem.W.Frag} {H H' : Hp} (s : Stay K H H') : ∀ {ds : List PyData} {vs : List V}, DpAll K H vs ds → DpAll K H' vs ds
  | [], _, h => by
    cases h
    exact .nil
  | d :: ds, _, h => by
    cases h with
    | cons a b => exact .cons (s.dp a) (s.dpAll b)
end
/-- things that are plain data -/
def Dat (K : PySem.W.Frag) (H : Hp) (xs : List V) : Prop := ∀ x ∈ xs, ∃ d, Dp K H x d ∧ Pl 60 d
theorem Dat.all {K : PySem.W.Frag} {H : Hp} : ∀ {xs : List V}, Dat K H xs → ∃ ds, DpAll K H xs ds ∧ ds.length = xs.length ∧ ∀ d ∈ ds, Pl 60 d
  | [], _ => ⟨[], .nil, rfl, fun d hd => by cases hd⟩
  | x :: xs, h => by
    obtain ⟨d, h1, h2⟩ := h x List.mem_cons_self
    obtain ⟨ds, h3, h4, h5⟩ := Dat.all (xs := xs) fun y hy => h y (List.mem_cons_of_mem _ hy)
    refine ⟨d :: ds, .cons h1 h3, congrArg (· + 1) h4, fun e he => ?_⟩
    rcases List.mem_cons.mp he with rfl | he
    · exact h2
    · exact h5 e he
theorem Dat.stay {K : PySem.W.Frag} {H H' : Hp} {xs : List V} (h : Dat K H xs) (s : Stay K H H') : Dat K H' xs := fun x hx => let ⟨d, a, b⟩ := h x hx; ⟨d, s.dp a, b⟩
theorem Dat.sub {K : PySem.W.Frag} {H : Hp} {xs ys : List V} (h : Dat K H xs) (s : ∀ y ∈ ys, y ∈ xs) : Dat K H ys := fun y hy => h y (s y hy)
theorem empty_iff {α β : Type} {xs : List α} {ys : List β} (h : ys.length = xs.length) : ys.isEmpty = xs.isEmpty := by
  cases xs <;> cases ys <;> simp_all
/-- xs != [] -/
theorem data_ne {X : Cx} {H : Hp} {a l : Addr} {xs : List V} {Q : VK} (h : SqL X.K H a xs) (dt : Dat X.K H xs) (hl : SqL X.K H l []) (q : Q (.bl (!xs.isEmpty)) H) : rNeD X.K (.ref a) (.ref l) H Q := by
  obtain ⟨ds, h1, h2, h3⟩ := dt.all
  refine ⟨.list ds, .list [], .lst h h1, .lst hl .nil, (pl_list h3).shaped, (pl_list (n := 0) fun d hd => by cases hd).shaped, ?_⟩
  rw [eqv_nil, empty_iff h2]
  exact q
theorem data_eq {X : Cx} {H : Hp} {a l : Addr} {xs : List V} {Q : VK} (h : SqL X.K H a xs) (dt : Dat X.K H xs) (hl : SqL X.K H l []) (q : Q (.bl xs.isEmpty) H) : rEqD X.K (.ref a) (.ref l) H Q := by
  obtain ⟨ds, h1, h2, h3⟩ := dt.all
  refine ⟨.list ds, .list [], .lst h h1, .lst hl .nil, (pl_list h3).shaped, (pl_list (n := 0) fun d hd => by cases hd).shaped, ?_⟩
  rw [eqv_nil, empty_iff h2]
  exact q
end Wf
namespace Wf
open PySem PySem.Spec PyProof.Rows L2
mutual
/-- no more signs than these are shown -/
def cost : PyData → Nat
  | .none => 5
  | .bool _ => 5
  | .int i => (PyData.int i).shown.length
  | .str x => 10 * x.length + 2
  | .list xs => costs xs + 3
  | .tuple xs => costs xs + 3
  | .dict kvs => (PyData.dict kvs).shown.length
def costs : List PyData → Nat
  | [] => 0
  | x :: xs => cost x + 2 + costs xs
end
theorem shownAll_map : ∀ xs : List PyData, PyData.shownAll xs = xs.map PyData.shown
  | [] => rfl
  | x :: xs => by
    show PyData.shown x :: PyData.shownAll xs = _
    rw [shownAll_map xs]
    rfl
mutual
theorem shown_le : ∀ d : PyData, d.canLay0 = true → d.shown.length ≤ cost d
  | .none, _ => by decide +kernel
  | .bool b, _ => by cases b <;> decide +kernel
  | .int i, _ => by
    show _ ≤ (PyData.int i).shown.length
    exact Nat.le_refl _
  | .str x, h => by
    show (reprText x).length ≤ 10 * x.length + 2
    refine StrLaws.reprText_len x fun c hc => ?_
    have h2 : x.cps.all (· < 0x110000) = true := h
    rw [← Array.all_toList, List.all_eq_true] at h2
    have := h2 c hc
    have := of_decide_eq_true this
    omega
  | .list xs, h => by
    show (listText (PyData.shownAll xs)).length ≤ costs xs + 3
    have h1 := listText_len_le (PyData.shownAll xs)
    have h2 := showns_le xs h
    omega
  | .tuple xs, h => by
    show (tupleText (PyData.shownAll xs)).length ≤ costs xs + 3
    have h1 := tupleText_len_le (PyData.shownAll xs)
    have h2 := showns_le xs h
    omega
  | .dict kvs, _ => by
    show _ ≤ (PyData.dict kvs).shown.length
    exact Nat.le_refl _
theorem showns_le : ∀ xs : List PyData, PyData.canLayAll0 xs = true → ((PyData.shownAll xs).map (·.length)).sum + 2 * (PyData.shownAll xs).length ≤ costs xs
  | [], _ => Nat.le_refl _
  | x :: xs, h => by
    have h' : (PyData.canLay0 x && PyData.canLayAll0 xs) = true := h
    have h1 := shown_le x (Bool.and_eq_true_iff.mp h').1
    have h2 := showns_le xs (Bool.and_eq_true_iff.mp h').2
    show ((PyData.shown x :: PyData.shownAll xs).map (·.length)).sum + 2 * (PyData.shown x :: PyData.shownAll xs).length ≤ cost x + 2 + costs xs
    rw [List.map_cons, List.sum_cons, List.length_cons]
    omega
end
theorem costs_le {n : Nat} : ∀ {ds : List PyData}, (∀ d ∈ ds, cost d ≤ n) → costs ds ≤ ds.length * (n + 2)
  | [], _ => Nat.zero_le _
  | d :: ds, h => by
    have h1 := h d List.mem_cons_self
    have h2 := costs_le (ds := ds) fun x hx => h x (List.mem_cons_of_mem _ hx)
    show cost d + 2 + costs ds ≤ (ds.length + 1) * (n + 2)
    rw [Nat.succ_mul]
    omega
theorem showableAll_of : ∀ {ds : List PyData}, (∀ d ∈ ds, d.showable = true) → PyData.showableAll ds = true
  | [], _ => rfl
  | d :: ds, h => by
    show (PyData.showable d && PyData.showableAll ds) = true
    rw [h d List.mem_cons_self, showableAll_of fun x hx => h x (List.mem_cons_of_mem _ hx)]
    rfl
/-- it can be shown, in so many signs -/
structure Shw (n : Nat) (d : PyData) : Prop where
  s : d.showable = true
  p : d.canLay0 = true
  dp : d.depth ≤ 60
  c : cost d ≤ n
theorem Shw.sz {n : Nat} {d : PyData} (h : Shw n d) (e : n ≤ 16777216) : d.shown.length ≤ sizeLine := by
  rw [sizeLine_eq]
  exact Nat.le_trans (shown_le d h.p) (Nat.le_trans h.c e)
theorem Shw.more {n m : Nat} {d : PyData} (h : Shw n d) (e : n ≤ m) : Shw m d := ⟨h.s, h.p, h.dp, Nat.le_trans h.c e⟩
/-- repr of what is shown -/
theorem shows {K : PySem.W.Frag} {H : Hp} {v : V} {d : PyData} {n : Nat} {Q : VK} (h : Dp K H v d) (s : Shw n d) (e : n ≤ 16777216) (q : Q (.str d.shown) H) : rRepr K [v] H Q := ⟨v, d, rfl, h, s.s, s.dp, s.sz e, q⟩
/-- words: signs that are letters, not too long -/
def Wd (m : Nat) (z : Str) : Prop := z.length ≤ m ∧ ∀ ch ∈ z.cps.toList, 97 ≤ ch ∧ ch ≤ 122
theorem Wd.ok {m : Nat} {z : Str} (h : Wd m z) : PyData.strOk z = true := by
  show z.cps.all (· < 0x110000) = true
  rw [← Array.all_toList, List.all_eq_true]
  intro ch hc
  have := h.2 ch hc
  exact decide_eq_true (by omega)
theorem shw_str {m : Nat} {z : Str} (h : Wd m z) : Shw (10 * m + 2) (.str z) := ⟨rfl, h.ok, Nat.zero_le _, by
  show 10 * z.length + 2 ≤ 10 * m + 2
  have := h.1
  omega⟩
theorem dep_map {α : Type} {f : α → PyData} {xs : List α} (h : ∀ x ∈ xs, (f x).depth ≤ 0) : PyData.depthAll (xs.map f) ≤ 0 := dep_all fun d hd => by
  obtain ⟨x, hx, rfl⟩ := List.mem_map.mp hd
  exact h x hx
theorem costs_words {m n : Nat} {zs : List Str} (h : ∀ z ∈ zs, Wd m z) (hn : zs.length ≤ n) : costs (zs.map PyData.str) ≤ n * (10 * m + 4) := by
  have h1 := costs_le (n := 10 * m + 2) (ds := zs.map PyData.str) fun d hd => by
    obtain ⟨z, hz, rfl⟩ := List.mem_map.mp hd
    exact (shw_str (h z hz)).c
  rw [List.length_map] at h1
  exact Nat.le_trans h1 (Nat.mul_le_mul_right _ hn)
theorem shw_words {m n : Nat} {zs : List Str} (h : ∀ z ∈ zs, Wd m z) (hn : zs.length ≤ n) : Shw (n * (10 * m + 4) + 3) (.list (zs.map PyData.str)) := by
  have hd : ∀ d ∈ zs.map PyData.str, ∃ z ∈ zs, d = PyData.str z := fun d hd => let ⟨z, a, b⟩ := List.mem_map.mp hd; ⟨z, a, b.symm⟩
  refine ⟨showableAll_of fun d q => ?_, lay_all fun d q => ?_, ?_, Nat.add_le_add_right (costs_words h hn) 3⟩
  · obtain ⟨z, _, rfl⟩ := hd d q
    rfl
  · obtain ⟨z, hz, rfl⟩ := hd d q
    exact (h z hz).ok
  · have := dep_map (f := PyData.str) (xs := zs) fun _ _ => Nat.le_refl 0
    show PyData.depthAll _ + 1 ≤ 60
    omega
theorem shw_wordsT {m n : Nat} {zs : List Str} (h : ∀ z ∈ zs, Wd m z) (hn : zs.length ≤ n) : Shw (n * (10 * m + 4) + 3) (.tuple (zs.map PyData.str)) :=
  let a := shw_words h hn
  ⟨a.s, a.p, a.dp, a.c⟩
end Wf
/-! the law itself: it is called where nothing is being shown -/
namespace Wf
open PySem PySem.Spec PyProof.Rows L2
/-- sys.modules is there at the start -/
abbrev Mods (h : Heap) : Prop := ∃ m, h.Ns sysModules m
section
variable {P : Program} {w : World} {K : PySem.W.Frag} {mg : Str → Option Value} {base : Heap} {k : Nat} {f : Addr} {fd : FuncData} {ps : List Str} {sp : Sp}
/-- a def that lets no exception out -/
theorem FnG.plain {x qual : Str} {st : Stmt} {N : List Str} (F : Fun K x qual st f fd) (S : FnScope N ps (defScope st)) (many : ∀ {vs H Q E}, sp vs H Q E → vs.length = ps.length)
    (B : ∀ (cdv : Value) (A : Around) (outer : List Env) (s : Shared) (H : Hp) (vs : List V) (Q : VK) (E : XK), Qt A → Room k (A.deeper (envOfC qual (defScope st) s.heap.objs.size f cdv)) → sp vs H Q E →
      ∃ t, PSs (cxOf CX0 P w K mg base N qual (defScope st) f cdv A outer s H E).nox (defBody st) t ∧ t { nx := fun _ H' => Q .non H', rt := Q } (start N vs) H) :
    FnG P w K mg base CX0 (k + 1) f fd ps sp :=
  FnG.body F S many fun cdv A outer s H vs Q E g r h => let ⟨t, b, q⟩ := B cdv A outer s H vs Q E g r h; ⟨t, b.nox, q⟩
end
/-- an int that the module's top has written -/
theorem pe_gi {X : Cx} {x : Str} {i : Int} {pos : Pos} (h : ∃ t, X.mg x = some (.int i t)) (hg : Gl X x := by rfl) (hd : (x == ("__debug__" : Str)) = false := by decide) : PE X (.Name x pos) (tC (.int i)) :=
  let ⟨_, e⟩ := h
  pe_glob hg e ⟨_, rfl⟩ hd

/-- the one heap at the law's entry: nothing is tracked but the script, where it is not the module's own -/
def entry (K : PySem.W.Frag) (a : Addr) (o : Obj) (xs : List V) : Hp := fun b => if K.lookup a = none ∧ b = a then some (.frz o (.lst xs)) else none
theorem entry_at {K : PySem.W.Frag} {a b : Addr} {o : Obj} {xs : List V} {u : HO} (h : entry K a o xs b = some u) : K.lookup a = none ∧ b = a ∧ u = .frz o (.lst xs) := by
  unfold entry at h
  split at h
  · rename_i c
    exact ⟨c.1, c.2, (Option.some.inj h).symm⟩
  · cases h
theorem entry_no {K : PySem.W.Frag} {a b : Addr} {o : Obj} {xs : List V} (h : b ≠ a ∨ K.lookup a ≠ none) : entry K a o xs b = none := if_neg fun c => h.elim (fun n => n c.2) (fun n => n c.1)
section
variable {P : Program} {w : World} {K : PySem.W.Frag} {mg mb : Str → Option Value} {k : Nat} {fa a : Addr} {fd : FuncData} {x : Str} {sp : Sp} {s : Shared} {us : List Value} {ns : List Int}
theorem law_goes (inK : K.In s.heap) (hm : s.heap.Ns mainGlobals mg) (hb : s.heap.Ns builtinsNs mb) (hbb : ∀ y : Str, y ≠ "__name__" → mb y = bootBuiltins y) (nl : s.heap.NoLimit) (mods : Mods s.heap) (hg : s.gens = #[])
    (ha : s.heap.get? a = some { cls := .type "list", data := .seq us.toArray }) (hi : IntsAre us ns) (hn : ns.length ≤ sizeLine) (room : Room k callerA)
    (F : ∀ base : Heap, K.In base → base.Ns mainGlobals mg → Mods base → FnG P w K mg base CX0 k fa fd [x] sp) (bt : ∀ (t : Shared) (u : Value), BindsTo t fd ⟨[u], []⟩ [(x, u)])
    (hsp : ∀ H : Hp, SqL K H a (ns.map V.int) → sp [.ref a] H (fun v _ => v = .bl true) fun _ _ _ => False) :
    codeAny (model P w) callerA (.call (.ref fa) ⟨[.ref a], []⟩) (fun r t => r = .ok (.ret (.bool true)) ∧ OldK s.heap t.heap ∧ t.os = s.os ∧ AllBare t.gens) s := by
  have vals := vals_ints hi
  let ob : Obj := { cls := .type "list", data := .seq us.toArray }
  let H : Hp := entry K a ob (ns.map V.int)
  have sq : SqL K H a (ns.map V.int) := by
    cases q : K.lookup a with
    | none => exact .inl (.inr ⟨ob, if_pos ⟨q, rfl⟩⟩)
    | some o =>
      have e : o = ob := Option.some.inj ((inK a o q).symm.trans ha)
      subst e
      exact .inr ⟨_, us.toArray, _, q, rfl, rfl, rfl, by rw [List.size_toArray, hi.length]; exact hn, by simpa using vals⟩
  have ok : HOk P w H s.heap := by
    intro b u q
    obtain ⟨_, rfl, rfl⟩ := entry_at q
    exact ⟨ha, by rw [List.length_map]; exact hn, us, _, vals, ha⟩
  have low : ∀ {b : Addr} {o : Obj}, s.heap.get? b = some o → H b = none → (hidT s.heap H).get? b = some o := fun q n => hidT_get q n
  have isD : ∀ {b : Addr} {m : Str → Option Value}, s.heap.Ns b m → (hidT s.heap H).Ns b m := by
    rintro b m ⟨o, es, ep, q, d, r⟩
    refine ⟨o, es, ep, low q (entry_no (.inl fun z => ?_)), d, r⟩
    rw [z, ha] at q
    cases q
    cases d
  have inB : K.In (hidT s.heap H) := fun b o q => low (inK b o q) (entry_no (by
    by_cases z : b = a
    · exact .inr fun n => by rw [← z, q] at n; cases n
    · exact .inl z))
  have lim : (hidT s.heap H).NoLimit := by
    obtain ⟨mc, l1, l2⟩ := nl
    exact ⟨mc, isD l1, l2⟩
  have env : Env0 P w K mg (hidT s.heap H) callerA [] s H :=
    { frames := rfl, mod := ⟨inB, isD hm, ⟨mb, isD hb, hbb⟩, lim⟩, bs := fun b o q => of_hidT q, bsz := Nat.le_of_eq (hidT_size _ _), funs := trivial, frf := fun b q => absurd (show b ∈ ([] : List Addr) from q) (by simp), hok := ok, bare := .of_eq hg }
  refine codeAny_mono ((F _ inB (isD hm) (mods.imp fun _ h => isD h)).goes (us := [.ref a]) (vs := [.ref a]) rfl room env (bt s (.ref a)) (.cons rfl .nil) (hsp H sq)) ?_
  intro r t got
  match r, got with
  | .error _, got => exact got.elim
  | .ok .next, got => exact got.elim
  | .ok .brk, got => exact got.elim
  | .ok .cont, got => exact got.elim
  | .ok (.ret u), got =>
    obtain ⟨v, H', os, bare, un, ok', rv, ev⟩ := got
    have ev' : v = .bl true := ev
    subst ev'
    have eu : u = Value.bool true := rv
    subst eu
    refine ⟨rfl, OldK.of_keep (fun b o q => ?_), os, bare⟩
    cases hb' : H b with
    | none => exact un.keep b o q hb' (fun z => absurd (show b ∈ ([] : List Addr) from z) (by simp)) (fun z => absurd (show b ∈ ([] : List Addr) from z) (by simp))
    | some u =>
      obtain ⟨_, eb, eu⟩ := entry_at hb'
      subst eu
      obtain ⟨g1, _⟩ := ok' b _ (un.frzs b ob _ hb')
      rw [eb] at q g1 ⊢
      rw [ha] at q
      cases q
      exact g1
/-- the goal that the word k_head leaves -/
theorem walkG {l : PySem.W.OpenLaw} {n : Nat} {q : Program} {loose : List Str} {XP : (Str → Option Value) → Heap → Prop} {YP : World → Heap → Prop} {d : DefRec} {K : Params → PySem.W.Frag} {sp : PySem.W.Frag → Sp}
    (no : importsNone q = true) (hn : l.most = some n) (hn2 : n ≤ sizeLine) (hdf : d.params.defaults = []) (room : Room k callerA) (hY : ∀ (w : World) (h : Heap), YP w h → (K w.params).In h)
    (F : ∀ (w : World) (mg : Str → Option Value) (fa : Addr) (h : Heap), (K w.params).In h → h.Ns mainGlobals mg → mg d.name = some (.ref fa) →
      ∃ fd : FuncData, (∀ (t : Shared) (u : Value), BindsTo t fd ⟨[u], []⟩ [(x, u)]) ∧ ∀ base : Heap, (K w.params).In base → base.Ns mainGlobals mg → Mods base → FnG l.prog w (K w.params) mg base CX0 k fa fd [x] (sp (K w.params)))
    (hsp : ∀ (K : PySem.W.Frag) (H : Hp) (a : Addr) (ns : List Int), ns.length ≤ n → SqL K H a (ns.map V.int) → sp K [.ref a] H (fun v _ => v = .bl true) fun _ _ _ => False) :
    PySem.W.WalkO q loose XP YP l.row.toRowW d [] (fun f vs => PySem.call f vs) :=
  Att.attach_call hn hdf fun w s₀ s₁ mg mb fa o pm cd doc a vs ns G Y ho hd hcd hmg hobj hints hlen hg =>
    let ⟨_, bt, hF⟩ := F w mg fa _ (hY w _ Y) G.T.g hmg
    law_goes (hY w _ Y) G.T.g G.T.b G.T.builtins G.T.nolimit ((G.T.seer no).mods.imp fun _ h => h.1) hg hobj hints (Nat.le_trans hlen hn2) room hF bt fun H sq => hsp (K w.params) H a ns hlen sq
end
end Wf
namespace Wf
open PySem PySem.Spec PyProof.Rows L2
/-! ### letters.index(letter) -/
section
variable {x : Str} {c : Nat}
theorem scan_done (y : Str) (n : Nat) : ∀ (l : List Nat) (j k : Nat), (forIn (m := Id) l ((#[j] : Array Nat), k) (StrLaws.occBody x y n 1)).run.fst = #[j]
  | [], _, _ => rfl
  | i :: r, j, k => by
    have no : ¬ ((((#[j] : Array Nat).size < 1 ∧ k ≤ i) ∧ i + y.length ≤ n) ∧ Builtin.Str.subAt x y i = true) := fun z => absurd z.1.1.1 (Nat.lt_irrefl 1)
    simp only [List.forIn_cons, StrLaws.occBody, if_neg no]
    exact scan_done y n r j k
theorem scan_to {j : Nat} (hj : x.cps.toList[j]? = some c) : ∀ (n s : Nat), (∀ i, i < j → x.cps.toList[i]? ≠ some c) → s ≤ j → j < s + n → (forIn (m := Id) (List.range' s n) ((#[] : Array Nat), 0) (StrLaws.occBody x ⟨#[c]⟩ x.length 1)).run.fst = #[j]
  | 0, s, _, h1, h2 => absurd h2 (by omega)
  | n + 1, s, hb, h1, h2 => by
    rw [List.range'_succ]
    rcases Nat.lt_or_ge s j with lt | ge
    · have no : ¬ ((((#[] : Array Nat).size < 1 ∧ 0 ≤ s) ∧ s + (⟨#[c]⟩ : Str).length ≤ x.length) ∧ Builtin.Str.subAt x ⟨#[c]⟩ s = true) := fun z => hb s lt ((StrLaws.subAt_one x c s).mp ⟨z.1.2, z.2⟩)
      simp only [List.forIn_cons, StrLaws.occBody, if_neg no]
      exact scan_to hj n (s + 1) hb (by omega) (by omega)
    · have e : s = j := by omega
      subst e
      obtain ⟨z1, z2⟩ := (StrLaws.subAt_one x c s).mpr hj
      have yes : (((#[] : Array Nat).size < 1 ∧ 0 ≤ s) ∧ s + (⟨#[c]⟩ : Str).length ≤ x.length) ∧ Builtin.Str.subAt x ⟨#[c]⟩ s = true := ⟨⟨⟨by decide, Nat.zero_le _⟩, z1⟩, z2⟩
      simp only [List.forIn_cons, StrLaws.occBody, if_pos yes]
      exact scan_done _ _ _ _ _
theorem index_at {j : Nat} (hj : x.cps.toList[j]? = some c) (hb : ∀ i, i < j → x.cps.toList[i]? ≠ some c) : Txt.index0 x ⟨#[c]⟩ = some j := by
  have lt : j < x.length := by
    obtain ⟨z, _⟩ := List.getElem?_eq_some_iff.mp hj
    rw [Array.length_toList] at z
    exact z
  unfold Txt.index0
  rw [StrLaws.occ_eq, scan_to hj (x.length + 1 - 0) 0 hb (Nat.zero_le _) (by omega)]
  rfl
end
/-- z.index(ch), ch a letter that stands in z first at j -/
theorem mt_letter {X : Cx} (hc : X.calm = true) : MtR X "str.index" (fun x xs H Q => ∃ (z : Str) (ch j : Nat), x = .str z ∧ xs = [.str ⟨#[ch]⟩] ∧ z.cps.toList[j]? = some ch ∧ (∀ i, i < j → z.cps.toList[i]? ≠ some ch) ∧ Q (.int (j : Nat)) H) := by
  intro pins s σ H x xs v us Q I rx rs h
  obtain ⟨z, ch, j, rfl, rfl, hj, hb, q⟩ := h
  refine mt_indexX (W := fun _ _ _ _ => False) hc (fun u s' ⟨_, _, _, _, _, _, _, _, _, _, _, _, _, _, _, _, w⟩ => w.elim) pins s σ H _ _ v us Q I rx rs ⟨z, _, rfl, rfl, fun k hk => ?_, fun n => ?_⟩
  · rw [index_at hj hb] at hk
    cases hk
    exact q
  · rw [index_at hj hb] at n
    cases n
/-! ### over the signs of a text -/
theorem cps_get {z : Str} {i : Nat} : z.cps[i]? = z.cps.toList[i]? := Array.getElem?_toList.symm
theorem for_chars {z : Str} {g : TG} {tb : TS} {D : Ends} {σ : L2.St} {H : Hp} (Pv : Nat → L2.St → Hp → Prop) (first : Pv 0 σ H)
    (each : ∀ i c σ H, z.cps.toList[i]? = some c → Pv i σ H → g (.str ⟨#[c]⟩) σ H fun σ2 H2 => tb { D with nx := Pv (i + 1), ct := Pv (i + 1), bk := D.nx } σ2 H2) (last : ∀ σ H, Pv z.length σ H → D.nx σ H) :
    ∃ W : Nat → Nat → L2.St → Hp → Prop, (∃ m, W 0 m σ H) ∧ ∀ i m σ H, W i m σ H → ((Its z).stop i H ∧ D.nx σ H) ∨
      ((Its z).go i H ∧ ∃ N : L2.St → Hp → Prop, (∀ σ' H', N σ' H' → ∃ m', m' < m ∧ W (i + 1) m' σ' H') ∧ ∀ x H', (Its z).yld i H x H' → g x σ H' fun σ2 H2 => tb { D with nx := N, ct := N, bk := D.nx } σ2 H2) := by
  refine ⟨fun i m σ H => m = z.length - i ∧ i ≤ z.length ∧ Pv i σ H, ⟨_, rfl, Nat.zero_le _, first⟩, fun i m σ H ⟨em, le, p⟩ => ?_⟩
  rcases Nat.lt_or_ge i z.length with lt | ge
  · refine .inr ⟨lt, Pv (i + 1), fun σ' H' p' => ⟨z.length - (i + 1), by omega, rfl, lt, p'⟩, fun x H' ⟨eH, c, hc, ex⟩ => ?_⟩
    subst eH ex
    exact each i c σ _ (cps_get ▸ hc) p
  · obtain rfl : i = z.length := by omega
    exact .inl ⟨Nat.le_refl _, last σ H p⟩
theorem lc_chars {z : Str} {g : TG} {tt : TT} {te : TE} {vs : List Nat} {σ : L2.St} {H1 : Hp} {D : Addr} {Qd : Hp → Prop} (Pv : Nat → Hp → Prop) (first : Pv 0 (upd H1 D (.lst [])))
    (each : ∀ i c H, z.cps.toList[i]? = some c → Pv i H → g (.str ⟨#[c]⟩) (wipe σ vs) H fun σ2 H2 => wipe σ2 vs = wipe σ vs ∧ tt σ2 H2 fun b H3 =>
      if b = true then te σ2 H3 fun y H4 => ∃ acc, H4 D = some (.lst acc) ∧ acc.length < sizeLine ∧ Pv (i + 1) (upd H4 D (.lst (acc ++ [y]))) else Pv (i + 1) H3) (last : ∀ H, Pv z.length H → Qd H) :
    ∃ W : Nat → Nat → Hp → Prop, (∃ m, W 0 m (upd H1 D (.lst []))) ∧ ∀ i m H, W i m H → ((Its z).stop i H ∧ Qd H) ∨
      ((Its z).go i H ∧ ∃ Nx : Hp → Prop, (∀ H', Nx H' → ∃ m', m' < m ∧ W (i + 1) m' H') ∧ ∀ x H', (Its z).yld i H x H' → g x (wipe σ vs) H' fun σ2 H2 => wipe σ2 vs = wipe σ vs ∧ tt σ2 H2 fun b H3 =>
        if b = true then te σ2 H3 fun y H4 => ∃ acc, H4 D = some (.lst acc) ∧ acc.length < sizeLine ∧ Nx (upd H4 D (.lst (acc ++ [y]))) else Nx H3) := by
  refine ⟨fun i m H => m = z.length - i ∧ i ≤ z.length ∧ Pv i H, ⟨_, rfl, Nat.zero_le _, first⟩, fun i m H ⟨em, le, p⟩ => ?_⟩
  rcases Nat.lt_or_ge i z.length with lt | ge
  · refine .inr ⟨lt, Pv (i + 1), fun H' p' => ⟨z.length - (i + 1), by omega, rfl, lt, p'⟩, fun x H' ⟨eH, c, hc, ex⟩ => ?_⟩
    subst eH ex
    exact each i c _ (cps_get ▸ hc) p
  · obtain rfl : i = z.length := by omega
    exact .inl ⟨Nat.le_refl _, last H p⟩
/-! ### tables: rows of numbers and None -/
def oV : Option Nat → V
  | none => .non
  | some n => .int n
/-- at r: a list or a tuple of the rows tb, each a list or a tuple -/
def Rws (K : PySem.W.Frag) (H : Hp) (r : Addr) (tb : List (List (Option Nat))) : Prop := ∃ bs : List Addr, (SqL K H r (bs.map V.ref) ∨ SqT K H r (bs.map V.ref)) ∧ bs.length = tb.length ∧
  ∀ (i : Nat) (b : Addr) (row : List (Option Nat)), bs[i]? = some b → tb[i]? = some row → (SqL K H b (row.map oV) ∨ SqT K H b (row.map oV))
theorem Rws.stay {K : PySem.W.Frag} {H H' : Hp} {r : Addr} {tb : List (List (Option Nat))} (h : Rws K H r tb) (s : Stay K H H') : Rws K H' r tb := by
  obtain ⟨bs, h1, h2, h3⟩ := h
  exact ⟨bs, h1.elim (fun z => .inl (s.l _ _ z)) (fun z => .inr (s.t _ _ z)), h2, fun i b row e1 e2 => (h3 i b row e1 e2).elim (fun z => .inl (s.l _ _ z)) (fun z => .inr (s.t _ _ z))⟩
/-- a table of m columns whose entries are states of it -/
structure TbOk (m : Nat) (tb : List (List (Option Nat))) : Prop where
  pos : 0 < tb.length
  len : ∀ row ∈ tb, row.length = m
  lt : ∀ row ∈ tb, ∀ n, some n ∈ row → n < tb.length
/-- one letter on -/
def stp (zs : List Nat) (tb : List (List (Option Nat))) (s : Option Nat) (c : Nat) : Option Nat := s.bind fun i => (tb.getD i []).getD (zs.idxOf c) none
def ledTo (zs : List Nat) (tb : List (List (Option Nat))) (s : Option Nat) (cs : List Nat) : Option Nat := cs.foldl (stp zs tb) s
theorem stp_lt {zs : List Nat} {tb : List (List (Option Nat))} {m : Nat} (T : TbOk m tb) {s : Option Nat} {c n : Nat} (h : stp zs tb s c = some n) : n < tb.length := by
  unfold stp at h
  cases s with
  | none => cases h
  | some i =>
    simp only [Option.bind_some] at h
    rcases Nat.lt_or_ge i tb.length with lt | ge
    · have e : tb.getD i [] = tb[i] := by rw [List.getD_eq_getElem?_getD, List.getElem?_eq_getElem lt]; rfl
      rw [e, List.getD_eq_getElem?_getD] at h
      cases q : tb[i][List.idxOf c zs]? with
      | none => rw [q] at h; cases h
      | some o =>
        rw [q] at h
        have h : o = some n := h
        subst h
        exact T.lt _ (List.getElem_mem lt) n (List.mem_of_getElem? q)
    · have e : tb.getD i [] = [] := by rw [List.getD_eq_getElem?_getD, List.getElem?_eq_none ge]; rfl
      rw [e] at h
      cases h
theorem led_lt {zs : List Nat} {tb : List (List (Option Nat))} {m : Nat} (T : TbOk m tb) : ∀ (cs : List Nat) (s : Option Nat), (∀ n, s = some n → n < tb.length) → ∀ n, ledTo zs tb s cs = some n → n < tb.length
  | [], _, h, n, e => h n e
  | c :: cs, s, _, n, e => led_lt T cs (stp zs tb s c) (fun _ e2 => stp_lt T e2) n e
theorem led_take {zs : List Nat} {tb : List (List (Option Nat))} {s : Option Nat} {cs : List Nat} {i c : Nat} (h : cs[i]? = some c) : ledTo zs tb s (cs.take (i + 1)) = stp zs tb (ledTo zs tb s (cs.take i)) c := by
  unfold ledTo
  rw [List.take_succ, h, List.foldl_append]
  rfl
theorem idx_at {zs : List Nat} {c : Nat} (h : c ∈ zs) : zs[zs.idxOf c]? = some c ∧ ∀ i, i < zs.idxOf c → zs[i]? ≠ some c := by
  have lt := List.idxOf_lt_length_of_mem h
  refine ⟨by rw [List.getElem?_eq_getElem lt, List.getElem_idxOf lt], fun i hi e => ?_⟩
  obtain ⟨l2, e⟩ := List.getElem?_eq_some_iff.mp e
  have n := List.not_of_lt_findIdx hi
  rw [e] at n
  simp at n
theorem rix_any {K : PySem.W.Frag} {H : Hp} {a : Addr} {xs : List V} {i : Int} {v : V} {Q : VK} (h : SqL K H a xs ∨ SqT K H a xs) (e : atI xs i = some v) (q : Q v H) : rIx K (.ref a) (.int i) H Q :=
  h.elim (fun h => .inl ⟨a, xs, i, v, rfl, rfl, h, e, q⟩) fun h => .inr (.inl ⟨a, xs, i, v, rfl, rfl, h, e, q⟩)
/-- rows[n][index]: the row, and what stands there -/
theorem Rws.row {K : PySem.W.Frag} {H : Hp} {r : Addr} {tb : List (List (Option Nat))} {m n j : Nat} (h : Rws K H r tb) (T : TbOk m tb) (hn : n < tb.length) (hj : j < m) :
    ∃ (bs : List Addr) (b : Addr) (row : List (Option Nat)), (SqL K H r (bs.map V.ref) ∨ SqT K H r (bs.map V.ref)) ∧ atI (bs.map V.ref) (n : Int) = some (.ref b) ∧ (SqL K H b (row.map oV) ∨ SqT K H b (row.map oV)) ∧ atI (row.map oV) (j : Int) = some (oV ((tb.getD n []).getD j none)) := by
  obtain ⟨bs, h1, h2, h3⟩ := h
  have lb : n < bs.length := by omega
  have e1 : bs[n]? = some bs[n] := List.getElem?_eq_getElem lb
  have e2 : tb[n]? = some tb[n] := List.getElem?_eq_getElem hn
  have lj : j < tb[n].length := by rw [T.len _ (List.getElem_mem hn)]; exact hj
  refine ⟨bs, bs[n], tb[n], h1, atI_nat (by rw [List.getElem?_map, e1]; rfl), h3 n _ _ e1 e2, atI_nat ?_⟩
  have e3 : tb.getD n [] = tb[n] := by rw [List.getD_eq_getElem?_getD, e2]; rfl
  rw [e3, List.getElem?_map, List.getD_eq_getElem?_getD, List.getElem?_eq_getElem lj]
  rfl
end Wf
/-! new tables: a list of rows and a list of marks that have just been made -/
namespace Wf
open PySem PySem.Spec PyProof.Rows L2
def mV : Option Bool → V
  | none => .non
  | some b => .bl b
structure Tbl (H0 H : Hp) (z sz : Nat) (full : Bool) (r m : Addr) (bs : List Addr) (tb : List (List (Option Nat))) (ms : List (Option Bool)) : Prop where
  ra : H r = some (.lst (bs.map V.ref))
  ma : H m = some (.lst (ms.map mV))
  rm : r ≠ m
  new : H0 r = none ∧ H0 m = none ∧ ∀ b ∈ bs, H0 b = none ∧ b ≠ r ∧ b ≠ m
  nd : bs.Nodup
  lb : bs.length = tb.length
  row : ∀ q ∈ bs.zip tb, H q.1 = some (.lst (q.2.map oV))
  len : ∀ row ∈ tb, row.length = z
  lt : ∀ row ∈ tb, ∀ x, some x ∈ row → x < sz
  fl : full = true → (∀ row ∈ tb, none ∉ row) ∧ none ∉ ms
section
variable {H0 H H' : Hp} {z sz n : Nat} {full : Bool} {r m p c D : Addr} {bs : List Addr} {tb : List (List (Option Nat))} {ms : List (Option Bool)}
theorem Tbl.but (T : Tbl H0 H z sz full r m bs tb ms) (bt : But p H H') (hp : Pen H p c n) : Tbl H0 H' z sz full r m bs tb ms := by
  obtain ⟨kvs, e⟩ := hp.at
  have np : ∀ {b : Addr} {xs : List V}, H b = some (.lst xs) → b ≠ p := fun q n => by
    rw [n, e] at q
    cases q
  exact { T with ra := bt _ _ (np T.ra) T.ra, ma := bt _ _ (np T.ma) T.ma, row := fun q hq => bt _ _ (np (T.row q hq)) (T.row q hq) }
theorem Tbl.same (T : Tbl H0 H z sz full r m bs tb ms) (s : Same H H') : Tbl H0 H' z sz full r m bs tb ms :=
  { T with ra := s _ _ T.ra, ma := s _ _ T.ma, row := fun q hq => s _ _ (T.row q hq) }
theorem Tbl.mark (T : Tbl H0 H z sz full r m bs tb ms) {x : Option Bool} (hx : full = true → x ≠ none) : Tbl H0 (upd H m (.lst (ms.map mV ++ [mV x]))) z sz full r m bs tb (ms ++ [x]) :=
  { T with
    ra := (upd_ne T.rm).trans T.ra
    ma := by rw [upd_same, List.map_append]; rfl
    row := fun q hq => (upd_ne (T.new.2.2 _ (List.of_mem_zip hq).1).2.2).trans (T.row q hq)
    fl := fun e => ⟨(T.fl e).1, fun hn => (List.mem_append.mp hn).elim (T.fl e).2 fun hn => hx e (List.mem_singleton.mp hn).symm⟩ }
theorem Tbl.add (T : Tbl H0 H z sz full r m bs tb ms) {row : List (Option Nat)} (hD : H D = some (.lst (row.map oV))) (d0 : H0 D = none) (dr : D ≠ r) (dm : D ≠ m) (db : D ∉ bs) (hl : row.length = z) (lt : ∀ x, some x ∈ row → x < sz) (hx : full = true → none ∉ row) :
    Tbl H0 (upd H r (.lst (bs.map V.ref ++ [.ref D]))) z sz full r m (bs ++ [D]) (tb ++ [row]) ms where
  ra := by rw [upd_same, List.map_append]; rfl
  ma := (upd_ne T.rm.symm).trans T.ma
  rm := T.rm
  new := ⟨T.new.1, T.new.2.1, fun b hb => (List.mem_append.mp hb).elim (T.new.2.2 b) fun hb => by rw [List.mem_singleton.mp hb]; exact ⟨d0, dr, dm⟩⟩
  nd := List.nodup_append.mpr ⟨T.nd, List.nodup_cons.mpr ⟨List.not_mem_nil, List.nodup_nil⟩, fun a ha b hb e => db (by rw [← List.mem_singleton.mp hb, ← e]; exact ha)⟩
  lb := by rw [List.length_append, List.length_append, T.lb]; rfl
  row := fun q hq => by
    rw [List.zip_append T.lb] at hq
    rcases List.mem_append.mp hq with hq | hq
    · exact (upd_ne (T.new.2.2 _ (List.of_mem_zip hq).1).2.1).trans (T.row q hq)
    · have e : q = (D, row) := List.mem_singleton.mp hq
      rw [e]
      exact (upd_ne dr).trans hD
  len := fun q hq => (List.mem_append.mp hq).elim (T.len q) fun hq => by rw [List.mem_singleton.mp hq]; exact hl
  lt := fun q hq => (List.mem_append.mp hq).elim (T.lt q) fun hq => by rw [List.mem_singleton.mp hq]; exact lt
  fl := fun e => ⟨fun q hq => (List.mem_append.mp hq).elim ((T.fl e).1 q) fun hq => by rw [List.mem_singleton.mp hq]; exact hx e, (T.fl e).2⟩
theorem Tbl.there (T : Tbl H0 H z sz full r m bs tb ms) {b : Addr} (hb : b ∈ bs) : ∃ xs, H b = some (.lst xs) := by
  obtain ⟨i, hi, e⟩ := List.getElem_of_mem hb
  have e1 : bs[i]? = some b := by rw [List.getElem?_eq_getElem hi, e]
  have e2 : tb[i]? = some (tb[i]'(by rw [← T.lb]; exact hi)) := List.getElem?_eq_getElem _
  exact ⟨_, T.row (b, _) (List.mem_of_getElem? (i := i) (by rw [List.getElem?_zip_eq_some]; exact ⟨e1, e2⟩))⟩
/-- what is new is none of it -/
theorem Tbl.off (T : Tbl H0 H z sz full r m bs tb ms) (h : H D = none) : D ≠ r ∧ D ≠ m ∧ D ∉ bs := ⟨(ne_of_none T.ra h).symm, (ne_of_none T.ma h).symm, fun hb => by
  obtain ⟨xs, e⟩ := T.there hb
  rw [h] at e
  cases e⟩
/-- it is read as one -/
theorem Tbl.rws {K : PySem.W.Frag} (T : Tbl H0 H z sz full r m bs tb ms) : Rws K H r tb := by
  refine ⟨bs, .inl (SqL.of T.ra), T.lb, fun i b row e1 e2 => .inl (SqL.of (T.row (b, row) ?_))⟩
  exact List.mem_of_getElem? (i := i) (by rw [List.getElem?_zip_eq_some]; exact ⟨e1, e2⟩)
theorem Tbl.ok (T : Tbl H0 H z sz full r m bs tb ms) (e : tb.length = sz) (h : 0 < sz) : TbOk z tb := ⟨by omega, T.len, fun row hr n hn => by rw [e]; exact T.lt row hr n hn⟩
theorem Tbl.start (h1 : H r = some (.lst [])) (h2 : H m = some (.lst [])) (n1 : H0 r = none) (n2 : H0 m = none) (ne : r ≠ m) : Tbl H0 H z sz full r m [] [] [] where
  ra := h1
  ma := h2
  rm := ne
  new := ⟨n1, n2, fun b hb => by cases hb⟩
  nd := List.nodup_nil
  lb := rfl
  row := fun q hq => by cases hq
  len := fun q hq => by cases hq
  lt := fun q hq => by cases hq
  fl := fun _ => ⟨fun q hq => absurd hq List.not_mem_nil, List.not_mem_nil⟩
end
def spTable : Sp := fun vs H Q _ => ∃ (p c : Addr) (n : Nat) (z : Str) (sz : Nat) (full : Bool), vs = [.ref p, .str z, .int (sz : Int), .bl full] ∧ Pen H p c n ∧ 0 < sz ∧ sz ≤ 1000 ∧ z.length ≤ 1000 ∧ n + sz * (2 * z.length + 1) < 1000000 ∧
  ∀ (t r m : Addr) (bs : List Addr) (tb : List (List (Option Nat))) (ms : List (Option Bool)) (H' : Hp), But p H H' → Pen H' p c (n + sz * (2 * z.length + 1)) → H t = none → H' t = some (.tup [.ref r, .ref m]) → Tbl H H' z.length sz full r m bs tb ms → tb.length = sz → ms.length = sz → Q (.ref t) H'
/-- a number that depends on a truth -/
theorem tIf_num {σ : L2.St} {H : Hp} {Q : VK} {b : Bool} {i : Nat} {x y : Int} (e : σ[i]? = some (some (.bl b))) (q : Q (.int (if b = true then x else y)) H) : tIf (tB (tVar i)) (tC (.int x)) (tC (.int y)) σ H Q := by
  refine ⟨_, e, b, rfl, ?_⟩
  cases b
  · exact iteF q
  · exact iteT q
/-- in a table without None each word leads somewhere -/
theorem led_some {zs : List Nat} {tb : List (List (Option Nat))} {m : Nat} (T : TbOk m tb) (hm : zs.length = m) (fl : ∀ row ∈ tb, none ∉ row) : ∀ (cs : List Nat) (n : Nat), (∀ c ∈ cs, c ∈ zs) → n < tb.length → ∃ k, ledTo zs tb (some n) cs = some k ∧ k < tb.length
  | [], n, _, h => ⟨n, rfl, h⟩
  | c :: cs, n, hc, h => by
    have e : tb.getD n [] = tb[n] := by rw [List.getD_eq_getElem?_getD, List.getElem?_eq_getElem h]; rfl
    have li : zs.idxOf c < tb[n].length := by rw [T.len _ (List.getElem_mem h), ← hm]; exact List.idxOf_lt_length_of_mem (hc c List.mem_cons_self)
    have st : stp zs tb (some n) c = tb[n][zs.idxOf c] := by
      show (tb.getD n []).getD (zs.idxOf c) none = _
      rw [e, List.getD_eq_getElem?_getD, List.getElem?_eq_getElem li]
      rfl
    cases q : tb[n][zs.idxOf c] with
    | none => exact absurd (by rw [← q]; exact List.getElem_mem li) (fl _ (List.getElem_mem h))
    | some j =>
      have lj : j < tb.length := T.lt _ (List.getElem_mem h) j (by rw [← q]; exact List.getElem_mem li)
      obtain ⟨k, e1, e2⟩ := led_some T hm fl cs j (fun x hx => hc x (List.mem_cons_of_mem _ hx)) lj
      refine ⟨k, ?_, e2⟩
      show ledTo zs tb (stp zs tb (some n) c) cs = some k
      rw [st, q]
      exact e1
end Wf
/-! words in order, samples as the laws draw them -/
namespace Wf
open PySem PySem.Spec PyProof.Rows L2
/-- shorter words first, words of equal length in alphabetical order -/
def ltW (a b : Str) : Prop := a.length < b.length ∨ (a.length = b.length ∧ a.cps.toList < b.cps.toList)
/-- ys are the words ws, each once, in order -/
structure Srt (ys ws : List Str) : Prop where
  mem : ∀ y, y ∈ ys ↔ y ∈ ws
  ord : ys.Pairwise ltW
theorem ltW_irrefl (a : Str) : ¬ ltW a a := fun h => h.elim (fun h => Nat.lt_irrefl _ h) fun h => List.lt_irrefl _ h.2
theorem Srt.nd {ys ws : List Str} (h : Srt ys ws) : ys.Nodup := List.Pairwise.imp (R := ltW) (S := fun a b => a ≠ b) (fun {a b} l e => ltW_irrefl a (by rw [← e] at l; exact l)) h.ord
theorem nodup_sub {α : Type} [BEq α] [LawfulBEq α] : ∀ {ys ws : List α}, ys.Nodup → (∀ y ∈ ys, y ∈ ws) → ys.length ≤ ws.length
  | [], _, _, _ => Nat.zero_le _
  | y :: ys, ws, n, h => by
    have hy := h y List.mem_cons_self
    obtain ⟨n1, n2⟩ := List.nodup_cons.mp n
    have e := nodup_sub (ys := ys) (ws := ws.erase y) n2 fun x hx => (List.mem_erase_of_ne (fun e => n1 (by rw [← e]; exact hx))).mpr (h x (List.mem_cons_of_mem _ hx))
    rw [List.length_erase_of_mem hy] at e
    have := List.length_pos_of_mem hy
    show ys.length + 1 ≤ ws.length
    omega
theorem Srt.len {ys ws : List Str} (h : Srt ys ws) : ys.length ≤ ws.length := nodup_sub h.nd fun y hy => (h.mem y).mp hy
def spSorted (K : PySem.W.Frag) : Sp := fun vs H Q _ => ∃ (a : Addr) (ws : List Str), vs = [.ref a] ∧ SqL K H a (ws.map V.str) ∧ ws.length < 64 ∧ (∀ w ∈ ws, w.length ≤ 1000) ∧ ∀ (l : Addr) (ys : List Str) (H' : Hp), Same H H' → H l = none → H' l = some (.lst (ys.map V.str)) → Srt ys ws → Q (.ref l) H'
/-- a sample as the laws draw it: words in order, over the letters z, some of them True, the others False -/
structure Raw (z : Str) (many most : Nat) (yes no : List Str) : Prop where
  ex : ∃ ws : List Str, ws.Pairwise ltW ∧ ws.length ≤ many ∧ (∀ w ∈ ws, w.length ≤ most ∧ ∀ ch ∈ w.cps.toList, ch ∈ z.cps.toList) ∧ yes.Sublist ws ∧ no.Sublist ws ∧ (yes ++ no).Perm ws
/-- the list of a fresh pair of lists grows -/
theorem upd2 {H : Hp} {a b : Addr} {o u : HO} (n : a ≠ b) (h : H b = some u) : upd H a o b = some u := (upd_ne n.symm).trans h
end Wf
/-! enumerate in a comprehension; the places of words as a dict -/
namespace Wf
open PySem PySem.Spec PyProof.Rows L2
theorem lc_enumW {K : PySem.W.Frag} {a : Addr} {xs : List V} {g : TG} {tt : TT} {te : TE} {vs : List Nat} {σ : L2.St} {H1 : Hp} {D : Addr} {Qd : Hp → Prop} (Pv : Nat → Hp → Prop) (first : Pv 0 (upd H1 D (.lst []))) (stays : ∀ i H, i ≤ xs.length → Pv i H → SqL K H a xs)
    (each : ∀ i x H T, xs[i]? = some x → Pv i H → H T = none → g (.ref T) (wipe σ vs) (upd H T (.tup [.int (i : Nat), x])) fun σ2 H2 => wipe σ2 vs = wipe σ vs ∧ tt σ2 H2 fun b H3 =>
      if b = true then te σ2 H3 fun y H4 => ∃ acc, H4 D = some (.lst acc) ∧ acc.length < sizeLine ∧ Pv (i + 1) (upd H4 D (.lst (acc ++ [y]))) else Pv (i + 1) H3) (last : ∀ H, Pv xs.length H → Qd H) :
    ∃ W : Nat → Nat → Hp → Prop, (∃ m, W 0 m (upd H1 D (.lst []))) ∧ ∀ i m H, W i m H → ((Ite K a).stop i H ∧ Qd H) ∨
      ((Ite K a).go i H ∧ ∃ Nx : Hp → Prop, (∀ H', Nx H' → ∃ m', m' < m ∧ W (i + 1) m' H') ∧ ∀ x H', (Ite K a).yld i H x H' → g x (wipe σ vs) H' fun σ2 H2 => wipe σ2 vs = wipe σ vs ∧ tt σ2 H2 fun b H3 =>
        if b = true then te σ2 H3 fun y H4 => ∃ acc, H4 D = some (.lst acc) ∧ acc.length < sizeLine ∧ Nx (upd H4 D (.lst (acc ++ [y]))) else Nx H3) := by
  refine ⟨fun i m H => m = xs.length - i ∧ i ≤ xs.length ∧ Pv i H, ⟨_, rfl, Nat.zero_le _, first⟩, fun i m H ⟨em, le, p⟩ => ?_⟩
  have sq := stays i H le p
  rcases Nat.lt_or_ge i xs.length with lt | ge
  · refine .inr ⟨⟨xs, xs[i], sq, List.getElem?_eq_getElem lt⟩, Pv (i + 1), fun H' p' => ⟨xs.length - (i + 1), by omega, rfl, lt, p'⟩, fun v H' ⟨T, x, ev, free, eH, at'⟩ => ?_⟩
    subst ev eH
    exact each i x H T (at' xs sq) p free
  · obtain rfl : i = xs.length := by omega
    exact .inl ⟨⟨xs, sq, Nat.le_refl _⟩, last H p⟩
/-- the places of words: word -> number -/
def plc (ys : List Str) (n : Nat) : List (Key × V) := (ys.zipIdx n).map fun p => ((.inr p.1 : Key), V.int (p.2 : Nat))
theorem plc_cons {y : Str} {ys : List Str} {n : Nat} : plc (y :: ys) n = (.inr y, .int (n : Nat)) :: plc ys (n + 1) := rfl
theorem plc_keys : ∀ {ys : List Str} {n : Nat}, (plc ys n).map (·.1) = ys.map .inr
  | [], _ => rfl
  | y :: ys, n => by rw [plc_cons, List.map_cons, List.map_cons, plc_keys]
theorem merge_new : ∀ {more acc : List (Key × V)}, ((acc ++ more).map (·.1)).Nodup → mergeK acc more = acc ++ more
  | [], acc, _ => by rw [List.append_nil]; rfl
  | (k, v) :: more, acc, nd => by
    have nk : ¬ (acc.any fun kv => decide (kv.1 = k)) = true := fun h => by
      obtain ⟨kv, m, e⟩ := List.any_eq_true.mp h
      rw [List.map_append, List.map_cons] at nd
      have := (List.nodup_append.mp nd).2.2 kv.1 (List.mem_map.mpr ⟨kv, m, rfl⟩) k List.mem_cons_self
      exact this (of_decide_eq_true e)
    have e : mergeK acc ((k, v) :: more) = mergeK (acc ++ [(k, v)]) more := by
      show mergeK (putK acc k v) more = _
      unfold putK
      rw [if_neg nk]
    rw [e, merge_new (by rw [List.append_assoc]; exact nd), List.append_assoc]
    rfl
theorem plc_at {z : Str} : ∀ {ys : List Str} {n : Nat}, valV (plc ys n) (.inr z) = (ys.idxOf? z).map fun i => V.int ((n + i : Nat) : Int)
  | [], _ => rfl
  | y :: ys, n => by
    rw [plc_cons, List.idxOf?_cons]
    by_cases h : y = z
    · subst h
      rw [valV_pos rfl, if_pos (beq_self_eq_true _)]
      rfl
    · rw [valV_neg (fun e => h (Sum.inr.inj e)), plc_at, if_neg (by rw [beq_iff_eq]; exact h), Option.map_map]
      congr 1
      funext i
      show V.int _ = V.int _
      rw [show n + 1 + i = n + (i + 1) by omega]
theorem in_words {z : Str} : ∀ {zs : List Str}, inV (.str z) (zs.map V.str) = decide (z ∈ zs)
  | [] => rfl
  | y :: ys => by
    have e : inV (.str z) ((y :: ys).map V.str) = (eqV (.str y) (.str z) || inV (.str z) (ys.map V.str)) := rfl
    have e2 : eqV (.str y) (.str z) = decide (z = y) := by
      show (y == z) = _
      by_cases h : y = z
      · subst h
        rw [beq_self_eq_true]
        exact (decide_eq_true rfl).symm
      · rw [beq_eq_false_iff_ne.mpr h]
        exact (decide_eq_false fun q => h q.symm).symm
    rw [e, e2, in_words, ← Bool.decide_or]
    exact decide_eq_decide.mpr List.mem_cons.symm
theorem flat_words {zs : List Str} : (zs.map V.str).all flatV = true := List.all_eq_true.mpr fun v hv => by
  obtain ⟨z, _, rfl⟩ := List.mem_map.mp hv
  rfl
theorem plc_get {ys : List Str} {n j : Nat} {w : Str} (h : ys[j]? = some w) : (plc ys n)[j]? = some (.inr w, .int ((n + j : Nat) : Int)) := by
  unfold plc
  rw [List.getElem?_map, List.getElem?_zipIdx, h]
  rfl
theorem plc_len {ys : List Str} {n : Nat} : (plc ys n).length = ys.length := by unfold plc; rw [List.length_map, List.length_zipIdx]
theorem pair_up {α β : Type} {R : α → β → Prop} : ∀ {as : List α} {bs : List β}, as.length = bs.length → (∀ (i : Nat) (a : α) (b : β), as[i]? = some a → bs[i]? = some b → R a b) → Paired R as bs
  | [], [], _, _ => .nil
  | [], _ :: _, e, _ => by cases e
  | _ :: _, [], e, _ => by cases e
  | a :: as, b :: bs, e, h => .cons (h 0 a b rfl rfl) (pair_up (Nat.succ.inj e) fun i x y e1 e2 => h (i + 1) x y e1 e2)
theorem got_oV {x : Option Nat} : (x.map fun i => V.int ((0 + i : Nat) : Int)).getD .non = oV x := by
  cases x with
  | none => rfl
  | some i =>
    show V.int _ = V.int _
    rw [Nat.zero_add]
theorem idx_lt {ys : List Str} {w : Str} {i : Nat} (h : ys.idxOf? w = some i) : i < ys.length := (List.findIdx?_eq_some_iff_findIdx_eq.mp h).1
/-- what is at a place of a list that has grown by one -/
theorem grown {α : Type} {xs : List α} {x y : α} {i : Nat} (h : (xs ++ [x])[i]? = some y) : (i < xs.length ∧ xs[i]? = some y) ∨ (i = xs.length ∧ y = x) := by
  rcases Nat.lt_trichotomy i xs.length with lt | eq | gt
  · rw [List.getElem?_append_left lt] at h
    exact .inl ⟨lt, h⟩
  · subst eq
    rw [List.getElem?_append_right (Nat.le_refl _), Nat.sub_self] at h
    exact .inr ⟨rfl, (Option.some.inj h).symm⟩
  · rw [List.getElem?_eq_none (by rw [List.length_append]; exact gt)] at h
    cases h
end Wf
/-! error classes of one's own, called with values by position or by name (own work over the library's facts) -/
namespace PySem.VX
open PySem Builtin Builtin.ObjectAttr
/-- KeyError has no __new__ of its own: an error over it is made by LookupError's -/
abbrev keyMro : List Value := ["KeyError", "LookupError", "Exception", "BaseException", "object"].map .type
theorem key_stores : StoreFacts "KeyError" keyMro "object.__setattr__" "object" := {
  F.store_LookupError with
  mro := by kernel_rfl
  slot := .of (owner := "object") (n := "__setattr__") (by rw [typeLookup_type, builtinLookup_eq_fast] <;> kernel_rfl) (by decide +kernel) (by decide +kernel) (by decide +kernel) (.inl (by decide +kernel)) (by rw [isSubtype_type] <;> kernel_rfl)
  hasOwner := by decide +kernel
  passes := fun _ => by kernel_rfl }

/-- in the heap h: C is a class over the built-in error B whose objects newId makes -/
structure Xc (h : Heap) (C : Addr) (B newId : String) : Prop where
  ex : ∃ nm q N bs bm hd sn sub ab col dd k0 k1 k2 k3 k5 initId bm0, h.get? C = some (excClassObj nm q C N bs bm hd sn sub ab col dd k0 k1 k2 k3 k5 newId) ∧ ExcBaseFacts B newId initId bm0 ∧
    (Value.ref C :: bm).contains (.type B) = true ∧ (Value.ref C :: bm).contains (.type "AttributeError") = false ∧ (Value.ref C :: bm).contains (.type "NameError") = false
/-- the object that is made: its values in a tuple, then itself -/
abbrev two (h : Heap) (C : Addr) (us : List Value) : Heap := (h.push (W.kdv_tup us)).push (HandSPX.excO C h.objs.size)
theorem two_keeps {h : Heap} {C : Addr} {us : List Value} {b : Addr} {o : Obj} (e : h.get? b = some o) : (two h C us).get? b = some o := Heap.get?_push_of_some _ (Heap.get?_push_of_some _ e)
theorem two_at {h : Heap} {C : Addr} {us : List Value} : (two h C us).get? (h.objs.size + 1) = some (HandSPX.excO C h.objs.size) := by heap_get
section
variable {P : Program} {w : World} {A : Around} {E : Value → Shared → Prop} {R : Result → Shared → Prop} {h : Heap} {g : Array GenState} {d : Drawn} {t : Nat} {os : OsState} {C fI : Addr} {B newId : String} {us : List Value} {kw : List (Str × Value)}
theorem Xc.checked {Q : Unit → Shared → Prop} (X : Xc h C B newId) (q : Q () ⟨h, g, d, t, os⟩) : wpAny (model P w) A (checkBuiltinCall newId ⟨.ref C :: us, kw⟩) Q E ⟨h, g, d, t, os⟩ := by
  obtain ⟨_, _, _, _, _, _, _, _, _, _, _, _, _, _, _, _, _, _, at', FB, isB, _, _⟩ := X.ex
  have := FB.noStar
  simp only [checkBuiltinCall, FB.newRow, FB.newKind, FB.newSplit]
  repeat (first | (refine wpAny_isSubtype_exc at' ?_; rw [isB]) | refine wpAny_staticBase_exc at' ?_ | refine wpAny_madeBy_exc at' ?_ | refine wpAny_loadPart_at at' ?_ | simp only [Bool.false_eq_true, bne_self_eq_false, if_false] | wp_step)
  exact q
theorem Xc.fresh (X : Xc h C B newId) (hl : us.length ≤ sizeLine) (q : R (.ok (.ret (.ref (h.objs.size + 1)))) ⟨two h C us, g, d, t, os⟩) : codeAny (model P w) A (.builtin newId ⟨.ref C :: us, kw⟩) R ⟨h, g, d, t, os⟩ := by
  obtain ⟨_, _, _, _, _, _, _, _, _, _, _, _, _, _, _, _, _, _, at', FB, isB, noA, noN⟩ := X.ex
  have := FB.ends
  apply codeAny_builtinAt FB.entry
  unfold Builtin.«BaseException.__new__»
  apply wpAt_bind
  change wpAt _ _ _ (stack >>= _) _ _ _
  apply wpAt_bind
  apply wpAt_stack
  intro _ _
  apply wpAt_of_wpAny
  wp_walk
  apply wpAt_of_wpAny
  rw [FB.owner]
  repeat (first | with_reducible refine wpAny_loadPart_at at' ?_ | with_reducible refine wpAny_madeHere_exc FB.canon at' ?_ | (with_reducible refine wpAny_isSubtype_exc at' ?_; first | rw [noA] | rw [noN] | rw [isB]) | wp_step)
  change R _ _
  rw [Heap.size_push] <;> exact q
/-- what comes back from __init__ -/
abbrev Back (e : Addr) (Q : Value → Shared → Prop) (E : Value → Shared → Prop) : Result → Shared → Prop := fun r s' => match r with
  | .ok (.ret v) => v = .none ∧ Q (.ref e) s'
  | .ok _ => False
  | .error x => E x s'
theorem Xc.made {Q : Fin → Shared → Prop} (X : Xc h C B newId) (hl : us.length ≤ sizeLine) (finds : W.Looks (model P w) h (typeLookup (.ref C) "__init__") (some (.ref fI))) (binds : ∀ v, W.Looks (model P w) h (bindSpecial (.ref fI) v) (.ref fI, [v]))
    (q : codeAny (model P w) A (.call (.ref fI) ⟨.ref (h.objs.size + 1) :: us, kw⟩) (Back (h.objs.size + 1) (fun v => Q (.done (.ret v))) E) ⟨two h C us, g, d, t, os⟩) : wpAny (model P w) A (Builtin.«type.__call__» ⟨.ref C :: us, kw⟩) Q E ⟨h, g, d, t, os⟩ := by
  obtain ⟨_, _, _, _, bm, _, _, _, _, _, _, _, _, _, _, _, _, _, at', FB, _, _, _⟩ := X.ex
  repeat (first | with_reducible refine wpAny_madeBy_exc at' ?_ | with_reducible refine wpAny_loadPart_at at' ?_ | wp_step)
  refine codeAny_call_builtin_code (Code.quiet_builtin _ FB.quiet) (X.checked (X.fresh hl ?_))
  change wpAny _ _ _ _ _ _
  have later := two_keeps (C := C) (us := us) at'
  have self : (Value.ref C :: bm).contains (.ref C) = true := by rw [List.contains_cons, beq_self_eq_true, Bool.true_or]
  have f2 := finds.keeps fun _ _ => two_keeps (C := C) (us := us)
  have b2 := (binds (.ref (h.objs.size + 1))).keeps fun _ _ => two_keeps (C := C) (us := us)
  unfold isInstance
  repeat (first | with_reducible refine wpAny_loadPart_at two_at ?_ | (with_reducible refine wpAny_isSubtype_exc later ?_; rw [self]) | wp_step)
  change wpAny _ _ (typeLookup (.ref C) _) _ _ _
  apply f2.at
  apply wpAny_holding
  apply wpAny_bind
  apply b2.at
  refine wpAny_bind (wpAny_call (codeAny_mono q ?_))
  intro r s' back
  match r, back with
  | .error _, back => exact back
  | .ok (.ret _), ⟨rfl, back⟩ => first | exact wpAny_pure (wpAny_pure back) | (wp_walk; exact back)
/-- C(..): an object of C, given to its __init__ -/
theorem Xc.call (X : Xc h C B newId) (hl : us.length ≤ sizeLine) (finds : W.Looks (model P w) h (typeLookup (.ref C) "__init__") (some (.ref fI))) (binds : ∀ v, W.Looks (model P w) h (bindSpecial (.ref fI) v) (.ref fI, [v]))
    (q : codeAny (model P w) (A.under (.builtin "type.__call__" ⟨.ref C :: us, kw⟩)) (.call (.ref fI) ⟨.ref (h.objs.size + 1) :: us, kw⟩) (Back (h.objs.size + 1) (fun v s' => R (.ok (.ret v)) s') fun x s' => R (.error x) s') ⟨two h C us, g, d, t, os⟩) :
    codeAny (model P w) A (.call (.ref C) ⟨us, kw⟩) R ⟨h, g, d, t, os⟩ := by
  obtain ⟨_, _, _, _, _, _, _, _, _, _, _, _, _, _, _, _, _, _, at', _⟩ := X.ex
  have isT : Shared.TypeIs ⟨h, g, d, t, os⟩ (.ref C) "type" := ⟨_, at', rfl⟩
  have l1 := tc_lookup
  have l2 := tc_bind (.ref C)
  apply codeAny_of_tree
  change wpAny _ _ (callAny (.ref C) _) _ _ _
  repeat (any_goals (first | assumption | with_reducible refine wpAny_loadPart_at at' ?_ | wp_step))
  exact ⟨rfl, codeAny_call_builtin_at (Code.quiet_builtin _ (by decide +kernel)) entry_typeCall (wpAny_check_type_call_sub at' (X.made hl finds binds (codeAny_mono q fun r s' z => match r, z with
    | .error _, z => z
    | .ok (.ret _), z => z)))⟩
end
end PySem.VX
/-! errors of classes of one's own as values: made (by position, by name), their one field stored and read -/
namespace PySem.VX
open PySem.W PyProof.Rows Builtin Builtin.ObjectAttr
/-- what has happened when an object's first field is stored: a dict at dx, named by the object, holds it -/
structure Fld (h h' : Heap) (x dx : Addr) (o : Obj) (f : Str) (v : Value) : Prop where
  keep : ∀ b u, b ≠ x → h.get? b = some u → h'.get? b = some u
  new : h.get? dx = none
  ne : dx ≠ x
  obj : h'.get? x = some { o with dict := some dx }
  dict : h'.Ns1 dx fun y => if y = f then some v else none
section
variable {P : Program} {w : World} {A : Around} {R : Result → Shared → Prop} {h : Heap} {g : Array GenState} {d : Drawn} {t : Nat} {os : OsState} {B : String} {bmB : List Value} {K : W.Frag} {f : Str} {tk : Tok} {v c2 : Value} {x C ta : Addr}
/-- self.f = v where self has no dict: by the library's first half, then the dict is made and filled -/
theorem first_field (SF : StoreFacts B bmB "object.__setattr__" "object") (KI : K.In h) (hx : h.get? x = some (excObj C ta none c2)) (over : excOver K C bmB = true) (hasD : hasDictIn K C = true) (free : takerIn K C f = some none)
    (q : ∀ h' tk' dx, Fld h h' x dx (excObj C ta none c2) f v → R (.ok (.ret .none)) ⟨h', g, d, tk', os⟩) : codeAny (model P w) A (.call (.builtin "object.__setattr__") ⟨[.ref x, .str f tk, v], []⟩) R ⟨h, g, d, t, os⟩ := by
  have lt := Heap.lt_size hx
  refine osa_openX (s := ⟨h, g, d, t, os⟩) (od := none) SF KI ⟨hx, rfl, rfl, trivial⟩ over free fun b => wpAny_bind (wpAny_pure (wpAny_bind ?_))
  obtain ⟨cd, isC, hasD⟩ := any_some hasD
  refine instanceDict_exc (s := ⟨h, g, d, t, os⟩) hx (looks_clsIn KI isC) hasD ?_
  have dictAt : ((h.push (dictOf [] 0)).update x fun o => { o with dict := some h.objs.size }).get? h.objs.size = some (dictOf [] 0) := by
    rw [Heap.get?_update_other _ _ (Nat.ne_of_lt lt)]
    exact Heap.get?_push_size _ rfl
  have objAt : ((h.push (dictOf [] 0)).update x fun o => { o with dict := some h.objs.size }).get? x = some { excObj C ta none c2 with dict := some h.objs.size } := Heap.get?_update_self _ (Heap.get?_push_of_some _ hx) rfl
  refine HandSPX.store_in_new ⟨_, #[], 0, dictAt, rfl, fun e he => absurd he (by simp), fun _ => rfl⟩ fun h' tk' filled same => q h' tk' h.objs.size ?_
  exact {
    keep := fun b u nb e => by
      rw [same.2 b (Nat.ne_of_lt (Heap.lt_size e)), Heap.get?_update_other _ _ (Ne.symm nb)]
      exact Heap.get?_push_of_some _ e
    new := Heap.StaysIn.fresh (base := h) (h := h) fun _ _ z => z
    ne := Nat.ne_of_gt lt
    obj := (same.2 x (Nat.ne_of_lt lt)).trans objAt
    dict := filled }
end
end PySem.VX

namespace Wf
open PySem PySem.Spec PyProof.Rows L2
/-- a built-in error that errors of one's own may stand over -/
structure VxB (bmB : List Value) (newId : String) : Prop where
  sf : ∃ B, StoreFacts B bmB "object.__setattr__" "object"
  nw : ∃ B initId bm0, ExcBaseFacts B newId initId bm0 ∧ bmB.contains (.type B) = true
  na : bmB.contains (.type "AttributeError") = false
  nn : bmB.contains (.type "NameError") = false
abbrev mroV : List Value := [.type "ValueError", .type "Exception", .type "BaseException", .type "object"]
abbrev mroK : List Value := PySem.VX.keyMro
abbrev mroL : List Value := [.type "LookupError", .type "Exception", .type "BaseException", .type "object"]
abbrev mroI : List Value := [.type "IndexError", .type "LookupError", .type "Exception", .type "BaseException", .type "object"]
abbrev mroA : List Value := [.type "ArithmeticError", .type "Exception", .type "BaseException", .type "object"]
theorem vxb_V : VxB mroV "ValueError.__new__" := ⟨⟨_, F.store_ValueError⟩, ⟨_, _, _, F.excBase_ValueError, by decide +kernel⟩, by decide +kernel, by decide +kernel⟩
theorem vxb_K : VxB mroK "LookupError.__new__" := ⟨⟨_, PySem.VX.key_stores⟩, ⟨_, _, _, F.excBase_LookupError, by decide +kernel⟩, by decide +kernel, by decide +kernel⟩
theorem vxb_L : VxB mroL "LookupError.__new__" := ⟨⟨_, F.store_LookupError⟩, ⟨_, _, _, F.excBase_LookupError, by decide +kernel⟩, by decide +kernel, by decide +kernel⟩
theorem vxb_I : VxB mroI "IndexError.__new__" := ⟨⟨_, F.store_IndexError⟩, ⟨_, _, _, F.excBase_IndexError, by decide +kernel⟩, by decide +kernel, by decide +kernel⟩
theorem vxb_A : VxB mroA "ArithmeticError.__new__" := ⟨⟨_, F.store_ArithmeticError⟩, ⟨_, _, _, F.excBase_ArithmeticError, by decide +kernel⟩, by decide +kernel, by decide +kernel⟩
/-- what the written part says of an error class -/
structure VxC (K : PySem.W.Frag) (C : Addr) : Prop where
  over : ∃ bmB newId, VxB bmB newId ∧ PySem.W.excInitIn K C bmB newId = true ∧ PySem.W.excOver K C bmB = true
  sa : PySem.W.findIn K (.ref C) "__setattr__" = some (some (.builtin "object.__setattr__"))
  kC : PySem.W.keepIn K (.ref C) = true
  is : ExcC K C
/-- at a: an error of the class at C with its field f, the value y -/
def Ve (H : Hp) (a C : Addr) (f : Str) (y : V) : Prop := ∃ d, H a = some (exo a C (some d)) ∧ H d = some (exd d [(f, y)])
theorem Ve.same {H H' : Hp} {a C : Addr} {f : Str} {y : V} (h : Ve H a C f y) (s : Same H H') : Ve H' a C f y := let ⟨d, e1, e2⟩ := h; ⟨d, s _ _ e1, s _ _ e2⟩
def spInit (K : PySem.W.Frag) (f : Str) : Sp := fun vs H Q _ => ∃ (a C : Addr) (y : V), vs = [.ref a, y] ∧ H a = some (exo a C none) ∧ VxC K C ∧ PySem.W.takerIn K C f = some none ∧
  ∀ d, H d = none → d ≠ a → Q .non (upd (upd H d (exd d [(f, y)])) a (exo a C (some d)))
/-- self.f = e, the first one -/
def tOv (K : PySem.W.Frag) (f : Str) (to te : TE) : TS := fun D σ H => te σ H fun y H1 => to σ H1 fun x H2 => ∃ a C : Addr, x = .ref a ∧ VxC K C ∧ PySem.W.takerIn K C f = some none ∧
  H2 a = some (exo a C none) ∧ ∀ dx, H2 dx = none → dx ≠ a → D.nx σ (upd (upd H2 dx (exd dx [(f, y)])) a (exo a C (some dx)))
section
variable {X : Cx} {pins : List (Addr × Obj)} {σ : L2.St} {H : Hp} {s : Shared} {a C dx : Addr} {f : Str} {y : V} {u : Value} {Q : Unit → Shared → Prop} {E : Value → Shared → Prop} {A : Around}
/-- the heap that is told of, when an error's first field is stored -/
abbrev told (H : Hp) (a C dx : Addr) (f : Str) (y : V) : Hp := upd (upd H dx (exd dx [(f, y)])) a (exo a C (some dx))
theorem fielded {hp h' : Heap} {g : Array GenState} {dr : Drawn} {t t' : Nat} {os : OsState} {ta : Addr} (I : Inv X pins σ H ⟨hp, g, dr, t, os⟩) (e : H a = some (exo a C none)) (F : PySem.VX.Fld hp h' a dx (PySem.W.excObj C ta none .none) f u) (ry : RelV y u) :
    H dx = none ∧ Inv X pins σ (told H a C dx f y) ⟨h', g, dr, t', os⟩ := by
  have gone : H dx = none := I.hok.gone F.new
  have off : ∀ {b : Addr}, H b = none → b ≠ a := fun n z => by cases (z ▸ n).symm.trans e
  have old : ∀ {b : Addr} {o : Obj}, hp.get? b = some o → b ≠ dx := fun q z => by cases (z ▸ q).symm.trans F.new
  have seen : ∀ {b : Addr} {o : HO}, H b = some o → exo a C none ≠ o → told H a C dx f y b = some o := fun q n => (upd_ne (at_ne e q n)).trans ((upd_ne (ne_of_none q gone)).trans q)
  have there : ∃ o, h'.get? a = some o := ⟨_, F.obj⟩
  refine ⟨gone, I.un (t' := t') ⟨fun b o q n _ _ => F.keep b o (off n) q, fun b o q n _ _ => ⟨_, F.keep b o (off n) q⟩, fun b o q n _ => (upd_ne (off n)).trans ((upd_ne (old q)).trans n),
    fun b o q _ => (Decidable.em (b = a)).elim (fun z => z ▸ there) fun z => ⟨o, F.keep b o z q⟩, fun b xs q => seen q exo_tup, fun b o v q => seen q exo_frz, fun b ps q => ⟨#[], by rw [seen q exo_tbl, Array.append_empty]⟩⟩ fun b o q => ?_⟩
  rcases Decidable.em (b = a) with rfl | nb
  · cases upd_same.symm.trans q
    exact exo_ok F.obj
  rcases Decidable.em (b = dx) with rfl | nd
  · cases ((upd_ne nb).trans upd_same).symm.trans q
    exact exd_ok F.dict (relO_put (fs := []) ry fun _ => trivial)
  · have was : H b = some o := (upd_ne nd).symm.trans ((upd_ne nb).symm.trans q)
    exact (I.hok b o was).stay (fun c v hc z => F.keep c v (hc.elim (fun y => y ▸ nb) fun y => at_ne e y exo_own) z) (fun c hc => seen hc exo_own) fun c xs hc => seen hc exo_tup
theorem ov_new (T : VxC X.K C) (I : Inv X pins σ H s) (e : H a = some (exo a C none)) (hno : PySem.W.takerIn X.K C f = some none) (ry : RelV y u) (h : ∀ dx s', H dx = none → dx ≠ a → Inv X pins σ (told H a C dx f y) s' → Q () s') :
    wpAny (model X.prog X.w) A (setAttr (.ref a) f u) Q E s := by
  obtain ⟨_, _, VB, _, over⟩ := T.over
  obtain ⟨_, SF⟩ := VB.sf
  obtain ⟨ta, at'⟩ := exo_at I.hok e
  obtain ⟨_, _, _, _, _⟩ := s
  refine PySem.W.set_plain (od := none) I.kIn ⟨at', rfl, rfl, trivial⟩ T.sa (PySem.VX.first_field SF I.kIn at' over T.is.hd hno fun h' tk' dx F => ?_)
  obtain ⟨gone, J⟩ := fielded (t' := tk') I e F ry
  exact h dx _ gone F.ne J
variable {o e : Expr} {to te : TE} {p p' pos : Pos}
theorem ps_ov (ho : PE X o to) (he : PE X e te) (hs : swapsWith e (some (.Attribute o f p')) pos.line X.env = pure false := by rfl) : PS X (.Assign [.Attribute o f p'] e pos) (tOv X.K f to te) := by
  refine ⟨fun pins s σ H D I h => ?_⟩
  refine plainObj_wpAny_Assign_Attribute (thn (he.run pins s σ H _ I h) fun v s1 ⟨y, H1, I1, r1, q1⟩ => thn (ho.run pins s1 σ H1 _ I1 q1) fun u s2 ⟨x, H2, I2, r2, a, C, ex, T, hno, ea, q⟩ => ?_) hs
  subst ex
  obtain rfl : u = Value.ref a := r2
  exact ov_new T I2 ea hno r1 fun dx s' n ne J => ⟨σ, _, J, q dx n ne⟩
end
/-- C(e), C(f=e): an error of the class at C -/
def tMkV (C : Addr) (f : Str) (te : TE) : TE := fun σ H Q => te σ H fun y H1 => ∀ a H', Same H1 H' → H1 a = none → Ve H' a C f y → Q (.ref a) H'
def tMkN (C : Addr) (f : Str) (te : TE) : TE := fun σ H Q => te σ H fun y H1 => ∀ a d H', Same H1 H' → H1 a = none → H1 d = none → H' a = some (exo a C (some d)) → H' d = some (exd d [(f, y)]) → Q (.ref a) H'
section
variable {X : Cx} {pins : List (Addr × Obj)} {σ : L2.St} {H1 : Hp} {s1 : Shared} {C fI : Addr} {fd : FuncData} {k : Nat} {f : Str} {y : V} {u : Value} {Q : VK} {x : Str} {e : Expr} {te : TE} {p pos kp : Pos}
theorem ve_callN {us : List Value} {kw : List (Str × Value)} (T : VxC X.K C) (iC : PySem.W.findIn X.K (.ref C) "__init__" = some (some (.ref fI))) (tI : PySem.W.typeIn X.K (.ref fI) = some (.type "function")) (D : FnOk X.prog X.w X.K X.mg X.base CX0 k fI fd ["self", f] (spInit X.K f)) (hr : Room (k + 1) X.A)
    (hno : PySem.W.takerIn X.K C f = some none) (bt : ∀ (t : Shared) (v : Value), X.K.In t.heap → BindsTo t fd ⟨v :: us, kw⟩ (List.zip (["self", f] : List Str) [v, u])) (hl : us.length ≤ 1000) (I : Inv X pins σ H1 s1) (ry : RelV y u)
    (q : ∀ a d H', Same H1 H' → H1 a = none → H1 d = none → H' a = some (exo a C (some d)) → H' d = some (exd d [(f, y)]) → Q (.ref a) H') : wpAny (model X.prog X.w) X.A (call (.ref C) us kw) (EP X pins σ Q) X.xe s1 := by
  obtain ⟨bmB, newId, VB, hi, _⟩ := T.over
  obtain ⟨B, _, _, FB, isB⟩ := VB.nw
  obtain ⟨hp, g, dr, tk, os⟩ := s1
  have XC : PySem.VX.Xc hp C B newId := by
    obtain ⟨nm, N', qn, bs, bm, hd, sn, sub, ab, col, dd, k0, k1, k2, k3, k5, at', like⟩ := PySem.W.excInit_of I.kIn hi
    exact ⟨_, _, _, _, _, _, _, _, _, _, _, _, _, _, _, _, _, _, at', FB, by rw [List.contains_cons, like, isB, Bool.or_true], by rw [List.contains_cons, like, VB.na] <;> rfl, by rw [List.contains_cons, like, VB.nn] <;> rfl⟩
  -- the new object
  obtain ⟨e, ee⟩ : ∃ e, e = hp.objs.size + 1 := ⟨_, rfl⟩
  have big : hp.objs.size ≤ e := by omega
  have gone : H1 e = none := I.hok.fresh big
  have J := I.laid (t' := tk) (a := e) (o := exo e C none) (fun _ _ => PySem.VX.two_keeps (C := C) (us := us)) big (exo_ok (t1 := hp.objs.size) (by rw [ee]; exact PySem.VX.two_at))
  refine wpAny_call (XC.call (by rw [sizeLine_eq]; omega) (PySem.W.looks_findIn I.kIn iC) (fun v => PySem.W.bind_fn I.kIn v tI) ?_)
  rw [← ee]
  -- its __init__
  refine codeAny_mono (D.run (vs := [.ref e, y]) (us := [.ref e, u]) (Q := fun v H2 => v = .non ∧ ∃ d, H1 d = none ∧ d ≠ e ∧ H2 = told (upd H1 e (exo e C none)) e C d f y) (E := fun _ _ _ => False) _ X.stack _ _ _ (hr.make C us kw) (J.env0.make C us kw) (bt _ _ J.kIn) (.cons rfl (.cons ry .nil))
    ⟨e, C, y, rfl, upd_same, T, hno, fun d nd ne => ⟨rfl, d, (upd_ne ne).symm.trans nd, ne, rfl⟩⟩) fun r s' back => ?_
  match r, back with
  | .ok (.ret _), back =>
    obtain ⟨_, _, J2, rel, rfl, d, nd, ne, rfl⟩ := J.after back
    refine ⟨rel, .ref e, _, J2, rfl, q e d _ (fun b o z => ?_) gone nd upd_same ((upd_ne ne).trans upd_same)⟩
    exact (upd_ne (ne_of_none z gone)).trans ((upd_ne (ne_of_none z nd)).trans ((upd_ne (ne_of_none z gone)).trans z))
theorem ve_call {us : List Value} {kw : List (Str × Value)} (T : VxC X.K C) (iC : PySem.W.findIn X.K (.ref C) "__init__" = some (some (.ref fI))) (tI : PySem.W.typeIn X.K (.ref fI) = some (.type "function")) (D : FnOk X.prog X.w X.K X.mg X.base CX0 k fI fd ["self", f] (spInit X.K f)) (hr : Room (k + 1) X.A)
    (hno : PySem.W.takerIn X.K C f = some none) (bt : ∀ (t : Shared) (v : Value), X.K.In t.heap → BindsTo t fd ⟨v :: us, kw⟩ (List.zip (["self", f] : List Str) [v, u])) (hl : us.length ≤ 1000) (I : Inv X pins σ H1 s1) (ry : RelV y u)
    (q : ∀ a H', Same H1 H' → H1 a = none → Ve H' a C f y → Q (.ref a) H') : wpAny (model X.prog X.w) X.A (call (.ref C) us kw) (EP X pins σ Q) X.xe s1 :=
  ve_callN T iC tI D hr hno bt hl I ry fun a d H' s n _ e1 e2 => q a H' s n ⟨d, e1, e2⟩
/-- what the text says of an error class with one field, by its name -/
structure Vn (P : Program) (w : World) (K : PySem.W.Frag) (mg : Str → Option Value) (base : Heap) (x : Str) (C : Addr) (f : Str) : Prop where
  cls : VxC K C
  gC : mg x = some (.ref C)
  no : PySem.W.findIn K (.ref C) f = some none
  init : ∃ (fI : Addr) (fd : FuncData), PySem.W.findIn K (.ref C) "__init__" = some (some (.ref fI)) ∧ PySem.W.typeIn K (.ref fI) = some (.type "function") ∧ FnOk P w K mg base CX0 1 fI fd ["self", f] (spInit K f) ∧
    (∀ (t : Shared) (v u : Value), BindsTo t fd ⟨[v, u], []⟩ (List.zip (["self", f] : List Str) [v, u])) ∧ ∀ (t : Shared) (v u : Value), BindsTo t fd ⟨[v], [(f, u)]⟩ (List.zip (["self", f] : List Str) [v, u])
theorem taker_of {K : PySem.W.Frag} {C : Addr} {f : Str} (h : PySem.W.findIn K (.ref C) f = some none) : PySem.W.takerIn K C f = some none := by
  unfold PySem.W.takerIn
  rw [h]
  rfl
theorem pe_vpos (N : Vn X.prog X.w X.K X.mg X.base x C f) (hr : Room 2 X.A) (he : PE X e te) (hg : Gl X x := by rfl) (hs : starEach [e] X.env = (false, eval e X.env) :: starEach [] X.env := by rfl) (hdb : (x == ("__debug__" : Str)) = false := by decide) :
    PE X (.Call (.Name x p) [e] [] pos) (tMkV C f te) := by
  obtain ⟨fI, fd, iC, tI, F1, hb, _⟩ := N.init
  refine ⟨fun pins s σ H Q I h => ?_⟩
  refine wpAny_Call_Name_kw (ld_glob I hg N.gC ?_ hdb)
  refine PySem.W.callWith_K (h₀ := X.base) I.ok.mod.kin N.cls.kC ?_ hs (by rfl)
  rw [hs]
  change wpAny _ _ (spliced (_ :: backTo pos (starEach [] X.env))) _ _ _
  exact Calls.spliced_cons (thn (he.run pins s σ H _ I h) fun u _ ⟨_, _, J, ry, q⟩ => Calls.spliced_nil ⟨J.kIn, ve_call N.cls iC tI F1 hr (taker_of N.no) (fun t v _ => hb t v u) (by show 1 ≤ 1000; omega) J ry q⟩)
theorem pe_vposN (N : Vn X.prog X.w X.K X.mg X.base x C f) (hr : Room 2 X.A) (he : PE X e te) (hg : Gl X x := by rfl) (hs : starEach [e] X.env = (false, eval e X.env) :: starEach [] X.env := by rfl) (hdb : (x == ("__debug__" : Str)) = false := by decide) :
    PE X (.Call (.Name x p) [e] [] pos) (tMkN C f te) := by
  obtain ⟨fI, fd, iC, tI, F1, hb, _⟩ := N.init
  refine ⟨fun pins s σ H Q I h => ?_⟩
  refine wpAny_Call_Name_kw (ld_glob I hg N.gC ?_ hdb)
  refine PySem.W.callWith_K (h₀ := X.base) I.ok.mod.kin N.cls.kC ?_ hs (by rfl)
  rw [hs]
  change wpAny _ _ (spliced (_ :: backTo pos (starEach [] X.env))) _ _ _
  exact Calls.spliced_cons (thn (he.run pins s σ H _ I h) fun u _ ⟨_, _, J, ry, q⟩ => Calls.spliced_nil ⟨J.kIn, ve_callN N.cls iC tI F1 hr (taker_of N.no) (fun t v _ => hb t v u) (by show 1 ≤ 1000; omega) J ry q⟩)
theorem pe_vkw (N : Vn X.prog X.w X.K X.mg X.base x C f) (hr : Room 2 X.A) (he : PE X e te) (hg : Gl X x := by rfl) (hdb : (x == ("__debug__" : Str)) = false := by decide)
    (hall : (backToKw pos (keywordEach [⟨some f, e, kp⟩] X.env)).all (·.1.isSome) = true := by rfl) (hks : (backToKw pos (keywordEach [⟨some f, e, kp⟩] X.env)).filterMap (·.1) = [f] := by rfl)
    (hpl : ((backTo pos (starEach [] X.env)).any (·.1) || (backToKw pos (keywordEach [⟨some f, e, kp⟩] X.env)).any (·.1.isNone)) = false := by rfl) :
    PE X (.Call (.Name x p) [] [⟨some f, e, kp⟩] pos) (tMkV C f te) := by
  obtain ⟨fI, fd, iC, tI, F1, _, hb⟩ := N.init
  refine ⟨fun pins s σ H Q I h => ?_⟩
  refine wpAny_Call_Name_kw (ld_glob I hg N.gC ?_ hdb)
  refine PySem.W.callWith_KW0 (h₀ := X.base) I.ok.mod.kin N.cls.kC hall ?_ hpl
  have K1 : PK X [⟨some f, e, kp⟩] (tCons te tNil) := pk_cons he pk_nil
  refine thn (K1.run pos pins s σ H (fun vs H1 => match vs with | [y] => ∀ a H', Same H1 H' → H1 a = none → Ve H' a C f y → Q (.ref a) H' | _ => False) I h) fun ws s1 ⟨vs, H1, I1, rz, q1⟩ => ?_
  match vs, rz, q1 with
  | [], _, q1 => exact q1.elim
  | _ :: _ :: _, _, q1 => exact q1.elim
  | [y], rz, q1 =>
  obtain ⟨u, rfl, r1⟩ := vals1 rz
  refine ⟨I1.kIn, ?_⟩
  rw [hks]
  exact ve_call N.cls iC tI F1 hr (taker_of N.no) (fun t v _ => hb t v u) (by show 0 ≤ 1000; omega) I1 r1 q1
end
end Wf
namespace Wf
open PySem PySem.Spec PyProof.Rows L2
/-- e.f, e an error as a value -/
def tVf (K : PySem.W.Frag) (f : Str) (te : TE) : TE := fun σ H Q => te σ H fun x H1 => ∃ (a C : Addr) (y : V), x = .ref a ∧ VxC K C ∧ PySem.W.findIn K (.ref C) f = some none ∧ Ve H1 a C f y ∧ Q y H1
section
variable {X : Cx} {e : Expr} {te : TE} {pos : Pos} {f : Str}
theorem pe_vf (he : PE X e te) (hb : attributeBase e f X.env (eval e X.env) = eval e X.env := by rfl) : PE X (.Attribute e f pos) (tVf X.K f te) := by
  refine ⟨fun pins s σ H Q I h => ?_⟩
  refine attr_of hb (thn (he.run pins s σ H _ I h) fun u s1 ⟨x, H1, I1, rx, a, C, y, ex, T, hno, ⟨d, ea, ed⟩, q⟩ => ?_)
  subst ex
  obtain rfl : u = Value.ref a := rx
  obtain ⟨t1, ho1⟩ := exo_at I1.hok ea
  obtain ⟨mA, hns, hr⟩ := exd_at I1.hok ed
  obtain ⟨od, ho, hl⟩ := lookIn_ns hns
  obtain ⟨u, hu, ru⟩ := RelO.some_of (v := y) (o := mA f) (by have z := hr f; rw [lookup_put, if_pos rfl] at z; exact z)
  have J : PySem.W.InstAt s1.heap a _ C (some od) := ⟨ho1, rfl, rfl, ho⟩
  exact HandSPX.exc_get I1.kIn J T.is.hg T.is.hk T.is.hs (PySem.W.findObj_own T.is.hd hno rfl (by rw [hl, hu])) (handed_of ru) ⟨y, H1, I1.tok _, ru, q⟩
end
/-! ### errors without a field -/
structure Vn0 (K : PySem.W.Frag) (mg : Str → Option Value) (x : Str) (C : Addr) : Prop where
  cls : ∃ B newId initId bmB, ExcBaseFacts B newId initId bmB ∧ PySem.W.excIn K C bmB newId = true
  is : ExcC K C
  kC : PySem.W.keepIn K (.ref C) = true
  gC : mg x = some (.ref C)
/-- at a: an error of the class at C without a field -/
def Ve0 (H : Hp) (a C : Addr) : Prop := H a = some (ExO (.ref C) a)
theorem Ve0.same {H H' : Hp} {a C : Addr} (h : Ve0 H a C) (s : Same H H') : Ve0 H' a C := s _ _ h
section
variable {X : Cx} {C : Addr} {x : Str} {p pos : Pos}
theorem pe_v0 (N : Vn0 X.K X.mg x C) (hg : Gl X x := by rfl) (hdb : (x == ("__debug__" : Str)) = false := by decide) :
    PE X (.Call (.Name x p) [] [] pos) (fun _ H Q => ∀ a, H a = none → Q (.ref a) (upd H a (ExO (.ref C) a))) := by
  obtain ⟨B, newId, initId, bmB, F, q⟩ := N.cls
  refine ⟨fun pins s σ H Q I h => ?_⟩
  refine wpAny_Call_Name_kw (ld_glob I hg N.gC ?_ hdb)
  refine PySem.W.callWith_K0 I.kIn N.kC ?_
  show wpAny _ _ (call (.ref C) []) _ _ _
  obtain ⟨bm, N', nm, qn, bs, hdct, sn, sub, ab, col, dd, k0, k1, k2, k3, k5, mN, hC, hN, hni, T⟩ := exc_obj I.kIn q
  refine wpAny_call_exc_subT F T hC hN hni (fun h' a hm => ?_) (by show 0 ≤ sizeLine; rw [sizeLine_eq]; omega)
  have hn : H a = none := I.hok.gone hm.new
  obtain ⟨t, ht, _, _⟩ := hm.there
  exact ⟨.ref a, upd H a (ExO (.ref C) a), I.laidN hm.keeps hm.new hn (exO_ok ht ⟨rfl, rfl⟩ rfl rfl rfl (show 4 < 6 by decide)), rfl, h a hn⟩
end
/-! ### isinstance(e, T) -/
/-- at a: an error of the class at C -/
def VeA (H : Hp) (a C : Addr) : Prop := Ve0 H a C ∨ ∃ f y, Ve H a C f y
def rVi (K : PySem.W.Frag) : List V → Hp → VK → Prop := fun xs H Q => ∃ (a C : Addr) (T : String) (b : Bool), xs = [.ref a, .ty T] ∧ ExcC K C ∧ VeA H a C ∧ PySem.W.kitOne K (.ref C) (.type T) = some b ∧ Q (.bl b) H
section
variable {X : Cx}
theorem ex_isSome {K : PySem.W.Frag} {C : Addr} (h : PySem.W.hasDictIn K C = true) : (PySem.W.clsIn K C).isSome = true := by
  obtain ⟨cd, hc, _⟩ := PySem.W.any_some h
  rw [hc]
  rfl
theorem call_vi : CallR X (.builtin "isinstance") (rVi X.K) := by
  intro pins s σ H xs us Q I r h
  obtain ⟨a, C, T, b, rfl, E, hv, e, q⟩ := h
  obtain ⟨u1, u2, rfl, r1, r2⟩ := vals2 r
  obtain rfl : u1 = Value.ref a := r1
  obtain rfl : u2 = Value.type T := r2
  have fin : ∀ {ox : Obj} {od : Option Obj}, PySem.W.InstAt s.heap a ox C od → wpAny (model X.prog X.w) X.A (call (.builtin "isinstance") [.ref a, .type T]) (EP X pins σ Q) X.xe s := fun {ox od} J =>
    PySem.W.kia_one (PySem.W.kitx_exc (ex_isSome E.hd) E.hg E.hk E.hs E.ha E.hn E.ht E.hm) I.kIn J e (fun z => nomatch z) fun tk => ⟨.bl b, H, I.tok tk, rfl, q⟩
  rcases hv with h0 | ⟨f, y, d, ea, ed⟩
  · obtain ⟨⟨oe, vs, ho, hz, hd, _⟩, _, _⟩ := (show ObjOk X.prog X.w H s.heap a (ExO (.ref C) a) from I.hok a _ h0)
    exact fin (ox := oe) (od := none) ⟨ho, hz.1, by unfold PySem.W.notCls; rw [hd] <;> rfl, by rw [hz.2]; trivial⟩
  · obtain ⟨t1, ho1⟩ := exo_at I.hok ea
    obtain ⟨mA, hns, hr⟩ := exd_at I.hok ed
    obtain ⟨od, ho, _⟩ := lookIn_ns hns
    exact fin (od := some od) ⟨ho1, rfl, rfl, ho⟩
end
/-- a built-in class by its name -/
theorem pe_ty {X : Cx} {x : Str} {T : String} {pos : Pos} (hm : X.mg x = none) (hv : bootBuiltins x = some (.type T)) (hg : Gl X x := by rfl) (hn : x ≠ "__name__" := by decide) (hd : (x == ("__debug__" : Str)) = false := by decide) : PE X (.Name x pos) (tC (.ty T)) :=
  pe_bltn hg hm hv rfl hn hd
/-- which of the six groups an error's class is in -/
structure Grp (K : PySem.W.Frag) (C : Addr) (b1 b2 b3 b4 b5 b6 : Bool) : Prop where
  ex : ExcC K C
  g1 : PySem.W.kitOne K (.ref C) (.type "ValueError") = some b1
  g2 : PySem.W.kitOne K (.ref C) (.type "KeyError") = some b2
  g3 : PySem.W.kitOne K (.ref C) (.type "IndexError") = some b3
  g4 : PySem.W.kitOne K (.ref C) (.type "ArithmeticError") = some b4
  g5 : PySem.W.kitOne K (.ref C) (.type "TypeError") = some b5
  g6 : PySem.W.kitOne K (.ref C) (.type "RuntimeError") = some b6
end Wf
namespace Wf
open PySem PySem.Spec PyProof.Rows L2
/-! ### repr of data, and of dicts of whole numbers -/
def keyP : Key → PyData
  | .inl i => .int i
  | .inr x => .str x
/-- a dict of whole numbers -/
def dkI (ks : List (Key × Int)) : HO := .dK (ks.map fun p => (p.1, V.int p.2))
def dataI (ks : List (Key × Int)) : PyData := .dict (ks.map fun p => (keyP p.1, PyData.int p.2))
theorem reads_pairs {P : Program} {w : World} {h : Heap} : ∀ {ks : List (Key × Int)} {es : List DictEntry} {vs : List (Key × Value)}, KV (ks.map fun p => (p.1, V.int p.2)) vs → Pairs (mixKind P w) es vs →
    ReadsAll h (es.map (·.key)) (ks.map fun p => keyP p.1) [] ∧ ReadsAll h (es.map (·.val)) (ks.map fun p => PyData.int p.2) []
  | [], es, vs, kv, pr => by
    cases kv
    cases pr
    exact ⟨.nil, .nil⟩
  | (k, i) :: ks, es, vs, kv, pr => by
    cases kv with
    | @cons _ q _ qs h t =>
      cases pr with
      | @cons e _ es' _ hk hv hr =>
        obtain ⟨a, b⟩ := reads_pairs t hr
        obtain ⟨h1, h2⟩ := h
        obtain ⟨tk, h2⟩ := h2
        have h1 : k = q.1 := h1
        have hk : keyIs q.1 e.key = true := hk
        rw [← h1] at hk
        refine ⟨?_, ?_⟩
        · have one : Reads h e.key (keyP k) [] := by
            rcases keyIs_shape hk with ⟨j, t, rfl, e2⟩ | ⟨y, t, rfl, e2⟩
            · rw [e2]; exact .int _ _
            · rw [e2]; exact .str _ _
          exact ReadsAll.cons (as := []) (bs := []) one a
        · have one : Reads h e.val (PyData.int i) [] := by
            rw [hv, h2]
            exact .int _ _
          exact ReadsAll.cons (as := []) (bs := []) one b
/-- what can be shown: data, or a dict of whole numbers -/
inductive Rp (K : PySem.W.Frag) (H : Hp) : V → PyData → Prop
  | dp {v : V} {d : PyData} : Dp K H v d → Rp K H v d
  | dk {a : Addr} {ks : List (Key × Int)} : H a = some (dkI ks) → Rp K H (.ref a) (dataI ks)
theorem Rp.same {K : PySem.W.Frag} {H H' : Hp} {v : V} {d : PyData} (r : Rp K H v d) (s : Same H H') : Rp K H' v d := by
  cases r with
  | dp h => exact .dp ((Stay.of s).dp h)
  | dk h => exact .dk (s _ _ h)
section
variable {X : Cx}
def rReprV (K : PySem.W.Frag) : List V → Hp → VK → Prop := fun xs H Q => ∃ v d, xs = [v] ∧ Rp K H v d ∧ d.showable = true ∧ d.depth ≤ 60 ∧ d.shown.length ≤ sizeLine ∧ Q (.str d.shown) H
theorem cr_reprV (hq : Qt X.A) (hu : X.A.units + 64 < cLine) : CallR X (.builtin "repr") (rReprV X.K) := by
  intro pins s σ H xs us Q I r h
  obtain ⟨v, d, rfl, hd, sh, dp, sz, q⟩ := h
  cases hd with
  | dp hd => exact cr_repr hq hu pins s σ H _ _ Q I r ⟨v, d, rfl, hd, sh, dp, sz, q⟩
  | @dk a ks ea =>
    obtain ⟨u, rfl, rx⟩ := vals1 r
    obtain rfl : u = Value.ref a := rx
    obtain ⟨_, ns, vs, kv, o, es, ep, ho, hx, hd, _, hp, _⟩ := dk_of I.hok ea
    obtain ⟨r1, r2⟩ := reads_pairs (h := s.heap) kv hp
    have q1 : ReadsAll s.heap (es.toList.map (·.key)) ((ks.map fun p : Key × Int => (keyP p.1, PyData.int p.2)).map (·.1)) [] := by rw [List.map_map]; exact r1
    have q2 : ReadsAll s.heap (es.toList.map (·.val)) ((ks.map fun p : Key × Int => (keyP p.1, PyData.int p.2)).map (·.2)) [] := by rw [List.map_map]; exact r2
    have rd : Reads s.heap (.ref a) (.dict (ks.map fun p : Key × Int => (keyP p.1, PyData.int p.2))) ([a] ++ []) := Reads.dict ho hx.1 hd q1 q2
    have dp' : (PyData.dict (ks.map fun p : Key × Int => (keyP p.1, PyData.int p.2))).depth ≤ 60 := dp
    exact repr_of_reads' rd sh (fun _ hm => by
      have e := List.mem_singleton.mp (by simpa using hm)
      rw [e] at ns
      exact absurd ns (by simp)) hq (by omega) (fun _ _ z => z) (fun h' u tk k => ⟨.str _, H, I.kept k, ⟨_, rfl⟩, q⟩) sz
end
end Wf
/-! raise of an error that is made as a value: C(e), C(f=e), C(), a name that holds one -/
namespace Wf
open PySem PySem.Spec PyProof.Rows L2
section
variable {X : Cx} {pins : List (Addr × Obj)} {σ : L2.St} {H : Hp} {s : Shared}
/-- what is told of the object at d is said anew, the heap as it is -/
theorem relabel {d : Addr} {φ : Heap → Prop} {u : HO} (I : Inv X pins σ H s) (hd : H d = some (.ext φ)) (hu : ObjOk X.prog X.w (upd H d u) s.heap d u) : Inv X pins σ (upd H d u) s := by
  have off : ∀ {b : Addr}, H b = none → b ≠ d := fun n z => by cases (z ▸ n).symm.trans hd
  have seen : ∀ {b : Addr} {o : HO}, H b = some o → HO.ext φ ≠ o → upd H d u b = some o := fun q n => (upd_ne (at_ne hd q n)).trans q
  refine I.un (t' := s.toks) (h' := s.heap) ⟨fun _ _ q _ _ _ => q, fun _ o q _ _ _ => ⟨o.slots, q⟩, fun _ _ _ n _ => (upd_ne (off n)).trans n, fun _ o q _ => ⟨o, q⟩, fun _ _ q => seen q (fun z => by cases z), fun _ _ _ q => seen q (fun z => by cases z), fun _ _ q => ⟨#[], by rw [seen q (fun z => by cases z), Array.append_empty]⟩⟩ fun b o q => ?_
  rcases Decidable.em (b = d) with rfl | nb
  · cases upd_same.symm.trans q
    exact hu
  · exact (I.hok b o ((upd_ne nb).symm.trans q)).stay (fun _ _ _ z => z) (fun _ hc => seen hc (fun z => by cases z)) fun _ _ hc => seen hc (fun z => by cases z)
/-- raise e, e an error with a field -/
def tRv (K : PySem.W.Frag) (H0 : Hp) (te : TE) : L2.St → Hp → XK → Prop := fun σ H Q => te σ H fun x H1 => ∃ (a C : Addr) (f : Str) (y : V), x = .ref a ∧ Ve H1 a C f y ∧ H0 a = none ∧ ExcC K C ∧ PySem.W.typeIn K (.ref C) = some (.type "type") ∧
  ∀ d H', Same (del H1 a) (upd H' d (exd d [(f, y)])) → H' a = none → H' d = some (.xd [(f, y)]) → (∀ b, b ≠ d → b ≠ a → H' b = H1 b) → Q (.ref C) (some d) H'
theorem pmk_v {e : Expr} {te : TE} (hx : X.ex = []) (he : PE X e te) : PMk X e (tRv X.K X.H_0 te) := by
  intro pins s σ H Q I h
  refine wpAny_mono (he.run pins s σ H _ I h) (fun u s1 hu => ?_) fun _ _ z => z
  obtain ⟨v, H1, J, rv, a, C, f, y, rfl, ⟨d, ea, ed⟩, h0, ex, ty, q⟩ := hu
  cases rv
  obtain ⟨t1, ho⟩ := exo_at J.hok ea
  have ne : d ≠ a := fun z => by
    obtain ⟨_, ⟨_, _, _, e1, e2, _⟩, _⟩ := exd_at J.hok ed
    rw [z] at e1
    cases ho.symm.trans e1
    cases e2
  obtain ⟨G, gs, ga, J2⟩ := J.untrack ea (fun o z => by cases h0.symm.trans z) hx
  have ed2 : delH H1 a d = some (exd d [(f, y)]) := (delH_ne ne).trans ed
  obtain ⟨mA, dict, rel⟩ := exd_at J2.hok ed2
  have J3 := relabel (u := .xd [(f, y)]) J2 ed2 ⟨mA, dict, rel⟩
  refine ⟨a, _, _, { s1 with heap := G }, _, .ref C, some d, rfl, J3, gs, ga, ho, ⟨rfl, rfl⟩, rfl, rfl, (upd_ne ne.symm).trans delH_same, rfl, J.bare, raises_own ex.hs ty, ?_⟩
  refine q d _ (fun b o z => ?_) ((upd_ne ne.symm).trans delH_same) upd_same fun b n1 n2 => (upd_ne n1).trans (delH_ne n2)
  rcases Decidable.em (b = d) with rfl | nb
  · rw [upd_same, ← z, del_ne ne, ed]
  · rw [upd_ne nb, upd_ne nb]
    exact z
end
end Wf
/-! any data, at any depth: what stands in the heap, shown, asked for its kind -/
namespace Wf
open PySem PySem.Spec PyProof.Rows L2
mutual
inductive Dq (K : PySem.W.Frag) (H : Hp) : V → PyData → Prop
  | non : Dq K H .non .none
  | bl (b : Bool) : Dq K H (.bl b) (.bool b)
  | int (i : Int) : Dq K H (.int i) (.int i)
  | str (x : Str) : Dq K H (.str x) (.str x)
  | lst {a : Addr} {xs : List V} {ds : List PyData} : SqL K H a xs → DqAll K H xs ds → Dq K H (.ref a) (.list ds)
  | tup {a : Addr} {xs : List V} {ds : List PyData} : SqT K H a xs → DqAll K H xs ds → Dq K H (.ref a) (.tuple ds)
  | dk {a : Addr} {ks : List (Key × Int)} {kd : List (PyData × PyData)} : H a = some (dkI ks) → kd = ks.map (fun p => (keyP p.1, PyData.int p.2)) → Dq K H (.ref a) (.dict kd)
inductive DqAll (K : PySem.W.Frag) (H : Hp) : List V → List PyData → Prop
  | nil : DqAll K H [] []
  | cons {v : V} {vs : List V} {d : PyData} {ds : List PyData} : Dq K H v d → DqAll K H vs ds → DqAll K H (v :: vs) (d :: ds)
end
theorem pen_dk {H : Hp} {p c a : Addr} {n : Nat} {ks : List (Key × Int)} (hp : Pen H p c n) (e : H a = some (dkI ks)) : a ≠ p := fun q => by
  obtain ⟨ns, sp, mo, e2, _⟩ := hp
  rw [q, e2] at e
  have e3 : penO c sp mo = dkI ks := Option.some.inj e
  cases ks with
  | nil => cases e3
  | cons k ks =>
    have e4 : [((.inr "cells" : Key), V.ref c), (.inr "spot", .int sp), (.inr "more", .int mo)] = ((k.1, V.int k.2) :: ks.map fun p => (p.1, V.int p.2)) := HO.dK.inj e3
    have e5 := (List.cons.inj e4).1
    cases (Prod.mk.inj e5).2
/-- what is read stays, dicts too -/
structure Sty (K : PySem.W.Frag) (H H' : Hp) : Prop extends Stay K H H' where
  d : ∀ a ks, H a = some (dkI ks) → H' a = some (dkI ks)
section
variable {K : PySem.W.Frag} {H H' H1 H2 : Hp} {p c : Addr} {n : Nat}
theorem Sty.of (s : Same H H') : Sty K H H' := ⟨Stay.of s, fun _ _ e => s _ _ e⟩
theorem But.sty (b : But p H H') (hp : Pen H p c n) : Sty K H H' := ⟨b.stay hp, fun a ks e => b a _ (pen_dk hp e) e⟩
theorem Sty.refl : Sty K H H := ⟨Stay.refl, fun _ _ h => h⟩
theorem Sty.trans (a : Sty K H H1) (b : Sty K H1 H2) : Sty K H H2 := ⟨a.toStay.trans b.toStay, fun x ks h => b.d x ks (a.d x ks h)⟩
mutual
theorem Sty.dq (s : Sty K H H') : ∀ {d : PyData} {v : V}, Dq K H v d → Dq K H' v d
  | .none, _, h => by
    cases h
    exact .non
  | .bool _, _, h => by
    cases h
    exact .bl _
  | .int _, _, h => by
    cases h
    exact .int _
  | .str _, _, h => by
    cases h
    exact .str _
  | .list ds, _, h => by
    cases h with
    | lst q a => exact .lst (s.l _ _ q) (s.dqAll a)
  | .tuple ds, _, h => by
    cases h with
    | tup q a => exact .tup (s.t _ _ q) (s.dqAll a)
  | .dict _, _, h => by
    cases h with
    | dk e k => exact .dk (s.d _ _ e) k
theorem Sty.dqAll (s : Sty K H H') : ∀ {ds : List PyData} {vs : List V}, DqAll K H vs ds → DqAll K H' vs ds
  | [], _, h => by
    cases h
    exact .nil
  | d :: ds, _, h => by
    cases h with
    | cons a b => exact .cons (s.dq a) (s.dqAll b)
end
mutual
theorem Dq.ofDp : ∀ {d : PyData} {v : V}, Dp K H v d → Dq K H v d
  | .none, _, h => by
    cases h
    exact .non
  | .bool _, _, h => by
    cases h
    exact .bl _
  | .int _, _, h => by
    cases h
    exact .int _
  | .str _, _, h => by
    cases h
    exact .str _
  | .list ds, _, h => by
    cases h with
    | lst q a => exact .lst q (DqAll.ofDp a)
  | .tuple ds, _, h => by
    cases h with
    | tup q a => exact .tup q (DqAll.ofDp a)
  | .dict _, _, h => by cases h
theorem DqAll.ofDp : ∀ {ds : List PyData} {vs : List V}, DpAll K H vs ds → DqAll K H vs ds
  | [], _, h => by
    cases h
    exact .nil
  | d :: ds, _, h => by
    cases h with
    | cons a b => exact .cons (Dq.ofDp a) (DqAll.ofDp b)
end
theorem DqAll.len : ∀ {vs : List V} {ds : List PyData}, DqAll K H vs ds → vs.length = ds.length
  | _, _, .nil => rfl
  | _, _, .cons _ b => congrArg (· + 1) b.len
theorem DqAll.get : ∀ {vs : List V} {ds : List PyData} {i : Nat} {v : V}, DqAll K H vs ds → vs[i]? = some v → ∃ d, ds[i]? = some d ∧ Dq K H v d
  | _, _, 0, _, .cons a _, e => ⟨_, rfl, by cases e; exact a⟩
  | _, _, i + 1, _, .cons _ b, e => b.get (i := i) e
theorem DqAll.at : ∀ {vs : List V} {ds : List PyData} {i : Nat} {d : PyData}, DqAll K H vs ds → ds[i]? = some d → ∃ v, vs[i]? = some v ∧ Dq K H v d
  | _, _, 0, _, .cons a _, e => ⟨_, rfl, by cases e; exact a⟩
  | _, _, i + 1, _, .cons _ b, e => b.at (i := i) e
theorem DqAll.set : ∀ {vs : List V} {ds : List PyData} {i : Nat} {v : V} {d : PyData}, DqAll K H vs ds → Dq K H v d → DqAll K H (vs.set i v) (ds.set i d)
  | _, _, _, _, _, .nil, _ => .nil
  | _, _, 0, _, _, .cons _ b, h => .cons h b
  | _, _, i + 1, _, _, .cons a b, h => .cons a (b.set (i := i) h)
theorem DqAll.app : ∀ {vs ws : List V} {ds es : List PyData}, DqAll K H vs ds → DqAll K H ws es → DqAll K H (vs ++ ws) (ds ++ es)
  | _, _, _, _, .nil, h => h
  | _, _, _, _, .cons a b, h => .cons a (b.app h)
theorem DqAll.of {α : Type} {f : α → V} {g : α → PyData} : ∀ {xs : List α}, (∀ x ∈ xs, Dq K H (f x) (g x)) → DqAll K H (xs.map f) (xs.map g)
  | [], _ => .nil
  | x :: xs, h => .cons (h x List.mem_cons_self) (DqAll.of fun y hy => h y (List.mem_cons_of_mem _ hy))
end
section
variable {X : Cx} {pins : List (Addr × Obj)} {σ : L2.St} {H : Hp} {s : Shared}
theorem not_mods {a : Addr} {o : Obj} {n : Array Value} {n2 : _} (M : Mods X.base) (I : Inv X pins σ H s) (e : s.heap.get? a = some o) (d : o.data = .seq n n2) : sysModules ≠ a := fun z => by
  obtain ⟨m, u, es, ep, hu, du, _⟩ := M
  have e2 := I.bk _ _ hu
  rw [z, e] at e2
  cases e2
  rw [d] at du
  cases du
mutual
theorem Dq.reads (M : Mods X.base) (I : Inv X pins σ H s) : ∀ (d : PyData) (v : V) (u : Value), Dq X.K H v d → RelV v u → ∃ as, Reads s.heap u d as ∧ sysModules ∉ as
  | .none, _, _, h, r => by
    cases h
    cases r
    exact ⟨_, Reads.none, List.not_mem_nil⟩
  | .bool b, _, _, h, r => by
    cases h
    cases r
    exact ⟨_, Reads.bool b, List.not_mem_nil⟩
  | .int i, _, _, h, r => by
    cases h
    obtain ⟨t, rfl⟩ := r
    exact ⟨_, Reads.int i t, List.not_mem_nil⟩
  | .str x, _, _, h, r => by
    cases h
    obtain ⟨t, rfl⟩ := r
    exact ⟨_, Reads.str x t, List.not_mem_nil⟩
  | .list ds, _, _, h, r => by
    cases h with
    | lst hs ha =>
      cases r
      obtain ⟨its, rv, ⟨o, n, ho, hc, _, hd⟩, _⟩ := I.list hs
      obtain ⟨as, hr, hn⟩ := Dq.readsAll M I ds _ its ha rv
      exact ⟨_, Reads.list ho hc hd hr, fun z => (List.mem_cons.mp z).elim (not_mods M I ho hd) hn⟩
  | .tuple ds, _, _, h, r => by
    cases h with
    | tup hs ha =>
      cases r
      obtain ⟨its, rv, ⟨o, ho, hc, n, hd⟩, _⟩ := I.tuple hs
      obtain ⟨as, hr, hn⟩ := Dq.readsAll M I ds _ its ha rv
      exact ⟨_, Reads.tuple ho hc hd hr, hn⟩
  | .dict kd, _, _, h, r => by
    cases h with
    | @dk a ks _ ea ek =>
      cases r
      subst ek
      obtain ⟨_, ns, vs, kv, o, es, ep, ho, hx, hd, _, hp, _⟩ := dk_of I.hok ea
      obtain ⟨r1, r2⟩ := reads_pairs (h := s.heap) kv hp
      have q1 : ReadsAll s.heap (es.toList.map (·.key)) ((ks.map fun p : Key × Int => (keyP p.1, PyData.int p.2)).map (·.1)) [] := by rw [List.map_map]; exact r1
      have q2 : ReadsAll s.heap (es.toList.map (·.val)) ((ks.map fun p : Key × Int => (keyP p.1, PyData.int p.2)).map (·.2)) [] := by rw [List.map_map]; exact r2
      refine ⟨_, Reads.dict ho hx.1 hd q1 q2, fun hm => ?_⟩
      have e := List.mem_singleton.mp (by simpa using hm)
      rw [← e] at ns
      exact absurd ns (by simp)
theorem Dq.readsAll (M : Mods X.base) (I : Inv X pins σ H s) : ∀ (ds : List PyData) (vs : List V) (us : List Value), DqAll X.K H vs ds → Vals vs us → ∃ as, ReadsAll s.heap us ds as ∧ sysModules ∉ as
  | [], _, _, h, r => by
    cases h
    cases r
    exact ⟨_, ReadsAll.nil, List.not_mem_nil⟩
  | d :: ds, _, _, h, r => by
    cases h with
    | cons h1 h2 =>
      cases r with
      | cons r1 r2 =>
        obtain ⟨as, q1, n1⟩ := Dq.reads M I d _ _ h1 r1
        obtain ⟨bs, q2, n2⟩ := Dq.readsAll M I ds _ _ h2 r2
        exact ⟨_, ReadsAll.cons q1 q2, fun z => (List.mem_append.mp z).elim n1 n2⟩
end
end
section
variable {X : Cx}
def rReprQ (K : PySem.W.Frag) : List V → Hp → VK → Prop := fun xs H Q => ∃ v d, xs = [v] ∧ Dq K H v d ∧ d.showable = true ∧ d.depth ≤ 60 ∧ d.shown.length ≤ sizeLine ∧ Q (.str d.shown) H
theorem cr_reprQ (M : Mods X.base) (hq : Qt X.A) (hu : X.A.units + 64 < cLine) : CallR X (.builtin "repr") (rReprQ X.K) := by
  intro pins s σ H xs us Q I r h
  obtain ⟨v, d, rfl, hd, sh, dp, sz, q⟩ := h
  obtain ⟨u, rfl, rx⟩ := vals1 r
  obtain ⟨as, rd, nm⟩ := Dq.reads M I d v u hd rx
  cases rd with
  | none => exact PySem.P.repr_of_none ⟨.str _, H, I.tok _, ⟨_, rfl⟩, q⟩
  | bool b => exact PySem.P.repr_of_bool ⟨.str _, H, I.tok _, ⟨_, rfl⟩, q⟩
  | int i t => exact PySem.P.repr_of_int (of_decide_eq_true sh) ⟨.str _, H, I.tok _, ⟨_, rfl⟩, q⟩
  | str x t => exact PySem.P.repr_of_str ⟨.str _, H, I.tok _, ⟨_, rfl⟩, q⟩ sz
  | list a b c e => exact repr_of_reads' (Reads.list a b c e) sh (fun _ => nm) hq (by omega) (fun _ _ z => z) (fun h' u tk k => ⟨.str _, H, I.kept k, ⟨_, rfl⟩, q⟩) sz
  | tuple a b c e => exact repr_of_reads' (Reads.tuple a b c e) sh (fun _ => nm) hq (by omega) (fun _ _ z => z) (fun h' u tk k => ⟨.str _, H, I.kept k, ⟨_, rfl⟩, q⟩) sz
  | dict a b c e f => exact repr_of_reads' (Reads.dict a b c e f) sh (fun _ => nm) hq (by omega) (fun _ _ z => z) (fun h' u tk k => ⟨.str _, H, I.kept k, ⟨_, rfl⟩, q⟩) sz
end
end Wf
/-! values of any kind: isinstance, is True, len, walks over what is a list or a tuple -/
namespace Wf
open PySem PySem.Spec PyProof.Rows L2
/-! ### the pure side -/
def tyN : PyData → String
  | .none => "NoneType"
  | .bool _ => "bool"
  | .int _ => "int"
  | .str _ => "str"
  | .list _ => "list"
  | .tuple _ => "tuple"
  | .dict _ => "dict"
def isStr : PyData → Bool
  | .str _ => true
  | _ => false
def isBool : PyData → Bool
  | .bool _ => true
  | _ => false
def isInt : PyData → Bool
  | .int _ | .bool _ => true
  | _ => false
def isNum : PyData → Bool
  | .int _ => true
  | _ => false
def isSeq : PyData → Bool
  | .list _ | .tuple _ => true
  | _ => false
def isMark : PyData → Bool
  | .none | .bool _ => true
  | _ => false
def its : PyData → List PyData
  | .list ds | .tuple ds => ds
  | _ => []
def isTarget (size : Int) : PyData → Bool
  | .none => true
  | .int i => decide (0 ≤ i) && decide (i < size)
  | _ => false
def isRow (w : Nat) (size : Int) (d : PyData) : Bool := isSeq d && ((its d).length == w) && (its d).all (isTarget size)
theorem isNum_eq (d : PyData) : isNum d = (isInt d && !isBool d) := by cases d <;> rfl
theorem kit_str : ∀ d : PyData, kitB (tyN d) "str" = some (isStr d)
  | .none => (by decide +kernel : kitB "NoneType" "str" = some false)
  | .bool _ => (by decide +kernel : kitB "bool" "str" = some false)
  | .int _ => (by decide +kernel : kitB "int" "str" = some false)
  | .str _ => (by decide +kernel : kitB "str" "str" = some true)
  | .list _ => (by decide +kernel : kitB "list" "str" = some false)
  | .tuple _ => (by decide +kernel : kitB "tuple" "str" = some false)
  | .dict _ => (by decide +kernel : kitB "dict" "str" = some false)
theorem kit_bool : ∀ d : PyData, kitB (tyN d) "bool" = some (isBool d)
  | .none => (by decide +kernel : kitB "NoneType" "bool" = some false)
  | .bool _ => (by decide +kernel : kitB "bool" "bool" = some true)
  | .int _ => (by decide +kernel : kitB "int" "bool" = some false)
  | .str _ => (by decide +kernel : kitB "str" "bool" = some false)
  | .list _ => (by decide +kernel : kitB "list" "bool" = some false)
  | .tuple _ => (by decide +kernel : kitB "tuple" "bool" = some false)
  | .dict _ => (by decide +kernel : kitB "dict" "bool" = some false)
theorem kit_int : ∀ d : PyData, kitB (tyN d) "int" = some (isInt d)
  | .none => (by decide +kernel : kitB "NoneType" "int" = some false)
  | .bool _ => (by decide +kernel : kitB "bool" "int" = some true)
  | .int _ => (by decide +kernel : kitB "int" "int" = some true)
  | .str _ => (by decide +kernel : kitB "str" "int" = some false)
  | .list _ => (by decide +kernel : kitB "list" "int" = some false)
  | .tuple _ => (by decide +kernel : kitB "tuple" "int" = some false)
  | .dict _ => (by decide +kernel : kitB "dict" "int" = some false)
theorem kit_list : ∀ d : PyData, kitB (tyN d) "list" = some (match d with | .list _ => true | _ => false)
  | .none => (by decide +kernel : kitB "NoneType" "list" = some false)
  | .bool _ => (by decide +kernel : kitB "bool" "list" = some false)
  | .int _ => (by decide +kernel : kitB "int" "list" = some false)
  | .str _ => (by decide +kernel : kitB "str" "list" = some false)
  | .list _ => (by decide +kernel : kitB "list" "list" = some true)
  | .tuple _ => (by decide +kernel : kitB "tuple" "list" = some false)
  | .dict _ => (by decide +kernel : kitB "dict" "list" = some false)
theorem kit_tuple : ∀ d : PyData, kitB (tyN d) "tuple" = some (match d with | .tuple _ => true | _ => false)
  | .none => (by decide +kernel : kitB "NoneType" "tuple" = some false)
  | .bool _ => (by decide +kernel : kitB "bool" "tuple" = some false)
  | .int _ => (by decide +kernel : kitB "int" "tuple" = some false)
  | .str _ => (by decide +kernel : kitB "str" "tuple" = some false)
  | .list _ => (by decide +kernel : kitB "list" "tuple" = some false)
  | .tuple _ => (by decide +kernel : kitB "tuple" "tuple" = some true)
  | .dict _ => (by decide +kernel : kitB "dict" "tuple" = some false)
section
variable {K : PySem.W.Frag} {H : Hp}
theorem Dq.ty {v : V} {d : PyData} (h : Dq K H v d) : TyX K H v (.type (tyN d)) := by
  cases h with
  | non => exact .base .non
  | bl b => exact .base (.bl b)
  | int i => exact .base (.int i)
  | str x => exact .base (.str x)
  | lst q _ =>
    rcases q with (e | ⟨o, e⟩) | ⟨o, its, n, e, c, _⟩
    · exact .base (.lst e)
    · exact .base (.frz e)
    · exact .kList e c
  | tup q _ =>
    rcases q with (e | ⟨o, e⟩) | ⟨o, its, n, e, c, _⟩
    · exact .base (.tup e)
    · exact .fTuple e
    · exact .kTuple e c
  | dk e _ => exact .base (.dK e)
/-- what is a list or a tuple, read -/
abbrev Sq (K : PySem.W.Frag) (H : Hp) (a : Addr) (xs : List V) : Prop := SqL K H a xs ∨ SqT K H a xs
theorem Dq.seq {v : V} {d : PyData} (h : Dq K H v d) (s : isSeq d = true) : ∃ a xs, v = .ref a ∧ Sq K H a xs ∧ DqAll K H xs (its d) := by
  cases h with
  | lst q a => exact ⟨_, _, rfl, .inl q, a⟩
  | tup q a => exact ⟨_, _, rfl, .inr q, a⟩
  | non => cases s
  | bl b => cases s
  | int i => cases s
  | str x => cases s
  | dk e _ => cases s
theorem Sq.lenV {a : Addr} {xs : List V} (h : Sq K H a xs) : LenV K (.ref a) H xs.length := h.elim (fun q => .inl ⟨xs, q, rfl⟩) fun q => .inr ⟨xs, q, rfl⟩
theorem Dq.lenV {v : V} {d : PyData} (h : Dq K H v d) (s : isSeq d = true) : LenV K v H (its d).length := by
  obtain ⟨a, xs, rfl, q, r⟩ := h.seq s
  rw [← r.len]
  exact q.lenV
theorem Stay.sq {H' : Hp} {a : Addr} {xs : List V} (s : Stay K H H') (h : Sq K H a xs) : Sq K H' a xs := h.imp (s.l _ _) (s.t _ _)
theorem Sq.ix {a : Addr} {xs : List V} {i : Int} {v : V} {Q : VK} (h : Sq K H a xs) (e : atI xs i = some v) (q : Q v H) : rIx K (.ref a) (.int i) H Q := by
  rcases h with h | h
  · exact .inl ⟨a, xs, i, v, rfl, rfl, h, e, q⟩
  · exact .inr (.inl ⟨a, xs, i, v, rfl, rfl, h, e, q⟩)
end
/-! ### isinstance -/
section
variable {X : Cx}
def rIsD (K : PySem.W.Frag) (T : String) (g : PyData → Bool) : List V → Hp → VK → Prop := fun xs H Q => ∃ v d, xs = [v, .ty T] ∧ Dq K H v d ∧ Q (.bl (g d)) H
theorem call_isD {T : String} {g : PyData → Bool} (hg : ∀ d, kitB (tyN d) T = some (g d)) : CallR X (.builtin "isinstance") (rIsD X.K T g) := by
  intro pins s σ H xs us Q I r h
  obtain ⟨v, d, rfl, hd, q⟩ := h
  exact call_isi pins s σ H _ us Q I r ⟨v, _, _, _, _, rfl, .ty T, hd.ty, kit_ty (hg d), q⟩
def rIsSeq (K : PySem.W.Frag) : List V → Hp → VK → Prop := fun xs H Q => ∃ v d tp, xs = [v, .ref tp] ∧ H tp = some (.tup [.ty "list", .ty "tuple"]) ∧ Dq K H v d ∧ Q (.bl (isSeq d)) H
theorem call_isSeq : CallR X (.builtin "isinstance") (rIsSeq X.K) := by
  intro pins s σ H xs us Q I r h
  obtain ⟨v, d, tp, rfl, e, hd, q⟩ := h
  refine call_isiT pins s σ H _ us Q I r ⟨v, tp, _, _, [.type "list", .type "tuple"], _, rfl, e, .cons (.ty _) (.cons (.ty _) .nil), hd.ty, kitAny_cons (r := isSeq d) (kit_ty (kit_list d)) (fun e1 => kitAny_cons (kit_ty (kit_tuple d)) (fun e2 => ?_) fun e2 => ?_) fun e1 => ?_, q⟩
  · cases d <;> first | rfl | exact absurd (show true = false from e2) (by decide) | exact absurd (show true = false from e1) (by decide)
  · cases d <;> first | rfl | exact absurd (show false = true from e2) (by decide)
  · cases d <;> first | rfl | exact absurd (show false = true from e1) (by decide)
/-- x is True, x is False -/
def rIsQ (K : PySem.W.Frag) : R2 := fun x y H Q => ∃ b d, y = .bl b ∧ Dq K H x d ∧ Q (.bl (decide (x = .bl b))) H
theorem op_isQ : OpR X (compareOp .Is) (rIsQ X.K) := by
  intro pins s σ H x y v u Q I rx ry h
  obtain ⟨b, d, rfl, hd, q⟩ := h
  cases (show u = Value.bool b from ry)
  cases hd with
  | non =>
    cases (show v = Value.none from rx)
    exact wpAny_pure ⟨.bl _, H, I, rfl, q⟩
  | bl a =>
    cases (show v = Value.bool a from rx)
    by_cases e : a = b
    · subst e
      exact wpAny_is_self rfl ⟨.bl true, H, I, rfl, by simpa using q⟩
    · exact wpAny_is_other rfl (fun z => e (Value.bool.inj z)) ⟨.bl false, H, I, rfl, by simpa [e] using q⟩
  | int i =>
    obtain ⟨t, rfl⟩ := rx
    exact wpAny_pure ⟨.bl _, H, I, rfl, q⟩
  | str z =>
    obtain ⟨t, rfl⟩ := rx
    exact wpAny_pure ⟨.bl _, H, I, rfl, q⟩
  | lst _ _ =>
    cases rx
    exact wpAny_pure ⟨.bl _, H, I, rfl, q⟩
  | tup _ _ =>
    cases rx
    exact wpAny_pure ⟨.bl _, H, I, rfl, q⟩
  | dk _ _ =>
    cases rx
    exact wpAny_pure ⟨.bl _, H, I, rfl, q⟩
end
/-! ### calls within a comprehension: readings by name -/
section
variable {X : Cx}
def rTupleOf (K : PySem.W.Frag) : List V → Hp → VK → Prop := fun xs H Q => ∃ p ys, xs = [V.ref p] ∧ ((SqL K H p ys ∧ ∀ l, H l = none → Q (.ref l) (upd H l (.tup ys))) ∨ (SqT K H p ys ∧ Q (.ref p) H))
theorem cr_tupleOf : CallR X (.type "tuple") (rTupleOf X.K) := call_tuple_of
def rListOf (K : PySem.W.Frag) : List V → Hp → VK → Prop := fun xs H Q => ∃ p ys, xs = [V.ref p] ∧ (SqL K H p ys ∨ SqT K H p ys) ∧ ∀ l, H l = none → Q (.ref l) (upd H l (.lst ys))
theorem cr_listOf : CallR X (.type "list") (rListOf X.K) := call_list_of
def rLenOf (K : PySem.W.Frag) : List V → Hp → VK → Prop := fun xs H Q => ∃ x n, xs = [x] ∧ LenV K x H n ∧ Q (.int n) H
theorem cr_lenOf : CallR X (.builtin "len") (rLenOf X.K) := call_len
end
/-! ### walks -/
section
variable {X : Cx} {tg : Expr}
def iSeq (K : PySem.W.Frag) (tl : TE) : TI := fun σ H R => iList K tl σ H R ∨ iTup K tl σ H R
theorem pi_seq {l : Expr} {tl : TE} (hl : PE X l tl) : PI X tg l (iSeq X.K tl) :=
  ⟨fun pins s σ H R I h => h.elim ((pi_list hl).run pins s σ H R I) ((pi_tup hl).run pins s σ H R I)⟩
end
/-- a name that holds a list or a tuple, walked: by any walk that gives its items -/
theorem seq_walk {K : PySem.W.Frag} {σ : L2.St} {H : Hp} {a : Addr} {n : Nat} {xs : List V} {R : It → Hp → Prop} (e : σ[n]? = some (some (.ref a))) (h : Sq K H a xs) (k : ∀ (J : It) (G : Hp → Prop), Walk J xs.length G (YAt xs) → (∀ H', Stay K H H' → G H') → R J H) : iSeq K (tVar n) σ H R := by
  rcases h with h | h
  · exact .inl ⟨_, e, a, rfl, ⟨xs, h⟩, k _ _ walk_list fun H' s => s.l _ _ h⟩
  · exact .inr ⟨_, e, a, rfl, ⟨xs, h⟩, k _ _ walk_tup fun H' s => s.t _ _ h⟩
theorem SqT.off {K : PySem.W.Frag} {H : Hp} {u D : Addr} {zs xs : List V} {o : HO} (h : SqT K H u zs) (e : H D = some (.lst xs)) : SqT K (upd H D o) u zs := by
  rcases h with (h | ⟨q, h⟩) | h
  · exact .inl (.inl ((upd_ne fun z => by
      rw [z, e] at h
      cases h).trans h))
  · exact .inl (.inr ⟨q, (upd_ne fun z => by
      rw [z, e] at h
      cases h).trans h⟩)
  · exact .inr h
theorem SqL.off {K : PySem.W.Frag} {H : Hp} {u D : Addr} {zs : List V} {o : HO} (h : SqL K H u zs) (ne : u ≠ D) : SqL K (upd H D o) u zs := by
  rcases h with (h | ⟨q, h⟩) | h
  · exact .inl (.inl ((upd_ne ne).trans h))
  · exact .inl (.inr ⟨q, (upd_ne ne).trans h⟩)
  · exact .inr h
theorem small1000000 {n : Nat} (h : n < 1000000) : n < sizeLine := Nat.lt_trans h (by decide)
end Wf
/-! errors of one's own raised and caught -/
namespace Wf
open PySem PySem.Spec PyProof.Rows L2
/-- what is there in the first is there in the second -/
def There (H H' : Hp) : Prop := ∀ b, H' b = none → H b = none
theorem There.of {H H' : Hp} (s : Same H H') : There H H' := fun b n => by
  cases e : H b with
  | none => rfl
  | some o =>
    rw [s b o e] at n
    cases n
theorem There.but {p : Addr} {H H' : Hp} (s : But p H H') (e : H' p ≠ none) : There H H' := fun b n => by
  cases q : H b with
  | none => rfl
  | some o =>
    rcases Decidable.em (b = p) with rfl | nb
    · exact absurd n e
    · rw [s b o nb q] at n
      cases n
theorem There.trans {H H1 H2 : Hp} (a : There H H1) (b : There H1 H2) : There H H2 := fun x n => a x (b x n)
/-- a class of errors without a field, by its name -/
structure E0 (K : PySem.W.Frag) (mg : Str → Option Value) (x : Str) (C : Addr) : Prop where
  vn : Vn0 K mg x C
  ty : PySem.W.typeIn K (.ref C) = some (.type "type")
/-- a class of errors with one field, by its name -/
structure E1 (P : Program) (w : World) (K : PySem.W.Frag) (mg : Str → Option Value) (base : Heap) (x : Str) (C : Addr) (f : Str) : Prop where
  vn : Vn P w K mg base x C f
  ty : PySem.W.typeIn K (.ref C) = some (.type "type")
section
variable {X : Cx} {x : Str} {C : Addr} {f : Str} {W : WX} {e : Expr} {te : TE} {p pos pos' : Pos}
/-- raise C() -/
def tR0 (X : Cx) (C : Addr) (W : WX) : TS := fun _ σ H => There X.H_0 H ∧ ∀ H', Same H H' → W (.ref C) none σ H'
theorem ps_r0 (N : E0 X.K X.mg x C) (hx : X.ex = []) (hc : X.calm = true) (tk : Takes X W) (hg : Gl X x := by rfl) (hdb : (x == ("__debug__" : Str)) = false := by decide) : PS X (.Raise (some (.Call (.Name x p) [] [] pos)) none pos') (tR0 X C W) := by
  have mk : PMk X (.Call (.Name x p) [] [] pos) (fun σ H Q => There X.H_0 H ∧ ∀ H', Same H H' → Q (.ref C) none H') := by
    intro pins s σ H Q I h
    refine pmk_ret hx (pe_v0 N.vn hg hdb) pins s σ H Q I ?_
    refine fun a ha => ⟨a, .ref C, rfl, upd_same, fr0_none (h.1 a ha), raises_own N.vn.is.hs N.ty, ?_⟩
    refine h.2 _ fun b o q => ?_
    rw [delH_ne (ne_of_none q ha), upd_ne (ne_of_none q ha)]
    exact q
  exact ps_raise hc tk mk
/-- raise C(e) -/
def tR1 (X : Cx) (C : Addr) (f : Str) (W : WX) (te : TE) : TS := fun _ σ H => te σ H fun y H1 => There X.H_0 H1 ∧ ∀ d H', Same H1 H' → H1 d = none → H' d = some (.xd [(f, y)]) → W (.ref C) (some d) σ H'
theorem pmk_r1 (N : E1 X.prog X.w X.K X.mg X.base x C f) (hr : Room 2 X.A) (he : PE X e te) (hx : X.ex = []) (hg : Gl X x := by rfl) (hs : starEach [e] X.env = (false, eval e X.env) :: starEach [] X.env := by rfl) (hdb : (x == ("__debug__" : Str)) = false := by decide) :
    PMk X (.Call (.Name x p) [e] [] pos) (fun σ H Q => te σ H fun y H1 => There X.H_0 H1 ∧ ∀ d H', Same H1 H' → H1 d = none → H' d = some (.xd [(f, y)]) → Q (.ref C) (some d) H') := by
  intro pins s σ H Q I h
  have big : wpAny (model X.prog X.w) X.A (eval (.Call (.Name x p) [e] [] pos) X.env) (EP X pins σ fun v H2 => ∃ (a d : Addr) (y : V) (H1 : Hp), v = .ref a ∧ There X.H_0 H1 ∧ (∀ d H', Same H1 H' → H1 d = none → H' d = some (.xd [(f, y)]) → Q (.ref C) (some d) H') ∧ Same H1 H2 ∧ H1 a = none ∧ H1 d = none ∧ H2 a = some (exo a C (some d)) ∧ H2 d = some (exd d [(f, y)])) X.xe s := by
    obtain ⟨fI, fd, iC, tI, F1, hb, _⟩ := N.vn.init
    refine wpAny_Call_Name_kw (ld_glob I hg N.vn.gC ?_ hdb)
    refine PySem.W.callWith_K (h₀ := X.base) I.ok.mod.kin N.vn.cls.kC ?_ hs (by rfl)
    rw [hs]
    change wpAny _ _ (spliced (_ :: backTo pos (starEach [] X.env))) _ _ _
    exact Calls.spliced_cons (thn (he.run pins s σ H _ I h) fun u _ ⟨y, H1, J, ry, t, k⟩ => Calls.spliced_nil ⟨J.kIn, ve_callN N.vn.cls iC tI F1 hr (taker_of N.vn.no) (fun t v _ => hb t v u) (by show 1 ≤ 1000; omega) J ry fun a d H' s' na nd e1 e2 => ⟨a, d, y, H1, rfl, t, k, s', na, nd, e1, e2⟩⟩)
  refine wpAny_mono big (fun u s1 hu => ?_) fun _ _ z => z
  · obtain ⟨v, H2, J, rv, a, d, y, H1, rfl, t, k, s2, na, nd, ea, ed⟩ := hu
    cases rv
    obtain ⟨t1, ho⟩ := exo_at J.hok ea
    have ne : d ≠ a := fun z => by
      obtain ⟨_, ⟨_, _, _, e1, e2, _⟩, _⟩ := exd_at J.hok ed
      rw [z] at e1
      cases ho.symm.trans e1
      cases e2
    obtain ⟨G, gs, ga, J2⟩ := J.untrack ea (fun o z => by rw [t a na] at z; cases z) hx
    have ed2 : delH H2 a d = some (exd d [(f, y)]) := (delH_ne ne).trans ed
    obtain ⟨mA, dict, rel⟩ := exd_at J2.hok ed2
    have J3 := relabel (u := .xd [(f, y)]) J2 ed2 ⟨mA, dict, rel⟩
    refine ⟨a, _, _, { s1 with heap := G }, _, .ref C, some d, rfl, J3, gs, ga, ho, ⟨rfl, rfl⟩, rfl, rfl, (upd_ne ne.symm).trans delH_same, rfl, J.bare, raises_own N.vn.cls.is.hs N.ty, ?_⟩
    refine k d _ (fun b o z => ?_) nd upd_same
    rw [upd_ne (ne_of_none z nd), delH_ne (ne_of_none z na)]
    exact s2 _ _ z
theorem ps_r1 (N : E1 X.prog X.w X.K X.mg X.base x C f) (hr : Room 2 X.A) (he : PE X e te) (hx : X.ex = []) (hc : X.calm = true) (tk : Takes X W) (hg : Gl X x := by rfl) (hs : starEach [e] X.env = (false, eval e X.env) :: starEach [] X.env := by rfl) (hdb : (x == ("__debug__" : Str)) = false := by decide) :
    PS X (.Raise (some (.Call (.Name x p) [e] [] pos)) none pos') (tR1 X C f W te) := ps_raise hc tk (pmk_r1 N hr he hx hg hs hdb)
end
/-! ### C(..), C a class of one's own whose __init__ may raise, within a try -/
section
variable {X : Cx} {CX : CXT} {k : Nat} {f C : Addr} {fd : FuncData} {ps : List Str} {sp : Sp} {E : L2.St → XK} {x : Str} {p pos : Pos} {e : Expr} {es : List Expr} {t : TA}
def tMakeS (C : Addr) (sp : Sp) (E : L2.St → XK) (t : TA) : TE := fun σ H Q => t σ H fun vs H1 => ∀ x dx, H1 x = none → H1 dx = none → dx ≠ x → sp (.ref x :: vs) (upd (upd H1 dx (.own x)) x (.ins C dx [])) (fun v H2 => v = .non ∧ Q (.ref x) H2) (E σ)
/-- the call that type's call leads to: the new object, then its __init__ -/
theorem made_then {pins : List (Addr × Obj)} {σ : L2.St} {H : Hp} {s : Shared} {Q : VK} {us : List Value} {vs : List V} {E : XK} (M : Mk X.K C f) (F : FnOk X.prog X.w X.K X.mg X.base CX k f fd ps sp) (hr : Room (k + 1) X.A) (hb : Binds X.K fd ps []) (hx : PassesAt CX X σ E)
    (I : Inv X pins σ H s) (rel : Vals vs us) (want : ∀ x dx, H x = none → H dx = none → dx ≠ x → sp (.ref x :: vs) (upd (upd H dx (.own x)) x (.ins C dx [])) (fun v H2 => v = .non ∧ Q (.ref x) H2) E) : wpAny (model X.prog X.w) X.A (call (.ref C) us) (EP X pins σ Q) X.xe s := by
  let dict := s.heap.objs.size
  let self := dict + 1
  have apart : dict ≠ self := Nat.ne_of_lt (Nat.lt_succ_self _)
  have asked := want self dict (I.hok.fresh (Nat.le_succ dict)) (I.hok.fresh (Nat.le_refl dict)) apart
  have J := Inv.made (C := C) I
  have all : Vals (V.ref self :: vs) (Value.ref self :: us) := .cons rfl rel
  have many := F.len _ _ _ _ asked
  have bound := hb _ (Value.ref self :: us) J.kIn (by rw [List.append_nil, ← all.length]; exact many)
  rw [List.append_nil] at bound
  have run := F.run _ X.stack _ _ ⟨Value.ref self :: us, []⟩ _ _ _ E (hr.make C us []) (J.env0.make C us []) bound all asked
  refine wpAny_call (make_map (f := f) I.kIn M.makes M.init (beq_iff_eq.mp M.fn) (codeAny_mono run fun r s2 out => ?_))
  match r, out with
  | .error e, out => exact hx pins _ _ e s2 J out
  | .ok (.ret _), out =>
    obtain ⟨_, H3, J3, rv, rfl, q⟩ := J.after out
    exact ⟨rv, V.ref self, H3, J3, rfl, q⟩
  | .ok .next, out => exact out.elim
  | .ok .brk, out => exact out.elim
  | .ok .cont, out => exact out.elim
theorem pe_makeS (M : Mk X.K C f) (F : FnOk X.prog X.w X.K X.mg X.base CX k f fd ps sp) (hr : Room (k + 1) X.A) (hg : Gl X x) (hm : X.mg x = some (.ref C)) (hb : Binds X.K fd ps []) (hx : ∀ σ, PassesAt CX X σ (E σ))
    (ha : PA X (e :: es) t) (hdb : (x == ("__debug__" : Str)) = false := by decide) (he : starEach (e :: es) X.env = (false, eval e X.env) :: starEach es X.env := by rfl) (hpl : (backTo pos (starEach es X.env)).any (·.1) = false := by rfl) :
    PE X (.Call (.Name x p) (e :: es) [] pos) (tMakeS C sp E t) := .mk fun pins s σ H Q I h =>
  wpAny_Call_Name_kw (ld_glob I hg hm (PySem.W.callWith_K (h₀ := X.base) I.ok.mod.kin M.kp (thn (ha.run pos pins s σ H _ I h) fun _ _ ⟨_, _, J, rel, want⟩ => ⟨J.kIn, made_then M F hr hb (hx σ) J rel want⟩) he hpl) hdb)
end
/-! ### within an except suite: isinstance(e, T), e.f -/
/-- e's own dict, if it has one, is there -/
def DOk (H : Hp) (d : Option Addr) : Prop := d = none ∨ ∃ dd fs, d = some dd ∧ H dd = some (.xd fs)
def rIsF (K : PySem.W.Frag) (a : Addr) (cls : Value) (d : Option Addr) : List V → Hp → VK → Prop := fun xs H Q => ∃ (D : Addr) (T : String) (b : Bool), xs = [.ref a, .ty T] ∧ cls = .ref D ∧ ExcC K D ∧ PySem.W.kitOne K (.ref D) (.type T) = some b ∧ DOk H d ∧ Q (.bl b) H
/-- the caught object as an instance, with the dict that it may have -/
theorem caught_at {X : Cx} {pins : List (Addr × Obj)} {σ : L2.St} {H : Hp} {s : Shared} {a D : Addr} {oe : Obj} {d : Option Addr} {pn : List (Addr × Obj)} (hz : Zc (.ref D) d oe) (hf : ∃ vs, oe.data = .fields vs) (I : Inv (X.suite a ((a, oe) :: pn)) pins σ H s) :
    (d = none → PySem.W.InstAt s.heap a oe D none) ∧ ∀ dd fs, d = some dd → H dd = some (.xd fs) → ∃ (od : Obj) (m : Str → Option Value), PySem.W.InstAt s.heap a oe D (some od) ∧ (∀ n, RelO (fs.lookup n) (m n)) ∧ ∀ n, PySem.W.lookIn n od = some (m n) := by
  obtain ⟨isC, isD⟩ := hz
  obtain ⟨there, _⟩ := I.pin (a, oe) (List.mem_append.mpr (.inl List.mem_cons_self))
  have plain : PySem.W.notCls oe = true := by
    obtain ⟨vs, hv⟩ := hf
    unfold PySem.W.notCls
    rw [hv] <;> rfl
  refine ⟨fun e => ⟨there, isC, plain, by rw [isD, e]; trivial⟩, fun dd fs e at' => ?_⟩
  obtain ⟨m, ns, rel⟩ := (show ObjOk X.prog X.w H s.heap dd (.xd fs) from I.hok dd _ at')
  obtain ⟨od, hod, look⟩ := lookIn_ns ns
  exact ⟨od, m, ⟨there, isC, plain, by rw [isD, e]; exact hod⟩, rel, look⟩
theorem call_isF {X : Cx} {a : Addr} {oe : Obj} {cls : Value} {d : Option Addr} {pn : List (Addr × Obj)} (hz : Zc cls d oe) (hf : ∃ vs, oe.data = .fields vs) : CallR (X.suite a ((a, oe) :: pn)) (.builtin "isinstance") (rIsF X.K a cls d) := by
  intro pins s σ H xs us Q I r h
  obtain ⟨D, T, b, rfl, rfl, C, e, hd, q⟩ := h
  obtain ⟨_, _, rfl, r1, r2⟩ := vals2 r
  cases r1
  cases r2
  obtain ⟨at0, at1⟩ := caught_at hz hf I
  rcases hd with e0 | ⟨dd, fs, e0, ed⟩
  · exact PySem.W.kia_one (PySem.W.kitx_exc (ex_isSome C.hd) C.hg C.hk C.hs C.ha C.hn C.ht C.hm) I.kIn (at0 e0) e (fun z => nomatch z) fun tk => ⟨.bl b, H, I.tok tk, rfl, q⟩
  · obtain ⟨od, _, J, _⟩ := at1 dd fs e0 ed
    exact PySem.W.kia_one (PySem.W.kitx_exc (ex_isSome C.hd) C.hg C.hk C.hs C.ha C.hn C.ht C.hm) I.kIn J e (fun z => nomatch z) fun tk => ⟨.bl b, H, I.tok tk, rfl, q⟩
def tXg (K : PySem.W.Frag) (a : Addr) (cls : Value) (d : Option Addr) (f : Str) (te : TE) : TE := fun σ H Q => te σ H fun x H1 => x = .ref a ∧ ∃ (C dd : Addr) (fs : List (Str × V)) (v : V), cls = .ref C ∧ ExcC K C ∧ PySem.W.findIn K (.ref C) f = some none ∧ d = some dd ∧ H1 dd = some (.xd fs) ∧ fs.lookup f = some v ∧ Q v H1
theorem pe_xg {X : Cx} {a : Addr} {oe : Obj} {cls : Value} {d : Option Addr} {pn : List (Addr × Obj)} {e : Expr} {te : TE} {pos : Pos} {n : Str}
    (hz : Zc cls d oe) (hf : ∃ vs, oe.data = .fields vs) (he : PE (X.suite a ((a, oe) :: pn)) e te) (hb : attributeBase e n X.env (eval e X.env) = eval e X.env := by rfl) :
    PE (X.suite a ((a, oe) :: pn)) (.Attribute e n pos) (tXg X.K a cls d n te) := .mk fun pins s σ H Q I h => attr_of hb (thn (he.run pins s σ H _ I h) fun _ s1 ⟨_, H1, I1, rx, ex, C, dd, fs, v, ec, T, hno, ed, ea, l, q⟩ => by
  cases ex
  cases rx
  cases ec
  obtain ⟨od, m, J, rel, look⟩ := (caught_at hz hf I1).2 dd fs ed ea
  have rn := rel n
  rw [l] at rn
  obtain ⟨u, hu, ru⟩ := RelO.some_of (v := v) (o := m n) rn
  exact HandSPX.exc_get I1.kIn J T.hg T.hk T.hs (PySem.W.findObj_own T.hd hno rfl (by rw [look, hu])) (handed_of ru) ⟨v, H1, I1.tok _, ru, q⟩)
end Wf
/-! enumerate over what is a list or a tuple -/
namespace Wf
open PySem PySem.Spec PyProof.Rows L2
open PySem.Sem (wp)
/-- what enumerate(v) leaves: v's iterator, then the enumeration itself -/
abbrev enumO (it : Addr) : Obj := { cls := .type "enumerate", data := .fields #[.none, .bool false, .ref it, rawInt 0, .none, .none] }
theorem meets_enum1 {v : Value} {o : Obj} {H : Heap → Prop} (B : Begins v o H) : Meets (Builtin.«enumerate.__new__» ⟨[.type "enumerate", v], []⟩) fun _ R s => H s.heap ∧
    R (.ok (.ret (.ref (s.heap.push o).objs.size))) { s with heap := (s.heap.push o).push (enumO s.heap.objs.size) } := by
  refine .of_wp fun prog w A R s given => ?_
  obtain ⟨hp, g, d, tk, os⟩ := s
  obtain ⟨first, last⟩ := given
  have iter : ∀ {A2 : Around} {E : Value → Shared → Prop} {Q : Value → Shared → Prop}, Q (.ref hp.objs.size) ⟨hp.push o, g, d, tk, os⟩ → wpAny (model prog w) A2 (pyIter v) Q E ⟨hp, g, d, tk, os⟩ := B.iter prog w _ _ ⟨hp, g, d, tk, os⟩ _ first
  have own := sub_enumerate
  wp_walk using iter
  refine wpAny_stack_any fun around => wpAny_pure ?_
  split <;> first
    | (rename_i c _ _ _ _ _
       cases (c == Value.type "enumerate") <;> (wp_walk using iter; exact ⟨_, rfl, last⟩))
    | (wp_walk using iter; exact ⟨_, rfl, last⟩)
theorem call_enum1 {prog : Program} {w : World} {A : Around} {E : Value → Shared → Prop} {s : Shared} {v : Value} {o : Obj} {H : Heap → Prop} {Q : Value → Shared → Prop} (B : Begins v o H) (first : H s.heap)
    (last : ∀ h2, IsEnum h2 (s.heap.objs.size + 1) s.heap.objs.size 0 .none → h2.get? s.heap.objs.size = some o → (∀ b u, s.heap.get? b = some u → h2.get? b = some u) → Q (.ref (s.heap.objs.size + 1)) { s with heap := h2 }) :
    wpAny (model prog w) A (call (.type "enumerate") [v]) Q E s := by
  have size1 : (s.heap.push o).objs.size = s.heap.objs.size + 1 := Heap.size_push ..
  have made : IsEnum ((s.heap.push o).push (enumO s.heap.objs.size)) (s.heap.objs.size + 1) s.heap.objs.size 0 .none := by
    rw [← size1]
    exact Heap.get?_push_size _ rfl
  have post := last _ made (Heap.get?_push_of_some _ (Heap.get?_push_size _ B.free)) fun b u z => Heap.get?_push_of_some _ (Heap.get?_push_of_some _ z)
  refine callType_new F.called_enumerate (by decide) (F.typeCall_enumerate_1 _) (F.newCall_enumerate_1 _) (fun obj => F.args_object_init_2 obj _) F.entry_enumerate_new (meets_enum1 B) ⟨first, ?_⟩
  show _ ∧ _
  rw [size1]
  exact ⟨⟨_, made, rfl⟩, post⟩
/-- the tuple at a as it stands at each turn, each item in a new pair -/
def IteT (K : PySem.W.Frag) (a : Addr) : It where
  go i H := ∃ (xs : List V) (x : V), SqT K H a xs ∧ xs[i]? = some x
  yld i H v H' := ∃ T x, v = .ref T ∧ H T = none ∧ H' = upd H T (.tup [.int (i : Nat), x]) ∧ ∀ xs, SqT K H a xs → xs[i]? = some x
  stop i H := ∃ xs : List V, SqT K H a xs ∧ xs.length ≤ i
/-- an enumeration at e of the tuple at a, by its iterator at t, i items being taken -/
structure EnT (a e t : Addr) (i : Nat) (h : Heap) : Prop where
  en : ∃ old, IsEnum h e t ((i : Nat) : Int) old
  ti : h.IsTupleIter t a i
  et : e ≠ t
  ea : e ≠ a
theorem EnT.pair {e t b : Addr} (h : b ∈ [e, t]) : b = e ∨ b = t := by simpa using h
section
variable {X : Cx} {pins : List (Addr × Obj)} {s : Shared} {σ : L2.St} {H : Hp} {E : Value → Shared → Prop} {a e t : Addr} {i : Nat} {elts : List Expr} {kk : Nat} {tpos : Pos}
theorem EnT.next (ta : a ≠ t) (calm : X.calm = true) (I : Inv X pins σ H s) (fp : ∀ b ∈ [e, t], FpOk X pins H b) (st : EnT a e t i s.heap) {xs : List V} {x : V} (hq : SqT X.K H a xs) (hx : xs[i]? = some x) :
    wpAny (model X.prog X.w) X.A (pyNext (.ref e)) (fun r s1 => ∃ u, r = some u ∧ wpAny (model X.prog X.w) X.A (letOwnedTupleGo (.Tuple elts kk tpos) (.ref e) u) (fun _ s2 => ∃ y H', Inv X pins σ H' s2 ∧ RelV y u ∧ (IteT X.K a).yld i H y H' ∧ EnT a e t (i + 1) s2.heap ∧ ∀ b ∈ [e, t], H' b = none) E s1) E s := by
  obtain ⟨old, en⟩ := st.en
  obtain ⟨vals, rel, isT, _⟩ := I.tuple hq
  obtain ⟨u, hu, ru⟩ := rel.get hx
  let T := s.heap.objs.size
  have le : e < T := Heap.lt_size en
  have lt : t < T := let ⟨_, z, _⟩ := st.ti; Heap.lt_size z
  have inside : i < vals.toArray.size := by
    rw [List.size_toArray]
    exact (List.getElem?_eq_some_iff.mp hu).1
  refine wpAny_pyNext_enum_itemD (Draws.tuple (A := X.A.in1) (I.ok.hd calm) t a ta vals.toArray) en ⟨st.ti, isT⟩ inside st.et (by simp [st.et, st.ea]) fun w h1 tk hw out iter hT _ kept => ?_
  obtain rfl : u = w := Option.some.inj ((show vals.toArray[i]? = some u by simpa using hu).symm.trans hw)
  refine ⟨_, rfl, wpAny_letOwnedTupleGo_enum (s := { s with heap := h1, toks := tk + 1 }) out fun h2 en2 sb => ?_⟩
  have atT : h2.get? T = some { cls := .type "tuple", data := .seq #[.int i tk, u] } := (sb.2 T (Nat.ne_of_gt le)).trans hT
  have okT : ObjOk X.prog X.w (upd H T (.tup [.int (i : Nat), x])) h2 T (.tup [.int (i : Nat), x]) := ⟨by show 2 ≤ sizeLine; decide, [.int i tk, u], .cons ⟨_, rfl⟩ (.cons ru .nil), ⟨_, atT, rfl, _, rfl⟩⟩
  have old2 : ∀ b ob, b ∉ [e, t] → s.heap.get? b = some ob → h2.get? b = some ob := fun b ob nb z => by
    have ne : b ≠ e := fun q => nb (q ▸ List.mem_cons_self)
    have nt : b ≠ t := fun q => nb (q ▸ List.mem_cons_of_mem _ List.mem_cons_self)
    exact (sb.2 b ne).trans (kept b ob ne nt z)
  refine ⟨.ref T, _, I.turnedNew (ch := [e, t]) old2 fp (Nat.le_refl T) okT, rfl, ⟨T, x, rfl, I.hok.fresh (Nat.le_refl T), rfl, fun ys hy => by rw [I.tuple_inj hy hq]; exact hx⟩, ⟨⟨u, ?_⟩, iter.1.at fun ob z => (sb.2 t st.et.symm).trans z, st.et, st.ea⟩, fun b hb => ?_⟩
  · rw [show ((i + 1 : Nat) : Int) = (i : Int) + 1 by omega]
    exact en2
  · have lb : b < T := by
      rcases EnT.pair hb with rfl | rfl
      · exact le
      · exact lt
    rw [upd_ne (Nat.ne_of_lt lb)]
    exact (fp b hb).1
theorem EnT.over (calm : X.calm = true) (I : Inv X pins σ H s) (fp : ∀ b ∈ [e, t], FpOk X pins H b) (st : EnT a e t i s.heap) {xs : List V} (hq : SqT X.K H a xs) (hl : xs.length ≤ i) : wpAny (model X.prog X.w) X.A (pyNext (.ref e)) (fun r s1 => r = none ∧ Inv X pins σ H s1) E s := by
  obtain ⟨old, en⟩ := st.en
  obtain ⟨vals, rel, isT, _⟩ := I.tuple hq
  obtain ⟨c0, c1, c2, c3, c4, c5⟩ := fp t (by simp)
  have many := rel.length
  have outside : vals.toArray[i]? = none := by
    rw [Array.getElem?_eq_none_iff, List.size_toArray]
    omega
  have isE : s.TypeIs (.ref e) "enumerate" := ⟨_, en, rfl⟩
  unfold pyNext
  refine wpAny_bind (wpAny_attempt (wpAny_callSpecial?_slot (name := Str.ofString "__next__") isE F.slot_enumerate_next (wpAny_call_entry F.slot_enumerate_next isE F.entry_enumerate_next ?_ (F.args_enumerate_next_1 _))))
  change wpAny _ _ (field (Value.ref e) 2 >>= _) _ _ s
  refine wpAny_bind (wpAny_field (x := .ref t) en rfl rfl (wpAny_bind (wpAny_nextOf_tuple_end (A := X.A.in1) (I.ok.hd calm) st.ti (show s.heap.IsTuple a vals.toArray from isT) outside fun h1 x grown stop => ?_)))
  obtain ⟨ob, atx, isStop⟩ := stop
  exact wpAny_bind (wpAny_isInstance (T := "StopIteration") (b := true) ⟨ob, atx, isStop⟩ isSubtype_stop (wpAny_pure ⟨rfl, I.turned (t' := s.toks) (fun b u hb z => grown b u hb z) c0 c1 c3 c4 c5⟩))
end
theorem turn_enumT {P : Program} {w : World} {K : PySem.W.Frag} {elts : List Expr} {kk : Nat} {tpos : Pos} (a e t : Addr) (ta : a ≠ t) : Turn P w K (.Tuple elts kk tpos) (IteT K a) [e, t] e (EnT a e t) where
  mem := List.mem_cons_self
  obj i h st b hb := by
    obtain ⟨old, en⟩ := st.en
    obtain ⟨ob, at', _, dt⟩ := st.ti
    rcases EnT.pair hb with rfl | rfl
    · exact ⟨_, en, nofun⟩
    · refine ⟨ob, at', fun v z => ?_⟩
      rw [dt] at z
      cases z
  keep i h h2 st kept := ⟨st.en.imp fun _ z => kept e List.mem_cons_self _ z, st.ti.at fun ob z => kept t (List.mem_cons_of_mem _ List.mem_cons_self) ob z, st.et, st.ea⟩
  item X hP hw hK calm i pins s σ H E I fp st go := by
    subst hP hw hK
    obtain ⟨xs, x, hq, hx⟩ := go
    exact EnT.next ta calm I fp st hq hx
  done X hP hw hK calm i pins s σ H E I fp st stop := by
    subst hP hw hK
    obtain ⟨xs, hq, hl⟩ := stop
    exact EnT.over calm I fp st hq hl
  self A i s Q E st z := let ⟨_, en⟩ := st.en; wpAny_pyIter_enum en z
def iEnT (K : PySem.W.Frag) (ta : TA) : TI := fun σ H R => ta σ H fun vs H1 => ∃ a, vs = [.ref a] ∧ (∃ xs, SqT K H1 a xs) ∧ R (IteT K a) H1
theorem pi_enT {X : Cx} {e : Expr} {ta : TA} {p pos tpos : Pos} {elts : List Expr} {kk : Nat} (hg : Gl X "enumerate") (hm : X.mg "enumerate" = none) (ha : PA X [e] ta) (hs : starEach [e] X.env = [(false, eval e X.env)] := by rfl) :
    PI X (.Tuple elts kk tpos) (.Call (.Name "enumerate" p) [e] [] pos) (iEnT X.K ta) := .mk fun pins s σ H R I h =>
  Call_ (ld_blt I hg hm boot_enumerate (PyProof.Rows.callWith_type1 (thn (ha.run pos pins s σ H _ I h) fun _ s1 ⟨_, H1, J, rel, a, ex, ⟨_, hq⟩, q⟩ => by
    subst ex
    obtain ⟨_, rfl, rfl⟩ := vals1 rel
    obtain ⟨vals, _, isT, _⟩ := J.tuple hq
    have la : a < s1.heap.objs.size := let ⟨_, z, _⟩ := isT; Heap.lt_size z
    refine call_enum1 (begins_tuple a vals.toArray) (show s1.heap.IsTuple a vals.toArray from isT) fun h2 en it old => wpAny_pyIter_enum en ?_
    refine ⟨_, _, _, _, H1, rfl, J.kept (t' := s1.toks) old, turn_enumT a (s1.heap.objs.size + 1) s1.heap.objs.size (Nat.ne_of_lt la), ⟨⟨.none, en⟩, ⟨_, it, rfl, rfl⟩, Nat.succ_ne_self _, Nat.ne_of_gt (Nat.lt_succ_of_lt la)⟩, fun b hb => ?_, q⟩
    have up : s1.heap.objs.size ≤ b := by
      rcases EnT.pair hb with rfl | rfl
      · exact Nat.le_succ _
      · exact Nat.le_refl _
    exact J.fpOk up (J.hok.fresh up)) hs rfl))
def iEnS (K : PySem.W.Frag) (ta : TA) : TI := fun σ H R => iEnum K ta σ H R ∨ iEnT K ta σ H R
theorem pi_enS {X : Cx} {e : Expr} {ta : TA} {p pos tpos : Pos} {elts : List Expr} {kk : Nat} (hg : Gl X "enumerate") (hm : X.mg "enumerate" = none) (ha : PA X [e] ta) (hs : starEach [e] X.env = [(false, eval e X.env)] := by rfl) :
    PI X (.Tuple elts kk tpos) (.Call (.Name "enumerate" p) [e] [] pos) (iEnS X.K ta) :=
  .mk fun pins s σ H R I h => h.elim ((pi_enum hg hm ha hs).run pins s σ H R I) ((pi_enT hg hm ha hs).run pins s σ H R I)
theorem walk_enumT {K : PySem.W.Frag} {a : Addr} {xs : List V} : Walk (IteT K a) xs.length (fun H => SqT K H a xs) (YPair (fun i => some (.int (i : Nat))) (fun i => xs[i]?)) where
  goes i H hi q := ⟨xs, xs[i], q, List.getElem?_eq_getElem hi⟩
  stops H q := ⟨xs, q, Nat.le_refl _⟩
  yields i H v H' _ q y := let ⟨T, x, h1, h2, h3, h4⟩ := y; ⟨T, .int (i : Nat), x, h1, h2, h3, rfl, h4 xs q⟩
/-- a name that holds a list or a tuple, enumerated -/
theorem enum_walk {K : PySem.W.Frag} {σ : L2.St} {H : Hp} {a : Addr} {n : Nat} {xs : List V} {R : It → Hp → Prop} (e : σ[n]? = some (some (.ref a))) (h : Sq K H a xs)
    (k : ∀ (J : It) (G : Hp → Prop), Walk J xs.length G (YPair (fun i => some (.int (i : Nat))) (fun i => xs[i]?)) → (∀ H', Stay K H H' → G H') → R J H) : iEnS K (tCons (tVar n) tNil) σ H R := by
  rcases h with h | h
  · exact .inl ⟨_, e, a, xs, rfl, h, k _ _ walk_enum fun H' s => s.l _ _ h⟩
  · exact .inr ⟨_, e, a, rfl, ⟨xs, h⟩, k _ _ walk_enumT fun H' s => s.t _ _ h⟩
end Wf
/-! several except clauses, each with a name -/
namespace Wf
open PySem PySem.Spec PyProof.Rows L2
/-- what the clauses wish of an exception of the body; i: the slot of the clause's name -/
def wManyAs (K : PySem.W.Frag) (Wout : WX) (D : Ends) : List (Value × Nat × (Addr → Value → Option Addr → TS)) → WX
  | [] => Wout
  | (c, i, ts) :: r => fun cls d σ H => ∃ b, PySem.W.exmOne K cls c = some b ∧
      (b = true → ∀ a, H a = none → ts a cls d { nx := fun σ' H' => D.nx (σ'.set i none) H', rt := D.rt, bk := fun σ' H' => D.bk (σ'.set i none) H', ct := fun σ' H' => D.ct (σ'.set i none) H' } (σ.set i (some (.ref a))) H) ∧
      (b = false → wManyAs K Wout D r cls d σ H)
inductive HdsAs (X : Cx) : List ExceptHandler → List (Value × Nat × (Addr → Value → Option Addr → TS)) → Prop
  | nil : HdsAs X [] []
  | cons {x n : Str} {c : Value} {i : Nat} {ts : Addr → Value → Option Addr → TS} {b₀ : Stmt} {suite : List Stmt} {np pos' : Pos} {hds : List ExceptHandler} {l : List (Value × Nat × (Addr → Value → Option Addr → TS))}
      (hi : X.N[i]? = some n) (hln : X.env.kindOf n = some .local) (hc : Names X x c)
      (hsu : ∀ (a : Addr) (oe : Obj) (cls : Value) (d : Option Addr) (pn : List (Addr × Obj)), Zc cls d oe → (∃ vs, oe.data = .fields vs) → PSs (X.suite a ((a, oe) :: pn)) (b₀ :: suite) (ts a cls d)) (r : HdsAs X hds l) :
      HdsAs X (.ExceptHandler (some (.Name x np)) (some n) (b₀ :: suite) pos' :: hds) ((c, i, ts) :: l)
section
variable {X : Cx} {pins : List (Addr × Obj)} {D : Ends} {Wout : WX}
/-- the caught exception a has landed: what stood before the try stands, and the slots and the heap are those of the raise -/
structure Landed (X : Cx) (pins : List (Addr × Obj)) (a : Addr) (B : Heap) (sI : Shared) (σ : L2.St) (H : Hp) (cls : Value) (d : Option Addr) (s0 s1 : Shared) : Prop where
  inv : Inv X pins σ H sI
  near : ∀ b o, sI.heap.get? b = some o → b ∉ frs X.stack → B.get? b = some o
  up : sI.heap.UpToSlots s1.heap
  fly : HandSPX.FlyingZ B (X.env :: X.outer) a (Zc cls d) s1.heap
  no : H a = none
  os : s1.os = sI.os
  gens : AllBare s1.gens
  loc : a ≠ X.env.locals
  far : a ∉ X.fs
/-- the clauses, one after the other -/
theorem clauses_go {a : Addr} {B : Heap} {sI : Shared} {σ : L2.St} {H : Hp} {cls : Value} {d : Option Addr} {s0 : Shared} (ok : X.Ok) (hs : X.stack = X.env :: X.outer) (hf : X.env.frame = some X.env.locals) (hN : X.N.Nodup) (tk : Takes X Wout) :
    ∀ {hds : List ExceptHandler} {l : List (Value × Nat × (Addr → Value → Option Addr → TS))} {s1 : Shared}, HdsAs X hds l → Landed X pins a B sI σ H cls d s0 s1 → wManyAs X.K Wout D l cls d σ H → wpAny (model X.prog X.w) X.A (handleBy (.ref a) X.env hds) (SP X pins D) X.xe s1
  | [], _, s1, .nil, L, w => by
    obtain ⟨_, _, _, oe, vs, T, oT, ts, at', isZ, isF, one, rest⟩ := id L.fly
    have onward : wpAny (model X.prog X.w) X.A (setFlight (.ref a) X.env.frame) (fun _ s4 => wpAny (model X.prog X.w) X.A (throw (.ref a) : Sem Flow) (SP X pins D) X.xe s4) X.xe s1 := by
      rw [hf]
      refine HandSPX.setFlight_upZ L.fly fun h4 held up4 => wpAny_throw (tk _ _ ⟨a, B, sI, pins, σ, H, cls, d, rfl, L.inv, L.near, L.up.trans up4, .inr (.inr ?_), L.no, L.os, L.gens, w⟩)
      rw [hs]
      exact held
    refine wpAny_handleBy_nil ?_
    unfold PySem.passOn
    refine wpAny_bind (wpAny_field at' isF one ?_)
    rw [if_neg (show ¬ ((Value.ref T == Value.none) = true) from by simp)]
    first
      | exact wpAny_bind onward
      | exact wpAny_bind (wpAny_pure (wpAny_bind onward))
  | _ :: _, _, s1, .cons (x := x) (n := n) (c := c) (i := i) (np := np) (pos' := pos') hi hln hc hsu r, L, w => by
    obtain ⟨yes, told, inside, outside⟩ := w
    obtain ⟨oe, vs, at', isZ, isF⟩ := L.fly.there
    have J := L.inv.landed L.near L.fly.1 L.up L.os L.gens
    have S := J.suite at' isF L.no L.loc L.far
    have type1 : PySem.W.Looks (model X.prog X.w) s1.heap (typeOf (.ref a)) cls := fun _ _ _ _ kept q => wpAny_typeOf_ref (kept _ _ at') (by rw [isZ.1]; exact q)
    refine wpAny_handleBy_cons (codeAny_handlers_test ?_) nofun
    have named : ∀ {Q : Value → Shared → Prop} {E : Value → Shared → Prop}, Q c s1 → wpAny (model X.prog X.w) (X.A.mark (some (.ref a))) (eval (.Name x np) X.env) Q E s1 := fun q =>
      hc.2.2.elim (fun m => ld_glob (X := X.suite a ((a, oe) :: (X.pn ++ pins))) S hc.1 m q hc.2.1) fun ⟨m, v, nn⟩ => ld_blt (X := X.suite a ((a, oe) :: (X.pn ++ pins))) S hc.1 m v q nn hc.2.1
    refine named ((PySem.W.exm_one (M := model X.prog X.w) J.kIn type1 told).here ?_)
    match yes, inside, outside with
    | false, _, outside => exact clauses_go ok hs hf hN tk r L (outside rfl)
    | true, inside, _ =>
      refine codeAny_handlers_suite_as (HandSPX.lands_againZ L.fly fun h4 fly4 up4 => ?_)
      obtain ⟨o4, v4, at4, z4, f4⟩ := fly4.there
      have J4 : Inv X pins σ H { s1 with heap := h4 } := L.inv.landed L.near fly4.1 (L.up.trans up4) L.os L.gens
      have S4 := J4.suite at4 f4 L.no L.loc L.far
      refine store_ok (X := X.suite a ((a, o4) :: (X.pn ++ pins))) (v := .ref a) S4 hN hi (.inl hln) rfl (fun s5 S5 => ?_) (.inr hln)
      refine wpAny_mono ((hsu a o4 cls d (X.pn ++ pins) z4 ⟨_, f4⟩).run [] s5 _ H _ S5 (inside rfl a L.no)) (fun f s6 out => ?_) fun _ _ z => False.elim z
      have close : ∀ {σ6 : L2.St} {H6 : Hp} {Q : Shared → Prop}, Inv (X.suite a ((a, o4) :: (X.pn ++ pins))) [] σ6 H6 s6 → (∀ s7, Inv X pins (σ6.set i none) H6 s7 → Q s7) →
          wpAny (model X.prog X.w) X.A (do bindName X.env n .none; unbindBehindTheSuite X.env n pos') (fun _ s7 => Q s7) X.xe s6 := fun S6 q => gone_ok (S6.unsuite ok) hN hi hln q
      match f, out with
      | .next, ⟨_, _, S6, q⟩ => exact close S6 fun _ J7 => ⟨_, _, J7, q⟩
      | .brk, ⟨_, _, S6, q⟩ => exact close S6 fun _ J7 => ⟨_, _, J7, q⟩
      | .cont, ⟨_, _, S6, q⟩ => exact close S6 fun _ J7 => ⟨_, _, J7, q⟩
      | .ret _, ⟨_, _, _, S6, rel, q⟩ => exact close S6 fun _ J7 => ⟨_, _, _, J7, rel, q⟩
/-- an exception that comes out of the body is noted, lands, and is held against the clauses -/
theorem caught_go {body : List Stmt} {hds : List ExceptHandler} {l : List (Value × Nat × (Addr → Value → Option Addr → TS))} {u : Value} {s' : Shared} {pn : List (Addr × Obj)} {xe : Value → Shared → Prop} (ok : X.Ok) (hs : X.stack = X.env :: X.outer) (hf : X.env.frame = some X.env.locals) (hN : X.N.Nodup) (tk : Takes X Wout) (hh : HdsAs X hds l)
    (air : XE (X.tr (X.pn ++ pins) xe) (wManyAs X.K Wout D l) u s') (back : ∀ {pins' : List (Addr × Obj)} {σ : L2.St} {H : Hp} {s : Shared}, Inv (X.tr (X.pn ++ pins) xe) pins' σ H s → Inv X pins σ H s) :
    wpAny (model X.prog X.w) X.A (noteFrame u X.env) (fun _ s₂ => wpAny (model X.prog X.w) X.A (setFlight u none) (fun _ s₃ => wpAny (model X.prog X.w) X.A (handleBy u X.env hds) (SP X pins D) X.xe s₃) X.xe s₂) X.xe s' := by
  obtain ⟨a, B, sI, pins2, σ, H, cls, d, rfl, J2, near, up, sky, no, os, gens, w⟩ := air
  have J := back J2
  have sky2 : Sky B (X.env :: X.outer) a (Zc cls d) X.env.locals s'.heap := by
    rw [← hs]
    exact sky
  have frames : X.A.frames = some (X.env :: X.outer) := by rw [ok.frames, hs]
  refine Sky.land Zc.steady frames hf sky2 fun h3 fly up3 => ?_
  obtain ⟨oe, vs, at', _, isF⟩ := fly.there
  have free : a ∉ frs (X.env :: X.outer) := fun inFrames => by
    obtain ⟨_, ob, at2, nf⟩ := fly.2.2.1.mem inFrames
    cases at'.symm.trans at2
    exact nf _ isF
  exact clauses_go (s0 := s') ok hs hf hN tk hh {
    inv := J, near := near, up := up.trans up3, fly := fly, no := no, os := os, gens := gens
    loc := fun z => free (List.mem_filterMap.mpr ⟨X.env, List.mem_cons_self, by rw [hf, z]⟩)
    far := fun inFs => let ⟨e, he, q⟩ := List.mem_filterMap.mp inFs; free (List.mem_filterMap.mpr ⟨e, List.mem_cons_of_mem _ he, q⟩) } w
variable {body : List Stmt} {h₀ : ExceptHandler} {hds : List ExceptHandler} {l : List (Value × Nat × (Addr → Value → Option Addr → TS))} {pos : Pos} {tb : WX → TS}
theorem ps_try_manyAs (hs : X.stack = X.env :: X.outer) (hf : X.env.frame = some X.env.locals) (hN : X.N.Nodup) (tk : Takes X Wout)
    (hb : ∀ (W : WX) (pn : List (Addr × Obj)) (xe : Value → Shared → Prop), Takes (X.tr pn xe) W → PassesOwn (model X.prog X.w) X.A X.env xe → PSs (X.tr pn xe) body (tb W))
    (hh : HdsAs X (h₀ :: hds) l) : PS X (.Try body (h₀ :: hds) [] [] pos) (fun D σ H => tb (wManyAs X.K Wout D l) D σ H) := .mk fun pins s σ H D I h => by
  have ok := I.ok
  let xe : Value → Shared → Prop := fun u s₁ => wpAny (model X.prog X.w) X.A (noteFrame u X.env) (fun _ s₂ => wpAny (model X.prog X.w) X.A (setFlight u none) (fun _ s₃ => wpAny (model X.prog X.w) X.A (handleBy u X.env (h₀ :: hds)) (SP X pins D) X.xe s₃) X.xe s₂) X.xe s₁
  have caught : Takes (X.tr (X.pn ++ pins) xe) (wManyAs X.K Wout D l) := fun u s2 air => caught_go (pn := []) (body := body) ok hs hf hN tk hh air fun J => J.ofTry ok
  refine wpAny_Try_except (wpAny_mono ((hb _ _ xe caught PassesOwn.looking).run [] s σ H D (I.toTry _) h) (fun f s1 out => ?_) fun _ _ z => z)
  match f, out with
  | .next, ⟨_, _, J, q⟩ => exact wpAny_execs_nil ⟨_, _, J.ofTry ok, q⟩
  | .brk, ⟨_, _, J, q⟩ => exact ⟨_, _, J.ofTry ok, q⟩
  | .cont, ⟨_, _, J, q⟩ => exact ⟨_, _, J.ofTry ok, q⟩
  | .ret _, ⟨_, _, _, J, rel, q⟩ => exact ⟨_, _, _, J.ofTry ok, rel, q⟩
end
/-! ### classes of the text, made by their names -/
structure Cn (P : Program) (w : World) (K : PySem.W.Frag) (mg : Str → Option Value) (base : Heap) (CX : CXT) (k : Nat) (x : Str) (C : Addr) (ps : List Str) (sp : Sp) : Prop where
  ex : ∃ (f : Addr) (fd : FuncData), Mk K C f ∧ FnOk P w K mg base CX k f fd ps sp ∧ Binds K fd ps []
  g : mg x = some (.ref C)
section
variable {X : Cx} {CX : CXT} {k : Nat} {C : Addr} {ps : List Str} {sp : Sp} {E : L2.St → XK} {x : Str} {p pos : Pos} {e : Expr} {es : List Expr} {t : TA}
theorem pe_mkS (N : Cn X.prog X.w X.K X.mg X.base CX k x C ps sp) (hr : Room (k + 1) X.A) (hx : ∀ σ, PassesAt CX X σ (E σ)) (ha : PA X (e :: es) t) (hg : Gl X x := by rfl) (hdb : (x == ("__debug__" : Str)) = false := by decide)
    (he : starEach (e :: es) X.env = (false, eval e X.env) :: starEach es X.env := by rfl) (hpl : (backTo pos (starEach es X.env)).any (·.1) = false := by rfl) : PE X (.Call (.Name x p) (e :: es) [] pos) (tMakeS C sp E t) :=
  let ⟨_, _, M, F, hb⟩ := N.ex
  pe_makeS M F hr hg N.g hb hx ha hdb he hpl
end
end Wf
/-! with which sign a shown thing begins -/
namespace Wf
open PySem PySem.Spec PyProof.Rows L2
/-- the first sign -/
def hd (z : Str) : Option Nat := z.cps.toList.head?
theorem hd_app {x y : Str} {c : Nat} (h : hd x = some c) : hd (x ++ y) = some c := by
  unfold hd at h ⊢
  rw [show (x ++ y).cps.toList = x.cps.toList ++ y.cps.toList from Array.toList_append]
  cases e : x.cps.toList with
  | nil =>
    rw [e] at h
    cases h
  | cons a r =>
    rw [e] at h
    exact h
theorem hd_from {c : Nat} : ∀ (ts : List Str) (k : Nat) (acc : Str), hd acc = some c → hd (textFrom k acc ts) = some c
  | [], _, _, h => h
  | t :: r, k, acc, h => hd_from r (k + 1) _ (hd_app (hd_app h))
theorem hd_list (ts : List Str) : hd (listText ts) = some 91 := hd_app (hd_from ts 0 _ rfl)
theorem hd_tuple (ts : List Str) : hd (tupleText ts) = some 40 := hd_app (hd_app rfl)
theorem hd_dict (ts : List Str) : hd (dictText ts) = some 123 := hd_app (hd_app rfl)
theorem fold_head {q : Nat} {f : Nat → List Nat} : ∀ (cs : List Nat) (acc : Array Nat), acc.toList.head? = some q → (cs.foldl (fun out c => out ++ (f c).toArray) acc).toList.head? = some q
  | [], _, h => h
  | c :: r, acc, h => fold_head r _ (by
    rw [Array.toList_append]
    cases e : acc.toList with
    | nil =>
      rw [e] at h
      cases h
    | cons a b =>
      rw [e] at h
      exact h)
theorem hd_text (x : Str) : hd (reprText x) = some (reprQuote x) := by
  unfold hd reprText
  rw [Array.toList_push, ← Array.foldl_toList]
  have e := fold_head (f := PySem.Builtin.Str.reprChar (reprQuote x)) x.cps.toList #[reprQuote x] rfl
  cases q : (x.cps.toList.foldl (fun out c => out ++ (PySem.Builtin.Str.reprChar (reprQuote x) c).toArray) #[reprQuote x]).toList with
  | nil =>
    rw [q] at e
    cases e
  | cons a b =>
    rw [q] at e
    exact e
theorem hd_int (i : Int) : ∃ c, hd (PyData.int i).shown = some c ∧ c < 60 := by
  show ∃ c, hd (PySem.Str.ofString (toString i)) = some c ∧ c < 60
  unfold hd
  cases i with
  | ofNat m =>
    have e := PySem.W.KIN.signs_num m
    rw [show (PySem.Str.ofString (toString (Int.ofNat m))).cps.toList = _ from e]
    have l := toDigits_len_ge 10 m
    cases q : Nat.toDigits 10 m with
    | nil =>
      rw [q] at l
      exact absurd l (by decide)
    | cons a b =>
      refine ⟨a.toNat, rfl, ?_⟩
      have r := digit_range (Nat.isDigit_of_mem_toDigits (c := a) (n := m) (b := 10) (by decide) (by decide) (by rw [q]; exact List.mem_cons_self))
      omega
  | negSucc m => exact ⟨45, rfl, by decide⟩
theorem shown_is {d : PyData} : (d.shown = "True" ∨ d.shown = "False" ∨ d.shown = "None") ↔ isMark d = true := by
  have no : ∀ {c : Nat}, hd d.shown = some c → c ≠ 84 → c ≠ 70 → c ≠ 78 → ¬ (d.shown = "True" ∨ d.shown = "False" ∨ d.shown = "None") := fun h n1 n2 n3 z => by
    rcases z with z | z | z
    · rw [z] at h
      exact n1 (Option.some.inj (h.symm.trans rfl))
    · rw [z] at h
      exact n2 (Option.some.inj (h.symm.trans rfl))
    · rw [z] at h
      exact n3 (Option.some.inj (h.symm.trans rfl))
  cases d with
  | none => exact ⟨fun _ => rfl, fun _ => .inr (.inr rfl)⟩
  | bool b => cases b
              · exact ⟨fun _ => rfl, fun _ => .inr (.inl rfl)⟩
              · exact ⟨fun _ => rfl, fun _ => .inl rfl⟩
  | int i =>
    obtain ⟨c, h, l⟩ := hd_int i
    exact ⟨fun z => absurd z (no h (by omega) (by omega) (by omega)), fun z => by cases z⟩
  | str x =>
    have h := hd_text x
    refine ⟨fun z => absurd z (no h ?_ ?_ ?_), fun z => by cases z⟩ <;> (unfold reprQuote; split <;> decide)
  | list xs => exact ⟨fun z => absurd z (no (hd_list _) (by decide) (by decide) (by decide)), fun z => by cases z⟩
  | tuple xs => exact ⟨fun z => absurd z (no (hd_tuple _) (by decide) (by decide) (by decide)), fun z => by cases z⟩
  | dict xs => exact ⟨fun z => absurd z (no (hd_dict _) (by decide) (by decide) (by decide)), fun z => by cases z⟩
end Wf
/-! a text from its end to its beginning -/
namespace Wf
open PySem PySem.Spec PyProof.Rows L2
def revS (z : Str) : Str := ⟨z.cps.toList.reverse.toArray⟩
theorem rev_picked (z : Str) (t : Tok) : slicePicked z none none (some (-1, t)) = sliceRange ((z.length : Int) - 1) (-1) (-1) := rfl
theorem rev_made (z : Str) (t u : Tok) : sliceMade z t none none (some (-1, u)) = .str (revS z) := by
  unfold sliceMade
  rw [if_neg (by
    rw [show ((some ((-1 : Int), u)).map (·.1)).getD 1 = -1 from rfl]
    simp), rev_picked]
  refine congrArg Made.str (congrArg Str.mk ?_)
  rw [show z.length = z.cps.size from rfl, PySem.W.krv_sliceRange, PySem.W.krv_range, List.filterMap_reverse]
  exact congrArg (fun l => (List.reverse l).toArray) (PySem.W.krv_all z.cps)
def tRevS (te : TE) : TE := fun σ H Q => te σ H fun x H1 => ∃ z : Str, x = .str z ∧ z.length ≤ sizeLine ∧ Q (.str (revS z)) H1
theorem pe_revS {X : Cx} {e : Expr} {te : TE} {k : Nat} {p1 p2 p3 pos : Pos} (he : PE X e te) : PE X (.Subscript e (.Slice none none (some (.UnaryOp .USub (.Constant (.int 1) k p1) p2)) p3) pos) (tRevS te) := .mk fun pins s σ H Q I h =>
  Subscript_ (thn (he.run pins s σ H _ I h) fun v s1 ⟨x, H1, I1, rx, z, ex, small, q⟩ => by
    subst ex
    obtain ⟨t, rfl⟩ := rx
    have step : PO X (some (.UnaryOp .USub (.Constant (.int 1) k p1) p2)) (tPart (tUn (rU fun i => .int (-i)) (tC (.int 1)))) := po_some (pe_un un_neg pe_int)
    refine wpAny_Slice (thn (po_none.run pins s1 σ H1 (fun o H2 => o = none ∧ H2 = H1) I1 ⟨rfl, rfl⟩) fun lo s2 ⟨_, G2, I2, plo, e1, e2⟩ => ?_)
    rw [e2] at I2
    rw [e1] at plo
    refine thn (po_none.run pins s2 σ H1 (fun o H3 => o = none ∧ H3 = H1) I2 ⟨rfl, rfl⟩) fun hi s3 ⟨_, G3, I3, phi, e3, e4⟩ => ?_
    rw [e4] at I3
    rw [e3] at phi
    refine thn (step.run pins s3 σ H1 (fun o H4 => o = some (-1) ∧ H4 = H1) I3 ⟨1, rfl, -1, rfl, rfl, rfl⟩) fun st s4 ⟨_, G4, I4, pst, e5, e6⟩ => ?_
    rw [e6] at I4
    rw [e5] at pst
    cases plo
    cases phi
    cases pst with
    | int _ u =>
    let cut : Obj := { cls := .type "slice", data := .fields #[.none, .none, .int (-1) u] }
    have I5 : Inv X pins σ H1 { s4 with heap := s4.heap.push cut } := I4.kept (t' := s4.toks) fun b ob z => Heap.get?_push_of_some _ z
    refine tail_any (ops := [.ref s4.heap.objs.size, .str z t]) (typeIs_str _ _ _) F.slot_str_getitem.lookup ?_ (by with_unfolding_all rfl)
    refine wpAny_getItem_str_slice (l := none) (u := none) (st := some (-1, u)) ⟨cut, Heap.get?_push_size _ rfl, rfl, rfl⟩ rfl ?_
    rw [rev_made]
    refine ⟨?_, .str (revS z), H1, I5.tok _, ⟨_, rfl⟩, q⟩
    show z.cps.toList.reverse.toArray.size ≤ sizeLine
    rw [List.size_toArray, List.length_reverse, Array.length_toList]
    exact small)
end Wf
/-! tables that are changed by place; how much of data is shown -/
namespace Wf
open PySem PySem.Spec PyProof.Rows L2
/-! ### what is shown -/
structure Vw (k n : Nat) (d : PyData) : Prop where
  s : d.showable = true
  dp : d.depth ≤ k
  sz : d.shown.length ≤ n
theorem Vw.more {k n k' n' : Nat} {d : PyData} (h : Vw k n d) (a : k ≤ k') (b : n ≤ n') : Vw k' n' d := ⟨h.s, Nat.le_trans h.dp a, Nat.le_trans h.sz b⟩
theorem shownAll_sum {n : Nat} : ∀ {ds : List PyData}, (∀ d ∈ ds, d.shown.length ≤ n) → ((PyData.shownAll ds).map (·.length)).sum + 2 * (PyData.shownAll ds).length ≤ ds.length * (n + 2)
  | [], _ => Nat.zero_le _
  | d :: ds, h => by
    have h1 := h d List.mem_cons_self
    have h2 := shownAll_sum (ds := ds) fun x hx => h x (List.mem_cons_of_mem _ hx)
    show ((PyData.shown d :: PyData.shownAll ds).map (·.length)).sum + 2 * (PyData.shown d :: PyData.shownAll ds).length ≤ (ds.length + 1) * (n + 2)
    rw [List.map_cons, List.sum_cons, List.length_cons, Nat.add_mul, Nat.one_mul]
    omega
theorem vw_list {k n c : Nat} {ds : List PyData} (hl : ds.length ≤ c) (h : ∀ d ∈ ds, Vw k n d) : Vw (k + 1) (c * (n + 2) + 3) (.list ds) := by
  refine ⟨showableAll_of fun d hd => (h d hd).s, Nat.succ_le_succ (dep_all fun d hd => (h d hd).dp), ?_⟩
  have h1 := listText_len_le (PyData.shownAll ds)
  have h2 := shownAll_sum fun d hd => (h d hd).sz
  have h3 := Nat.mul_le_mul_right (n + 2) hl
  show (listText (PyData.shownAll ds)).length ≤ _
  omega
theorem vw_tuple {k n c : Nat} {ds : List PyData} (hl : ds.length ≤ c) (h : ∀ d ∈ ds, Vw k n d) : Vw (k + 1) (c * (n + 2) + 3) (.tuple ds) := by
  refine ⟨showableAll_of fun d hd => (h d hd).s, Nat.succ_le_succ (dep_all fun d hd => (h d hd).dp), ?_⟩
  have h1 := tupleText_len_le (PyData.shownAll ds)
  have h2 := shownAll_sum fun d hd => (h d hd).sz
  have h3 := Nat.mul_le_mul_right (n + 2) hl
  show (tupleText (PyData.shownAll ds)).length ≤ _
  omega
theorem vw_none : Vw 0 5 .none := ⟨rfl, Nat.le_refl _, by decide +kernel⟩
theorem vw_bool {b : Bool} : Vw 0 5 (.bool b) := ⟨rfl, Nat.le_refl _, by cases b <;> decide +kernel⟩
theorem vw_int {n : Nat} (h : n < 1000000) : Vw 0 10 (.int (n : Int)) := by
  refine ⟨?_, Nat.le_refl _, PySem.W.KT.len_num (by omega) (by omega)⟩
  show decide ((n : Int).natAbs.log2 < 1920) = true
  refine decide_eq_true ?_
  rw [Int.natAbs_natCast]
  have h2 : n.log2 ≤ n := Nat.log2_le_self n
  rcases Nat.eq_zero_or_pos n with rfl | hp
  · decide
  · have := (Nat.log2_lt (n := n) (k := 20) (by omega)).mpr (by omega)
    omega
theorem vw_str {x : Str} {m : Nat} (h : PyData.strOk x = true) (l : x.length ≤ m) : Vw 0 (10 * m + 2) (.str x) := by
  refine ⟨rfl, Nat.le_refl _, ?_⟩
  show (reprText x).length ≤ 10 * m + 2
  refine Nat.le_trans (StrLaws.reprText_len x fun c hc => ?_) (by omega)
  have h2 : x.cps.all (· < 0x110000) = true := h
  rw [← Array.all_toList, List.all_eq_true] at h2
  have := of_decide_eq_true (h2 c hc)
  omega
/-! ### new data -/
/-- what is new in H stands in H' as well -/
def New (H0 H H' : Hp) : Prop := ∀ b o, H0 b = none → H b = some o → H' b = some o
/-- new data: whatever happens to what was there before -/
def NewD (K : PySem.W.Frag) (H0 H : Hp) (v : V) (d : PyData) : Prop := ∀ H', New H0 H H' → Dq K H' v d
def NewAll (K : PySem.W.Frag) (H0 H : Hp) (vs : List V) (ds : List PyData) : Prop := ∀ H', New H0 H H' → DqAll K H' vs ds
section
variable {K : PySem.W.Frag} {H0 H1 H H' : Hp} {v : V} {d : PyData} {vs : List V} {ds : List PyData} {p : Addr}
theorem New.refl : New H0 H H := fun _ _ _ e => e
theorem New.same (s : Same H H') : New H0 H H' := fun b o _ e => s b o e
theorem New.but (s : But p H H') (hp : H0 p ≠ none) : New H0 H H' := fun b o z e => s b o (fun q => hp (q ▸ z)) e
theorem New.upd {o : HO} (hp : H0 p ≠ none) : New H0 H (upd H p o) := fun b u z e => (upd_ne (show b ≠ p from fun q => hp (q ▸ z))).trans e
theorem New.trans (a : New H0 H H1) (b : New H0 H1 H') : New H0 H H' := fun x o z e => b x o z (a x o z e)
theorem NewD.to (h : NewD K H0 H v d) (n : New H0 H H') : NewD K H0 H' v d := fun G m => h G (n.trans m)
theorem NewD.same (h : NewD K H0 H v d) (s : Same H H') : NewD K H0 H' v d := h.to (New.same s)
theorem NewD.but (h : NewD K H0 H v d) (s : But p H H') (hp : H0 p ≠ none) : NewD K H0 H' v d := h.to (New.but s hp)
theorem NewD.dq (h : NewD K H0 H v d) : Dq K H v d := h H New.refl
theorem NewD.old (h : NewD K H1 H v d) (t : There H0 H1) : NewD K H0 H v d := fun G m => h G fun b o z e => m b o (t b z) e
theorem NewAll.to (h : NewAll K H0 H vs ds) (n : New H0 H H') : NewAll K H0 H' vs ds := fun G m => h G (n.trans m)
theorem NewAll.dq (h : NewAll K H0 H vs ds) : DqAll K H vs ds := h H New.refl
theorem NewAll.set (h : NewAll K H0 H vs ds) (hv : NewD K H0 H v d) (i : Nat) : NewAll K H0 H (vs.set i v) (ds.set i d) := fun G m => (h G m).set (hv G m)
theorem NewAll.add (h : NewAll K H0 H vs ds) (hv : NewD K H0 H v d) : NewAll K H0 H (vs ++ [v]) (ds ++ [d]) := fun G m => (h G m).app (.cons (hv G m) .nil)
theorem NewD.int {i : Int} : NewD K H0 H (.int i) (.int i) := fun _ _ => .int i
theorem NewD.bl {b : Bool} : NewD K H0 H (.bl b) (.bool b) := fun _ _ => .bl b
theorem NewD.str {x : Str} : NewD K H0 H (.str x) (.str x) := fun _ _ => .str x
theorem NewD.non : NewD K H0 H .non .none := fun _ _ => .non
theorem NewD.lst {l : Addr} (h : NewAll K H0 H vs ds) (n : H0 l = none) (e : H l = some (.lst vs)) : NewD K H0 H (.ref l) (.list ds) := fun G m => .lst (SqL.of (m _ _ n e)) (h G m)
theorem NewD.tup {l : Addr} (h : NewAll K H0 H vs ds) (n : H0 l = none) (e : H l = some (.tup vs)) : NewD K H0 H (.ref l) (.tuple ds) := fun G m => .tup (SqT.of (m _ _ n e)) (h G m)
end
theorem nodup_at {α : Type} {x : α} : ∀ {l : List α} {i j : Nat}, l.Nodup → l[i]? = some x → l[j]? = some x → i = j
  | [], _, _, _, h, _ => by cases h
  | a :: l, 0, 0, _, _, _ => rfl
  | a :: l, 0, j + 1, nd, h1, h2 => by
    cases h1
    exact absurd (List.mem_of_getElem? (i := j) h2) (List.nodup_cons.mp nd).1
  | a :: l, i + 1, 0, nd, h1, h2 => by
    cases h2
    exact absurd (List.mem_of_getElem? (i := i) h1) (List.nodup_cons.mp nd).1
  | a :: l, i + 1, j + 1, nd, h1, h2 => congrArg (· + 1) (nodup_at (i := i) (j := j) (List.nodup_cons.mp nd).2 h1 h2)
theorem Pen.there {H H' : Hp} {p c : Addr} {n : Nat} (h : Pen H' p c n) (b : But p H H') : There H H' := There.but b (by
  obtain ⟨kvs, e⟩ := h.at
  rw [e]
  exact nofun)
theorem Pen.not {H : Hp} {p c : Addr} {n : Nat} (h : Pen H p c n) : H p ≠ none := by
  obtain ⟨kvs, e⟩ := h.at
  rw [e]
  exact nofun
theorem There.upd {H : Hp} {a : Addr} {o : HO} : There H (upd H a o) := fun b n => by
  rcases Decidable.em (b = a) with rfl | ne
  · rw [upd_same] at n
    cases n
  · exact (upd_ne ne).symm.trans n
theorem DqAll.drop {K : PySem.W.Frag} {H : Hp} : ∀ {vs : List V} {ds : List PyData} (n : Nat), DqAll K H vs ds → DqAll K H (vs.drop n) (ds.drop n)
  | _, _, 0, h => h
  | _, _, _ + 1, .nil => .nil
  | _, _, n + 1, .cons _ b => b.drop n
theorem DqAll.take {K : PySem.W.Frag} {H : Hp} : ∀ {vs : List V} {ds : List PyData} (n : Nat), DqAll K H vs ds → DqAll K H (vs.take n) (ds.take n)
  | _, _, 0, _ => .nil
  | _, _, _ + 1, .nil => .nil
  | _, _, n + 1, .cons a b => .cons a (b.take n)
theorem DqAll.many {K : PySem.W.Frag} {H : Hp} {v : V} {d : PyData} (h : Dq K H v d) : ∀ n : Nat, DqAll K H (List.replicate n v) (List.replicate n d)
  | 0 => .nil
  | n + 1 => .cons h (DqAll.many h n)
/-! ### a list of rows and a list of marks that stand in HB, changed since by place -/
structure Grd (K : PySem.W.Frag) (HB H : Hp) (r m : Addr) (bs : List Addr) (rws : List (List V)) (dws : List (List PyData)) (ws : List V) (dms : List PyData) : Prop where
  hr : HB r ≠ none
  hm : HB m ≠ none
  hb : ∀ b ∈ bs, HB b ≠ none ∧ b ≠ r ∧ b ≠ m
  rm : r ≠ m
  nd : bs.Nodup
  rr : H r = some (.lst (bs.map V.ref))
  mm : H m = some (.lst ws)
  row : ∀ (i : Nat) (b : Addr) (row : List V), bs[i]? = some b → rws[i]? = some row → H b = some (.lst row)
  lb : bs.length = rws.length
  ld : bs.length = dws.length
  nw : ∀ (i : Nat) (row : List V) (ds : List PyData), rws[i]? = some row → dws[i]? = some ds → NewAll K HB H row ds
  nm : NewAll K HB H ws dms
section
variable {K : PySem.W.Frag} {HB H H' : Hp} {r m p c b : Addr} {bs : List Addr} {rws : List (List V)} {dws : List (List PyData)} {ws row : List V} {dms ds : List PyData} {v : V} {d : PyData} {i n : Nat}
theorem Grd.to (G : Grd K HB H r m bs rws dws ws dms) (n : New HB H H') (k : ∀ b xs, (b = r ∨ b = m ∨ b ∈ bs) → H b = some (.lst xs) → H' b = some (.lst xs)) : Grd K HB H' r m bs rws dws ws dms :=
  { G with
    rr := k _ _ (.inl rfl) G.rr
    mm := k _ _ (.inr (.inl rfl)) G.mm
    row := fun i b row e1 e2 => k _ _ (.inr (.inr (List.mem_of_getElem? e1))) (G.row i b row e1 e2)
    nw := fun i row ds e1 e2 => (G.nw i row ds e1 e2).to n
    nm := G.nm.to n }
theorem Grd.same (G : Grd K HB H r m bs rws dws ws dms) (s : Same H H') : Grd K HB H' r m bs rws dws ws dms := G.to (New.same s) fun b xs _ e => s _ _ e
theorem Grd.but (G : Grd K HB H r m bs rws dws ws dms) (s : But p H H') (hp : Pen H p c n) (hb : HB p ≠ none) : Grd K HB H' r m bs rws dws ws dms :=
  G.to (New.but s hb) fun b xs _ e => s _ _ (pen_ne hp e fun _ z => by cases z) e
theorem Grd.setRow (G : Grd K HB H r m bs rws dws ws dms) (j : Nat) (eb : bs[i]? = some b) (er : rws[i]? = some row) (ed : dws[i]? = some ds) (hv : NewD K HB H v d) :
    Grd K HB (upd H b (.lst (row.set j v))) r m bs (rws.set i (row.set j v)) (dws.set i (ds.set j d)) ws dms := by
  have mb := List.mem_of_getElem? eb
  obtain ⟨h1, h2, h3⟩ := G.hb b mb
  have nw : New HB H (upd H b (.lst (row.set j v))) := New.upd h1
  refine { G with rr := (upd_ne h2.symm).trans G.rr, mm := (upd_ne h3.symm).trans G.mm, row := fun k b' row' e1 e2 => ?_, lb := by rw [List.length_set]; exact G.lb, ld := by rw [List.length_set]; exact G.ld, nw := fun k row' ds' e1 e2 => ?_, nm := G.nm.to nw }
  · rcases Decidable.em (k = i) with rfl | ne
    · rw [eb] at e1
      cases e1
      rw [List.getElem?_set_self (by rw [← G.lb]; exact (List.getElem?_eq_some_iff.mp eb).1)] at e2
      cases e2
      exact upd_same
    · rw [List.getElem?_set_ne (Ne.symm ne)] at e2
      have nb : b' ≠ b := fun q => by
        subst q
        exact ne (nodup_at G.nd e1 eb)
      exact (upd_ne nb).trans (G.row k b' row' e1 e2)
  · rcases Decidable.em (k = i) with rfl | ne
    · have l1 : k < rws.length := by rw [← G.lb]; exact (List.getElem?_eq_some_iff.mp eb).1
      have l2 : k < dws.length := by rw [← G.ld]; exact (List.getElem?_eq_some_iff.mp eb).1
      rw [List.getElem?_set_self l1] at e1
      rw [List.getElem?_set_self l2] at e2
      cases e1
      cases e2
      exact ((G.nw k row ds er ed).set hv j).to nw
    · rw [List.getElem?_set_ne (Ne.symm ne)] at e1 e2
      exact (G.nw k row' ds' e1 e2).to nw
theorem Grd.setMark (G : Grd K HB H r m bs rws dws ws dms) (j : Nat) (hv : NewD K HB H v d) : Grd K HB (upd H m (.lst (ws.set j v))) r m bs rws dws (ws.set j v) (dms.set j d) := by
  have nw : New HB H (upd H m (.lst (ws.set j v))) := New.upd G.hm
  exact { G with
    rr := (upd_ne G.rm).trans G.rr
    mm := upd_same
    row := fun k b row e1 e2 => (upd_ne (G.hb b (List.mem_of_getElem? e1)).2.2).trans (G.row k b row e1 e2)
    nw := fun k row ds e1 e2 => (G.nw k row ds e1 e2).to nw
    nm := (G.nm.set hv j).to nw }
theorem Grd.rows (G : Grd K HB H r m bs rws dws ws dms) : DqAll K H (bs.map V.ref) (dws.map PyData.list) := by
  have go : ∀ (as : List Addr) (ts : List (List PyData)), as.length = ts.length → (∀ (i : Nat) (a : Addr) (t : List PyData), as[i]? = some a → ts[i]? = some t → Dq K H (.ref a) (.list t)) → DqAll K H (as.map V.ref) (ts.map PyData.list) := by
    intro as
    induction as with
    | nil =>
      intro ts h _
      cases ts with
      | nil => exact .nil
      | cons _ _ => cases h
    | cons a as ih =>
      intro ts h k
      cases ts with
      | nil => cases h
      | cons t ts => exact .cons (k 0 a t rfl rfl) (ih ts (Nat.succ.inj h) fun i b u e1 e2 => k (i + 1) b u e1 e2)
  refine go bs dws G.ld fun i a t e1 e2 => ?_
  obtain ⟨row, er⟩ : ∃ row, rws[i]? = some row := ⟨_, List.getElem?_eq_getElem (by rw [← G.lb]; exact (List.getElem?_eq_some_iff.mp e1).1)⟩
  exact .lst (SqL.of (G.row i a row e1 er)) (G.nw i row t er e2).dq
theorem Grd.dqR (G : Grd K HB H r m bs rws dws ws dms) : Dq K H (.ref r) (.list (dws.map PyData.list)) := .lst (SqL.of G.rr) G.rows
theorem Grd.dqM (G : Grd K HB H r m bs rws dws ws dms) : Dq K H (.ref m) (.list dms) := .lst (SqL.of G.mm) G.nm.dq
/-- another thing in a row's place -/
theorem Grd.setR (G : Grd K HB H r m bs rws dws ws dms) (j : Nat) (hv : NewD K HB H v d) :
    Dq K (upd H r (.lst ((bs.map V.ref).set j v))) (.ref r) (.list ((dws.map PyData.list).set j d)) ∧ (upd H r (.lst ((bs.map V.ref).set j v))) m = some (.lst ws) ∧ DqAll K (upd H r (.lst ((bs.map V.ref).set j v))) ws dms ∧ New HB H (upd H r (.lst ((bs.map V.ref).set j v))) := by
  have nw : New HB H (upd H r (.lst ((bs.map V.ref).set j v))) := New.upd G.hr
  have G2 : Grd K HB (upd H r (.lst (bs.map V.ref))) r m bs rws dws ws dms := G.to (New.upd G.hr) fun b xs _ e => by
    rcases Decidable.em (b = r) with rfl | ne
    · rw [G.rr] at e
      cases e
      exact upd_same
    · exact (upd_ne ne).trans e
  refine ⟨.lst (SqL.of upd_same) (DqAll.set ?_ (hv _ nw)), (upd_ne G.rm.symm).trans G.mm, G.nm _ nw, nw⟩
  have go : ∀ (as : List Addr) (ts : List (List PyData)), as.length = ts.length → (∀ (i : Nat) (a : Addr) (t : List PyData), as[i]? = some a → ts[i]? = some t → Dq K (upd H r (.lst ((bs.map V.ref).set j v))) (.ref a) (.list t)) → DqAll K (upd H r (.lst ((bs.map V.ref).set j v))) (as.map V.ref) (ts.map PyData.list) := by
    intro as
    induction as with
    | nil =>
      intro ts h _
      cases ts with
      | nil => exact .nil
      | cons _ _ => cases h
    | cons a as ih =>
      intro ts h k
      cases ts with
      | nil => cases h
      | cons t ts => exact .cons (k 0 a t rfl rfl) (ih ts (Nat.succ.inj h) fun i b u e1 e2 => k (i + 1) b u e1 e2)
  refine go bs dws G.ld fun i a t e1 e2 => ?_
  obtain ⟨row, er⟩ : ∃ row, rws[i]? = some row := ⟨_, List.getElem?_eq_getElem (by rw [← G.lb]; exact (List.getElem?_eq_some_iff.mp e1).1)⟩
  exact .lst (SqL.of ((upd_ne (G.hb a (List.mem_of_getElem? e1)).2.1).trans (G.row i a row e1 er))) (G.nw i row t er e2 _ nw)
end
/-- data of a table's numbers and marks -/
def dO : Option Nat → PyData
  | none => .none
  | some n => .int (n : Int)
def dM : Option Bool → PyData
  | none => .none
  | some b => .bool b
theorem dq_o {K : PySem.W.Frag} {H : Hp} (o : Option Nat) : Dq K H (oV o) (dO o) := by
  cases o
  · exact .non
  · exact .int _
theorem dq_m {K : PySem.W.Frag} {H : Hp} (o : Option Bool) : Dq K H (mV o) (dM o) := by
  cases o
  · exact .non
  · exact .bl _
theorem Tbl.grd {K : PySem.W.Frag} {H0 H : Hp} {z sz : Nat} {full : Bool} {r m : Addr} {bs : List Addr} {tb : List (List (Option Nat))} {ms : List (Option Bool)} (T : Tbl H0 H z sz full r m bs tb ms) :
    Grd K H H r m bs (tb.map fun row => row.map oV) (tb.map fun row => row.map dO) (ms.map mV) (ms.map dM) where
  hr := by rw [T.ra]; exact fun z => by cases z
  hm := by rw [T.ma]; exact fun z => by cases z
  hb b hb := by
    obtain ⟨xs, e⟩ := T.there hb
    exact ⟨(by rw [e]; exact nofun), (T.new.2.2 b hb).2⟩
  rm := T.rm
  nd := T.nd
  rr := T.ra
  mm := T.ma
  row i b row e1 e2 := by
    obtain ⟨t, e3, rfl⟩ := Option.map_eq_some_iff.mp (show (tb[i]?).map _ = some row by rw [← List.getElem?_map]; exact e2)
    exact T.row (b, t) (List.mem_of_getElem? (i := i) (by rw [List.getElem?_zip_eq_some]; exact ⟨e1, e3⟩))
  lb := by rw [List.length_map]; exact T.lb
  ld := by rw [List.length_map]; exact T.lb
  nw i row ds e1 e2 := by
    obtain ⟨t, e3, rfl⟩ := Option.map_eq_some_iff.mp (show (tb[i]?).map _ = some row by rw [← List.getElem?_map]; exact e1)
    obtain ⟨t', e4, rfl⟩ := Option.map_eq_some_iff.mp (show (tb[i]?).map _ = some ds by rw [← List.getElem?_map]; exact e2)
    rw [e3] at e4
    cases e4
    exact fun G _ => DqAll.of fun x _ => dq_o x
  nm := fun G _ => DqAll.of fun x _ => dq_m x
end Wf
namespace Wf
open PySem L2
def top (i : Nat) : Stmt := PySem.Challenge.pw_wordfit_k06_invalid_machines.main.body.getD i (.Pass ⟨0, 0, 0, 0⟩)
/-- what the top has, beside the defs -/
structure Txt (K : PySem.W.Frag) (mg : Str → Option Value) : Prop where
  z_list : mg "list" = none
  z_len : mg "len" = none
  z_abs : mg "abs" = none
  z_range : mg "range" = none
  z_sorted : mg "sorted" = none
  z_repr : mg "repr" = none
  z_isinstance : mg "isinstance" = none
  z_tuple : mg "tuple" = none
  z_str : mg "str" = none
  z_int : mg "int" = none
  z_bool : mg "bool" = none
  z_all : mg "all" = none
  z_any : mg "any" = none
  z_enumerate : mg "enumerate" = none
  z_dict : mg "dict" = none
  z_set : mg "set" = none
  z_max : mg "max" = none
  z_min : mg "min" = none
  z_ValueError : mg "ValueError" = none
  z_KeyError : mg "KeyError" = none
  z_IndexError : mg "IndexError" = none
  z_ArithmeticError : mg "ArithmeticError" = none
  z_LookupError : mg "LookupError" = none
abbrev s_law_pen : Stmt := top 35
abbrev N_law_pen : List Str := ["script"]
theorem sc_law_pen : FnScope N_law_pen ["script"] (defScope s_law_pen) := ⟨rfl, rfl, rfl, by decide +kernel, rfl, by decide +kernel, by decide +kernel⟩
abbrev s_law_draw : Stmt := top 36
abbrev N_law_draw : List Str := ["pen", "many", "digit", "spot", "cell", "mix"]
theorem sc_law_draw : FnScope N_law_draw ["pen", "many"] (defScope s_law_draw) := ⟨rfl, rfl, rfl, by decide +kernel, rfl, by decide +kernel, by decide +kernel⟩
section
variable {P : Program} {w : World} {K : PySem.W.Frag} {mg : Str → Option Value} {base : Heap}
theorem ok_pen {f : Addr} {fd : FuncData} (F : Fun K "_law_pen" "_law_pen" s_law_pen f fd) (T : Txt K mg) : FnOk P w K mg base CX0 1 f fd ["script"] (spPen K) := by
  refine F.ok sc_law_pen (fun vs H Q E h => ?_) (fun cdv A outer s H vs Q E hr h => ?_)
  · obtain ⟨a, ns, rfl, _⟩ := h
    rfl
  · obtain ⟨a, ns, rfl, hs, hl, k⟩ := h
    refine ⟨_, (pss_one (ps_ret (pe_disp (pps_cons (pe_str) (pe_callTy call_list_of (by rfl) T.z_list (by decide +kernel) (pa_cons (pe_slice sl_list (pv 0) po_none (po_some (pe_int))) pa_nil)) (pps_cons (pe_str) (pe_int) (pps_cons (pe_str) (pe_int) pps_nil))) (by rfl) (by rfl) (fun z => by cases z) (by decide)))), ?_⟩
    intro p hp
    have s0 : Same H (upd H p (.dK [])) := fun b o e => by rw [upd_ne (ne_of_none e hp)]; exact e
    refine ⟨_, rfl, _, rfl, a, _, rfl, s0.seq hs, fun c hc => ?_⟩
    have pc : p ≠ c := ne_of_none upd_same hc
    have hc0 : H c = none := by rw [upd_ne pc.symm] at hc; exact hc
    refine ⟨c, _, rfl, .inl (SqL.of upd_same), fun l hl' => ?_⟩
    have ec : cutV (ns.map V.int) none (some 63) = ns.map V.int := by
      unfold cutV
      have e1 : HT.sIx (ns.map V.int).length 0 Option.none = 0 := rfl
      have e2 : HT.sIx (ns.map V.int).length (ns.map V.int).length (some 63) = ns.length := by
        rw [List.length_map]
        have e3 := HT.sIx_nat ns.length ns.length 63
        refine Eq.trans e3 ?_
        omega
      rw [e1, e2, List.drop_zero, Nat.sub_zero]
      exact List.take_of_length_le (by rw [List.length_map]; exact Nat.le_refl _)
    rw [ec] at hl' ⊢
    have lp : l ≠ p := fun z => by
      rw [z, upd_ne pc, upd_same] at hl'
      cases hl'
    have lc : l ≠ c := fun z => by
      rw [z, upd_same] at hl'
      cases hl'
    have hl0 : H l = none := by
      rw [upd_ne lc, upd_ne lp] at hl'
      exact hl'
    refine ⟨by rw [upd_ne lp.symm, upd_ne pc, upd_same], [(.inr "cells", .ref l), (.inr "spot", .int 0), (.inr "more", .int 0)], rfl, by show 3 ≤ 15; decide, ?_⟩
    refine k p l _ (fun b o e => ?_) hp ⟨ns, 0, 0, upd_same, by rw [upd_ne lp, upd_same], hl, Int.le_refl 0, Int.le_refl 0, Int.le_refl 0⟩
    rw [upd_ne (ne_of_none e hp), upd_ne (ne_of_none e hl0), upd_ne (ne_of_none e hc0), upd_ne (ne_of_none e hp)]
    exact e
theorem ok_draw {f : Addr} {fd : FuncData} (F : Fun K "_law_draw" "_law_draw" s_law_draw f fd) (T : Txt K mg) : FnOk P w K mg base CX0 1 f fd ["pen", "many"] spDraw := by
  refine F.ok sc_law_draw (fun vs H Q E h => ?_) (fun cdv A outer s H vs Q E hr h => ?_)
  · obtain ⟨p, c, n, many, rfl, _⟩ := h
    rfl
  · obtain ⟨p, c, n, many, rfl, ⟨ns, sp, mo, hp, hc, hl, s0, s1, m0⟩, hn, g0, g1, k⟩ := h
    have hu := hu_of hr
    refine ⟨_, (pss_cons (ps_if (pt_cmpR op_gt (pe_dget hu (pv 0) (pe_str) (fun _ _ => rfl)) (pe_int) (nomark _)) (pss_cons (ps_set (i := 2) sc_law_draw.nd rfl (Or.inl rfl) (pe_op op_mod (pe_dget hu (pv 0) (pe_str) (fun _ _ => rfl)) (pv 1)))
  (pss_cons (ps_dput hu (pv 0) (pe_str) (pe_op op_fdiv (pe_dget hu (pv 0) (pe_str) (fun _ _ => rfl)) (pv 1)) rfl)
  (pss_one (ps_ret (pv 2))))) pss_nil)
  (pss_cons (ps_set (i := 3) sc_law_draw.nd rfl (Or.inl rfl) (pe_dget hu (pv 0) (pe_str) (fun _ _ => rfl)))
  (pss_cons (ps_dput hu (pv 0) (pe_str) (pe_op op_add (pv 3) (pe_int)) rfl)
  (pss_cons (ps_set (i := 4) sc_law_draw.nd rfl (Or.inl rfl) (pe_ifExp (pt_cmpR (op_neD hr.units) (pe_dget hu (pv 0) (pe_str) (fun _ _ => rfl)) (pe_lst pa_nil) (nomark _)) (pe_ix ix_list (pe_dget hu (pv 0) (pe_str) (fun _ _ => rfl)) (pe_op op_mod (pv 3) (pe_callB call_len_seq (by rfl) T.z_len PySem.boot_len (pa_cons (pe_dget hu (pv 0) (pe_str) (fun _ _ => rfl)) pa_nil))) (fun _ _ => rfl)) (pe_op op_add (pe_op op_mul (pe_int) (pv 3)) (pe_int))))
  (pss_cons (ps_if (PW.pt (pw_and (pt_cmpR op_lt (pv 3) (pe_callB call_len_seq (by rfl) T.z_len PySem.boot_len (pa_cons (pe_dget hu (pv 0) (pe_str) (fun _ _ => rfl)) pa_nil)) (nomark _)) (pw_and1 (pt_cmpR op_ge (pe_callB call_abs (by rfl) T.z_abs (by decide +kernel) (pa_cons (pv 4) pa_nil)) (pe_op op_pow (pe_int) (pe_int)) (nomark _))))) (pss_cons (ps_dput hu (pv 0) (pe_str) (pe_op op_fdiv (pe_op op_sub (pe_callB call_abs (by rfl) T.z_abs (by decide +kernel) (pa_cons (pv 4) pa_nil)) (pe_op op_pow (pe_int) (pe_int))) (pv 1)) rfl)
  (pss_one (ps_ret (pe_op op_mod (pe_op op_sub (pe_callB call_abs (by rfl) T.z_abs (by decide +kernel) (pa_cons (pv 4) pa_nil)) (pe_op op_pow (pe_int) (pe_int))) (pv 1))))) pss_nil)
  (pss_cons (ps_set (i := 5) sc_law_draw.nd rfl (Or.inl rfl) (pe_op op_mod (pe_op op_add (pe_op op_add (pe_op op_add (pe_op op_mul (pe_op op_mod (pv 4) (pe_int)) (pe_int)) (pe_op op_mul (pe_op op_mul (pe_int) (pv 3)) (pv 3))) (pe_op op_mul (pe_int) (pv 3))) (pe_int)) (pe_int)))
  (pss_cons (ps_set (i := 5) sc_law_draw.nd rfl (Or.inl rfl) (pe_op op_mod (pe_op op_add (pe_op op_add (pe_op op_add (pe_op op_mul (pv 5) (pv 5)) (pe_op op_mul (pe_int) (pv 5))) (pe_op op_mul (pe_int) (pv 3))) (pe_int)) (pe_int)))
  (pss_one (ps_ret (pe_op op_mod (pe_op op_fdiv (pe_op op_mod (pe_op op_mul (pv 5) (pe_op op_add (pv 5) (pe_int))) (pe_int)) (pe_int)) (pv 1))))))))))), ?_⟩
    have pc : c ≠ p := ne_of hc hp (by intro z; cases z)
    refine ⟨_, rfl, p, .int mo, rfl, getM hp, _, _, rfl, rfl, _, rfl, ?_⟩
    refine ite2 (fun hm => ?_) (fun hm => ?_)
    · have hm' : 0 < mo := of_decide_eq_true hm
      refine ⟨_, rfl, p, .int mo, rfl, getM hp, _, rfl, _, _, rfl, rfl, g0, ?_⟩
      refine ⟨_, rfl, p, .int mo, rfl, getM hp, _, rfl, _, _, rfl, rfl, ⟨g0, by omega⟩, _, rfl, p, _, rfl, setM _ hp, ?_⟩
      refine ⟨_, rfl, ?_⟩
      refine k _ _ (Int.emod_nonneg _ (by omega)) (Int.emod_lt_of_pos _ g0) (fun b o hb e => by rw [upd_ne hb]; exact e) ⟨ns, sp, _, upd_same, by rw [upd_ne pc]; exact hc, hl, s0, by omega, Int.ediv_nonneg m0 (by omega)⟩
    · refine ⟨_, rfl, p, .int sp, rfl, getS hp, ?_⟩
      refine ⟨_, rfl, _, _, rfl, rfl, _, rfl, p, _, rfl, setS _ hp, ?_⟩
      have hp1 : (upd H p (penO c (sp + 1) mo)) p = some (penO c (sp + 1) mo) := upd_same
      have hc1 : (upd H p (penO c (sp + 1) mo)) c = some (.lst (ns.map V.int)) := by rw [upd_ne pc]; exact hc
      generalize hH1 : upd H p (penO c (sp + 1) mo) = H1 at hp1 hc1 ⊢
      refine ⟨_, rfl, p, _, rfl, getC hp1, Nat.zero_le _, fun l hl' => ?_⟩
      have lp : p ≠ l := ne_of_none hp1 hl'
      have lc : c ≠ l := ne_of_none hc1 hl'
      have hp2 : (upd H1 l (.lst [])) p = some (penO c (sp + 1) mo) := by rw [upd_ne lp]; exact hp1
      have hc2 : (upd H1 l (.lst [])) c = some (.lst (ns.map V.int)) := by rw [upd_ne lc]; exact hc1
      have hl0 : H l = none := by
        rw [← hH1, upd_ne lp.symm] at hl'
        exact hl'
      have bt : But p H (upd H1 l (.lst [])) := fun b o hb e => by
        rw [upd_ne (ne_of_none e hl0), ← hH1, upd_ne hb]
        exact e
      refine ints_ne (SqL.of hc2) (SqL.of upd_same) ?_
      generalize upd H1 l (.lst []) = H2 at hp2 hc2 bt ⊢
      have ns0 : (ns.length : Int) = 0 ∨ 0 < (ns.length : Int) := by omega
      refine ⟨_, rfl, ?_⟩
      have bounds : ∀ z : Int, 0 ≤ z % 2147483647 ∧ z % 2147483647 < 2147483647 := fun z => ⟨Int.emod_nonneg _ (by decide), Int.emod_lt_of_pos _ (by decide)⟩
      -- what follows, whatever the cell is
      have kd : ∀ d : Int, 0 ≤ d → d < many → Q (.int d) H2 := fun d d0 d1 => k d H2 d0 d1 bt ⟨ns, sp + 1, mo, hp2, hc2, hl, by omega, by omega, m0⟩
      have km : ∀ d mo' : Int, 0 ≤ d → d < many → 0 ≤ mo' → Q (.int d) (upd H2 p (penO c (sp + 1) mo')) := fun d mo' d0 d1 m1 => k d _ d0 d1 (fun b o hb e => by rw [upd_ne hb]; exact bt b o hb e)
        ⟨ns, sp + 1, mo', upd_same, by rw [upd_ne pc]; exact hc2, hl, by omega, by omega, m1⟩
      cases hns : ns.isEmpty with
      | true =>
        refine iteF ?_
        refine ⟨_, rfl, _, _, rfl, rfl, .inl ⟨by decide, by decide⟩, _, _, rfl, rfl, ?_⟩
        refine ⟨_, rfl, _, rfl, p, _, rfl, getC hp2, c, _, rfl, .inl (SqL.of hc2), _, _, rfl, rfl, _, rfl, ?_⟩
        refine ite2 (fun _ => ?_) (fun _ => ?_)
        · refine ⟨_, rfl, _, rfl, _, _, rfl, rfl, ⟨by decide, by decide, by decide⟩, _, _, rfl, rfl, _, rfl, ?_⟩
          refine ite2 (fun hbig => ?_) (fun _ => ?_)
          · have hbig' := of_decide_eq_true hbig
            refine ⟨_, rfl, _, rfl, _, _, rfl, rfl, ⟨by decide, by decide, by decide⟩, _, _, rfl, rfl, _, rfl, _, _, rfl, rfl, ⟨g0, by omega⟩, _, rfl, p, _, rfl, setM _ hp2, ?_⟩
            refine ⟨_, rfl, _, rfl, _, _, rfl, rfl, ⟨by decide, by decide, by decide⟩, _, _, rfl, rfl, _, rfl, _, _, rfl, rfl, g0, ?_⟩
            exact km _ _ (Int.emod_nonneg _ (by omega)) (Int.emod_lt_of_pos _ g0) (Int.ediv_nonneg (Int.sub_nonneg_of_le hbig') (by omega))
          · refine ⟨_, rfl, _, _, rfl, rfl, (by decide : (0 : Int) < 2147483647), _, _, rfl, rfl, .inl (bnd (by decide) (by decide)), _, rfl, _, _, rfl, rfl, .inl ⟨by decide, by decide⟩, _, rfl, _, _, rfl, rfl, .inl (lim (by omega) (by omega)), _, _, rfl, rfl, _, rfl, _, _, rfl, rfl, .inl ⟨by decide, by decide⟩, _, _, rfl, rfl, _, _, rfl, rfl, _, _, rfl, rfl, (by decide : (0 : Int) < 2147483629), ?_⟩
            refine ⟨_, rfl, _, rfl, _, _, rfl, rfl, .inl (bnd (by decide) (by decide)), _, rfl, _, _, rfl, rfl, .inl ⟨by decide, by decide⟩, _, _, rfl, rfl, _, rfl, _, _, rfl, rfl, .inl ⟨by decide, by decide⟩, _, _, rfl, rfl, _, _, rfl, rfl, _, _, rfl, rfl, (by decide : (0 : Int) < 2147483587), ?_⟩
            refine ⟨_, rfl, _, rfl, _, _, rfl, rfl, _, _, rfl, rfl, .inl (bnd (by decide) (by decide)), _, _, rfl, rfl, (by decide : (0 : Int) < 2147483579), _, _, rfl, rfl, ⟨by decide, by decide⟩, _, rfl, _, _, rfl, rfl, g0, ?_⟩
            exact kd _ (Int.emod_nonneg _ (by omega)) (Int.emod_lt_of_pos _ g0)
        · refine iteF ?_
          refine ⟨_, rfl, _, _, rfl, rfl, (by decide : (0 : Int) < 2147483647), _, _, rfl, rfl, .inl (bnd (by decide) (by decide)), _, rfl, _, _, rfl, rfl, .inl ⟨by decide, by decide⟩, _, rfl, _, _, rfl, rfl, .inl (lim (by omega) (by omega)), _, _, rfl, rfl, _, rfl, _, _, rfl, rfl, .inl ⟨by decide, by decide⟩, _, _, rfl, rfl, _, _, rfl, rfl, _, _, rfl, rfl, (by decide : (0 : Int) < 2147483629), ?_⟩
          refine ⟨_, rfl, _, rfl, _, _, rfl, rfl, .inl (bnd (by decide) (by decide)), _, rfl, _, _, rfl, rfl, .inl ⟨by decide, by decide⟩, _, _, rfl, rfl, _, rfl, _, _, rfl, rfl, .inl ⟨by decide, by decide⟩, _, _, rfl, rfl, _, _, rfl, rfl, _, _, rfl, rfl, (by decide : (0 : Int) < 2147483587), ?_⟩
          refine ⟨_, rfl, _, rfl, _, _, rfl, rfl, _, _, rfl, rfl, .inl (bnd (by decide) (by decide)), _, _, rfl, rfl, (by decide : (0 : Int) < 2147483579), _, _, rfl, rfl, ⟨by decide, by decide⟩, _, rfl, _, _, rfl, rfl, g0, ?_⟩
          exact kd _ (Int.emod_nonneg _ (by omega)) (Int.emod_lt_of_pos _ g0)
      | false =>
        refine iteT ?_
        have ne0 : ns ≠ [] := fun z => by rw [z] at hns; cases hns
        have lpos : 0 < ns.length := List.length_pos_iff.mpr ne0
        have lpos' : (0 : Int) < ((ns.map V.int).length : Int) := by rw [List.length_map]; omega
        obtain ⟨cell, hcell⟩ := atI_ints (ns := ns) (Int.emod_nonneg sp (by omega)) (Int.emod_lt_of_pos sp lpos')
        refine ⟨_, rfl, p, _, rfl, getC hp2, _, rfl, ⟨_, rfl, p, _, rfl, getC hp2, c, _, rfl, .inl (SqL.of hc2), _, _, rfl, rfl, lpos', c, _, _, _, rfl, rfl, SqL.of hc2, hcell, ?_⟩⟩
        refine ⟨_, rfl, _, rfl, p, _, rfl, getC hp2, c, _, rfl, .inl (SqL.of hc2), _, _, rfl, rfl, _, rfl, ?_⟩
        refine ite2 (fun _ => ?_) (fun _ => ?_)
        · refine ⟨_, rfl, _, rfl, _, _, rfl, rfl, ⟨by decide, by decide, by decide⟩, _, _, rfl, rfl, _, rfl, ?_⟩
          refine ite2 (fun hbig => ?_) (fun _ => ?_)
          · have hbig' := of_decide_eq_true hbig
            refine ⟨_, rfl, _, rfl, _, _, rfl, rfl, ⟨by decide, by decide, by decide⟩, _, _, rfl, rfl, _, rfl, _, _, rfl, rfl, ⟨g0, by omega⟩, _, rfl, p, _, rfl, setM _ hp2, ?_⟩
            refine ⟨_, rfl, _, rfl, _, _, rfl, rfl, ⟨by decide, by decide, by decide⟩, _, _, rfl, rfl, _, rfl, _, _, rfl, rfl, g0, ?_⟩
            exact km _ _ (Int.emod_nonneg _ (by omega)) (Int.emod_lt_of_pos _ g0) (Int.ediv_nonneg (Int.sub_nonneg_of_le hbig') (by omega))
          · refine ⟨_, rfl, _, _, rfl, rfl, (by decide : (0 : Int) < 2147483647), _, _, rfl, rfl, .inl (bnd (by decide) (by decide)), _, rfl, _, _, rfl, rfl, .inl ⟨by decide, by decide⟩, _, rfl, _, _, rfl, rfl, .inl (lim (by omega) (by omega)), _, _, rfl, rfl, _, rfl, _, _, rfl, rfl, .inl ⟨by decide, by decide⟩, _, _, rfl, rfl, _, _, rfl, rfl, _, _, rfl, rfl, (by decide : (0 : Int) < 2147483629), ?_⟩
            refine ⟨_, rfl, _, rfl, _, _, rfl, rfl, .inl (bnd (by decide) (by decide)), _, rfl, _, _, rfl, rfl, .inl ⟨by decide, by decide⟩, _, _, rfl, rfl, _, rfl, _, _, rfl, rfl, .inl ⟨by decide, by decide⟩, _, _, rfl, rfl, _, _, rfl, rfl, _, _, rfl, rfl, (by decide : (0 : Int) < 2147483587), ?_⟩
            refine ⟨_, rfl, _, rfl, _, _, rfl, rfl, _, _, rfl, rfl, .inl (bnd (by decide) (by decide)), _, _, rfl, rfl, (by decide : (0 : Int) < 2147483579), _, _, rfl, rfl, ⟨by decide, by decide⟩, _, rfl, _, _, rfl, rfl, g0, ?_⟩
            exact kd _ (Int.emod_nonneg _ (by omega)) (Int.emod_lt_of_pos _ g0)
        · refine iteF ?_
          refine ⟨_, rfl, _, _, rfl, rfl, (by decide : (0 : Int) < 2147483647), _, _, rfl, rfl, .inl (bnd (by decide) (by decide)), _, rfl, _, _, rfl, rfl, .inl ⟨by decide, by decide⟩, _, rfl, _, _, rfl, rfl, .inl (lim (by omega) (by omega)), _, _, rfl, rfl, _, rfl, _, _, rfl, rfl, .inl ⟨by decide, by decide⟩, _, _, rfl, rfl, _, _, rfl, rfl, _, _, rfl, rfl, (by decide : (0 : Int) < 2147483629), ?_⟩
          refine ⟨_, rfl, _, rfl, _, _, rfl, rfl, .inl (bnd (by decide) (by decide)), _, rfl, _, _, rfl, rfl, .inl ⟨by decide, by decide⟩, _, _, rfl, rfl, _, rfl, _, _, rfl, rfl, .inl ⟨by decide, by decide⟩, _, _, rfl, rfl, _, _, rfl, rfl, _, _, rfl, rfl, (by decide : (0 : Int) < 2147483587), ?_⟩
          refine ⟨_, rfl, _, rfl, _, _, rfl, rfl, _, _, rfl, rfl, .inl (bnd (by decide) (by decide)), _, _, rfl, rfl, (by decide : (0 : Int) < 2147483579), _, _, rfl, rfl, ⟨by decide, by decide⟩, _, rfl, _, _, rfl, rfl, g0, ?_⟩
          exact kd _ (Int.emod_nonneg _ (by omega)) (Int.emod_lt_of_pos _ g0)
end
end Wf
namespace Wf
open PySem L2
abbrev s_InvalidMachine___init : Stmt := inClass (top 3) 0
abbrev N_InvalidMachine___init : List Str := ["self", "state"]
theorem sc_InvalidMachine___init : FnScope N_InvalidMachine___init ["self", "state"] (defScope s_InvalidMachine___init) := ⟨rfl, rfl, rfl, by decide +kernel, rfl, by decide +kernel, by decide +kernel⟩
abbrev s_InvalidText___init : Stmt := inClass (top 4) 0
abbrev N_InvalidText___init : List Str := ["self", "line"]
theorem sc_InvalidText___init : FnScope N_InvalidText___init ["self", "line"] (defScope s_InvalidText___init) := ⟨rfl, rfl, rfl, by decide +kernel, rfl, by decide +kernel, by decide +kernel⟩
abbrev s_TooLarge___init : Stmt := inClass (top 5) 0
abbrev N_TooLarge___init : List Str := ["self", "limit"]
theorem sc_TooLarge___init : FnScope N_TooLarge___init ["self", "limit"] (defScope s_TooLarge___init) := ⟨rfl, rfl, rfl, by decide +kernel, rfl, by decide +kernel, by decide +kernel⟩
section
variable {P : Program} {w : World} {K : PySem.W.Frag} {mg : Str → Option Value} {base : Heap} {fI : Addr} {fd : FuncData}
theorem ok_i_InvalidMachine (F : Fun K "__init__" "InvalidMachine.__init__" s_InvalidMachine___init fI fd) : FnOk P w K mg base CX0 1 fI fd ["self", "state"] (spInit K "state") := by
  refine F.ok sc_InvalidMachine___init (fun vs H Q E h => ?_) (fun cdv A outer s H vs Q E hr h => ?_)
  · obtain ⟨a, C, y, rfl, _⟩ := h
    rfl
  · refine ⟨_, (pss_one (ps_ov (pv 0) (pv 1))), ?_⟩
    obtain ⟨a, C, y, rfl, ea, T, hno, k⟩ := h
    exact ⟨_, rfl, _, rfl, a, C, rfl, T, hno, ea, fun d nd ne => k d nd ne⟩
theorem ok_i_InvalidText (F : Fun K "__init__" "InvalidText.__init__" s_InvalidText___init fI fd) : FnOk P w K mg base CX0 1 fI fd ["self", "line"] (spInit K "line") := by
  refine F.ok sc_InvalidText___init (fun vs H Q E h => ?_) (fun cdv A outer s H vs Q E hr h => ?_)
  · obtain ⟨a, C, y, rfl, _⟩ := h
    rfl
  · refine ⟨_, (pss_one (ps_ov (pv 0) (pv 1))), ?_⟩
    obtain ⟨a, C, y, rfl, ea, T, hno, k⟩ := h
    exact ⟨_, rfl, _, rfl, a, C, rfl, T, hno, ea, fun d nd ne => k d nd ne⟩
theorem ok_i_TooLarge (F : Fun K "__init__" "TooLarge.__init__" s_TooLarge___init fI fd) : FnOk P w K mg base CX0 1 fI fd ["self", "limit"] (spInit K "limit") := by
  refine F.ok sc_TooLarge___init (fun vs H Q E h => ?_) (fun cdv A outer s H vs Q E hr h => ?_)
  · obtain ⟨a, C, y, rfl, _⟩ := h
    rfl
  · refine ⟨_, (pss_one (ps_ov (pv 0) (pv 1))), ?_⟩
    obtain ⟨a, C, y, rfl, ea, T, hno, k⟩ := h
    exact ⟨_, rfl, _, rfl, a, C, rfl, T, hno, ea, fun d nd ne => k d nd ne⟩
end
end Wf
namespace Wf
open PySem L2
abbrev s_law_pick : Stmt := top 37
abbrev N_law_pick : List Str := ["pen", "some"]
theorem sc_law_pick : FnScope N_law_pick ["pen", "some"] (defScope s_law_pick) := ⟨rfl, rfl, rfl, by decide +kernel, rfl, by decide +kernel, by decide +kernel⟩
abbrev s_law_shuffled : Stmt := top 38
abbrev N_law_shuffled : List Str := ["pen", "some", "rest", "found"]
theorem sc_law_shuffled : FnScope N_law_shuffled ["pen", "some"] (defScope s_law_shuffled) := ⟨rfl, rfl, rfl, by decide +kernel, rfl, by decide +kernel, by decide +kernel⟩
def spPick (K : PySem.W.Frag) : Sp := fun vs H Q _ => ∃ (p c : Addr) (n : Nat), Pen H p c n ∧ n < 1000000 ∧
  ((∃ (a : Addr) (xs : List V), vs = [.ref p, .ref a] ∧ (SqL K H a xs ∨ SqT K H a xs) ∧ 0 < xs.length ∧ xs.length < 1000000 ∧ ∀ (x : V) (H' : Hp), x ∈ xs → But p H H' → Pen H' p c (n + 1) → Q x H') ∨
   (∃ z : Str, vs = [.ref p, .str z] ∧ 0 < z.length ∧ z.length < 1000000 ∧ ∀ (ch : Nat) (H' : Hp), ch ∈ z.cps.toList → But p H H' → Pen H' p c (n + 1) → Q (.str ⟨#[ch]⟩) H'))
def spShuffled (K : PySem.W.Frag) : Sp := fun vs H Q _ => ∃ (p c a : Addr) (n : Nat) (xs : List V), vs = [.ref p, .ref a] ∧ Pen H p c n ∧ (SqL K H a xs ∨ SqT K H a xs) ∧ xs.length ≤ 10000 ∧ n + xs.length < 1000000 ∧ Dat K H xs ∧
  ∀ (l : Addr) (ys : List V) (H' : Hp), But p H H' → Pen H' p c (n + xs.length) → H l = none → H' l = some (.lst ys) → ys.Perm xs → Q (.ref l) H'
theorem atI_mem {α : Type} {xs : List α} {i : Int} {y : α} (h : atI xs i = some y) : y ∈ xs := by
  unfold atI at h
  obtain ⟨j, _, hj⟩ := Option.bind_eq_some_iff.mp h
  exact List.mem_of_getElem? hj
theorem seqIx {j n : Nat} (h : j < n) : seqIndex? (j : Int) n = some j := by
  have e : ixN n (j : Int) = some j := by
    unfold ixN
    rw [if_pos (by omega), if_pos (by omega)]
    simp
  exact (ixN_seq e).1
theorem take_out {α : Type} : ∀ {xs : List α} {j : Nat} (h : j < xs.length), (xs[j] :: xs.eraseIdx j).Perm xs
  | x :: xs, 0, _ => List.Perm.refl _
  | x :: xs, j + 1, h => by
    have e := take_out (xs := xs) (j := j) (Nat.lt_of_succ_lt_succ h)
    exact (List.Perm.swap x _ _).trans (List.Perm.cons x e)
section
variable {P : Program} {w : World} {K : PySem.W.Frag} {mg : Str → Option Value} {base : Heap}
theorem ok_pick {f : Addr} {fd : FuncData} (F : Fun K "_law_pick" "_law_pick" s_law_pick f fd) (T : Txt K mg) (D_law_draw : Dn P w K mg base 1 "_law_draw" ["pen", "many"] spDraw) : FnOk P w K mg base CX0 2 f fd ["pen", "some"] (spPick K) := by
  refine F.ok sc_law_pick (fun vs H Q E h => ?_) (fun cdv A outer s H vs Q E hr h => ?_)
  · obtain ⟨p, c, n, _, _, ⟨a, xs, rfl, _⟩ | ⟨z, rfl, _⟩⟩ := h <;> rfl
  · refine ⟨_, (pss_one (ps_ret (pe_ix ix_seq (pv 1) (pe_cl D_law_draw (hr.mono (by decide)) (pa_cons (pv 0) (pa_cons (pe_callB call_len (by rfl) T.z_len PySem.boot_len (pa_cons (pv 1) pa_nil)) pa_nil))) (fun _ _ => rfl)))), ?_⟩
    obtain ⟨p, c, n, hp, hn, ⟨a, xs, rfl, hs, l0, l1, k⟩ | ⟨z, rfl, l0, l1, k⟩⟩ := h
    · have hlen : LenV K (.ref a) H xs.length := hs.elim (fun h => .inl ⟨xs, h, rfl⟩) (fun h => .inr ⟨xs, h, rfl⟩)
      refine ⟨_, rfl, _, rfl, _, rfl, _, _, rfl, hlen, p, c, n, _, rfl, hp, by omega, by omega, by omega, fun d H' d0 d1 bt hp' => ?_⟩
      obtain ⟨y, hy⟩ := atI_in d0 d1
      rcases hs with hs | hs
      · exact .inl ⟨a, xs, d, y, rfl, rfl, bt.sql hp hs, hy, k y H' (atI_mem hy) bt hp'⟩
      · exact .inr (.inl ⟨a, xs, d, y, rfl, rfl, bt.sqt hp hs, hy, k y H' (atI_mem hy) bt hp'⟩)
    · have hz : z.length ≤ sizeLine := by rw [sizeLine_eq]; omega
      refine ⟨_, rfl, _, rfl, _, rfl, _, _, rfl, ⟨hz, rfl⟩, p, c, n, _, rfl, hp, by omega, by omega, by omega, fun d H' d0 d1 bt hp' => ?_⟩
      obtain ⟨ch, hc⟩ := atI_in (xs := z.cps.toList) d0 (by rw [Array.length_toList]; exact d1)
      exact .inr (.inr ⟨z, d, ch, rfl, rfl, hz, hc, k ch H' (atI_mem hc) bt hp'⟩)
theorem ok_shuffled {f : Addr} {fd : FuncData} (F : Fun K "_law_shuffled" "_law_shuffled" s_law_shuffled f fd) (T : Txt K mg) (D_law_draw : Dn P w K mg base 1 "_law_draw" ["pen", "many"] spDraw) : FnOk P w K mg base CX0 2 f fd ["pen", "some"] (spShuffled K) := by
  refine F.ok sc_law_shuffled (fun vs H Q E h => ?_) (fun cdv A outer s H vs Q E hr h => ?_)
  · obtain ⟨p, c, a, n, xs, rfl, _⟩ := h
    rfl
  · refine ⟨_, (pss_cons (ps_par (i := 2) (j := 3) (by rfl) sc_law_shuffled.nd rfl rfl (by decide) rfl rfl (pa_cons (pe_callTy call_list_of (by rfl) T.z_list (by decide +kernel) (pa_cons (pv 1) pa_nil)) (pa_cons (pe_lst pa_nil) pa_nil)) (by rfl))
  (pss_cons (ps_while PassesOwn.never (pt_cmpR (op_neD hr.units) (pv 2) (pe_lst pa_nil) (nomark _)) (pss_one (ps_expr (pe_bm PySem.F.plainAttrs_list PySem.F.slot_list_append PySem.F.type_list_append mt_append (pv 3) (pa_cons (pe_bm PySem.F.plainAttrs_list PySem.F.slot_list_pop PySem.F.type_list_pop mt_popAt (pv 2) (pa_cons (pe_cl D_law_draw (hr.mono (by decide)) (pa_cons (pv 0) (pa_cons (pe_callB call_len_seq (by rfl) T.z_len PySem.boot_len (pa_cons (pv 2) pa_nil)) pa_nil))) pa_nil)) pa_nil)))))
  (pss_one (ps_ret (pv 3))))), ?_⟩
    obtain ⟨p, c, a, n, xs, rfl, hp, hs, hl, hn, hd, k⟩ := h
    refine ⟨_, rfl, a, xs, rfl, hs, fun r hr0 => ?_⟩
    refine ⟨Nat.zero_le _, fun g hg0 => ?_⟩
    refine ⟨_, _, rfl, ?_⟩
    have rg : r ≠ g := ne_of_none upd_same hg0
    have hg1 : H g = none := by rw [upd_ne rg.symm] at hg0; exact hg0
    have rp : r ≠ p := fun z => by
      obtain ⟨kvs, e⟩ := hp.at
      rw [z, e] at hr0
      cases hr0
    have gp : g ≠ p := fun z => by
      obtain ⟨kvs, e⟩ := hp.at
      rw [z, e] at hg1
      cases hg1
    have cr : c ≠ r := fun z => by
      obtain ⟨ys, e⟩ := hp.cell
      rw [z, hr0] at e
      cases e
    have cg : c ≠ g := fun z => by
      obtain ⟨ys, e⟩ := hp.cell
      rw [z, hg1] at e
      cases e
    refine while_by (fun σ H' => ∃ (rs gs : List V), σ = [some (.ref p), some (.ref a), some (.ref r), some (.ref g)] ∧ But p H H' ∧ Pen H' p c (n + gs.length) ∧ H' r = some (.lst rs) ∧ H' g = some (.lst gs) ∧ (gs ++ rs).Perm xs)
      (fun _ H' => match H' r with | some (.lst rs) => rs.length | _ => 0) ?_ ?_ ?_
    · have s2 : Same H (upd (upd H r (.lst xs)) g (.lst [])) := fun b o e => by rw [upd_ne (ne_of_none e hg1), upd_ne (ne_of_none e hr0)]; exact e
      exact ⟨xs, [], rfl, But.of s2, hp.same s2, by rw [upd_ne rg, upd_same], upd_same, List.Perm.refl _⟩
    · rintro σ H' ⟨rs, gs, rfl, bt, hp', hr1, hg2, pm⟩
      have plen : gs.length + rs.length = xs.length := by rw [← List.length_append]; exact pm.length_eq
      have dt : Dat K H' rs := (hd.sub fun y hy => pm.mem_iff.mp (List.mem_append_right _ hy)).stay (bt.stay hp)
      refine ⟨_, rfl, Nat.zero_le _, fun l hl0 => ?_⟩
      have rl : r ≠ l := ne_of_none hr1 hl0
      have gl : g ≠ l := ne_of_none hg2 hl0
      have s3 : Same H' (upd H' l (.lst [])) := fun b o e => by rw [upd_ne (ne_of_none e hl0)]; exact e
      refine data_ne (SqL.of (s3 _ _ hr1)) (dt.stay (Stay.of s3)) (SqL.of upd_same) ?_
      have bt3 := bt.same s3
      have hp3 := hp'.same s3
      have hr3 := s3 _ _ hr1
      have hg3 := s3 _ _ hg2
      have mu : (match H' r with | some (.lst rs) => rs.length | _ => 0) = rs.length := by rw [hr1]
      rw [mu]
      generalize upd H' l (.lst []) = H3 at bt3 hp3 hr3 hg3 ⊢
      refine ⟨_, rfl, ?_⟩
      cases hrs : rs with
      | nil =>
        refine iteF ?_
        refine ⟨_, rfl, ?_⟩
        subst hrs
        rw [List.append_nil] at pm
        refine k g gs H3 bt3 ?_ hg1 hg3 pm
        rw [← pm.length_eq]
        exact hp3
      | cons z zs =>
        refine iteT ?_
        have rpos : 0 < rs.length := by rw [hrs]; exact Nat.succ_pos _
        rw [← hrs]
        refine ⟨_, rfl, .inl ⟨rfl, _, SqL.of hg3⟩, _, rfl, .inl ⟨rfl, _, SqL.of hr3⟩, _, rfl, _, rfl, r, _, rfl, .inl (SqL.of hr3), p, c, _, _, rfl, hp3, by omega, by omega, by omega, fun d H4 d0 d1 bt4 hp4 => ?_⟩
        obtain ⟨j, rfl⟩ := Int.eq_ofNat_of_zero_le d0
        have hj : j < rs.length := by omega
        have hr4 : H4 r = some (.lst rs) := bt4 _ _ rp hr3
        have hg4 : H4 g = some (.lst gs) := bt4 _ _ gp hg3
        refine ⟨r, rs, (j : Int), j, rs[j], rfl, rfl, hr4, by omega, by omega, seqIx hj, List.getElem?_eq_getElem hj, ?_⟩
        refine ⟨g, gs, _, rfl, rfl, by rw [upd_ne rg.symm]; exact hg4, ?_, ?_⟩
        · have : gs.length ≤ 10000 := by omega
          exact Nat.lt_of_le_of_lt this (by decide)
        · refine ⟨⟨rs.eraseIdx j, gs ++ [rs[j]], rfl, fun b o hb e => ?_, ?_, by rw [upd_ne rg, upd_same], upd_same, ?_⟩, ?_⟩
          · rw [upd_ne (ne_of_none e hg1), upd_ne (ne_of_none e hr0)]
            exact bt4 b o hb (bt3 b o hb e)
          · rw [List.length_append, ← Nat.add_assoc]
            refine hp4.keep fun b o hb e => ?_
            have n1 : b ≠ g := by
              rcases hb with rfl | rfl
              · exact gp.symm
              · exact fun z => cg z
            have n2 : b ≠ r := by
              rcases hb with rfl | rfl
              · exact rp.symm
              · exact fun z => cr z
            rw [upd_ne n1, upd_ne n2]
            exact e
          · have e1 : (rs.eraseIdx j).Perm (rs.eraseIdx j) := List.Perm.refl _
            have e2 : (rs[j] :: rs.eraseIdx j).Perm rs := take_out hj
            rw [List.append_assoc]
            exact (List.Perm.append_left gs e2).trans pm
          · show (match (upd (upd H4 r (.lst (rs.eraseIdx j))) g (.lst (gs ++ [rs[j]]))) r with | some (.lst rs) => rs.length | _ => 0) < rs.length
            rw [upd_ne rg, upd_same]
            show (rs.eraseIdx j).length < rs.length
            rw [List.length_eraseIdx_of_lt hj]
            omega
    · intro σ H' Q' Q'' hQ h
      obtain ⟨v, e, z, kk⟩ := h
      refine ⟨v, e, z, fun l hl0 => ?_⟩
      obtain ⟨d, e', a1, a2, a3, a4, b, eb, q⟩ := kk l hl0
      exact ⟨d, e', a1, a2, a3, a4, b, eb, hQ _ _ q⟩
end
end Wf
namespace Wf
open PySem L2
abbrev s_law_letters : Stmt := top 39
abbrev N_law_letters : List Str := ["pen", "most", "alphabet", "places", "at"]
theorem sc_law_letters : FnScope N_law_letters ["pen", "most"] (defScope s_law_letters) := ⟨rfl, rfl, rfl, by decide +kernel, rfl, by decide +kernel, by decide +kernel⟩
/-- letters: in ascending order, all different -/
def Ltrs (z : Str) (most : Nat) : Prop := z.cps.toList.Pairwise (· < ·) ∧ (∀ ch ∈ z.cps.toList, 97 ≤ ch ∧ ch ≤ 122) ∧ 1 ≤ z.length ∧ z.length ≤ most
def spLetters : Sp := fun vs H Q _ => ∃ (p c : Addr) (n : Nat) (most : Int), vs = [.ref p, .int most] ∧ Pen H p c n ∧ n < 900000 ∧ 1 ≤ most ∧ most ≤ 26 ∧
  ∀ (z : Str) (H' : Hp), But p H H' → Pen H' p c (n + 27) → Ltrs z most.toNat → Q (.str z) H'
def spWord : Sp := fun vs H Q _ => ∃ (p c : Addr) (n : Nat) (z : Str) (most : Int), vs = [.ref p, .str z, .int most] ∧ Pen H p c n ∧ n < 900000 ∧ 0 < z.length ∧ z.length < 1000 ∧ 0 ≤ most ∧ most < 1000 ∧
  ∀ (y : Str) (H' : Hp), But p H H' → Pen H' p c (n + 1 + most.toNat) → y.length ≤ most.toNat → (∀ ch ∈ y.cps.toList, ch ∈ z.cps.toList) → Q (.str y) H'
theorem perm_of_map {α β : Type} {f : α → β} : ∀ {l : List α} {ys : List β}, ys.Perm (l.map f) → ∃ l' : List α, ys = l'.map f ∧ l'.Perm l
  | [], ys, h => ⟨[], by rw [List.map_nil] at h; exact List.Perm.eq_nil h, .refl _⟩
  | a :: l, ys, h => by
    have hm : f a ∈ ys := h.mem_iff.mpr List.mem_cons_self
    obtain ⟨s, t, rfl⟩ := List.append_of_mem hm
    have h2 : (s ++ t).Perm (l.map f) := by
      have h3 : (f a :: (s ++ t)).Perm (f a :: l.map f) := (List.perm_middle.symm).trans h
      exact List.Perm.cons_inv h3
    obtain ⟨l', e, pm⟩ := perm_of_map h2
    obtain ⟨l1, l2, rfl, e1, e2⟩ := List.map_eq_append_iff.mp e.symm
    refine ⟨l1 ++ a :: l2, by rw [List.map_append, List.map_cons, e1, e2], List.perm_middle.trans (List.Perm.cons a pm)⟩
theorem cut_front {α : Type} {f : α → V} {ns : List α} {k : Int} (h : 0 ≤ k) : cutV (ns.map f) none (some k) = (ns.take k.toNat).map f := by
  unfold cutV
  have e1 : HT.sIx (ns.map f).length 0 Option.none = 0 := rfl
  have e2 : HT.sIx (ns.map f).length (ns.map f).length (some k) = min k.toNat ns.length := by
    rw [List.length_map]
    obtain ⟨j, rfl⟩ := Int.eq_ofNat_of_zero_le h
    exact HT.sIx_nat ns.length ns.length j
  rw [e1, e2, List.drop_zero, Nat.sub_zero, ← List.map_take]
  congr 1
  by_cases q : k.toNat ≤ ns.length
  · rw [Nat.min_eq_left q]
  · rw [Nat.min_eq_right (by omega), List.take_of_length_le (Nat.le_refl _), List.take_of_length_le (by omega)]
theorem str_app (x y : Str) : (x ++ y).cps.toList = x.cps.toList ++ y.cps.toList := Array.toList_append
theorem join_empty : ∀ ys : List Str, (Txt.join ("" : Str) ys).cps.toList = ys.flatMap fun y => y.cps.toList
  | [] => rfl
  | [y] => by
    show y.cps.toList = [y].flatMap _
    simp
  | y :: z :: r => by
    have e := join_empty (z :: r)
    have e2 : Txt.join ("" : Str) (y :: z :: r) = y ++ ("" : Str) ++ Txt.join ("" : Str) (z :: r) := by
      unfold Txt.join
      rw [StrLaws.glued_eq_join, StrLaws.glued_eq_join]
      rfl
    rw [e2, str_app, str_app, e]
    show (y.cps.toList ++ []) ++ _ = _
    rw [List.append_nil]
    simp
/-- 0 to 25 -/
def i26 : List Int := (List.range 26).map fun i => (0 : Int) + (i : Nat)
theorem rg26 : rgV 0 26 = i26.map V.int := by
  unfold rgV i26
  rw [List.map_map]
  rfl
theorem i26_nd : i26.Nodup := by decide
theorem i26_in : ∀ i ∈ i26, 0 ≤ i ∧ i ≤ 25 := by decide
theorem i26_len : i26.length = 26 := by decide
def abc : Str := "abcdefghijklmnopqrstuvwxyz"
theorem abc_at : ∀ i ∈ i26, atI abc.cps.toList i = some (97 + i.toNat) := by decide +kernel
/-- one letter, by its place -/
def sg (i : Int) : Str := ⟨#[97 + i.toNat]⟩
theorem sg_all : ∀ ks : List Int, ((ks.map sg).flatMap fun y : Str => y.cps.toList) = ks.map fun i => 97 + i.toNat
  | [] => rfl
  | i :: ks => by
    rw [List.map_cons, List.flatMap_cons, sg_all ks]
    rfl
theorem sg_len (ks : List Int) : ((ks.map sg).map (·.length)).sum = ks.length := by
  induction ks with
  | nil => rfl
  | cons i ks ih =>
    rw [List.map_cons, List.map_cons, List.sum_cons, ih, List.length_cons]
    show 1 + ks.length = ks.length + 1
    omega
theorem asc_of {ks : List Int} (h : ks.Pairwise (· ≤ ·)) (nd : ks.Nodup) (b : ∀ i ∈ ks, 0 ≤ i) : (ks.map fun i => 97 + i.toNat).Pairwise (· < ·) := by
  rw [List.pairwise_map]
  have h2 : ks.Pairwise fun a b => a ≤ b ∧ a ≠ b := h.and nd
  refine List.Pairwise.imp_of_mem (fun ha hb hab => ?_) h2
  have := b _ ha
  have := b _ hb
  omega
theorem ones {z : Str} : ∀ {ys : List Str}, (∀ y ∈ ys, ∃ ch ∈ z.cps.toList, y = (⟨#[ch]⟩ : Str)) → (ys.map (·.length)).sum = ys.length
  | [], _ => rfl
  | y :: ys, h => by
    obtain ⟨ch, _, rfl⟩ := h y List.mem_cons_self
    rw [List.map_cons, List.sum_cons, ones (ys := ys) fun x hx => h x (List.mem_cons_of_mem _ hx), List.length_cons]
    show 1 + ys.length = ys.length + 1
    omega
section
variable {P : Program} {w : World} {K : PySem.W.Frag} {mg : Str → Option Value} {base : Heap}
theorem ok_letters {f : Addr} {fd : FuncData} (F : Fun K "_law_letters" "_law_letters" s_law_letters f fd) (T : Txt K mg) (D_law_draw : Dn P w K mg base 1 "_law_draw" ["pen", "many"] spDraw)
    (D_law_shuffled : Dn P w K mg base 2 "_law_shuffled" ["pen", "some"] (spShuffled K)) : FnOk P w K mg base CX0 3 f fd ["pen", "most"] spLetters := by
  refine F.ok sc_law_letters (fun vs H Q E h => ?_) (fun cdv A outer s H vs Q E hr h => ?_)
  · obtain ⟨p, c, n, most, rfl, _⟩ := h
    rfl
  · refine ⟨_, (pss_cons (ps_set (i := 2) sc_law_letters.nd rfl (Or.inr rfl) (pe_str))
  (pss_cons (ps_set (i := 3) sc_law_letters.nd rfl (Or.inl rfl) (pe_callB cr_sorted (by rfl) T.z_sorted (by decide +kernel) (pa_cons (pe_slice sl_list (pe_cl D_law_shuffled (hr.mono (by decide)) (pa_cons (pv 0) (pa_cons (pe_listRg rfl (by rfl) T.z_list (prg_1 (by rfl) T.z_range (pe_int))) pa_nil))) po_none (po_some (pe_op op_add (pe_int) (pe_cl D_law_draw (hr.mono (by decide)) (pa_cons (pv 0) (pa_cons (pv 1) pa_nil)))))) pa_nil)))
  (pss_one (ps_ret (pe_join (pe_str) (pe_lc (own := [("at", 4)]) (g := gName 4) (tt := tYes) (by rfl) sc_law_letters.nd (pi_list (pv 3)) (blkOk_by (own := [("at", 4)]) (N := N_law_letters) (sc := defScope s_law_letters) (by decide +kernel)) (fun _ _ _ _ _ => (pg_name (i := 4) sc_law_letters.nd rfl (Or.inl rfl))) (fun _ _ _ _ _ => pts_nil) (fun _ _ _ _ _ => (pe_ix ix_str (pv 2) (pv 4) (fun _ _ => rfl))))))))), ?_⟩
    obtain ⟨p, c, n, most, rfl, hp, hn, m1, m2, k⟩ := h
    refine ⟨_, rfl, _, rfl, RgOk.of_le (by decide) (by decide) (by decide) (by decide), fun q hq => ?_⟩
    rw [rg26]
    have s1 : Same H (upd H q (.lst (i26.map V.int))) := fun b o e => by rw [upd_ne (ne_of_none e hq)]; exact e
    have hp1 := hp.same s1
    have bt1 : But p H (upd H q (.lst (i26.map V.int))) := But.of s1
    have hq1 : SqL K (upd H q (.lst (i26.map V.int))) q (i26.map V.int) := SqL.of upd_same
    generalize upd H q (.lst (i26.map V.int)) = H1 at s1 hp1 bt1 hq1 ⊢
    refine ⟨p, c, q, n, i26.map V.int, rfl, hp1, .inl hq1, by rw [List.length_map, i26_len]; decide, by rw [List.length_map, i26_len]; omega, fun x hx => ?_, fun l ys H2 bt2 hp2 hl0 hl2 pm => ?_⟩
    · obtain ⟨i, _, rfl⟩ := List.mem_map.mp hx
      exact ⟨.int i, .int i, pl_int⟩
    obtain ⟨ns, rfl, pn⟩ := perm_of_map pm
    rw [List.length_map, i26_len] at hp2
    refine ⟨_, rfl, _, rfl, p, c, n + 26, most, rfl, hp2, by omega, by omega, by omega, fun d H3 d0 d1 bt3 hp3 => ?_⟩
    have hl3 : SqL K H3 l (ns.map V.int) := bt3.sql hp2 (SqL.of hl2)
    refine ⟨_, _, rfl, rfl, _, rfl, l, _, rfl, hl3, fun r hr0 => ?_⟩
    rw [cut_front (by omega)]
    have s4 : Same H3 (upd H3 r (.lst ((ns.take (1 + d).toNat).map V.int))) := fun b o e => by rw [upd_ne (ne_of_none e hr0)]; exact e
    have bt4 := ((bt1.trans bt2).trans bt3).same s4
    have hp4 := hp3.same s4
    have hr4 : SqL K (upd H3 r (.lst ((ns.take (1 + d).toNat).map V.int))) r ((ns.take (1 + d).toNat).map V.int) := SqL.of upd_same
    generalize upd H3 r (.lst ((ns.take (1 + d).toNat).map V.int)) = H4 at s4 bt4 hp4 hr4 ⊢
    have nl : ns.length = 26 := by rw [pn.length_eq, i26_len]
    have kl : (ns.take (1 + d).toNat).length = (1 + d).toNat := by rw [List.length_take, nl]; omega
    refine ⟨r, _, rfl, hr4, by rw [kl]; omega, fun ks q5 pk ok hq5 => ?_⟩
    have s5 : Same H4 (upd H4 q5 (.lst (ks.map V.int))) := fun b o e => by rw [upd_ne (ne_of_none e hq5)]; exact e
    have bt5 := bt4.same s5
    have hp5 := hp4.same s5
    have hr5 : SqL K (upd H4 q5 (.lst (ks.map V.int))) q5 (ks.map V.int) := SqL.of upd_same
    generalize upd H4 q5 (.lst (ks.map V.int)) = H5 at s5 bt5 hp5 hr5 ⊢
    have k_in : ∀ i ∈ ks, i ∈ i26 := fun i hi => pn.mem_iff.mp (List.mem_of_mem_take (pk.mem_iff.mp hi))
    have k_nd : ks.Nodup := pk.nodup_iff.mpr ((pn.nodup_iff.mpr i26_nd).sublist (List.take_sublist _ _))
    have k_len : ks.length = (1 + d).toNat := by rw [pk.length_eq, kl]
    refine ⟨⟨_, rfl⟩, _, rfl, q5, rfl, ⟨_, hr5⟩, fun D hD => lc_list (K := K) (a := q5) (xs := ks.map V.int) (fun i H' => Same H5 H' ∧ H' D = some (.lst (((ks.take i).map sg).map V.str))) ?_ ?_ ?_ ?_⟩
    · exact ⟨fun b o e => by rw [upd_ne (ne_of_none e hD)]; exact e, upd_same⟩
    · rintro i H' _ ⟨sm, _⟩
      exact sm.seq hr5
    · rintro i x H' hi ⟨sm, hD'⟩
      rw [List.getElem?_map] at hi
      obtain ⟨m, hm, rfl⟩ := Option.map_eq_some_iff.mp hi
      have hmem : m ∈ ks := List.mem_of_getElem? hm
      refine ⟨rfl, ?_⟩
      refine ⟨_, rfl, _, rfl, abc, m, _, rfl, rfl, by decide +kernel, abc_at m (k_in m hmem), ?_⟩
      refine ⟨_, hD', ?_, fun b o e => ?_, ?_⟩
      · rw [List.length_map, List.length_map]
        have : (ks.take i).length ≤ 26 := by rw [List.length_take, k_len]; omega
        exact Nat.lt_of_le_of_lt this (by decide)
      · rw [upd_ne (ne_of_none e hD)]
        exact sm b o e
      · rw [upd_same, List.take_succ, hm, List.map_append, List.map_append]
        rfl
    · rintro H' ⟨sm, hD'⟩
      rw [List.length_map, List.take_length] at hD'
      refine ⟨_, D, ks.map sg, rfl, rfl, .inl (SqL.of hD'), ?_, ?_⟩
      · rw [sg_len, List.length_map]
        show ks.length + ks.length * 0 ≤ 16777216
        omega
      · have e := (join_empty (ks.map sg)).trans (sg_all ks)
        have b0 : ∀ i ∈ ks, 0 ≤ i := fun i hi => (i26_in i (k_in i hi)).1
        refine k _ H' (bt5.same sm) (hp5.same sm) ⟨?_, ?_, ?_, ?_⟩
        · rw [e]
          exact asc_of ok k_nd b0
        · rw [e]
          intro ch hch
          obtain ⟨i, hi, rfl⟩ := List.mem_map.mp hch
          have := i26_in i (k_in i hi)
          omega
        all_goals
          have el := congrArg List.length e
          rw [Array.length_toList, List.length_map, k_len] at el
          show _ ≤ _
          first | (show 1 ≤ (Txt.join _ _).cps.size; omega) | (show (Txt.join _ _).cps.size ≤ _; omega)
end
end Wf
namespace Wf
open PySem L2
abbrev s_law_table : Stmt := top 40
abbrev N_law_table : List Str := ["pen", "letters", "size", "is_full", "rows", "marks", "state", "row", "letter", "target"]
theorem sc_law_table : FnScope N_law_table ["pen", "letters", "size", "is_full"] (defScope s_law_table) := ⟨rfl, rfl, rfl, by decide +kernel, rfl, by decide +kernel, by decide +kernel⟩
section
variable {P : Program} {w : World} {K : PySem.W.Frag} {mg : Str → Option Value} {base : Heap}
theorem ok_table {f : Addr} {fd : FuncData} (F : Fun K "_law_table" "_law_table" s_law_table f fd) (T : Txt K mg) (D_law_draw : Dn P w K mg base 1 "_law_draw" ["pen", "many"] spDraw) : FnOk P w K mg base CX0 2 f fd ["pen", "letters", "size", "is_full"] spTable := by
  refine F.ok sc_law_table (fun vs H Q E h => ?_) (fun cdv A outer s H vs Q E hr h => ?_)
  · obtain ⟨p, c, n, z, sz, full, rfl, _⟩ := h
    rfl
  · refine ⟨_, (pss_cons (ps_par (i := 4) (j := 5) (by rfl) sc_law_table.nd rfl rfl (by decide) rfl rfl (pa_cons (pe_lst pa_nil) (pa_cons (pe_lst pa_nil) pa_nil)) (by rfl))
  (pss_cons (ps_for PassesOwn.never rfl (pi_range1 (by rfl) T.z_range (pa_cons (pv 2) pa_nil)) (pg_name (i := 6) sc_law_table.nd rfl (Or.inl rfl))
   (pss_cons (ps_setLc (i := 7) (own := [("letter", 8)]) (g := gName 8) (tt := tYes) (by rfl) sc_law_table.nd rfl rfl (sw_true rfl rfl rfl (by decide +kernel)) (pi_str (pv 1)) (blkOk_by (own := [("letter", 8)]) (N := N_law_table) (sc := defScope s_law_table) (by decide +kernel)) (fun _ _ _ _ _ => (pg_name (i := 8) sc_law_table.nd rfl (Or.inl rfl))) (fun _ _ _ _ _ => pts_nil) (fun _ _ _ _ _ => (pe_cl D_law_draw (hr.mono (by decide)) (pa_cons (pv 0) (pa_cons (pv 2) pa_nil)))))
  (pss_cons (ps_expr (pe_bm PySem.F.plainAttrs_list PySem.F.slot_list_append PySem.F.type_list_append mt_append (pv 5) (pa_cons (pe_ix ix_list (pe_lst (pa_cons (pe_bl) (pa_cons (pe_bl) (pa_cons (pe_non) pa_nil)))) (pe_cl D_law_draw (hr.mono (by decide)) (pa_cons (pv 0) (pa_cons (pe_ifExp (pt_val (pv 3)) (pe_int) (pe_int)) pa_nil))) (fun _ _ => rfl)) pa_nil)))
  (pss_one (ps_expr (pe_bm PySem.F.plainAttrs_list PySem.F.slot_list_append PySem.F.type_list_append mt_append (pv 4) (pa_cons (pe_lc (own := [("target", 9)]) (g := gName 9) (tt := tYes) (by rfl) sc_law_table.nd (pi_list (pv 7)) (blkOk_by (own := [("target", 9)]) (N := N_law_table) (sc := defScope s_law_table) (by decide +kernel)) (fun _ _ _ _ _ => (pg_name (i := 9) sc_law_table.nd rfl (Or.inl rfl))) (fun _ _ _ _ _ => pts_nil) (fun _ _ _ _ _ => (pe_ifExp (PW.pt (pw_or (pt_val (pv 3)) (pw_or1 (pt_cmpR op_gt (pe_cl D_law_draw (hr.mono (by decide)) (pa_cons (pv 0) (pa_cons (pe_int) pa_nil))) (pe_int) (nomark _))))) (pv 9) (pe_non)))) pa_nil)))))))
  (pss_one (ps_ret (pe_tup (pa_cons (pv 4) (pa_cons (pv 5) pa_nil))))))), ?_⟩
    obtain ⟨p, c, n, z, sz, full, rfl, hp, s0, s1, z1, hn, k⟩ := h
    refine ⟨Nat.zero_le _, fun r hr0 => ⟨Nat.zero_le _, fun m hm0 => ⟨_, _, rfl, ?_⟩⟩⟩
    have rm : r ≠ m := ne_of_none upd_same hm0
    have s2 : Same H (upd (upd H r (.lst [])) m (.lst [])) := (sm1 hr0).trans (sm1 hm0)
    have hm1 : H m = none := by rw [upd_ne rm.symm] at hm0; exact hm0
    have T0 : Tbl H (upd (upd H r (.lst [])) m (.lst [])) z.length sz full r m [] [] [] := Tbl.start ((upd_ne rm).trans upd_same) upd_same hr0 hm1 rm
    have hp2 := hp.same s2
    have bt2 : But p H _ := But.of s2
    generalize upd (upd H r (.lst [])) m (.lst []) = H2 at s2 T0 hp2 bt2 ⊢
    refine ⟨_, rfl, _, rfl, by omega, by omega, ?_⟩
    rw [show (sz : Int).toNat = sz from rfl]
    refine for_range (n := sz) (fun i σ H' => ∃ (v6 v7 v8 v9 : Option V) (bs : List Addr) (tb : List (List (Option Nat))) (ms : List (Option Bool)), σ = [some (.ref p), some (.str z), some (.int sz), some (.bl full), some (.ref r), some (.ref m), v6, v7, v8, v9] ∧
      But p H H' ∧ Pen H' p c (n + i * (2 * z.length + 1)) ∧ Tbl H H' z.length sz full r m bs tb ms ∧ tb.length = i ∧ ms.length = i) ⟨_, _, _, _, [], [], [], rfl, bt2, by rw [Nat.zero_mul]; exact hp2, T0, rfl, rfl⟩ ?_ ?_
    · rintro i σ H3 hi ⟨v6, v7, v8, v9, bs, tb, ms, rfl, bt3, hp3, T3, lt3, lm3⟩
      have room : n + i * (2 * z.length + 1) + (2 * z.length + 1) < 1000000 := by
        have := Nat.mul_le_mul_right (2 * z.length + 1) (show i + 1 ≤ sz from hi)
        rw [Nat.succ_mul] at this
        omega
      have more : n + (i + 1) * (2 * z.length + 1) = n + i * (2 * z.length + 1) + (2 * z.length + 1) := by rw [Nat.succ_mul, Nat.add_assoc]
      rw [more]
      generalize n + i * (2 * z.length + 1) = n3 at hp3 room ⊢
      -- row
      refine ⟨_, rfl, z, rfl, fun D hD => ?_⟩
      obtain ⟨Dp, Dc⟩ := hp3.off hD
      obtain ⟨Dr, Dm, Db⟩ := T3.off hD
      refine lc_chars (fun j H' => But p H3 H' ∧ Pen H' p c (n3 + j) ∧ ∃ ns : List Nat, H' D = some (.lst ((ns.map some).map oV)) ∧ ns.length = j ∧ ∀ x ∈ ns, x < sz) ⟨But.of (sm1 hD), hp3.same (sm1 hD), [], upd_same, rfl, fun x hx => absurd hx List.not_mem_nil⟩ ?_ ?_
      · rintro j ch H' hj ⟨bt', hp', ns, hD', nl, nlt⟩
        have jl : j < z.length := by
          obtain ⟨q, _⟩ := List.getElem?_eq_some_iff.mp hj
          rw [Array.length_toList] at q
          exact q
        refine ⟨rfl, _, rfl, _, rfl, p, c, _, sz, rfl, hp', by omega, by omega, by omega, fun d H4 d0 d1 bt4 hp4 => ?_⟩
        refine ⟨_, bt4 _ _ Dp hD', small1000 (by rw [List.length_map, List.length_map]; omega), (bt'.trans bt4).new hD, (hp4.wr Dp Dc).up (by omega), ns ++ [d.toNat], ?_, ?_, fun x hx => ?_⟩
        · rw [upd_same, List.map_append, List.map_append]
          have e : V.int d = oV (some d.toNat) := by
            show V.int d = V.int (d.toNat : Nat)
            rw [Int.toNat_of_nonneg d0]
          rw [e]
          rfl
        · rw [List.length_append, nl]
          rfl
        · rcases List.mem_append.mp hx with hx | hx
          · exact nlt x hx
          · rw [List.mem_singleton.mp hx]
            omega
      rintro H4 ⟨bt4, hp4, ns, hD4, nl, nlt⟩
      have T4 := T3.but bt4 hp3
      -- marks.append
      refine ⟨_, rfl, .inl ⟨rfl, _, SqL.of T4.ma⟩, by show 3 ≤ sizeLine; decide, fun q hq => ?_⟩
      have s5 := sm1 (o := .lst [.bl false, .bl true, .non]) hq
      have T5 := T4.same s5
      have hp5 := hp4.same s5
      have hD5 := s5 _ _ hD4
      have hq5 : (upd H4 q (.lst [.bl false, .bl true, .non])) q = some (.lst [.bl false, .bl true, .non]) := upd_same
      have bt5 := bt4.same s5
      generalize upd H4 q (.lst [.bl false, .bl true, .non]) = H5 at s5 T5 hp5 hD5 hq5 bt5 ⊢
      refine ⟨_, rfl, tIf_num (b := full) rfl ⟨p, c, _, _, rfl, hp5, by omega, by cases full <;> decide, by cases full <;> decide, fun d H6 d0 d1 bt6 hp6 => ?_⟩⟩
      obtain ⟨kvs, pe⟩ := hp5.at
      have qp : q ≠ p := fun e => by
        rw [e, pe] at hq5
        cases hq5
      obtain ⟨x, hx, hxf⟩ : ∃ x : Option Bool, atI [V.bl false, .bl true, .non] d = some (mV x) ∧ (full = true → x ≠ none) := by
        have d3 : d = 0 ∨ d = 1 ∨ (d = 2 ∧ full = false) := by
          cases full
          · have lt : d < 3 := d1
            have or3 : d = 0 ∨ d = 1 ∨ d = 2 := by omega
            exact or3.imp id fun z => z.imp id fun z => ⟨z, rfl⟩
          · have lt : d < 2 := d1
            have or2 : d = 0 ∨ d = 1 := by omega
            exact or2.imp id .inl
        rcases d3 with rfl | rfl | ⟨rfl, e⟩
        · exact ⟨some false, rfl, fun _ z => by cases z⟩
        · exact ⟨some true, rfl, fun _ z => by cases z⟩
        · exact ⟨none, rfl, fun y => by rw [e] at y; cases y⟩
      refine ⟨q, _, d, _, rfl, rfl, SqL.of (bt6 _ _ qp hq5), hx, ?_⟩
      have T6 := T5.but bt6 hp5
      have hD6 := bt6 _ _ Dp hD5
      refine ⟨m, _, _, rfl, rfl, T6.ma, small1000 (by rw [List.length_map]; omega), ?_⟩
      have T7 := T6.mark hxf
      have mp : m ≠ p ∧ m ≠ c := hp.off T3.new.2.1
      have rp : r ≠ p ∧ r ≠ c := hp.off T3.new.1
      have hp7 : Pen (upd H6 m (.lst (ms.map mV ++ [mV x]))) p c (n3 + z.length + 1) := hp6.wr mp.1 mp.2
      have hD7 : (upd H6 m (.lst (ms.map mV ++ [mV x]))) D = some (.lst ((ns.map some).map oV)) := (upd_ne Dm).trans hD6
      have bt7 : But p H (upd H6 m (.lst (ms.map mV ++ [mV x]))) := ((bt3.trans bt5).trans bt6).new T3.new.2.1
      generalize upd H6 m (.lst (ms.map mV ++ [mV x])) = H7 at T7 hp7 hD7 bt7 ⊢
      -- rows.append
      refine ⟨_, rfl, .inl ⟨rfl, _, SqL.of T7.ra⟩, _, rfl, D, rfl, ⟨_, SqL.of hD7⟩, fun D2 hD2 => ?_⟩
      obtain ⟨D2p, D2c⟩ := hp7.off hD2
      obtain ⟨D2r, D2m, D2b⟩ := T7.off hD2
      refine lc_list (K := K) (a := D) (xs := (ns.map some).map oV) (fun j H' => But p H7 H' ∧ Pen H' p c (n3 + z.length + 1 + j) ∧ ∃ os : List (Option Nat), H' D2 = some (.lst (os.map oV)) ∧ os.length = j ∧ (∀ x, some x ∈ os → x < sz) ∧ (full = true → none ∉ os))
        ⟨But.of (sm1 hD2), hp7.same (sm1 hD2), [], upd_same, rfl, fun x hx => absurd hx List.not_mem_nil, fun _ => List.not_mem_nil⟩ ?_ ?_ ?_
      · rintro j H' _ ⟨bt', _⟩
        exact SqL.of (bt' _ _ Dp hD7)
      · rintro j y H' hj ⟨bt', hp', os, hD', ol, olt, ofl⟩
        rw [List.map_map, List.getElem?_map] at hj
        obtain ⟨x, hx2, rfl⟩ := Option.map_eq_some_iff.mp hj
        have xlt := nlt x (List.mem_of_getElem? hx2)
        have jl : j < z.length := by
          obtain ⟨q, _⟩ := List.getElem?_eq_some_iff.mp hx2
          omega
        have cont : ∀ (o : Option Nat) (H8 : Hp), But p H' H8 → Pen H8 p c (n3 + z.length + 1 + (j + 1)) → (o = some x ∨ (o = none ∧ full = false)) → ∃ acc, H8 D2 = some (.lst acc) ∧ acc.length < sizeLine ∧
            (But p H7 (upd H8 D2 (.lst (acc ++ [oV o]))) ∧ Pen (upd H8 D2 (.lst (acc ++ [oV o]))) p c (n3 + z.length + 1 + (j + 1)) ∧ ∃ os : List (Option Nat), (upd H8 D2 (.lst (acc ++ [oV o]))) D2 = some (.lst (os.map oV)) ∧ os.length = j + 1 ∧ (∀ x, some x ∈ os → x < sz) ∧ (full = true → none ∉ os)) := by
          intro o H8 bt8 hp8 ho
          refine ⟨_, bt8 _ _ D2p hD', small1000 (by rw [List.length_map]; omega), (bt'.trans bt8).new hD2, hp8.wr D2p D2c, os ++ [o], ?_, ?_, fun y hy => ?_, fun e hn => ?_⟩
          · rw [upd_same, List.map_append]
            rfl
          · rw [List.length_append, ol]
            rfl
          · rcases List.mem_append.mp hy with hy | hy
            · exact olt y hy
            · have e := List.mem_singleton.mp hy
              rcases ho with ho | ho
              · rw [ho] at e
                cases e
                exact xlt
              · rw [ho.1] at e
                cases e
          · rcases List.mem_append.mp hn with hn | hn
            · exact ofl e hn
            · have e2 := List.mem_singleton.mp hn
              rcases ho with ho | ho
              · rw [ho] at e2
                cases e2
              · rw [ho.2] at e
                cases e
        refine ⟨rfl, ⟨_, rfl, full, rfl, ?_⟩⟩
        rcases Bool.eq_false_or_eq_true full with ef | ef
        · rw [if_pos ef]
          exact iteT ⟨_, rfl, cont (some x) H' (But.refl _ _) (hp'.up (by omega)) (.inl rfl)⟩
        · rw [if_neg (by rw [ef]; decide)]
          refine ⟨_, rfl, p, c, _, 4, rfl, hp', by omega, by decide, by decide, fun d H9 d0 d1 bt9 hp9 => ⟨d, 0, rfl, rfl, _, rfl, ?_⟩⟩
          rcases Decidable.em ((0 : Int) < d) with pos | npos
          · rw [decide_eq_true pos]
            exact iteT ⟨_, rfl, cont (some x) H9 bt9 hp9 (.inl rfl)⟩
          · rw [decide_eq_false npos]
            exact iteF (cont none H9 bt9 hp9 (.inr ⟨rfl, ef⟩))
      · rintro H8 ⟨bt8, hp8, os, hD8, ol, olt, ofl⟩
        have T8 := T7.but bt8 hp7
        refine ⟨r, _, _, rfl, rfl, T8.ra, small1000 (by rw [List.length_map, T8.lb]; omega), ?_⟩
        have ll : os.length = z.length := by
          rw [ol, List.length_map, List.length_map, nl]
        have h0 : H D2 = none := bt7.free hp7 hD2
        refine ⟨_, _, _, _, bs ++ [D2], tb ++ [os], ms ++ [x], rfl, (bt7.trans bt8).new T3.new.1, (hp8.wr rp.1 rp.2).up (by rw [List.length_map, List.length_map, nl]; omega), T8.add hD8 h0 D2r D2m D2b ll olt ofl, ?_, ?_⟩
        · rw [List.length_append, lt3]
          rfl
        · rw [List.length_append, lm3]
          rfl
    · rintro σ H' ⟨v6, v7, v8, v9, bs, tb, ms, rfl, bt3, hp3, T3, lt3, lm3⟩
      refine ⟨_, rfl, _, rfl, by show 2 ≤ sizeLine; decide, fun t ht => ?_⟩
      refine k t r m bs tb ms _ (bt3.same (sm1 ht)) (hp3.same (sm1 ht)) (bt3.free hp3 ht) upd_same (T3.same (sm1 ht)) lt3 lm3
end
end Wf
namespace Wf
open PySem L2
structure TxtW (K : PySem.W.Frag) (mg : Str → Option Value) : Prop extends Txt K mg where
  g_MOST_LETTERS : ∃ t, mg "MOST_LETTERS" = some (.int 4 t)
abbrev s_is_number : Stmt := top 7
abbrev N_is_number : List Str := ["value"]
theorem sc_is_number : FnScope N_is_number ["value"] (defScope s_is_number) := ⟨rfl, rfl, rfl, by decide +kernel, rfl, by decide +kernel, by decide +kernel⟩
abbrev s_is_sequence : Stmt := top 8
abbrev N_is_sequence : List Str := ["value"]
theorem sc_is_sequence : FnScope N_is_sequence ["value"] (defScope s_is_sequence) := ⟨rfl, rfl, rfl, by decide +kernel, rfl, by decide +kernel, by decide +kernel⟩
abbrev s_is_mark : Stmt := top 9
abbrev N_is_mark : List Str := ["value"]
theorem sc_is_mark : FnScope N_is_mark ["value"] (defScope s_is_mark) := ⟨rfl, rfl, rfl, by decide +kernel, rfl, by decide +kernel, by decide +kernel⟩
abbrev s_is_target : Stmt := top 13
abbrev N_is_target : List Str := ["value", "size"]
theorem sc_is_target : FnScope N_is_target ["value", "size"] (defScope s_is_target) := ⟨rfl, rfl, rfl, by decide +kernel, rfl, by decide +kernel, by decide +kernel⟩
/-- a question of one value -/
def spAsk (K : PySem.W.Frag) (g : PyData → Bool) : Sp := fun vs H Q _ => ∃ (v : V) (d : PyData), vs = [v] ∧ Dq K H v d ∧ ∀ H', Same H H' → Q (.bl (g d)) H'
def spTarget (K : PySem.W.Frag) : Sp := fun vs H Q _ => ∃ (v : V) (d : PyData) (n : Int), vs = [v, .int n] ∧ Dq K H v d ∧ ∀ H', Same H H' → Q (.bl (isTarget n d)) H'
theorem same_refl {H : Hp} : Same H H := fun _ _ z => z
theorem Dq.isN {K : PySem.W.Frag} {H : Hp} {v : V} {d : PyData} (h : Dq K H v d) : decide (v = .non) = (match d with | .none => true | _ => false) := by
  cases h with
  | non => exact decide_eq_true rfl
  | _ => exact decide_eq_false fun z => by cases z
theorem Dq.isB {K : PySem.W.Frag} {H : Hp} {v : V} {d : PyData} {b : Bool} (h : Dq K H v d) : decide (v = .bl b) = (match d with | .bool c => c == b | _ => false) := by
  cases h with
  | bl c => 
    by_cases e : c = b
    · rw [e]
      show _ = (b == b)
      rw [beq_self_eq_true]
      exact decide_eq_true rfl
    · show _ = (c == b)
      rw [beq_eq_false_iff_ne.mpr e]
      exact decide_eq_false fun z => e (V.bl.inj z)
  | _ => exact decide_eq_false fun z => by cases z
section
variable {P : Program} {w : World} {K : PySem.W.Frag} {mg : Str → Option Value} {base : Heap} {f : Addr} {fd : FuncData}
theorem ok_is_number (F : Fun K "is_number" "is_number" s_is_number f fd) (T : Txt K mg) : FnOk P w K mg base CX0 1 f fd ["value"] (spAsk K isNum) := by
  refine F.ok sc_is_number (fun vs H Q E h => ?_) (fun cdv A outer s H vs Q E hr h => ?_)
  · obtain ⟨v, d, rfl, _⟩ := h
    rfl
  · obtain ⟨v, d, rfl, hd, k⟩ := h
    refine ⟨_, (pss_one (ps_ret (pe_and (pe_callB (call_isD kit_int) (by rfl) T.z_isinstance (by decide +kernel) (pa_cons (pv 0) (pa_cons (pe_ty (T := "int") T.z_int (by decide +kernel)) pa_nil))) (pe_one (pe_not (pe_callB (call_isD kit_bool) (by rfl) T.z_isinstance (by decide +kernel) (pa_cons (pv 0) (pa_cons (pe_ty (T := "bool") T.z_bool (by decide +kernel)) pa_nil)))))))), ?_⟩
    refine ⟨_, rfl, v, d, rfl, hd, _, rfl, ?_⟩
    have k := k _ same_refl
    rw [isNum_eq] at k
    cases e : isInt d with
    | true =>
      rw [e, Bool.true_and] at k
      exact iteT ⟨_, rfl, v, d, rfl, hd, _, rfl, k⟩
    | false =>
      rw [e, Bool.false_and] at k
      exact iteF k
theorem ok_is_sequence (F : Fun K "is_sequence" "is_sequence" s_is_sequence f fd) (T : Txt K mg) : FnOk P w K mg base CX0 1 f fd ["value"] (spAsk K isSeq) := by
  refine F.ok sc_is_sequence (fun vs H Q E h => ?_) (fun cdv A outer s H vs Q E hr h => ?_)
  · obtain ⟨v, d, rfl, _⟩ := h
    rfl
  · obtain ⟨v, d, rfl, hd, k⟩ := h
    refine ⟨_, (pss_one (ps_ret (pe_callB call_isSeq (by rfl) T.z_isinstance (by decide +kernel) (pa_cons (pv 0) (pa_cons (pe_tup (pa_cons (pe_ty (T := "list") T.z_list (by decide +kernel)) (pa_cons (pe_ty (T := "tuple") T.z_tuple (by decide +kernel)) pa_nil))) pa_nil))))), ?_⟩
    exact ⟨_, rfl, by show 2 ≤ sizeLine; decide, fun t ht => ⟨v, d, t, rfl, upd_same, (Sty.of (sm1 ht)).dq hd, k _ (sm1 ht)⟩⟩
theorem ok_is_mark (F : Fun K "is_mark" "is_mark" s_is_mark f fd) (T : Txt K mg) : FnOk P w K mg base CX0 1 f fd ["value"] (spAsk K isMark) := by
  refine F.ok sc_is_mark (fun vs H Q E h => ?_) (fun cdv A outer s H vs Q E hr h => ?_)
  · obtain ⟨v, d, rfl, _⟩ := h
    rfl
  · obtain ⟨v, d, rfl, hd, k⟩ := h
    refine ⟨_, (pss_one (ps_ret (pe_or (pe_cmpR op_isN (pv 0) (pe_non) (nomark _)) (pe_or (pe_cmpR op_isQ (pv 0) (pe_bl) (nomark _)) (pe_one (pe_cmpR op_isQ (pv 0) (pe_bl) (nomark _))))))), ?_⟩
    have k := k _ same_refl
    refine ⟨_, rfl, rfl, _, rfl, ?_⟩
    rw [hd.isN]
    cases d with
    | none => exact iteT k
    | bool b =>
      refine iteF ⟨_, rfl, true, _, rfl, hd, _, rfl, ?_⟩
      rw [hd.isB]
      cases b with
      | true => exact iteT k
      | false =>
        refine iteF ⟨_, rfl, false, _, rfl, hd, ?_⟩
        rw [hd.isB]
        exact k
    | _ =>
      refine iteF ⟨_, rfl, true, _, rfl, hd, _, rfl, ?_⟩
      rw [hd.isB]
      refine iteF ⟨_, rfl, false, _, rfl, hd, ?_⟩
      rw [hd.isB]
      exact k
theorem ok_is_target (F : Fun K "is_target" "is_target" s_is_target f fd) (T : Txt K mg) (D_is_number : Dn P w K mg base 1 "is_number" ["value"] (spAsk K isNum)) : FnOk P w K mg base CX0 2 f fd ["value", "size"] (spTarget K) := by
  refine F.ok sc_is_target (fun vs H Q E h => ?_) (fun cdv A outer s H vs Q E hr h => ?_)
  · obtain ⟨v, d, n, rfl, _⟩ := h
    rfl
  · obtain ⟨v, d, n, rfl, hd, k⟩ := h
    refine ⟨_, (pss_one (ps_ret (pe_or (pe_cmpR op_isN (pv 0) (pe_non) (nomark _)) (pe_one (pe_and (pe_cl D_is_number (hr.mono (by decide)) (pa_cons (pv 0) pa_nil)) (pe_one (pe_chain op_le op_lt (pe_int) (pv 0) (pv 1)))))))), ?_⟩
    refine ⟨_, rfl, rfl, _, rfl, ?_⟩
    rw [hd.isN]
    cases d with
    | none => exact iteT (k _ same_refl)
    | int i =>
      cases hd with
      | int =>
        refine iteF ⟨_, rfl, .int i, .int i, rfl, .int i, fun H' s => ⟨_, rfl, iteT ?_⟩⟩
        refine ⟨_, rfl, _, _, rfl, rfl, _, rfl, ?_⟩
        have k := k _ s
        cases e : decide (0 ≤ i) with
        | true =>
          rw [show isTarget n (.int i) = (decide (0 ≤ i) && decide (i < n)) from rfl, e, Bool.true_and] at k
          exact iteT ⟨_, rfl, _, _, rfl, rfl, k⟩
        | false =>
          rw [show isTarget n (.int i) = (decide (0 ≤ i) && decide (i < n)) from rfl, e, Bool.false_and] at k
          exact iteF k
    | _ => exact iteF ⟨_, rfl, _, _, rfl, hd, fun H' s => ⟨_, rfl, iteF (k _ s)⟩⟩
end
end Wf
namespace Wf
open PySem L2
abbrev s_is_row : Stmt := top 14
abbrev N_is_row : List Str := ["row", "width", "size", "target"]
theorem sc_is_row : FnScope N_is_row ["row", "width", "size"] (defScope s_is_row) := ⟨rfl, rfl, rfl, by decide +kernel, rfl, by decide +kernel, by decide +kernel⟩
abbrev s_is_table : Stmt := top 12
abbrev N_is_table : List Str := ["rows", "marks"]
theorem sc_is_table : FnScope N_is_table ["rows", "marks"] (defScope s_is_table) := ⟨rfl, rfl, rfl, by decide +kernel, rfl, by decide +kernel, by decide +kernel⟩
abbrev s_first_wrong_row : Stmt := top 15
abbrev N_first_wrong_row : List Str := ["letters", "rows", "marks", "number", "row"]
theorem sc_first_wrong_row : FnScope N_first_wrong_row ["letters", "rows", "marks"] (defScope s_first_wrong_row) := ⟨rfl, rfl, rfl, by decide +kernel, rfl, by decide +kernel, by decide +kernel⟩
abbrev s_copied_rows : Stmt := top 16
abbrev N_copied_rows : List Str := ["rows", "row"]
theorem sc_copied_rows : FnScope N_copied_rows ["rows"] (defScope s_copied_rows) := ⟨rfl, rfl, rfl, by decide +kernel, rfl, by decide +kernel, by decide +kernel⟩
def spRow (K : PySem.W.Frag) : Sp := fun vs H Q _ => ∃ (v : V) (d : PyData) (wd : Nat) (n : Int), vs = [v, .int (wd : Int), .int n] ∧ Dq K H v d ∧ (its d).length < 1000000 ∧ ∀ H', Same H H' → Q (.bl (isRow wd n d)) H'
def isTable (d e : PyData) : Bool := isSeq d && isSeq e && ((its d).length == (its e).length) && decide (0 < (its d).length)
def spTbl2 (K : PySem.W.Frag) : Sp := fun vs H Q _ => ∃ (v u : V) (d e : PyData), vs = [v, u] ∧ Dq K H v d ∧ Dq K H u e ∧ ∀ H', Same H H' → Q (.bl (isTable d e)) H'
/-- the first number below n at which p is not so, or none -/
def Fst (p : Nat → Bool) (n : Nat) : Option Nat → Prop
  | none => ∀ j, j < n → p j = true
  | some i => i < n ∧ p i = false ∧ ∀ j, j < i → p j = true
theorem Fst.one {p : Nat → Bool} {n : Nat} : ∀ {o u : Option Nat}, Fst p n o → Fst p n u → o = u
  | none, none, _, _ => rfl
  | none, some i, h, ⟨a, b, _⟩ => by
    have c : p i = true := h i a
    rw [b] at c
    cases c
  | some i, none, ⟨a, b, _⟩, h => by
    have c : p i = true := h i a
    rw [b] at c
    cases c
  | some i, some j, ⟨_, b, c⟩, ⟨_, e, f⟩ => by
    rcases Nat.lt_trichotomy i j with l | l | l
    · have z := f i l
      rw [b] at z
      cases z
    · rw [l]
    · have z := c j l
      rw [e] at z
      cases z
/-- the row with this number can stand in the table -/
def rowOk (wd : Nat) (ds ms : List PyData) (i : Nat) : Bool := isRow wd ds.length (ds.getD i .none) && isMark (ms.getD i .none)
def spWrong (K : PySem.W.Frag) : Sp := fun vs H Q _ => ∃ (z : Str) (r m : V) (dr e : PyData), vs = [.str z, r, m] ∧ Dq K H r dr ∧ isSeq dr = true ∧ Dq K H m e ∧ isSeq e = true ∧ (its e).length = (its dr).length ∧ z.length ≤ 1000 ∧ (its dr).length < 1000000 ∧ (∀ d ∈ its dr, (its d).length < 1000000) ∧
  ∀ (o : Option Nat) (H' : Hp), Same H H' → Fst (rowOk z.length (its dr) (its e)) (its dr).length o → Q (oV o) H'
def spCopied (K : PySem.W.Frag) : Sp := fun vs H Q _ => ∃ (v : V) (d : PyData), vs = [v] ∧ Dq K H v d ∧ isSeq d = true ∧ (∀ e ∈ its d, isSeq e = true) ∧ (its d).length < 1000000 ∧ ∀ (t : Addr) (H' : Hp), Same H H' → Dq K H' (.ref t) (.tuple ((its d).map fun e => .tuple (its e))) → Q (.ref t) H'
theorem dec_nat {a b : Nat} : decide (V.int (a : Int) = V.int (b : Int)) = (a == b) := by
  by_cases h : a = b
  · rw [h, beq_self_eq_true]
    exact decide_eq_true rfl
  · rw [beq_eq_false_iff_ne.mpr h]
    exact decide_eq_false fun z => h (Int.ofNat.inj (V.int.inj z))
theorem getD_of {α : Type} {xs : List α} {i : Nat} {x y : α} (h : xs[i]? = some x) : xs.getD i y = x := by
  rw [List.getD_eq_getElem?_getD, h]
  rfl
theorem dqAll_pair {K : PySem.W.Frag} {H : Hp} {g : PyData → PyData} : ∀ {us : List Addr} {ds : List PyData}, us.length = ds.length → (∀ (j : Nat) (u : Addr) (e : PyData), us[j]? = some u → ds[j]? = some e → Dq K H (.ref u) (g e)) → DqAll K H (us.map V.ref) (ds.map g)
  | [], [], _, _ => .nil
  | [], _ :: _, h, _ => by cases h
  | _ :: _, [], h, _ => by cases h
  | u :: us, d :: ds, h, k => .cons (k 0 u d rfl rfl) (dqAll_pair (Nat.succ.inj h) fun j u e e1 e2 => k (j + 1) u e e1 e2)
section
variable {P : Program} {w : World} {K : PySem.W.Frag} {mg : Str → Option Value} {base : Heap} {f : Addr} {fd : FuncData}
theorem ok_is_row (F : Fun K "is_row" "is_row" s_is_row f fd) (T : Txt K mg) (D_is_sequence : Dn P w K mg base 1 "is_sequence" ["value"] (spAsk K isSeq)) (D_is_target : Dn P w K mg base 2 "is_target" ["value", "size"] (spTarget K)) : FnOk P w K mg base CX0 3 f fd ["row", "width", "size"] (spRow K) := by
  refine F.ok sc_is_row (fun vs H Q E h => ?_) (fun cdv A outer s H vs Q E hr h => ?_)
  · obtain ⟨v, d, wd, n, rfl, _⟩ := h
    rfl
  · obtain ⟨v, d, wd, n, rfl, hd, small, k⟩ := h
    refine ⟨_, (pss_one (ps_ret (pe_and (pe_cl D_is_sequence (hr.mono (by decide)) (pa_cons (pv 0) pa_nil)) (pe_and (pe_cmpR op_eq (pe_callB call_len (by rfl) T.z_len PySem.boot_len (pa_cons (pv 0) pa_nil)) (pv 1) (nomark _)) (pe_one (pe_callB (cr_all rfl) (by rfl) T.z_all (by decide +kernel) (pa_cons (pe_lc (own := [("target", 3)]) (g := gName 3) (tt := tYes) (by rfl) sc_is_row.nd (pi_seq (pv 0)) (blkOk_by (own := [("target", 3)]) (N := N_is_row) (sc := defScope s_is_row) (by decide +kernel)) (fun _ _ _ _ _ => (pg_name (i := 3) sc_is_row.nd rfl (Or.inl rfl))) (fun _ _ _ _ _ => pts_nil) (fun _ _ _ _ _ => (pe_cl D_is_target (hr.mono (by decide)) (pa_cons (pv 3) (pa_cons (pv 2) pa_nil))))) pa_nil))))))), ?_⟩
    refine ⟨_, rfl, v, d, rfl, hd, fun H1 s1 => ⟨_, rfl, ?_⟩⟩
    cases e : isSeq d with
    | false =>
      refine iteF ?_
      have k := k _ s1
      unfold isRow at k
      rw [e] at k
      exact k
    | true =>
      have hd1 := (Sty.of s1).dq hd
      refine iteT ⟨_, rfl, _, _, rfl, hd1.lenV e, _, rfl, rfl, _, rfl, ?_⟩
      rw [dec_nat]
      cases e2 : ((its d).length == wd) with
      | false =>
        refine iteF ?_
        have k := k _ s1
        unfold isRow at k
        rw [e, e2] at k
        exact k
      | true =>
        obtain ⟨a, xs, rfl, hs, ha⟩ := hd1.seq e
        refine iteT ?_
        refine seq_walk rfl hs fun J G wk st D hD => ?_
        refine lc_it wk (fun i H' => Same H1 H' ∧ H' D = some (.lst ((((its d).take i).map (isTarget n)).map V.bl))) ⟨sm1 hD, upd_same⟩ (fun i H' _ q => st H' (Stay.of q.1)) ?_ ?_
        · rintro i x H2 _ hi ⟨s2, hD2⟩ ⟨rfl, hx⟩
          obtain ⟨dx, hdx, hq⟩ := ha.get hx
          refine ⟨rfl, _, rfl, _, rfl, x, dx, n, rfl, (Sty.of s2).dq hq, fun H3 s3 => ?_⟩
          refine ⟨_, s3 _ _ hD2, small1000000 (by rw [List.length_map, List.length_map, List.length_take]; omega), swr (s2.trans s3) hD, ?_⟩
          rw [upd_same, List.take_succ, hdx, List.map_append, List.map_append]
          rfl
        · rintro H2 ⟨s2, hD2⟩
          rw [ha.len, List.take_length] at hD2
          refine ⟨D, _, rfl, SqL.of hD2, ?_⟩
          have k := k _ (s1.trans s2)
          unfold isRow at k
          rw [e, e2] at k
          rw [List.all_map]
          exact k
theorem ok_is_table (F : Fun K "is_table" "is_table" s_is_table f fd) (T : Txt K mg) (D_is_sequence : Dn P w K mg base 1 "is_sequence" ["value"] (spAsk K isSeq)) : FnOk P w K mg base CX0 2 f fd ["rows", "marks"] (spTbl2 K) := by
  refine F.ok sc_is_table (fun vs H Q E h => ?_) (fun cdv A outer s H vs Q E hr h => ?_)
  · obtain ⟨v, u, d, e, rfl, _⟩ := h
    rfl
  · obtain ⟨v, u, d, e, rfl, hd, he, k⟩ := h
    refine ⟨_, (pss_one (ps_ret (pe_and (pe_cl D_is_sequence (hr.mono (by decide)) (pa_cons (pv 0) pa_nil)) (pe_and (pe_cl D_is_sequence (hr.mono (by decide)) (pa_cons (pv 1) pa_nil)) (pe_and (pe_cmpR op_eq (pe_callB call_len (by rfl) T.z_len PySem.boot_len (pa_cons (pv 0) pa_nil)) (pe_callB call_len (by rfl) T.z_len PySem.boot_len (pa_cons (pv 1) pa_nil)) (nomark _)) (pe_one (pe_cmpR op_gt (pe_callB call_len (by rfl) T.z_len PySem.boot_len (pa_cons (pv 0) pa_nil)) (pe_int) (nomark _)))))))), ?_⟩
    refine ⟨_, rfl, v, d, rfl, hd, fun H1 s1 => ⟨_, rfl, ?_⟩⟩
    unfold isTable at k
    cases q1 : isSeq d with
    | false =>
      have k := k _ s1
      rw [q1] at k
      exact iteF k
    | true =>
      have he1 := (Sty.of s1).dq he
      refine iteT ⟨_, rfl, u, e, rfl, he1, fun H2 s2 => ⟨_, rfl, ?_⟩⟩
      cases q2 : isSeq e with
      | false =>
        have k := k _ (s1.trans s2)
        rw [q1, q2] at k
        exact iteF k
      | true =>
        have hd2 := (Sty.of (s1.trans s2)).dq hd
        have he2 := (Sty.of s2).dq he1
        refine iteT ⟨_, rfl, _, _, rfl, hd2.lenV q1, _, rfl, _, _, rfl, he2.lenV q2, rfl, _, rfl, ?_⟩
        rw [dec_nat]
        have k := k _ (s1.trans s2)
        rw [q1, q2, Bool.true_and, Bool.true_and] at k
        cases q3 : ((its d).length == (its e).length) with
        | false =>
          rw [q3] at k
          exact iteF k
        | true =>
          rw [q3, Bool.true_and] at k
          refine iteT ⟨_, rfl, _, _, rfl, hd2.lenV q1, _, _, rfl, rfl, ?_⟩
          show Q (.bl (decide ((0 : Int) < ((its d).length : Int)))) _
          rw [show decide ((0 : Int) < ((its d).length : Int)) = decide (0 < (its d).length) from by
            by_cases h : 0 < (its d).length
            · rw [decide_eq_true h]
              exact decide_eq_true (by omega)
            · rw [decide_eq_false h]
              exact decide_eq_false (by omega)]
          exact k
theorem ok_first_wrong_row (F : Fun K "first_wrong_row" "first_wrong_row" s_first_wrong_row f fd) (T : Txt K mg) (D_is_row : Dn P w K mg base 3 "is_row" ["row", "width", "size"] (spRow K)) (D_is_mark : Dn P w K mg base 1 "is_mark" ["value"] (spAsk K isMark)) :
    FnOk P w K mg base CX0 4 f fd ["letters", "rows", "marks"] (spWrong K) := by
  refine F.ok sc_first_wrong_row (fun vs H Q E h => ?_) (fun cdv A outer s H vs Q E hr h => ?_)
  · obtain ⟨z, r, m, dr, e, rfl, _⟩ := h
    rfl
  · obtain ⟨z, r, m, dr, e, rfl, hdr, sdr, he, es, el, zl, dl, rl, k⟩ := h
    obtain ⟨a, xs, rfl, hs, ha⟩ := hdr.seq sdr
    generalize its dr = ds at ha el dl rl k
    refine ⟨_, (pss_cons (ps_for PassesOwn.never rfl (pi_enS (by rfl) T.z_enumerate (pa_cons (pv 1) pa_nil)) (pg_tup (by rfl) (pgs_cons (pg_name (i := 3) sc_first_wrong_row.nd rfl (Or.inl rfl)) (pgs_cons (pg_name (i := 4) sc_first_wrong_row.nd rfl (Or.inl rfl)) pgs_nil)))
   (pss_one (ps_if (PW.pt (pw_or (pt_not (pt_val (pe_cl D_is_row (hr.mono (by decide)) (pa_cons (pv 4) (pa_cons (pe_callB call_len_str (by rfl) T.z_len PySem.boot_len (pa_cons (pv 0) pa_nil)) (pa_cons (pe_callB call_len (by rfl) T.z_len PySem.boot_len (pa_cons (pv 1) pa_nil)) pa_nil)))))) (pw_or1 (pt_not (pt_val (pe_cl D_is_mark (hr.mono (by decide)) (pa_cons (pe_ix ix_seq (pv 2) (pv 3) (fun _ _ => rfl)) pa_nil))))))) (pss_one (ps_ret (pv 3))) pss_nil)))
  (pss_one (ps_ret (pe_non)))), ?_⟩
    have lx : xs.length = ds.length := ha.len
    refine enum_walk rfl hs fun J G wk st => ?_
    refine for_it wk (fun i σ H' => ∃ v3 v4 : Option V, σ = [some (.str z), some (.ref a), some m, v3, v4] ∧ Same H H' ∧ ∀ j, j < i → rowOk z.length ds (its e) j = true) ⟨_, _, rfl, same_refl, fun j hj => absurd hj (Nat.not_lt_zero j)⟩ (fun i σ H' _ ⟨_, _, _, s, _⟩ => st H' (Stay.of s)) ?_ ?_
    · rintro i _ σ H1 _ hi ⟨v3, v4, rfl, s1, before⟩ ⟨T, _, x, rfl, hT, rfl, ei, hx⟩
      cases ei
      rw [lx] at hi
      have s2 := sm1 (o := .tup [.int (i : Nat), x]) hT
      have tT : (upd H1 T (.tup [.int (i : Nat), x])) T = some (.tup [.int (i : Nat), x]) := upd_same
      generalize upd H1 T (.tup [.int (i : Nat), x]) = H2 at s2 tT ⊢
      have s12 := s1.trans s2
      obtain ⟨d, hdx, hd⟩ := ha.get hx
      refine ⟨T, _, rfl, SqT.of tT, rfl, ?_⟩
      refine ⟨_, _, rfl, _, _, rfl, rfl, ?_⟩
      refine ⟨_, rfl, _, rfl, z, rfl, by rw [sizeLine_eq]; omega, _, rfl, _, _, rfl, ((Stay.of s12).sq hs).lenV, x, d, z.length, ds.length, by rw [lx]; rfl, (Sty.of s12).dq hd, rl d (List.mem_of_getElem? hdx), fun H3 s3 => ?_⟩
      have s13 := s12.trans s3
      refine ⟨_, rfl, ?_⟩
      have rd : ds.getD i .none = d := getD_of hdx
      have bad : ∀ H4, Same H H4 → rowOk z.length ds (its e) i = false → Q (.int (i : Nat)) H4 := fun H4 s4 b => k (some i) H4 s4 ⟨hi, b, before⟩
      cases q1 : isRow z.length ds.length d with
      | false => exact iteT ⟨_, rfl, bad _ s13 (by unfold rowOk; rw [rd, q1]; rfl)⟩
      | true =>
        have he3 := (Sty.of s13).dq he
        obtain ⟨b, ys, rfl, hb, hab⟩ := he3.seq es
        obtain ⟨dm, hdm⟩ : ∃ dm, (its e)[i]? = some dm := ⟨_, List.getElem?_eq_getElem (by rw [el]; exact hi)⟩
        obtain ⟨y, hy, hqy⟩ := hab.at hdm
        refine iteF ⟨_, rfl, _, rfl, hb.ix (atI_nat hy) ⟨y, dm, rfl, hqy, fun H4 s4 => ⟨_, rfl, ?_⟩⟩⟩
        have rm : (its e).getD i .none = dm := getD_of hdm
        cases q2 : isMark dm with
        | false => exact iteT ⟨_, rfl, bad _ (s13.trans s4) (by unfold rowOk; rw [rd, q1, rm, q2]; rfl)⟩
        | true =>
          refine iteF ⟨_, _, rfl, s13.trans s4, fun j hj => ?_⟩
          rcases Nat.lt_or_ge j i with l | l
          · exact before j l
          · obtain rfl : j = i := by omega
            unfold rowOk
            rw [rd, q1, rm, q2]
            rfl
    · rintro σ H1 ⟨v3, v4, rfl, s1, all⟩
      rw [lx] at all
      exact k none _ s1 all
theorem ok_copied_rows (F : Fun K "copied_rows" "copied_rows" s_copied_rows f fd) (T : Txt K mg) : FnOk P w K mg base CX0 1 f fd ["rows"] (spCopied K) := by
  refine F.ok sc_copied_rows (fun vs H Q E h => ?_) (fun cdv A outer s H vs Q E hr h => ?_)
  · obtain ⟨v, d, rfl, _⟩ := h
    rfl
  · obtain ⟨v, d, rfl, hd, sd, sr, dl, k⟩ := h
    refine ⟨_, (pss_one (ps_ret (pe_callTy call_tuple_of (by rfl) T.z_tuple (by decide +kernel) (pa_cons (pe_lc (own := [("row", 1)]) (g := gName 1) (tt := tYes) (by rfl) sc_copied_rows.nd (pi_seq (pv 0)) (blkOk_by (own := [("row", 1)]) (N := N_copied_rows) (sc := defScope s_copied_rows) (by decide +kernel)) (fun _ _ _ _ _ => (pg_name (i := 1) sc_copied_rows.nd rfl (Or.inl rfl))) (fun _ _ _ _ _ => pts_nil) (fun _ _ _ _ _ => (pe_callTy (show CallR _ (.type "tuple") (rTupleOf K) from cr_tupleOf) (by rfl) T.z_tuple (by decide +kernel) (pa_cons (pv 1) pa_nil)))) pa_nil)))), ?_⟩
    obtain ⟨a, xs, rfl, hs, ha⟩ := hd.seq sd
    refine seq_walk rfl hs fun J G wk st D hD => ?_
    refine lc_it wk (fun i H' => Same H H' ∧ ∃ us : List Addr, H' D = some (.lst (us.map V.ref)) ∧ us.length = i ∧ ∀ (j : Nat) (u : Addr) (e : PyData), us[j]? = some u → (its d)[j]? = some e → ∃ zs, SqT K H' u zs ∧ DqAll K H zs (its e))
      ⟨sm1 hD, [], upd_same, rfl, fun j u e q => by cases q⟩ (fun i H' _ q => st H' (Stay.of q.1)) ?_ ?_
    · rintro i x _ H2 hi ⟨s2, us, hD2, ul, ok⟩ ⟨rfl, hx⟩
      obtain ⟨dx, hdx, hq⟩ := ha.get hx
      have sdx := sr dx (List.mem_of_getElem? hdx)
      obtain ⟨b, zs, rfl, hb, hab⟩ := hq.seq sdx
      rw [ha.len] at hi
      have fin : ∀ (H3 : Hp) (u : Addr), Same H2 H3 → SqT K H3 u zs → ∃ acc, H3 D = some (.lst acc) ∧ acc.length < sizeLine ∧ (Same H (upd H3 D (.lst (acc ++ [.ref u]))) ∧ ∃ us : List Addr, (upd H3 D (.lst (acc ++ [.ref u]))) D = some (.lst (us.map V.ref)) ∧ us.length = i + 1 ∧
          ∀ (j : Nat) (u' : Addr) (e : PyData), us[j]? = some u' → (its d)[j]? = some e → ∃ zs, SqT K (upd H3 D (.lst (acc ++ [.ref u]))) u' zs ∧ DqAll K H zs (its e)) := fun H3 u s3 hu => by
        have hD3 := s3 _ _ hD2
        refine ⟨_, hD3, small1000000 (by rw [List.length_map]; omega), swr (s2.trans s3) hD, us ++ [u], by rw [upd_same, List.map_append]; rfl, by rw [List.length_append, ul]; rfl, fun j u' e e1 e2 => ?_⟩
        rcases grown e1 with ⟨lt, e1⟩ | ⟨rfl, rfl⟩
        · obtain ⟨zs', h1, h2⟩ := ok j u' e e1 e2
          exact ⟨zs', SqT.off ((Stay.of s3).t _ _ h1) hD3, h2⟩
        · rw [ul, hdx] at e2
          cases e2
          exact ⟨zs, SqT.off hu hD3, hab⟩
      refine ⟨rfl, _, rfl, b, zs, rfl, ?_⟩
      rcases hb with hb | hb
      · refine .inl ⟨(Stay.of s2).l _ _ hb, fun l hl => ?_⟩
        exact fin _ _ (sm1 hl) (SqT.of upd_same)
      · exact .inr ⟨(Stay.of s2).t _ _ hb, fin _ _ same_refl ((Stay.of s2).t _ _ hb)⟩
    · rintro H2 ⟨s2, us, hD2, ul, ok⟩
      rw [ha.len] at ul
      refine ⟨D, _, rfl, .inl ⟨SqL.of hD2, fun l hl => ?_⟩⟩
      have s3 := sm1 (o := .tup (us.map V.ref)) hl
      refine k l _ (s2.trans s3) (.tup (SqT.of upd_same) ?_)
      have ok3 : ∀ (j : Nat) (u : Addr) (e : PyData), us[j]? = some u → (its d)[j]? = some e → Dq K (upd H2 l (.tup (us.map V.ref))) (.ref u) (.tuple (its e)) := fun j u e e1 e2 => by
        obtain ⟨zs, h1, h2⟩ := ok j u e e1 e2
        exact .tup ((Stay.of s3).t _ _ h1) ((Sty.of (s2.trans s3)).dqAll h2)
      exact dqAll_pair ul ok3
end
end Wf
namespace Wf
open PySem L2
abbrev s_are_letters : Stmt := top 19
abbrev N_are_letters : List Str := ["value", "letter", "at"]
theorem sc_are_letters : FnScope N_are_letters ["value"] (defScope s_are_letters) := ⟨rfl, rfl, rfl, by decide +kernel, rfl, by decide +kernel, by decide +kernel⟩
/-- letters in ascending order, one to four -/
def ascL (l : List Nat) : Bool := (List.range (l.length - 1)).all fun i => decide (l.getD i 0 < l.getD (i + 1) 0)
def lettersOk : PyData → Bool
  | .str z => (decide (1 ≤ z.length) && decide (z.length ≤ 4)) && (z.cps.toList.all fun c => decide (97 ≤ c) && decide (c ≤ 122)) && ascL z.cps.toList
  | _ => false
theorem lt_sign {a b : Nat} : decide ([a] < [b]) = decide (a < b) := by
  by_cases h : a < b
  · rw [decide_eq_true h]
    exact decide_eq_true (List.cons_lt_cons_iff.mpr (.inl h))
  · rw [decide_eq_false h]
    refine decide_eq_false fun z => ?_
    rcases List.cons_lt_cons_iff.mp z with z | ⟨_, z⟩
    · exact h z
    · exact absurd z (List.not_lt_nil _)
theorem not_lt {a b : Nat} : (!decide (b < a)) = decide (a ≤ b) := by
  by_cases h : b < a
  · rw [decide_eq_true h, decide_eq_false (by omega)]
    rfl
  · rw [decide_eq_false h, decide_eq_true (by omega)]
    rfl
theorem dec_le {a b : Nat} : decide ((a : Int) ≤ (b : Int)) = decide (a ≤ b) := by
  by_cases h : a ≤ b
  · rw [decide_eq_true h]
    exact decide_eq_true (by omega)
  · rw [decide_eq_false h]
    exact decide_eq_false (by omega)
def spLtrs (K : PySem.W.Frag) : Sp := fun vs H Q _ => ∃ (v : V) (d : PyData), vs = [v] ∧ Dq K H v d ∧ (∀ z, d = .str z → z.length < 1000000) ∧ ∀ H', Same H H' → Q (.bl (lettersOk d)) H'
section
variable {P : Program} {w : World} {K : PySem.W.Frag} {mg : Str → Option Value} {base : Heap} {f : Addr} {fd : FuncData}
theorem ok_are_letters (F : Fun K "are_letters" "are_letters" s_are_letters f fd) (T : TxtW K mg) : FnOk P w K mg base CX0 1 f fd ["value"] (spLtrs K) := by
  refine F.ok sc_are_letters (fun vs H Q E h => ?_) (fun cdv A outer s H vs Q E hr h => ?_)
  · obtain ⟨v, d, rfl, _⟩ := h
    rfl
  · obtain ⟨v, d, rfl, hd, small, k⟩ := h
    refine ⟨_, (pss_cons (ps_if (PW.pt (pw_or (pt_not (pt_val (pe_callB (call_isD kit_str) (by rfl) T.z_isinstance (by decide +kernel) (pa_cons (pv 0) (pa_cons (pe_ty (T := "str") T.z_str (by decide +kernel)) pa_nil))))) (pw_or1 (pt_not (pt_chain op_le op_le (pe_int) (pe_callB call_len_str (by rfl) T.z_len PySem.boot_len (pa_cons (pv 0) pa_nil)) (pe_gi T.g_MOST_LETTERS)))))) (pss_one (ps_ret (pe_bl))) pss_nil)
  (pss_cons (ps_if (pt_not (pt_truth (pe_callB (cr_all rfl) (by rfl) T.z_all (by decide +kernel) (pa_cons (pe_lc (own := [("letter", 1)]) (g := gName 1) (tt := tYes) (by rfl) sc_are_letters.nd (pi_str (pv 0)) (blkOk_by (own := [("letter", 1)]) (N := N_are_letters) (sc := defScope s_are_letters) (by decide +kernel)) (fun _ _ _ _ _ => (pg_name (i := 1) sc_are_letters.nd rfl (Or.inl rfl))) (fun _ _ _ _ _ => pts_nil) (fun _ _ _ _ _ => (pe_chain op_le_str op_le_str (pe_str) (pv 1) (pe_str)))) pa_nil)) (by intro _; rfl))) (pss_one (ps_ret (pe_bl))) pss_nil)
  (pss_one (ps_ret (pe_callB (cr_all rfl) (by rfl) T.z_all (by decide +kernel) (pa_cons (pe_lc (own := [("at", 2)]) (g := gName 2) (tt := tYes) (by rfl) sc_are_letters.nd (pi_range1 (by rfl) T.z_range (pa_cons (pe_op op_sub (pe_callB call_len_str (by rfl) T.z_len PySem.boot_len (pa_cons (pv 0) pa_nil)) (pe_int)) pa_nil)) (blkOk_by (own := [("at", 2)]) (N := N_are_letters) (sc := defScope s_are_letters) (by decide +kernel)) (fun _ _ _ _ _ => (pg_name (i := 2) sc_are_letters.nd rfl (Or.inl rfl))) (fun _ _ _ _ _ => pts_nil) (fun _ _ _ _ _ => (pe_cmpR op_lt_str (pe_ix ix_str (pv 0) (pv 2) (fun _ _ => rfl)) (pe_ix ix_str (pv 0) (pe_op op_add (pv 2) (pe_int)) (fun _ _ => rfl)) (nomark _)))) pa_nil)))))), ?_⟩
    refine ⟨_, rfl, v, d, rfl, hd, _, rfl, ?_⟩
    cases e : isStr d with
    | false =>
      have k := k _ same_refl
      have e2 : lettersOk d = false := by cases d <;> first | rfl | cases e
      rw [e2] at k
      exact iteT k
    | true =>
      obtain ⟨z, rfl⟩ : ∃ z, d = .str z := by cases d <;> first | exact ⟨_, rfl⟩ | cases e
      cases hd
      have zl := small z rfl
      have ltr : z.cps.toList.length = z.length := Array.length_toList
      have fail : ∀ H', Same H H' → ((decide (1 ≤ z.length) && decide (z.length ≤ 4)) && (z.cps.toList.all fun c => decide (97 ≤ c) && decide (c ≤ 122)) && ascL z.cps.toList) = false → Q (.bl false) H' := fun H' s e => by
        have k := k H' s
        rw [show lettersOk (.str z) = _ from e] at k
        exact k
      refine iteF ⟨_, rfl, z, rfl, Nat.le_of_lt (small1000000 zl), _, _, rfl, rfl, _, rfl, ?_⟩
      have i1 : decide ((1 : Int) ≤ (z.length : Int)) = decide (1 ≤ z.length) := dec_le (a := 1)
      have i4 : decide ((z.length : Int) ≤ (4 : Int)) = decide (z.length ≤ 4) := dec_le (b := 4)
      rw [i1]
      cases l1 : decide (1 ≤ z.length) with
      | false => exact iteF ⟨_, rfl, iteT (fail _ same_refl (by rw [l1]; rfl))⟩
      | true =>
        refine iteT ⟨_, _, rfl, rfl, _, rfl, ?_⟩
        show if (!decide ((z.length : Int) ≤ (4 : Int))) = true then _ else _
        rw [i4]
        cases l4 : decide (z.length ≤ 4) with
        | false => exact iteT (fail _ same_refl (by rw [l1, l4]; rfl))
        | true =>
          refine iteF ?_
          -- the signs
          refine ⟨_, rfl, z, rfl, fun D hD => ?_⟩
          refine lc_chars (fun i H' => Same H H' ∧ H' D = some (.lst (((z.cps.toList.take i).map fun c => decide (97 ≤ c) && decide (c ≤ 122)).map V.bl))) ⟨sm1 hD, upd_same⟩ ?_ ?_
          · rintro i c H1 hc ⟨s1, hD1⟩
            have put : ∀ b : Bool, b = (decide (97 ≤ c) && decide (c ≤ 122)) → ∃ acc, H1 D = some (.lst acc) ∧ acc.length < sizeLine ∧ (Same H (upd H1 D (.lst (acc ++ [.bl b]))) ∧ (upd H1 D (.lst (acc ++ [.bl b]))) D = some (.lst (((z.cps.toList.take (i + 1)).map fun c => decide (97 ≤ c) && decide (c ≤ 122)).map V.bl))) := fun b eb => by
              refine ⟨_, hD1, small1000000 (by rw [List.length_map, List.length_map, List.length_take]; omega), swr s1 hD, ?_⟩
              rw [upd_same, List.take_succ, hc, List.map_append, List.map_append, eb]
              rfl
            refine ⟨rfl, _, rfl, _, _, rfl, rfl, _, rfl, ?_⟩
            rw [show (!decide ((⟨#[c]⟩ : Str).cps.toList < ("a" : Str).cps.toList)) = decide (97 ≤ c) from by
              show (!decide ([c] < [97])) = _
              rw [lt_sign, not_lt]]
            cases q1 : decide (97 ≤ c) with
            | false => exact iteF (put false (by rw [q1]; rfl))
            | true =>
              refine iteT ⟨_, _, rfl, rfl, ?_⟩
              rw [show (!decide (("z" : Str).cps.toList < (⟨#[c]⟩ : Str).cps.toList)) = decide (c ≤ 122) from by
                show (!decide ([122] < [c])) = _
                rw [lt_sign, not_lt]]
              exact put _ (by rw [q1, Bool.true_and])
          rintro H1 ⟨s1, hD1⟩
          rw [← ltr, List.take_length] at hD1
          refine ⟨D, _, rfl, SqL.of hD1, _, rfl, ?_⟩
          rw [List.all_map]
          cases q2 : z.cps.toList.all (id ∘ fun c => decide (97 ≤ c) && decide (c ≤ 122)) with
          | false => exact iteT (fail _ s1 (by rw [l1, l4, show (z.cps.toList.all fun c => decide (97 ≤ c) && decide (c ≤ 122)) = false from q2]; rfl))
          | true =>
            have lp : 1 ≤ z.length := of_decide_eq_true l1
            have l4' : z.length ≤ 4 := of_decide_eq_true l4
            refine iteF ⟨_, rfl, z, rfl, Nat.le_of_lt (small1000000 zl), _, _, rfl, rfl, _, rfl, by omega, by omega, fun D2 hD2 => ?_⟩
            rw [show ((z.length : Int) - 1).toNat = z.length - 1 from by omega]
            refine lc_range (lo := 0) (n := z.length - 1) (fun i H' => Same H1 H' ∧ H' D2 = some (.lst (((List.range i).map fun i => decide (z.cps.toList.getD i 0 < z.cps.toList.getD (i + 1) 0)).map V.bl))) ⟨sm1 hD2, upd_same⟩ ?_ ?_
            · rintro i H2 hi ⟨s2, hD3⟩
              have h1 : z.cps.toList[i]? = some (z.cps.toList.getD i 0) := by
                rw [List.getD_eq_getElem?_getD, List.getElem?_eq_getElem (by omega)]
                rfl
              have h2 : z.cps.toList[i + 1]? = some (z.cps.toList.getD (i + 1) 0) := by
                rw [List.getD_eq_getElem?_getD, List.getElem?_eq_getElem (by omega)]
                rfl
              refine ⟨rfl, _, rfl, _, rfl, z, _, _, rfl, rfl, Nat.le_of_lt (small1000000 zl), by rw [Int.zero_add]; exact atI_nat h1, _, rfl, _, rfl, _, _, rfl, rfl, z, _, _, rfl, rfl, Nat.le_of_lt (small1000000 zl), by rw [Int.zero_add]; exact atI_nat h2, _, _, rfl, rfl, ?_⟩
              refine ⟨_, hD3, small1000000 (by rw [List.length_map, List.length_map, List.length_range]; omega), swr s2 hD2, ?_⟩
              rw [upd_same, List.range_succ, List.map_append, List.map_append]
              rw [show decide ((⟨#[z.cps.toList.getD i 0]⟩ : Str).cps.toList < (⟨#[z.cps.toList.getD (i + 1) 0]⟩ : Str).cps.toList) = decide (z.cps.toList.getD i 0 < z.cps.toList.getD (i + 1) 0) from lt_sign]
              rfl
            rintro H2 ⟨s2, hD3⟩
            refine ⟨D2, _, rfl, SqL.of hD3, ?_⟩
            have k := k _ (s1.trans s2)
            rw [show lettersOk (.str z) = ((decide (1 ≤ z.length) && decide (z.length ≤ 4)) && (z.cps.toList.all fun c => decide (97 ≤ c) && decide (c ≤ 122)) && ascL z.cps.toList) from rfl, l1, l4, show (z.cps.toList.all fun c => decide (97 ≤ c) && decide (c ≤ 122)) = true from q2, Bool.true_and, Bool.true_and] at k
            rw [List.all_map]
            unfold ascL at k
            rw [ltr] at k
            exact k
end
end Wf
namespace Wf
open PySem L2
/-- small data: texts, and at two levels -/
def Sml (d : PyData) : Prop := (∀ z, d = .str z → z.length < 1000000) ∧ (its d).length < 1000000 ∧ ∀ e ∈ its d, (its e).length < 1000000
/-- how many letters -/
def nL : PyData → Nat
  | .str z => z.length
  | _ => 0
theorem But.stx {K : PySem.W.Frag} {H H' : Hp} {x C dx : Addr} {fs : List (Str × V)} (b : But x H H') (e : H x = some (.ins C dx fs)) : Sty K H H' := by
  have ne : ∀ {a : Addr} {o : HO}, H a = some o → (∀ C dx fs, o ≠ .ins C dx fs) → a ≠ x := fun {a o} h n z => by
    rw [z, e] at h
    exact n C dx fs (Option.some.inj h).symm
  refine ⟨⟨fun a xs h => ?_, fun a xs h => ?_⟩, fun a ks h => b _ _ (ne h fun _ _ _ z => by cases z) h⟩
  · rcases h with (h | ⟨o, h⟩) | h
    · exact .inl (.inl (b _ _ (ne h fun _ _ _ z => by cases z) h))
    · exact .inl (.inr ⟨o, b _ _ (ne h fun _ _ _ z => by cases z) h⟩)
    · exact .inr h
  · rcases h with (h | ⟨o, h⟩) | h
    · exact .inl (.inl (b _ _ (ne h fun _ _ _ z => by cases z) h))
    · exact .inl (.inr ⟨o, b _ _ (ne h fun _ _ _ z => by cases z) h⟩)
    · exact .inr h
theorem letters_str {d : PyData} (h : lettersOk d = true) : ∃ z, d = .str z ∧ 1 ≤ z.length ∧ z.length ≤ 4 := by
  cases d with
  | str z =>
    have h2 : ((decide (1 ≤ z.length) && decide (z.length ≤ 4)) && (z.cps.toList.all fun c => decide (97 ≤ c) && decide (c ≤ 122)) && ascL z.cps.toList) = true := h
    simp only [Bool.and_eq_true, decide_eq_true_eq] at h2
    exact ⟨z, rfl, h2.1.1⟩
  | _ => cases h
theorem table_seq {d e : PyData} (h : isTable d e = true) : isSeq d = true ∧ isSeq e = true ∧ (its e).length = (its d).length ∧ 0 < (its d).length := by
  unfold isTable at h
  simp only [Bool.and_eq_true, decide_eq_true_eq, beq_iff_eq] at h
  exact ⟨h.1.1.1, h.1.1.2, h.1.2.symm, h.2⟩
end Wf
namespace Wf
open PySem L2
abbrev s_law_odd : Stmt := top 41
abbrev N_law_odd : List Str := ["pen", "some"]
theorem sc_law_odd : FnScope N_law_odd ["pen"] (defScope s_law_odd) := ⟨rfl, rfl, rfl, by decide +kernel, rfl, by decide +kernel, by decide +kernel⟩
theorem upd_upd {H : Hp} {a : Addr} {o u : HO} : upd (upd H a o) a u = upd H a u := by
  funext b
  by_cases e : b = a
  · rw [e, upd_same, upd_same]
  · rw [upd_ne e, upd_ne e, upd_ne e]
/-- odd things: small, and they can be shown -/
structure Od (d : PyData) : Prop where
  s : d.showable = true
  dp : d.depth ≤ 5
  sz : d.shown.length ≤ 1000
  sm : Sml d
  st : ∀ z, d = .str z → PyData.strOk z = true
  it : ∀ e ∈ its d, e.showable = true ∧ e.depth ≤ 60 ∧ e.shown.length ≤ 1000
def smlB (d : PyData) : Bool := (match d with | .str z => decide (z.length < 1000000) | _ => true) && decide ((its d).length < 1000000) && (its d).all fun e => decide ((its e).length < 1000000)
theorem sml_of {d : PyData} (h : smlB d = true) : Sml d := by
  unfold smlB at h
  simp only [Bool.and_eq_true, decide_eq_true_eq, List.all_eq_true] at h
  obtain ⟨⟨h1, h2⟩, h3⟩ := h
  refine ⟨fun z e => ?_, h2, h3⟩
  subst e
  exact of_decide_eq_true h1
theorem od_of {d : PyData} (h : (d.showable && decide (d.depth ≤ 5) && decide (d.shown.length ≤ 1000) && smlB d && (match d with | .str z => PyData.strOk z | _ => true) && (its d).all fun e => e.showable && decide (e.depth ≤ 60) && decide (e.shown.length ≤ 1000)) = true) : Od d := by
  simp only [Bool.and_eq_true, decide_eq_true_eq, List.all_eq_true] at h
  refine ⟨h.1.1.1.1.1, h.1.1.1.1.2, h.1.1.1.2, sml_of h.1.1.2, fun z e => ?_, fun e he => ?_⟩
  · subst e
    exact h.1.2
  · exact ⟨(h.2 e he).1.1, (h.2 e he).1.2, (h.2 e he).2⟩
def spOdd (K : PySem.W.Frag) : Sp := fun vs H Q _ => ∃ (p c : Addr) (n : Nat), vs = [.ref p] ∧ Pen H p c n ∧ n < 1000000 ∧ ∀ (v : V) (d : PyData) (H' : Hp), NewD K H H' v d → Od d → But p H H' → Pen H' p c (n + 1) → Q v H'
section
variable {P : Program} {w : World} {K : PySem.W.Frag} {mg : Str → Option Value} {base : Heap} {f : Addr} {fd : FuncData}
theorem ok_odd (F : Fun K "_law_odd" "_law_odd" s_law_odd f fd) (T : Txt K mg) (D_law_pick : Dn P w K mg base 2 "_law_pick" ["pen", "some"] (spPick K)) : FnOk P w K mg base CX0 3 f fd ["pen"] (spOdd K) := by
  refine F.ok sc_law_odd (fun vs H Q E h => ?_) (fun cdv A outer s H vs Q E hr h => ?_)
  · obtain ⟨p, c, n, rfl, _⟩ := h
    rfl
  · refine ⟨_, (pss_cons (ps_set (i := 1) sc_law_odd.nd rfl (Or.inl rfl) (pe_lst (pa_cons (pe_non) (pa_cons (pe_bl) (pa_cons (pe_bl) (pa_cons (pe_int) (pa_cons (pe_int) (pa_cons (pe_un un_neg (pe_int)) (pa_cons (pe_int) (pa_cons (pe_op op_pow (pe_int) (pe_int)) (pa_cons (pe_str) (pa_cons (pe_str) (pa_cons (pe_str) (pa_cons (pe_str) (pa_cons (pe_str) (pa_cons (pe_str) (pa_cons (pe_str) (pa_cons (pe_str) (pa_cons (pe_tup pa_nil) (pa_cons (pe_tup (pa_cons (pe_str) pa_nil)) (pa_cons (pe_lst pa_nil) pa_nil)))))))))))))))))))))
  (pss_one (ps_ret (pe_cl D_law_pick (hr.mono (by decide)) (pa_cons (pv 0) (pa_cons (pe_op op_cat (pv 1) (pe_lst (pa_cons (pe_lst (pa_cons (pe_str) pa_nil)) (pa_cons (pe_dnewK) (pa_cons (pe_disp (pps_cons (pe_str) (pe_int) pps_nil) (by rfl) (by rfl) (fun z => by cases z) (by decide)) (pa_cons (pe_tup (pa_cons (pe_tup pa_nil) pa_nil)) (pa_cons (pe_tup (pa_cons (pe_int) pa_nil)) (pa_cons (pe_lst (pa_cons (pe_int) pa_nil)) (pa_cons (pe_tup (pa_cons (pe_non) pa_nil)) (pa_cons (pe_lst (pa_cons (pe_lst pa_nil) pa_nil)) (pa_cons (pe_tup (pa_cons (pe_bl) (pa_cons (pe_bl) pa_nil))) (pa_cons (pe_tup (pa_cons (pe_tup (pa_cons (pe_int) pa_nil)) pa_nil)) pa_nil)))))))))))) pa_nil)))))), ?_⟩
    obtain ⟨p, c, n, rfl, hp, hn, k⟩ := h
    refine ⟨_, rfl, _, _, rfl, rfl, ⟨by decide, by decide, by decide⟩, by show 0 ≤ sizeLine; decide, fun t1 n1 => ?_⟩
    have q1 : Same H (upd H t1 (.tup [])) := sm1 n1
    have e1 : (upd H t1 (.tup [])) t1 = some (.tup []) := upd_same
    generalize upd H t1 (.tup []) = A1 at q1 e1 ⊢
    refine ⟨by show 1 ≤ sizeLine; decide, fun t2 n2 => ?_⟩
    have q2 : Same A1 (upd A1 t2 (.tup [.str "a"])) := sm1 n2
    have e2 : (upd A1 t2 (.tup [.str "a"])) t2 = some (.tup [.str "a"]) := upd_same
    generalize upd A1 t2 (.tup [.str "a"]) = A2 at q2 e2 ⊢
    refine ⟨by show 0 ≤ sizeLine; decide, fun t3 n3 => ?_⟩
    have q3 : Same A2 (upd A2 t3 (.lst [])) := sm1 n3
    have e3 : (upd A2 t3 (.lst [])) t3 = some (.lst []) := upd_same
    generalize upd A2 t3 (.lst []) = A3 at q3 e3 ⊢
    refine ⟨by show 19 ≤ sizeLine; decide, fun l n4 => ?_⟩
    have q4 : Same A3 (upd A3 l (.lst [.non, .bl true, .bl false, .int 0, .int 1, .int (-1), .int 2, .int (10 ^ (60 : Int).toNat), .str "", .str "a", .str "ab", .str "ba", .str "A", .str "a b", .str "zz", .str "abcde", .ref t1, .ref t2, .ref t3])) := sm1 n4
    have e4 : (upd A3 l (.lst [.non, .bl true, .bl false, .int 0, .int 1, .int (-1), .int 2, .int (10 ^ (60 : Int).toNat), .str "", .str "a", .str "ab", .str "ba", .str "A", .str "a b", .str "zz", .str "abcde", .ref t1, .ref t2, .ref t3])) l = some (.lst [.non, .bl true, .bl false, .int 0, .int 1, .int (-1), .int 2, .int (10 ^ (60 : Int).toNat), .str "", .str "a", .str "ab", .str "ba", .str "A", .str "a b", .str "zz", .str "abcde", .ref t1, .ref t2, .ref t3]) := upd_same
    generalize upd A3 l (.lst [.non, .bl true, .bl false, .int 0, .int 1, .int (-1), .int 2, .int (10 ^ (60 : Int).toNat), .str "", .str "a", .str "ab", .str "ba", .str "A", .str "a b", .str "zz", .str "abcde", .ref t1, .ref t2, .ref t3]) = A4 at q4 e4 ⊢
    refine ⟨_, rfl, _, rfl, by show 1 ≤ sizeLine; decide, fun u1 n5 => ?_⟩
    have q5 : Same A4 (upd A4 u1 (.lst [.str "a"])) := sm1 n5
    have e5 : (upd A4 u1 (.lst [.str "a"])) u1 = some (.lst [.str "a"]) := upd_same
    generalize upd A4 u1 (.lst [.str "a"]) = A5 at q5 e5 ⊢
    refine fun u2 n6 => ?_
    have q6 : Same A5 (upd A5 u2 (.dK [])) := sm1 n6
    have e6 : (upd A5 u2 (.dK [])) u2 = some (.dK []) := upd_same
    generalize upd A5 u2 (.dK []) = A6 at q6 e6 ⊢
    refine fun u3 n7 => ⟨upd_same, [(.inr "a", .int 1)], rfl, by decide, ?_⟩
    rw [show upd (upd A6 u3 (.dK [])) u3 (.dK (mergeK [] [(.inr "a", .int 1)])) = upd A6 u3 (dkI [(.inr "a", 1)]) from upd_upd]
    refine ?_
    have q7 : Same A6 (upd A6 u3 (dkI [(.inr "a", 1)])) := sm1 n7
    have e7 : (upd A6 u3 (dkI [(.inr "a", 1)])) u3 = some (dkI [(.inr "a", 1)]) := upd_same
    generalize upd A6 u3 (dkI [(.inr "a", 1)]) = A7 at q7 e7 ⊢
    refine ⟨by show 0 ≤ sizeLine; decide, fun w4 n8 => ?_⟩
    have q8 : Same A7 (upd A7 w4 (.tup [])) := sm1 n8
    have e8 : (upd A7 w4 (.tup [])) w4 = some (.tup []) := upd_same
    generalize upd A7 w4 (.tup []) = A8 at q8 e8 ⊢
    refine ⟨by show 1 ≤ sizeLine; decide, fun u4 n9 => ?_⟩
    have q9 : Same A8 (upd A8 u4 (.tup [.ref w4])) := sm1 n9
    have e9 : (upd A8 u4 (.tup [.ref w4])) u4 = some (.tup [.ref w4]) := upd_same
    generalize upd A8 u4 (.tup [.ref w4]) = A9 at q9 e9 ⊢
    refine ⟨by show 1 ≤ sizeLine; decide, fun u5 n10 => ?_⟩
    have q10 : Same A9 (upd A9 u5 (.tup [.int 0])) := sm1 n10
    have e10 : (upd A9 u5 (.tup [.int 0])) u5 = some (.tup [.int 0]) := upd_same
    generalize upd A9 u5 (.tup [.int 0]) = A10 at q10 e10 ⊢
    refine ⟨by show 1 ≤ sizeLine; decide, fun u6 n11 => ?_⟩
    have q11 : Same A10 (upd A10 u6 (.lst [.int 0])) := sm1 n11
    have e11 : (upd A10 u6 (.lst [.int 0])) u6 = some (.lst [.int 0]) := upd_same
    generalize upd A10 u6 (.lst [.int 0]) = A11 at q11 e11 ⊢
    refine ⟨by show 1 ≤ sizeLine; decide, fun u7 n12 => ?_⟩
    have q12 : Same A11 (upd A11 u7 (.tup [.non])) := sm1 n12
    have e12 : (upd A11 u7 (.tup [.non])) u7 = some (.tup [.non]) := upd_same
    generalize upd A11 u7 (.tup [.non]) = A12 at q12 e12 ⊢
    refine ⟨by show 0 ≤ sizeLine; decide, fun w8 n13 => ?_⟩
    have q13 : Same A12 (upd A12 w8 (.lst [])) := sm1 n13
    have e13 : (upd A12 w8 (.lst [])) w8 = some (.lst []) := upd_same
    generalize upd A12 w8 (.lst []) = A13 at q13 e13 ⊢
    refine ⟨by show 1 ≤ sizeLine; decide, fun u8 n14 => ?_⟩
    have q14 : Same A13 (upd A13 u8 (.lst [.ref w8])) := sm1 n14
    have e14 : (upd A13 u8 (.lst [.ref w8])) u8 = some (.lst [.ref w8]) := upd_same
    generalize upd A13 u8 (.lst [.ref w8]) = A14 at q14 e14 ⊢
    refine ⟨by show 2 ≤ sizeLine; decide, fun u9 n15 => ?_⟩
    have q15 : Same A14 (upd A14 u9 (.tup [.bl true, .bl false])) := sm1 n15
    have e15 : (upd A14 u9 (.tup [.bl true, .bl false])) u9 = some (.tup [.bl true, .bl false]) := upd_same
    generalize upd A14 u9 (.tup [.bl true, .bl false]) = A15 at q15 e15 ⊢
    refine ⟨by show 1 ≤ sizeLine; decide, fun w10 n16 => ?_⟩
    have q16 : Same A15 (upd A15 w10 (.tup [.int 0])) := sm1 n16
    have e16 : (upd A15 w10 (.tup [.int 0])) w10 = some (.tup [.int 0]) := upd_same
    generalize upd A15 w10 (.tup [.int 0]) = A16 at q16 e16 ⊢
    refine ⟨by show 1 ≤ sizeLine; decide, fun u10 n17 => ?_⟩
    have q17 : Same A16 (upd A16 u10 (.tup [.ref w10])) := sm1 n17
    have e17 : (upd A16 u10 (.tup [.ref w10])) u10 = some (.tup [.ref w10]) := upd_same
    generalize upd A16 u10 (.tup [.ref w10]) = A17 at q17 e17 ⊢
    refine ⟨by show 10 ≤ sizeLine; decide, fun l2 n18 => ?_⟩
    have q18 : Same A17 (upd A17 l2 (.lst [.ref u1, .ref u2, .ref u3, .ref u4, .ref u5, .ref u6, .ref u7, .ref u8, .ref u9, .ref u10])) := sm1 n18
    have e18 : (upd A17 l2 (.lst [.ref u1, .ref u2, .ref u3, .ref u4, .ref u5, .ref u6, .ref u7, .ref u8, .ref u9, .ref u10])) l2 = some (.lst [.ref u1, .ref u2, .ref u3, .ref u4, .ref u5, .ref u6, .ref u7, .ref u8, .ref u9, .ref u10]) := upd_same
    generalize upd A17 l2 (.lst [.ref u1, .ref u2, .ref u3, .ref u4, .ref u5, .ref u6, .ref u7, .ref u8, .ref u9, .ref u10]) = A18 at q18 e18 ⊢
    refine ⟨l, l2, _, _, rfl, rfl, Same.trans q5 (Same.trans q6 (Same.trans q7 (Same.trans q8 (Same.trans q9 (Same.trans q10 (Same.trans q11 (Same.trans q12 (Same.trans q13 (Same.trans q14 (Same.trans q15 (Same.trans q16 (Same.trans q17 q18)))))))))))) _ _ e4, e18, by show 29 ≤ sizeLine; decide, fun l3 n19 => ?_⟩
    have q19 : Same A18 (upd A18 l3 (.lst ([.non, .bl true, .bl false, .int 0, .int 1, .int (-1), .int 2, .int (10 ^ (60 : Int).toNat), .str "", .str "a", .str "ab", .str "ba", .str "A", .str "a b", .str "zz", .str "abcde", .ref t1, .ref t2, .ref t3] ++ [.ref u1, .ref u2, .ref u3, .ref u4, .ref u5, .ref u6, .ref u7, .ref u8, .ref u9, .ref u10]))) := sm1 n19
    have e19 : (upd A18 l3 (.lst ([.non, .bl true, .bl false, .int 0, .int 1, .int (-1), .int 2, .int (10 ^ (60 : Int).toNat), .str "", .str "a", .str "ab", .str "ba", .str "A", .str "a b", .str "zz", .str "abcde", .ref t1, .ref t2, .ref t3] ++ [.ref u1, .ref u2, .ref u3, .ref u4, .ref u5, .ref u6, .ref u7, .ref u8, .ref u9, .ref u10]))) l3 = some (.lst ([.non, .bl true, .bl false, .int 0, .int 1, .int (-1), .int 2, .int (10 ^ (60 : Int).toNat), .str "", .str "a", .str "ab", .str "ba", .str "A", .str "a b", .str "zz", .str "abcde", .ref t1, .ref t2, .ref t3] ++ [.ref u1, .ref u2, .ref u3, .ref u4, .ref u5, .ref u6, .ref u7, .ref u8, .ref u9, .ref u10])) := upd_same
    generalize upd A18 l3 (.lst ([.non, .bl true, .bl false, .int 0, .int 1, .int (-1), .int 2, .int (10 ^ (60 : Int).toNat), .str "", .str "a", .str "ab", .str "ba", .str "A", .str "a b", .str "zz", .str "abcde", .ref t1, .ref t2, .ref t3] ++ [.ref u1, .ref u2, .ref u3, .ref u4, .ref u5, .ref u6, .ref u7, .ref u8, .ref u9, .ref u10])) = A19 at q19 e19 ⊢
    have f1 : Same H A1 := q1
    have f2 : Same H A2 := f1.trans q2
    have f3 : Same H A3 := f2.trans q3
    have f4 : Same H A4 := f3.trans q4
    have f5 : Same H A5 := f4.trans q5
    have f6 : Same H A6 := f5.trans q6
    have f7 : Same H A7 := f6.trans q7
    have f8 : Same H A8 := f7.trans q8
    have f9 : Same H A9 := f8.trans q9
    have f10 : Same H A10 := f9.trans q10
    have f11 : Same H A11 := f10.trans q11
    have f12 : Same H A12 := f11.trans q12
    have f13 : Same H A13 := f12.trans q13
    have f14 : Same H A14 := f13.trans q14
    have f15 : Same H A15 := f14.trans q15
    have f16 : Same H A16 := f15.trans q16
    have f17 : Same H A17 := f16.trans q17
    have f18 : Same H A18 := f17.trans q18
    have f19 : Same H A19 := f18.trans q19
    have g19 : Same A19 A19 := same_refl
    have g18 : Same A18 A19 := q19.trans g19
    have g17 : Same A17 A19 := q18.trans g18
    have g16 : Same A16 A19 := q17.trans g17
    have g15 : Same A15 A19 := q16.trans g16
    have g14 : Same A14 A19 := q15.trans g15
    have g13 : Same A13 A19 := q14.trans g14
    have g12 : Same A12 A19 := q13.trans g13
    have g11 : Same A11 A19 := q12.trans g12
    have g10 : Same A10 A19 := q11.trans g11
    have g9 : Same A9 A19 := q10.trans g10
    have g8 : Same A8 A19 := q9.trans g9
    have g7 : Same A7 A19 := q8.trans g8
    have g6 : Same A6 A19 := q7.trans g7
    have g5 : Same A5 A19 := q6.trans g6
    have g4 : Same A4 A19 := q5.trans g5
    have g3 : Same A3 A19 := q4.trans g4
    have g2 : Same A2 A19 := q3.trans g3
    have g1 : Same A1 A19 := q2.trans g2
    have z1 : ∀ H', New H A19 H' → H' t1 = some (.tup []) := fun H' nw => nw _ _ (n1) (g1 _ _ e1)
    have z2 : ∀ H', New H A19 H' → H' t2 = some (.tup [.str "a"]) := fun H' nw => nw _ _ (There.of f1 _ n2) (g2 _ _ e2)
    have z3 : ∀ H', New H A19 H' → H' t3 = some (.lst []) := fun H' nw => nw _ _ (There.of f2 _ n3) (g3 _ _ e3)
    have z5 : ∀ H', New H A19 H' → H' u1 = some (.lst [.str "a"]) := fun H' nw => nw _ _ (There.of f4 _ n5) (g5 _ _ e5)
    have z6 : ∀ H', New H A19 H' → H' u2 = some (.dK []) := fun H' nw => nw _ _ (There.of f5 _ n6) (g6 _ _ e6)
    have z7 : ∀ H', New H A19 H' → H' u3 = some (dkI [(.inr "a", 1)]) := fun H' nw => nw _ _ (There.of f6 _ n7) (g7 _ _ e7)
    have z8 : ∀ H', New H A19 H' → H' w4 = some (.tup []) := fun H' nw => nw _ _ (There.of f7 _ n8) (g8 _ _ e8)
    have z9 : ∀ H', New H A19 H' → H' u4 = some (.tup [.ref w4]) := fun H' nw => nw _ _ (There.of f8 _ n9) (g9 _ _ e9)
    have z10 : ∀ H', New H A19 H' → H' u5 = some (.tup [.int 0]) := fun H' nw => nw _ _ (There.of f9 _ n10) (g10 _ _ e10)
    have z11 : ∀ H', New H A19 H' → H' u6 = some (.lst [.int 0]) := fun H' nw => nw _ _ (There.of f10 _ n11) (g11 _ _ e11)
    have z12 : ∀ H', New H A19 H' → H' u7 = some (.tup [.non]) := fun H' nw => nw _ _ (There.of f11 _ n12) (g12 _ _ e12)
    have z13 : ∀ H', New H A19 H' → H' w8 = some (.lst []) := fun H' nw => nw _ _ (There.of f12 _ n13) (g13 _ _ e13)
    have z14 : ∀ H', New H A19 H' → H' u8 = some (.lst [.ref w8]) := fun H' nw => nw _ _ (There.of f13 _ n14) (g14 _ _ e14)
    have z15 : ∀ H', New H A19 H' → H' u9 = some (.tup [.bl true, .bl false]) := fun H' nw => nw _ _ (There.of f14 _ n15) (g15 _ _ e15)
    have z16 : ∀ H', New H A19 H' → H' w10 = some (.tup [.int 0]) := fun H' nw => nw _ _ (There.of f15 _ n16) (g16 _ _ e16)
    have z17 : ∀ H', New H A19 H' → H' u10 = some (.tup [.ref w10]) := fun H' nw => nw _ _ (There.of f16 _ n17) (g17 _ _ e17)
    have hp1 := hp.same f19
    obtain ⟨kvs, hpk⟩ := hp.at
    have pn : H p ≠ none := fun z => by rw [hpk] at z; cases z
    refine ⟨p, c, n, hp1, hn, .inl ⟨l3, _, rfl, .inl (SqL.of e19), by show 0 < 29; decide, by show 29 < 1000000; decide, fun x H' hx bt hp' => ?_⟩⟩
    have fin : ∀ d, NewD K H A19 x d → Od d → Q x H' := fun d nd od => k x d H' (nd.but bt pn) od (But.trans (But.of f19) bt) hp'
    simp only [List.cons_append, List.nil_append, List.mem_cons, List.not_mem_nil, or_false] at hx
    rcases hx with rfl | rfl | rfl | rfl | rfl | rfl | rfl | rfl | rfl | rfl | rfl | rfl | rfl | rfl | rfl | rfl | rfl | rfl | rfl | rfl | rfl | rfl | rfl | rfl | rfl | rfl | rfl | rfl | rfl
    · exact fin (.none) (fun _ _ => .non) (od_of (by decide +kernel))
    · exact fin (.bool true) (fun _ _ => .bl _) (od_of (by decide +kernel))
    · exact fin (.bool false) (fun _ _ => .bl _) (od_of (by decide +kernel))
    · exact fin (.int 0) (fun _ _ => .int _) (od_of (by decide +kernel))
    · exact fin (.int 1) (fun _ _ => .int _) (od_of (by decide +kernel))
    · exact fin (.int (-1)) (fun _ _ => .int _) (od_of (by decide +kernel))
    · exact fin (.int 2) (fun _ _ => .int _) (od_of (by decide +kernel))
    · exact fin (.int (10 ^ (60 : Int).toNat)) (fun _ _ => .int _) (od_of (by decide +kernel))
    · exact fin (.str "") (fun _ _ => .str _) (od_of (by decide +kernel))
    · exact fin (.str "a") (fun _ _ => .str _) (od_of (by decide +kernel))
    · exact fin (.str "ab") (fun _ _ => .str _) (od_of (by decide +kernel))
    · exact fin (.str "ba") (fun _ _ => .str _) (od_of (by decide +kernel))
    · exact fin (.str "A") (fun _ _ => .str _) (od_of (by decide +kernel))
    · exact fin (.str "a b") (fun _ _ => .str _) (od_of (by decide +kernel))
    · exact fin (.str "zz") (fun _ _ => .str _) (od_of (by decide +kernel))
    · exact fin (.str "abcde") (fun _ _ => .str _) (od_of (by decide +kernel))
    · exact fin (.tuple []) (fun H' nw => .tup (SqT.of (z1 H' nw)) .nil) (od_of (by decide +kernel))
    · exact fin (.tuple [.str "a"]) (fun H' nw => .tup (SqT.of (z2 H' nw)) (.cons (.str _) .nil)) (od_of (by decide +kernel))
    · exact fin (.list []) (fun H' nw => .lst (SqL.of (z3 H' nw)) .nil) (od_of (by decide +kernel))
    · exact fin (.list [.str "a"]) (fun H' nw => .lst (SqL.of (z5 H' nw)) (.cons (.str _) .nil)) (od_of (by decide +kernel))
    · exact fin (.dict []) (fun H' nw => .dk (ks := []) (z6 H' nw) rfl) (od_of (by decide +kernel))
    · exact fin (.dict [(.str "a", .int 1)]) (fun H' nw => .dk (ks := [(.inr "a", 1)]) (z7 H' nw) rfl) (od_of (by decide +kernel))
    · exact fin (.tuple [.tuple []]) (fun H' nw => .tup (SqT.of (z9 H' nw)) (.cons (.tup (SqT.of (z8 H' nw)) .nil) .nil)) (od_of (by decide +kernel))
    · exact fin (.tuple [.int 0]) (fun H' nw => .tup (SqT.of (z10 H' nw)) (.cons (.int _) .nil)) (od_of (by decide +kernel))
    · exact fin (.list [.int 0]) (fun H' nw => .lst (SqL.of (z11 H' nw)) (.cons (.int _) .nil)) (od_of (by decide +kernel))
    · exact fin (.tuple [.none]) (fun H' nw => .tup (SqT.of (z12 H' nw)) (.cons .non .nil)) (od_of (by decide +kernel))
    · exact fin (.list [.list []]) (fun H' nw => .lst (SqL.of (z14 H' nw)) (.cons (.lst (SqL.of (z13 H' nw)) .nil) .nil)) (od_of (by decide +kernel))
    · exact fin (.tuple [.bool true, .bool false]) (fun H' nw => .tup (SqT.of (z15 H' nw)) (.cons (.bl _) (.cons (.bl _) .nil))) (od_of (by decide +kernel))
    · exact fin (.tuple [.tuple [.int 0]]) (fun H' nw => .tup (SqT.of (z17 H' nw)) (.cons (.tup (SqT.of (z16 H' nw)) (.cons (.int _) .nil)) .nil)) (od_of (by decide +kernel))
end
end Wf
namespace Wf
open PySem L2
abbrev s_law_is_letters : Stmt := top 42
abbrev N_law_is_letters : List Str := ["value", "letter", "at"]
theorem sc_law_is_letters : FnScope N_law_is_letters ["value"] (defScope s_law_is_letters) := ⟨rfl, rfl, rfl, by decide +kernel, rfl, by decide +kernel, by decide +kernel⟩
abbrev s_law_row_right : Stmt := top 44
abbrev N_law_row_right : List Str := ["letters", "row", "size", "target"]
theorem sc_law_row_right : FnScope N_law_row_right ["letters", "row", "size"] (defScope s_law_row_right) := ⟨rfl, rfl, rfl, by decide +kernel, rfl, by decide +kernel, by decide +kernel⟩
theorem abc_list : ("abcdefghijklmnopqrstuvwxyz" : Str).cps.toList = List.range' 97 26 := by decide +kernel
theorem in_abc (c : Nat) : decide (c ∈ ("abcdefghijklmnopqrstuvwxyz" : Str).cps.toList) = (decide (97 ≤ c) && decide (c ≤ 122)) := by
  rw [abc_list, ← Bool.decide_and]
  refine decide_eq_decide.mpr ?_
  rw [List.mem_range'_1]
  omega
/-- the text of one sign -/
def sgn (c : Nat) : Str := ⟨#[c]⟩
theorem dat_map {α : Type} {K : PySem.W.Frag} {H : Hp} {xs : List α} {f : α → V} (h : ∀ x ∈ xs, ∃ d, Dp K H (f x) d ∧ Pl 60 d) : Dat K H (xs.map f) := fun y hy => by
  obtain ⟨x, hx, rfl⟩ := List.mem_map.mp hy
  exact h x hx
def spIsL (K : PySem.W.Frag) : Sp := fun vs H Q _ => ∃ (v : V) (d : PyData), vs = [v] ∧ Dq K H v d ∧ (∀ z, d = .str z → z.length < 1000000 ∧ PyData.strOk z = true) ∧ ∀ H', Same H H' → Q (.bl (lettersOk d)) H'
def spRR (K : PySem.W.Frag) : Sp := fun vs H Q _ => ∃ (z : Str) (v : V) (d : PyData) (n : Int), vs = [.str z, v, .int n] ∧ Dq K H v d ∧ z.length ≤ 1000 ∧ ∀ H', Same H H' → Q (.bl (isRow z.length n d)) H'
theorem filter_empty {α β : Type} {xs : List α} {p : α → Bool} {f : α → β} : ((xs.filter fun x => !p x).map f).isEmpty = xs.all p := by
  induction xs with
  | nil => rfl
  | cons x xs ih =>
    rw [List.filter_cons, List.all_cons]
    cases h : p x with
    | true => exact ih
    | false => rfl
theorem filter_yes {α : Type} {p : α → Bool} {x : α} (h : p x = true) : [x].filter p = [x] := by
  rw [List.filter_cons, h]
  rfl
theorem filter_no {α : Type} {p : α → Bool} {x : α} (h : p x = false) : [x].filter p = [] := by
  rw [List.filter_cons, h]
  rfl
section
variable {P : Program} {w : World} {K : PySem.W.Frag} {mg : Str → Option Value} {base : Heap} {f : Addr} {fd : FuncData}
theorem ok_is_letters (F : Fun K "_law_is_letters" "_law_is_letters" s_law_is_letters f fd) (T : Txt K mg) : FnOk P w K mg base CX0 1 f fd ["value"] (spIsL K) := by
  refine F.ok sc_law_is_letters (fun vs H Q E h => ?_) (fun cdv A outer s H vs Q E hr h => ?_)
  · obtain ⟨v, d, rfl, _⟩ := h
    rfl
  · obtain ⟨v, d, rfl, hd, small, k⟩ := h
    refine ⟨_, (pss_cons (ps_if (PW.pt (pw_or (pt_not (pt_val (pe_callB (call_isD kit_str) (by rfl) T.z_isinstance (by decide +kernel) (pa_cons (pv 0) (pa_cons (pe_ty (T := "str") T.z_str (by decide +kernel)) pa_nil))))) (pw_or1 (pt_not (pt_chain op_le op_le (pe_int) (pe_callB call_len_str (by rfl) T.z_len PySem.boot_len (pa_cons (pv 0) pa_nil)) (pe_int)))))) (pss_one (ps_ret (pe_bl))) pss_nil)
  (pss_cons (ps_if (pt_cmpR (op_neD hr.units) (pe_lc (own := [("letter", 1)]) (g := gName 1) (by rfl) sc_law_is_letters.nd (pi_str (pv 0)) (blkOk_by (own := [("letter", 1)]) (N := N_law_is_letters) (sc := defScope s_law_is_letters) (by decide +kernel)) (fun _ _ _ _ _ => (pg_name (i := 1) sc_law_is_letters.nd rfl (Or.inl rfl))) (fun _ _ _ _ _ => (pts_one (pt_cmpR op_notIn_sign (pv 1) (pe_str) (by rfl)))) (fun _ _ _ _ _ => (pv 1))) (pe_lst pa_nil) (nomark _)) (pss_one (ps_ret (pe_bl))) pss_nil)
  (pss_one (ps_ret (pe_cmpR (op_eqD hr.units) (pe_lc (own := [("at", 2)]) (g := gName 2) (by rfl) sc_law_is_letters.nd (pi_range1 (by rfl) T.z_range (pa_cons (pe_op op_sub (pe_callB call_len_str (by rfl) T.z_len PySem.boot_len (pa_cons (pv 0) pa_nil)) (pe_int)) pa_nil)) (blkOk_by (own := [("at", 2)]) (N := N_law_is_letters) (sc := defScope s_law_is_letters) (by decide +kernel)) (fun _ _ _ _ _ => (pg_name (i := 2) sc_law_is_letters.nd rfl (Or.inl rfl))) (fun _ _ _ _ _ => (pts_one (pt_cmpR op_ge_str (pe_ix ix_str (pv 0) (pv 2) (fun _ _ => rfl)) (pe_ix ix_str (pv 0) (pe_op op_add (pv 2) (pe_int)) (fun _ _ => rfl)) (nomark _)))) (fun _ _ _ _ _ => (pv 2))) (pe_lst pa_nil) (nomark _)))))), ?_⟩
    refine ⟨_, rfl, v, d, rfl, hd, _, rfl, ?_⟩
    cases e : isStr d with
    | false =>
      have k := k _ same_refl
      have e2 : lettersOk d = false := by cases d <;> first | rfl | cases e
      rw [e2] at k
      exact iteT k
    | true =>
      obtain ⟨z, rfl⟩ : ∃ z, d = .str z := by cases d <;> first | exact ⟨_, rfl⟩ | cases e
      cases hd
      obtain ⟨zl, zo⟩ := small z rfl
      have ltr : z.cps.toList.length = z.length := Array.length_toList
      have fail : ∀ H', Same H H' → ((decide (1 ≤ z.length) && decide (z.length ≤ 4)) && (z.cps.toList.all fun c => decide (97 ≤ c) && decide (c ≤ 122)) && ascL z.cps.toList) = false → Q (.bl false) H' := fun H' s e => by
        have k := k H' s
        rw [show lettersOk (.str z) = _ from e] at k
        exact k
      refine iteF ⟨_, rfl, z, rfl, Nat.le_of_lt (small1000000 zl), _, _, rfl, rfl, _, rfl, ?_⟩
      have i1 : decide ((1 : Int) ≤ (z.length : Int)) = decide (1 ≤ z.length) := dec_le (a := 1)
      have i4 : decide ((z.length : Int) ≤ (4 : Int)) = decide (z.length ≤ 4) := dec_le (b := 4)
      rw [i1]
      cases l1 : decide (1 ≤ z.length) with
      | false => exact iteF ⟨_, rfl, iteT (fail _ same_refl (by rw [l1]; rfl))⟩
      | true =>
        refine iteT ⟨_, _, rfl, rfl, _, rfl, ?_⟩
        show if (!decide ((z.length : Int) ≤ (4 : Int))) = true then _ else _
        rw [i4]
        cases l4 : decide (z.length ≤ 4) with
        | false => exact iteT (fail _ same_refl (by rw [l1, l4]; rfl))
        | true =>
          refine iteF ?_
          have signs : ∀ ch ∈ z.cps.toList, PyData.strOk (sgn ch) = true := fun ch hc => by
            have z2 : z.cps.all (· < 0x110000) = true := zo
            rw [← Array.all_toList, List.all_eq_true] at z2
            show (#[ch] : Array Nat).all (· < 0x110000) = true
            rw [← Array.all_toList]
            show (decide (ch < 0x110000) && true) = true
            rw [Bool.and_true]
            exact z2 ch hc
          -- the signs
          refine ⟨_, rfl, z, rfl, fun D hD => ?_⟩
          refine lc_chars (fun i H' => Same H H' ∧ H' D = some (.lst (((z.cps.toList.take i).filter fun c => !(decide (97 ≤ c) && decide (c ≤ 122))).map fun c => V.str (sgn c)))) ⟨sm1 hD, upd_same⟩ ?_ ?_
          · rintro i c H1 hc ⟨s1, hD1⟩
            refine ⟨rfl, _, rfl, c, _, rfl, rfl, _, rfl, ?_⟩
            rw [in_abc, List.take_succ, hc, List.filter_append]
            show if (!(decide (97 ≤ c) && decide (c ≤ 122))) = true then _ else _
            cases q1 : (!(decide (97 ≤ c) && decide (c ≤ 122))) with
            | true =>
              refine iteT ⟨_, rfl, _, hD1, small1000000 (by rw [List.length_map]; refine Nat.lt_of_le_of_lt (List.length_filter_le _ _) ?_; rw [List.length_take]; omega), swr s1 hD, ?_⟩
              rw [upd_same, List.map_append]
              rw [Option.toList_some, filter_yes (p := fun c => !(decide (97 ≤ c) && decide (c ≤ 122))) q1]
              rfl
            | false =>
              refine iteF ⟨s1, ?_⟩
              rw [hD1, List.map_append]
              rw [Option.toList_some, filter_no (p := fun c => !(decide (97 ≤ c) && decide (c ≤ 122))) q1]
              show _ = some (HO.lst (_ ++ []))
              rw [List.append_nil]
          rintro H1 ⟨s1, hD1⟩
          rw [← ltr, List.take_length] at hD1
          refine ⟨Nat.zero_le _, fun l hl => ?_⟩
          have s2 := sm1 (o := .lst []) hl
          have hD2 := s2 _ _ hD1
          refine data_ne (X := cxOf CX0 P w K mg base N_law_is_letters "_law_is_letters" (defScope s_law_is_letters) f cdv A outer s H E) (SqL.of hD2) (dat_map fun c hc => ⟨_, .str _, pl_str (signs c (List.mem_filter.mp hc).1)⟩) (SqL.of upd_same) ?_
          rw [filter_empty (p := fun c => decide (97 ≤ c) && decide (c ≤ 122))]
          have s12 := s1.trans s2
          generalize upd H1 l (.lst []) = H2 at s12 ⊢
          refine ⟨_, rfl, ?_⟩
          cases q2 : z.cps.toList.all (fun c => decide (97 ≤ c) && decide (c ≤ 122)) with
          | false => exact iteT (fail _ s12 (by rw [l1, l4, q2]; rfl))
          | true =>
            have lp : 1 ≤ z.length := of_decide_eq_true l1
            have l4' : z.length ≤ 4 := of_decide_eq_true l4
            refine iteF ⟨_, rfl, z, rfl, Nat.le_of_lt (small1000000 zl), _, _, rfl, rfl, _, rfl, by omega, by omega, fun D2 hD3 => ?_⟩
            rw [show ((z.length : Int) - 1).toNat = z.length - 1 from by omega]
            refine lc_range (lo := 0) (n := z.length - 1) (fun i H' => Same H2 H' ∧ H' D2 = some (.lst (((List.range i).filter fun i => !decide (z.cps.toList.getD i 0 < z.cps.toList.getD (i + 1) 0)).map fun i => V.int (i : Nat)))) ⟨sm1 hD3, upd_same⟩ ?_ ?_
            · rintro i H3 hi ⟨s3, hD4⟩
              have h1 : z.cps.toList[i]? = some (z.cps.toList.getD i 0) := by
                rw [List.getD_eq_getElem?_getD, List.getElem?_eq_getElem (by omega)]
                rfl
              have h2 : z.cps.toList[i + 1]? = some (z.cps.toList.getD (i + 1) 0) := by
                rw [List.getD_eq_getElem?_getD, List.getElem?_eq_getElem (by omega)]
                rfl
              refine ⟨rfl, _, rfl, _, rfl, z, _, _, rfl, rfl, Nat.le_of_lt (small1000000 zl), by rw [Int.zero_add]; exact atI_nat h1, _, rfl, _, rfl, _, _, rfl, rfl, z, _, _, rfl, rfl, Nat.le_of_lt (small1000000 zl), by rw [Int.zero_add]; exact atI_nat h2, _, _, rfl, rfl, _, rfl, ?_⟩
              rw [show decide ((⟨#[z.cps.toList.getD i 0]⟩ : Str).cps.toList < (⟨#[z.cps.toList.getD (i + 1) 0]⟩ : Str).cps.toList) = decide (z.cps.toList.getD i 0 < z.cps.toList.getD (i + 1) 0) from lt_sign]
              rw [List.range_succ, List.filter_append, Int.zero_add]
              cases q3 : (!decide (z.cps.toList.getD i 0 < z.cps.toList.getD (i + 1) 0)) with
              | true =>
                refine iteT ⟨_, rfl, _, hD4, small1000000 (by rw [List.length_map]; refine Nat.lt_of_le_of_lt (List.length_filter_le _ _) ?_; rw [List.length_range]; omega), swr s3 hD3, ?_⟩
                rw [upd_same, List.map_append]
                rw [filter_yes (p := fun i => !decide (z.cps.toList.getD i 0 < z.cps.toList.getD (i + 1) 0)) q3]
                rfl
              | false =>
                refine iteF ⟨s3, ?_⟩
                rw [hD4, List.map_append]
                rw [filter_no (p := fun i => !decide (z.cps.toList.getD i 0 < z.cps.toList.getD (i + 1) 0)) q3]
                show _ = some (HO.lst (_ ++ []))
                rw [List.append_nil]
            rintro H3 ⟨s3, hD4⟩
            refine ⟨Nat.zero_le _, fun l2 hl2 => ?_⟩
            have s4 := sm1 (o := .lst []) hl2
            refine data_eq (X := cxOf CX0 P w K mg base N_law_is_letters "_law_is_letters" (defScope s_law_is_letters) f cdv A outer s H E) (SqL.of (s4 _ _ hD4)) (dat_map fun c hc => ⟨_, .int _, pl_int⟩) (SqL.of upd_same) ?_
            rw [filter_empty (p := fun i => decide (z.cps.toList.getD i 0 < z.cps.toList.getD (i + 1) 0))]
            have k := k _ ((s12.trans s3).trans s4)
            rw [show lettersOk (.str z) = ((decide (1 ≤ z.length) && decide (z.length ≤ 4)) && (z.cps.toList.all fun c => decide (97 ≤ c) && decide (c ≤ 122)) && ascL z.cps.toList) from rfl, l1, l4, q2, Bool.true_and, Bool.true_and] at k
            unfold ascL at k
            rw [ltr] at k
            exact k
theorem ok_row_right (F : Fun K "_law_row_right" "_law_row_right" s_law_row_right f fd) (T : Txt K mg) : FnOk P w K mg base CX0 1 f fd ["letters", "row", "size"] (spRR K) := by
  refine F.ok sc_law_row_right (fun vs H Q E h => ?_) (fun cdv A outer s H vs Q E hr h => ?_)
  · obtain ⟨z, v, d, n, rfl, _⟩ := h
    rfl
  · obtain ⟨z, v, d, n, rfl, hd, zl, k⟩ := h
    refine ⟨_, (pss_cons (ps_if (PW.pt (pw_or (pt_not (pt_val (pe_callB call_isSeq (by rfl) T.z_isinstance (by decide +kernel) (pa_cons (pv 1) (pa_cons (pe_tup (pa_cons (pe_ty (T := "list") T.z_list (by decide +kernel)) (pa_cons (pe_ty (T := "tuple") T.z_tuple (by decide +kernel)) pa_nil))) pa_nil))))) (pw_or1 (pt_cmpR op_ne (pe_callB call_len (by rfl) T.z_len PySem.boot_len (pa_cons (pv 1) pa_nil)) (pe_callB call_len_str (by rfl) T.z_len PySem.boot_len (pa_cons (pv 0) pa_nil)) (nomark _))))) (pss_one (ps_ret (pe_bl))) pss_nil)
  (pss_cons (ps_for PassesOwn.never rfl (pi_seq (pv 1)) (pg_name (i := 3) sc_law_row_right.nd rfl (Or.inl rfl))
   (pss_cons (ps_if (PW.pt (pw_and (pt_cmpR op_notN (pv 3) (pe_non) (nomark _)) (pw_and1 (PW.pt (pw_or (pt_not (pt_val (pe_callB (call_isD kit_int) (by rfl) T.z_isinstance (by decide +kernel) (pa_cons (pv 3) (pa_cons (pe_ty (T := "int") T.z_int (by decide +kernel)) pa_nil))))) (pw_or1 (pt_val (pe_callB (call_isD kit_bool) (by rfl) T.z_isinstance (by decide +kernel) (pa_cons (pv 3) (pa_cons (pe_ty (T := "bool") T.z_bool (by decide +kernel)) pa_nil)))))))))) (pss_one (ps_ret (pe_bl))) pss_nil)
  (pss_one (ps_if (PW.pt (pw_and (pt_cmpR op_notN (pv 3) (pe_non) (nomark _)) (pw_and1 (pt_not (pt_chain op_le op_lt (pe_int) (pv 3) (pv 2)))))) (pss_one (ps_ret (pe_bl))) pss_nil))))
  (pss_one (ps_ret (pe_bl))))), ?_⟩
    refine ⟨_, rfl, by show 2 ≤ sizeLine; decide, fun tp htp => ?_⟩
    have s1 := sm1 (o := .tup [.ty "list", .ty "tuple"]) htp
    have e1 : (upd H tp (.tup [.ty "list", .ty "tuple"])) tp = some (.tup [.ty "list", .ty "tuple"]) := upd_same
    generalize upd H tp (.tup [.ty "list", .ty "tuple"]) = H1 at s1 e1 ⊢
    have hd1 := (Sty.of s1).dq hd
    refine ⟨v, d, tp, rfl, e1, hd1, _, rfl, ?_⟩
    unfold isRow at k
    cases q1 : isSeq d with
    | false =>
      have k := k _ s1
      rw [q1] at k
      exact iteT k
    | true =>
      refine iteF ⟨_, rfl, _, _, rfl, hd1.lenV q1, _, rfl, z, rfl, by rw [sizeLine_eq]; omega, rfl, _, rfl, ?_⟩
      rw [dec_nat]
      cases q2 : ((its d).length == z.length) with
      | false =>
        have k := k _ s1
        rw [q1, q2] at k
        exact iteT k
      | true =>
        obtain ⟨a, xs, rfl, hs, ha⟩ := hd1.seq q1
        have lx : xs.length = (its d).length := ha.len
        refine iteF ?_
        refine seq_walk rfl hs fun J G wk st => ?_
        refine for_it wk (fun i σ H' => ∃ v3 : Option V, σ = [some (.str z), some (.ref a), some (.int n), v3] ∧ Same H1 H' ∧ ∀ j e, j < i → (its d)[j]? = some e → isTarget n e = true) ⟨_, rfl, same_refl, fun j e hj => absurd hj (Nat.not_lt_zero j)⟩ (fun i σ H' _ ⟨_, _, s, _⟩ => st H' (Stay.of s)) ?_ ?_
        · rintro i x σ _ H2 hi ⟨v3, rfl, s2, before⟩ ⟨rfl, hx⟩
          obtain ⟨e, he, hq⟩ := ha.get hx
          have hq2 := (Sty.of s2).dq hq
          have bad : isTarget n e = false → Q (.bl false) H2 := fun b => by
            have k := k _ (s1.trans s2)
            rw [q1, q2, show (its d).all (isTarget n) = false from by
              rw [List.all_eq_false]
              exact ⟨e, List.mem_of_getElem? he, by rw [b]; decide⟩] at k
            exact k
          have good : isTarget n e = true → ∃ v3 : Option V, ([some (V.str z), some (.ref a), some (.int n), some x] : L2.St) = [some (.str z), some (.ref a), some (.int n), v3] ∧ Same H1 H2 ∧ ∀ j e, j < i + 1 → (its d)[j]? = some e → isTarget n e = true := fun b => ⟨_, rfl, s2, fun j e' hj he' => by
            rcases Nat.lt_or_ge j i with l | l
            · exact before j e' l he'
            · obtain rfl : j = i := by omega
              rw [he] at he'
              cases he'
              exact b⟩
          refine ⟨_, rfl, rfl, _, rfl, ?_⟩
          rw [hq2.isN]
          cases e with
          | none => exact iteF ⟨_, rfl, rfl, _, rfl, by rw [hq2.isN]; exact iteF (good rfl)⟩
          | int j =>
            cases hq2 with
            | int =>
              refine iteT ⟨_, rfl, .int j, .int j, rfl, .int j, _, rfl, iteF ⟨_, rfl, .int j, .int j, rfl, .int j, _, rfl, iteF ?_⟩⟩
              refine ⟨_, rfl, rfl, _, rfl, iteT ?_⟩
              refine ⟨_, rfl, _, _, rfl, rfl, _, rfl, ?_⟩
              cases q3 : decide (0 ≤ j) with
              | false => exact iteF ⟨_, rfl, iteT (bad (by show (decide (0 ≤ j) && decide (j < n)) = false; rw [q3]; rfl))⟩
              | true =>
                refine iteT ⟨_, rfl, _, _, rfl, rfl, _, rfl, ?_⟩
                show if (!decide (j < n)) = true then _ else _
                cases q4 : decide (j < n) with
                | false => exact iteT (bad (by show (decide (0 ≤ j) && decide (j < n)) = false; rw [q3, q4]; rfl))
                | true => exact iteF (good (by show (decide (0 ≤ j) && decide (j < n)) = true; rw [q3, q4]; rfl))
          | bool b => exact iteT ⟨_, rfl, x, .bool b, rfl, hq2, _, rfl, iteF ⟨_, rfl, x, .bool b, rfl, hq2, _, rfl, iteT (bad rfl)⟩⟩
          | str y => exact iteT ⟨_, rfl, x, .str y, rfl, hq2, _, rfl, iteT (bad rfl)⟩
          | list y => exact iteT ⟨_, rfl, x, .list y, rfl, hq2, _, rfl, iteT (bad rfl)⟩
          | tuple y => exact iteT ⟨_, rfl, x, .tuple y, rfl, hq2, _, rfl, iteT (bad rfl)⟩
          | dict y => exact iteT ⟨_, rfl, x, .dict y, rfl, hq2, _, rfl, iteT (bad rfl)⟩
        · rintro σ H2 ⟨v3, rfl, s2, all⟩
          have k := k _ (s1.trans s2)
          rw [q1, q2, show (its d).all (isTarget n) = true from by
            rw [List.all_eq_true]
            intro e he
            obtain ⟨j, hj, rfl⟩ := List.getElem_of_mem he
            exact all j _ (by rw [lx]; exact hj) (List.getElem?_eq_getElem hj)] at k
          exact k
end
end Wf
namespace Wf
open PySem L2
abbrev s_Machine___init : Stmt := inClass (top 33) 1
abbrev N_Machine___init : List Str := ["self", "letters", "transitions", "marks", "wrong"]
theorem sc_Machine___init : FnScope N_Machine___init ["self", "letters", "transitions", "marks"] (defScope s_Machine___init) := ⟨rfl, rfl, rfl, by decide +kernel, rfl, by decide +kernel, by decide +kernel⟩
structure TxtM (K : PySem.W.Frag) (mg : Str → Option Value) : Prop extends TxtW K mg where
  g_STATES : ∃ t, mg "STATES" = some (.int 600 t)
/-- what the class of a table says of its objects' fields -/
structure McC (K : PySem.W.Frag) (C : Addr) : Prop where
  cl : Cls K C
  n1 : NoAttr K C "_letters"
  n2 : NoAttr K C "_transitions"
  n3 : NoAttr K C "_marks"
def spMac (K : PySem.W.Frag) (CL CP CT : Addr) : Sp := fun vs H Q E => ∃ (x C dx : Addr) (l n m : V) (dl dn dm : PyData), vs = [.ref x, l, n, m] ∧ H x = some (.ins C dx []) ∧ McC K C ∧ Dq K H l dl ∧ Dq K H n dn ∧ Dq K H m dm ∧ Sml dl ∧ Sml dn ∧ Sml dm ∧
  (lettersOk dl = false → ∀ H', Same H H' → E (.ref CL) none H') ∧
  (lettersOk dl = true → isTable dn dm = false → ∀ d H', Same H H' → H d = none → H' d = some (.xd [("state", .non)]) → E (.ref CP) (some d) H') ∧
  (lettersOk dl = true → isTable dn dm = true → 600 < (its dn).length → ∀ d H', Same H H' → H d = none → H' d = some (.xd [("limit", .int 600)]) → E (.ref CT) (some d) H') ∧
  (lettersOk dl = true → isTable dn dm = true → (its dn).length ≤ 600 → ∀ i, Fst (rowOk (nL dl) (its dn) (its dm)) (its dn).length (some i) → ∀ d H', Same H H' → H d = none → H' d = some (.xd [("state", .int (i : Nat))]) → E (.ref CP) (some d) H') ∧
  (lettersOk dl = true → isTable dn dm = true → (its dn).length ≤ 600 → Fst (rowOk (nL dl) (its dn) (its dm)) (its dn).length none → ∀ (t u : Addr) (H' : Hp), But x H H' → H' x = some (.ins C dx [("_letters", l), ("_transitions", .ref t), ("_marks", .ref u)]) →
    Dq K H' (.ref t) (.tuple ((its dn).map fun e => .tuple (its e))) → Dq K H' (.ref u) (.tuple (its dm)) → Q .non H')
section
variable {P : Program} {w : World} {K : PySem.W.Frag} {mg : Str → Option Value} {base : Heap} {f : Addr} {fd : FuncData}
theorem ok_Machine_init {CL CP CT : Addr} (F : Fun K "__init__" "Machine.__init__" s_Machine___init f fd) (T : TxtM K mg) (D_are_letters : Dn P w K mg base 1 "are_letters" ["value"] (spLtrs K)) (D_is_table : Dn P w K mg base 2 "is_table" ["rows", "marks"] (spTbl2 K))
    (D_first_wrong_row : Dn P w K mg base 4 "first_wrong_row" ["letters", "rows", "marks"] (spWrong K)) (D_copied_rows : Dn P w K mg base 1 "copied_rows" ["rows"] (spCopied K)) (N_InvalidLetters : E0 K mg "InvalidLetters" CL) (N_InvalidMachine : E1 P w K mg base "InvalidMachine" CP "state") (N_TooLarge : E1 P w K mg base "TooLarge" CT "limit") :
    FnOk P w K mg base (L2.CX P w) 5 f fd ["self", "letters", "transitions", "marks"] (spMac K CL CP CT) := by
  refine F.okX sc_Machine___init (fun vs H Q E h => ?_) (fun cdv A outer s H vs Q E hr h => ?_)
  · obtain ⟨x, C, dx, l, n, m, dl, dn, dm, rfl, _⟩ := h
    rfl
  · obtain ⟨x, C, dx, l, n, m, dl, dn, dm, rfl, hx, pc, hl, hn, hm, sl, sn, sm, e1, e2, e4, e3, k⟩ := h
    refine ⟨_, (pss_cons (ps_if (pt_not (pt_val (pe_cl D_are_letters (hr.mono (by decide)) (pa_cons (pv 1) pa_nil)))) (pss_one (ps_r0 N_InvalidLetters rfl rfl (takes_of rfl rfl rfl rfl))) pss_nil)
  (pss_cons (ps_if (pt_not (pt_val (pe_cl D_is_table (hr.mono (by decide)) (pa_cons (pv 2) (pa_cons (pv 3) pa_nil))))) (pss_one (ps_r1 N_InvalidMachine (hr.mono (by decide)) (pe_non) rfl rfl (takes_of rfl rfl rfl rfl))) pss_nil)
  (pss_cons (ps_if (pt_cmpR op_gt (pe_callB call_len (by rfl) T.z_len PySem.boot_len (pa_cons (pv 3) pa_nil)) (pe_gi T.g_STATES) (nomark _)) (pss_one (ps_r1 N_TooLarge (hr.mono (by decide)) (pe_gi T.g_STATES) rfl rfl (takes_of rfl rfl rfl rfl))) pss_nil)
  (pss_cons (ps_set (i := 4) sc_Machine___init.nd rfl (Or.inl rfl) (pe_cl D_first_wrong_row (hr.mono (by decide)) (pa_cons (pv 1) (pa_cons (pv 2) (pa_cons (pv 3) pa_nil)))))
  (pss_cons (ps_if (pt_cmpR op_notN (pv 4) (pe_non) (nomark _)) (pss_one (ps_r1 N_InvalidMachine (hr.mono (by decide)) (pv 4) rfl rfl (takes_of rfl rfl rfl rfl))) pss_nil)
  (pss_cons (ps_fld (pv 0) (pv 1) rfl)
  (pss_cons (ps_fld (pv 0) (pe_cl D_copied_rows (hr.mono (by decide)) (pa_cons (pv 2) pa_nil)) rfl)
  (pss_one (ps_fld (pv 0) (pe_callTy call_tuple_of (by rfl) T.z_tuple (by decide +kernel) (pa_cons (pv 3) pa_nil)) rfl))))))))), ?_⟩
    -- letters
    refine ⟨_, rfl, l, dl, rfl, hl, sl.1, fun H1 s1 => ⟨_, rfl, ?_⟩⟩
    cases q1 : lettersOk dl with
    | false => exact iteT ⟨There.of s1, fun H' s' => e1 q1 H' (s1.trans s')⟩
    | true =>
      refine iteF ?_
      obtain ⟨z, rfl, z1, z4⟩ := letters_str q1
      cases hl
      -- the table
      have hn1 := (Sty.of s1).dq hn
      have hm1 := (Sty.of s1).dq hm
      refine ⟨_, rfl, _, rfl, n, m, dn, dm, rfl, hn1, hm1, fun H2 s2 => ⟨_, rfl, ?_⟩⟩
      have s12 := s1.trans s2
      cases q2 : isTable dn dm with
      | false => exact iteT ⟨There.of s12, fun d H' s' nd ed => e2 q1 q2 d H' (s12.trans s') (There.of s12 _ nd) ed⟩
      | true =>
        refine iteF ?_
        obtain ⟨qn, qm, ql, qp⟩ := table_seq q2
        have hn2 := (Sty.of s12).dq hn
        have hm2 := (Sty.of s12).dq hm
        refine ⟨_, rfl, _, _, rfl, Dq.lenV hm2 qm, _, _, rfl, rfl, _, rfl, ?_⟩
        cases q6 : decide ((600 : Int) < ((its dm).length : Int)) with
        | true =>
          have q5 : 600 < (its dn).length := by have := of_decide_eq_true q6; omega
          exact iteT ⟨There.of s12, fun d H' s' nd ed => e4 q1 q2 q5 d H' (s12.trans s') (There.of s12 _ nd) ed⟩
        | false =>
        have q5 : (its dn).length ≤ 600 := by have := of_decide_eq_false q6; omega
        refine iteF ?_
        refine ⟨_, rfl, _, rfl, _, rfl, z, n, m, dn, dm, rfl, hn2, qn, hm2, qm, ql, by omega, sn.2.1, sn.2.2, fun o H3 s3 fst => ?_⟩
        have s13 := s12.trans s3
        refine ⟨_, rfl, rfl, _, rfl, ?_⟩
        cases o with
        | some i => exact iteT ⟨_, rfl, There.of s13, fun d H' s' nd ed => e3 q1 q2 q5 i fst d H' (s13.trans s') (There.of s13 _ nd) ed⟩
        | none =>
          refine iteF ?_
          have sr : ∀ e ∈ its dn, isSeq e = true := fun e he => by
            obtain ⟨i, hi, rfl⟩ := List.getElem_of_mem he
            have r := fst i hi
            unfold rowOk isRow at r
            simp only [Bool.and_eq_true] at r
            rw [show (its dn).getD i .none = (its dn)[i] from getD_of (List.getElem?_eq_getElem hi)] at r
            exact r.1.1.1
          have hx3 := s13 _ _ hx
          -- self._letters = letters
          refine ⟨_, rfl, _, rfl, x, C, dx, _, rfl, hx3, pc.cl, pc.n1, by show 0 < 1000; decide, ?_⟩
          have b4 : But x H (upd H3 x (.ins C dx (putF "_letters" (.str z) []))) := fun b o nb e => (upd_ne nb).trans (s13 _ _ e)
          have hx4 : (upd H3 x (.ins C dx (putF "_letters" (.str z) []))) x = some (.ins C dx [("_letters", .str z)]) := upd_same
          generalize upd H3 x (.ins C dx (putF "_letters" (.str z) [])) = H4 at b4 hx4 ⊢
          have st4 := b4.stx (K := K) hx
          -- self._nexts
          refine ⟨_, rfl, n, dn, rfl, st4.dq hn, qn, sr, sn.2.1, fun t H5 s5 ht => ?_⟩
          have hx5 := s5 _ _ hx4
          refine ⟨_, rfl, x, C, dx, _, rfl, hx5, pc.cl, pc.n2, by show 1 < 1000; decide, ?_⟩
          have b6 : But x H5 (upd H5 x (.ins C dx (putF "_transitions" (.ref t) [("_letters", .str z)]))) := fun b o nb e => (upd_ne nb).trans e
          have hx6 : (upd H5 x (.ins C dx (putF "_transitions" (.ref t) [("_letters", .str z)]))) x = some (.ins C dx [("_letters", .str z), ("_transitions", .ref t)]) := upd_same
          generalize upd H5 x (.ins C dx (putF "_transitions" (.ref t) [("_letters", .str z)])) = H6 at b6 hx6 ⊢
          have st6 := b6.stx (K := K) hx5
          have b06 : But x H H6 := (b4.same s5).trans b6
          -- self._marks
          obtain ⟨a, xs, rfl, hs, ha⟩ := hm.seq qm
          have hs6 := ((b06.stx hx).toStay).sq hs
          refine ⟨_, rfl, a, xs, rfl, ?_⟩
          have fin : ∀ (u : Addr) (H7 : Hp), Same H6 H7 → SqT K H7 u xs → ∃ a' C' dx' fs, V.ref x = .ref a' ∧ H7 a' = some (.ins C' dx' fs) ∧ Cls K C' ∧ NoAttr K C' "_marks" ∧ fs.length < 1000 ∧ Q .non (upd H7 a' (.ins C' dx' (putF "_marks" (.ref u) fs))) := fun u H7 s7 hu => by
            have hx7 := s7 _ _ hx6
            refine ⟨x, C, dx, _, rfl, hx7, pc.cl, pc.n3, by show 2 < 1000; decide, ?_⟩
            have b8 : But x H7 (upd H7 x (.ins C dx (putF "_marks" (.ref u) [("_letters", .str z), ("_transitions", .ref t)]))) := fun b o nb e => (upd_ne nb).trans e
            have st8 := b8.stx hx7 (K := K)
            refine k q1 q2 q5 fst t u _ ((b06.same s7).trans b8) upd_same (st8.dq ((Sty.of s7).dq (st6.dq ht))) (.tup (st8.t _ _ hu) (st8.dqAll ((Sty.of s7).dqAll ((b06.stx hx).dqAll ha))))
          rcases hs6 with hs6 | hs6
          · exact .inl ⟨hs6, fun u hu => ⟨_, rfl, fin u _ (sm1 hu) (SqT.of upd_same)⟩⟩
          · exact .inr ⟨hs6, _, rfl, fin a _ same_refl hs6⟩
end
end Wf
namespace Wf
open PySem L2
abbrev s_law_caught : Stmt := top 43
abbrev N_law_caught : List Str := ["letters", "rows", "marks", "heard", "e"]
theorem sc_law_caught : FnScope N_law_caught ["letters", "rows", "marks"] (defScope s_law_caught) := ⟨rfl, rfl, rfl, by decide +kernel, rfl, by decide +kernel, by decide +kernel⟩
/-- what the class says of these arguments, told as data -/
def Due (dl dn dm r : PyData) : Prop :=
  (lettersOk dl = false ∧ r = .tuple [.str "letters", .bool true]) ∨ (lettersOk dl = true ∧ isTable dn dm = false ∧ r = .tuple [.str "machine", .none, .bool true]) ∨
  (lettersOk dl = true ∧ isTable dn dm = true ∧ 600 < (its dn).length ∧ r = .tuple [.str "large", .int 600, .bool true]) ∨
  (lettersOk dl = true ∧ isTable dn dm = true ∧ (its dn).length ≤ 600 ∧ ∃ i, Fst (rowOk (nL dl) (its dn) (its dm)) (its dn).length (some i) ∧ r = .tuple [.str "machine", .int (i : Nat), .bool true]) ∨
  (lettersOk dl = true ∧ isTable dn dm = true ∧ (its dn).length ≤ 600 ∧ Fst (rowOk (nL dl) (its dn) (its dm)) (its dn).length none ∧ r = .none)
theorem Due.one {dl dn dm r q : PyData} (a : Due dl dn dm r) (b : Due dl dn dm q) : r = q := by
  rcases a with ⟨a1, rfl⟩ | ⟨a1, a2, rfl⟩ | ⟨a1, a2, a4, rfl⟩ | ⟨a1, a2, a4, i, a3, rfl⟩ | ⟨a1, a2, a4, a3, rfl⟩ <;> rcases b with ⟨b1, rfl⟩ | ⟨b1, b2, rfl⟩ | ⟨b1, b2, b4, rfl⟩ | ⟨b1, b2, b4, j, b3, rfl⟩ | ⟨b1, b2, b4, b3, rfl⟩ <;>
    first
      | rfl
      | exact absurd (a1.symm.trans b1) (by decide)
      | exact absurd (a2.symm.trans b2) (by decide)
      | (exfalso; omega)
      | (cases a3.one b3; rfl)
      | cases a3.one b3
def spCau (K : PySem.W.Frag) : Sp := fun vs H Q _ => ∃ (l n m : V) (dl dn dm : PyData), vs = [l, n, m] ∧ Dq K H l dl ∧ Dq K H n dn ∧ Dq K H m dm ∧ Sml dl ∧ Sml dn ∧ Sml dm ∧
  ∀ (v : V) (r : PyData) (H' : Hp), Same H H' → Due dl dn dm r → Dp K H' v r → Q v H'
section
variable {P : Program} {w : World} {K : PySem.W.Frag} {mg : Str → Option Value} {base : Heap} {f : Addr} {fd : FuncData}
theorem ok_caught {CL CP CT C : Addr} (F : Fun K "_law_caught" "_law_caught" s_law_caught f fd) (T : Txt K mg) (N_InvalidLetters : E0 K mg "InvalidLetters" CL) (N_InvalidMachine : E1 P w K mg base "InvalidMachine" CP "state") (N_TooLarge : E1 P w K mg base "TooLarge" CT "limit")
    (M_Machine : Cn P w K mg base (L2.CX P w) 5 "Machine" C ["self", "letters", "transitions", "marks"] (spMac K CL CP CT)) (pc : McC K C)
    (sLL : PySem.W.subIn K (.ref CL) (.ref CL) = some true) (sPL : PySem.W.subIn K (.ref CP) (.ref CL) = some false) (sPP : PySem.W.subIn K (.ref CP) (.ref CP) = some true) (sTL : PySem.W.subIn K (.ref CT) (.ref CL) = some false) (sTP : PySem.W.subIn K (.ref CT) (.ref CP) = some false) (sTT : PySem.W.subIn K (.ref CT) (.ref CT) = some true)
    (kL : PySem.W.kitOne K (.ref CL) (.type "ValueError") = some true) (kP : PySem.W.kitOne K (.ref CP) (.type "ValueError") = some true) (kT : PySem.W.kitOne K (.ref CT) (.type "ArithmeticError") = some true) :
    FnOk P w K mg base CX0 7 f fd ["letters", "rows", "marks"] (spCau K) := by
  refine F.ok sc_law_caught (fun vs H Q E h => ?_) (fun cdv A outer s H vs Q E hr h => ?_)
  · obtain ⟨l, n, m, dl, dn, dm, rfl, _⟩ := h
    rfl
  · obtain ⟨l, n, m, dl, dn, dm, rfl, hl, hn, hm, sl, sn, sm, k⟩ := h
    refine ⟨_, (pss_cons (ps_set (i := 3) sc_law_caught.nd rfl (Or.inl rfl) (pe_non))
  (pss_cons (ps_try_manyAs rfl rfl sc_law_caught.nd takes0 (fun W pn xe tk _ => (pss_one (ps_expr (pe_mkS M_Machine (hr.mono (by decide)) (fun σ => passAt tk σ) (pa_cons (pv 0) (pa_cons (pv 1) (pa_cons (pv 2) pa_nil)))))))
  (.cons (i := 4) rfl rfl ⟨rfl, by decide, .inl N_InvalidLetters.vn.gC⟩ (fun a oe cls d pn hz hf => (pss_one (ps_set (i := 3) sc_law_caught.nd rfl (Or.inl rfl) (pe_tup (pa_cons (pe_str) (pa_cons (pe_callB (call_isF hz hf) (by rfl) T.z_isinstance (by decide +kernel) (pa_cons (pv 4) (pa_cons (pe_ty (T := "ValueError") T.z_ValueError (by decide +kernel)) pa_nil))) pa_nil))))))
   (.cons (i := 4) rfl rfl ⟨rfl, by decide, .inl N_InvalidMachine.vn.gC⟩ (fun a oe cls d pn hz hf => (pss_one (ps_set (i := 3) sc_law_caught.nd rfl (Or.inl rfl) (pe_tup (pa_cons (pe_str) (pa_cons (pe_xg hz hf (pv 4)) (pa_cons (pe_callB (call_isF hz hf) (by rfl) T.z_isinstance (by decide +kernel) (pa_cons (pv 4) (pa_cons (pe_ty (T := "ValueError") T.z_ValueError (by decide +kernel)) pa_nil))) pa_nil)))))))
   (.cons (i := 4) rfl rfl ⟨rfl, by decide, .inl N_TooLarge.vn.gC⟩ (fun a oe cls d pn hz hf => (pss_one (ps_set (i := 3) sc_law_caught.nd rfl (Or.inl rfl) (pe_tup (pa_cons (pe_str) (pa_cons (pe_xg hz hf (pv 4)) (pa_cons (pe_callB (call_isF hz hf) (by rfl) T.z_isinstance (by decide +kernel) (pa_cons (pv 4) (pa_cons (pe_ty (T := "ArithmeticError") T.z_ArithmeticError (by decide +kernel)) pa_nil))) pa_nil)))))))
   .nil))))
  (pss_one (ps_ret (pv 3))))), ?_⟩
    refine ⟨_, rfl, _, rfl, _, rfl, fun x dx nx nd ne => ?_⟩
    have n1 : upd (upd H dx (.own x)) x (.ins C dx []) x = some (.ins C dx []) := upd_same
    have s1 : Same H (upd (upd H dx (.own x)) x (.ins C dx [])) := swr (sm1 nd) nx
    have nx' : H x = none := nx
    generalize upd (upd H dx (.own x)) x (.ins C dx []) = H1 at n1 s1 ⊢
    have y1 := Sty.of (K := K) s1
    have mL : PySem.W.exmOne K (.ref CL) (.ref CL) = some true := PySem.W.exm_ref N_InvalidLetters.vn.is.hs N_InvalidLetters.vn.is.hd N_InvalidLetters.ty sLL
    have mPL : PySem.W.exmOne K (.ref CP) (.ref CL) = some false := PySem.W.exm_ref N_InvalidLetters.vn.is.hs N_InvalidLetters.vn.is.hd N_InvalidLetters.ty sPL
    have mP : PySem.W.exmOne K (.ref CP) (.ref CP) = some true := PySem.W.exm_ref N_InvalidMachine.vn.cls.is.hs N_InvalidMachine.vn.cls.is.hd N_InvalidMachine.ty sPP
    have mTL : PySem.W.exmOne K (.ref CT) (.ref CL) = some false := PySem.W.exm_ref N_InvalidLetters.vn.is.hs N_InvalidLetters.vn.is.hd N_InvalidLetters.ty sTL
    have mTP : PySem.W.exmOne K (.ref CT) (.ref CP) = some false := PySem.W.exm_ref N_InvalidMachine.vn.cls.is.hs N_InvalidMachine.vn.cls.is.hd N_InvalidMachine.ty sTP
    have mTT : PySem.W.exmOne K (.ref CT) (.ref CT) = some true := PySem.W.exm_ref N_TooLarge.vn.cls.is.hs N_TooLarge.vn.cls.is.hd N_TooLarge.ty sTT
    refine ⟨x, C, dx, l, n, m, dl, dn, dm, rfl, n1, pc, y1.dq hl, y1.dq hn, y1.dq hm, sl, sn, sm, fun q1 H2 s2 => ?_, fun q1 q2 d H2 s2 nd2 ed => ?_, fun q1 q2 q5 d H2 s2 nd2 ed => ?_, fun q1 q2 q5 i fst d H2 s2 nd2 ed => ?_, fun q1 q2 q5 fst t u H2 bt hx _ _ => ?_⟩
    · refine ⟨true, mL, fun _ a na => ?_, nofun⟩
      refine ⟨_, rfl, CL, "ValueError", true, rfl, rfl, N_InvalidLetters.vn.is, kL, .inl rfl, by show 2 ≤ sizeLine; decide, fun t ht => ⟨_, rfl, ?_⟩⟩
      exact k _ _ _ ((s1.trans s2).trans (sm1 ht)) (.inl ⟨q1, rfl⟩) (.tup (SqT.of upd_same) (.cons (.str _) (.cons (.bl _) .nil)))
    · refine ⟨false, mPL, nofun, fun _ => ⟨true, mP, fun _ a na => ?_, nofun⟩⟩
      refine ⟨_, rfl, rfl, CP, d, _, .non, rfl, N_InvalidMachine.vn.cls.is, N_InvalidMachine.vn.no, rfl, ed, rfl, _, rfl, CP, "ValueError", true, rfl, rfl, N_InvalidMachine.vn.cls.is, kP, .inr ⟨d, _, rfl, ed⟩, by show 3 ≤ sizeLine; decide, fun t ht => ⟨_, rfl, ?_⟩⟩
      exact k _ _ _ ((s1.trans s2).trans (sm1 ht)) (.inr (.inl ⟨q1, q2, rfl⟩)) (.tup (SqT.of upd_same) (.cons (.str _) (.cons (.non) (.cons (.bl _) .nil))))
    · refine ⟨false, mTL, nofun, fun _ => ⟨false, mTP, nofun, fun _ => ⟨true, mTT, fun _ a na => ?_, nofun⟩⟩⟩
      refine ⟨_, rfl, rfl, CT, d, _, .int 600, rfl, N_TooLarge.vn.cls.is, N_TooLarge.vn.no, rfl, ed, rfl, _, rfl, CT, "ArithmeticError", true, rfl, rfl, N_TooLarge.vn.cls.is, kT, .inr ⟨d, _, rfl, ed⟩, by show 3 ≤ sizeLine; decide, fun t ht => ⟨_, rfl, ?_⟩⟩
      exact k _ _ _ ((s1.trans s2).trans (sm1 ht)) (.inr (.inr (.inl ⟨q1, q2, q5, rfl⟩))) (.tup (SqT.of upd_same) (.cons (.str _) (.cons (.int _) (.cons (.bl _) .nil))))
    · refine ⟨false, mPL, nofun, fun _ => ⟨true, mP, fun _ a na => ?_, nofun⟩⟩
      refine ⟨_, rfl, rfl, CP, d, _, .int (i : Nat), rfl, N_InvalidMachine.vn.cls.is, N_InvalidMachine.vn.no, rfl, ed, rfl, _, rfl, CP, "ValueError", true, rfl, rfl, N_InvalidMachine.vn.cls.is, kP, .inr ⟨d, _, rfl, ed⟩, by show 3 ≤ sizeLine; decide, fun t ht => ⟨_, rfl, ?_⟩⟩
      exact k _ _ _ ((s1.trans s2).trans (sm1 ht)) (.inr (.inr (.inr (.inl ⟨q1, q2, q5, i, fst, rfl⟩)))) (.tup (SqT.of upd_same) (.cons (.str _) (.cons (.int _) (.cons (.bl _) .nil))))
    · refine ⟨rfl, _, rfl, k _ _ _ (fun b o e => ?_) (.inr (.inr (.inr (.inr ⟨q1, q2, q5, fst, rfl⟩)))) .non⟩
      exact bt b o (ne_of_none e nx') (s1 _ _ e)
end
end Wf
namespace Wf
open PySem L2
/-- it can be shown, and its texts are texts -/
def Shn (d : PyData) : Prop := d.showable = true ∧ d.depth ≤ 60 ∧ d.shown.length ≤ sizeLine
/-- an argument that is no table -/
structure Arg (d : PyData) : Prop where
  sm : Sml d
  vw : Vw 6 20000 d
  st : ∀ z, d = .str z → PyData.strOk z = true
theorem Od.vw {d : PyData} (h : Od d) : Vw 5 1000 d := ⟨h.s, h.dp, h.sz⟩
theorem Od.arg {d : PyData} (h : Od d) : Arg d := ⟨h.sm, h.vw.more (by decide) (by decide), h.st⟩
theorem od_nat {n : Nat} (h : n < 1000000) : Od (.int (n : Int)) :=
  let v := vw_int h
  ⟨v.s, Nat.le_trans v.dp (by decide), Nat.le_trans v.sz (by decide), ⟨nofun, by show 0 < 1000000; decide, fun _ h => by cases h⟩, nofun, fun _ h => by cases h⟩
theorem od_none : Od .none := od_of (by decide +kernel)
theorem od_bool {b : Bool} : Od (.bool b) := by cases b <;> exact od_of (by decide +kernel)
theorem arg_str {x : Str} (l : x.length ≤ 100) (h : ∀ c ∈ x.cps.toList, c ≤ 122) : Arg (.str x) := by
  have ok : PyData.strOk x = true := by
    show x.cps.all (· < 0x110000) = true
    rw [← Array.all_toList, List.all_eq_true]
    intro c hc
    have := h c hc
    exact decide_eq_true (by omega)
  refine ⟨⟨fun z e => ?_, by show 0 < 1000000; decide, fun _ h => by cases h⟩, (vw_str ok l).more (by decide) (by decide), fun z e => ?_⟩
  · cases e
    omega
  · cases e
    exact ok
/-- a thing among the rows -/
structure RowP (d : PyData) : Prop where
  vw : Vw 7 20000 d
  le : (its d).length < 1000000
theorem Od.row {d : PyData} (h : Od d) : RowP d := ⟨h.vw.more (by decide) (by decide), h.sm.2.1⟩
theorem row_list {es : List PyData} (l : es.length ≤ 4) (h : ∀ e ∈ es, Od e) : RowP (.list es) := ⟨(vw_list l fun e he => (h e he).vw).more (by decide) (by decide), by show es.length < 1000000; omega⟩
theorem row_tuple {es : List PyData} (l : es.length ≤ 4) (h : ∀ e ∈ es, Od e) : RowP (.tuple es) := ⟨(vw_tuple l fun e he => (h e he).vw).more (by decide) (by decide), by show es.length < 1000000; omega⟩
/-- the marks, whatever they are by now -/
structure MkP (d : PyData) : Prop where
  sm : Sml d
  vw : Vw 7 20000 d
  sh : ∀ e ∈ its d, Shn e
theorem Vw.shn {k n : Nat} {d : PyData} (h : Vw k n d) (a : k ≤ 60) (b : n ≤ 16777216) : Shn d := ⟨h.s, Nat.le_trans h.dp a, by rw [sizeLine_eq]; exact Nat.le_trans h.sz b⟩
theorem mk_items {es : List PyData} (h : ∀ e ∈ es, Od e) : ∀ e ∈ es, Shn e := fun e he => (h e he).vw.shn (by decide) (by decide)
theorem mk_list {es : List PyData} (l : es.length ≤ 4) (h : ∀ e ∈ es, Od e) : MkP (.list es) := ⟨⟨nofun, by show es.length < 1000000; omega, fun e he => (h e he).sm.2.1⟩, (row_list l h).vw, mk_items h⟩
theorem mk_tuple {es : List PyData} (l : es.length ≤ 4) (h : ∀ e ∈ es, Od e) : MkP (.tuple es) := ⟨⟨nofun, by show es.length < 1000000; omega, fun e he => (h e he).sm.2.1⟩, (row_tuple l h).vw, mk_items h⟩
theorem ixN_nat {n j : Nat} (h : j < n) : ixN n (j : Int) = some j := by
  unfold ixN
  rw [if_pos (Int.natCast_nonneg j), if_pos (by omega)]
  rfl
theorem od_rows {z sz : Nat} {full : Bool} {H0 H : Hp} {r m : Addr} {bs : List Addr} {tb : List (List (Option Nat))} {ms : List (Option Bool)} (T : Tbl H0 H z sz full r m bs tb ms) (h : sz < 1000000) : ∀ ds ∈ tb.map (fun row => row.map dO), ds.length = z ∧ ∀ e ∈ ds, Od e := fun ds hds => by
  obtain ⟨row, hr, rfl⟩ := List.mem_map.mp hds
  refine ⟨by rw [List.length_map]; exact T.len row hr, fun e he => ?_⟩
  obtain ⟨o, ho, rfl⟩ := List.mem_map.mp he
  cases o with
  | none => exact od_none
  | some x => exact od_nat (Nat.lt_trans (T.lt row hr x ho) h)
theorem od_marks (ms : List (Option Bool)) : ∀ e ∈ ms.map dM, Od e := fun e he => by
  obtain ⟨o, _, rfl⟩ := List.mem_map.mp he
  cases o with
  | none => exact od_none
  | some b => exact od_bool
theorem sml_rows {es : List PyData} (l : es.length ≤ 4) (h : ∀ e ∈ es, RowP e) : Sml (.list es) := ⟨nofun, by show es.length < 1000000; omega, fun e he => (h e he).le⟩
theorem mem_set {α : Type} {xs : List α} {i : Nat} {x y : α} (h : y ∈ xs.set i x) : y ∈ xs ∨ y = x := (List.mem_or_eq_of_mem_set h)
end Wf
namespace Wf
open PySem L2
abbrev s_law_due : Stmt := top 45
abbrev N_law_due : List Str := ["letters", "rows", "marks", "state"]
theorem sc_law_due : FnScope N_law_due ["letters", "rows", "marks"] (defScope s_law_due) := ⟨rfl, rfl, rfl, by decide +kernel, rfl, by decide +kernel, by decide +kernel⟩
def spDue (K : PySem.W.Frag) : Sp := fun vs H Q _ => ∃ (l n m : V) (dl dn dm : PyData), vs = [l, n, m] ∧ Dq K H l dl ∧ Dq K H n dn ∧ Dq K H m dm ∧ Sml dl ∧ Sml dn ∧ Sml dm ∧ (∀ z, dl = .str z → PyData.strOk z = true) ∧ (∀ e ∈ its dm, Shn e) ∧
  ∀ (v : V) (r : PyData) (H' : Hp), Same H H' → Due dl dn dm r → Dp K H' v r → Q v H'
theorem mark_in {d : PyData} : inV (.str d.shown) [.str "True", .str "False", .str "None"] = isMark d := by
  have e : inV (.str d.shown) [.str "True", .str "False", .str "None"] = decide (d.shown ∈ [("True" : Str), "False", "None"]) := in_words (zs := [("True" : Str), "False", "None"])
  rw [e]
  cases h : isMark d with
  | true =>
    refine decide_eq_true ?_
    rcases shown_is.mpr h with z | z | z <;> rw [z] <;> simp
  | false =>
    refine decide_eq_false fun z => ?_
    have z2 : d.shown = "True" ∨ d.shown = "False" ∨ d.shown = "None" := by simpa using z
    rw [shown_is.mp z2] at h
    cases h
section
variable {P : Program} {w : World} {K : PySem.W.Frag} {mg : Str → Option Value} {base : Heap} {f : Addr} {fd : FuncData}
theorem ok_due (F : Fun K "_law_due" "_law_due" s_law_due f fd) (T : Txt K mg) (MB : Mods base) (D_law_is_letters : Dn P w K mg base 1 "_law_is_letters" ["value"] (spIsL K)) (D_law_row_right : Dn P w K mg base 1 "_law_row_right" ["letters", "row", "size"] (spRR K)) :
    FnG P w K mg base CX0 2 f fd ["letters", "rows", "marks"] (spDue K) := by
  refine FnG.plain F sc_law_due (fun h => ?_) (fun cdv A outer s H vs Q E hq hr h => ?_)
  · obtain ⟨l, n, m, dl, dn, dm, rfl, _⟩ := h
    rfl
  · obtain ⟨l, n, m, dl, dn, dm, rfl, hl, hn, hm, sl, sn, sm, so, sh, k⟩ := h
    refine ⟨_, (pss_cons (ps_if (pt_not (pt_val (pe_cl D_law_is_letters (hr.mono (by decide)) (pa_cons (pv 0) pa_nil)))) (pss_one (ps_ret (pe_tup (pa_cons (pe_str) (pa_cons (pe_bl) pa_nil))))) pss_nil)
  (pss_cons (ps_if (PW.pt (pw_or (pt_not (pt_val (pe_callB call_isSeq (by rfl) T.z_isinstance (by decide +kernel) (pa_cons (pv 1) (pa_cons (pe_tup (pa_cons (pe_ty (T := "list") T.z_list (by decide +kernel)) (pa_cons (pe_ty (T := "tuple") T.z_tuple (by decide +kernel)) pa_nil))) pa_nil))))) (pw_or1 (pt_not (pt_val (pe_callB call_isSeq (by rfl) T.z_isinstance (by decide +kernel) (pa_cons (pv 2) (pa_cons (pe_tup (pa_cons (pe_ty (T := "list") T.z_list (by decide +kernel)) (pa_cons (pe_ty (T := "tuple") T.z_tuple (by decide +kernel)) pa_nil))) pa_nil)))))))) (pss_one (ps_ret (pe_tup (pa_cons (pe_str) (pa_cons (pe_non) (pa_cons (pe_bl) pa_nil)))))) pss_nil)
  (pss_cons (ps_if (PW.pt (pw_or (pt_cmpR op_ne (pe_callB call_len (by rfl) T.z_len PySem.boot_len (pa_cons (pv 1) pa_nil)) (pe_callB call_len (by rfl) T.z_len PySem.boot_len (pa_cons (pv 2) pa_nil)) (nomark _)) (pw_or1 (pt_cmpR op_eq (pe_callB call_len (by rfl) T.z_len PySem.boot_len (pa_cons (pv 1) pa_nil)) (pe_int) (nomark _))))) (pss_one (ps_ret (pe_tup (pa_cons (pe_str) (pa_cons (pe_non) (pa_cons (pe_bl) pa_nil)))))) pss_nil)
  (pss_cons (ps_if (pt_cmpR op_gt (pe_callB call_len (by rfl) T.z_len PySem.boot_len (pa_cons (pv 1) pa_nil)) (pe_int) (nomark _)) (pss_one (ps_ret (pe_tup (pa_cons (pe_str) (pa_cons (pe_int) (pa_cons (pe_bl) pa_nil)))))) pss_nil)
  (pss_cons (ps_for PassesOwn.never rfl (pi_range1 (by rfl) T.z_range (pa_cons (pe_callB call_len (by rfl) T.z_len PySem.boot_len (pa_cons (pv 1) pa_nil)) pa_nil)) (pg_name (i := 3) sc_law_due.nd rfl (Or.inl rfl))
   (pss_one (ps_if (PW.pt (pw_or (pt_not (pt_val (pe_cl D_law_row_right (hr.mono (by decide)) (pa_cons (pv 0) (pa_cons (pe_ix ix_seq (pv 1) (pv 3) (fun _ _ => rfl)) (pa_cons (pe_callB call_len (by rfl) T.z_len PySem.boot_len (pa_cons (pv 1) pa_nil)) pa_nil)))))) (pw_or1 (pt_cmpR op_notIn_seq (pe_callB (cr_reprQ MB hq hr.units) (by rfl) T.z_repr (by decide +kernel) (pa_cons (pe_ix ix_seq (pv 2) (pv 3) (fun _ _ => rfl)) pa_nil)) (pe_tup (pa_cons (pe_str) (pa_cons (pe_str) (pa_cons (pe_str) pa_nil)))) (by rfl))))) (pss_one (ps_ret (pe_tup (pa_cons (pe_str) (pa_cons (pv 3) (pa_cons (pe_bl) pa_nil)))))) pss_nil)))
  (pss_one (ps_ret (pe_non)))))))), ?_⟩
    refine ⟨_, rfl, l, dl, rfl, hl, fun z e => ⟨sl.1 z e, so z e⟩, fun H1 s1 => ⟨_, rfl, ?_⟩⟩
    cases q1 : lettersOk dl with
    | false => exact iteT ⟨by show 2 ≤ sizeLine; decide, fun t ht => k _ _ _ (s1.trans (sm1 ht)) (.inl ⟨q1, rfl⟩) (.tup (SqT.of upd_same) (.cons (.str _) (.cons (.bl _) .nil)))⟩
    | true =>
      obtain ⟨z, rfl, z1, z4⟩ := letters_str q1
      cases hl
      -- no table
      have bad : isTable dn dm = false → ∀ H', Same H H' → tTup (tCons (tC (.str "machine")) (tCons (tC .non) (tCons (tC (.bl true)) tNil))) [] H' Q := fun q2 H' s' => ⟨by show 3 ≤ sizeLine; decide, fun t ht => k _ _ _ (s'.trans (sm1 ht)) (.inr (.inl ⟨q1, q2, rfl⟩)) (.tup (SqT.of upd_same) (.cons (.str _) (.cons .non (.cons (.bl _) .nil))))⟩
      unfold isTable at bad
      refine iteF ⟨_, rfl, by show 2 ≤ sizeLine; decide, fun t1 ht1 => ⟨n, dn, t1, rfl, upd_same, (Sty.of (s1.trans (sm1 ht1))).dq hn, _, rfl, ?_⟩⟩
      have s2 := s1.trans (sm1 (o := .tup [.ty "list", .ty "tuple"]) ht1)
      generalize upd H1 t1 (.tup [.ty "list", .ty "tuple"]) = H2 at s2 ⊢
      cases qn : isSeq dn with
      | false => exact iteT (bad (by rw [qn]; rfl) _ s2)
      | true =>
        refine iteF ⟨_, rfl, by show 2 ≤ sizeLine; decide, fun t2 ht2 => ⟨m, dm, t2, rfl, upd_same, (Sty.of (s2.trans (sm1 ht2))).dq hm, _, rfl, ?_⟩⟩
        have s3 := s2.trans (sm1 (o := .tup [.ty "list", .ty "tuple"]) ht2)
        generalize upd H2 t2 (.tup [.ty "list", .ty "tuple"]) = H3 at s3 ⊢
        cases qm : isSeq dm with
        | false => exact iteT (bad (by rw [qn, qm]; rfl) _ s3)
        | true =>
          have hn3 := (Sty.of s3).dq hn
          have hm3 := (Sty.of s3).dq hm
          refine iteF ⟨_, rfl, _, _, rfl, hn3.lenV qn, _, rfl, _, _, rfl, hm3.lenV qm, rfl, _, rfl, ?_⟩
          rw [dec_nat]
          cases ql : ((its dn).length == (its dm).length) with
          | false => exact iteT (bad (by rw [qn, qm, ql]; rfl) _ s3)
          | true =>
            refine iteF ⟨_, rfl, _, _, rfl, hn3.lenV qn, rfl, _, rfl, ?_⟩
            rw [show decide (V.int ((its dn).length : Int) = V.int 0) = ((its dn).length == 0) from dec_nat (b := 0)]
            cases qz : ((its dn).length == 0) with
            | true => exact iteT (bad (by rw [qn, qm, ql, beq_iff_eq.mp qz]; rfl) _ s3)
            | false =>
              have el : (its dm).length = (its dn).length := (beq_iff_eq.mp ql).symm
              have pos : 0 < (its dn).length := Nat.pos_of_ne_zero (beq_eq_false_iff_ne.mp qz)
              have q2 : isTable dn dm = true := by
                unfold isTable
                rw [qn, qm, ql, decide_eq_true pos]
                rfl
              obtain ⟨a, xs, rfl, hs, ha⟩ := hn3.seq qn
              obtain ⟨b, ys, rfl, hb, hab⟩ := hm3.seq qm
              refine iteF ⟨_, rfl, _, _, rfl, Dq.lenV hn3 qn, _, _, rfl, rfl, _, rfl, ?_⟩
              cases q6 : decide ((600 : Int) < ((its dn).length : Int)) with
              | true =>
                have q5 : 600 < (its dn).length := by have := of_decide_eq_true q6; omega
                exact iteT ⟨by show 3 ≤ sizeLine; decide, fun t ht => k _ _ _ (s3.trans (sm1 ht)) (.inr (.inr (.inl ⟨q1, q2, q5, rfl⟩))) (.tup (SqT.of upd_same) (.cons (.str _) (.cons (.int _) (.cons (.bl _) .nil))))⟩
              | false =>
              have q5 : (its dn).length ≤ 600 := by have := of_decide_eq_false q6; omega
              refine iteF ⟨_, rfl, _, _, rfl, (Dq.lenV hn3 qn), _, rfl, by omega, by have := sn.2.1; omega, ?_⟩
              rw [show ((its dn).length : Int).toNat = (its dn).length from rfl]
              refine for_range (n := (its dn).length) (fun i σ H' => ∃ v3 : Option V, σ = [some (.str z), some (.ref a), some (.ref b), v3] ∧ Same H3 H' ∧ ∀ j, j < i → rowOk z.length (its dn) (its dm) j = true) ⟨_, rfl, same_refl, fun j hj => absurd hj (Nat.not_lt_zero j)⟩ ?_ ?_
              · rintro i σ H4 hi ⟨v3, rfl, s4, before⟩
                obtain ⟨d, hdx⟩ : ∃ d, (its dn)[i]? = some d := ⟨_, List.getElem?_eq_getElem hi⟩
                obtain ⟨dm', hdm⟩ : ∃ d, (its dm)[i]? = some d := ⟨_, List.getElem?_eq_getElem (by omega)⟩
                obtain ⟨x, hx, hqx⟩ := ha.at hdx
                obtain ⟨y, hy, hqy⟩ := hab.at hdm
                have st4 := Sty.of (K := K) s4
                have rd : (its dn).getD i .none = d := getD_of hdx
                have rm : (its dm).getD i .none = dm' := getD_of hdm
                have fail : ∀ H', Same H4 H' → rowOk z.length (its dn) (its dm) i = false → tTup (tCons (tC (.str "machine")) (tCons (tC (.int (i : Nat))) (tCons (tC (.bl true)) tNil))) [] H' Q := fun H' s' r => ⟨by show 3 ≤ sizeLine; decide, fun t ht => k _ _ _ ((s3.trans s4).trans (s'.trans (sm1 ht))) (.inr (.inr (.inr (.inl ⟨q1, q2, q5, i, ⟨hi, r, before⟩, rfl⟩)))) (.tup (SqT.of upd_same) (.cons (.str _) (.cons (.int _) (.cons (.bl _) .nil))))⟩
                rw [Int.zero_add]
                refine ⟨_, rfl, _, rfl, _, rfl, (Sq.ix (st4.toStay.sq hs) (atI_nat hx) ⟨_, rfl, _, _, rfl, Dq.lenV (st4.dq hn3) qn, z, x, d, _, rfl, st4.dq hqx, by omega, fun H5 s5 => ⟨_, rfl, ?_⟩⟩)⟩
                cases q3 : isRow z.length (its dn).length d with
                | false =>
                  refine iteT ?_
                  obtain ⟨h1, h2⟩ := fail H5 s5 (by unfold rowOk; rw [rd, q3]; rfl)
                  exact ⟨_, rfl, h1, h2⟩
                | true =>
                  obtain ⟨sh1, sh2, sh3⟩ := sh dm' (List.mem_of_getElem? hdm)
                  have st5 := Sty.of (K := K) (s4.trans s5)
                  refine iteF ⟨_, rfl, _, rfl, (Sq.ix (st5.toStay.sq hb) (atI_nat hy) ⟨y, dm', rfl, st5.dq hqy, sh1, sh2, sh3, by show 3 ≤ sizeLine; decide, fun t ht => ?_⟩)⟩
                  refine ⟨t, _, rfl, .inr (SqT.of upd_same), rfl, ?_, _, rfl, ?_⟩
                  · decide
                  rw [show (if true = true then !inV (.str dm'.shown) [.str "True", .str "False", .str "None"] else inV (.str dm'.shown) [.str "True", .str "False", .str "None"]) = !isMark dm' from congrArg Bool.not mark_in]
                  cases q4 : isMark dm' with
                  | false =>
                    refine iteT ?_
                    obtain ⟨h1, h2⟩ := fail _ (s5.trans (sm1 ht)) (by unfold rowOk; rw [rd, q3, rm, q4]; rfl)
                    exact ⟨_, rfl, h1, h2⟩
                  | true =>
                    refine iteF ⟨_, rfl, (s4.trans s5).trans (sm1 ht), fun j hj => ?_⟩
                    rcases Nat.lt_or_ge j i with l | l
                    · exact before j l
                    · obtain rfl : j = i := by omega
                      unfold rowOk
                      rw [rd, q3, rm, q4]
                      rfl
              · rintro σ H4 ⟨v3, rfl, s4, all⟩
                exact k _ _ _ (s3.trans s4) (.inr (.inr (.inr (.inr ⟨q1, q2, q5, all, rfl⟩)))) .non
end
end Wf
namespace Wf
open PySem L2
abbrev s_law_spoilt : Stmt := top 46
abbrev N_law_spoilt : List Str := ["pen", "letters", "rows", "marks", "way", "at", "given", "odd", "row"]
theorem sc_law_spoilt : FnScope N_law_spoilt ["pen", "letters", "rows", "marks"] (defScope s_law_spoilt) := ⟨rfl, rfl, rfl, by decide +kernel, rfl, by decide +kernel, by decide +kernel⟩
/-- the rows, whatever they are by now -/
structure RwP (d : PyData) : Prop where
  sm : Sml d
  vw : Vw 8 200000 d
theorem Arg.low {z : Str} (h : Arg (.str z)) : z.length < 1000000 := h.sm.1 z rfl
theorem arg_up {z : Str} (l : z.length ≤ 50) (h : ∀ c ∈ z.cps.toList, c ≤ 122) : Arg (.str (Txt.upper z)) := by
  rw [PyProof.Rows.upper_ascii fun c hc => by have := h c hc; omega]
  refine arg_str ?_ fun c hc => ?_
  · show (z.cps.map PyProof.Rows.up1).size ≤ 100
    rw [Array.size_map]
    exact Nat.le_trans l (by decide)
  · rw [Array.toList_map] at hc
    obtain ⟨d, hd, rfl⟩ := List.mem_map.mp hc
    have := h d hd
    unfold PyProof.Rows.up1
    split <;> omega
theorem rw_list {es : List PyData} (l : es.length ≤ 4) (h : ∀ e ∈ es, RowP e) : RwP (.list es) := ⟨sml_rows l h, (vw_list l fun e he => (h e he).vw).more (by decide) (by decide)⟩
theorem rw_tuple {es : List PyData} (l : es.length ≤ 4) (h : ∀ e ∈ es, RowP e) : RwP (.tuple es) := ⟨⟨nofun, by show es.length < 1000000; omega, fun e he => (h e he).le⟩, (vw_tuple l fun e he => (h e he).vw).more (by decide) (by decide)⟩
theorem Od.rw {d : PyData} (h : Od d) : RwP d := ⟨h.sm, h.vw.more (by decide) (by decide)⟩
theorem Od.mkp {d : PyData} (o : Od d) : MkP d := ⟨o.sm, o.vw.more (by decide) (by decide), fun e he => ⟨(o.it e he).1, (o.it e he).2.1, by rw [sizeLine_eq]; exact Nat.le_trans (o.it e he).2.2 (by decide)⟩⟩
theorem Od.mk5 {es : List PyData} (l : es.length ≤ 5) (h : ∀ e ∈ es, Od e) : MkP (.list es) := ⟨⟨nofun, by show es.length < 1000000; omega, fun e he => (h e he).sm.2.1⟩, (vw_list l fun e he => (h e he).vw).more (by decide) (by decide), mk_items h⟩
def spSpoilt (K : PySem.W.Frag) : Sp := fun vs H Q _ => ∃ (p c : Addr) (n : Nat) (z : Str) (r m : Addr) (bs : List Addr) (kd : Nat) (rw0 : List (List V)) (dw0 : List (List PyData)) (ws0 : List V) (dm0 : List PyData), vs = [.ref p, .str z, .ref r, .ref m] ∧ Pen H p c n ∧ n < 900000 ∧
  (1 ≤ z.length ∧ z.length ≤ 3) ∧ (∀ ch ∈ z.cps.toList, ch ≤ 122) ∧ Grd K H H r m bs rw0 dw0 ws0 dm0 ∧ kd < 4 ∧ bs.length = kd + 1 ∧ ws0.length = kd + 1 ∧ dm0.length = kd + 1 ∧ (∀ ws ∈ rw0, ws.length = z.length) ∧ (∀ ds ∈ dw0, ds.length = z.length ∧ ∀ e ∈ ds, Od e) ∧ (∀ e ∈ dm0, Od e) ∧
  (r ≠ p ∧ r ≠ c) ∧ (m ≠ p ∧ m ≠ c) ∧ (∀ b ∈ bs, b ≠ p ∧ b ≠ c) ∧
  ∀ (t : Addr) (vg vr vm : V) (dl dr dm : PyData) (H' : Hp), Pen H' p c (n + 60) → H' t = some (.tup [vg, vr, vm]) → Dq K H' vg dl → Dq K H' vr dr → Dq K H' vm dm → Arg dl → RwP dr → MkP dm → Q (.ref t) H'
section
variable {P : Program} {w : World} {K : PySem.W.Frag} {mg : Str → Option Value} {base : Heap} {f : Addr} {fd : FuncData}
theorem ok_spoilt (F : Fun K "_law_spoilt" "_law_spoilt" s_law_spoilt f fd) (T : Txt K mg) (D_law_draw : Dn P w K mg base 1 "_law_draw" ["pen", "many"] spDraw) (D_law_pick : Dn P w K mg base 2 "_law_pick" ["pen", "some"] (spPick K)) (D_law_odd : Dn P w K mg base 3 "_law_odd" ["pen"] (spOdd K)) :
    FnOk P w K mg base CX0 4 f fd ["pen", "letters", "rows", "marks"] (spSpoilt K) := by
  refine F.ok sc_law_spoilt (fun vs H Q E h => ?_) (fun cdv A outer s H6 vs Q E hr h => ?_)
  · obtain ⟨p, c, n, z, r, m, bs, kd, rw0, dw0, ws0, dm0, rfl, _⟩ := h
    rfl
  · obtain ⟨p, c, n, z, r, m, bs, kd, rw0, dw0, ws0, dm0, rfl, hp6, hn, ⟨zp, zl⟩, zc, G6, kd4, lb, wl, ml, rl, odr, odm, offR, offM, offB, k⟩ := h
    refine ⟨_, (pss_cons (ps_par3 (i := 4) (j := 5) (l := 6) rfl sc_law_spoilt.nd rfl rfl rfl (by decide) (by decide) (by decide) rfl rfl rfl (pa_cons (pe_cl D_law_draw (hr.mono (by decide)) (pa_cons (pv 0) (pa_cons (pe_int) pa_nil))) (pa_cons (pe_cl D_law_draw (hr.mono (by decide)) (pa_cons (pv 0) (pa_cons (pe_callB call_len_seq (by rfl) T.z_len PySem.boot_len (pa_cons (pv 2) pa_nil)) pa_nil))) (pa_cons (pv 1) pa_nil))) (by rfl))
  (pss_cons (ps_set (i := 7) sc_law_spoilt.nd rfl (Or.inl rfl) (pe_cl D_law_pick (hr.mono (by decide)) (pa_cons (pv 0) (pa_cons (pe_lst (pa_cons (pe_cl D_law_odd (hr.mono (by decide)) (pa_cons (pv 0) pa_nil)) (pa_cons (pe_callB call_len_seq (by rfl) T.z_len PySem.boot_len (pa_cons (pv 2) pa_nil)) (pa_cons (pe_un un_neg (pe_int)) (pa_cons (pe_bl) (pa_cons (pe_str) (pa_cons (pe_int) (pa_cons (pe_int) pa_nil)))))))) pa_nil))))
  (C8.pss_cut (ps_if (pt_cmpR op_eq (pv 4) (pe_int) (nomark _)) (pss_one (ps_set (i := 6) sc_law_spoilt.nd rfl (Or.inl rfl) (pe_cl D_law_pick (hr.mono (by decide)) (pa_cons (pv 0) (pa_cons (pe_lst (pa_cons (pe_cl D_law_odd (hr.mono (by decide)) (pa_cons (pv 0) pa_nil)) (pa_cons (pe_revS (pv 1)) (pa_cons (pe_op op_add_str (pv 1) (pv 1)) (pa_cons (pe_upper (pv 1)) pa_nil))))) pa_nil))))) pss_nil)
  (C8.pss_cut (ps_if (pt_cmpR op_in_seq (pv 4) (pe_tup (pa_cons (pe_int) (pa_cons (pe_int) pa_nil))) (by rfl)) (pss_cons (ps_set (i := 8) sc_law_spoilt.nd rfl (Or.inl rfl) (pe_ix ix_list (pv 2) (pv 5) (fun _ _ => rfl)))
  (pss_one (ps_asg (pv 7) (pg_sub (pv 8) (pe_cl D_law_draw (hr.mono (by decide)) (pa_cons (pv 0) (pa_cons (pe_callB call_len_str (by rfl) T.z_len PySem.boot_len (pa_cons (pv 1) pa_nil)) pa_nil))) set_list)))) pss_nil)
  (C8.pss_cut (ps_if (pt_cmpR op_in_seq (pv 4) (pe_tup (pa_cons (pe_int) (pa_cons (pe_int) pa_nil))) (by rfl)) (pss_one (ps_asg (pv 7) (pg_sub (pv 3) (pe_cl D_law_draw (hr.mono (by decide)) (pa_cons (pv 0) (pa_cons (pe_callB call_len_seq (by rfl) T.z_len PySem.boot_len (pa_cons (pv 3) pa_nil)) pa_nil))) set_list))) pss_nil)
  (C8.pss_cut (ps_if (pt_cmpR op_eq (pv 4) (pe_int) (nomark _)) (pss_one (ps_asg (pe_cl D_law_pick (hr.mono (by decide)) (pa_cons (pv 0) (pa_cons (pe_lst (pa_cons (pe_cl D_law_odd (hr.mono (by decide)) (pa_cons (pv 0) pa_nil)) (pa_cons (pe_op op_cat (pe_ix ix_list (pv 2) (pv 5) (fun _ _ => rfl)) (pe_lst (pa_cons (pe_non) pa_nil))) (pa_cons (pe_slice sl_list (pe_ix ix_list (pv 2) (pv 5) (fun _ _ => rfl)) (po_some (pe_int)) po_none) (pa_cons (pe_callTy call_tuple_of (by rfl) T.z_tuple (by decide +kernel) (pa_cons (pe_ix ix_list (pv 2) (pv 5) (fun _ _ => rfl)) pa_nil)) pa_nil))))) pa_nil))) (pg_sub (pv 2) (pv 5) set_list))) pss_nil)
  (C8.pss_cut (ps_if (pt_cmpR op_eq (pv 4) (pe_int) (nomark _)) (pss_one (ps_set (i := 3) sc_law_spoilt.nd rfl (Or.inl rfl) (pe_cl D_law_pick (hr.mono (by decide)) (pa_cons (pv 0) (pa_cons (pe_lst (pa_cons (pe_slice sl_list (pv 3) (po_some (pe_int)) po_none) (pa_cons (pe_op op_cat (pv 3) (pe_lst (pa_cons (pe_non) pa_nil))) (pa_cons (pe_callTy call_tuple_of (by rfl) T.z_tuple (by decide +kernel) (pa_cons (pv 3) pa_nil)) (pa_cons (pe_cl D_law_odd (hr.mono (by decide)) (pa_cons (pv 0) pa_nil)) (pa_cons (pe_str) pa_nil)))))) pa_nil))))) pss_nil)
  (C8.pss_cut (ps_if (pt_cmpR op_eq (pv 4) (pe_int) (nomark _)) (pss_one (ps_set (i := 2) sc_law_spoilt.nd rfl (Or.inl rfl) (pe_cl D_law_pick (hr.mono (by decide)) (pa_cons (pv 0) (pa_cons (pe_lst (pa_cons (pe_slice sl_list (pv 2) (po_some (pe_int)) po_none) (pa_cons (pe_callTy call_tuple_of (by rfl) T.z_tuple (by decide +kernel) (pa_cons (pv 2) pa_nil)) (pa_cons (pe_cl D_law_odd (hr.mono (by decide)) (pa_cons (pv 0) pa_nil)) pa_nil)))) pa_nil))))) pss_nil)
  (pss_one (ps_ret (pe_tup (pa_cons (pv 6) (pa_cons (pv 2) (pa_cons (pv 3) pa_nil)))))))))))))), ?_⟩
    have pB : H6 p ≠ none := hp6.not
    -- way, at, given
    refine ⟨_, rfl, p, c, _, 8, rfl, hp6, by omega, by decide, by decide, fun way H7 w0 w1 bt7 hp7 => ?_⟩
    have G7 := G6.but bt7 hp6 pB
    refine ⟨_, rfl, _, rfl, r, _, rfl, .inl (SqL.of G7.rr), p, c, _, _, rfl, hp7, by omega, by rw [List.length_map]; omega, by rw [List.length_map]; omega, fun at' H8 a0 a1 bt8 hp8 => ?_⟩
    have G8 := G7.but bt8 hp7 pB
    have n8 : New H6 H6 H8 := (New.but bt7 pB).trans (New.but bt8 pB)
    refine ⟨_, rfl, _, _, _, rfl, ?_⟩
    -- odd
    refine ⟨_, rfl, _, rfl, p, c, _, rfl, hp8, by omega, fun vo do' H9 no oo bt9 hp9 => ?_⟩
    have t68 : There H6 H8 := (hp7.there bt7).trans (hp8.there bt8)
    have no9 := no.old t68
    have G9 := G8.but bt9 hp8 pB
    refine ⟨_, rfl, r, _, rfl, .inl (SqL.of G9.rr), 1, rfl, by show 7 ≤ sizeLine; decide, fun l hl => ?_⟩
    have s10 := sm1 (o := .lst [vo, .int ((bs.map V.ref).length : Nat), .int (-1), .bl true, .str "0", .int 1, .int 0]) hl
    have el : (upd H9 l (.lst [vo, .int ((bs.map V.ref).length : Nat), .int (-1), .bl true, .str "0", .int 1, .int 0])) l = some (.lst [vo, .int ((bs.map V.ref).length : Nat), .int (-1), .bl true, .str "0", .int 1, .int 0]) := upd_same
    generalize upd H9 l (.lst [vo, .int ((bs.map V.ref).length : Nat), .int (-1), .bl true, .str "0", .int 1, .int 0]) = H10 at s10 el ⊢
    refine ⟨p, c, _, hp9.same s10, by omega, .inl ⟨l, _, rfl, .inl (SqL.of el), by show 0 < 7; decide, by show 7 < 1000000; decide, fun x H11 hx bt11 hp11 => ?_⟩⟩
    have G11 := (G9.same s10).but bt11 (hp9.same s10) pB
    obtain ⟨dx, nx, ox⟩ : ∃ dx, NewD K H6 H11 x dx ∧ Od dx := by
      have no11 := (no9.same s10).but bt11 pB
      simp only [List.mem_cons, List.not_mem_nil, or_false] at hx
      rcases hx with rfl | rfl | rfl | rfl | rfl | rfl | rfl
      · exact ⟨_, no11, oo⟩
      · exact ⟨_, .int, od_nat (by rw [List.length_map]; omega)⟩
      · exact ⟨_, .int, od_of (by decide +kernel)⟩
      · exact ⟨_, .bl, od_bool⟩
      · exact ⟨_, .str, od_of (by decide +kernel)⟩
      · exact ⟨_, .int, od_of (by decide +kernel)⟩
      · exact ⟨_, .int, od_of (by decide +kernel)⟩
    clear G6 G7 G8 G9
    obtain ⟨ka, rfl⟩ := Int.eq_ofNat_of_zero_le a0
    have kal : ka < bs.length := by
      rw [List.length_map] at a1
      omega
    have zs : Arg (.str z) := arg_str (by omega) zc
    have t611 : There H6 H11 := t68.trans (hp11.there (bt9.trans ((But.of s10).trans bt11)))
    -- if way == 0
    refine ⟨fun σ H => ∃ (vg : V) (dl : PyData), σ = [some (.ref p), some (.str z), some (.ref r), some (.ref m), some (.int way), some (.int (ka : Int)), some vg, some x, none] ∧ Pen H p c (n + 10) ∧ Grd K H6 H r m bs rw0 dw0 ws0 dm0 ∧ NewD K H6 H x dx ∧ NewD K H6 H vg dl ∧ Arg dl ∧ There H6 H, ?_, ?_⟩
    · refine ⟨_, rfl, rfl, _, rfl, ite2 (fun _ => ?_) fun _ => ⟨_, _, rfl, hp11.up (by omega), G11, nx, .str, zs, t611⟩⟩
      refine ⟨_, rfl, _, rfl, p, c, _, rfl, hp11, by omega, fun v1 d1 H12 n1 o1 bt12 hp12 => ?_⟩
      have n1 := n1.old t611
      have G12 := G11.but bt12 hp11 pB
      have nx12 := nx.but bt12 pB
      refine ⟨_, rfl, z, rfl, by rw [sizeLine_eq]; omega, _, rfl, _, rfl, z, z, rfl, rfl, by rw [sizeLine_eq]; omega, _, rfl, ⟨z, rfl⟩, z, rfl, rfl, by omega, by show 4 ≤ sizeLine; decide, fun l2 hl2 => ?_⟩
      have s13 := sm1 (o := .lst [v1, .str (revS z), .str (z ++ z), .str (Txt.upper z)]) hl2
      have el2 : (upd H12 l2 (.lst [v1, .str (revS z), .str (z ++ z), .str (Txt.upper z)])) l2 = some (.lst [v1, .str (revS z), .str (z ++ z), .str (Txt.upper z)]) := upd_same
      generalize upd H12 l2 (.lst [v1, .str (revS z), .str (z ++ z), .str (Txt.upper z)]) = H13 at s13 el2 ⊢
      refine ⟨p, c, _, hp12.same s13, by omega, .inl ⟨l2, _, rfl, .inl (SqL.of el2), by show 0 < 4; decide, by show 4 < 1000000; decide, fun vg H14 hg bt14 hp14 => ?_⟩⟩
      obtain ⟨dg, ng, ag⟩ : ∃ dg, NewD K H6 H14 vg dg ∧ Arg dg := by
        simp only [List.mem_cons, List.not_mem_nil, or_false] at hg
        rcases hg with rfl | rfl | rfl | rfl
        · exact ⟨_, (n1.same s13).but bt14 pB, o1.arg⟩
        · refine ⟨_, .str, arg_str ?_ fun ch hc => ?_⟩
          · show z.cps.toList.reverse.toArray.size ≤ 100
            rw [List.size_toArray, List.length_reverse, Array.length_toList]
            show z.length ≤ 100
            omega
          · exact zc ch (by
              have hc2 : ch ∈ z.cps.toList.reverse.toArray.toList := hc
              rw [List.toList_toArray, List.mem_reverse] at hc2
              exact hc2)
        · refine ⟨_, .str, arg_str ?_ fun ch hc => ?_⟩
          · rw [show (z ++ z).length = z.length + z.length from strLen_append z z]
            omega
          · rw [show (z ++ z).cps.toList = z.cps.toList ++ z.cps.toList from Array.toList_append] at hc
            exact zc ch ((List.mem_append.mp hc).elim id id)
        · exact ⟨_, .str, arg_up (by omega) zc⟩
      exact ⟨_, _, rfl, hp14.up (by omega), (G12.same s13).but bt14 (hp12.same s13) pB, (nx12.same s13).but bt14 pB, ng, ag, t611.trans (hp14.there ((bt12.same s13).trans bt14))⟩
    rintro σ H12 ⟨vg, dl, rfl, hp12, G12, nx12, ng12, ag, t12⟩
    -- if way in (1, 2)
    refine ⟨fun σ H => ∃ (rws : List (List V)) (dws : List (List PyData)) (v12 : Option V), σ = [some (.ref p), some (.str z), some (.ref r), some (.ref m), some (.int way), some (.int (ka : Int)), some vg, some x, v12] ∧ Pen H p c (n + 11) ∧ Grd K H6 H r m bs rws dws ws0 dm0 ∧ (∀ ds ∈ dws, ds.length = z.length ∧ ∀ e ∈ ds, Od e) ∧ NewD K H6 H x dx ∧ NewD K H6 H vg dl ∧ There H6 H, ?_, ?_⟩
    · refine ⟨_, rfl, by show 2 ≤ sizeLine; decide, fun t2 ht2 => ⟨t2, _, rfl, .inr (SqT.of upd_same), rfl, by decide, _, rfl, ite2 (fun _ => ?_) fun _ => ?_⟩⟩
      · have s13 := sm1 (o := .tup [.int 1, .int 2]) ht2
        have G13 := G12.same s13
        have hp13 := hp12.same s13
        have nx13 := nx12.same s13
        have ng13 := ng12.same s13
        generalize upd H12 t2 (.tup [.int 1, .int 2]) = H13 at s13 G13 hp13 nx13 ng13 ⊢
        have eb : bs[ka]? = some bs[ka] := List.getElem?_eq_getElem kal
        have er : rw0[ka]? = some (rw0[ka]'(by rw [← G12.lb]; exact kal)) := List.getElem?_eq_getElem _
        have ed : dw0[ka]? = some (dw0[ka]'(by rw [← G12.ld]; exact kal)) := List.getElem?_eq_getElem _
        have rln := rl _ (List.mem_of_getElem? er)
        have dln := odr _ (List.mem_of_getElem? ed)
        generalize rw0[ka]'(by rw [← G12.lb]; exact kal) = row at er rln
        generalize dw0[ka]'(by rw [← G12.ld]; exact kal) = drow at ed dln
        generalize bs[ka] = b at eb
        refine ⟨_, rfl, _, rfl, r, _, (ka : Int), .ref b, rfl, rfl, SqL.of G13.rr, atI_nat (by rw [List.getElem?_map, eb]; rfl), ?_⟩
        refine ⟨_, rfl, _, rfl, _, rfl, _, rfl, z, rfl, by rw [sizeLine_eq]; omega, p, c, _, _, rfl, hp13, by omega, by omega, by omega, fun d2 H14 d20 d21 bt14 hp14 => ?_⟩
        obtain ⟨k2, rfl⟩ := Int.eq_ofNat_of_zero_le d20
        have G14 := G13.but bt14 hp13 pB
        have nx14 := nx13.but bt14 pB
        have ng14 := ng13.but bt14 pB
        have hb := G14.row ka b row eb er
        refine ⟨b, row, (k2 : Int), k2, rfl, rfl, hb, ixN_nat (by omega), ?_⟩
        have up : New H6 H14 (upd H14 b (.lst (row.set k2 x))) := New.upd (G14.hb b (List.mem_of_getElem? eb)).1
        refine ⟨_, _, _, rfl, ?_, G14.setRow k2 eb er ed nx14, ?_, nx14.to up, ng14.to up, (t12.trans (hp14.there ((But.of s13).trans bt14))).trans There.upd⟩
        · exact (hp14.wr (offB b (List.mem_of_getElem? eb)).1 (offB b (List.mem_of_getElem? eb)).2).up (by omega)
        · intro ds hds
          rcases mem_set hds with h | rfl
          · exact odr ds h
          · refine ⟨by rw [List.length_set]; exact dln.1, fun e he => ?_⟩
            rcases mem_set he with h | rfl
            · exact dln.2 e h
            · exact ox
      · have s13 := sm1 (o := .tup [.int 1, .int 2]) ht2
        exact ⟨_, _, _, rfl, (hp12.same s13).up (by omega), G12.same s13, odr, nx12.same s13, ng12.same s13, t12.trans (There.of s13)⟩
    rintro σ H13 ⟨rws, dws, v12, rfl, hp13, G13, odr, nx13, ng13, t13⟩
    -- if way in (2, 3)
    refine ⟨fun σ H => ∃ (ws : List V) (dms : List PyData), σ = [some (.ref p), some (.str z), some (.ref r), some (.ref m), some (.int way), some (.int (ka : Int)), some vg, some x, v12] ∧ Pen H p c (n + 12) ∧ Grd K H6 H r m bs rws dws ws dms ∧ dms.length = kd + 1 ∧ (∀ e ∈ dms, Od e) ∧ NewD K H6 H vg dl ∧ There H6 H, ?_, ?_⟩
    · refine ⟨_, rfl, by show 2 ≤ sizeLine; decide, fun t2 ht2 => ⟨t2, _, rfl, .inr (SqT.of upd_same), rfl, by decide, _, rfl, ite2 (fun _ => ?_) fun _ => ?_⟩⟩
      · have s14 := sm1 (o := .tup [.int 2, .int 3]) ht2
        have G14 := G13.same s14
        have hp14 := hp13.same s14
        have nx14 := nx13.same s14
        have ng14 := ng13.same s14
        generalize upd H13 t2 (.tup [.int 2, .int 3]) = H14 at s14 G14 hp14 nx14 ng14 ⊢
        refine ⟨_, rfl, _, rfl, _, rfl, _, rfl, m, _, rfl, .inl (SqL.of G14.mm), p, c, _, _, rfl, hp14, by omega, by omega, by omega, fun d2 H15 d20 d21 bt15 hp15 => ?_⟩
        obtain ⟨k2, rfl⟩ := Int.eq_ofNat_of_zero_le d20
        have G15 := G14.but bt15 hp14 pB
        have nx15 := nx14.but bt15 pB
        have ng15 := ng14.but bt15 pB
        refine ⟨m, ws0, (k2 : Int), k2, rfl, rfl, G15.mm, ixN_nat (by omega), ?_⟩
        refine ⟨_, _, rfl, (hp15.wr offM.1 offM.2).up (by omega), G15.setMark k2 nx15, by rw [List.length_set]; exact ml, fun e he => ?_, ng15.to (New.upd G15.hm), (t13.trans (hp15.there ((But.of s14).trans bt15))).trans There.upd⟩
        rcases mem_set he with h | rfl
        · exact odm e h
        · exact ox
      · have s14 := sm1 (o := .tup [.int 2, .int 3]) ht2
        exact ⟨_, _, rfl, (hp13.same s14).up (by omega), G13.same s14, ml, odm, ng13.same s14, t13.trans (There.of s14)⟩
    rintro σ H14 ⟨ws, dms, rfl, hp14, G14, ml, odm, ng14, t14⟩
    have dwl : dws.length = kd + 1 := G14.ld.symm.trans lb
    -- if way == 4
    refine ⟨fun σ H => ∃ (es : List PyData), σ = [some (.ref p), some (.str z), some (.ref r), some (.ref m), some (.int way), some (.int (ka : Int)), some vg, some x, v12] ∧ Pen H p c (n + 14) ∧ Dq K H (.ref r) (.list es) ∧ es.length = kd + 1 ∧ (∀ e ∈ es, RowP e) ∧ H m = some (.lst ws) ∧ DqAll K H ws dms ∧ Dq K H vg dl, ?_, ?_⟩
    · have rows0 : ∀ e ∈ dws.map PyData.list, RowP e := fun e he => by
        obtain ⟨ds, hds, rfl⟩ := List.mem_map.mp he
        exact row_list (by rw [(odr ds hds).1]; omega) (odr ds hds).2
      refine ⟨_, rfl, rfl, _, rfl, ite2 (fun _ => ?_) fun _ => ⟨_, rfl, hp14.up (by omega), G14.dqR, by rw [List.length_map]; exact dwl, rows0, G14.mm, G14.nm.dq, ng14.dq⟩⟩
      refine ⟨_, rfl, _, rfl, p, c, _, rfl, hp14, by omega, fun v1 d1 H15 n1 o1 bt15 hp15 => ?_⟩
      have n1 := n1.old t14
      have t15 := t14.trans (hp15.there bt15)
      have G15 := G14.but bt15 hp14 pB
      have ng15 := ng14.but bt15 pB
      have eb : bs[ka]? = some bs[ka] := List.getElem?_eq_getElem kal
      have er : rws[ka]? = some (rws[ka]'(by rw [← G14.lb]; exact kal)) := List.getElem?_eq_getElem _
      have ed : dws[ka]? = some (dws[ka]'(by rw [← G14.ld]; exact kal)) := List.getElem?_eq_getElem _
      have dln := odr _ (List.mem_of_getElem? ed)
      generalize rws[ka]'(by rw [← G14.lb]; exact kal) = row at er
      generalize dws[ka]'(by rw [← G14.ld]; exact kal) = drow at ed dln
      generalize bs[ka] = b at eb
      have hb := G15.row ka b row eb er
      have nr := G15.nw ka row drow er ed
      have rlen : row.length = drow.length := nr.dq.len
      refine ⟨_, rfl, _, rfl, r, _, (ka : Int), .ref b, rfl, rfl, SqL.of G15.rr, atI_nat (by rw [List.getElem?_map, eb]; rfl), by show 1 ≤ sizeLine; decide, fun l1 hl1 => ?_⟩
      have s16 := sm1 (o := .lst [.non]) hl1
      refine ⟨b, l1, row, [.non], rfl, rfl, s16 _ _ hb, upd_same, by rw [sizeLine_eq]; have := dln.1; show row.length + 1 ≤ _; omega, fun q hq1 => ?_⟩
      have s17 := s16.trans (sm1 (o := .lst (row ++ [.non])) hq1)
      have eq : (upd (upd H15 l1 (.lst [.non])) q (.lst (row ++ [.non]))) q = some (.lst (row ++ [.non])) := upd_same
      have h6q : H6 q = none := t15 q (There.of s16 q hq1)
      generalize upd (upd H15 l1 (.lst [.non])) q (.lst (row ++ [.non])) = H17 at s17 eq ⊢
      have G17 := G15.same s17
      refine ⟨_, rfl, _, rfl, r, _, (ka : Int), .ref b, rfl, rfl, SqL.of G17.rr, atI_nat (by rw [List.getElem?_map, eb]; rfl), 1, rfl, b, row, rfl, SqL.of (s17 _ _ hb), fun q2 hq2 => ?_⟩
      have s17b := sm1 (o := .lst (cutV row (some 1) none)) hq2
      have eq2 : (upd H17 q2 (.lst (cutV row (some 1) none))) q2 = some (.lst (cutV row (some 1) none)) := upd_same
      have h6q2 : H6 q2 = none := t15 q2 (There.of s17 q2 hq2)
      generalize upd H17 q2 (.lst (cutV row (some 1) none)) = H17b at s17b eq2 ⊢
      have G17b := G17.same s17b
      refine ⟨_, rfl, _, rfl, r, _, (ka : Int), .ref b, rfl, rfl, SqL.of G17b.rr, atI_nat (by rw [List.getElem?_map, eb]; rfl), b, row, rfl, .inl ⟨SqL.of (s17b _ _ (s17 _ _ hb)), fun u hu2 => ?_⟩⟩
      have s18 := s17b.trans (sm1 (o := .tup row) hu2)
      have eu : (upd H17b u (.tup row)) u = some (.tup row) := upd_same
      have eq2u := sm1 (o := .tup row) hu2 _ _ eq2
      have h6u : H6 u = none := t15 u (There.of (s17.trans s17b) u hu2)
      generalize upd H17b u (.tup row) = H18 at s18 eu eq2u ⊢
      refine ⟨by show 4 ≤ sizeLine; decide, fun l3 hl3 => ?_⟩
      have s19 := s18.trans (sm1 (o := .lst [v1, .ref q, .ref q2, .ref u]) hl3)
      have el3 : (upd H18 l3 (.lst [v1, .ref q, .ref q2, .ref u])) l3 = some (.lst [v1, .ref q, .ref q2, .ref u]) := upd_same
      have eu19 := sm1 (o := .lst [v1, .ref q, .ref q2, .ref u]) hl3 _ _ eu
      have eq219 := sm1 (o := .lst [v1, .ref q, .ref q2, .ref u]) hl3 _ _ eq2u
      generalize upd H18 l3 (.lst [v1, .ref q, .ref q2, .ref u]) = H19 at s19 el3 eu19 eq219 ⊢
      have s519 := s17.trans s19
      refine ⟨p, c, _, hp15.same s519, by omega, .inl ⟨l3, _, rfl, .inl (SqL.of el3), by show 0 < 4; decide, by show 4 < 1000000; decide, fun x3 H20 hx3 bt20 hp20 => ?_⟩⟩
      have G20 := (G15.same s519).but bt20 (hp15.same s519) pB
      obtain ⟨d3, nd3, rp3⟩ : ∃ d3, NewD K H6 H20 x3 d3 ∧ RowP d3 := by
        have nr19 : NewAll K H6 H19 row drow := nr.to (New.same s519)
        simp only [List.mem_cons, List.not_mem_nil, or_false] at hx3
        rcases hx3 with rfl | rfl | rfl | rfl
        · exact ⟨_, (n1.same s519).but bt20 pB, o1.row⟩
        · refine ⟨_, (NewD.lst (nr19.add .non) h6q (s19 _ _ eq)).but bt20 pB, row_list (by rw [List.length_append]; show drow.length + 1 ≤ 4; have := dln.1; omega) fun e he => ?_⟩
          rcases List.mem_append.mp he with h | h
          · exact dln.2 e h
          · rw [List.mem_singleton.mp h]
            exact od_none
        · have nc : NewAll K H6 H19 (cutV row (some 1) none) ((drow.drop (HT.sIx row.length 0 (some 1))).take (HT.sIx row.length row.length none - HT.sIx row.length 0 (some 1))) := fun G m => DqAll.take _ (DqAll.drop _ (nr19 G m))
          exact ⟨_, (NewD.lst nc h6q2 eq219).but bt20 pB, row_list (by rw [List.length_take, List.length_drop]; have := dln.1; omega) fun e he => dln.2 e (List.mem_of_mem_drop (List.mem_of_mem_take he))⟩
        · exact ⟨_, (NewD.tup nr19 h6u eu19).but bt20 pB, row_tuple (by have := dln.1; omega) dln.2⟩
      have sr := G20.setR ka nd3
      refine ⟨_, rfl, _, rfl, r, _, (ka : Int), ka, rfl, rfl, G20.rr, ixN_nat (by rw [List.length_map]; exact kal), ?_⟩
      refine ⟨_, rfl, (hp20.wr offR.1 offR.2).up (by omega), sr.1, by rw [List.length_set, List.length_map]; exact dwl, fun e he => ?_, sr.2.1, sr.2.2.1, (ng15.to ((New.same s519).trans ((New.but bt20 pB).trans sr.2.2.2))).dq⟩
      rcases mem_set he with h | rfl
      · exact rows0 e h
      · exact rp3
    rintro σ H15 ⟨es, rfl, hp15, dr15, esl, rp, em15, dm15, dg15⟩
    -- if way == 5
    refine ⟨fun σ H => ∃ (vm : V) (dm : PyData), σ = [some (.ref p), some (.str z), some (.ref r), some vm, some (.int way), some (.int (ka : Int)), some vg, some x, v12] ∧ Pen H p c (n + 16) ∧ Dq K H (.ref r) (.list es) ∧ Dq K H vm dm ∧ MkP dm ∧ Dq K H vg dl, ?_, ?_⟩
    · refine ⟨_, rfl, rfl, _, rfl, ite2 (fun _ => ?_) fun _ => ⟨_, _, rfl, hp15.up (by omega), dr15, .lst (SqL.of em15) dm15, mk_list (by omega) odm, dg15⟩⟩
      have wsl : ws.length = kd + 1 := dm15.len.trans ml
      refine ⟨_, rfl, _, rfl, 1, rfl, m, ws, rfl, SqL.of em15, fun q hq1 => ?_⟩
      have s16 := sm1 (o := .lst (cutV ws (some 1) none)) hq1
      have eq : (upd H15 q (.lst (cutV ws (some 1) none))) q = some (.lst (cutV ws (some 1) none)) := upd_same
      generalize upd H15 q (.lst (cutV ws (some 1) none)) = H16 at s16 eq ⊢
      refine ⟨_, rfl, by show 1 ≤ sizeLine; decide, fun l1 hl1 => ?_⟩
      have s16b := sm1 (o := .lst [.non]) hl1
      refine ⟨m, l1, ws, [.non], rfl, rfl, s16b _ _ (s16 _ _ em15), upd_same, by rw [sizeLine_eq]; show ws.length + 1 ≤ _; omega, fun q2 hq2 => ?_⟩
      have s16c := s16b.trans (sm1 (o := .lst (ws ++ [.non])) hq2)
      have eq2 : (upd (upd H16 l1 (.lst [.non])) q2 (.lst (ws ++ [.non]))) q2 = some (.lst (ws ++ [.non])) := upd_same
      generalize upd (upd H16 l1 (.lst [.non])) q2 (.lst (ws ++ [.non])) = H16c at s16c eq2 ⊢
      have s16d := s16.trans s16c
      refine ⟨_, rfl, m, ws, rfl, .inl ⟨SqL.of (s16d _ _ em15), fun u hu2 => ?_⟩⟩
      have s17 := sm1 (o := .tup ws) hu2
      have eu : (upd H16c u (.tup ws)) u = some (.tup ws) := upd_same
      generalize upd H16c u (.tup ws) = H17 at s17 eu ⊢
      have hp17 := (hp15.same s16d).same s17
      refine ⟨_, rfl, p, c, _, rfl, hp17, by omega, fun v1 d1 H18 n1 o1 bt18 hp18 => ?_⟩
      have y17 : Sty K H15 H17 := Sty.of (s16d.trans s17)
      have y18 := y17.trans (bt18.sty hp17)
      have dq18 : Dq K H18 (.ref q) (.list ((dms.drop (HT.sIx ws.length 0 (some 1))).take (HT.sIx ws.length ws.length none - HT.sIx ws.length 0 (some 1)))) := .lst ((bt18.sty (K := K) hp17).l _ _ (SqL.of (s17 _ _ (s16c _ _ eq)))) (DqAll.take _ (DqAll.drop _ (y18.dqAll dm15)))
      have dq218 : Dq K H18 (.ref q2) (.list (dms ++ [.none])) := .lst ((bt18.sty (K := K) hp17).l _ _ (SqL.of (s17 _ _ eq2))) ((y18.dqAll dm15).app (.cons .non .nil))
      have du18 : Dq K H18 (.ref u) (.tuple dms) := .tup ((bt18.sty (K := K) hp17).t _ _ (SqT.of eu)) (y18.dqAll dm15)
      refine ⟨by show 5 ≤ sizeLine; decide, fun l3 hl3 => ?_⟩
      have s19 := sm1 (o := .lst [.ref q, .ref q2, .ref u, v1, .str "TF"]) hl3
      have el3 : (upd H18 l3 (.lst [.ref q, .ref q2, .ref u, v1, .str "TF"])) l3 = some (.lst [.ref q, .ref q2, .ref u, v1, .str "TF"]) := upd_same
      generalize upd H18 l3 (.lst [.ref q, .ref q2, .ref u, v1, .str "TF"]) = H19 at s19 el3 ⊢
      refine ⟨p, c, _, hp18.same s19, by omega, .inl ⟨l3, _, rfl, .inl (SqL.of el3), by show 0 < 5; decide, by show 5 < 1000000; decide, fun vm H20 hx3 bt20 hp20 => ?_⟩⟩
      have y20 : Sty K H18 H20 := (Sty.of s19).trans (bt20.sty (hp18.same s19))
      have all20 := y18.trans y20
      obtain ⟨dm, hdm, mk⟩ : ∃ dm, Dq K H20 vm dm ∧ MkP dm := by
        simp only [List.mem_cons, List.not_mem_nil, or_false] at hx3
        rcases hx3 with rfl | rfl | rfl | rfl | rfl
        · exact ⟨_, y20.dq dq18, mk_list (by rw [List.length_take, List.length_drop]; omega) fun e he => odm e (List.mem_of_mem_drop (List.mem_of_mem_take he))⟩
        · refine ⟨_, y20.dq dq218, Od.mk5 (by rw [List.length_append]; show dms.length + 1 ≤ 5; omega) fun e he => ?_⟩
          rcases List.mem_append.mp he with h | h
          · exact odm e h
          · rw [List.mem_singleton.mp h]
            exact od_none
        · exact ⟨_, y20.dq du18, mk_tuple (by omega) odm⟩
        · exact ⟨_, y20.dq n1.dq, o1.mkp⟩
        · exact ⟨_, .str _, Od.mkp (od_of (by decide +kernel))⟩
      exact ⟨_, _, rfl, hp20.up (by omega), all20.dq dr15, hdm, mk, all20.dq dg15⟩
    rintro σ H16 ⟨vm, dm, rfl, hp16, dr16, dm16, mk, dg16⟩
    -- if way == 6
    refine ⟨fun σ H => ∃ (vr : V) (dr : PyData), σ = [some (.ref p), some (.str z), some vr, some vm, some (.int way), some (.int (ka : Int)), some vg, some x, v12] ∧ Pen H p c (n + 18) ∧ Dq K H vr dr ∧ RwP dr ∧ Dq K H vm dm ∧ Dq K H vg dl, ?_, ?_⟩
    · refine ⟨_, rfl, rfl, _, rfl, ite2 (fun _ => ?_) fun _ => ⟨_, _, rfl, hp16.up (by omega), dr16, rw_list (by omega) rp, dm16, dg16⟩⟩
      obtain ⟨rs, hrs, drs⟩ : ∃ rs, SqL K H16 r rs ∧ DqAll K H16 rs es := by
        cases dr16 with
        | lst q a => exact ⟨_, q, a⟩
      refine ⟨_, rfl, _, rfl, 1, rfl, r, rs, rfl, hrs, fun q hq1 => ?_⟩
      have s17 := sm1 (o := .lst (cutV rs (some 1) none)) hq1
      have eq : (upd H16 q (.lst (cutV rs (some 1) none))) q = some (.lst (cutV rs (some 1) none)) := upd_same
      generalize upd H16 q (.lst (cutV rs (some 1) none)) = H17 at s17 eq ⊢
      refine ⟨_, rfl, r, rs, rfl, .inl ⟨(Sty.of (K := K) s17).toStay.l _ _ hrs, fun u hu2 => ?_⟩⟩
      have s18 := sm1 (o := .tup rs) hu2
      have eu : (upd H17 u (.tup rs)) u = some (.tup rs) := upd_same
      generalize upd H17 u (.tup rs) = H18 at s18 eu ⊢
      have hp18 := (hp16.same s17).same s18
      refine ⟨_, rfl, p, c, _, rfl, hp18, by omega, fun v1 d1 H19 n1 o1 bt19 hp19 => ?_⟩
      have y19 := (Sty.of (K := K) (s17.trans s18)).trans (bt19.sty hp18)
      have dq19 : Dq K H19 (.ref q) (.list ((es.drop (HT.sIx rs.length 0 (some 1))).take (HT.sIx rs.length rs.length none - HT.sIx rs.length 0 (some 1)))) := .lst ((bt19.sty (K := K) hp18).l _ _ (SqL.of (s18 _ _ eq))) (DqAll.take _ (DqAll.drop _ (y19.dqAll drs)))
      have du19 : Dq K H19 (.ref u) (.tuple es) := .tup ((bt19.sty (K := K) hp18).t _ _ (SqT.of eu)) (y19.dqAll drs)
      refine ⟨by show 3 ≤ sizeLine; decide, fun l3 hl3 => ?_⟩
      have s20 := sm1 (o := .lst [.ref q, .ref u, v1]) hl3
      have el3 : (upd H19 l3 (.lst [.ref q, .ref u, v1])) l3 = some (.lst [.ref q, .ref u, v1]) := upd_same
      generalize upd H19 l3 (.lst [.ref q, .ref u, v1]) = H20 at s20 el3 ⊢
      refine ⟨p, c, _, hp19.same s20, by omega, .inl ⟨l3, _, rfl, .inl (SqL.of el3), by show 0 < 3; decide, by show 3 < 1000000; decide, fun vr H21 hx3 bt21 hp21 => ?_⟩⟩
      have y21 : Sty K H19 H21 := (Sty.of s20).trans (bt21.sty (hp19.same s20))
      have all21 := y19.trans y21
      obtain ⟨dr, hdr, rw⟩ : ∃ dr, Dq K H21 vr dr ∧ RwP dr := by
        simp only [List.mem_cons, List.not_mem_nil, or_false] at hx3
        rcases hx3 with rfl | rfl | rfl
        · exact ⟨_, y21.dq dq19, rw_list (by rw [List.length_take, List.length_drop]; omega) fun e he => rp e (List.mem_of_mem_drop (List.mem_of_mem_take he))⟩
        · exact ⟨_, y21.dq du19, rw_tuple (by omega) rp⟩
        · exact ⟨_, y21.dq n1.dq, o1.rw⟩
      exact ⟨_, _, rfl, hp21.up (by omega), hdr, rw, all21.dq dm16, all21.dq dg16⟩
    rintro σ H17 ⟨vr, dr, rfl, hp17, dr17, rw17, dm17, dg17⟩
    refine ⟨_, rfl, _, rfl, _, rfl, by show 3 ≤ sizeLine; decide, fun t ht => ?_⟩
    have y18 := Sty.of (K := K) (sm1 (o := .tup [vg, vr, vm]) ht)
    exact k t vg vr vm dl dr dm _ ((hp17.same (sm1 ht)).up (by omega)) upd_same (y18.dq dg17) (y18.dq dr17) (y18.dq dm17) ag rw17 mk
end
end Wf
namespace Wf
open PySem L2
abbrev s_law : Stmt := top 47
abbrev N_law : List Str := ["script", "pen", "bout", "letters", "again", "same", "rows", "marks", "given", "many"]
theorem sc_law : FnScope N_law ["script"] (defScope s_law) := ⟨rfl, rfl, rfl, by decide +kernel, rfl, by decide +kernel, by decide +kernel⟩
def spLaw (K : PySem.W.Frag) : Sp := fun vs H Q _ => ∃ (a : Addr) (ns : List Int), vs = [.ref a] ∧ SqL K H a (ns.map V.int) ∧ ns.length ≤ 63 ∧ ∀ H', Q (.bl true) H'
theorem Due.pl {dl dn dm r : PyData} (h : Due dl dn dm r) : Pl 1 r := by
  have mach : ∀ i : Nat, Pl 1 (.tuple [.str "machine", .int (i : Nat), .bool true]) := fun i => by
    refine ⟨?_, Nat.le_refl 1⟩
    show (PyData.canLay0 (.str "machine") && (PyData.canLay0 (.int (i : Int)) && (PyData.canLay0 (.bool true) && true))) = true
    rw [show PyData.canLay0 (.str "machine") = true by decide +kernel]
    rfl
  rcases h with ⟨_, rfl⟩ | ⟨_, _, rfl⟩ | ⟨_, _, _, rfl⟩ | ⟨_, _, _, i, _, rfl⟩ | ⟨_, _, _, _, rfl⟩
  · exact ⟨by decide +kernel, by decide +kernel⟩
  · exact ⟨by decide +kernel, by decide +kernel⟩
  · exact ⟨by decide +kernel, by decide +kernel⟩
  · exact mach i
  · exact ⟨rfl, Nat.zero_le _⟩
theorem many_rows {K : PySem.W.Frag} {H : Hp} {l1 l3 : Addr} {N : Nat} (h : H l3 = none) (e : H l1 = some (.lst [.non])) : Dq K (upd H l3 (.lst (List.replicate (N : Int).toNat [V.ref l1]).flatten)) (.ref l3) (.list (List.replicate N (.list [.none]))) := by
  have go : ∀ xs, xs = List.replicate N (V.ref l1) → DqAll K (upd H l3 (.lst (List.replicate (N : Int).toNat [V.ref l1]).flatten)) xs (List.replicate N (.list [.none])) := fun xs e2 => by
    rw [e2]
    exact DqAll.many (.lst (SqL.of (sm1 h _ _ e)) (.cons .non .nil)) N
  exact .lst (SqL.of upd_same) (go _ List.flatten_replicate_singleton)
theorem many_marks {K : PySem.W.Frag} {H : Hp} {l5 : Addr} {N : Nat} : Dq K (upd H l5 (.lst (List.replicate (N : Int).toNat [V.non]).flatten)) (.ref l5) (.list (List.replicate N .none)) := by
  have go : ∀ xs, xs = List.replicate N V.non → DqAll K (upd H l5 (.lst (List.replicate (N : Int).toNat [V.non]).flatten)) xs (List.replicate N .none) := fun xs e2 => by
    rw [e2]
    exact DqAll.many .non N
  exact .lst (SqL.of upd_same) (go _ List.flatten_replicate_singleton)
section
variable {P : Program} {w : World} {K : PySem.W.Frag} {mg : Str → Option Value} {base : Heap} {f : Addr} {fd : FuncData}
theorem ok_law (F : Fun K "law" "law" s_law f fd) (T : Txt K mg) (MB : Mods base) (D_law_pen : Dn P w K mg base 1 "_law_pen" ["script"] (spPen K)) (D_law_draw : Dn P w K mg base 1 "_law_draw" ["pen", "many"] spDraw)
    (D_law_letters : Dn P w K mg base 3 "_law_letters" ["pen", "most"] spLetters) (D_law_table : Dn P w K mg base 2 "_law_table" ["pen", "letters", "size", "is_full"] spTable) (D_law_spoilt : Dn P w K mg base 4 "_law_spoilt" ["pen", "letters", "rows", "marks"] (spSpoilt K))
    (D_law_caught : Dn P w K mg base 7 "_law_caught" ["letters", "rows", "marks"] (spCau K)) (D_law_due : DnG P w K mg base 2 "_law_due" ["letters", "rows", "marks"] (spDue K)) : FnG P w K mg base CX0 8 f fd ["script"] (spLaw K) := by
  refine FnG.plain F sc_law (fun h => ?_) (fun cdv A outer s H vs Q E hq hr h => ?_)
  · obtain ⟨a, ns, rfl, _⟩ := h
    rfl
  · refine ⟨_, (pss_cons (ps_set (i := 1) sc_law.nd rfl (Or.inl rfl) (pe_cl D_law_pen (hr.mono (by decide)) (pa_cons (pv 0) pa_nil)))
  (pss_cons (ps_for PassesOwn.never rfl (pi_range1 (by rfl) T.z_range (pa_cons (pe_int) pa_nil)) (pg_name (i := 2) sc_law.nd rfl (Or.inl rfl))
   (pss_cons (ps_set (i := 3) sc_law.nd rfl (Or.inl rfl) (pe_cl D_law_letters (hr.mono (by decide)) (pa_cons (pv 1) (pa_cons (pe_int) pa_nil))))
  (pss_one (ps_for PassesOwn.never rfl (pi_range1 (by rfl) T.z_range (pa_cons (pe_int) pa_nil)) (pg_name (i := 4) sc_law.nd rfl (Or.inl rfl))
   (pss_cons (ps_asg (pe_cl D_law_table (hr.mono (by decide)) (pa_cons (pv 1) (pa_cons (pv 3) (pa_cons (pe_op op_add (pe_int) (pe_cl D_law_draw (hr.mono (by decide)) (pa_cons (pv 1) (pa_cons (pe_int) pa_nil)))) (pa_cons (pe_bl) pa_nil))))) (pg_tup (by rfl) (pgs_cons (pg_name (i := 6) sc_law.nd rfl (Or.inl rfl)) (pgs_cons (pg_name (i := 7) sc_law.nd rfl (Or.inl rfl)) pgs_nil))))
  (pss_cons (ps_asg (pe_cl D_law_spoilt (hr.mono (by decide)) (pa_cons (pv 1) (pa_cons (pv 3) (pa_cons (pv 6) (pa_cons (pv 7) pa_nil))))) (pg_tup (by rfl) (pgs_cons (pg_name (i := 8) sc_law.nd rfl (Or.inl rfl)) (pgs_cons (pg_name (i := 6) sc_law.nd rfl (Or.inl rfl)) (pgs_cons (pg_name (i := 7) sc_law.nd rfl (Or.inl rfl)) pgs_nil)))))
  (pss_cons (ps_set (i := 5) sc_law.nd rfl (Or.inl rfl) (pe_callB (cr_reprQ MB hq hr.units) (by rfl) T.z_repr (by decide +kernel) (pa_cons (pe_tup (pa_cons (pv 8) (pa_cons (pv 6) (pa_cons (pv 7) pa_nil)))) pa_nil)))
  (pss_one (ps_if (PW.pt (pw_or (pt_cmpR (op_neD hr.units) (pe_cl D_law_caught (hr.mono (by decide)) (pa_cons (pv 8) (pa_cons (pv 6) (pa_cons (pv 7) pa_nil)))) (pe_clG D_law_due hq (hr.mono (by decide)) (pa_cons (pv 8) (pa_cons (pv 6) (pa_cons (pv 7) pa_nil)))) (nomark _)) (pw_or1 (pt_cmpR op_ne (pe_callB (cr_reprQ MB hq hr.units) (by rfl) T.z_repr (by decide +kernel) (pa_cons (pe_tup (pa_cons (pv 8) (pa_cons (pv 6) (pa_cons (pv 7) pa_nil)))) pa_nil)) (pv 5) (nomark _))))) (pss_one (ps_ret (pe_bl))) pss_nil)))))))))
  (pss_cons (ps_for PassesOwn.never rfl (pi_tup (pe_tup (pa_cons (pe_int) (pa_cons (pe_int) pa_nil)))) (pg_name (i := 9) sc_law.nd rfl (Or.inl rfl))
   (pss_one (ps_if (pt_cmpR (op_neD hr.units) (pe_cl D_law_caught (hr.mono (by decide)) (pa_cons (pe_str) (pa_cons (pe_op op_rep (pe_lst (pa_cons (pe_lst (pa_cons (pe_non) pa_nil)) pa_nil)) (pv 9)) (pa_cons (pe_op op_rep (pe_lst (pa_cons (pe_non) pa_nil)) (pv 9)) pa_nil)))) (pe_clG D_law_due hq (hr.mono (by decide)) (pa_cons (pe_str) (pa_cons (pe_op op_rep (pe_lst (pa_cons (pe_lst (pa_cons (pe_non) pa_nil)) pa_nil)) (pv 9)) (pa_cons (pe_op op_rep (pe_lst (pa_cons (pe_non) pa_nil)) (pv 9)) pa_nil)))) (nomark _)) (pss_one (ps_ret (pe_bl))) pss_nil)))
  (pss_one (ps_ret (pe_bl)))))), ?_⟩
    obtain ⟨a, ns, rfl, hs, hl, k⟩ := h
    -- pen = _law_pen(script)
    refine ⟨_, rfl, a, ns, rfl, hs, hl, fun p c H1 s1 hp0 hp1 => ?_⟩
    refine ⟨6, rfl, by decide, by decide, for_range (n := 6) (fun i σ H' => ∃ v2 v3 v4 v5 v6 v7 v8 v9 : Option V, σ = [some (.ref a), some (.ref p), v2, v3, v4, v5, v6, v7, v8, v9] ∧ Pen H' p c (i * 600)) ⟨_, _, _, _, _, _, _, _, rfl, hp1⟩ ?_ ?_⟩
    · rintro i σ H2 hi ⟨v2, v3, v4, v5, v6, v7, v8, v9, rfl, hp2⟩
      refine ⟨_, rfl, p, c, _, 3, rfl, hp2, by omega, by decide, by decide, fun z H3 bt3 hp3 lz => ?_⟩
      have zl : z.length ≤ 3 := lz.2.2.2
      have zp : 1 ≤ z.length := lz.2.2.1
      refine ⟨5, rfl, by decide, by decide, for_range (n := 5) (fun j σ H' => ∃ v2 v4 v5 v6 v7 v8 v9 : Option V, σ = [some (.ref a), some (.ref p), v2, some (.str z), v4, v5, v6, v7, v8, v9] ∧ Pen H' p c (i * 600 + 27 + j * 100)) ⟨_, _, _, _, _, _, _, rfl, by rw [Nat.zero_mul]; exact hp3⟩ ?_ ?_⟩
      · rintro j σ H4 hj ⟨v2, v4, v5, v6, v7, v8, v9, rfl, hp4⟩
        have room : i * 600 + 27 + j * 100 + 100 < 800000 := by omega
        have goal' : i * 600 + 27 + (j + 1) * 100 = i * 600 + 27 + j * 100 + 100 := by omega
        rw [goal']
        generalize i * 600 + 27 + j * 100 = n4 at hp4 room ⊢
        -- rows, marks
        refine ⟨_, rfl, _, rfl, _, rfl, p, c, _, 4, rfl, hp4, by omega, by decide, by decide, fun d H5 d0 d1 bt5 hp5 => ⟨_, _, rfl, rfl, ?_⟩⟩
        obtain ⟨kd, rfl⟩ := Int.eq_ofNat_of_zero_le d0
        refine ⟨p, c, _, z, kd + 1, false, by show [V.ref p, V.str z, V.int ((1 : Int) + (kd : Int)), V.bl false] = _; rw [show (1 : Int) + (kd : Int) = ((kd + 1 : Nat) : Int) by omega], hp5, by omega, by omega, by omega, ?_, fun t r m bs tb ms H6 bt6 hp6 ht0 et T6 lt lm => ?_⟩
        · have := Nat.mul_le_mul (show kd + 1 ≤ 4 by omega) (show 2 * z.length + 1 ≤ 7 by omega)
          omega
        have hp6 : Pen H6 p c (n4 + 30) := hp6.up (by
          have := Nat.mul_le_mul (show kd + 1 ≤ 4 by omega) (show 2 * z.length + 1 ≤ 7 by omega)
          omega)
        refine ⟨t, _, rfl, SqT.of et, rfl, _, _, rfl, _, _, rfl, rfl, ?_⟩
        -- given, rows, marks
        refine ⟨_, rfl, _, rfl, _, rfl, _, rfl, p, c, _, z, r, m, bs, kd, _, _, _, _, rfl, hp6, by omega, ⟨zp, zl⟩, fun ch hc => (lz.2.1 ch hc).2, T6.grd (K := K), by omega, T6.lb.trans lt, by rw [List.length_map]; exact lm, by rw [List.length_map]; exact lm, fun ws hws => ?_, od_rows T6 (by omega), od_marks ms, hp5.off T6.new.1, hp5.off T6.new.2.1, fun b hb => hp5.off (T6.new.2.2 b hb).1, fun t2 vg vr vm dl dr dm H16 hp16 et2 dg16 dr16 dm16 ag rw16 mk => ?_⟩
        · obtain ⟨row, hr, rfl⟩ := List.mem_map.mp hws
          rw [List.length_map]
          exact T6.len row hr
        refine ⟨t2, _, rfl, SqT.of et2, rfl, _, _, rfl, _, _, rfl, _, _, rfl, rfl, ?_⟩
        have tv : Vw 9 1000000 (.tuple [dl, dr, dm]) := (vw_tuple (k := 8) (n := 200000) (c := 3) (by show 3 ≤ 3; decide) fun e he => by
          simp only [List.mem_cons, List.not_mem_nil, or_false] at he
          rcases he with rfl | rfl | rfl
          · exact ag.vw.more (by decide) (by decide)
          · exact rw16.vw
          · exact mk.vw.more (by decide) (by decide)).more (by decide) (by decide)
        have tsh := tv.shn (by decide) (by decide)
        -- same = repr(..)
        refine ⟨_, rfl, _, rfl, _, rfl, by show 3 ≤ sizeLine; decide, fun t1 ht1 => ?_⟩
        have s17 := sm1 (o := .tup [vg, vr, vm]) ht1
        have y17 := Sty.of (K := K) s17
        refine ⟨.ref t1, .tuple [dl, dr, dm], rfl, .tup (SqT.of upd_same) (.cons (y17.dq dg16) (.cons (y17.dq dr16) (.cons (y17.dq dm16) .nil))), tsh.1, tsh.2.1, tsh.2.2, ?_⟩
        have dg17 := y17.dq dg16
        have dr17 := y17.dq dr16
        have dm17 := y17.dq dm16
        have hp17 := hp16.same s17
        generalize upd H16 t1 (.tup [vg, vr, vm]) = H17 at dg17 dr17 dm17 hp17 ⊢
        -- the two are equal
        refine ⟨_, rfl, _, rfl, _, rfl, vg, vr, vm, dl, dr, dm, rfl, dg17, dr17, dm17, ag.sm, rw16.sm, mk.sm, fun u1 r1 H18 s18 due1 dp1 => ?_⟩
        have y18 := Sty.of (K := K) s18
        refine ⟨_, rfl, _, rfl, _, rfl, vg, vr, vm, dl, dr, dm, rfl, y18.dq dg17, y18.dq dr17, y18.dq dm17, ag.sm, rw16.sm, mk.sm, ag.st, mk.sh, fun u2 r2 H19 s19 due2 dp2 => ?_⟩
        cases due1.one due2
        refine ⟨r1, r1, (Stay.of s19).dp dp1, dp2, due1.pl.shaped, due1.pl.shaped, ?_⟩
        rw [PySem.SeqAt.eqv_refl _ due1.pl.1]
        refine ⟨_, rfl, iteF ?_⟩
        -- and nothing has changed
        have y19 := y18.trans (Sty.of s19)
        refine ⟨_, rfl, _, rfl, _, rfl, by show 3 ≤ sizeLine; decide, fun t2 ht2 => ?_⟩
        have s20 := sm1 (o := .tup [vg, vr, vm]) ht2
        have y20 := y19.trans (Sty.of (K := K) s20)
        refine ⟨.ref t2, .tuple [dl, dr, dm], rfl, .tup (SqT.of upd_same) (.cons (y20.dq dg17) (.cons (y20.dq dr17) (.cons (y20.dq dm17) .nil))), tsh.1, tsh.2.1, tsh.2.2, ?_⟩
        refine ⟨_, rfl, rfl, _, rfl, iteNS rfl ?_⟩
        exact ⟨_, _, _, _, _, _, _, rfl, (((hp17.same s18).same s19).same s20).up (by omega)⟩
      · rintro σ H4 ⟨v2, v4, v5, v6, v7, v8, v9, rfl, hp4⟩
        exact ⟨_, _, _, _, _, _, _, _, rfl, hp4.up (by omega)⟩
    · rintro σ H2 ⟨v2, v3, v4, v5, v6, v7, v8, v9, rfl, hp2⟩
      refine ⟨by show 2 ≤ sizeLine; decide, fun tt htt => ⟨tt, rfl, ⟨_, SqT.of upd_same⟩, for_tup (xs := [.int 600, .int 601]) (fun _ σ H' => ∃ v2 v3 v4 v5 v6 v7 v8 v9 : Option V, σ = [some (.ref a), some (.ref p), v2, v3, v4, v5, v6, v7, v8, v9] ∧ H' tt = some (.tup [.int 600, .int 601])) ⟨_, _, _, _, _, _, _, _, rfl, upd_same⟩ ?_ ?_ ?_⟩⟩
      · rintro i σ H3 _ ⟨v2, v3, v4, v5, v6, v7, v8, v9, rfl, e3⟩
        exact SqT.of e3
      · rintro i x σ H3 hx ⟨v2, v3, v4, v5, v6, v7, v8, v9, rfl, e3⟩
        obtain ⟨N, rfl, n0, n1⟩ : ∃ N : Nat, x = .int N ∧ 0 < N ∧ N ≤ 700 := by
          match i, hx with
          | 0, hx => exact ⟨600, (Option.some.inj hx).symm, by decide, by decide⟩
          | 1, hx => exact ⟨601, (Option.some.inj hx).symm, by decide, by decide⟩
          | _ + 2, hx => cases hx
        have sml : ∀ d : PyData, (its d).length < 1000000 → Sml (.list (List.replicate N d)) := fun d hd => ⟨nofun, by show (List.replicate N d).length < 1000000; rw [List.length_replicate]; omega, fun e he => by rw [List.eq_of_mem_replicate he]; exact hd⟩
        have smA : Sml (.str "a") := ⟨fun z e => by cases e; decide, by decide, fun _ h => by cases h⟩
        refine ⟨by show 1 ≤ sizeLine; decide, fun l1x hl1 => ⟨by show 1 ≤ sizeLine; decide, fun l2x hl2 => ?_⟩⟩
        have a1x := sm1 (o := .lst [.non]) hl1
        have b1x : (upd H3 l1x (.lst [.non])) l1x = some (.lst [.non]) := upd_same
        generalize upd H3 l1x (.lst [.non]) = A1x at hl2 a1x b1x ⊢
        have a2x := a1x.trans (sm1 (o := .lst [.ref l1x]) hl2)
        have b2x := sm1 (o := .lst [.ref l1x]) hl2 _ _ b1x
        have c2x : (upd A1x l2x (.lst [.ref l1x])) l2x = some (.lst [.ref l1x]) := upd_same
        generalize upd A1x l2x (.lst [.ref l1x]) = A2x at a2x b2x c2x ⊢
        refine ⟨_, rfl, l2x, N, _, rfl, rfl, c2x, by omega, by omega, by rw [sizeLine_eq]; show 1 * N ≤ _; omega, fun l3x hl3 => ?_⟩
        have a3x := a2x.trans (sm1 (o := .lst (List.replicate (N : Int).toNat [V.ref l1x]).flatten) hl3)
        have d3x := many_rows (K := K) (N := N) hl3 b2x
        generalize upd A2x l3x (.lst (List.replicate (N : Int).toNat [V.ref l1x]).flatten) = A3x at a3x d3x ⊢
        refine ⟨by show 1 ≤ sizeLine; decide, fun l4x hl4 => ⟨_, rfl, l4x, N, _, rfl, rfl, upd_same, by omega, by omega, by rw [sizeLine_eq]; show 1 * N ≤ _; omega, fun l5x hl5 => ?_⟩⟩
        have a5x := (sm1 (o := .lst [.non]) hl4).trans (sm1 (o := .lst (List.replicate (N : Int).toNat [V.non]).flatten) hl5)
        have d5x := many_marks (K := K) (H := upd A3x l4x (.lst [.non])) (l5 := l5x) (N := N)
        have d35x := (Sty.of (K := K) a5x).dq d3x
        have a6x := a3x.trans a5x
        generalize upd (upd A3x l4x (.lst [.non])) l5x (.lst (List.replicate (N : Int).toNat [V.non]).flatten) = H4 at a6x d5x d35x ⊢
        refine ⟨.str "a", .ref l3x, .ref l5x, .str "a", .list (List.replicate N (.list [.none])), .list (List.replicate N .none), rfl, .str _, d35x, d5x, smA, sml _ (by decide), sml _ (by decide), fun u1 r1 H5 s5 due1 dp1 => ?_⟩
        refine ⟨by show 1 ≤ sizeLine; decide, fun l1y hl1 => ⟨by show 1 ≤ sizeLine; decide, fun l2y hl2 => ?_⟩⟩
        have a1y := sm1 (o := .lst [.non]) hl1
        have b1y : (upd H5 l1y (.lst [.non])) l1y = some (.lst [.non]) := upd_same
        generalize upd H5 l1y (.lst [.non]) = A1y at hl2 a1y b1y ⊢
        have a2y := a1y.trans (sm1 (o := .lst [.ref l1y]) hl2)
        have b2y := sm1 (o := .lst [.ref l1y]) hl2 _ _ b1y
        have c2y : (upd A1y l2y (.lst [.ref l1y])) l2y = some (.lst [.ref l1y]) := upd_same
        generalize upd A1y l2y (.lst [.ref l1y]) = A2y at a2y b2y c2y ⊢
        refine ⟨_, rfl, l2y, N, _, rfl, rfl, c2y, by omega, by omega, by rw [sizeLine_eq]; show 1 * N ≤ _; omega, fun l3y hl3 => ?_⟩
        have a3y := a2y.trans (sm1 (o := .lst (List.replicate (N : Int).toNat [V.ref l1y]).flatten) hl3)
        have d3y := many_rows (K := K) (N := N) hl3 b2y
        generalize upd A2y l3y (.lst (List.replicate (N : Int).toNat [V.ref l1y]).flatten) = A3y at a3y d3y ⊢
        refine ⟨by show 1 ≤ sizeLine; decide, fun l4y hl4 => ⟨_, rfl, l4y, N, _, rfl, rfl, upd_same, by omega, by omega, by rw [sizeLine_eq]; show 1 * N ≤ _; omega, fun l5y hl5 => ?_⟩⟩
        have a5y := (sm1 (o := .lst [.non]) hl4).trans (sm1 (o := .lst (List.replicate (N : Int).toNat [V.non]).flatten) hl5)
        have d5y := many_marks (K := K) (H := upd A3y l4y (.lst [.non])) (l5 := l5y) (N := N)
        have d35y := (Sty.of (K := K) a5y).dq d3y
        have a6y := a3y.trans a5y
        generalize upd (upd A3y l4y (.lst [.non])) l5y (.lst (List.replicate (N : Int).toNat [V.non]).flatten) = H6 at a6y d5y d35y ⊢
        refine ⟨.str "a", .ref l3y, .ref l5y, .str "a", .list (List.replicate N (.list [.none])), .list (List.replicate N .none), rfl, .str _, d35y, d5y, smA, sml _ (by decide), sml _ (by decide), fun z e => by cases e; decide +kernel, fun e he => by rw [List.eq_of_mem_replicate he]; exact vw_none.shn (by decide) (by decide), fun u2 r2 H7 s7 due2 dp2 => ?_⟩
        cases due1.one due2
        refine ⟨r1, r1, (Stay.of (a6y.trans s7)).dp dp1, dp2, due1.pl.shaped, due1.pl.shaped, ?_⟩
        rw [PySem.SeqAt.eqv_refl _ due1.pl.1]
        exact ⟨_, rfl, iteF ⟨_, _, _, _, _, _, _, _, rfl, s7 _ _ (a6y _ _ (s5 _ _ (a6x _ _ e3)))⟩⟩
      · rintro σ H3 ⟨v2, v3, v4, v5, v6, v7, v8, v9, rfl, e3⟩
        exact k H3
end
end Wf
namespace Wf
open PySem L2
theorem all_mk {l : PySem.W.OpenLaw} {w : World} {K : PySem.W.Frag} {h : Heap} {mg : Str → Option Value} {fa f_is_number f_is_sequence f_is_mark f_is_table f_is_target f_is_row f_first_wrong_row f_copied_rows f_are_letters f_law_pen f_law_draw f_law_pick f_law_shuffled f_law_letters f_law_table f_law_odd f_law_is_letters f_law_row_right f_law_caught f_law_due f_law_spoilt f_law C_InvalidMachine i_InvalidMachine C_TooLarge i_TooLarge C_InvalidLetters C_Machine i_Machine : Addr} (X : K.In h) (G : h.Ns mainGlobals mg) (hfa : mg "law" = some (.ref fa))
    {od_is_number an_is_number : Option Addr} {sl_is_number : Array (Option Value)} {oc_is_number kV_is_number dc_is_number pm_is_number cd_is_number ct_is_number : Value}
    (a_is_number : PySem.W.nsIn K mainGlobals "is_number" = some (some (.ref f_is_number)))
    (l_is_number : K.lookup f_is_number = some ⟨oc_is_number, od_is_number, .func (PySem.W.fnOf "is_number" "is_number" (defArgs s_is_number) (defBody s_is_number) (defScope s_is_number) .none kV_is_number dc_is_number pm_is_number an_is_number cd_is_number ct_is_number), sl_is_number⟩)
    (c_is_number : PySem.W.codeIn K cd_is_number "is_number" = true)
    (k_is_number : PySem.W.keepIn K (.ref f_is_number) = true)
    {od_is_sequence an_is_sequence : Option Addr} {sl_is_sequence : Array (Option Value)} {oc_is_sequence kV_is_sequence dc_is_sequence pm_is_sequence cd_is_sequence ct_is_sequence : Value}
    (a_is_sequence : PySem.W.nsIn K mainGlobals "is_sequence" = some (some (.ref f_is_sequence)))
    (l_is_sequence : K.lookup f_is_sequence = some ⟨oc_is_sequence, od_is_sequence, .func (PySem.W.fnOf "is_sequence" "is_sequence" (defArgs s_is_sequence) (defBody s_is_sequence) (defScope s_is_sequence) .none kV_is_sequence dc_is_sequence pm_is_sequence an_is_sequence cd_is_sequence ct_is_sequence), sl_is_sequence⟩)
    (c_is_sequence : PySem.W.codeIn K cd_is_sequence "is_sequence" = true)
    (k_is_sequence : PySem.W.keepIn K (.ref f_is_sequence) = true)
    {od_is_mark an_is_mark : Option Addr} {sl_is_mark : Array (Option Value)} {oc_is_mark kV_is_mark dc_is_mark pm_is_mark cd_is_mark ct_is_mark : Value}
    (a_is_mark : PySem.W.nsIn K mainGlobals "is_mark" = some (some (.ref f_is_mark)))
    (l_is_mark : K.lookup f_is_mark = some ⟨oc_is_mark, od_is_mark, .func (PySem.W.fnOf "is_mark" "is_mark" (defArgs s_is_mark) (defBody s_is_mark) (defScope s_is_mark) .none kV_is_mark dc_is_mark pm_is_mark an_is_mark cd_is_mark ct_is_mark), sl_is_mark⟩)
    (c_is_mark : PySem.W.codeIn K cd_is_mark "is_mark" = true)
    (k_is_mark : PySem.W.keepIn K (.ref f_is_mark) = true)
    {od_is_table an_is_table : Option Addr} {sl_is_table : Array (Option Value)} {oc_is_table kV_is_table dc_is_table pm_is_table cd_is_table ct_is_table : Value}
    (a_is_table : PySem.W.nsIn K mainGlobals "is_table" = some (some (.ref f_is_table)))
    (l_is_table : K.lookup f_is_table = some ⟨oc_is_table, od_is_table, .func (PySem.W.fnOf "is_table" "is_table" (defArgs s_is_table) (defBody s_is_table) (defScope s_is_table) .none kV_is_table dc_is_table pm_is_table an_is_table cd_is_table ct_is_table), sl_is_table⟩)
    (c_is_table : PySem.W.codeIn K cd_is_table "is_table" = true)
    (k_is_table : PySem.W.keepIn K (.ref f_is_table) = true)
    {od_is_target an_is_target : Option Addr} {sl_is_target : Array (Option Value)} {oc_is_target kV_is_target dc_is_target pm_is_target cd_is_target ct_is_target : Value}
    (a_is_target : PySem.W.nsIn K mainGlobals "is_target" = some (some (.ref f_is_target)))
    (l_is_target : K.lookup f_is_target = some ⟨oc_is_target, od_is_target, .func (PySem.W.fnOf "is_target" "is_target" (defArgs s_is_target) (defBody s_is_target) (defScope s_is_target) .none kV_is_target dc_is_target pm_is_target an_is_target cd_is_target ct_is_target), sl_is_target⟩)
    (c_is_target : PySem.W.codeIn K cd_is_target "is_target" = true)
    (k_is_target : PySem.W.keepIn K (.ref f_is_target) = true)
    {od_is_row an_is_row : Option Addr} {sl_is_row : Array (Option Value)} {oc_is_row kV_is_row dc_is_row pm_is_row cd_is_row ct_is_row : Value}
    (a_is_row : PySem.W.nsIn K mainGlobals "is_row" = some (some (.ref f_is_row)))
    (l_is_row : K.lookup f_is_row = some ⟨oc_is_row, od_is_row, .func (PySem.W.fnOf "is_row" "is_row" (defArgs s_is_row) (defBody s_is_row) (defScope s_is_row) .none kV_is_row dc_is_row pm_is_row an_is_row cd_is_row ct_is_row), sl_is_row⟩)
    (c_is_row : PySem.W.codeIn K cd_is_row "is_row" = true)
    (k_is_row : PySem.W.keepIn K (.ref f_is_row) = true)
    {od_first_wrong_row an_first_wrong_row : Option Addr} {sl_first_wrong_row : Array (Option Value)} {oc_first_wrong_row kV_first_wrong_row dc_first_wrong_row pm_first_wrong_row cd_first_wrong_row ct_first_wrong_row : Value}
    (a_first_wrong_row : PySem.W.nsIn K mainGlobals "first_wrong_row" = some (some (.ref f_first_wrong_row)))
    (l_first_wrong_row : K.lookup f_first_wrong_row = some ⟨oc_first_wrong_row, od_first_wrong_row, .func (PySem.W.fnOf "first_wrong_row" "first_wrong_row" (defArgs s_first_wrong_row) (defBody s_first_wrong_row) (defScope s_first_wrong_row) .none kV_first_wrong_row dc_first_wrong_row pm_first_wrong_row an_first_wrong_row cd_first_wrong_row ct_first_wrong_row), sl_first_wrong_row⟩)
    (c_first_wrong_row : PySem.W.codeIn K cd_first_wrong_row "first_wrong_row" = true)
    (k_first_wrong_row : PySem.W.keepIn K (.ref f_first_wrong_row) = true)
    {od_copied_rows an_copied_rows : Option Addr} {sl_copied_rows : Array (Option Value)} {oc_copied_rows kV_copied_rows dc_copied_rows pm_copied_rows cd_copied_rows ct_copied_rows : Value}
    (a_copied_rows : PySem.W.nsIn K mainGlobals "copied_rows" = some (some (.ref f_copied_rows)))
    (l_copied_rows : K.lookup f_copied_rows = some ⟨oc_copied_rows, od_copied_rows, .func (PySem.W.fnOf "copied_rows" "copied_rows" (defArgs s_copied_rows) (defBody s_copied_rows) (defScope s_copied_rows) .none kV_copied_rows dc_copied_rows pm_copied_rows an_copied_rows cd_copied_rows ct_copied_rows), sl_copied_rows⟩)
    (c_copied_rows : PySem.W.codeIn K cd_copied_rows "copied_rows" = true)
    (k_copied_rows : PySem.W.keepIn K (.ref f_copied_rows) = true)
    {od_are_letters an_are_letters : Option Addr} {sl_are_letters : Array (Option Value)} {oc_are_letters kV_are_letters dc_are_letters pm_are_letters cd_are_letters ct_are_letters : Value}
    (a_are_letters : PySem.W.nsIn K mainGlobals "are_letters" = some (some (.ref f_are_letters)))
    (l_are_letters : K.lookup f_are_letters = some ⟨oc_are_letters, od_are_letters, .func (PySem.W.fnOf "are_letters" "are_letters" (defArgs s_are_letters) (defBody s_are_letters) (defScope s_are_letters) .none kV_are_letters dc_are_letters pm_are_letters an_are_letters cd_are_letters ct_are_letters), sl_are_letters⟩)
    (c_are_letters : PySem.W.codeIn K cd_are_letters "are_letters" = true)
    (k_are_letters : PySem.W.keepIn K (.ref f_are_letters) = true)
    {od_law_pen an_law_pen : Option Addr} {sl_law_pen : Array (Option Value)} {oc_law_pen kV_law_pen dc_law_pen pm_law_pen cd_law_pen ct_law_pen : Value}
    (a_law_pen : PySem.W.nsIn K mainGlobals "_law_pen" = some (some (.ref f_law_pen)))
    (l_law_pen : K.lookup f_law_pen = some ⟨oc_law_pen, od_law_pen, .func (PySem.W.fnOf "_law_pen" "_law_pen" (defArgs s_law_pen) (defBody s_law_pen) (defScope s_law_pen) .none kV_law_pen dc_law_pen pm_law_pen an_law_pen cd_law_pen ct_law_pen), sl_law_pen⟩)
    (c_law_pen : PySem.W.codeIn K cd_law_pen "_law_pen" = true)
    (k_law_pen : PySem.W.keepIn K (.ref f_law_pen) = true)
    {od_law_draw an_law_draw : Option Addr} {sl_law_draw : Array (Option Value)} {oc_law_draw kV_law_draw dc_law_draw pm_law_draw cd_law_draw ct_law_draw : Value}
    (a_law_draw : PySem.W.nsIn K mainGlobals "_law_draw" = some (some (.ref f_law_draw)))
    (l_law_draw : K.lookup f_law_draw = some ⟨oc_law_draw, od_law_draw, .func (PySem.W.fnOf "_law_draw" "_law_draw" (defArgs s_law_draw) (defBody s_law_draw) (defScope s_law_draw) .none kV_law_draw dc_law_draw pm_law_draw an_law_draw cd_law_draw ct_law_draw), sl_law_draw⟩)
    (c_law_draw : PySem.W.codeIn K cd_law_draw "_law_draw" = true)
    (k_law_draw : PySem.W.keepIn K (.ref f_law_draw) = true)
    {od_law_pick an_law_pick : Option Addr} {sl_law_pick : Array (Option Value)} {oc_law_pick kV_law_pick dc_law_pick pm_law_pick cd_law_pick ct_law_pick : Value}
    (a_law_pick : PySem.W.nsIn K mainGlobals "_law_pick" = some (some (.ref f_law_pick)))
    (l_law_pick : K.lookup f_law_pick = some ⟨oc_law_pick, od_law_pick, .func (PySem.W.fnOf "_law_pick" "_law_pick" (defArgs s_law_pick) (defBody s_law_pick) (defScope s_law_pick) .none kV_law_pick dc_law_pick pm_law_pick an_law_pick cd_law_pick ct_law_pick), sl_law_pick⟩)
    (c_law_pick : PySem.W.codeIn K cd_law_pick "_law_pick" = true)
    (k_law_pick : PySem.W.keepIn K (.ref f_law_pick) = true)
    {od_law_shuffled an_law_shuffled : Option Addr} {sl_law_shuffled : Array (Option Value)} {oc_law_shuffled kV_law_shuffled dc_law_shuffled pm_law_shuffled cd_law_shuffled ct_law_shuffled : Value}
    (a_law_shuffled : PySem.W.nsIn K mainGlobals "_law_shuffled" = some (some (.ref f_law_shuffled)))
    (l_law_shuffled : K.lookup f_law_shuffled = some ⟨oc_law_shuffled, od_law_shuffled, .func (PySem.W.fnOf "_law_shuffled" "_law_shuffled" (defArgs s_law_shuffled) (defBody s_law_shuffled) (defScope s_law_shuffled) .none kV_law_shuffled dc_law_shuffled pm_law_shuffled an_law_shuffled cd_law_shuffled ct_law_shuffled), sl_law_shuffled⟩)
    (c_law_shuffled : PySem.W.codeIn K cd_law_shuffled "_law_shuffled" = true)
    (k_law_shuffled : PySem.W.keepIn K (.ref f_law_shuffled) = true)
    {od_law_letters an_law_letters : Option Addr} {sl_law_letters : Array (Option Value)} {oc_law_letters kV_law_letters dc_law_letters pm_law_letters cd_law_letters ct_law_letters : Value}
    (a_law_letters : PySem.W.nsIn K mainGlobals "_law_letters" = some (some (.ref f_law_letters)))
    (l_law_letters : K.lookup f_law_letters = some ⟨oc_law_letters, od_law_letters, .func (PySem.W.fnOf "_law_letters" "_law_letters" (defArgs s_law_letters) (defBody s_law_letters) (defScope s_law_letters) .none kV_law_letters dc_law_letters pm_law_letters an_law_letters cd_law_letters ct_law_letters), sl_law_letters⟩)
    (c_law_letters : PySem.W.codeIn K cd_law_letters "_law_letters" = true)
    (k_law_letters : PySem.W.keepIn K (.ref f_law_letters) = true)
    {od_law_table an_law_table : Option Addr} {sl_law_table : Array (Option Value)} {oc_law_table kV_law_table dc_law_table pm_law_table cd_law_table ct_law_table : Value}
    (a_law_table : PySem.W.nsIn K mainGlobals "_law_table" = some (some (.ref f_law_table)))
    (l_law_table : K.lookup f_law_table = some ⟨oc_law_table, od_law_table, .func (PySem.W.fnOf "_law_table" "_law_table" (defArgs s_law_table) (defBody s_law_table) (defScope s_law_table) .none kV_law_table dc_law_table pm_law_table an_law_table cd_law_table ct_law_table), sl_law_table⟩)
    (c_law_table : PySem.W.codeIn K cd_law_table "_law_table" = true)
    (k_law_table : PySem.W.keepIn K (.ref f_law_table) = true)
    {od_law_odd an_law_odd : Option Addr} {sl_law_odd : Array (Option Value)} {oc_law_odd kV_law_odd dc_law_odd pm_law_odd cd_law_odd ct_law_odd : Value}
    (a_law_odd : PySem.W.nsIn K mainGlobals "_law_odd" = some (some (.ref f_law_odd)))
    (l_law_odd : K.lookup f_law_odd = some ⟨oc_law_odd, od_law_odd, .func (PySem.W.fnOf "_law_odd" "_law_odd" (defArgs s_law_odd) (defBody s_law_odd) (defScope s_law_odd) .none kV_law_odd dc_law_odd pm_law_odd an_law_odd cd_law_odd ct_law_odd), sl_law_odd⟩)
    (c_law_odd : PySem.W.codeIn K cd_law_odd "_law_odd" = true)
    (k_law_odd : PySem.W.keepIn K (.ref f_law_odd) = true)
    {od_law_is_letters an_law_is_letters : Option Addr} {sl_law_is_letters : Array (Option Value)} {oc_law_is_letters kV_law_is_letters dc_law_is_letters pm_law_is_letters cd_law_is_letters ct_law_is_letters : Value}
    (a_law_is_letters : PySem.W.nsIn K mainGlobals "_law_is_letters" = some (some (.ref f_law_is_letters)))
    (l_law_is_letters : K.lookup f_law_is_letters = some ⟨oc_law_is_letters, od_law_is_letters, .func (PySem.W.fnOf "_law_is_letters" "_law_is_letters" (defArgs s_law_is_letters) (defBody s_law_is_letters) (defScope s_law_is_letters) .none kV_law_is_letters dc_law_is_letters pm_law_is_letters an_law_is_letters cd_law_is_letters ct_law_is_letters), sl_law_is_letters⟩)
    (c_law_is_letters : PySem.W.codeIn K cd_law_is_letters "_law_is_letters" = true)
    (k_law_is_letters : PySem.W.keepIn K (.ref f_law_is_letters) = true)
    {od_law_row_right an_law_row_right : Option Addr} {sl_law_row_right : Array (Option Value)} {oc_law_row_right kV_law_row_right dc_law_row_right pm_law_row_right cd_law_row_right ct_law_row_right : Value}
    (a_law_row_right : PySem.W.nsIn K mainGlobals "_law_row_right" = some (some (.ref f_law_row_right)))
    (l_law_row_right : K.lookup f_law_row_right = some ⟨oc_law_row_right, od_law_row_right, .func (PySem.W.fnOf "_law_row_right" "_law_row_right" (defArgs s_law_row_right) (defBody s_law_row_right) (defScope s_law_row_right) .none kV_law_row_right dc_law_row_right pm_law_row_right an_law_row_right cd_law_row_right ct_law_row_right), sl_law_row_right⟩)
    (c_law_row_right : PySem.W.codeIn K cd_law_row_right "_law_row_right" = true)
    (k_law_row_right : PySem.W.keepIn K (.ref f_law_row_right) = true)
    {od_law_caught an_law_caught : Option Addr} {sl_law_caught : Array (Option Value)} {oc_law_caught kV_law_caught dc_law_caught pm_law_caught cd_law_caught ct_law_caught : Value}
    (a_law_caught : PySem.W.nsIn K mainGlobals "_law_caught" = some (some (.ref f_law_caught)))
    (l_law_caught : K.lookup f_law_caught = some ⟨oc_law_caught, od_law_caught, .func (PySem.W.fnOf "_law_caught" "_law_caught" (defArgs s_law_caught) (defBody s_law_caught) (defScope s_law_caught) .none kV_law_caught dc_law_caught pm_law_caught an_law_caught cd_law_caught ct_law_caught), sl_law_caught⟩)
    (c_law_caught : PySem.W.codeIn K cd_law_caught "_law_caught" = true)
    (k_law_caught : PySem.W.keepIn K (.ref f_law_caught) = true)
    {od_law_due an_law_due : Option Addr} {sl_law_due : Array (Option Value)} {oc_law_due kV_law_due dc_law_due pm_law_due cd_law_due ct_law_due : Value}
    (a_law_due : PySem.W.nsIn K mainGlobals "_law_due" = some (some (.ref f_law_due)))
    (l_law_due : K.lookup f_law_due = some ⟨oc_law_due, od_law_due, .func (PySem.W.fnOf "_law_due" "_law_due" (defArgs s_law_due) (defBody s_law_due) (defScope s_law_due) .none kV_law_due dc_law_due pm_law_due an_law_due cd_law_due ct_law_due), sl_law_due⟩)
    (c_law_due : PySem.W.codeIn K cd_law_due "_law_due" = true)
    (k_law_due : PySem.W.keepIn K (.ref f_law_due) = true)
    {od_law_spoilt an_law_spoilt : Option Addr} {sl_law_spoilt : Array (Option Value)} {oc_law_spoilt kV_law_spoilt dc_law_spoilt pm_law_spoilt cd_law_spoilt ct_law_spoilt : Value}
    (a_law_spoilt : PySem.W.nsIn K mainGlobals "_law_spoilt" = some (some (.ref f_law_spoilt)))
    (l_law_spoilt : K.lookup f_law_spoilt = some ⟨oc_law_spoilt, od_law_spoilt, .func (PySem.W.fnOf "_law_spoilt" "_law_spoilt" (defArgs s_law_spoilt) (defBody s_law_spoilt) (defScope s_law_spoilt) .none kV_law_spoilt dc_law_spoilt pm_law_spoilt an_law_spoilt cd_law_spoilt ct_law_spoilt), sl_law_spoilt⟩)
    (c_law_spoilt : PySem.W.codeIn K cd_law_spoilt "_law_spoilt" = true)
    (k_law_spoilt : PySem.W.keepIn K (.ref f_law_spoilt) = true)
    {od_law an_law : Option Addr} {sl_law : Array (Option Value)} {oc_law kV_law dc_law pm_law cd_law ct_law : Value}
    (a_law : PySem.W.nsIn K mainGlobals "law" = some (some (.ref f_law)))
    (l_law : K.lookup f_law = some ⟨oc_law, od_law, .func (PySem.W.fnOf "law" "law" (defArgs s_law) (defBody s_law) (defScope s_law) .none kV_law dc_law pm_law an_law cd_law ct_law), sl_law⟩)
    (c_law : PySem.W.codeIn K cd_law "law" = true)
    (k_law : PySem.W.keepIn K (.ref f_law) = true)
    {od_InvalidMachine an_InvalidMachine : Option Addr} {sl_InvalidMachine : Array (Option Value)} {oc_InvalidMachine kV_InvalidMachine dc_InvalidMachine pm_InvalidMachine cd_InvalidMachine ct_InvalidMachine : Value}
    (a_InvalidMachine : PySem.W.nsIn K mainGlobals "InvalidMachine" = some (some (.ref C_InvalidMachine)))
    (x_InvalidMachine : PySem.W.excInitIn K C_InvalidMachine mroV "ValueError.__new__" = true)
    (w_InvalidMachine : PySem.W.excOver K C_InvalidMachine mroV = true)
    (s_InvalidMachine : PySem.W.findIn K (.ref C_InvalidMachine) "__setattr__" = some (some (.builtin "object.__setattr__")))
    (q_InvalidMachine : PySem.W.keepIn K (.ref C_InvalidMachine) = true)
    (hg_InvalidMachine : PySem.W.findIn K (.ref C_InvalidMachine) "__getattribute__" = some (some (.builtin "BaseException.__getattribute__")))
    (hk_InvalidMachine : PySem.W.findIn K (.ref C_InvalidMachine) "__getattr__" = some none)
    (hs_InvalidMachine : PySem.W.subIn K (.ref C_InvalidMachine) (.type "BaseException") = some true)
    (hd_InvalidMachine : PySem.W.hasDictIn K C_InvalidMachine = true)
    (ha_InvalidMachine : PySem.W.findIn K (.ref C_InvalidMachine) "__class__" = some (some (.builtin "object.__class__")))
    (hm_InvalidMachine : PySem.W.mroIn K C_InvalidMachine (.type "object") = some true)
    (ty_InvalidMachine : PySem.W.typeIn K (.ref C_InvalidMachine) = some (.type "type"))
    (n_InvalidMachine : PySem.W.findIn K (.ref C_InvalidMachine) "state" = some none)
    (i_InvalidMachine' : PySem.W.findIn K (.ref C_InvalidMachine) "__init__" = some (some (.ref i_InvalidMachine)))
    (t_InvalidMachine : PySem.W.typeIn K (.ref i_InvalidMachine) = some (.type "function"))
    (l_InvalidMachine : K.lookup i_InvalidMachine = some ⟨oc_InvalidMachine, od_InvalidMachine, .func (PySem.W.fnOf "__init__" "InvalidMachine.__init__" (defArgs s_InvalidMachine___init) (defBody s_InvalidMachine___init) (defScope s_InvalidMachine___init) .none kV_InvalidMachine dc_InvalidMachine pm_InvalidMachine an_InvalidMachine cd_InvalidMachine ct_InvalidMachine), sl_InvalidMachine⟩)
    (c_InvalidMachine : PySem.W.codeIn K cd_InvalidMachine "InvalidMachine.__init__" = true)
    (k_InvalidMachine : PySem.W.keepIn K (.ref i_InvalidMachine) = true)
    {od_TooLarge an_TooLarge : Option Addr} {sl_TooLarge : Array (Option Value)} {oc_TooLarge kV_TooLarge dc_TooLarge pm_TooLarge cd_TooLarge ct_TooLarge : Value}
    (a_TooLarge : PySem.W.nsIn K mainGlobals "TooLarge" = some (some (.ref C_TooLarge)))
    (x_TooLarge : PySem.W.excInitIn K C_TooLarge mroA "ArithmeticError.__new__" = true)
    (w_TooLarge : PySem.W.excOver K C_TooLarge mroA = true)
    (s_TooLarge : PySem.W.findIn K (.ref C_TooLarge) "__setattr__" = some (some (.builtin "object.__setattr__")))
    (q_TooLarge : PySem.W.keepIn K (.ref C_TooLarge) = true)
    (hg_TooLarge : PySem.W.findIn K (.ref C_TooLarge) "__getattribute__" = some (some (.builtin "BaseException.__getattribute__")))
    (hk_TooLarge : PySem.W.findIn K (.ref C_TooLarge) "__getattr__" = some none)
    (hs_TooLarge : PySem.W.subIn K (.ref C_TooLarge) (.type "BaseException") = some true)
    (hd_TooLarge : PySem.W.hasDictIn K C_TooLarge = true)
    (ha_TooLarge : PySem.W.findIn K (.ref C_TooLarge) "__class__" = some (some (.builtin "object.__class__")))
    (hm_TooLarge : PySem.W.mroIn K C_TooLarge (.type "object") = some true)
    (ty_TooLarge : PySem.W.typeIn K (.ref C_TooLarge) = some (.type "type"))
    (n_TooLarge : PySem.W.findIn K (.ref C_TooLarge) "limit" = some none)
    (i_TooLarge' : PySem.W.findIn K (.ref C_TooLarge) "__init__" = some (some (.ref i_TooLarge)))
    (t_TooLarge : PySem.W.typeIn K (.ref i_TooLarge) = some (.type "function"))
    (l_TooLarge : K.lookup i_TooLarge = some ⟨oc_TooLarge, od_TooLarge, .func (PySem.W.fnOf "__init__" "TooLarge.__init__" (defArgs s_TooLarge___init) (defBody s_TooLarge___init) (defScope s_TooLarge___init) .none kV_TooLarge dc_TooLarge pm_TooLarge an_TooLarge cd_TooLarge ct_TooLarge), sl_TooLarge⟩)
    (c_TooLarge : PySem.W.codeIn K cd_TooLarge "TooLarge.__init__" = true)
    (k_TooLarge : PySem.W.keepIn K (.ref i_TooLarge) = true)
    (a_InvalidLetters : PySem.W.nsIn K mainGlobals "InvalidLetters" = some (some (.ref C_InvalidLetters)))
    (x_InvalidLetters : PySem.W.excIn K C_InvalidLetters mroV "ValueError.__new__" = true)
    (hg_InvalidLetters : PySem.W.findIn K (.ref C_InvalidLetters) "__getattribute__" = some (some (.builtin "BaseException.__getattribute__")))
    (hk_InvalidLetters : PySem.W.findIn K (.ref C_InvalidLetters) "__getattr__" = some none)
    (hs_InvalidLetters : PySem.W.subIn K (.ref C_InvalidLetters) (.type "BaseException") = some true)
    (hd_InvalidLetters : PySem.W.hasDictIn K C_InvalidLetters = true)
    (ha_InvalidLetters : PySem.W.findIn K (.ref C_InvalidLetters) "__class__" = some (some (.builtin "object.__class__")))
    (hm_InvalidLetters : PySem.W.mroIn K C_InvalidLetters (.type "object") = some true)
    (ty_InvalidLetters : PySem.W.typeIn K (.ref C_InvalidLetters) = some (.type "type"))
    (k_InvalidLetters : PySem.W.keepIn K (.ref C_InvalidLetters) = true)
    {od_Machine an_Machine : Option Addr} {sl_Machine : Array (Option Value)} {oc_Machine kV_Machine dc_Machine pm_Machine cd_Machine ct_Machine : Value}
    (a_Machine : PySem.W.nsIn K mainGlobals "Machine" = some (some (.ref C_Machine)))
    (mk_Machine : PySem.W.makesIn K C_Machine = true)
    (kp_Machine : PySem.W.keepIn K (.ref C_Machine) = true)
    (pg_Machine : PySem.W.plainGet K C_Machine Str.empty = true)
    (hd_Machine : PySem.W.hasDictIn K C_Machine = true)
    (po_Machine : PySem.W.plainOver K C_Machine = true)
    (sa_Machine : PySem.W.findIn K (.ref C_Machine) "__setattr__" = some (some (.builtin "object.__setattr__")))
    (n0_Machine : PySem.W.findIn K (.ref C_Machine) "_letters" = some none)
    (n1_Machine : PySem.W.findIn K (.ref C_Machine) "_transitions" = some none)
    (n2_Machine : PySem.W.findIn K (.ref C_Machine) "_marks" = some none)
    (i_Machine' : PySem.W.findIn K (.ref C_Machine) "__init__" = some (some (.ref i_Machine)))
    (t_Machine : PySem.W.typeIn K (.ref i_Machine) = some (.type "function"))
    (l_Machine : K.lookup i_Machine = some ⟨oc_Machine, od_Machine, .func (PySem.W.fnOf "__init__" "Machine.__init__" (defArgs s_Machine___init) (defBody s_Machine___init) (defScope s_Machine___init) .none kV_Machine dc_Machine pm_Machine an_Machine cd_Machine ct_Machine), sl_Machine⟩)
    (c_Machine : PySem.W.codeIn K cd_Machine "Machine.__init__" = true)
    (k_Machine : PySem.W.keepIn K (.ref i_Machine) = true)
    (fn_Machine : PySem.W.isFn K (.ref i_Machine) = true)
    (spec : PySem.W.specialIn K (.builtin "object.__class__") "__get__" = some (some (.builtin "getset_descriptor.__get__")))
    (take : PySem.W.takesIn K (.builtin "object.__class__") = some true)
    (sLL : PySem.W.subIn K (.ref C_InvalidLetters) (.ref C_InvalidLetters) = some true)
    (sPL : PySem.W.subIn K (.ref C_InvalidMachine) (.ref C_InvalidLetters) = some false)
    (sPP : PySem.W.subIn K (.ref C_InvalidMachine) (.ref C_InvalidMachine) = some true)
    (sTL : PySem.W.subIn K (.ref C_TooLarge) (.ref C_InvalidLetters) = some false)
    (sTP : PySem.W.subIn K (.ref C_TooLarge) (.ref C_InvalidMachine) = some false)
    (sTT : PySem.W.subIn K (.ref C_TooLarge) (.ref C_TooLarge) = some true)
    (kT : PySem.W.kitOne K (.ref C_TooLarge) (.type "ArithmeticError") = some true)
    (kL : PySem.W.kitOne K (.ref C_InvalidLetters) (.type "ValueError") = some true)
    (kP : PySem.W.kitOne K (.ref C_InvalidMachine) (.type "ValueError") = some true)
    (z_list : PySem.W.nsIn K mainGlobals "list" = some none)
    (z_len : PySem.W.nsIn K mainGlobals "len" = some none)
    (z_abs : PySem.W.nsIn K mainGlobals "abs" = some none)
    (z_range : PySem.W.nsIn K mainGlobals "range" = some none)
    (z_sorted : PySem.W.nsIn K mainGlobals "sorted" = some none)
    (z_repr : PySem.W.nsIn K mainGlobals "repr" = some none)
    (z_isinstance : PySem.W.nsIn K mainGlobals "isinstance" = some none)
    (z_tuple : PySem.W.nsIn K mainGlobals "tuple" = some none)
    (z_str : PySem.W.nsIn K mainGlobals "str" = some none)
    (z_int : PySem.W.nsIn K mainGlobals "int" = some none)
    (z_bool : PySem.W.nsIn K mainGlobals "bool" = some none)
    (z_all : PySem.W.nsIn K mainGlobals "all" = some none)
    (z_any : PySem.W.nsIn K mainGlobals "any" = some none)
    (z_enumerate : PySem.W.nsIn K mainGlobals "enumerate" = some none)
    (z_dict : PySem.W.nsIn K mainGlobals "dict" = some none)
    (z_set : PySem.W.nsIn K mainGlobals "set" = some none)
    (z_max : PySem.W.nsIn K mainGlobals "max" = some none)
    (z_min : PySem.W.nsIn K mainGlobals "min" = some none)
    (z_ValueError : PySem.W.nsIn K mainGlobals "ValueError" = some none)
    (z_KeyError : PySem.W.nsIn K mainGlobals "KeyError" = some none)
    (z_IndexError : PySem.W.nsIn K mainGlobals "IndexError" = some none)
    (z_ArithmeticError : PySem.W.nsIn K mainGlobals "ArithmeticError" = some none)
    (z_LookupError : PySem.W.nsIn K mainGlobals "LookupError" = some none)
    {tk_MOST_LETTERS : Tok}
    (g_MOST_LETTERS : PySem.W.nsIn K mainGlobals "MOST_LETTERS" = some (some (.int 4 tk_MOST_LETTERS)))
    {tk_STATES : Tok}
    (g_STATES : PySem.W.nsIn K mainGlobals "STATES" = some (some (.int 600 tk_STATES)))
    : ∃ fd : FuncData, (∀ (t : Shared) (v : Value), BindsTo t fd ⟨[v], []⟩ [("script", v)]) ∧ ∀ base : Heap, K.In base → base.Ns mainGlobals mg → Mods base → FnG l.prog w K mg base CX0 8 fa fd ["script"] (spLaw K) := by
  have e := hfa.symm.trans (PySem.W.mg_of X G a_law)
  cases e
  have Z_list := PySem.W.mg_none_of X G z_list
  have Z_len := PySem.W.mg_none_of X G z_len
  have Z_abs := PySem.W.mg_none_of X G z_abs
  have Z_range := PySem.W.mg_none_of X G z_range
  have Z_sorted := PySem.W.mg_none_of X G z_sorted
  have Z_repr := PySem.W.mg_none_of X G z_repr
  have Z_isinstance := PySem.W.mg_none_of X G z_isinstance
  have Z_tuple := PySem.W.mg_none_of X G z_tuple
  have Z_str := PySem.W.mg_none_of X G z_str
  have Z_int := PySem.W.mg_none_of X G z_int
  have Z_bool := PySem.W.mg_none_of X G z_bool
  have Z_all := PySem.W.mg_none_of X G z_all
  have Z_any := PySem.W.mg_none_of X G z_any
  have Z_enumerate := PySem.W.mg_none_of X G z_enumerate
  have Z_dict := PySem.W.mg_none_of X G z_dict
  have Z_set := PySem.W.mg_none_of X G z_set
  have Z_max := PySem.W.mg_none_of X G z_max
  have Z_min := PySem.W.mg_none_of X G z_min
  have Z_ValueError := PySem.W.mg_none_of X G z_ValueError
  have Z_KeyError := PySem.W.mg_none_of X G z_KeyError
  have Z_IndexError := PySem.W.mg_none_of X G z_IndexError
  have Z_ArithmeticError := PySem.W.mg_none_of X G z_ArithmeticError
  have Z_LookupError := PySem.W.mg_none_of X G z_LookupError
  have T0 : Txt K mg := { z_list := Z_list, z_len := Z_len, z_abs := Z_abs, z_range := Z_range, z_sorted := Z_sorted, z_repr := Z_repr, z_isinstance := Z_isinstance, z_tuple := Z_tuple, z_str := Z_str, z_int := Z_int, z_bool := Z_bool, z_all := Z_all, z_any := Z_any, z_enumerate := Z_enumerate, z_dict := Z_dict, z_set := Z_set, z_max := Z_max, z_min := Z_min, z_ValueError := Z_ValueError, z_KeyError := Z_KeyError, z_IndexError := Z_IndexError, z_ArithmeticError := Z_ArithmeticError, z_LookupError := Z_LookupError }
  have T : TxtM K mg := ⟨⟨T0, ⟨_, PySem.W.mg_of X G g_MOST_LETTERS⟩⟩, ⟨_, PySem.W.mg_of X G g_STATES⟩⟩
  have F_is_number := fun_mk (st := s_is_number) l_is_number c_is_number k_is_number
  have b_is_number := F_is_number.binds (ps := ["value"]) fun _ _ _ _ _ _ us hl => match us, hl with | [_], _ => rfl
  have F_is_sequence := fun_mk (st := s_is_sequence) l_is_sequence c_is_sequence k_is_sequence
  have b_is_sequence := F_is_sequence.binds (ps := ["value"]) fun _ _ _ _ _ _ us hl => match us, hl with | [_], _ => rfl
  have F_is_mark := fun_mk (st := s_is_mark) l_is_mark c_is_mark k_is_mark
  have b_is_mark := F_is_mark.binds (ps := ["value"]) fun _ _ _ _ _ _ us hl => match us, hl with | [_], _ => rfl
  have F_is_table := fun_mk (st := s_is_table) l_is_table c_is_table k_is_table
  have b_is_table := F_is_table.binds (ps := ["rows", "marks"]) fun _ _ _ _ _ _ us hl => match us, hl with | [_, _], _ => rfl
  have F_is_target := fun_mk (st := s_is_target) l_is_target c_is_target k_is_target
  have b_is_target := F_is_target.binds (ps := ["value", "size"]) fun _ _ _ _ _ _ us hl => match us, hl with | [_, _], _ => rfl
  have F_is_row := fun_mk (st := s_is_row) l_is_row c_is_row k_is_row
  have b_is_row := F_is_row.binds (ps := ["row", "width", "size"]) fun _ _ _ _ _ _ us hl => match us, hl with | [_, _, _], _ => rfl
  have F_first_wrong_row := fun_mk (st := s_first_wrong_row) l_first_wrong_row c_first_wrong_row k_first_wrong_row
  have b_first_wrong_row := F_first_wrong_row.binds (ps := ["letters", "rows", "marks"]) fun _ _ _ _ _ _ us hl => match us, hl with | [_, _, _], _ => rfl
  have F_copied_rows := fun_mk (st := s_copied_rows) l_copied_rows c_copied_rows k_copied_rows
  have b_copied_rows := F_copied_rows.binds (ps := ["rows"]) fun _ _ _ _ _ _ us hl => match us, hl with | [_], _ => rfl
  have F_are_letters := fun_mk (st := s_are_letters) l_are_letters c_are_letters k_are_letters
  have b_are_letters := F_are_letters.binds (ps := ["value"]) fun _ _ _ _ _ _ us hl => match us, hl with | [_], _ => rfl
  have F_law_pen := fun_mk (st := s_law_pen) l_law_pen c_law_pen k_law_pen
  have b_law_pen := F_law_pen.binds (ps := ["script"]) fun _ _ _ _ _ _ us hl => match us, hl with | [_], _ => rfl
  have F_law_draw := fun_mk (st := s_law_draw) l_law_draw c_law_draw k_law_draw
  have b_law_draw := F_law_draw.binds (ps := ["pen", "many"]) fun _ _ _ _ _ _ us hl => match us, hl with | [_, _], _ => rfl
  have F_law_pick := fun_mk (st := s_law_pick) l_law_pick c_law_pick k_law_pick
  have b_law_pick := F_law_pick.binds (ps := ["pen", "some"]) fun _ _ _ _ _ _ us hl => match us, hl with | [_, _], _ => rfl
  have F_law_shuffled := fun_mk (st := s_law_shuffled) l_law_shuffled c_law_shuffled k_law_shuffled
  have b_law_shuffled := F_law_shuffled.binds (ps := ["pen", "some"]) fun _ _ _ _ _ _ us hl => match us, hl with | [_, _], _ => rfl
  have F_law_letters := fun_mk (st := s_law_letters) l_law_letters c_law_letters k_law_letters
  have b_law_letters := F_law_letters.binds (ps := ["pen", "most"]) fun _ _ _ _ _ _ us hl => match us, hl with | [_, _], _ => rfl
  have F_law_table := fun_mk (st := s_law_table) l_law_table c_law_table k_law_table
  have b_law_table := F_law_table.binds (ps := ["pen", "letters", "size", "is_full"]) fun _ _ _ _ _ _ us hl => match us, hl with | [_, _, _, _], _ => rfl
  have F_law_odd := fun_mk (st := s_law_odd) l_law_odd c_law_odd k_law_odd
  have b_law_odd := F_law_odd.binds (ps := ["pen"]) fun _ _ _ _ _ _ us hl => match us, hl with | [_], _ => rfl
  have F_law_is_letters := fun_mk (st := s_law_is_letters) l_law_is_letters c_law_is_letters k_law_is_letters
  have b_law_is_letters := F_law_is_letters.binds (ps := ["value"]) fun _ _ _ _ _ _ us hl => match us, hl with | [_], _ => rfl
  have F_law_row_right := fun_mk (st := s_law_row_right) l_law_row_right c_law_row_right k_law_row_right
  have b_law_row_right := F_law_row_right.binds (ps := ["letters", "row", "size"]) fun _ _ _ _ _ _ us hl => match us, hl with | [_, _, _], _ => rfl
  have F_law_caught := fun_mk (st := s_law_caught) l_law_caught c_law_caught k_law_caught
  have b_law_caught := F_law_caught.binds (ps := ["letters", "rows", "marks"]) fun _ _ _ _ _ _ us hl => match us, hl with | [_, _, _], _ => rfl
  have F_law_due := fun_mk (st := s_law_due) l_law_due c_law_due k_law_due
  have b_law_due := F_law_due.binds (ps := ["letters", "rows", "marks"]) fun _ _ _ _ _ _ us hl => match us, hl with | [_, _, _], _ => rfl
  have F_law_spoilt := fun_mk (st := s_law_spoilt) l_law_spoilt c_law_spoilt k_law_spoilt
  have b_law_spoilt := F_law_spoilt.binds (ps := ["pen", "letters", "rows", "marks"]) fun _ _ _ _ _ _ us hl => match us, hl with | [_, _, _, _], _ => rfl
  have F_law := fun_mk (st := s_law) l_law c_law k_law
  have b_law := F_law.binds (ps := ["script"]) fun _ _ _ _ _ _ us hl => match us, hl with | [_], _ => rfl
  have F_Machine := fun_mk (st := s_Machine___init) l_Machine c_Machine k_Machine
  have b_Machine := F_Machine.binds (ps := ["self", "letters", "transitions", "marks"]) fun _ _ _ _ _ _ us hl => match us, hl with | [_, _, _, _], _ => rfl
  refine ⟨PySem.W.fnOf "law" "law" (defArgs s_law) (defBody s_law) (defScope s_law) .none kV_law dc_law pm_law an_law cd_law ct_law, fun t v => .of_eq rfl, fun base _ _ MB => ?_⟩
  have N_InvalidMachine : E1 l.prog w K mg base "InvalidMachine" C_InvalidMachine "state" := ⟨⟨⟨⟨_, _, vxb_V, x_InvalidMachine, w_InvalidMachine⟩, s_InvalidMachine, q_InvalidMachine, ⟨hg_InvalidMachine, hk_InvalidMachine, hs_InvalidMachine, hd_InvalidMachine, ha_InvalidMachine, spec, take, hm_InvalidMachine⟩⟩, PySem.W.mg_of X G a_InvalidMachine, n_InvalidMachine, _, _, i_InvalidMachine', t_InvalidMachine, ok_i_InvalidMachine (fun_mk (st := s_InvalidMachine___init) l_InvalidMachine c_InvalidMachine k_InvalidMachine), fun _ _ _ => .of_eq rfl, fun _ _ _ => .of_eq rfl⟩, ty_InvalidMachine⟩
  have N_TooLarge : E1 l.prog w K mg base "TooLarge" C_TooLarge "limit" := ⟨⟨⟨⟨_, _, vxb_A, x_TooLarge, w_TooLarge⟩, s_TooLarge, q_TooLarge, ⟨hg_TooLarge, hk_TooLarge, hs_TooLarge, hd_TooLarge, ha_TooLarge, spec, take, hm_TooLarge⟩⟩, PySem.W.mg_of X G a_TooLarge, n_TooLarge, _, _, i_TooLarge', t_TooLarge, ok_i_TooLarge (fun_mk (st := s_TooLarge___init) l_TooLarge c_TooLarge k_TooLarge), fun _ _ _ => .of_eq rfl, fun _ _ _ => .of_eq rfl⟩, ty_TooLarge⟩
  have N_InvalidLetters : E0 K mg "InvalidLetters" C_InvalidLetters := ⟨⟨⟨_, _, _, _, PySem.F.excBase_ValueError, x_InvalidLetters⟩, ⟨hg_InvalidLetters, hk_InvalidLetters, hs_InvalidLetters, hd_InvalidLetters, ha_InvalidLetters, spec, take, hm_InvalidLetters⟩, k_InvalidLetters, PySem.W.mg_of X G a_InvalidLetters⟩, ty_InvalidLetters⟩
  have D_is_number : Dn l.prog w K mg base 1 "is_number" ["value"] (spAsk K isNum) := ⟨_, _, ok_is_number F_is_number T.toTxtW.toTxt, PySem.W.mg_of X G a_is_number, k_is_number, b_is_number⟩
  have D_is_sequence : Dn l.prog w K mg base 1 "is_sequence" ["value"] (spAsk K isSeq) := ⟨_, _, ok_is_sequence F_is_sequence T.toTxtW.toTxt, PySem.W.mg_of X G a_is_sequence, k_is_sequence, b_is_sequence⟩
  have D_is_mark : Dn l.prog w K mg base 1 "is_mark" ["value"] (spAsk K isMark) := ⟨_, _, ok_is_mark F_is_mark T.toTxtW.toTxt, PySem.W.mg_of X G a_is_mark, k_is_mark, b_is_mark⟩
  have D_is_table : Dn l.prog w K mg base 2 "is_table" ["rows", "marks"] (spTbl2 K) := ⟨_, _, ok_is_table F_is_table T.toTxtW.toTxt D_is_sequence, PySem.W.mg_of X G a_is_table, k_is_table, b_is_table⟩
  have D_is_target : Dn l.prog w K mg base 2 "is_target" ["value", "size"] (spTarget K) := ⟨_, _, ok_is_target F_is_target T.toTxtW.toTxt D_is_number, PySem.W.mg_of X G a_is_target, k_is_target, b_is_target⟩
  have D_is_row : Dn l.prog w K mg base 3 "is_row" ["row", "width", "size"] (spRow K) := ⟨_, _, ok_is_row F_is_row T.toTxtW.toTxt D_is_sequence D_is_target, PySem.W.mg_of X G a_is_row, k_is_row, b_is_row⟩
  have D_first_wrong_row : Dn l.prog w K mg base 4 "first_wrong_row" ["letters", "rows", "marks"] (spWrong K) := ⟨_, _, ok_first_wrong_row F_first_wrong_row T.toTxtW.toTxt D_is_row D_is_mark, PySem.W.mg_of X G a_first_wrong_row, k_first_wrong_row, b_first_wrong_row⟩
  have D_copied_rows : Dn l.prog w K mg base 1 "copied_rows" ["rows"] (spCopied K) := ⟨_, _, ok_copied_rows F_copied_rows T.toTxtW.toTxt, PySem.W.mg_of X G a_copied_rows, k_copied_rows, b_copied_rows⟩
  have D_are_letters : Dn l.prog w K mg base 1 "are_letters" ["value"] (spLtrs K) := ⟨_, _, ok_are_letters F_are_letters T.toTxtW, PySem.W.mg_of X G a_are_letters, k_are_letters, b_are_letters⟩
  have D_law_pen : Dn l.prog w K mg base 1 "_law_pen" ["script"] (spPen K) := ⟨_, _, ok_pen F_law_pen T.toTxtW.toTxt, PySem.W.mg_of X G a_law_pen, k_law_pen, b_law_pen⟩
  have D_law_draw : Dn l.prog w K mg base 1 "_law_draw" ["pen", "many"] spDraw := ⟨_, _, ok_draw F_law_draw T.toTxtW.toTxt, PySem.W.mg_of X G a_law_draw, k_law_draw, b_law_draw⟩
  have D_law_pick : Dn l.prog w K mg base 2 "_law_pick" ["pen", "some"] (spPick K) := ⟨_, _, ok_pick F_law_pick T.toTxtW.toTxt D_law_draw, PySem.W.mg_of X G a_law_pick, k_law_pick, b_law_pick⟩
  have D_law_shuffled : Dn l.prog w K mg base 2 "_law_shuffled" ["pen", "some"] (spShuffled K) := ⟨_, _, ok_shuffled F_law_shuffled T.toTxtW.toTxt D_law_draw, PySem.W.mg_of X G a_law_shuffled, k_law_shuffled, b_law_shuffled⟩
  have D_law_letters : Dn l.prog w K mg base 3 "_law_letters" ["pen", "most"] spLetters := ⟨_, _, ok_letters F_law_letters T.toTxtW.toTxt D_law_draw D_law_shuffled, PySem.W.mg_of X G a_law_letters, k_law_letters, b_law_letters⟩
  have D_law_table : Dn l.prog w K mg base 2 "_law_table" ["pen", "letters", "size", "is_full"] spTable := ⟨_, _, ok_table F_law_table T.toTxtW.toTxt D_law_draw, PySem.W.mg_of X G a_law_table, k_law_table, b_law_table⟩
  have D_law_odd : Dn l.prog w K mg base 3 "_law_odd" ["pen"] (spOdd K) := ⟨_, _, ok_odd F_law_odd T.toTxtW.toTxt D_law_pick, PySem.W.mg_of X G a_law_odd, k_law_odd, b_law_odd⟩
  have D_law_is_letters : Dn l.prog w K mg base 1 "_law_is_letters" ["value"] (spIsL K) := ⟨_, _, ok_is_letters F_law_is_letters T.toTxtW.toTxt, PySem.W.mg_of X G a_law_is_letters, k_law_is_letters, b_law_is_letters⟩
  have D_law_row_right : Dn l.prog w K mg base 1 "_law_row_right" ["letters", "row", "size"] (spRR K) := ⟨_, _, ok_row_right F_law_row_right T.toTxtW.toTxt, PySem.W.mg_of X G a_law_row_right, k_law_row_right, b_law_row_right⟩
  have D_law_spoilt : Dn l.prog w K mg base 4 "_law_spoilt" ["pen", "letters", "rows", "marks"] (spSpoilt K) := ⟨_, _, ok_spoilt F_law_spoilt T.toTxtW.toTxt D_law_draw D_law_pick D_law_odd, PySem.W.mg_of X G a_law_spoilt, k_law_spoilt, b_law_spoilt⟩
  have cl_Machine : Cls K C_Machine := ⟨pg_Machine, hd_Machine, po_Machine, sa_Machine⟩
  have M_Machine : Cn l.prog w K mg base (L2.CX l.prog w) 5 "Machine" C_Machine ["self", "letters", "transitions", "marks"] (spMac K C_InvalidLetters C_InvalidMachine C_TooLarge) := ⟨⟨_, _, ⟨mk_Machine, i_Machine', fn_Machine, kp_Machine⟩, ok_Machine_init F_Machine T D_are_letters D_is_table D_first_wrong_row D_copied_rows N_InvalidLetters N_InvalidMachine N_TooLarge, b_Machine⟩, PySem.W.mg_of X G a_Machine⟩
  have pc : McC K C_Machine := ⟨cl_Machine, n0_Machine, n1_Machine, n2_Machine⟩
  have D_law_caught : Dn l.prog w K mg base 7 "_law_caught" ["letters", "rows", "marks"] (spCau K) := ⟨_, _, ok_caught F_law_caught T.toTxtW.toTxt N_InvalidLetters N_InvalidMachine N_TooLarge M_Machine pc sLL sPL sPP sTL sTP sTT kL kP kT, PySem.W.mg_of X G a_law_caught, k_law_caught, b_law_caught⟩
  have D_law_due : DnG l.prog w K mg base 2 "_law_due" ["letters", "rows", "marks"] (spDue K) := ⟨_, _, ok_due F_law_due T.toTxtW.toTxt MB D_law_is_letters D_law_row_right, PySem.W.mg_of X G a_law_due, k_law_due, b_law_due⟩
  exact ok_law F_law T.toTxtW.toTxt MB D_law_pen D_law_draw D_law_letters D_law_table D_law_spoilt D_law_caught D_law_due
end Wf

open PySem PySem.W PyProof.Rows in
set_option maxRecDepth 100000 in
set_option maxHeartbeats 0 in
theorem PySem.Challenge.cw_wordfit_k06_invalid_machines_holds : PySem.Challenge.rw_wordfit_k06_invalid_machines.Holds := by
  w_on; o_law; k_head; (case hw => w_witness2)
  k_fill
  refine Wf.walkG (l := PySem.Challenge.rw_wordfit_k06_invalid_machines) (sp := Wf.spLaw) (n := 63) (k := 8) (x := "script") (by decide +kernel) rfl (by decide) rfl ⟨rfl, by decide, by decide⟩ (fun w h Y => PySem.W.kIn_of Y) ?F (fun K H a ns hn hs => ⟨a, ns, rfl, hs, hn, fun _ => rfl⟩)
  case F =>
    intro w mg fa h KX G hmg
    refine' Wf.all_mk KX G hmg ?a_is_number ?l_is_number ?c_is_number ?k_is_number ?a_is_sequence ?l_is_sequence ?c_is_sequence ?k_is_sequence ?a_is_mark ?l_is_mark ?c_is_mark ?k_is_mark ?a_is_table ?l_is_table ?c_is_table ?k_is_table ?a_is_target ?l_is_target ?c_is_target ?k_is_target ?a_is_row ?l_is_row ?c_is_row ?k_is_row ?a_first_wrong_row ?l_first_wrong_row ?c_first_wrong_row ?k_first_wrong_row ?a_copied_rows ?l_copied_rows ?c_copied_rows ?k_copied_rows ?a_are_letters ?l_are_letters ?c_are_letters ?k_are_letters ?a_law_pen ?l_law_pen ?c_law_pen ?k_law_pen ?a_law_draw ?l_law_draw ?c_law_draw ?k_law_draw ?a_law_pick ?l_law_pick ?c_law_pick ?k_law_pick ?a_law_shuffled ?l_law_shuffled ?c_law_shuffled ?k_law_shuffled ?a_law_letters ?l_law_letters ?c_law_letters ?k_law_letters ?a_law_table ?l_law_table ?c_law_table ?k_law_table ?a_law_odd ?l_law_odd ?c_law_odd ?k_law_odd ?a_law_is_letters ?l_law_is_letters ?c_law_is_letters ?k_law_is_letters ?a_law_row_right ?l_law_row_right ?c_law_row_right ?k_law_row_right ?a_law_caught ?l_law_caught ?c_law_caught ?k_law_caught ?a_law_due ?l_law_due ?c_law_due ?k_law_due ?a_law_spoilt ?l_law_spoilt ?c_law_spoilt ?k_law_spoilt ?a_law ?l_law ?c_law ?k_law ?a_InvalidMachine ?x_InvalidMachine ?w_InvalidMachine ?s_InvalidMachine ?q_InvalidMachine ?hg_InvalidMachine ?hk_InvalidMachine ?hs_InvalidMachine ?hd_InvalidMachine ?ha_InvalidMachine ?hm_InvalidMachine ?ty_InvalidMachine ?n_InvalidMachine ?i_InvalidMachineq ?t_InvalidMachine ?l_InvalidMachine ?c_InvalidMachine ?k_InvalidMachine ?a_TooLarge ?x_TooLarge ?w_TooLarge ?s_TooLarge ?q_TooLarge ?hg_TooLarge ?hk_TooLarge ?hs_TooLarge ?hd_TooLarge ?ha_TooLarge ?hm_TooLarge ?ty_TooLarge ?n_TooLarge ?i_TooLargeq ?t_TooLarge ?l_TooLarge ?c_TooLarge ?k_TooLarge ?a_InvalidLetters ?x_InvalidLetters ?hg_InvalidLetters ?hk_InvalidLetters ?hs_InvalidLetters ?hd_InvalidLetters ?ha_InvalidLetters ?hm_InvalidLetters ?ty_InvalidLetters ?k_InvalidLetters ?a_Machine ?mk_Machine ?kp_Machine ?pg_Machine ?hd_Machine ?po_Machine ?sa_Machine ?n0_Machine ?n1_Machine ?n2_Machine ?i_Machineq ?t_Machine ?l_Machine ?c_Machine ?k_Machine ?fn_Machine ?spec ?take ?sLL ?sPL ?sPP ?sTL ?sTP ?sTT ?kT ?kL ?kP ?z_list ?z_len ?z_abs ?z_range ?z_sorted ?z_repr ?z_isinstance ?z_tuple ?z_str ?z_int ?z_bool ?z_all ?z_any ?z_enumerate ?z_dict ?z_set ?z_max ?z_min ?z_ValueError ?z_KeyError ?z_IndexError ?z_ArithmeticError ?z_LookupError ?g_MOST_LETTERS ?g_STATES
    (case a_is_number => k_is)
    (case l_is_number => k_is)
    (case c_is_number => k_is)
    (case k_is_number => k_is)
    (case a_is_sequence => k_is)
    (case l_is_sequence => k_is)
    (case c_is_sequence => k_is)
    (case k_is_sequence => k_is)
    (case a_is_mark => k_is)
    (case l_is_mark => k_is)
    (case c_is_mark => k_is)
    (case k_is_mark => k_is)
    (case a_is_table => k_is)
    (case l_is_table => k_is)
    (case c_is_table => k_is)
    (case k_is_table => k_is)
    (case a_is_target => k_is)
    (case l_is_target => k_is)
    (case c_is_target => k_is)
    (case k_is_target => k_is)
    (case a_is_row => k_is)
    (case l_is_row => k_is)
    (case c_is_row => k_is)
    (case k_is_row => k_is)
    (case a_first_wrong_row => k_is)
    (case l_first_wrong_row => k_is)
    (case c_first_wrong_row => k_is)
    (case k_first_wrong_row => k_is)
    (case a_copied_rows => k_is)
    (case l_copied_rows => k_is)
    (case c_copied_rows => k_is)
    (case k_copied_rows => k_is)
    (case a_are_letters => k_is)
    (case l_are_letters => k_is)
    (case c_are_letters => k_is)
    (case k_are_letters => k_is)
    (case a_law_pen => k_is)
    (case l_law_pen => k_is)
    (case c_law_pen => k_is)
    (case k_law_pen => k_is)
    (case a_law_draw => k_is)
    (case l_law_draw => k_is)
    (case c_law_draw => k_is)
    (case k_law_draw => k_is)
    (case a_law_pick => k_is)
    (case l_law_pick => k_is)
    (case c_law_pick => k_is)
    (case k_law_pick => k_is)
    (case a_law_shuffled => k_is)
    (case l_law_shuffled => k_is)
    (case c_law_shuffled => k_is)
    (case k_law_shuffled => k_is)
    (case a_law_letters => k_is)
    (case l_law_letters => k_is)
    (case c_law_letters => k_is)
    (case k_law_letters => k_is)
    (case a_law_table => k_is)
    (case l_law_table => k_is)
    (case c_law_table => k_is)
    (case k_law_table => k_is)
    (case a_law_odd => k_is)
    (case l_law_odd => k_is)
    (case c_law_odd => k_is)
    (case k_law_odd => k_is)
    (case a_law_is_letters => k_is)
    (case l_law_is_letters => k_is)
    (case c_law_is_letters => k_is)
    (case k_law_is_letters => k_is)
    (case a_law_row_right => k_is)
    (case l_law_row_right => k_is)
    (case c_law_row_right => k_is)
    (case k_law_row_right => k_is)
    (case a_law_caught => k_is)
    (case l_law_caught => k_is)
    (case c_law_caught => k_is)
    (case k_law_caught => k_is)
    (case a_law_due => k_is)
    (case l_law_due => k_is)
    (case c_law_due => k_is)
    (case k_law_due => k_is)
    (case a_law_spoilt => k_is)
    (case l_law_spoilt => k_is)
    (case c_law_spoilt => k_is)
    (case k_law_spoilt => k_is)
    (case a_law => k_is)
    (case l_law => k_is)
    (case c_law => k_is)
    (case k_law => k_is)
    (case a_InvalidMachine => k_is)
    (case x_InvalidMachine => kx_is)
    (case w_InvalidMachine => kx_is)
    (case s_InvalidMachine => k_is)
    (case q_InvalidMachine => k_is)
    (case hg_InvalidMachine => k_is)
    (case hk_InvalidMachine => k_is)
    (case hs_InvalidMachine => k_is)
    (case hd_InvalidMachine => k_is)
    (case ha_InvalidMachine => k_is)
    (case hm_InvalidMachine => k_is)
    (case ty_InvalidMachine => k_is)
    (case n_InvalidMachine => k_is)
    (case i_InvalidMachineq => k_is)
    (case t_InvalidMachine => k_is)
    (case l_InvalidMachine => k_is)
    (case c_InvalidMachine => k_is)
    (case k_InvalidMachine => k_is)
    (case a_TooLarge => k_is)
    (case x_TooLarge => kx_is)
    (case w_TooLarge => kx_is)
    (case s_TooLarge => k_is)
    (case q_TooLarge => k_is)
    (case hg_TooLarge => k_is)
    (case hk_TooLarge => k_is)
    (case hs_TooLarge => k_is)
    (case hd_TooLarge => k_is)
    (case ha_TooLarge => k_is)
    (case hm_TooLarge => k_is)
    (case ty_TooLarge => k_is)
    (case n_TooLarge => k_is)
    (case i_TooLargeq => k_is)
    (case t_TooLarge => k_is)
    (case l_TooLarge => k_is)
    (case c_TooLarge => k_is)
    (case k_TooLarge => k_is)
    (case a_InvalidLetters => k_is)
    (case x_InvalidLetters => k_exc)
    (case hg_InvalidLetters => k_is)
    (case hk_InvalidLetters => k_is)
    (case hs_InvalidLetters => k_is)
    (case hd_InvalidLetters => k_is)
    (case ha_InvalidLetters => k_is)
    (case hm_InvalidLetters => k_is)
    (case ty_InvalidLetters => k_is)
    (case k_InvalidLetters => k_is)
    (case a_Machine => k_is)
    (case mk_Machine => k_is)
    (case kp_Machine => k_is)
    (case pg_Machine => k_is)
    (case hd_Machine => k_is)
    (case po_Machine => k_is)
    (case sa_Machine => k_is)
    (case n0_Machine => k_is)
    (case n1_Machine => k_is)
    (case n2_Machine => k_is)
    (case i_Machineq => k_is)
    (case t_Machine => k_is)
    (case l_Machine => k_is)
    (case c_Machine => k_is)
    (case k_Machine => k_is)
    (case fn_Machine => k_is)
    (case spec => k_is)
    (case take => k_is)
    (case sLL => k_is)
    (case sPL => k_is)
    (case sPP => k_is)
    (case sTL => k_is)
    (case sTP => k_is)
    (case sTT => k_is)
    (case kT => kit_is)
    (case kL => kit_is)
    (case kP => kit_is)
    (case z_list => k_is)
    (case z_len => k_is)
    (case z_abs => k_is)
    (case z_range => k_is)
    (case z_sorted => k_is)
    (case z_repr => k_is)
    (case z_isinstance => k_is)
    (case z_tuple => k_is)
    (case z_str => k_is)
    (case z_int => k_is)
    (case z_bool => k_is)
    (case z_all => k_is)
    (case z_any => k_is)
    (case z_enumerate => k_is)
    (case z_dict => k_is)
    (case z_set => k_is)
    (case z_max => k_is)
    (case z_min => k_is)
    (case z_ValueError => k_is)
    (case z_KeyError => k_is)
    (case z_IndexError => k_is)
    (case z_ArithmeticError => k_is)
    (case z_LookupError => k_is)
    (case g_MOST_LETTERS => k_is)
    (case g_STATES => k_is)
