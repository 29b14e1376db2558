import PyProof.Rows.All
import Wide.All
import OpenK.AllK
import Wide.FinOn
import HandS.ForMost
import KE.SortData
import KE.SortKeyHeap
import HandS.Conv
import HandS.Zip
import PySem.Challenge.RW_wordfit_k01_words_in_order
set_option Elab.async false
set_option maxRecDepth 100000
set_option maxHeartbeats 4000000
set_option linter.all false
/-! defs called where nothing is being shown (no repr is under way) -/
namespace Wf
open PySem PySem.Spec PyProof.Rows L2

/-- nothing is being shown around -/
abbrev Qt (A : Around) : Prop := A.guards = some []

/-- the promise of a def that is called where nothing is being shown -/
structure FnG (P : Program) (w : World) (K : PySem.W.Frag) (mg : Str → Option Value) (base : Heap) (CX : CXT) (k : Nat) (f : Addr) (fd : FuncData) (ps : List Str) (sp : Sp) : Prop where
  many : ∀ {vs H Q E}, sp vs H Q E → vs.length = ps.length
  goes : ∀ {A : Around} {outer : List Env} {s : Shared} {H : Hp} {args : Args} {us : List Value} {vs : List V} {Q : VK} {E : XK}, Qt A → Room k A → Env0 P w K mg base A outer s H →
    BindsTo s fd args (ps.zip us) → Vals vs us → sp vs H Q E → codeAny (model P w) A (.call (.ref f) args) (CR CX outer P w H s Q E) s
section
variable {P : Program} {w : World} {K : PySem.W.Frag} {mg : Str → Option Value} {base : Heap} {CX : CXT} {k : Nat} {f : Addr} {fd : FuncData} {ps : List Str} {sp : Sp}
theorem FnG.of (F : FnOk P w K mg base CX k f fd ps sp) : FnG P w K mg base CX k f fd ps sp :=
  ⟨fun h => F.len _ _ _ _ h, fun _ hr e0 hb r h => F.run _ _ _ _ _ _ _ _ _ hr e0 hb r h⟩
theorem FnG.up {j : Nat} (F : FnG P w K mg base CX j f fd ps sp) (h : j ≤ k) : FnG P w K mg base CX k f fd ps sp :=
  ⟨F.many, fun g hr => F.goes g (hr.mono h)⟩

/-- a def by its body, where nothing is being shown -/
theorem FnG.body {x qual : Str} {st : Stmt} {N : List Str} (F : Fun K x qual st f fd) (S : FnScope N ps (defScope st)) (many : ∀ {vs H Q E}, sp vs H Q E → vs.length = ps.length)
    (B : ∀ (cdv : Value) (A : Around) (outer : List Env) (s : Shared) (H : Hp) (vs : List V) (Q : VK) (E : XK), Qt A → Room k (A.deeper (envOfC qual (defScope st) s.heap.objs.size f cdv)) → sp vs H Q E →
      ∃ t, PSs (cxOf CX P w K mg base N qual (defScope st) f cdv A outer s H E) (defBody st) t ∧ t { nx := fun _ H' => Q .non H', rt := Q } (start N vs) H) :
    FnG P w K mg base CX (k + 1) f fd ps sp := by
  obtain ⟨oc, od, kV, doc, pm, an, cdv, ct, osl, efd, lk, hcd⟩ := F.ex
  subst efd
  refine ⟨many, ?_⟩
  intro A outer s H args us vs Q E hq hr e0 hb r hsp
  have inK : K.In s.heap := e0.mod.kin.keeps (fun b o e => And.left (e0.bs b o e))
  have noL : s.heap.NoLimit := e0.mod.nolimit.keeps (fun b o e => And.left (e0.bs b o e))
  have kinds : ∀ z, z ∈ ps.zip us → (defScope st).names.lookup z.1 = some .local ∨
      ((defScope st).names.lookup z.1 = some .cell ∧ ((cellsFrom (s.heap.objs.size + 1) (defScope st).names []).lookup z.1).isSome = true) := by
    intro z hz
    cases S.par z.1 (List.of_mem_zip hz).1 with
    | inl q => exact Or.inl q
    | inr q => exact Or.inr (And.intro q (PySem.W.cellsFrom_some _ _ _ (Or.inl q)))
  refine codeAny_call_function (Room.depth hr) (inK _ _ lk) rfl S.co S.gen rfl (PySem.W.codeRec_of inK hcd) (hb _ _ _ _ (?_))
  refine wpAny_newFunctionEnv_cells S.kind kinds (fun env he s1 x => ?_)
  subst he
  refine And.intro (noL.keeps x.toInCall.keep) (codeAny_func ?_)
  obtain ⟨t, ht, q⟩ := B cdv A outer s H vs Q E hq (Room.deeper hr _) hsp
  have J := inv_start (CX := CX) (E := E) (P := P) (w := w) (K := K) (mg := mg) (base := base) S hr.hd e0 (many hsp) r x
  refine wpAny_mono (ht.run [] s1 (start N vs) H _ J q) (fun fl s' got => ?_) (fun e s' got => got)
  cases fl with
  | next =>
    obtain ⟨σ', H', J', q'⟩ := got
    exact ⟨.non, H', J'.os, J'.bare, J'.base, J'.hok, rfl, q'⟩
  | ret u =>
    obtain ⟨v, σ', H', J', rv, q'⟩ := got
    exact ⟨v, H', J'.os, J'.bare, J'.base, J'.hok, rv, q'⟩
  | brk => exact (Exists.elim got fun _ g => Exists.elim g fun _ g' => g'.2).elim
  | cont => exact (Exists.elim got fun _ g => Exists.elim g fun _ g' => g'.2).elim
end

section
variable {X : Cx} {CX : CXT} {k : Nat} {f : Addr} {fd : FuncData} {ps : List Str} {sp : Sp} {dvs : List V} {ds : List Value} {E : XK} {x : Str} {p pos : Pos} {e : Expr} {es : List Expr} {t : TA}
theorem FnG.ran {pins : List (Addr × Obj)} {σ : L2.St} {H : Hp} {s : Shared} {Q : VK} {us : List Value} {vs : List V} (F : FnG X.prog X.w X.K X.mg X.base CX k f fd ps sp) (hq : Qt X.A) (hr : Room k X.A) (hb : Binds X.K fd ps ds) (hd : Vals dvs ds)
    (hx : Passes CX X E) (I : Inv X pins σ H s) (r : Vals vs us) (h : sp (vs ++ dvs) H Q E) : wpAny (model X.prog X.w) X.A (call (.ref f) us) (EP X pins σ Q) X.xe s := by
  have r' := Vals.append r hd
  have hl : (us ++ ds).length = ps.length := (Vals.length r').symm.trans (F.many h)
  refine wpAny_call (codeAny_mono (F.goes (us := us ++ ds) (vs := vs ++ dvs) hq hr I.env0 (hb s us I.kIn hl) r' h) (fun r s' got => ?_))
  match r, got with
  | .error e, got => exact hx pins σ H s e s' I got
  | .ok (.ret u), got => exact I.after got
  | .ok .next, got => exact got.elim
  | .ok .brk, got => exact got.elim
  | .ok .cont, got => exact got.elim
/-- f(e, ..) -/
theorem pe_callG (F : FnG X.prog X.w X.K X.mg X.base CX k f fd ps sp) (hq : Qt X.A) (hr : Room k X.A) (hg : Gl X x) (hm : X.mg x = some (.ref f)) (hk : PySem.W.keepIn X.K (.ref f) = true) (hb : Binds X.K fd ps ds) (hd : Vals dvs ds)
    (hx : Passes CX X E) (ha : PA X (e :: es) t) (hdb : (x == ("__debug__" : Str)) = false := by decide) (he : starEach (e :: es) X.env = (false, eval e X.env) :: starEach es X.env := by rfl)
    (hpl : (backTo pos (starEach es X.env)).any (·.1) = false := by rfl) : PE X (.Call (.Name x p) (e :: es) [] pos) (tCall sp dvs E t) :=
  ⟨fun pins s σ H Q I h => wpAny_Call_Name_kw (ld_glob I hg hm (PySem.W.callWith_K (h₀ := X.base) I.ok.mod.kin hk
    (thn (ha.run pos pins s σ H _ I h) fun us s1 ⟨vs, H1, I1, r, q⟩ => ⟨I1.kIn, F.ran hq hr hb hd hx I1 r q⟩) he hpl) hdb)⟩
end
end Wf
namespace Wf
open PySem PySem.Spec PyProof.Rows L2

/-! ### repr of data -/
section
variable {K : PySem.W.Frag} {H : Hp}
mutual
theorem dp_plain : ∀ {d : PyData} {v : V}, Dp K H v d → d.hasDict = false
  | .none, _, _ => rfl
  | .bool _, _, _ => rfl
  | .int _, _, _ => rfl
  | .str _, _, _ => rfl
  | .list ds, _, h => by
    cases h with
    | lst _ a => exact dpAll_plain a
  | .tuple ds, _, h => by
    cases h with
    | tup _ a => exact dpAll_plain a
  | .dict _, _, h => by cases h
theorem dpAll_plain : ∀ {ds : List PyData} {vs : List V}, DpAll K H vs ds → PyData.hasDictAll ds = false
  | [], _, _ => rfl
  | d :: ds, _, h => by
    cases h with
    | cons a b =>
      show (PyData.hasDict d || PyData.hasDictAll ds) = false
      rw [dp_plain a, dpAll_plain b]
      rfl
end
end

section
variable {X : Cx}
def rRepr (K : PySem.W.Frag) : List V → Hp → VK → Prop := fun xs H Q => ∃ v d, xs = [v] ∧ Dp K H v d ∧ d.showable = true ∧ d.depth ≤ 60 ∧ d.shown.length ≤ sizeLine ∧ Q (.str d.shown) H
theorem cr_repr (hq : Qt X.A) (hu : X.A.units + 64 < cLine) : CallR X (.builtin "repr") (rRepr X.K) := by
  intro pins s σ H xs us Q I r h
  obtain ⟨v, d, rfl, hd, sh, dp, sz, q⟩ := h
  obtain ⟨u, rfl, rx⟩ := vals1 r
  obtain ⟨as, rd⟩ := Dp.reads I d v u hd rx
  have np := dp_plain hd
  cases rd with
  | none => exact PySem.P.repr_of_none ⟨.str _, H, I.tok _, ⟨_, rfl⟩, q⟩
  | bool b => exact PySem.P.repr_of_bool ⟨.str _, H, I.tok _, ⟨_, rfl⟩, q⟩
  | int i t => exact PySem.P.repr_of_int (of_decide_eq_true sh) ⟨.str _, H, I.tok _, ⟨_, rfl⟩, q⟩
  | str x t => exact PySem.P.repr_of_str ⟨.str _, H, I.tok _, ⟨_, rfl⟩, q⟩ sz
  | list a b c e => exact repr_of_reads' (Reads.list a b c e) sh (PyData.noDict_hsm np) hq (by omega) (fun _ _ z => z) (fun h' u tk k => ⟨.str _, H, I.kept k, ⟨_, rfl⟩, q⟩) sz
  | tuple a b c e => exact repr_of_reads' (Reads.tuple a b c e) sh (PyData.noDict_hsm np) hq (by omega) (fun _ _ z => z) (fun h' u tk k => ⟨.str _, H, I.kept k, ⟨_, rfl⟩, q⟩) sz
  | dict a b c e f => cases hd
end
end Wf
namespace Wf
open PySem PySem.Spec PyProof.Rows L2 PySem.W PySem.Calls

/-! ### sorted of data, of a list or of a tuple -/
section
variable {prog : Program} {w : World} {A : Around} {E : Value → Shared → Prop} {s : Shared} {β : Type} {vs : List Value} {bs : List β} {enc : β → PyData} {R : Value → β → Prop}

/-- a list or a tuple gathered into a new list -/
theorem gather {l : Addr} {T : String} {o : Obj} {n : Nat} {Q : List Value → Shared → Prop} (hT : T = "list" ∨ T = "tuple") (ho : s.heap.get? l = some o) (hc : o.cls = .type T) (hd : o.data = .seq vs.toArray n) (hL : vs.length ≤ sizeLine)
    (h : Q vs { s with heap := (s.heap.push (seqObj "list" #[] 0)).update s.heap.objs.size (Obj.mapSeq (· ++ vs.toArray)) }) : wpAny (model prog w) A (collect (.ref l)) Q E s := by
  have at0 : (s.heap.push (seqObj "list" #[] 0)).get? s.heap.objs.size = some (seqObj "list" #[] 0) := Heap.get?_push_size _ rfl
  have last : ∀ s', s' = { s with heap := (s.heap.push (seqObj "list" #[] 0)).update s.heap.objs.size (Obj.mapSeq (· ++ vs.toArray)) } → wpAny (model prog w) A (do
      let o ← load s.heap.objs.size
      match o.data with
      | .seq xs _ => pure xs.toList
      | _ => unsupported "internal:collect") Q E s' := by
    intro s' es
    subst es
    refine wpAny_bind (wpAny_load (get?_update_seq at0 _) ?_)
    refine wpAny_pure ?_
    have e : ((#[] : Array Value) ++ vs.toArray).toList = vs := by simp
    show Q ((#[] : Array Value) ++ vs.toArray).toList _
    rw [e]
    exact h
  unfold collect
  refine wpAny_bind (wpAny_runValue (codeAny_builtin F.entry_proto_collect ?_))
  rw [Around.under_plainId F.plain_proto_collect _]
  show wpAny _ A.in1 (do again (.builtin "list.__iadd__" ⟨[← newList [], .ref l], []⟩)) _ _ _
  refine wpAny_bind (wpAny_newList ?_ (Nat.zero_le _))
  refine wpAny_pure ⟨plainId_quiet F.plain_list_iadd _, codeAny_builtin F.entry_list_iadd ?_⟩
  rw [Around.under_plainId F.plain_list_iadd _]
  refine wpAny_mono (wpAny_extend_seq (A := A) (s := { s with heap := s.heap.push (seqObj "list" #[] 0) }) (o := o) (items := vs.toArray) (n := n) (R := fun r s' => r = .ok (.ret (.ref s.heap.objs.size)) ∧ s' = { s with heap := (s.heap.push (seqObj "list" #[] 0)).update s.heap.objs.size (Obj.mapSeq (· ++ vs.toArray)) })
    s.heap.objs.size l (.ref s.heap.objs.size) 0 hT at0 (Heap.get?_push_of_some _ ho) hc hd ⟨rfl, rfl⟩ (by simpa using hL)) (fun fin s' got => ?_) (fun e s' got => ?_)
  · cases fin with
    | done f =>
      obtain ⟨ef, es⟩ := got
      cases ef
      exact last s' es
    | again c =>
      refine ⟨got.1, codeAny_mono got.2 fun r s'' hr => ?_⟩
      obtain ⟨er, es⟩ := hr
      subst er
      exact last s'' es
  · exact absurd got.1 (by simp)

theorem reads_there {h : Heap} : (∀ (d : PyData) (v : Value) (as : List Addr), Reads h v d as → ∀ a ∈ as, ∃ o, h.get? a = some o) := by
  intro d v as r
  refine Reads.rec (motive_1 := fun v d as _ => ∀ a ∈ as, ∃ o, h.get? a = some o) (motive_2 := fun v d as _ => ∀ a ∈ as, ∃ o, h.get? a = some o) ?_ ?_ ?_ ?_ ?_ ?_ ?_ ?_ ?_ r
  · intro a ha; cases ha
  · intro b a ha; cases ha
  · intro i t a ha; cases ha
  · intro x t a ha; cases ha
  · intro a o vs n xs as h1 _ _ _ ih b hb
    cases hb with
    | head => exact ⟨_, h1⟩
    | tail _ hb => exact ih b hb
  · intro a o vs n xs as _ _ _ _ ih b hb
    exact ih b hb
  · intro a o es n kvs as bs h1 _ _ _ _ i1 i2 b hb
    rcases List.mem_append.mp hb with hb | hb
    · cases hb with
      | head => exact ⟨_, h1⟩
      | tail _ hb => exact i1 b hb
    · exact i2 b hb
  · intro a ha; cases ha
  · intro v vs d ds as bs _ _ i1 i2 b hb
    rcases List.mem_append.mp hb with hb | hb
    · exact i1 b hb
    · exact i2 b hb

/-- sorted(t), t a list or a tuple -/
theorem sorted_seqd {l : Addr} {T : String} {o : Obj} {n : Nat} {Q : Value → Shared → Prop} (hT : T = "list" ∨ T = "tuple") (ho : s.heap.get? l = some o) (hc : o.cls = .type T) (hd : o.data = .seq vs.toArray n)
    (e : EachIs R vs bs) (er : EachIs (fun v b => ∃ as, Reads s.heap v (enc b) as) vs bs) (hal : AllAlike (bs.map enc)) (hk : Sortable (bs.map enc)) (hL : bs.length ≤ sizeLine)
    (hu : ∀ b, b ∈ bs → A.units + 4 + (enc b).depth < cLine)
    (h : ∀ out : List Value, EachIs R out (bs.mergeSort (dataLe false enc)) → Q (.ref (s.heap.objs.size + 1)) { s with heap := sortedHeap (copyHeap s.heap vs) (s.heap.objs.size + 1) vs out.toArray }) :
    wpAny (model prog w) A (call (.builtin "sorted") [.ref l]) Q E s := by
  have hL' : vs.length ≤ sizeLine := by rw [e.length]; exact hL
  refine call_function_entry kind_sorted plain_sorted entry_sorted (args_sorted1 _) ?_
  unfold Builtin.«sorted»
  refine wpAny_bind (m := checkCount "sorted" 1 1 _) (wpAny_pure ?_)
  refine wpAny_bind (gather hT ho hc hd hL' ?_)
  refine wpAny_bind (wpAny_newList ?_ hL')
  have hsz : ((s.heap.push (seqObj "list" #[] 0)).update s.heap.objs.size (Obj.mapSeq (· ++ vs.toArray))).objs.size = s.heap.objs.size + 1 := by
    rw [Heap.size_update, size_push']
  show wpAny _ _ _ _ _ { s with heap := copyHeap s.heap vs }
  rw [hsz]
  have at1 := copyHeap_at s.heap vs
  have er1 : EachIs (fun v b => ∃ as, Reads (copyHeap s.heap vs) v (enc b) as ∧ s.heap.objs.size + 1 ∉ as) vs bs := by
    refine EachIs.mono (R := fun v b => ∃ as, Reads s.heap v (enc b) as) (fun v b h => ?_) er
    obtain ⟨as, r⟩ := h
    refine ⟨as, PyProof.Rows.Reads.keeps (fun _ _ => copyHeap_old) r, fun ha => ?_⟩
    obtain ⟨ob, hob⟩ := reads_there _ _ _ r _ ha
    exact absurd (Heap.lt_size hob) (Nat.not_lt_of_le (Nat.le_succ _))
  refine wpAny_bind (wpAny_holding ?_)
  refine list_sort_data (A := A.in1) (s := { s with heap := copyHeap s.heap vs }) (R := R) (enc := enc) (bs := bs) (vs := vs) at1 e er1 hal hk hL ?_ ?_
  · intro b hb
    have := hu b hb
    show A.units + 1 + 1 + (enc b).depth < cLine
    omega
  · intro out hl he
    exact wpAny_pure ⟨_, rfl, h out he⟩
end
end Wf
namespace Wf
open PySem PySem.Spec PyProof.Rows L2

/-! ### sorted, by data -/
/-- things with the data that they are -/
abbrev VD := V × PyData
def leD : VD → VD → Bool := PySem.W.dataLe false (fun p : VD => p.2)
def firsts (ps : List VD) : List V := ps.map (·.1)
def rSortD (K : PySem.W.Frag) : List V → Hp → VK → Prop := fun xs H Q => ∃ (a : Addr) (ps : List VD), xs = [.ref a] ∧ (SqL K H a (firsts ps) ∨ SqT K H a (firsts ps)) ∧ (∀ p ∈ ps, Dp K H p.1 p.2) ∧
  PySem.W.AllAlike (ps.map (·.2)) ∧ PySem.W.Sortable (ps.map (·.2)) ∧ (∀ p ∈ ps, p.2.depth ≤ 20) ∧ ∀ l, H l = none → Q (.ref l) (upd H l (.lst (firsts (ps.mergeSort leD))))

theorem each_of_vals {R : Value → VD → Prop} : ∀ {ps : List VD} {us : List Value}, Vals (firsts ps) us → (∀ p ∈ ps, ∀ u, RelV p.1 u → R u p) → PySem.W.EachIs R us ps
  | [], _, r, _ => by
    cases r
    exact .nil
  | p :: ps, _, r, h => by
    cases r with
    | cons r1 r2 => exact .cons (h p List.mem_cons_self _ r1) (each_of_vals r2 fun q hq => h q (List.mem_cons_of_mem _ hq))
theorem vals_of_each : ∀ {ps : List VD} {us : List Value}, PySem.W.EachIs (fun u (p : VD) => RelV p.1 u) us ps → Vals (firsts ps) us
  | _, _, .nil => .nil
  | _, _, .cons a b => .cons a (vals_of_each b)
theorem vals_of_strs : ∀ {zs : List Str} {us : List Value}, PySem.W.EachIs (fun u (z : Str) => RelV (.str z) u) us zs → Vals (zs.map V.str) us
  | _, _, .nil => .nil
  | _, _, .cons a b => .cons a (vals_of_strs b)
theorem each_of_strs : ∀ {zs : List Str} {us : List Value}, Vals (zs.map V.str) us → PySem.W.EachIs (fun u (z : Str) => RelV (.str z) u) us zs
  | [], _, r => by
    cases r
    exact .nil
  | z :: zs, _, r => by
    cases r with
    | cons r1 r2 => exact .cons r1 (each_of_strs r2)

section
variable {X : Cx}
theorem cr_sortD (hu : X.A.units + 64 < cLine) : CallR X (.builtin "sorted") (rSortD X.K) := by
  intro pins s σ H xs us Q I r h
  obtain ⟨a, ps, rfl, hs, hdp, hal, hsb, hdd, q⟩ := h
  obtain ⟨u, rfl, rx⟩ := vals1 r
  cases rx
  have got : ∃ (its : List Value) (T : String) (o : Obj) (n : Nat), Vals (firsts ps) its ∧ (T = "list" ∨ T = "tuple") ∧ s.heap.get? a = some o ∧ o.cls = .type T ∧ o.data = .seq its.toArray n ∧ (firsts ps).length ≤ sizeLine := by
    rcases hs with hs | hs
    · obtain ⟨its, rv, pl, hz⟩ := I.list hs
      obtain ⟨o, ho, hc, n, hd⟩ := pl.isList
      exact ⟨its, "list", o, n, rv, .inl rfl, ho, hc, hd, hz⟩
    · obtain ⟨its, rv, pl, hz⟩ := I.tuple hs
      obtain ⟨o, ho, hc, n, hd⟩ := pl
      exact ⟨its, "tuple", o, n, rv, .inr rfl, ho, hc, hd, hz⟩
  obtain ⟨its, T, o, n, rv, hT, ho, hc, hd, hz⟩ := got
  have hps : ps.length ≤ sizeLine := by
    unfold firsts at hz
    rw [List.length_map] at hz
    exact hz
  refine sorted_seqd (R := fun u (p : VD) => RelV p.1 u) (enc := fun p : VD => p.2) hT ho hc hd (each_of_vals rv fun p _ u z => z) (each_of_vals rv fun p hp u z => Dp.reads I p.2 p.1 u (hdp p hp) z) hal hsb hps
    (fun b hb => by have := hdd b hb; omega) fun out he => ?_
  have rv2 := vals_of_each he
  obtain ⟨ep, hat⟩ := PyProof.Rows.sortedHeap_at (h := PySem.W.copyHeap s.heap its) (a := s.heap.objs.size + 1) (vs := its) (out := out.toArray) (PySem.W.copyHeap_at s.heap its)
  have hlen : (firsts (ps.mergeSort leD)).length ≤ sizeLine := by
    unfold firsts
    rw [List.length_map, List.length_mergeSort]
    exact hps
  have old : ∀ b ob, s.heap.get? b = some ob → (sortedHeap (PySem.W.copyHeap s.heap its) (s.heap.objs.size + 1) its out.toArray).get? b = some ob := fun b ob e => by
    have hlt := Heap.lt_size e
    have e1 := PySem.W.copyHeap_old (vs := its) e
    rw [PyProof.Rows.sortedHeap_old (Nat.ne_of_lt (Nat.lt_succ_of_lt hlt)) (Heap.lt_size e1)]
    exact e1
  exact ⟨.ref _, upd H (s.heap.objs.size + 1) (.lst (firsts (ps.mergeSort leD))), I.laid (t' := s.toks) old (Nat.le_succ _) ⟨hlen, out, ep, rv2, hat⟩, rfl, q _ (I.hok.fresh (Nat.le_succ _))⟩

/-- sorted(e, key=len), of a list of texts -/
def leLen : Str → Str → Bool := PySem.W.dataLe false (fun z : Str => PyData.int (z.length : Int))
def tSortLen (K : PySem.W.Frag) (t : TA) : TE := fun σ H Q => t σ H fun xs H1 => ∃ (a : Addr) (zs : List Str), xs = [.ref a] ∧ SqL K H1 a (zs.map V.str) ∧ (∀ z ∈ zs, z.length ≤ sizeLine) ∧ ∀ l, H1 l = none → Q (.ref l) (upd H1 l (.lst ((zs.mergeSort leLen).map V.str)))
theorem run_sortLen {pins : List (Addr × Obj)} {σ : L2.St} {H : Hp} {s : Shared} {a : Addr} {zs : List Str} {Q : VK} (I : Inv X pins σ H s) (hu : X.A.units + 64 < cLine) (hs : SqL X.K H a (zs.map V.str)) (hz : ∀ z ∈ zs, z.length ≤ sizeLine)
    (q : ∀ l, H l = none → Q (.ref l) (upd H l (.lst ((zs.mergeSort leLen).map V.str)))) : wpAny (model X.prog X.w) X.A (call (.builtin "sorted") [.ref a] [(Str.ofString "key", .builtin "len")]) (EP X pins σ Q) X.xe s := by
  obtain ⟨its, rv, pl, hzl⟩ := I.list hs
  rw [List.length_map] at hzl
  refine PySem.W.sorted_key_data (R := fun u (z : Str) => RelV (.str z) u) (b := false) (f := .builtin "len") (fun z : Str => PyData.int (z.length : Int)) pl.isList (each_of_strs rv) (PySem.W.AllAlike.of fun b b' => rfl)
    (PySem.W.Sortable.others fun b => ⟨(fun h => by cases h), (fun xs h => by cases h)⟩) hzl (fun x _ => by show X.A.units + 2 + 0 < cLine; omega) (PyProof.Rows.ksk_s1 _ _) (fun _ => PyProof.Rows.ksk_l1 _ _) (fun x => PyProof.Rows.ksk_t4 "len" x)
    (fun v x r hx h tk k => ?_) fun out c h' tk k nf hat hl he => ?_
  · obtain ⟨t, rfl⟩ := r
    have hx2 := hz x hx
    rw [sizeLine_eq] at hx2
    exact PySem.P.len_str (by omega) ⟨h, _, rfl, fun _ _ z => z, Reads.int _ _⟩
  · have rv2 := vals_of_strs he
    exact ⟨.ref _, upd H (s.heap.objs.size + 1) (.lst ((zs.mergeSort leLen).map V.str)), I.laid (t' := tk) k (Nat.le_succ _) ⟨by rw [List.length_map, List.length_mergeSort]; exact hzl, out, c, rv2, hat⟩, rfl, q _ (I.hok.fresh (Nat.le_succ _))⟩
theorem pe_sortLen {e : Expr} {t : TA} {p lp kp pos : Pos} (ha : PA X [e] t) (hu : X.A.units + 64 < cLine) (hg : Gl X "sorted") (hm : X.mg "sorted" = none) (hgl : Gl X "len") (hml : X.mg "len" = none)
    (h1 : backTo pos (starEach [e] X.env) = (false, eval e X.env) :: backTo pos (starEach [] X.env) := by rfl)
    (hall : (backToKw pos (keywordEach [⟨some "key", .Name "len" lp, kp⟩] X.env)).all (·.1.isSome) = true := by rfl) (hnone : (backToKw pos (keywordEach [⟨some "key", .Name "len" lp, kp⟩] X.env)).any (·.1.isNone) = false := by rfl)
    (hpl : (backTo pos (starEach [e] X.env)).any (·.1) = false := by rfl)
    (hks : (backToKw pos (keywordEach [⟨some "key", .Name "len" lp, kp⟩] X.env)).filterMap (·.1) = [Str.ofString "key"] := by rfl) :
    PE X (.Call (.Name "sorted" p) [e] [⟨some "key", .Name "len" lp, kp⟩] pos) (tSortLen X.K t) := by
  refine ⟨fun pins s σ H Q I h => ?_⟩
  refine wpAny_Call_Name_kw (ld_blt I hg hm (by decide +kernel : bootBuiltins "sorted" = some (.builtin "sorted")) ?_ (by decide) (by decide))
  refine PyProof.Rows.callWith_kw ?_ h1 hpl hall hnone
  refine thn (ha.run pos pins s σ H _ I h) fun us s1 got => ?_
  obtain ⟨vs, H1, I1, r, a, zs, rfl, hs, hz, q⟩ := got
  obtain ⟨u, rfl, rx⟩ := vals1 r
  cases rx
  show wpAny _ _ (evalAll [(do let v ← eval (.Name "len" lp) X.env; standAt pos; pure v)]) _ _ s1
  refine wpAny_evalAll_cons (wpAny_bind (ld_blt I1 hgl hml PySem.boot_len ?_ (by decide) (by decide)))
  refine wpAny_bind (wpAny_standAt (wpAny_pure ?_))
  refine wpAny_evalAll_nil ?_
  rw [hks]
  exact run_sortLen I1 hu hs hz q
end
end Wf
namespace Wf
open PySem PySem.Spec PyProof.Rows L2

/-! ### data -/
theorem lay_all : ∀ {ds : List PyData}, (∀ d ∈ ds, d.canLay0 = true) → PyData.canLayAll0 ds = true
  | [], _ => rfl
  | d :: ds, h => by
    show (PyData.canLay0 d && PyData.canLayAll0 ds) = true
    rw [h d List.mem_cons_self, lay_all fun x hx => h x (List.mem_cons_of_mem _ hx)]
    rfl
theorem dep_all {n : Nat} : ∀ {ds : List PyData}, (∀ d ∈ ds, d.depth ≤ n) → PyData.depthAll ds ≤ n
  | [], _ => Nat.zero_le _
  | d :: ds, h => by
    show max (PyData.depth d) (PyData.depthAll ds) ≤ n
    exact Nat.max_le.mpr ⟨h d List.mem_cons_self, dep_all fun x hx => h x (List.mem_cons_of_mem _ hx)⟩
/-- plain data: it can be laid, of small depth -/
def Pl (n : Nat) (d : PyData) : Prop := d.canLay0 = true ∧ d.depth ≤ n
theorem Pl.mono {n m : Nat} {d : PyData} (h : Pl n d) (e : n ≤ m) : Pl m d := ⟨h.1, Nat.le_trans h.2 e⟩
theorem pl_none {n : Nat} : Pl n .none := ⟨rfl, Nat.zero_le _⟩
theorem pl_bool {n : Nat} {b : Bool} : Pl n (.bool b) := ⟨rfl, Nat.zero_le _⟩
theorem pl_int {n : Nat} {i : Int} : Pl n (.int i) := ⟨rfl, Nat.zero_le _⟩
theorem pl_str {n : Nat} {x : Str} (h : PyData.strOk x = true) : Pl n (.str x) := ⟨h, Nat.zero_le _⟩
theorem pl_list {n : Nat} {ds : List PyData} (h : ∀ d ∈ ds, Pl n d) : Pl (n + 1) (.list ds) := ⟨lay_all fun d hd => (h d hd).1, Nat.succ_le_succ (dep_all fun d hd => (h d hd).2)⟩
theorem pl_tup {n : Nat} {ds : List PyData} (h : ∀ d ∈ ds, Pl n d) : Pl (n + 1) (.tuple ds) := ⟨lay_all fun d hd => (h d hd).1, Nat.succ_le_succ (dep_all fun d hd => (h d hd).2)⟩
theorem Pl.shaped {n : Nat} {d : PyData} (h : Pl n d) (e : n ≤ 64 := by decide) : SeqAt.shaped d = true := by
  show (d.canLay0 && decide (d.depth ≤ 64)) = true
  rw [h.1, decide_eq_true (Nat.le_trans h.2 e)]
  rfl
theorem eqv_nil {ds : List PyData} : PyData.eqv (.list ds) (.list []) = ds.isEmpty := by
  cases ds <;> rfl
section
variable {K : PySem.W.Frag} {H H' : Hp}
theorem dpAll_of {α : Type} {f : α → V} {g : α → PyData} : ∀ {xs : List α}, (∀ x ∈ xs, Dp K H (f x) (g x)) → DpAll K H (xs.map f) (xs.map g)
  | [], _ => .nil
  | x :: xs, h => .cons (h x List.mem_cons_self) (dpAll_of fun y hy => h y (List.mem_cons_of_mem _ hy))
theorem dpAll_ints {ns : List Int} : DpAll K H (ns.map V.int) (ns.map PyData.int) := dpAll_of fun i _ => .int i
theorem dpAll_strs {zs : List Str} : DpAll K H (zs.map V.str) (zs.map PyData.str) := dpAll_of fun z _ => .str z
theorem rd_keep {a : Addr} {u : HO} (k : ∀ o, H a = some o → H' a = some o) (h : Rd H a u) : Rd H' a u := by
  rcases h with h | ⟨o, h⟩
  · exact .inl (k _ h)
  · exact .inr ⟨o, k _ h⟩
end
/-- xs == [], xs != [] -/
theorem ints_ne {X : Cx} {H : Hp} {a l : Addr} {ns : List Int} {Q : VK} (h : SqL X.K H a (ns.map V.int)) (hl : SqL X.K H l []) (q : Q (.bl (!ns.isEmpty)) H) : rNeD X.K (.ref a) (.ref l) H Q :=
  ⟨.list (ns.map PyData.int), .list [], .lst h dpAll_ints, .lst hl .nil, (pl_list (n := 0) fun d hd => by
    obtain ⟨i, _, rfl⟩ := List.mem_map.mp hd
    exact pl_int).shaped, (pl_list (n := 0) fun d hd => by cases hd).shaped, by rw [eqv_nil]; simpa using q⟩
end Wf
namespace Wf
open PySem L2
/-! ### a def of the text, to be called by its name -/
structure Dn (P : Program) (w : World) (K : PySem.W.Frag) (mg : Str → Option Value) (base : Heap) (k : Nat) (x : Str) (ps : List Str) (sp : Sp) : Prop where
  ex : ∃ (f : Addr) (fd : FuncData), FnOk P w K mg base CX0 k f fd ps sp ∧ mg x = some (.ref f) ∧ PySem.W.keepIn K (.ref f) = true ∧ Binds K fd ps []
structure DnG (P : Program) (w : World) (K : PySem.W.Frag) (mg : Str → Option Value) (base : Heap) (k : Nat) (x : Str) (ps : List Str) (sp : Sp) : Prop where
  ex : ∃ (f : Addr) (fd : FuncData), FnG P w K mg base CX0 k f fd ps sp ∧ mg x = some (.ref f) ∧ PySem.W.keepIn K (.ref f) = true ∧ Binds K fd ps []
section
variable {X : Cx} {k : Nat} {x : Str} {ps : List Str} {sp : Sp} {p pos : Pos} {e : Expr} {es : List Expr} {t : TA}
theorem pe_cl (D : Dn X.prog X.w X.K X.mg X.base k x ps sp) (hr : Room k X.A) (ha : PA X (e :: es) t) (hg : Gl X x := by rfl) (hdb : (x == ("__debug__" : Str)) = false := by decide)
    (he : starEach (e :: es) X.env = (false, eval e X.env) :: starEach es X.env := by rfl) (hpl : (backTo pos (starEach es X.env)).any (·.1) = false := by rfl) : PE X (.Call (.Name x p) (e :: es) [] pos) (tCall sp [] E0 t) :=
  let ⟨_, _, F, hm, hk, hb⟩ := D.ex
  pe_call F hr hg hm hk hb .nil pass0 ha hdb he hpl
theorem pe_clG (D : DnG X.prog X.w X.K X.mg X.base k x ps sp) (hq : Qt X.A) (hr : Room k X.A) (ha : PA X (e :: es) t) (hg : Gl X x := by rfl) (hdb : (x == ("__debug__" : Str)) = false := by decide)
    (he : starEach (e :: es) X.env = (false, eval e X.env) :: starEach es X.env := by rfl) (hpl : (backTo pos (starEach es X.env)).any (·.1) = false := by rfl) : PE X (.Call (.Name x p) (e :: es) [] pos) (tCall sp [] E0 t) :=
  let ⟨_, _, F, hm, hk, hb⟩ := D.ex
  pe_callG F hq hr hg hm hk hb .nil pass0 ha hdb he hpl
end

/-! ### the pen -/
def penO (c : Addr) (sp mo : Int) : HO := .dK [(.inr "cells", .ref c), (.inr "spot", .int sp), (.inr "more", .int mo)]
/-- a pen at p that has drawn at most n times -/
def Pen (H : Hp) (p c : Addr) (n : Nat) : Prop := ∃ (ns : List Int) (sp mo : Int), H p = some (penO c sp mo) ∧ H c = some (.lst (ns.map V.int)) ∧ ns.length ≤ 63 ∧ 0 ≤ sp ∧ sp ≤ n ∧ 0 ≤ mo
/-- nothing but p has changed -/
def But (p : Addr) (H H' : Hp) : Prop := ∀ b o, b ≠ p → H b = some o → H' b = some o

theorem pen_c {c : Addr} {sp mo : Int} : valV [((.inr "cells" : Key), V.ref c), (.inr "spot", .int sp), (.inr "more", .int mo)] (.inr "cells") = some (.ref c) := by rfl
theorem pen_s {c : Addr} {sp mo : Int} : valV [((.inr "cells" : Key), V.ref c), (.inr "spot", .int sp), (.inr "more", .int mo)] (.inr "spot") = some (.int sp) := by rfl
theorem pen_m {c : Addr} {sp mo : Int} : valV [((.inr "cells" : Key), V.ref c), (.inr "spot", .int sp), (.inr "more", .int mo)] (.inr "more") = some (.int mo) := by rfl
theorem pen_ps {c : Addr} {sp mo z : Int} : putK [((.inr "cells" : Key), V.ref c), (.inr "spot", .int sp), (.inr "more", .int mo)] (.inr "spot") (.int z) = [((.inr "cells" : Key), V.ref c), (.inr "spot", .int z), (.inr "more", .int mo)] := by rfl
theorem pen_pm {c : Addr} {sp mo z : Int} : putK [((.inr "cells" : Key), V.ref c), (.inr "spot", .int sp), (.inr "more", .int mo)] (.inr "more") (.int z) = [((.inr "cells" : Key), V.ref c), (.inr "spot", .int sp), (.inr "more", .int z)] := by rfl
theorem getC {H : Hp} {p c : Addr} {sp mo : Int} (h : H p = some (penO c sp mo)) : DGet H p (.str "cells") (some (.ref c)) := by
  have e := DGet.k (k := .inr "cells") h
  rw [pen_c] at e
  exact e
theorem getS {H : Hp} {p c : Addr} {sp mo : Int} (h : H p = some (penO c sp mo)) : DGet H p (.str "spot") (some (.int sp)) := by
  have e := DGet.k (k := .inr "spot") h
  rw [pen_s] at e
  exact e
theorem getM {H : Hp} {p c : Addr} {sp mo : Int} (h : H p = some (penO c sp mo)) : DGet H p (.str "more") (some (.int mo)) := by
  have e := DGet.k (k := .inr "more") h
  rw [pen_m] at e
  exact e
theorem setS {H : Hp} {p c : Addr} {sp mo : Int} (z : Int) (h : H p = some (penO c sp mo)) : DPut H p (.str "spot") (.int z) (upd H p (penO c z mo)) := by
  have e := DPut.k (k := .inr "spot") (v := .int z) h (by show 3 < sizeLine; decide)
  rw [pen_ps] at e
  exact e
theorem setM {H : Hp} {p c : Addr} {sp mo : Int} (z : Int) (h : H p = some (penO c sp mo)) : DPut H p (.str "more") (.int z) (upd H p (penO c sp z)) := by
  have e := DPut.k (k := .inr "more") (v := .int z) h (by show 3 < sizeLine; decide)
  rw [pen_pm] at e
  exact e
theorem atI_in {α : Type} {xs : List α} {i : Int} (h0 : 0 ≤ i) (h1 : i < (xs.length : Int)) : ∃ y, atI xs i = some y := by
  obtain ⟨j, rfl⟩ := Int.eq_ofNat_of_zero_le h0
  exact ⟨_, atI_nat (List.getElem?_eq_getElem (by omega))⟩
theorem atI_ints {ns : List Int} {i : Int} (h0 : 0 ≤ i) (h1 : i < ((ns.map V.int).length : Int)) : ∃ z : Int, atI (ns.map V.int) i = some (.int z) := by
  obtain ⟨j, rfl⟩ := Int.eq_ofNat_of_zero_le h0
  rw [List.length_map] at h1
  exact ⟨ns[j]'(by omega), atI_nat (by rw [List.getElem?_map, List.getElem?_eq_getElem (by omega)]; rfl)⟩
theorem bnd {z m : Int} (h : 0 < m) (h2 : m < 2 ^ 64) : -(2 ^ 64) < z % m ∧ z % m < 2 ^ 64 := by
  have h3 := Int.emod_nonneg z (show m ≠ 0 by omega)
  have h4 := Int.emod_lt_of_pos z h
  omega
theorem lim {z : Int} (h : 0 ≤ z) (h2 : z < 2 ^ 64) : -(2 ^ 64) < z ∧ z < 2 ^ 64 := by omega
def spPen (K : PySem.W.Frag) : Sp := fun vs H Q _ => ∃ (a : Addr) (ns : List Int), vs = [.ref a] ∧ SqL K H a (ns.map V.int) ∧ ns.length ≤ 63 ∧ ∀ p c H', Same H H' → H p = none → Pen H' p c 0 → Q (.ref p) H'
def spDraw : Sp := fun vs H Q _ => ∃ (p c : Addr) (n : Nat) (many : Int), vs = [.ref p, .int many] ∧ Pen H p c n ∧ n ≤ 1000000 ∧ 0 < many ∧ many < 1000000 ∧
  ∀ (d : Int) (H' : Hp), 0 ≤ d → d < many → But p H H' → Pen H' p c (n + 1) → Q (.int d) H'


/-! ### data as the heap grows -/
theorem sm1 {H : Hp} {l : Addr} {o : HO} (h : H l = none) : Same H (upd H l o) := fun b u e => by
  rw [upd_ne (ne_of_none e h)]
  exact e
/-- what was not there may be written -/
theorem swr {H H' : Hp} {l : Addr} {o : HO} (s : Same H H') (h : H l = none) : Same H (upd H' l o) := fun b u e => by
  rw [upd_ne (ne_of_none e h)]
  exact s b u e
theorem But.refl (p : Addr) (H : Hp) : But p H H := fun _ _ _ h => h
theorem But.trans {p : Addr} {H H1 H2 : Hp} (a : But p H H1) (b : But p H1 H2) : But p H H2 := fun x o n h => b x o n (a x o n h)
theorem But.of {p : Addr} {H H' : Hp} (s : Same H H') : But p H H' := fun b o _ h => s b o h
theorem But.new {p l : Addr} {o : HO} {H H' : Hp} (b : But p H H') (h : H l = none) : But p H (upd H' l o) := fun x u n e => by
  rw [upd_ne (ne_of_none e h)]
  exact b x u n e
theorem But.same {p : Addr} {H H1 H2 : Hp} (a : But p H H1) (b : Same H1 H2) : But p H H2 := fun x o n h => b x o (a x o n h)
theorem Pen.at {H : Hp} {p c : Addr} {n : Nat} (h : Pen H p c n) : ∃ kvs, H p = some (.dK kvs) := let ⟨_, _, _, e, _⟩ := h; ⟨_, e⟩
/-- the pen stays where neither of its places is touched -/
theorem Pen.keep {H H' : Hp} {p c : Addr} {n : Nat} (h : Pen H p c n) (s : ∀ b o, b = p ∨ b = c → H b = some o → H' b = some o) : Pen H' p c n := let ⟨ns, sp, mo, e1, e2, r⟩ := h; ⟨ns, sp, mo, s _ _ (.inl rfl) e1, s _ _ (.inr rfl) e2, r⟩
theorem Pen.cell {H : Hp} {p c : Addr} {n : Nat} (h : Pen H p c n) : ∃ xs, H c = some (.lst xs) := let ⟨_, _, _, _, e, _⟩ := h; ⟨_, e⟩
theorem Pen.same {H H' : Hp} {p c : Addr} {n : Nat} (h : Pen H p c n) (s : Same H H') : Pen H' p c n := let ⟨ns, sp, mo, e1, e2, r⟩ := h; ⟨ns, sp, mo, s _ _ e1, s _ _ e2, r⟩
/-- a new object is none of the pen's -/
theorem Pen.off {H : Hp} {p c l : Addr} {n : Nat} (h : Pen H p c n) (hl : H l = none) : l ≠ p ∧ l ≠ c := by
  obtain ⟨kvs, e⟩ := h.at
  obtain ⟨xs, e2⟩ := h.cell
  refine ⟨fun z => ?_, fun z => ?_⟩
  · rw [z, e] at hl
    cases hl
  · rw [z, e2] at hl
    cases hl
/-- another list is written -/
theorem Pen.wr {H : Hp} {p c l : Addr} {n : Nat} {o : HO} (h : Pen H p c n) (n1 : l ≠ p) (n2 : l ≠ c) : Pen (upd H l o) p c n := h.keep fun b u hb e => by
  have : b ≠ l := by
    rcases hb with rfl | rfl
    · exact n1.symm
    · exact n2.symm
  rw [upd_ne this]
  exact e
theorem Pen.up {H : Hp} {p c : Addr} {n m : Nat} (h : Pen H p c n) (e : n ≤ m) : Pen H p c m := let ⟨ns, sp, mo, e1, e2, a1, a2, a3, a4⟩ := h; ⟨ns, sp, mo, e1, e2, a1, a2, by omega, a4⟩
/-- a fresh place is fresh before -/
theorem But.free {p l c : Addr} {n : Nat} {H H' : Hp} (b : But p H H') (hp : Pen H' p c n) (h : H' l = none) : H l = none := by
  cases q : H l with
  | none => rfl
  | some o =>
    obtain ⟨kvs, e⟩ := hp.at
    have ne : l ≠ p := fun z => by rw [z, e] at h; cases h
    rw [b l o ne q] at h
    cases h
theorem pen_ne {H : Hp} {p a c : Addr} {n : Nat} {o : HO} (hp : Pen H p c n) (h : H a = some o) (d : ∀ kvs, o ≠ .dK kvs) : a ≠ p := fun z => by
  obtain ⟨kvs, e⟩ := hp.at
  rw [z, e] at h
  exact d kvs (Option.some.inj h).symm
theorem But.sql {K : PySem.W.Frag} {H H' : Hp} {p a c : Addr} {n : Nat} {xs : List V} (b : But p H H') (hp : Pen H p c n) (h : SqL K H a xs) : SqL K H' a xs := by
  rcases h with (h | ⟨o, h⟩) | h
  · exact .inl (.inl (b _ _ (pen_ne hp h fun _ z => by cases z) h))
  · exact .inl (.inr ⟨o, b _ _ (pen_ne hp h fun _ z => by cases z) h⟩)
  · exact .inr h
theorem But.sqt {K : PySem.W.Frag} {H H' : Hp} {p a c : Addr} {n : Nat} {xs : List V} (b : But p H H') (hp : Pen H p c n) (h : SqT K H a xs) : SqT K H' a xs := by
  rcases h with (h | ⟨o, h⟩) | h
  · exact .inl (.inl (b _ _ (pen_ne hp h fun _ z => by cases z) h))
  · exact .inl (.inr ⟨o, b _ _ (pen_ne hp h fun _ z => by cases z) h⟩)
  · exact .inr h
/-- what is read stays -/
structure Stay (K : PySem.W.Frag) (H H' : Hp) : Prop where
  l : ∀ a xs, SqL K H a xs → SqL K H' a xs
  t : ∀ a xs, SqT K H a xs → SqT K H' a xs
theorem But.stay {K : PySem.W.Frag} {H H' : Hp} {p c : Addr} {n : Nat} (b : But p H H') (hp : Pen H p c n) : Stay K H H' := ⟨fun _ _ h => b.sql hp h, fun _ _ h => b.sqt hp h⟩
theorem Stay.of {K : PySem.W.Frag} {H H' : Hp} (s : Same H H') : Stay K H H' := ⟨fun a xs h => s.seq h, fun a xs h => by
  rcases h with (h | ⟨o, h⟩) | h
  · exact .inl (.inl (s _ _ h))
  · exact .inl (.inr ⟨o, s _ _ h⟩)
  · exact .inr h⟩
theorem Stay.refl {K : PySem.W.Frag} {H : Hp} : Stay K H H := ⟨fun _ _ h => h, fun _ _ h => h⟩
theorem Stay.trans {K : PySem.W.Frag} {H H1 H2 : Hp} (a : Stay K H H1) (b : Stay K H1 H2) : Stay K H H2 := ⟨fun x xs h => b.l x xs (a.l x xs h), fun x xs h => b.t x xs (a.t x xs h)⟩
mutual
theorem Stay.dp {K : PySem.W.Frag} {H H' : Hp} (s : Stay K H H') : ∀ {d : PyData} {v : V}, Dp K H v d → Dp K H' v d
  | .none, _, h => by
    cases h
    exact .non
  | .bool _, _, h => by
    cases h
    exact .bl _
  | .int _, _, h => by
    cases h
    exact .int _
  | .str _, _, h => by
    cases h
    exact .str _
  | .list ds, _, h => by
    cases h with
    | lst q a => exact .lst (s.l _ _ q) (s.dpAll a)
  | .tuple ds, _, h => by
    cases h with
    | tup q a => exact .tup (s.t _ _ q) (s.dpAll a)
  | .dict _, _, h => by cases h
theorem Stay.dpAll {K : PySem.W.Frag} {H H' : Hp} (s : Stay K H H') : ∀ {ds : List PyData} {vs : List V}, DpAll K H vs ds → DpAll K H' vs ds
  | [], _, h => by
    cases h
    exact .nil
  | d :: ds, _, h => by
    cases h with
    | cons a b => exact .cons (s.dp a) (s.dpAll b)
end
/-- things that are plain data -/
def Dat (K : PySem.W.Frag) (H : Hp) (xs : List V) : Prop := ∀ x ∈ xs, ∃ d, Dp K H x d ∧ Pl 60 d
theorem Dat.all {K : PySem.W.Frag} {H : Hp} : ∀ {xs : List V}, Dat K H xs → ∃ ds, DpAll K H xs ds ∧ ds.length = xs.length ∧ ∀ d ∈ ds, Pl 60 d
  | [], _ => ⟨[], .nil, rfl, fun d hd => by cases hd⟩
  | x :: xs, h => by
    obtain ⟨d, h1, h2⟩ := h x List.mem_cons_self
    obtain ⟨ds, h3, h4, h5⟩ := Dat.all (xs := xs) fun y hy => h y (List.mem_cons_of_mem _ hy)
    refine ⟨d :: ds, .cons h1 h3, congrArg (· + 1) h4, fun e he => ?_⟩
    rcases List.mem_cons.mp he with rfl | he
    · exact h2
    · exact h5 e he
theorem Dat.stay {K : PySem.W.Frag} {H H' : Hp} {xs : List V} (h : Dat K H xs) (s : Stay K H H') : Dat K H' xs := fun x hx => let ⟨d, a, b⟩ := h x hx; ⟨d, s.dp a, b⟩
theorem Dat.sub {K : PySem.W.Frag} {H : Hp} {xs ys : List V} (h : Dat K H xs) (s : ∀ y ∈ ys, y ∈ xs) : Dat K H ys := fun y hy => h y (s y hy)
theorem empty_iff {α β : Type} {xs : List α} {ys : List β} (h : ys.length = xs.length) : ys.isEmpty = xs.isEmpty := by
  cases xs <;> cases ys <;> simp_all
/-- xs != [] -/
theorem data_ne {X : Cx} {H : Hp} {a l : Addr} {xs : List V} {Q : VK} (h : SqL X.K H a xs) (dt : Dat X.K H xs) (hl : SqL X.K H l []) (q : Q (.bl (!xs.isEmpty)) H) : rNeD X.K (.ref a) (.ref l) H Q := by
  obtain ⟨ds, h1, h2, h3⟩ := dt.all
  refine ⟨.list ds, .list [], .lst h h1, .lst hl .nil, (pl_list h3).shaped, (pl_list (n := 0) fun d hd => by cases hd).shaped, ?_⟩
  rw [eqv_nil, empty_iff h2]
  exact q
theorem data_eq {X : Cx} {H : Hp} {a l : Addr} {xs : List V} {Q : VK} (h : SqL X.K H a xs) (dt : Dat X.K H xs) (hl : SqL X.K H l []) (q : Q (.bl xs.isEmpty) H) : rEqD X.K (.ref a) (.ref l) H Q := by
  obtain ⟨ds, h1, h2, h3⟩ := dt.all
  refine ⟨.list ds, .list [], .lst h h1, .lst hl .nil, (pl_list h3).shaped, (pl_list (n := 0) fun d hd => by cases hd).shaped, ?_⟩
  rw [eqv_nil, empty_iff h2]
  exact q
end Wf
/-! the law itself: it is called where nothing is being shown -/
namespace Wf
open PySem PySem.Spec PyProof.Rows L2
section
variable {P : Program} {w : World} {K : PySem.W.Frag} {mg : Str → Option Value} {base : Heap} {k : Nat} {f : Addr} {fd : FuncData} {ps : List Str} {sp : Sp}
/-- a def that lets no exception out -/
theorem FnG.plain {x qual : Str} {st : Stmt} {N : List Str} (F : Fun K x qual st f fd) (S : FnScope N ps (defScope st)) (many : ∀ {vs H Q E}, sp vs H Q E → vs.length = ps.length)
    (B : ∀ (cdv : Value) (A : Around) (outer : List Env) (s : Shared) (H : Hp) (vs : List V) (Q : VK) (E : XK), Qt A → Room k (A.deeper (envOfC qual (defScope st) s.heap.objs.size f cdv)) → sp vs H Q E →
      ∃ t, PSs (cxOf CX0 P w K mg base N qual (defScope st) f cdv A outer s H E).nox (defBody st) t ∧ t { nx := fun _ H' => Q .non H', rt := Q } (start N vs) H) :
    FnG P w K mg base CX0 (k + 1) f fd ps sp :=
  FnG.body F S many fun cdv A outer s H vs Q E g r h => let ⟨t, b, q⟩ := B cdv A outer s H vs Q E g r h; ⟨t, b.nox, q⟩
end
/-- an int that the module's top has written -/
theorem pe_gi {X : Cx} {x : Str} {i : Int} {pos : Pos} (h : ∃ t, X.mg x = some (.int i t)) (hg : Gl X x := by rfl) (hd : (x == ("__debug__" : Str)) = false := by decide) : PE X (.Name x pos) (tC (.int i)) :=
  let ⟨_, e⟩ := h
  pe_glob hg e ⟨_, rfl⟩ hd

/-- the one heap at the law's entry: nothing is tracked but the script, where it is not the module's own -/
def entry (K : PySem.W.Frag) (a : Addr) (o : Obj) (xs : List V) : Hp := fun b => if K.lookup a = none ∧ b = a then some (.frz o (.lst xs)) else none
theorem entry_at {K : PySem.W.Frag} {a b : Addr} {o : Obj} {xs : List V} {u : HO} (h : entry K a o xs b = some u) : K.lookup a = none ∧ b = a ∧ u = .frz o (.lst xs) := by
  unfold entry at h
  split at h
  · rename_i c
    exact ⟨c.1, c.2, (Option.some.inj h).symm⟩
  · cases h
theorem entry_no {K : PySem.W.Frag} {a b : Addr} {o : Obj} {xs : List V} (h : b ≠ a ∨ K.lookup a ≠ none) : entry K a o xs b = none := if_neg fun c => h.elim (fun n => n c.2) (fun n => n c.1)
section
variable {P : Program} {w : World} {K : PySem.W.Frag} {mg mb : Str → Option Value} {k : Nat} {fa a : Addr} {fd : FuncData} {x : Str} {sp : Sp} {s : Shared} {us : List Value} {ns : List Int}
theorem law_goes (inK : K.In s.heap) (hm : s.heap.Ns mainGlobals mg) (hb : s.heap.Ns builtinsNs mb) (hbb : ∀ y : Str, y ≠ "__name__" → mb y = bootBuiltins y) (nl : s.heap.NoLimit) (hg : s.gens = #[])
    (ha : s.heap.get? a = some { cls := .type "list", data := .seq us.toArray }) (hi : IntsAre us ns) (hn : ns.length ≤ sizeLine) (room : Room k callerA)
    (F : ∀ base : Heap, K.In base → base.Ns mainGlobals mg → FnG P w K mg base CX0 k fa fd [x] sp) (bt : ∀ (t : Shared) (u : Value), BindsTo t fd ⟨[u], []⟩ [(x, u)])
    (hsp : ∀ H : Hp, SqL K H a (ns.map V.int) → sp [.ref a] H (fun v _ => v = .bl true) fun _ _ _ => False) :
    codeAny (model P w) callerA (.call (.ref fa) ⟨[.ref a], []⟩) (fun r t => r = .ok (.ret (.bool true)) ∧ OldK s.heap t.heap ∧ t.os = s.os ∧ AllBare t.gens) s := by
  have vals := vals_ints hi
  let ob : Obj := { cls := .type "list", data := .seq us.toArray }
  let H : Hp := entry K a ob (ns.map V.int)
  have sq : SqL K H a (ns.map V.int) := by
    cases q : K.lookup a with
    | none => exact .inl (.inr ⟨ob, if_pos ⟨q, rfl⟩⟩)
    | some o =>
      have e : o = ob := Option.some.inj ((inK a o q).symm.trans ha)
      subst e
      exact .inr ⟨_, us.toArray, _, q, rfl, rfl, rfl, by rw [List.size_toArray, hi.length]; exact hn, by simpa using vals⟩
  have ok : HOk P w H s.heap := by
    intro b u q
    obtain ⟨_, rfl, rfl⟩ := entry_at q
    exact ⟨ha, by rw [List.length_map]; exact hn, us, _, vals, ha⟩
  have low : ∀ {b : Addr} {o : Obj}, s.heap.get? b = some o → H b = none → (hidT s.heap H).get? b = some o := fun q n => hidT_get q n
  have isD : ∀ {b : Addr} {m : Str → Option Value}, s.heap.Ns b m → (hidT s.heap H).Ns b m := by
    rintro b m ⟨o, es, ep, q, d, r⟩
    refine ⟨o, es, ep, low q (entry_no (.inl fun z => ?_)), d, r⟩
    rw [z, ha] at q
    cases q
    cases d
  have inB : K.In (hidT s.heap H) := fun b o q => low (inK b o q) (entry_no (by
    by_cases z : b = a
    · exact .inr fun n => by rw [← z, q] at n; cases n
    · exact .inl z))
  have lim : (hidT s.heap H).NoLimit := by
    obtain ⟨mc, l1, l2⟩ := nl
    exact ⟨mc, isD l1, l2⟩
  have env : Env0 P w K mg (hidT s.heap H) callerA [] s H :=
    { frames := rfl, mod := ⟨inB, isD hm, ⟨mb, isD hb, hbb⟩, lim⟩, bs := fun b o q => of_hidT q, bsz := Nat.le_of_eq (hidT_size _ _), funs := trivial, frf := fun b q => absurd (show b ∈ ([] : List Addr) from q) (by simp), hok := ok, bare := .of_eq hg }
  refine codeAny_mono ((F _ inB (isD hm)).goes (us := [.ref a]) (vs := [.ref a]) rfl room env (bt s (.ref a)) (.cons rfl .nil) (hsp H sq)) ?_
  intro r t got
  match r, got with
  | .error _, got => exact got.elim
  | .ok .next, got => exact got.elim
  | .ok .brk, got => exact got.elim
  | .ok .cont, got => exact got.elim
  | .ok (.ret u), got =>
    obtain ⟨v, H', os, bare, un, ok', rv, ev⟩ := got
    have ev' : v = .bl true := ev
    subst ev'
    have eu : u = Value.bool true := rv
    subst eu
    refine ⟨rfl, OldK.of_keep (fun b o q => ?_), os, bare⟩
    cases hb' : H b with
    | none => exact un.keep b o q hb' (fun z => absurd (show b ∈ ([] : List Addr) from z) (by simp)) (fun z => absurd (show b ∈ ([] : List Addr) from z) (by simp))
    | some u =>
      obtain ⟨_, eb, eu⟩ := entry_at hb'
      subst eu
      obtain ⟨g1, _⟩ := ok' b _ (un.frzs b ob _ hb')
      rw [eb] at q g1 ⊢
      rw [ha] at q
      cases q
      exact g1
/-- the goal that the word k_head leaves -/
theorem walkG {l : PySem.W.OpenLaw} {n : Nat} {q : Program} {loose : List Str} {XP : (Str → Option Value) → Heap → Prop} {YP : World → Heap → Prop} {d : DefRec} {K : Params → PySem.W.Frag} {sp : PySem.W.Frag → Sp}
    (hn : l.most = some n) (hn2 : n ≤ sizeLine) (hdf : d.params.defaults = []) (room : Room k callerA) (hY : ∀ (w : World) (h : Heap), YP w h → (K w.params).In h)
    (F : ∀ (w : World) (mg : Str → Option Value) (fa : Addr) (h : Heap), (K w.params).In h → h.Ns mainGlobals mg → mg d.name = some (.ref fa) →
      ∃ fd : FuncData, (∀ (t : Shared) (u : Value), BindsTo t fd ⟨[u], []⟩ [(x, u)]) ∧ ∀ base : Heap, (K w.params).In base → base.Ns mainGlobals mg → FnG l.prog w (K w.params) mg base CX0 k fa fd [x] (sp (K w.params)))
    (hsp : ∀ (K : PySem.W.Frag) (H : Hp) (a : Addr) (ns : List Int), ns.length ≤ n → SqL K H a (ns.map V.int) → sp K [.ref a] H (fun v _ => v = .bl true) fun _ _ _ => False) :
    PySem.W.WalkO q loose XP YP l.row.toRowW d [] (fun f vs => PySem.call f vs) :=
  Att.attach_call hn hdf fun w s₀ s₁ mg mb fa o pm cd doc a vs ns G Y ho hd hcd hmg hobj hints hlen hg =>
    let ⟨_, bt, hF⟩ := F w mg fa _ (hY w _ Y) G.T.g hmg
    law_goes (hY w _ Y) G.T.g G.T.b G.T.builtins G.T.nolimit hg hobj hints (Nat.le_trans hlen hn2) room hF bt fun H sq => hsp (K w.params) H a ns hlen sq
end
end Wf
namespace Wf
open PySem PySem.Spec PyProof.Rows L2
mutual
/-- no more signs than these are shown -/
def cost : PyData → Nat
  | .none => 5
  | .bool _ => 5
  | .int i => (PyData.int i).shown.length
  | .str x => 10 * x.length + 2
  | .list xs => costs xs + 3
  | .tuple xs => costs xs + 3
  | .dict kvs => (PyData.dict kvs).shown.length
def costs : List PyData → Nat
  | [] => 0
  | x :: xs => cost x + 2 + costs xs
end
theorem shownAll_map : ∀ xs : List PyData, PyData.shownAll xs = xs.map PyData.shown
  | [] => rfl
  | x :: xs => by
    show PyData.shown x :: PyData.shownAll xs = _
    rw [shownAll_map xs]
    rfl
mutual
theorem shown_le : ∀ d : PyData, d.canLay0 = true → d.shown.length ≤ cost d
  | .none, _ => by decide +kernel
  | .bool b, _ => by cases b <;> decide +kernel
  | .int i, _ => by
    show _ ≤ (PyData.int i).shown.length
    exact Nat.le_refl _
  | .str x, h => by
    show (reprText x).length ≤ 10 * x.length + 2
    refine StrLaws.reprText_len x fun c hc => ?_
    have h2 : x.cps.all (· < 0x110000) = true := h
    rw [← Array.all_toList, List.all_eq_true] at h2
    have := h2 c hc
    have := of_decide_eq_true this
    omega
  | .list xs, h => by
    show (listText (PyData.shownAll xs)).length ≤ costs xs + 3
    have h1 := listText_len_le (PyData.shownAll xs)
    have h2 := showns_le xs h
    omega
  | .tuple xs, h => by
    show (tupleText (PyData.shownAll xs)).length ≤ costs xs + 3
    have h1 := tupleText_len_le (PyData.shownAll xs)
    have h2 := showns_le xs h
    omega
  | .dict kvs, _ => by
    show _ ≤ (PyData.dict kvs).shown.length
    exact Nat.le_refl _
theorem showns_le : ∀ xs : List PyData, PyData.canLayAll0 xs = true → ((PyData.shownAll xs).map (·.length)).sum + 2 * (PyData.shownAll xs).length ≤ costs xs
  | [], _ => Nat.le_refl _
  | x :: xs, h => by
    have h' : (PyData.canLay0 x && PyData.canLayAll0 xs) = true := h
    have h1 := shown_le x (Bool.and_eq_true_iff.mp h').1
    have h2 := showns_le xs (Bool.and_eq_true_iff.mp h').2
    show ((PyData.shown x :: PyData.shownAll xs).map (·.length)).sum + 2 * (PyData.shown x :: PyData.shownAll xs).length ≤ cost x + 2 + costs xs
    rw [List.map_cons, List.sum_cons, List.length_cons]
    omega
end
theorem costs_le {n : Nat} : ∀ {ds : List PyData}, (∀ d ∈ ds, cost d ≤ n) → costs ds ≤ ds.length * (n + 2)
  | [], _ => Nat.zero_le _
  | d :: ds, h => by
    have h1 := h d List.mem_cons_self
    have h2 := costs_le (ds := ds) fun x hx => h x (List.mem_cons_of_mem _ hx)
    show cost d + 2 + costs ds ≤ (ds.length + 1) * (n + 2)
    rw [Nat.succ_mul]
    omega
theorem showableAll_of : ∀ {ds : List PyData}, (∀ d ∈ ds, d.showable = true) → PyData.showableAll ds = true
  | [], _ => rfl
  | d :: ds, h => by
    show (PyData.showable d && PyData.showableAll ds) = true
    rw [h d List.mem_cons_self, showableAll_of fun x hx => h x (List.mem_cons_of_mem _ hx)]
    rfl
/-- it can be shown, in so many signs -/
structure Shw (n : Nat) (d : PyData) : Prop where
  s : d.showable = true
  p : d.canLay0 = true
  dp : d.depth ≤ 60
  c : cost d ≤ n
theorem Shw.sz {n : Nat} {d : PyData} (h : Shw n d) (e : n ≤ 16777216) : d.shown.length ≤ sizeLine := by
  rw [sizeLine_eq]
  exact Nat.le_trans (shown_le d h.p) (Nat.le_trans h.c e)
theorem Shw.more {n m : Nat} {d : PyData} (h : Shw n d) (e : n ≤ m) : Shw m d := ⟨h.s, h.p, h.dp, Nat.le_trans h.c e⟩
/-- repr of what is shown -/
theorem shows {K : PySem.W.Frag} {H : Hp} {v : V} {d : PyData} {n : Nat} {Q : VK} (h : Dp K H v d) (s : Shw n d) (e : n ≤ 16777216) (q : Q (.str d.shown) H) : rRepr K [v] H Q := ⟨v, d, rfl, h, s.s, s.dp, s.sz e, q⟩
/-- words: signs that are letters, not too long -/
def Wd (m : Nat) (z : Str) : Prop := z.length ≤ m ∧ ∀ ch ∈ z.cps.toList, 97 ≤ ch ∧ ch ≤ 122
theorem Wd.ok {m : Nat} {z : Str} (h : Wd m z) : PyData.strOk z = true := by
  show z.cps.all (· < 0x110000) = true
  rw [← Array.all_toList, List.all_eq_true]
  intro ch hc
  have := h.2 ch hc
  exact decide_eq_true (by omega)
theorem shw_str {m : Nat} {z : Str} (h : Wd m z) : Shw (10 * m + 2) (.str z) := ⟨rfl, h.ok, Nat.zero_le _, by
  show 10 * z.length + 2 ≤ 10 * m + 2
  have := h.1
  omega⟩
theorem dep_map {α : Type} {f : α → PyData} {xs : List α} (h : ∀ x ∈ xs, (f x).depth ≤ 0) : PyData.depthAll (xs.map f) ≤ 0 := dep_all fun d hd => by
  obtain ⟨x, hx, rfl⟩ := List.mem_map.mp hd
  exact h x hx
theorem costs_words {m n : Nat} {zs : List Str} (h : ∀ z ∈ zs, Wd m z) (hn : zs.length ≤ n) : costs (zs.map PyData.str) ≤ n * (10 * m + 4) := by
  have h1 := costs_le (n := 10 * m + 2) (ds := zs.map PyData.str) fun d hd => by
    obtain ⟨z, hz, rfl⟩ := List.mem_map.mp hd
    exact (shw_str (h z hz)).c
  rw [List.length_map] at h1
  exact Nat.le_trans h1 (Nat.mul_le_mul_right _ hn)
theorem shw_words {m n : Nat} {zs : List Str} (h : ∀ z ∈ zs, Wd m z) (hn : zs.length ≤ n) : Shw (n * (10 * m + 4) + 3) (.list (zs.map PyData.str)) := by
  have hd : ∀ d ∈ zs.map PyData.str, ∃ z ∈ zs, d = PyData.str z := fun d hd => let ⟨z, a, b⟩ := List.mem_map.mp hd; ⟨z, a, b.symm⟩
  refine ⟨showableAll_of fun d q => ?_, lay_all fun d q => ?_, ?_, Nat.add_le_add_right (costs_words h hn) 3⟩
  · obtain ⟨z, _, rfl⟩ := hd d q
    rfl
  · obtain ⟨z, hz, rfl⟩ := hd d q
    exact (h z hz).ok
  · have := dep_map (f := PyData.str) (xs := zs) fun _ _ => Nat.le_refl 0
    show PyData.depthAll _ + 1 ≤ 60
    omega
theorem shw_wordsT {m n : Nat} {zs : List Str} (h : ∀ z ∈ zs, Wd m z) (hn : zs.length ≤ n) : Shw (n * (10 * m + 4) + 3) (.tuple (zs.map PyData.str)) :=
  let a := shw_words h hn
  ⟨a.s, a.p, a.dp, a.c⟩
end Wf
namespace Wf
open PySem L2
def top (i : Nat) : Stmt := PySem.Challenge.pw_wordfit_k01_words_in_order.main.body.getD i (.Pass ⟨0, 0, 0, 0⟩)
/-- what the top has, beside the defs -/
structure Txt (K : PySem.W.Frag) (mg : Str → Option Value) : Prop where
  z_list : mg "list" = none
  z_len : mg "len" = none
  z_abs : mg "abs" = none
  z_range : mg "range" = none
  z_sorted : mg "sorted" = none
abbrev s_law_pen : Stmt := top 14
abbrev N_law_pen : List Str := ["script"]
theorem sc_law_pen : FnScope N_law_pen ["script"] (defScope s_law_pen) := ⟨rfl, rfl, rfl, by decide +kernel, rfl, by decide +kernel, by decide +kernel⟩
abbrev s_law_draw : Stmt := top 15
abbrev N_law_draw : List Str := ["pen", "many", "digit", "spot", "cell", "mix"]
theorem sc_law_draw : FnScope N_law_draw ["pen", "many"] (defScope s_law_draw) := ⟨rfl, rfl, rfl, by decide +kernel, rfl, by decide +kernel, by decide +kernel⟩
section
variable {P : Program} {w : World} {K : PySem.W.Frag} {mg : Str → Option Value} {base : Heap}
theorem ok_pen {f : Addr} {fd : FuncData} (F : Fun K "_law_pen" "_law_pen" s_law_pen f fd) (T : Txt K mg) : FnOk P w K mg base CX0 1 f fd ["script"] (spPen K) := by
  refine F.ok sc_law_pen (fun vs H Q E h => ?_) (fun cdv A outer s H vs Q E hr h => ?_)
  · obtain ⟨a, ns, rfl, _⟩ := h
    rfl
  · obtain ⟨a, ns, rfl, hs, hl, k⟩ := h
    refine ⟨_, (pss_one (ps_ret (pe_disp (pps_cons (pe_str) (pe_callTy call_list_of (by rfl) T.z_list (by decide +kernel) (pa_cons (pe_slice sl_list (pv 0) po_none (po_some (pe_int))) pa_nil)) (pps_cons (pe_str) (pe_int) (pps_cons (pe_str) (pe_int) pps_nil))) (by rfl) (by rfl) (fun z => by cases z) (by decide)))), ?_⟩
    intro p hp
    have s0 : Same H (upd H p (.dK [])) := fun b o e => by rw [upd_ne (ne_of_none e hp)]; exact e
    refine ⟨_, rfl, _, rfl, a, _, rfl, s0.seq hs, fun c hc => ?_⟩
    have pc : p ≠ c := ne_of_none upd_same hc
    have hc0 : H c = none := by rw [upd_ne pc.symm] at hc; exact hc
    refine ⟨c, _, rfl, .inl (SqL.of upd_same), fun l hl' => ?_⟩
    have ec : cutV (ns.map V.int) none (some 63) = ns.map V.int := by
      unfold cutV
      have e1 : HT.sIx (ns.map V.int).length 0 Option.none = 0 := rfl
      have e2 : HT.sIx (ns.map V.int).length (ns.map V.int).length (some 63) = ns.length := by
        rw [List.length_map]
        have e3 := HT.sIx_nat ns.length ns.length 63
        refine Eq.trans e3 ?_
        omega
      rw [e1, e2, List.drop_zero, Nat.sub_zero]
      exact List.take_of_length_le (by rw [List.length_map]; exact Nat.le_refl _)
    rw [ec] at hl' ⊢
    have lp : l ≠ p := fun z => by
      rw [z, upd_ne pc, upd_same] at hl'
      cases hl'
    have lc : l ≠ c := fun z => by
      rw [z, upd_same] at hl'
      cases hl'
    have hl0 : H l = none := by
      rw [upd_ne lc, upd_ne lp] at hl'
      exact hl'
    refine ⟨by rw [upd_ne lp.symm, upd_ne pc, upd_same], [(.inr "cells", .ref l), (.inr "spot", .int 0), (.inr "more", .int 0)], rfl, by show 3 ≤ 15; decide, ?_⟩
    refine k p l _ (fun b o e => ?_) hp ⟨ns, 0, 0, upd_same, by rw [upd_ne lp, upd_same], hl, Int.le_refl 0, Int.le_refl 0, Int.le_refl 0⟩
    rw [upd_ne (ne_of_none e hp), upd_ne (ne_of_none e hl0), upd_ne (ne_of_none e hc0), upd_ne (ne_of_none e hp)]
    exact e
theorem ok_draw {f : Addr} {fd : FuncData} (F : Fun K "_law_draw" "_law_draw" s_law_draw f fd) (T : Txt K mg) : FnOk P w K mg base CX0 1 f fd ["pen", "many"] spDraw := by
  refine F.ok sc_law_draw (fun vs H Q E h => ?_) (fun cdv A outer s H vs Q E hr h => ?_)
  · obtain ⟨p, c, n, many, rfl, _⟩ := h
    rfl
  · obtain ⟨p, c, n, many, rfl, ⟨ns, sp, mo, hp, hc, hl, s0, s1, m0⟩, hn, g0, g1, k⟩ := h
    have hu := hu_of hr
    refine ⟨_, (pss_cons (ps_if (pt_cmpR op_gt (pe_dget hu (pv 0) (pe_str) (fun _ _ => rfl)) (pe_int) (nomark _)) (pss_cons (ps_set (i := 2) sc_law_draw.nd rfl (Or.inl rfl) (pe_op op_mod (pe_dget hu (pv 0) (pe_str) (fun _ _ => rfl)) (pv 1)))
  (pss_cons (ps_dput hu (pv 0) (pe_str) (pe_op op_fdiv (pe_dget hu (pv 0) (pe_str) (fun _ _ => rfl)) (pv 1)) rfl)
  (pss_one (ps_ret (pv 2))))) pss_nil)
  (pss_cons (ps_set (i := 3) sc_law_draw.nd rfl (Or.inl rfl) (pe_dget hu (pv 0) (pe_str) (fun _ _ => rfl)))
  (pss_cons (ps_dput hu (pv 0) (pe_str) (pe_op op_add (pv 3) (pe_int)) rfl)
  (pss_cons (ps_set (i := 4) sc_law_draw.nd rfl (Or.inl rfl) (pe_ifExp (pt_cmpR (op_neD hr.units) (pe_dget hu (pv 0) (pe_str) (fun _ _ => rfl)) (pe_lst pa_nil) (nomark _)) (pe_ix ix_list (pe_dget hu (pv 0) (pe_str) (fun _ _ => rfl)) (pe_op op_mod (pv 3) (pe_callB call_len_seq (by rfl) T.z_len PySem.boot_len (pa_cons (pe_dget hu (pv 0) (pe_str) (fun _ _ => rfl)) pa_nil))) (fun _ _ => rfl)) (pe_op op_add (pe_op op_mul (pe_int) (pv 3)) (pe_int))))
  (pss_cons (ps_if (PW.pt (pw_and (pt_cmpR op_lt (pv 3) (pe_callB call_len_seq (by rfl) T.z_len PySem.boot_len (pa_cons (pe_dget hu (pv 0) (pe_str) (fun _ _ => rfl)) pa_nil)) (nomark _)) (pw_and1 (pt_cmpR op_ge (pe_callB call_abs (by rfl) T.z_abs (by decide +kernel) (pa_cons (pv 4) pa_nil)) (pe_op op_pow (pe_int) (pe_int)) (nomark _))))) (pss_cons (ps_dput hu (pv 0) (pe_str) (pe_op op_fdiv (pe_op op_sub (pe_callB call_abs (by rfl) T.z_abs (by decide +kernel) (pa_cons (pv 4) pa_nil)) (pe_op op_pow (pe_int) (pe_int))) (pv 1)) rfl)
  (pss_one (ps_ret (pe_op op_mod (pe_op op_sub (pe_callB call_abs (by rfl) T.z_abs (by decide +kernel) (pa_cons (pv 4) pa_nil)) (pe_op op_pow (pe_int) (pe_int))) (pv 1))))) pss_nil)
  (pss_cons (ps_set (i := 5) sc_law_draw.nd rfl (Or.inl rfl) (pe_op op_mod (pe_op op_add (pe_op op_add (pe_op op_add (pe_op op_mul (pe_op op_mod (pv 4) (pe_int)) (pe_int)) (pe_op op_mul (pe_op op_mul (pe_int) (pv 3)) (pv 3))) (pe_op op_mul (pe_int) (pv 3))) (pe_int)) (pe_int)))
  (pss_cons (ps_set (i := 5) sc_law_draw.nd rfl (Or.inl rfl) (pe_op op_mod (pe_op op_add (pe_op op_add (pe_op op_add (pe_op op_mul (pv 5) (pv 5)) (pe_op op_mul (pe_int) (pv 5))) (pe_op op_mul (pe_int) (pv 3))) (pe_int)) (pe_int)))
  (pss_one (ps_ret (pe_op op_mod (pe_op op_fdiv (pe_op op_mod (pe_op op_mul (pv 5) (pe_op op_add (pv 5) (pe_int))) (pe_int)) (pe_int)) (pv 1))))))))))), ?_⟩
    have pc : c ≠ p := ne_of hc hp (by intro z; cases z)
    refine ⟨_, rfl, p, .int mo, rfl, getM hp, _, _, rfl, rfl, _, rfl, ?_⟩
    refine ite2 (fun hm => ?_) (fun hm => ?_)
    · have hm' : 0 < mo := of_decide_eq_true hm
      refine ⟨_, rfl, p, .int mo, rfl, getM hp, _, rfl, _, _, rfl, rfl, g0, ?_⟩
      refine ⟨_, rfl, p, .int mo, rfl, getM hp, _, rfl, _, _, rfl, rfl, ⟨g0, by omega⟩, _, rfl, p, _, rfl, setM _ hp, ?_⟩
      refine ⟨_, rfl, ?_⟩
      refine k _ _ (Int.emod_nonneg _ (by omega)) (Int.emod_lt_of_pos _ g0) (fun b o hb e => by rw [upd_ne hb]; exact e) ⟨ns, sp, _, upd_same, by rw [upd_ne pc]; exact hc, hl, s0, by omega, Int.ediv_nonneg m0 (by omega)⟩
    · refine ⟨_, rfl, p, .int sp, rfl, getS hp, ?_⟩
      refine ⟨_, rfl, _, _, rfl, rfl, _, rfl, p, _, rfl, setS _ hp, ?_⟩
      have hp1 : (upd H p (penO c (sp + 1) mo)) p = some (penO c (sp + 1) mo) := upd_same
      have hc1 : (upd H p (penO c (sp + 1) mo)) c = some (.lst (ns.map V.int)) := by rw [upd_ne pc]; exact hc
      generalize hH1 : upd H p (penO c (sp + 1) mo) = H1 at hp1 hc1 ⊢
      refine ⟨_, rfl, p, _, rfl, getC hp1, Nat.zero_le _, fun l hl' => ?_⟩
      have lp : p ≠ l := ne_of_none hp1 hl'
      have lc : c ≠ l := ne_of_none hc1 hl'
      have hp2 : (upd H1 l (.lst [])) p = some (penO c (sp + 1) mo) := by rw [upd_ne lp]; exact hp1
      have hc2 : (upd H1 l (.lst [])) c = some (.lst (ns.map V.int)) := by rw [upd_ne lc]; exact hc1
      have hl0 : H l = none := by
        rw [← hH1, upd_ne lp.symm] at hl'
        exact hl'
      have bt : But p H (upd H1 l (.lst [])) := fun b o hb e => by
        rw [upd_ne (ne_of_none e hl0), ← hH1, upd_ne hb]
        exact e
      refine ints_ne (SqL.of hc2) (SqL.of upd_same) ?_
      generalize upd H1 l (.lst []) = H2 at hp2 hc2 bt ⊢
      have ns0 : (ns.length : Int) = 0 ∨ 0 < (ns.length : Int) := by omega
      refine ⟨_, rfl, ?_⟩
      have bounds : ∀ z : Int, 0 ≤ z % 2147483647 ∧ z % 2147483647 < 2147483647 := fun z => ⟨Int.emod_nonneg _ (by decide), Int.emod_lt_of_pos _ (by decide)⟩
      -- what follows, whatever the cell is
      have kd : ∀ d : Int, 0 ≤ d → d < many → Q (.int d) H2 := fun d d0 d1 => k d H2 d0 d1 bt ⟨ns, sp + 1, mo, hp2, hc2, hl, by omega, by omega, m0⟩
      have km : ∀ d mo' : Int, 0 ≤ d → d < many → 0 ≤ mo' → Q (.int d) (upd H2 p (penO c (sp + 1) mo')) := fun d mo' d0 d1 m1 => k d _ d0 d1 (fun b o hb e => by rw [upd_ne hb]; exact bt b o hb e)
        ⟨ns, sp + 1, mo', upd_same, by rw [upd_ne pc]; exact hc2, hl, by omega, by omega, m1⟩
      cases hns : ns.isEmpty with
      | true =>
        refine iteF ?_
        refine ⟨_, rfl, _, _, rfl, rfl, .inl ⟨by decide, by decide⟩, _, _, rfl, rfl, ?_⟩
        refine ⟨_, rfl, _, rfl, p, _, rfl, getC hp2, c, _, rfl, .inl (SqL.of hc2), _, _, rfl, rfl, _, rfl, ?_⟩
        refine ite2 (fun _ => ?_) (fun _ => ?_)
        · refine ⟨_, rfl, _, rfl, _, _, rfl, rfl, ⟨by decide, by decide, by decide⟩, _, _, rfl, rfl, _, rfl, ?_⟩
          refine ite2 (fun hbig => ?_) (fun _ => ?_)
          · have hbig' := of_decide_eq_true hbig
            refine ⟨_, rfl, _, rfl, _, _, rfl, rfl, ⟨by decide, by decide, by decide⟩, _, _, rfl, rfl, _, rfl, _, _, rfl, rfl, ⟨g0, by omega⟩, _, rfl, p, _, rfl, setM _ hp2, ?_⟩
            refine ⟨_, rfl, _, rfl, _, _, rfl, rfl, ⟨by decide, by decide, by decide⟩, _, _, rfl, rfl, _, rfl, _, _, rfl, rfl, g0, ?_⟩
            exact km _ _ (Int.emod_nonneg _ (by omega)) (Int.emod_lt_of_pos _ g0) (Int.ediv_nonneg (Int.sub_nonneg_of_le hbig') (by omega))
          · refine ⟨_, rfl, _, _, rfl, rfl, (by decide : (0 : Int) < 2147483647), _, _, rfl, rfl, .inl (bnd (by decide) (by decide)), _, rfl, _, _, rfl, rfl, .inl ⟨by decide, by decide⟩, _, rfl, _, _, rfl, rfl, .inl (lim (by omega) (by omega)), _, _, rfl, rfl, _, rfl, _, _, rfl, rfl, .inl ⟨by decide, by decide⟩, _, _, rfl, rfl, _, _, rfl, rfl, _, _, rfl, rfl, (by decide : (0 : Int) < 2147483629), ?_⟩
            refine ⟨_, rfl, _, rfl, _, _, rfl, rfl, .inl (bnd (by decide) (by decide)), _, rfl, _, _, rfl, rfl, .inl ⟨by decide, by decide⟩, _, _, rfl, rfl, _, rfl, _, _, rfl, rfl, .inl ⟨by decide, by decide⟩, _, _, rfl, rfl, _, _, rfl, rfl, _, _, rfl, rfl, (by decide : (0 : Int) < 2147483587), ?_⟩
            refine ⟨_, rfl, _, rfl, _, _, rfl, rfl, _, _, rfl, rfl, .inl (bnd (by decide) (by decide)), _, _, rfl, rfl, (by decide : (0 : Int) < 2147483579), _, _, rfl, rfl, ⟨by decide, by decide⟩, _, rfl, _, _, rfl, rfl, g0, ?_⟩
            exact kd _ (Int.emod_nonneg _ (by omega)) (Int.emod_lt_of_pos _ g0)
        · refine iteF ?_
          refine ⟨_, rfl, _, _, rfl, rfl, (by decide : (0 : Int) < 2147483647), _, _, rfl, rfl, .inl (bnd (by decide) (by decide)), _, rfl, _, _, rfl, rfl, .inl ⟨by decide, by decide⟩, _, rfl, _, _, rfl, rfl, .inl (lim (by omega) (by omega)), _, _, rfl, rfl, _, rfl, _, _, rfl, rfl, .inl ⟨by decide, by decide⟩, _, _, rfl, rfl, _, _, rfl, rfl, _, _, rfl, rfl, (by decide : (0 : Int) < 2147483629), ?_⟩
          refine ⟨_, rfl, _, rfl, _, _, rfl, rfl, .inl (bnd (by decide) (by decide)), _, rfl, _, _, rfl, rfl, .inl ⟨by decide, by decide⟩, _, _, rfl, rfl, _, rfl, _, _, rfl, rfl, .inl ⟨by decide, by decide⟩, _, _, rfl, rfl, _, _, rfl, rfl, _, _, rfl, rfl, (by decide : (0 : Int) < 2147483587), ?_⟩
          refine ⟨_, rfl, _, rfl, _, _, rfl, rfl, _, _, rfl, rfl, .inl (bnd (by decide) (by decide)), _, _, rfl, rfl, (by decide : (0 : Int) < 2147483579), _, _, rfl, rfl, ⟨by decide, by decide⟩, _, rfl, _, _, rfl, rfl, g0, ?_⟩
          exact kd _ (Int.emod_nonneg _ (by omega)) (Int.emod_lt_of_pos _ g0)
      | false =>
        refine iteT ?_
        have ne0 : ns ≠ [] := fun z => by rw [z] at hns; cases hns
        have lpos : 0 < ns.length := List.length_pos_iff.mpr ne0
        have lpos' : (0 : Int) < ((ns.map V.int).length : Int) := by rw [List.length_map]; omega
        obtain ⟨cell, hcell⟩ := atI_ints (ns := ns) (Int.emod_nonneg sp (by omega)) (Int.emod_lt_of_pos sp lpos')
        refine ⟨_, rfl, p, _, rfl, getC hp2, _, rfl, ⟨_, rfl, p, _, rfl, getC hp2, c, _, rfl, .inl (SqL.of hc2), _, _, rfl, rfl, lpos', c, _, _, _, rfl, rfl, SqL.of hc2, hcell, ?_⟩⟩
        refine ⟨_, rfl, _, rfl, p, _, rfl, getC hp2, c, _, rfl, .inl (SqL.of hc2), _, _, rfl, rfl, _, rfl, ?_⟩
        refine ite2 (fun _ => ?_) (fun _ => ?_)
        · refine ⟨_, rfl, _, rfl, _, _, rfl, rfl, ⟨by decide, by decide, by decide⟩, _, _, rfl, rfl, _, rfl, ?_⟩
          refine ite2 (fun hbig => ?_) (fun _ => ?_)
          · have hbig' := of_decide_eq_true hbig
            refine ⟨_, rfl, _, rfl, _, _, rfl, rfl, ⟨by decide, by decide, by decide⟩, _, _, rfl, rfl, _, rfl, _, _, rfl, rfl, ⟨g0, by omega⟩, _, rfl, p, _, rfl, setM _ hp2, ?_⟩
            refine ⟨_, rfl, _, rfl, _, _, rfl, rfl, ⟨by decide, by decide, by decide⟩, _, _, rfl, rfl, _, rfl, _, _, rfl, rfl, g0, ?_⟩
            exact km _ _ (Int.emod_nonneg _ (by omega)) (Int.emod_lt_of_pos _ g0) (Int.ediv_nonneg (Int.sub_nonneg_of_le hbig') (by omega))
          · refine ⟨_, rfl, _, _, rfl, rfl, (by decide : (0 : Int) < 2147483647), _, _, rfl, rfl, .inl (bnd (by decide) (by decide)), _, rfl, _, _, rfl, rfl, .inl ⟨by decide, by decide⟩, _, rfl, _, _, rfl, rfl, .inl (lim (by omega) (by omega)), _, _, rfl, rfl, _, rfl, _, _, rfl, rfl, .inl ⟨by decide, by decide⟩, _, _, rfl, rfl, _, _, rfl, rfl, _, _, rfl, rfl, (by decide : (0 : Int) < 2147483629), ?_⟩
            refine ⟨_, rfl, _, rfl, _, _, rfl, rfl, .inl (bnd (by decide) (by decide)), _, rfl, _, _, rfl, rfl, .inl ⟨by decide, by decide⟩, _, _, rfl, rfl, _, rfl, _, _, rfl, rfl, .inl ⟨by decide, by decide⟩, _, _, rfl, rfl, _, _, rfl, rfl, _, _, rfl, rfl, (by decide : (0 : Int) < 2147483587), ?_⟩
            refine ⟨_, rfl, _, rfl, _, _, rfl, rfl, _, _, rfl, rfl, .inl (bnd (by decide) (by decide)), _, _, rfl, rfl, (by decide : (0 : Int) < 2147483579), _, _, rfl, rfl, ⟨by decide, by decide⟩, _, rfl, _, _, rfl, rfl, g0, ?_⟩
            exact kd _ (Int.emod_nonneg _ (by omega)) (Int.emod_lt_of_pos _ g0)
        · refine iteF ?_
          refine ⟨_, rfl, _, _, rfl, rfl, (by decide : (0 : Int) < 2147483647), _, _, rfl, rfl, .inl (bnd (by decide) (by decide)), _, rfl, _, _, rfl, rfl, .inl ⟨by decide, by decide⟩, _, rfl, _, _, rfl, rfl, .inl (lim (by omega) (by omega)), _, _, rfl, rfl, _, rfl, _, _, rfl, rfl, .inl ⟨by decide, by decide⟩, _, _, rfl, rfl, _, _, rfl, rfl, _, _, rfl, rfl, (by decide : (0 : Int) < 2147483629), ?_⟩
          refine ⟨_, rfl, _, rfl, _, _, rfl, rfl, .inl (bnd (by decide) (by decide)), _, rfl, _, _, rfl, rfl, .inl ⟨by decide, by decide⟩, _, _, rfl, rfl, _, rfl, _, _, rfl, rfl, .inl ⟨by decide, by decide⟩, _, _, rfl, rfl, _, _, rfl, rfl, _, _, rfl, rfl, (by decide : (0 : Int) < 2147483587), ?_⟩
          refine ⟨_, rfl, _, rfl, _, _, rfl, rfl, _, _, rfl, rfl, .inl (bnd (by decide) (by decide)), _, _, rfl, rfl, (by decide : (0 : Int) < 2147483579), _, _, rfl, rfl, ⟨by decide, by decide⟩, _, rfl, _, _, rfl, rfl, g0, ?_⟩
          exact kd _ (Int.emod_nonneg _ (by omega)) (Int.emod_lt_of_pos _ g0)
end
end Wf
namespace Wf
open PySem L2
abbrev s_law_pick : Stmt := top 16
abbrev N_law_pick : List Str := ["pen", "some"]
theorem sc_law_pick : FnScope N_law_pick ["pen", "some"] (defScope s_law_pick) := ⟨rfl, rfl, rfl, by decide +kernel, rfl, by decide +kernel, by decide +kernel⟩
abbrev s_law_shuffled : Stmt := top 17
abbrev N_law_shuffled : List Str := ["pen", "some", "rest", "found"]
theorem sc_law_shuffled : FnScope N_law_shuffled ["pen", "some"] (defScope s_law_shuffled) := ⟨rfl, rfl, rfl, by decide +kernel, rfl, by decide +kernel, by decide +kernel⟩
def spPick (K : PySem.W.Frag) : Sp := fun vs H Q _ => ∃ (p c : Addr) (n : Nat), Pen H p c n ∧ n < 1000000 ∧
  ((∃ (a : Addr) (xs : List V), vs = [.ref p, .ref a] ∧ (SqL K H a xs ∨ SqT K H a xs) ∧ 0 < xs.length ∧ xs.length < 1000000 ∧ ∀ (x : V) (H' : Hp), x ∈ xs → But p H H' → Pen H' p c (n + 1) → Q x H') ∨
   (∃ z : Str, vs = [.ref p, .str z] ∧ 0 < z.length ∧ z.length < 1000000 ∧ ∀ (ch : Nat) (H' : Hp), ch ∈ z.cps.toList → But p H H' → Pen H' p c (n + 1) → Q (.str ⟨#[ch]⟩) H'))
def spShuffled (K : PySem.W.Frag) : Sp := fun vs H Q _ => ∃ (p c a : Addr) (n : Nat) (xs : List V), vs = [.ref p, .ref a] ∧ Pen H p c n ∧ (SqL K H a xs ∨ SqT K H a xs) ∧ xs.length ≤ 10000 ∧ n + xs.length < 1000000 ∧ Dat K H xs ∧
  ∀ (l : Addr) (ys : List V) (H' : Hp), But p H H' → Pen H' p c (n + xs.length) → H l = none → H' l = some (.lst ys) → ys.Perm xs → Q (.ref l) H'
theorem atI_mem {α : Type} {xs : List α} {i : Int} {y : α} (h : atI xs i = some y) : y ∈ xs := by
  unfold atI at h
  obtain ⟨j, _, hj⟩ := Option.bind_eq_some_iff.mp h
  exact List.mem_of_getElem? hj
theorem seqIx {j n : Nat} (h : j < n) : seqIndex? (j : Int) n = some j := by
  have e : ixN n (j : Int) = some j := by
    unfold ixN
    rw [if_pos (by omega), if_pos (by omega)]
    simp
  exact (ixN_seq e).1
theorem take_out {α : Type} : ∀ {xs : List α} {j : Nat} (h : j < xs.length), (xs[j] :: xs.eraseIdx j).Perm xs
  | x :: xs, 0, _ => List.Perm.refl _
  | x :: xs, j + 1, h => by
    have e := take_out (xs := xs) (j := j) (Nat.lt_of_succ_lt_succ h)
    exact (List.Perm.swap x _ _).trans (List.Perm.cons x e)
section
variable {P : Program} {w : World} {K : PySem.W.Frag} {mg : Str → Option Value} {base : Heap}
theorem ok_pick {f : Addr} {fd : FuncData} (F : Fun K "_law_pick" "_law_pick" s_law_pick f fd) (T : Txt K mg) (D_law_draw : Dn P w K mg base 1 "_law_draw" ["pen", "many"] spDraw) : FnOk P w K mg base CX0 2 f fd ["pen", "some"] (spPick K) := by
  refine F.ok sc_law_pick (fun vs H Q E h => ?_) (fun cdv A outer s H vs Q E hr h => ?_)
  · obtain ⟨p, c, n, _, _, ⟨a, xs, rfl, _⟩ | ⟨z, rfl, _⟩⟩ := h <;> rfl
  · refine ⟨_, (pss_one (ps_ret (pe_ix ix_seq (pv 1) (pe_cl D_law_draw (hr.mono (by decide)) (pa_cons (pv 0) (pa_cons (pe_callB call_len (by rfl) T.z_len PySem.boot_len (pa_cons (pv 1) pa_nil)) pa_nil))) (fun _ _ => rfl)))), ?_⟩
    obtain ⟨p, c, n, hp, hn, ⟨a, xs, rfl, hs, l0, l1, k⟩ | ⟨z, rfl, l0, l1, k⟩⟩ := h
    · have hlen : LenV K (.ref a) H xs.length := hs.elim (fun h => .inl ⟨xs, h, rfl⟩) (fun h => .inr ⟨xs, h, rfl⟩)
      refine ⟨_, rfl, _, rfl, _, rfl, _, _, rfl, hlen, p, c, n, _, rfl, hp, by omega, by omega, by omega, fun d H' d0 d1 bt hp' => ?_⟩
      obtain ⟨y, hy⟩ := atI_in d0 d1
      rcases hs with hs | hs
      · exact .inl ⟨a, xs, d, y, rfl, rfl, bt.sql hp hs, hy, k y H' (atI_mem hy) bt hp'⟩
      · exact .inr (.inl ⟨a, xs, d, y, rfl, rfl, bt.sqt hp hs, hy, k y H' (atI_mem hy) bt hp'⟩)
    · have hz : z.length ≤ sizeLine := by rw [sizeLine_eq]; omega
      refine ⟨_, rfl, _, rfl, _, rfl, _, _, rfl, ⟨hz, rfl⟩, p, c, n, _, rfl, hp, by omega, by omega, by omega, fun d H' d0 d1 bt hp' => ?_⟩
      obtain ⟨ch, hc⟩ := atI_in (xs := z.cps.toList) d0 (by rw [Array.length_toList]; exact d1)
      exact .inr (.inr ⟨z, d, ch, rfl, rfl, hz, hc, k ch H' (atI_mem hc) bt hp'⟩)
theorem ok_shuffled {f : Addr} {fd : FuncData} (F : Fun K "_law_shuffled" "_law_shuffled" s_law_shuffled f fd) (T : Txt K mg) (D_law_draw : Dn P w K mg base 1 "_law_draw" ["pen", "many"] spDraw) : FnOk P w K mg base CX0 2 f fd ["pen", "some"] (spShuffled K) := by
  refine F.ok sc_law_shuffled (fun vs H Q E h => ?_) (fun cdv A outer s H vs Q E hr h => ?_)
  · obtain ⟨p, c, a, n, xs, rfl, _⟩ := h
    rfl
  · refine ⟨_, (pss_cons (ps_par (i := 2) (j := 3) (by rfl) sc_law_shuffled.nd rfl rfl (by decide) rfl rfl (pa_cons (pe_callTy call_list_of (by rfl) T.z_list (by decide +kernel) (pa_cons (pv 1) pa_nil)) (pa_cons (pe_lst pa_nil) pa_nil)) (by rfl))
  (pss_cons (ps_while PassesOwn.never (pt_cmpR (op_neD hr.units) (pv 2) (pe_lst pa_nil) (nomark _)) (pss_one (ps_expr (pe_bm PySem.F.plainAttrs_list PySem.F.slot_list_append PySem.F.type_list_append mt_append (pv 3) (pa_cons (pe_bm PySem.F.plainAttrs_list PySem.F.slot_list_pop PySem.F.type_list_pop mt_popAt (pv 2) (pa_cons (pe_cl D_law_draw (hr.mono (by decide)) (pa_cons (pv 0) (pa_cons (pe_callB call_len_seq (by rfl) T.z_len PySem.boot_len (pa_cons (pv 2) pa_nil)) pa_nil))) pa_nil)) pa_nil)))))
  (pss_one (ps_ret (pv 3))))), ?_⟩
    obtain ⟨p, c, a, n, xs, rfl, hp, hs, hl, hn, hd, k⟩ := h
    refine ⟨_, rfl, a, xs, rfl, hs, fun r hr0 => ?_⟩
    refine ⟨Nat.zero_le _, fun g hg0 => ?_⟩
    refine ⟨_, _, rfl, ?_⟩
    have rg : r ≠ g := ne_of_none upd_same hg0
    have hg1 : H g = none := by rw [upd_ne rg.symm] at hg0; exact hg0
    have rp : r ≠ p := fun z => by
      obtain ⟨kvs, e⟩ := hp.at
      rw [z, e] at hr0
      cases hr0
    have gp : g ≠ p := fun z => by
      obtain ⟨kvs, e⟩ := hp.at
      rw [z, e] at hg1
      cases hg1
    have cr : c ≠ r := fun z => by
      obtain ⟨ys, e⟩ := hp.cell
      rw [z, hr0] at e
      cases e
    have cg : c ≠ g := fun z => by
      obtain ⟨ys, e⟩ := hp.cell
      rw [z, hg1] at e
      cases e
    refine while_by (fun σ H' => ∃ (rs gs : List V), σ = [some (.ref p), some (.ref a), some (.ref r), some (.ref g)] ∧ But p H H' ∧ Pen H' p c (n + gs.length) ∧ H' r = some (.lst rs) ∧ H' g = some (.lst gs) ∧ (gs ++ rs).Perm xs)
      (fun _ H' => match H' r with | some (.lst rs) => rs.length | _ => 0) ?_ ?_ ?_
    · have s2 : Same H (upd (upd H r (.lst xs)) g (.lst [])) := fun b o e => by rw [upd_ne (ne_of_none e hg1), upd_ne (ne_of_none e hr0)]; exact e
      exact ⟨xs, [], rfl, But.of s2, hp.same s2, by rw [upd_ne rg, upd_same], upd_same, List.Perm.refl _⟩
    · rintro σ H' ⟨rs, gs, rfl, bt, hp', hr1, hg2, pm⟩
      have plen : gs.length + rs.length = xs.length := by rw [← List.length_append]; exact pm.length_eq
      have dt : Dat K H' rs := (hd.sub fun y hy => pm.mem_iff.mp (List.mem_append_right _ hy)).stay (bt.stay hp)
      refine ⟨_, rfl, Nat.zero_le _, fun l hl0 => ?_⟩
      have rl : r ≠ l := ne_of_none hr1 hl0
      have gl : g ≠ l := ne_of_none hg2 hl0
      have s3 : Same H' (upd H' l (.lst [])) := fun b o e => by rw [upd_ne (ne_of_none e hl0)]; exact e
      refine data_ne (SqL.of (s3 _ _ hr1)) (dt.stay (Stay.of s3)) (SqL.of upd_same) ?_
      have bt3 := bt.same s3
      have hp3 := hp'.same s3
      have hr3 := s3 _ _ hr1
      have hg3 := s3 _ _ hg2
      have mu : (match H' r with | some (.lst rs) => rs.length | _ => 0) = rs.length := by rw [hr1]
      rw [mu]
      generalize upd H' l (.lst []) = H3 at bt3 hp3 hr3 hg3 ⊢
      refine ⟨_, rfl, ?_⟩
      cases hrs : rs with
      | nil =>
        refine iteF ?_
        refine ⟨_, rfl, ?_⟩
        subst hrs
        rw [List.append_nil] at pm
        refine k g gs H3 bt3 ?_ hg1 hg3 pm
        rw [← pm.length_eq]
        exact hp3
      | cons z zs =>
        refine iteT ?_
        have rpos : 0 < rs.length := by rw [hrs]; exact Nat.succ_pos _
        rw [← hrs]
        refine ⟨_, rfl, .inl ⟨rfl, _, SqL.of hg3⟩, _, rfl, .inl ⟨rfl, _, SqL.of hr3⟩, _, rfl, _, rfl, r, _, rfl, .inl (SqL.of hr3), p, c, _, _, rfl, hp3, by omega, by omega, by omega, fun d H4 d0 d1 bt4 hp4 => ?_⟩
        obtain ⟨j, rfl⟩ := Int.eq_ofNat_of_zero_le d0
        have hj : j < rs.length := by omega
        have hr4 : H4 r = some (.lst rs) := bt4 _ _ rp hr3
        have hg4 : H4 g = some (.lst gs) := bt4 _ _ gp hg3
        refine ⟨r, rs, (j : Int), j, rs[j], rfl, rfl, hr4, by omega, by omega, seqIx hj, List.getElem?_eq_getElem hj, ?_⟩
        refine ⟨g, gs, _, rfl, rfl, by rw [upd_ne rg.symm]; exact hg4, ?_, ?_⟩
        · have : gs.length ≤ 10000 := by omega
          exact Nat.lt_of_le_of_lt this (by decide)
        · refine ⟨⟨rs.eraseIdx j, gs ++ [rs[j]], rfl, fun b o hb e => ?_, ?_, by rw [upd_ne rg, upd_same], upd_same, ?_⟩, ?_⟩
          · rw [upd_ne (ne_of_none e hg1), upd_ne (ne_of_none e hr0)]
            exact bt4 b o hb (bt3 b o hb e)
          · rw [List.length_append, ← Nat.add_assoc]
            refine hp4.keep fun b o hb e => ?_
            have n1 : b ≠ g := by
              rcases hb with rfl | rfl
              · exact gp.symm
              · exact fun z => cg z
            have n2 : b ≠ r := by
              rcases hb with rfl | rfl
              · exact rp.symm
              · exact fun z => cr z
            rw [upd_ne n1, upd_ne n2]
            exact e
          · have e1 : (rs.eraseIdx j).Perm (rs.eraseIdx j) := List.Perm.refl _
            have e2 : (rs[j] :: rs.eraseIdx j).Perm rs := take_out hj
            rw [List.append_assoc]
            exact (List.Perm.append_left gs e2).trans pm
          · show (match (upd (upd H4 r (.lst (rs.eraseIdx j))) g (.lst (gs ++ [rs[j]]))) r with | some (.lst rs) => rs.length | _ => 0) < rs.length
            rw [upd_ne rg, upd_same]
            show (rs.eraseIdx j).length < rs.length
            rw [List.length_eraseIdx_of_lt hj]
            omega
    · intro σ H' Q' Q'' hQ h
      obtain ⟨v, e, z, kk⟩ := h
      refine ⟨v, e, z, fun l hl0 => ?_⟩
      obtain ⟨d, e', a1, a2, a3, a4, b, eb, q⟩ := kk l hl0
      exact ⟨d, e', a1, a2, a3, a4, b, eb, hQ _ _ q⟩
end
end Wf
namespace Wf
open PySem L2
abbrev s_law_letters : Stmt := top 18
abbrev N_law_letters : List Str := ["pen", "most", "alphabet", "places", "at"]
theorem sc_law_letters : FnScope N_law_letters ["pen", "most"] (defScope s_law_letters) := ⟨rfl, rfl, rfl, by decide +kernel, rfl, by decide +kernel, by decide +kernel⟩
abbrev s_law_word : Stmt := top 19
abbrev N_law_word : List Str := ["pen", "letters", "most", "at"]
theorem sc_law_word : FnScope N_law_word ["pen", "letters", "most"] (defScope s_law_word) := ⟨rfl, rfl, rfl, by decide +kernel, rfl, by decide +kernel, by decide +kernel⟩
/-- letters: in ascending order, all different -/
def Ltrs (z : Str) (most : Nat) : Prop := z.cps.toList.Pairwise (· < ·) ∧ (∀ ch ∈ z.cps.toList, 97 ≤ ch ∧ ch ≤ 122) ∧ 1 ≤ z.length ∧ z.length ≤ most
def spLetters : Sp := fun vs H Q _ => ∃ (p c : Addr) (n : Nat) (most : Int), vs = [.ref p, .int most] ∧ Pen H p c n ∧ n < 900000 ∧ 1 ≤ most ∧ most ≤ 26 ∧
  ∀ (z : Str) (H' : Hp), But p H H' → Pen H' p c (n + 27) → Ltrs z most.toNat → Q (.str z) H'
def spWord : Sp := fun vs H Q _ => ∃ (p c : Addr) (n : Nat) (z : Str) (most : Int), vs = [.ref p, .str z, .int most] ∧ Pen H p c n ∧ n < 900000 ∧ 0 < z.length ∧ z.length < 1000 ∧ 0 ≤ most ∧ most < 1000 ∧
  ∀ (y : Str) (H' : Hp), But p H H' → Pen H' p c (n + 1 + most.toNat) → y.length ≤ most.toNat → (∀ ch ∈ y.cps.toList, ch ∈ z.cps.toList) → Q (.str y) H'
theorem perm_of_map {α β : Type} {f : α → β} : ∀ {l : List α} {ys : List β}, ys.Perm (l.map f) → ∃ l' : List α, ys = l'.map f ∧ l'.Perm l
  | [], ys, h => ⟨[], by rw [List.map_nil] at h; exact List.Perm.eq_nil h, .refl _⟩
  | a :: l, ys, h => by
    have hm : f a ∈ ys := h.mem_iff.mpr List.mem_cons_self
    obtain ⟨s, t, rfl⟩ := List.append_of_mem hm
    have h2 : (s ++ t).Perm (l.map f) := by
      have h3 : (f a :: (s ++ t)).Perm (f a :: l.map f) := (List.perm_middle.symm).trans h
      exact List.Perm.cons_inv h3
    obtain ⟨l', e, pm⟩ := perm_of_map h2
    obtain ⟨l1, l2, rfl, e1, e2⟩ := List.map_eq_append_iff.mp e.symm
    refine ⟨l1 ++ a :: l2, by rw [List.map_append, List.map_cons, e1, e2], List.perm_middle.trans (List.Perm.cons a pm)⟩
theorem cut_front {α : Type} {f : α → V} {ns : List α} {k : Int} (h : 0 ≤ k) : cutV (ns.map f) none (some k) = (ns.take k.toNat).map f := by
  unfold cutV
  have e1 : HT.sIx (ns.map f).length 0 Option.none = 0 := rfl
  have e2 : HT.sIx (ns.map f).length (ns.map f).length (some k) = min k.toNat ns.length := by
    rw [List.length_map]
    obtain ⟨j, rfl⟩ := Int.eq_ofNat_of_zero_le h
    exact HT.sIx_nat ns.length ns.length j
  rw [e1, e2, List.drop_zero, Nat.sub_zero, ← List.map_take]
  congr 1
  by_cases q : k.toNat ≤ ns.length
  · rw [Nat.min_eq_left q]
  · rw [Nat.min_eq_right (by omega), List.take_of_length_le (Nat.le_refl _), List.take_of_length_le (by omega)]
theorem str_app (x y : Str) : (x ++ y).cps.toList = x.cps.toList ++ y.cps.toList := Array.toList_append
theorem join_empty : ∀ ys : List Str, (Txt.join ("" : Str) ys).cps.toList = ys.flatMap fun y => y.cps.toList
  | [] => rfl
  | [y] => by
    show y.cps.toList = [y].flatMap _
    simp
  | y :: z :: r => by
    have e := join_empty (z :: r)
    have e2 : Txt.join ("" : Str) (y :: z :: r) = y ++ ("" : Str) ++ Txt.join ("" : Str) (z :: r) := by
      unfold Txt.join
      rw [StrLaws.glued_eq_join, StrLaws.glued_eq_join]
      rfl
    rw [e2, str_app, str_app, e]
    show (y.cps.toList ++ []) ++ _ = _
    rw [List.append_nil]
    simp
/-- 0 to 25 -/
def i26 : List Int := (List.range 26).map fun i => (0 : Int) + (i : Nat)
theorem rg26 : rgV 0 26 = i26.map V.int := by
  unfold rgV i26
  rw [List.map_map]
  rfl
theorem i26_nd : i26.Nodup := by decide
theorem i26_in : ∀ i ∈ i26, 0 ≤ i ∧ i ≤ 25 := by decide
theorem i26_len : i26.length = 26 := by decide
def abc : Str := "abcdefghijklmnopqrstuvwxyz"
theorem abc_at : ∀ i ∈ i26, atI abc.cps.toList i = some (97 + i.toNat) := by decide +kernel
/-- one letter, by its place -/
def sg (i : Int) : Str := ⟨#[97 + i.toNat]⟩
theorem sg_all : ∀ ks : List Int, ((ks.map sg).flatMap fun y : Str => y.cps.toList) = ks.map fun i => 97 + i.toNat
  | [] => rfl
  | i :: ks => by
    rw [List.map_cons, List.flatMap_cons, sg_all ks]
    rfl
theorem sg_len (ks : List Int) : ((ks.map sg).map (·.length)).sum = ks.length := by
  induction ks with
  | nil => rfl
  | cons i ks ih =>
    rw [List.map_cons, List.map_cons, List.sum_cons, ih, List.length_cons]
    show 1 + ks.length = ks.length + 1
    omega
theorem asc_of {ks : List Int} (h : ks.Pairwise (· ≤ ·)) (nd : ks.Nodup) (b : ∀ i ∈ ks, 0 ≤ i) : (ks.map fun i => 97 + i.toNat).Pairwise (· < ·) := by
  rw [List.pairwise_map]
  have h2 : ks.Pairwise fun a b => a ≤ b ∧ a ≠ b := h.and nd
  refine List.Pairwise.imp_of_mem (fun ha hb hab => ?_) h2
  have := b _ ha
  have := b _ hb
  omega
theorem ones {z : Str} : ∀ {ys : List Str}, (∀ y ∈ ys, ∃ ch ∈ z.cps.toList, y = (⟨#[ch]⟩ : Str)) → (ys.map (·.length)).sum = ys.length
  | [], _ => rfl
  | y :: ys, h => by
    obtain ⟨ch, _, rfl⟩ := h y List.mem_cons_self
    rw [List.map_cons, List.sum_cons, ones (ys := ys) fun x hx => h x (List.mem_cons_of_mem _ hx), List.length_cons]
    show 1 + ys.length = ys.length + 1
    omega
section
variable {P : Program} {w : World} {K : PySem.W.Frag} {mg : Str → Option Value} {base : Heap}
theorem ok_letters {f : Addr} {fd : FuncData} (F : Fun K "_law_letters" "_law_letters" s_law_letters f fd) (T : Txt K mg) (D_law_draw : Dn P w K mg base 1 "_law_draw" ["pen", "many"] spDraw)
    (D_law_shuffled : Dn P w K mg base 2 "_law_shuffled" ["pen", "some"] (spShuffled K)) : FnOk P w K mg base CX0 3 f fd ["pen", "most"] spLetters := by
  refine F.ok sc_law_letters (fun vs H Q E h => ?_) (fun cdv A outer s H vs Q E hr h => ?_)
  · obtain ⟨p, c, n, most, rfl, _⟩ := h
    rfl
  · refine ⟨_, (pss_cons (ps_set (i := 2) sc_law_letters.nd rfl (Or.inr rfl) (pe_str))
  (pss_cons (ps_set (i := 3) sc_law_letters.nd rfl (Or.inl rfl) (pe_callB cr_sorted (by rfl) T.z_sorted (by decide +kernel) (pa_cons (pe_slice sl_list (pe_cl D_law_shuffled (hr.mono (by decide)) (pa_cons (pv 0) (pa_cons (pe_listRg rfl (by rfl) T.z_list (prg_1 (by rfl) T.z_range (pe_int))) pa_nil))) po_none (po_some (pe_op op_add (pe_int) (pe_cl D_law_draw (hr.mono (by decide)) (pa_cons (pv 0) (pa_cons (pv 1) pa_nil)))))) pa_nil)))
  (pss_one (ps_ret (pe_join (pe_str) (pe_lc (own := [("at", 4)]) (g := gName 4) (tt := tYes) (by rfl) sc_law_letters.nd (pi_list (pv 3)) (blkOk_by (own := [("at", 4)]) (N := N_law_letters) (sc := defScope s_law_letters) (by decide +kernel)) (fun _ _ _ _ _ => (pg_name (i := 4) sc_law_letters.nd rfl (Or.inl rfl))) (fun _ _ _ _ _ => pts_nil) (fun _ _ _ _ _ => (pe_ix ix_str (pv 2) (pv 4) (fun _ _ => rfl))))))))), ?_⟩
    obtain ⟨p, c, n, most, rfl, hp, hn, m1, m2, k⟩ := h
    refine ⟨_, rfl, _, rfl, RgOk.of_le (by decide) (by decide) (by decide) (by decide), fun q hq => ?_⟩
    rw [rg26]
    have s1 : Same H (upd H q (.lst (i26.map V.int))) := fun b o e => by rw [upd_ne (ne_of_none e hq)]; exact e
    have hp1 := hp.same s1
    have bt1 : But p H (upd H q (.lst (i26.map V.int))) := But.of s1
    have hq1 : SqL K (upd H q (.lst (i26.map V.int))) q (i26.map V.int) := SqL.of upd_same
    generalize upd H q (.lst (i26.map V.int)) = H1 at s1 hp1 bt1 hq1 ⊢
    refine ⟨p, c, q, n, i26.map V.int, rfl, hp1, .inl hq1, by rw [List.length_map, i26_len]; decide, by rw [List.length_map, i26_len]; omega, fun x hx => ?_, fun l ys H2 bt2 hp2 hl0 hl2 pm => ?_⟩
    · obtain ⟨i, _, rfl⟩ := List.mem_map.mp hx
      exact ⟨.int i, .int i, pl_int⟩
    obtain ⟨ns, rfl, pn⟩ := perm_of_map pm
    rw [List.length_map, i26_len] at hp2
    refine ⟨_, rfl, _, rfl, p, c, n + 26, most, rfl, hp2, by omega, by omega, by omega, fun d H3 d0 d1 bt3 hp3 => ?_⟩
    have hl3 : SqL K H3 l (ns.map V.int) := bt3.sql hp2 (SqL.of hl2)
    refine ⟨_, _, rfl, rfl, _, rfl, l, _, rfl, hl3, fun r hr0 => ?_⟩
    rw [cut_front (by omega)]
    have s4 : Same H3 (upd H3 r (.lst ((ns.take (1 + d).toNat).map V.int))) := fun b o e => by rw [upd_ne (ne_of_none e hr0)]; exact e
    have bt4 := ((bt1.trans bt2).trans bt3).same s4
    have hp4 := hp3.same s4
    have hr4 : SqL K (upd H3 r (.lst ((ns.take (1 + d).toNat).map V.int))) r ((ns.take (1 + d).toNat).map V.int) := SqL.of upd_same
    generalize upd H3 r (.lst ((ns.take (1 + d).toNat).map V.int)) = H4 at s4 bt4 hp4 hr4 ⊢
    have nl : ns.length = 26 := by rw [pn.length_eq, i26_len]
    have kl : (ns.take (1 + d).toNat).length = (1 + d).toNat := by rw [List.length_take, nl]; omega
    refine ⟨r, _, rfl, hr4, by rw [kl]; omega, fun ks q5 pk ok hq5 => ?_⟩
    have s5 : Same H4 (upd H4 q5 (.lst (ks.map V.int))) := fun b o e => by rw [upd_ne (ne_of_none e hq5)]; exact e
    have bt5 := bt4.same s5
    have hp5 := hp4.same s5
    have hr5 : SqL K (upd H4 q5 (.lst (ks.map V.int))) q5 (ks.map V.int) := SqL.of upd_same
    generalize upd H4 q5 (.lst (ks.map V.int)) = H5 at s5 bt5 hp5 hr5 ⊢
    have k_in : ∀ i ∈ ks, i ∈ i26 := fun i hi => pn.mem_iff.mp (List.mem_of_mem_take (pk.mem_iff.mp hi))
    have k_nd : ks.Nodup := pk.nodup_iff.mpr ((pn.nodup_iff.mpr i26_nd).sublist (List.take_sublist _ _))
    have k_len : ks.length = (1 + d).toNat := by rw [pk.length_eq, kl]
    refine ⟨⟨_, rfl⟩, _, rfl, q5, rfl, ⟨_, hr5⟩, fun D hD => lc_list (K := K) (a := q5) (xs := ks.map V.int) (fun i H' => Same H5 H' ∧ H' D = some (.lst (((ks.take i).map sg).map V.str))) ?_ ?_ ?_ ?_⟩
    · exact ⟨fun b o e => by rw [upd_ne (ne_of_none e hD)]; exact e, upd_same⟩
    · rintro i H' _ ⟨sm, _⟩
      exact sm.seq hr5
    · rintro i x H' hi ⟨sm, hD'⟩
      rw [List.getElem?_map] at hi
      obtain ⟨m, hm, rfl⟩ := Option.map_eq_some_iff.mp hi
      have hmem : m ∈ ks := List.mem_of_getElem? hm
      refine ⟨rfl, ?_⟩
      refine ⟨_, rfl, _, rfl, abc, m, _, rfl, rfl, by decide +kernel, abc_at m (k_in m hmem), ?_⟩
      refine ⟨_, hD', ?_, fun b o e => ?_, ?_⟩
      · rw [List.length_map, List.length_map]
        have : (ks.take i).length ≤ 26 := by rw [List.length_take, k_len]; omega
        exact Nat.lt_of_le_of_lt this (by decide)
      · rw [upd_ne (ne_of_none e hD)]
        exact sm b o e
      · rw [upd_same, List.take_succ, hm, List.map_append, List.map_append]
        rfl
    · rintro H' ⟨sm, hD'⟩
      rw [List.length_map, List.take_length] at hD'
      refine ⟨_, D, ks.map sg, rfl, rfl, .inl (SqL.of hD'), ?_, ?_⟩
      · rw [sg_len, List.length_map]
        show ks.length + ks.length * 0 ≤ 16777216
        omega
      · have e := (join_empty (ks.map sg)).trans (sg_all ks)
        have b0 : ∀ i ∈ ks, 0 ≤ i := fun i hi => (i26_in i (k_in i hi)).1
        refine k _ H' (bt5.same sm) (hp5.same sm) ⟨?_, ?_, ?_, ?_⟩
        · rw [e]
          exact asc_of ok k_nd b0
        · rw [e]
          intro ch hch
          obtain ⟨i, hi, rfl⟩ := List.mem_map.mp hch
          have := i26_in i (k_in i hi)
          omega
        all_goals
          have el := congrArg List.length e
          rw [Array.length_toList, List.length_map, k_len] at el
          show _ ≤ _
          first | (show 1 ≤ (Txt.join _ _).cps.size; omega) | (show (Txt.join _ _).cps.size ≤ _; omega)
theorem ok_word {f : Addr} {fd : FuncData} (F : Fun K "_law_word" "_law_word" s_law_word f fd) (T : Txt K mg) (D_law_draw : Dn P w K mg base 1 "_law_draw" ["pen", "many"] spDraw)
    (D_law_pick : Dn P w K mg base 2 "_law_pick" ["pen", "some"] (spPick K)) : FnOk P w K mg base CX0 3 f fd ["pen", "letters", "most"] spWord := by
  refine F.ok sc_law_word (fun vs H Q E h => ?_) (fun cdv A outer s H vs Q E hr h => ?_)
  · obtain ⟨p, c, n, z, most, rfl, _⟩ := h
    rfl
  · refine ⟨_, (pss_one (ps_ret (pe_join (pe_str) (pe_lc (own := [("at", 3)]) (g := gName 3) (tt := tYes) (by rfl) sc_law_word.nd (pi_range1 (by rfl) T.z_range (pa_cons (pe_cl D_law_draw (hr.mono (by decide)) (pa_cons (pv 0) (pa_cons (pe_op op_add (pv 2) (pe_int)) pa_nil))) pa_nil)) (blkOk_by (own := [("at", 3)]) (N := N_law_word) (sc := defScope s_law_word) (by decide +kernel)) (fun _ _ _ _ _ => (pg_name (i := 3) sc_law_word.nd rfl (Or.inl rfl))) (fun _ _ _ _ _ => pts_nil) (fun _ _ _ _ _ => (pe_cl D_law_pick (hr.mono (by decide)) (pa_cons (pv 0) (pa_cons (pv 1) pa_nil)))))))), ?_⟩
    obtain ⟨p, c, n, z, most, rfl, hp, hn, z1, z2, m1, m2, k⟩ := h
    refine ⟨⟨_, rfl⟩, _, rfl, _, rfl, _, _, rfl, rfl, p, c, n, most + 1, rfl, hp, by omega, by omega, by omega, fun d H1 d0 d1 bt1 hp1 => ⟨d, rfl, by omega, by omega, fun D hD => ?_⟩⟩
    have hD0 : H D = none := bt1.free hp1 hD
    have Dp : D ≠ p := fun q => by
      obtain ⟨kvs, e⟩ := hp1.at
      rw [q, e] at hD
      cases hD
    have Dc : D ≠ c := fun q => by
      obtain ⟨kvs, e⟩ := hp1.cell
      rw [q, e] at hD
      cases hD
    refine lc_range (lo := 0) (n := d.toNat) (fun i H' => But p H H' ∧ Pen H' p c (n + 1 + i) ∧ ∃ ys : List Str, H' D = some (.lst (ys.map V.str)) ∧ ys.length = i ∧ ∀ y ∈ ys, ∃ ch ∈ z.cps.toList, y = ⟨#[ch]⟩) ?_ ?_ ?_
    · have s2 : Same H1 (upd H1 D (.lst [])) := fun b o e => by rw [upd_ne (ne_of_none e hD)]; exact e
      exact ⟨bt1.same s2, hp1.same s2, [], upd_same, rfl, fun y hy => by cases hy⟩
    · rintro i H' hi ⟨bt, hp', ys, hD', hl, hy⟩
      refine ⟨rfl, ?_⟩
      refine ⟨_, rfl, _, rfl, p, c, n + 1 + i, hp', by omega, .inr ⟨z, rfl, z1, by omega, fun ch H2 hch bt2 hp2 => ?_⟩⟩
      have hD2 : H2 D = some (.lst (ys.map V.str)) := bt2 _ _ Dp hD'
      refine ⟨_, hD2, ?_, fun b o hb e => ?_, hp2.keep fun b o hb e => ?_, ys ++ [⟨#[ch]⟩], ?_, ?_, fun y hm => ?_⟩
      · rw [List.length_map, hl]
        exact Nat.lt_of_lt_of_le (show i < 1000 by omega) (by decide)
      · rw [upd_ne (ne_of_none e hD0)]
        exact bt2 b o hb (bt b o hb e)
      · have ne : b ≠ D := by
          rcases hb with rfl | rfl
          · exact Dp.symm
          · exact Dc.symm
        rw [upd_ne ne]
        exact e
      · rw [upd_same, List.map_append]
        rfl
      · rw [List.length_append, hl]
        rfl
      · rcases List.mem_append.mp hm with hm | hm
        · exact hy y hm
        · exact ⟨ch, hch, List.mem_singleton.mp hm⟩
    · rintro H' ⟨bt, hp', ys, hD', hl, hy⟩
      have ln : (ys.map (·.length)).sum = ys.length := ones hy
      refine ⟨_, D, ys, rfl, rfl, .inl (SqL.of hD'), ?_, ?_⟩
      · rw [ln]
        show ys.length + ys.length * 0 ≤ 16777216
        omega
      · have e := join_empty ys
        refine k _ H' bt (hp'.up (by omega)) ?_ ?_
        · have el := congrArg List.length e
          rw [Array.length_toList, List.length_flatMap] at el
          show (Txt.join _ _).cps.size ≤ _
          have e2 : (ys.map fun y : Str => y.cps.toList.length) = ys.map (·.length) := by
            congr 1
          rw [e2, ln] at el
          rw [el]
          omega
        · intro ch hch
          rw [e] at hch
          obtain ⟨y, hm, hc⟩ := List.mem_flatMap.mp hch
          obtain ⟨ch', h1, rfl⟩ := hy y hm
          have : ch = ch' := by simpa using hc
          rw [this]
          exact h1
end
end Wf
namespace Wf
open PySem L2
structure TxtK (K : PySem.W.Frag) (mg : Str → Option Value) : Prop extends Txt K mg where
  z_repr : mg "repr" = none
  z_tuple : mg "tuple" = none
  z_isinstance : mg "isinstance" = none
  g_LENGTH : ∃ t, mg "LENGTH" = some (.int 12 t)
  g_WORDS : ∃ t, mg "WORDS" = some (.int 200 t)
  g_PREFIXES : ∃ t, mg "PREFIXES" = some (.int 600 t)
  g_STATES : ∃ t, mg "STATES" = some (.int 600 t)
  g_POINTS : ∃ t, mg "POINTS" = some (.int 60 t)
  g_CHOICES : ∃ t, mg "CHOICES" = some (.int 8 t)
  g_NODES : ∃ t, mg "NODES" = some (.int 2000 t)
  g_TOLD : ∃ t, mg "TOLD" = some (.int 4 t)
  g_COMPARED : ∃ t, mg "COMPARED" = some (.int 20 t)
  g_FAULTS : ∃ t, mg "FAULTS" = some (.int 8 t)
  g_LESSON : ∃ t, mg "LESSON" = some (.int 300 t)
abbrev s_word_order : Stmt := top 1
abbrev N_word_order : List Str := ["words"]
theorem sc_word_order : FnScope N_word_order ["words"] (defScope s_word_order) := ⟨rfl, rfl, rfl, by decide +kernel, rfl, by decide +kernel, by decide +kernel⟩
abbrev s_law : Stmt := top 20
abbrev N_law : List Str := ["script", "pen", "some", "bout", "letters", "words", "handed", "told", "same", "due", "at", "size", "word"]
theorem sc_law : FnScope N_law ["script"] (defScope s_law) := ⟨rfl, rfl, rfl, by decide +kernel, rfl, by decide +kernel, by decide +kernel⟩
/-! ### the mathematics: sorted alphabetically, then by length, is sorted by (length, word) -/
def leS (a b : Str) : Bool := leD (.str a, .str a) (.str b, .str b)
def pair (z : Str) : PyData := .tuple [.int (z.length : Int), .str z]
def leP (a b : Str) : Bool := leD (.non, pair a) (.non, pair b)
def wordOrder (zs : List Str) : List Str := (zs.mergeSort leS).mergeSort leLen
theorem leS_eq (a b : Str) : leS a b = decide (a.cps.toList ≤ b.cps.toList) := by
  have e := congrFun (congrFun (PySem.W.dataLe_str (fun p : Str => p)) a) b
  exact e
theorem leLen_eq (a b : Str) : leLen a b = decide (a.length ≤ b.length) := by
  have e := congrFun (congrFun (PySem.W.dataLe_int (fun p : Str => (p.length : Int))) a) b
  rw [leLen, e]
  simp
theorem total_of {β : Type} (k : β → PyData) : PySem.W.TotalLe (PySem.W.dataLe false k) := PySem.W.sortLe_total _ false _
theorem lt_str (a b : Str) : PySem.W.dataLt (.str a) (.str b) = !decide (b.cps.toList ≤ a.cps.toList) := by
  have e := congrFun (congrFun (PySem.W.dataLe_str (fun p : Str => p)) b) a
  rw [PySem.W.dataLe_eq] at e
  have e2 : (!PySem.W.dataLt (.str a) (.str b)) = decide (b.cps.toList ≤ a.cps.toList) := e
  rw [← e2, Bool.not_not]
theorem lt_int (i j : Int) : PySem.W.dataLt (.int i) (.int j) = decide (i < j) := by
  have e := congrFun (congrFun (PySem.W.dataLe_int (fun p : Int => p)) j) i
  rw [PySem.W.dataLe_eq] at e
  have e2 : (!PySem.W.dataLt (.int i) (.int j)) = decide (j ≤ i) := e
  rw [← Bool.not_not (b := PySem.W.dataLt (.int i) (.int j)), e2, ← decide_not]
  exact decide_eq_decide.mpr (by omega)
theorem cps_inj {a b : Str} (h : a.cps.toList = b.cps.toList) : a = b := PyProof.Rows.str_eq_of_lists h
theorem leP_eq (a b : Str) : leP a b = decide (a.length < b.length ∨ (a.length = b.length ∧ a.cps.toList ≤ b.cps.toList)) := by
  have e : leP a b = !PySem.W.dataLt (pair b) (pair a) := rfl
  rw [e]
  unfold pair
  rw [PySem.W.dataLt_pair rfl rfl, lt_str, lt_int]
  show (!(if ((b.length : Int) == (a.length : Int)) = true then (if (b == a) = true then false else !decide (a.cps.toList ≤ b.cps.toList)) else decide ((b.length : Int) < (a.length : Int)))) = _
  by_cases hl : a.length = b.length
  · have h1 : ((b.length : Int) == (a.length : Int)) = true := by rw [hl]; exact beq_self_eq_true _
    rw [if_pos h1]
    by_cases hab : b = a
    · subst hab
      rw [if_pos (beq_self_eq_true _)]
      exact (decide_eq_true (.inr ⟨rfl, List.le_refl _⟩)).symm
    · rw [if_neg (by simpa using hab), Bool.not_not]
      exact decide_eq_decide.mpr ⟨fun h => .inr ⟨hl, h⟩, fun h => h.elim (fun h => by omega) (fun h => h.2)⟩
  · have h1 : ¬ ((b.length : Int) == (a.length : Int)) = true := by
      rw [beq_iff_eq]
      omega
    rw [if_neg h1, ← decide_not]
    exact decide_eq_decide.mpr ⟨fun h => .inl (by omega), fun h => h.elim (fun h => by omega) (fun h => absurd h.1 hl)⟩
theorem leP_total : PySem.W.TotalLe leP := total_of pair
theorem leLen_total : PySem.W.TotalLe leLen := total_of _
theorem leS_total : PySem.W.TotalLe leS := total_of PyData.str
theorem same_P {a c : Str} : PySem.W.sameRank leP c a = true ↔ a = c := by
  unfold PySem.W.sameRank
  rw [Bool.and_eq_true, leP_eq, leP_eq, decide_eq_true_iff, decide_eq_true_iff]
  constructor
  · rintro ⟨h1, h2⟩
    rcases h1 with h1 | ⟨e1, h1⟩
    · rcases h2 with h2 | ⟨e2, _⟩ <;> omega
    · rcases h2 with h2 | ⟨_, h2⟩
      · omega
      · exact cps_inj (List.le_antisymm h2 h1)
  · rintro rfl
    exact ⟨.inr ⟨rfl, List.le_refl _⟩, .inr ⟨rfl, List.le_refl _⟩⟩
theorem filter_same {p : Str → Bool} {c : Str} (hp : ∀ a, p a = true ↔ a = c) {l m : List Str} (h : l.Perm m) : l.filter p = m.filter p := by
  have e : ∀ xs : List Str, xs.filter p = List.replicate (xs.filter p).length c := fun xs =>
    List.eq_replicate_of_mem fun b hb => (hp b).mp (List.mem_filter.mp hb).2
  rw [e l, e m, (h.filter p).length_eq]
theorem order_eq (zs : List Str) : wordOrder zs = zs.mergeSort leP := by
  refine PySem.W.sort_unique leP_total ?_ fun c => filter_same (fun a => same_P) ?_
  · refine List.pairwise_iff_forall_sublist.mpr fun {a b} hs => ?_
    have h1 : leLen a b = true := List.pairwise_iff_forall_sublist.mp (PySem.W.sort_pairwise leLen_total _) hs
    rw [leP_eq]
    rw [leLen_eq] at h1
    have h1' := of_decide_eq_true h1
    by_cases hl : a.length = b.length
    · have h2 : ([a, b].filter (PySem.W.sameRank leLen a)).Sublist ((wordOrder zs).filter (PySem.W.sameRank leLen a)) := hs.filter _
      have ea : PySem.W.sameRank leLen a a = true := PySem.W.sameRank_self leLen_total a
      have eb : PySem.W.sameRank leLen a b = true := by
        unfold PySem.W.sameRank
        rw [leLen_eq, leLen_eq, decide_eq_true (by omega : a.length ≤ b.length), decide_eq_true (by omega : b.length ≤ a.length)]
        rfl
      rw [List.filter_cons_of_pos ea, List.filter_cons_of_pos eb, List.filter_nil] at h2
      unfold wordOrder at h2
      rw [PySem.W.sort_stable leLen_total] at h2
      have h3 := h2.trans List.filter_sublist
      have h4 : leS a b = true := List.pairwise_iff_forall_sublist.mp (PySem.W.sort_pairwise leS_total _) h3
      rw [leS_eq] at h4
      exact decide_eq_true (.inr ⟨hl, of_decide_eq_true h4⟩)
    · exact decide_eq_true (.inl (by omega))
  · exact (List.mergeSort_perm _ _).trans (List.mergeSort_perm _ _)
def spOrder (K : PySem.W.Frag) : Sp := fun vs H Q _ => ∃ (a : Addr) (zs : List Str), vs = [.ref a] ∧ (SqL K H a (zs.map V.str) ∨ SqT K H a (zs.map V.str)) ∧ zs.length ≤ 10000 ∧ (∀ z ∈ zs, z.length ≤ 10000) ∧
  ∀ (l : Addr) (H' : Hp), Same H H' → H l = none → H' l = some (.lst ((wordOrder zs).map V.str)) → Q (.ref l) H'
section
variable {P : Program} {w : World} {K : PySem.W.Frag} {mg : Str → Option Value} {base : Heap}
theorem ok_order {f : Addr} {fd : FuncData} (F : Fun K "word_order" "word_order" s_word_order f fd) (T : TxtK K mg) : FnOk P w K mg base CX0 1 f fd ["words"] (spOrder K) := by
  refine F.ok sc_word_order (fun vs H Q E h => ?_) (fun cdv A outer s H vs Q E hr h => ?_)
  · obtain ⟨a, zs, rfl, _⟩ := h
    rfl
  · refine ⟨_, (pss_one (ps_ret (pe_sortLen (pa_cons (pe_callB (cr_sortD hr.units) (by rfl) T.z_sorted (by decide +kernel) (pa_cons (pv 0) pa_nil)) pa_nil) hr.units (by rfl) T.z_sorted (by rfl) T.z_len))), ?_⟩
    obtain ⟨a, zs, rfl, hs, hl, hz, k⟩ := h
    let vd : Str → VD := fun z => (.str z, .str z)
    have ef : ∀ ys : List Str, firsts (ys.map vd) = ys.map V.str := fun ys => by
      unfold firsts
      rw [List.map_map]
      rfl
    have es : (zs.map vd).mergeSort leD = (zs.mergeSort leS).map vd := (PySem.W.sort_maps (r := leS) (s := leD) vd fun a _ b _ => rfl).symm
    refine ⟨_, rfl, a, zs.map vd, rfl, by rw [ef]; exact hs, fun p hp => ?_, ?_, ?_, fun p hp => ?_, fun l hl0 => ?_⟩
    · obtain ⟨z, _, rfl⟩ := List.mem_map.mp hp
      exact .str z
    · rw [List.map_map]
      exact PySem.W.AllAlike.of fun b b' => rfl
    · rw [List.map_map]
      exact PySem.W.Sortable.others fun b => ⟨(fun h => by cases h), (fun xs h => by cases h)⟩
    · obtain ⟨z, _, rfl⟩ := List.mem_map.mp hp
      exact Nat.zero_le _
    · rw [es, ef]
      have s1 : Same H (upd H l (.lst ((zs.mergeSort leS).map V.str))) := fun b o e => by rw [upd_ne (ne_of_none e hl0)]; exact e
      refine ⟨l, zs.mergeSort leS, rfl, SqL.of upd_same, fun z hm => ?_, fun q hq => ?_⟩
      · have := hz z (List.mem_mergeSort.mp hm)
        exact Nat.le_trans this (by decide)
      · exact k q _ (fun b o e => by rw [upd_ne (ne_of_none (s1 b o e) hq)]; exact s1 b o e) (s1.free hq) upd_same
def spLaw (K : PySem.W.Frag) : Sp := fun vs H Q _ => ∃ (a : Addr) (ns : List Int), vs = [.ref a] ∧ SqL K H a (ns.map V.int) ∧ ns.length ≤ 63 ∧ ∀ H', Q (.bl true) H'
theorem ok_law {f : Addr} {fd : FuncData} (F : Fun K "law" "law" s_law f fd) (T : TxtK K mg) (D_law_pen : Dn P w K mg base 1 "_law_pen" ["script"] (spPen K)) (D_law_draw : Dn P w K mg base 1 "_law_draw" ["pen", "many"] spDraw)
    (D_law_letters : Dn P w K mg base 3 "_law_letters" ["pen", "most"] spLetters) (D_law_word : Dn P w K mg base 3 "_law_word" ["pen", "letters", "most"] spWord) (D_word_order : Dn P w K mg base 1 "word_order" ["words"] (spOrder K)) :
    FnG P w K mg base CX0 4 f fd ["script"] (spLaw K) := by
  refine FnG.plain F sc_law (fun h => ?_) (fun cdv A outer s H vs Q E hq hr h => ?_)
  · obtain ⟨a, ns, rfl, _⟩ := h
    rfl
  · refine ⟨_, (pss_cons (ps_set (i := 1) sc_law.nd rfl (Or.inr rfl) (pe_cl D_law_pen (hr.mono (by decide)) (pa_cons (pv 0) pa_nil)))
  (pss_cons (ps_set (i := 2) sc_law.nd rfl (Or.inl rfl) (pe_lst (pa_cons (pe_gi T.g_LENGTH) (pa_cons (pe_gi T.g_WORDS) (pa_cons (pe_gi T.g_PREFIXES) (pa_cons (pe_gi T.g_STATES) (pa_cons (pe_gi T.g_POINTS) (pa_cons (pe_gi T.g_CHOICES) (pa_cons (pe_gi T.g_NODES) (pa_cons (pe_gi T.g_TOLD) (pa_cons (pe_gi T.g_COMPARED) (pa_cons (pe_gi T.g_FAULTS) (pa_cons (pe_gi T.g_LESSON) pa_nil)))))))))))))
  (pss_cons (ps_if (pt_cmpR op_ne (pe_callB (cr_repr hq hr.units) (by rfl) T.z_repr (by decide +kernel) (pa_cons (pv 2) pa_nil)) (pe_str) (nomark _)) (pss_one (ps_ret (pe_bl))) pss_nil)
  (pss_cons (ps_for PassesOwn.never rfl (pi_range1 (by rfl) T.z_range (pa_cons (pe_int) pa_nil)) (pg_name (i := 3) sc_law.nd rfl (Or.inl rfl))
   (pss_cons (ps_set (i := 4) sc_law.nd rfl (Or.inr rfl) (pe_cl D_law_letters (hr.mono (by decide)) (pa_cons (pv 1) (pa_cons (pe_int) pa_nil))))
  (pss_cons (ps_setLc (i := 5) (own := [("at", 10)]) (g := gName 10) (tt := tYes) (by rfl) sc_law.nd rfl rfl (sw_true rfl rfl rfl (by decide +kernel)) (pi_range1 (by rfl) T.z_range (pa_cons (pe_cl D_law_draw (hr.mono (by decide)) (pa_cons (pv 1) (pa_cons (pe_int) pa_nil))) pa_nil)) (blkOk_by (own := [("at", 10)]) (N := N_law) (sc := defScope s_law) (by decide +kernel)) (fun _ _ _ _ _ => (pg_name (i := 10) sc_law.nd rfl (Or.inl rfl))) (fun _ _ _ _ _ => pts_nil) (fun _ _ _ _ _ => (pe_cl D_law_word (hr.mono (by decide)) (pa_cons (pv 1) (pa_cons (pv 4) (pa_cons (pe_int) pa_nil))))))
  (pss_cons (ps_set (i := 5) sc_law.nd rfl (Or.inl rfl) (pe_op op_cat (pv 5) (pe_slice sl_list (pv 5) po_none (po_some (pe_cl D_law_draw (hr.mono (by decide)) (pa_cons (pv 1) (pa_cons (pe_int) pa_nil)))))))
  (pss_cons (ps_set (i := 6) sc_law.nd rfl (Or.inl rfl) (pe_ix ix_list (pe_lst (pa_cons (pv 5) (pa_cons (pe_callTy call_tuple_of (by rfl) T.z_tuple (by decide +kernel) (pa_cons (pv 5) pa_nil)) pa_nil))) (pe_cl D_law_draw (hr.mono (by decide)) (pa_cons (pv 1) (pa_cons (pe_int) pa_nil))) (fun _ _ => rfl)))
  (pss_cons (ps_par (i := 8) (j := 9) (by rfl) sc_law.nd rfl rfl (by decide) rfl rfl (pa_cons (pe_callB (cr_repr hq hr.units) (by rfl) T.z_repr (by decide +kernel) (pa_cons (pv 6) pa_nil)) (pa_cons (pe_lc (own := [("size", 11), ("word", 12)]) (g := gTup K 2 (gCons (gName 11) (gCons (gName 12) gNil))) (tt := tYes) (by rfl) sc_law.nd (pi_list (pe_callB (cr_sortD hr.units) (by rfl) T.z_sorted (by decide +kernel) (pa_cons (pe_lc (own := [("word", 12)]) (g := gName 12) (tt := tYes) (by rfl) sc_law.nd (pi_list (pv 5)) (blkOk_by (own := [("word", 12)]) (N := N_law) (sc := defScope s_law) (by decide +kernel)) (fun _ _ _ _ _ => (pg_name (i := 12) sc_law.nd rfl (Or.inl rfl))) (fun _ _ _ _ _ => pts_nil) (fun _ _ _ _ _ => (pe_tup (pa_cons (pe_callB call_len_str (by rfl) T.z_len PySem.boot_len (pa_cons (pv 12) pa_nil)) (pa_cons (pv 12) pa_nil))))) pa_nil))) (blkOk_by (own := [("size", 11), ("word", 12)]) (N := N_law) (sc := defScope s_law) (by decide +kernel)) (fun _ _ _ _ _ => (pg_tup (by rfl) (pgs_cons (pg_name (i := 11) sc_law.nd rfl (Or.inl rfl)) (pgs_cons (pg_name (i := 12) sc_law.nd rfl (Or.inl rfl)) pgs_nil)))) (fun _ _ _ _ _ => pts_nil) (fun _ _ _ _ _ => (pv 12))) pa_nil)) (by rfl))
  (pss_cons (ps_set (i := 7) sc_law.nd rfl (Or.inl rfl) (pe_cl D_word_order (hr.mono (by decide)) (pa_cons (pv 6) pa_nil)))
  (pss_cons (ps_if (PW.pt (pw_or (pt_not (pt_val (pe_callB RZ.call_isTy (by rfl) T.z_isinstance (by decide +kernel) (pa_cons (pv 7) (pa_cons (pe_bltn (v := .ty "list") (u := .type "list") (by rfl) T.z_list (by decide +kernel) rfl) pa_nil))))) (pw_or (pt_cmpR op_ne (pe_callB (cr_repr hq hr.units) (by rfl) T.z_repr (by decide +kernel) (pa_cons (pv 7) pa_nil)) (pe_callB (cr_repr hq hr.units) (by rfl) T.z_repr (by decide +kernel) (pa_cons (pv 9) pa_nil)) (nomark _)) (pw_or1 (pt_cmpR op_ne (pe_callB (cr_repr hq hr.units) (by rfl) T.z_repr (by decide +kernel) (pa_cons (pv 6) pa_nil)) (pv 8) (nomark _)))))) (pss_one (ps_ret (pe_bl))) pss_nil)
  (pss_cons (ps_expr (pe_bm PySem.F.plainAttrs_list PySem.F.slot_list_append PySem.F.type_list_append mt_append (pv 7) (pa_cons (pe_non) pa_nil)))
  (pss_one (ps_if (pt_cmpR op_ne (pe_callB (cr_repr hq hr.units) (by rfl) T.z_repr (by decide +kernel) (pa_cons (pe_cl D_word_order (hr.mono (by decide)) (pa_cons (pv 6) pa_nil)) pa_nil)) (pe_callB (cr_repr hq hr.units) (by rfl) T.z_repr (by decide +kernel) (pa_cons (pv 9) pa_nil)) (nomark _)) (pss_one (ps_ret (pe_bl))) pss_nil)))))))))))
  (pss_one (ps_ret (pe_bl))))))), ?_⟩
    obtain ⟨a, ns, rfl, hs, hl, k⟩ := h
    -- pen = _law_pen(script)
    refine ⟨_, rfl, a, ns, rfl, hs, hl, fun p c H1 s1 hp0 hp1 => ?_⟩
    -- some = [..]; repr(some)
    refine ⟨by show 11 ≤ sizeLine; decide, fun so hso => ?_⟩
    have hp2 := hp1.same (sm1 (o := .lst [.int 12, .int 200, .int 600, .int 600, .int 60, .int 8, .int 2000, .int 4, .int 20, .int 8, .int 300]) hso)
    have sh0 : Shw 1000 (.list [.int 12, .int 200, .int 600, .int 600, .int 60, .int 8, .int 2000, .int 4, .int 20, .int 8, .int 300]) := ⟨by decide +kernel, by decide +kernel, by decide +kernel, by decide +kernel⟩
    have dp0 : Dp K (upd H1 so (.lst [.int 12, .int 200, .int 600, .int 600, .int 60, .int 8, .int 2000, .int 4, .int 20, .int 8, .int 300])) (.ref so) (.list [.int 12, .int 200, .int 600, .int 600, .int 60, .int 8, .int 2000, .int 4, .int 20, .int 8, .int 300]) :=
      .lst (SqL.of upd_same) (dpAll_ints (ns := [12, 200, 600, 600, 60, 8, 2000, 4, 20, 8, 300]))
    refine ⟨_, rfl, _, _, rfl, dp0, sh0.s, sh0.dp, sh0.sz (by decide), rfl, _, rfl, iteNS (by decide +kernel) ?_⟩
    generalize upd H1 so _ = H2 at hp2 ⊢
    refine ⟨6, rfl, by decide, by decide, for_range (n := 6) (fun i σ H' => ∃ v3 v4 v5 v6 v7 v8 v9 v10 v11 v12 : Option V, σ = [some (.ref a), some (.ref p), some (.ref so), v3, v4, v5, v6, v7, v8, v9, v10, v11, v12] ∧ Pen H' p c (200 * i))
      ⟨_, _, _, _, _, _, _, _, _, _, rfl, hp2⟩ ?_ fun σ H' _ => k H'⟩
    rintro i σ H3 hi ⟨v3, v4, v5, v6, v7, v8, v9, v10, v11, v12, rfl, hp3⟩
    -- letters
    refine ⟨_, rfl, p, c, _, 4, rfl, hp3, by omega, by decide, by decide, fun z H4 bt4 hp4 lz => ?_⟩
    -- words
    refine ⟨_, rfl, p, c, _, 9, rfl, hp4, by omega, by decide, by decide, fun d H5 d0 d1 bt5 hp5 => ⟨d, rfl, by omega, by omega, fun D hD => ?_⟩⟩
    obtain ⟨Dp, Dc⟩ := hp5.off hD
    refine lc_range (lo := 0) (n := d.toNat) (fun j H' => Pen H' p c (200 * i + 28 + 7 * j) ∧ ∃ ys : List Str, H' D = some (.lst (ys.map V.str)) ∧ ys.length = j ∧ ∀ y ∈ ys, Wd 6 y) ⟨hp5.same (sm1 hD), [], upd_same, rfl, fun y hy => by cases hy⟩ ?_ ?_
    · rintro j H' hj ⟨hp', ys, hD', yl, hy⟩
      refine ⟨rfl, _, rfl, _, rfl, p, c, _, z, 6, rfl, hp', by omega, lz.2.2.1, by have := lz.2.2.2; have e4 : (4 : Int).toNat = 4 := rfl; omega, by decide, by decide, fun y H6 bt6 hp6 y1 y2 => ?_⟩
      refine ⟨_, bt6 _ _ Dp hD', ?_, (hp6.wr Dp Dc).up (by have e6 : (6 : Int).toNat = 6 := rfl; omega), ys ++ [y], ?_, ?_, ?_⟩
      · rw [List.length_map, yl]
        exact Nat.lt_of_lt_of_le (show j < 10 by omega) (by decide)
      · rw [upd_same, List.map_append]
        rfl
      · rw [List.length_append, yl]
        rfl
      · intro x hx
        rcases List.mem_append.mp hx with hx | hx
        · exact hy x hx
        · rw [List.mem_singleton.mp hx]
          exact ⟨y1, fun ch hch => lz.2.1 ch (y2 ch hch)⟩
    rintro H6 ⟨hp6, ys, hD6, yl, hy⟩
    -- words = words + words[:..]
    refine ⟨_, rfl, _, rfl, _, rfl, p, c, _, 3, rfl, hp6, by omega, by decide, by decide, fun d2 H7 e0 e1 bt7 hp7 => ?_⟩
    have hD7 := bt7 _ _ Dp hD6
    refine ⟨_, rfl, D, _, rfl, SqL.of hD7, fun q hq => ?_⟩
    rw [cut_front e0]
    have hp8 := hp7.same (sm1 (o := .lst ((ys.take d2.toNat).map V.str)) hq)
    refine ⟨D, q, ys.map V.str, (ys.take d2.toNat).map V.str, rfl, rfl, sm1 hq _ _ hD7, upd_same, ?_, fun wl hwl => ?_⟩
    · rw [List.length_map, List.length_map, List.length_take, yl]
      exact Nat.le_trans (show d.toNat + min d2.toNat d.toNat ≤ 100 by omega) (by decide)
    generalize upd H7 q _ = H8 at hp8 hwl ⊢
    rw [← List.map_append]
    obtain ⟨ws, ews⟩ : ∃ ws, ys ++ ys.take d2.toNat = ws := ⟨_, rfl⟩
    have wlen : ws.length ≤ 10 := by rw [← ews, List.length_append, List.length_take, yl]; omega
    have hw : ∀ y ∈ ws, Wd 6 y := fun y hm => by
      rw [← ews] at hm
      rcases List.mem_append.mp hm with hm | hm
      · exact hy y hm
      · exact hy y (List.mem_of_mem_take hm)
    rw [ews]
    have hp9 := hp8.same (sm1 (o := .lst (ws.map V.str)) hwl)
    have hw9 : (upd H8 wl (.lst (ws.map V.str))) wl = some (.lst (ws.map V.str)) := upd_same
    have wp : wl ≠ p := (hp8.off hwl).1
    generalize upd H8 wl (.lst (ws.map V.str)) = H9 at hp9 hw9 ⊢
    -- handed = [words, tuple(words)][..]
    refine ⟨_, rfl, _, rfl, wl, _, rfl, .inl ⟨SqL.of hw9, fun t ht => ⟨by show 2 ≤ sizeLine; decide, fun l hl0 => ?_⟩⟩⟩
    have s10 : Same H9 (upd (upd H9 t (.tup (ws.map V.str))) l (.lst [.ref wl, .ref t])) := fun b o e => sm1 hl0 b o (sm1 ht b o e)
    have ht10 : (upd (upd H9 t (.tup (ws.map V.str))) l (.lst [.ref wl, .ref t])) t = some (.tup (ws.map V.str)) := sm1 hl0 _ _ upd_same
    have hl10 : (upd (upd H9 t (.tup (ws.map V.str))) l (.lst [.ref wl, .ref t])) l = some (.lst [.ref wl, .ref t]) := upd_same
    have hp10 := hp9.same s10
    have hw10 := s10 _ _ hw9
    generalize upd (upd H9 t (.tup (ws.map V.str))) l (.lst [.ref wl, .ref t]) = H10 at s10 ht10 hl10 hp10 hw10 ⊢
    refine ⟨_, rfl, p, c, _, 2, rfl, hp10, by omega, by decide, by decide, fun d3 H11 g0 g1 bt11 hp11 => ?_⟩
    have hw11 : SqL K H11 wl (ws.map V.str) := bt11.sql hp10 (SqL.of hw10)
    have ht11 : SqT K H11 t (ws.map V.str) := bt11.sqt hp10 (SqT.of ht10)
    have hl11 : SqL K H11 l [.ref wl, .ref t] := bt11.sql hp10 (SqL.of hl10)
    obtain ⟨hv, dh, ev, hsq, dph, shh⟩ : ∃ hv dh, atI [V.ref wl, V.ref t] d3 = some (.ref hv) ∧ (SqL K H11 hv (ws.map V.str) ∨ SqT K H11 hv (ws.map V.str)) ∧ L2.Dp K H11 (.ref hv) dh ∧ Shw 1000 dh := by
      rcases (show d3 = 0 ∨ d3 = 1 by omega) with rfl | rfl
      · exact ⟨wl, .list (ws.map PyData.str), rfl, .inl hw11, .lst hw11 dpAll_strs, (shw_words hw wlen).more (by decide)⟩
      · exact ⟨t, .tuple (ws.map PyData.str), rfl, .inr ht11, .tup ht11 dpAll_strs, (shw_wordsT hw wlen).more (by decide)⟩
    refine ⟨l, _, d3, _, rfl, rfl, hl11, ev, ?_⟩
    -- same, due = (repr(handed), [..])
    refine ⟨_, rfl, _, dh, rfl, dph, shh.s, shh.dp, shh.sz (by decide), ?_⟩
    refine ⟨_, rfl, wl, rfl, ⟨_, hw11⟩, fun D2 hD2 => ?_⟩
    refine lc_list (K := K) (a := wl) (xs := ws.map V.str) (fun j H' => Same H11 H' ∧ ∃ ts : List (Addr × Str), H' D2 = some (.lst (ts.map fun q => V.ref q.1)) ∧ ts.map (·.2) = ws.take j ∧ ∀ q ∈ ts, H' q.1 = some (.tup [.int (q.2.length : Int), .str q.2]))
      ⟨sm1 hD2, [], upd_same, rfl, fun q hq => by cases hq⟩ (fun j H' _ ⟨sm, _⟩ => sm.seq hw11) ?_ ?_
    · rintro j x H' hx ⟨sm, ts, hD', et, hts⟩
      rw [List.getElem?_map] at hx
      obtain ⟨y, hy', rfl⟩ := Option.map_eq_some_iff.mp hx
      have hym : y ∈ ws := List.mem_of_getElem? hy'
      have tl : ts.length ≤ 10 := by
        have e := congrArg List.length et
        rw [List.length_map, List.length_take] at e
        omega
      refine ⟨rfl, _, rfl, _, rfl, Nat.le_trans (hw y hym).1 (by decide), _, rfl, by show 2 ≤ sizeLine; decide, fun t2 ht2 => ?_⟩
      have nD : D2 ≠ t2 := ne_of_none hD' ht2
      refine ⟨_, (by rw [upd_ne nD]; exact hD'), ?_, swr (sm.trans (sm1 ht2)) hD2, ts ++ [(t2, y)], ?_, ?_, ?_⟩
      · rw [List.length_map]
        exact Nat.lt_of_le_of_lt tl (by decide)
      · rw [upd_same, List.map_append]
        rfl
      · rw [List.map_append, et, List.take_succ, hy']
        rfl
      · intro q hq
        have nq : q.1 ≠ D2 := fun z => by
          rcases List.mem_append.mp hq with hq | hq
          · have := hts q hq
            rw [z, hD'] at this
            cases this
          · rw [List.mem_singleton.mp hq] at z
            exact nD z.symm
        rw [upd_ne nq]
        rcases List.mem_append.mp hq with hq | hq
        · rw [upd_ne (ne_of_none (hts q hq) ht2)]
          exact hts q hq
        · rw [List.mem_singleton.mp hq, upd_same]
    rintro H12 ⟨s12, ts, hD12, et, hts⟩
    rw [List.length_map, List.take_length] at et
    have tin : ∀ q ∈ ts, q.2 ∈ ws := fun q hq => by rw [← et]; exact List.mem_map.mpr ⟨q, hq, rfl⟩
    let vp : Addr × Str → VD := fun q => (.ref q.1, pair q.2)
    have ef : ∀ us : List (Addr × Str), firsts (us.map vp) = us.map fun q => V.ref q.1 := fun us => by
      unfold firsts
      rw [List.map_map]
      rfl
    obtain ⟨ss, ess⟩ : ∃ ss, ts.mergeSort (fun a b => leP a.2 b.2) = ss := ⟨_, rfl⟩
    have es : (ts.map vp).mergeSort leD = ss.map vp := by
      rw [← ess]
      exact (PySem.W.sort_maps (r := fun a b : Addr × Str => leP a.2 b.2) (s := leD) vp fun a _ b _ => rfl).symm
    have e2 : ss.map (·.2) = ws.mergeSort leP := by
      rw [← ess, ← et]
      exact PySem.W.sort_maps (r := fun a b : Addr × Str => leP a.2 b.2) (s := leP) (fun q : Addr × Str => q.2) fun a _ b _ => rfl
    have sin : ∀ q ∈ ss, q ∈ ts := fun q hq => by
      rw [← ess] at hq
      exact List.mem_mergeSort.mp hq
    have slen : ss.length ≤ 10 := by
      have e := congrArg List.length e2
      rw [List.length_map, List.length_mergeSort] at e
      omega
    refine ⟨D2, ts.map vp, rfl, .inl (by rw [ef]; exact SqL.of hD12), fun q hq => ?_, ?_, ?_, fun q hq => ?_, fun l2 hl2 => ?_⟩
    · obtain ⟨r, hr', rfl⟩ := List.mem_map.mp hq
      exact .tup (SqT.of (hts r hr')) (.cons (.int _) (.cons (.str _) .nil))
    · rw [List.map_map]
      exact PySem.W.AllAlike.of fun b b' => rfl
    · rw [List.map_map]
      exact PySem.W.Sortable.tuples fun b => ⟨_, _, rfl⟩
    · obtain ⟨r, _, rfl⟩ := List.mem_map.mp hq
      show PyData.depth (pair r.2) ≤ 20
      exact Nat.le_trans (Nat.le_of_eq rfl) (by decide : 1 ≤ 20)
    rw [es, ef]
    have s13 := s12.trans (sm1 (o := .lst (ss.map fun q => V.ref q.1)) hl2)
    have hl13 : SqL K (upd H12 l2 (.lst (ss.map fun q => V.ref q.1))) l2 (ss.map fun q => V.ref q.1) := SqL.of upd_same
    have hts13 : ∀ q ∈ ss, (upd H12 l2 (.lst (ss.map fun q => V.ref q.1))) q.1 = some (.tup [.int (q.2.length : Int), .str q.2]) := fun q hq => sm1 hl2 _ _ (hts q (sin q hq))
    generalize upd H12 l2 (.lst (ss.map fun q => V.ref q.1)) = H13 at s13 hl13 hts13 ⊢
    refine ⟨l2, rfl, ⟨_, hl13⟩, fun D3 hD3 => ?_⟩
    refine lc_list (K := K) (a := l2) (xs := ss.map fun q => V.ref q.1) (fun j H' => Same H13 H' ∧ H' D3 = some (.lst ((ss.take j).map fun q => V.str q.2))) ⟨sm1 hD3, upd_same⟩ (fun j H' _ ⟨sm, _⟩ => sm.seq hl13) ?_ ?_
    · rintro j x H' hx ⟨sm, hD'⟩
      rw [List.getElem?_map] at hx
      obtain ⟨q, hq', rfl⟩ := Option.map_eq_some_iff.mp hx
      have hqm : q ∈ ss := List.mem_of_getElem? hq'
      refine ⟨q.1, _, rfl, SqT.of (sm _ _ (hts13 q hqm)), rfl, _, _, rfl, _, _, rfl, rfl, rfl, _, rfl, _, hD', ?_, swr sm hD3, ?_⟩
      · rw [List.length_map, List.length_take]
        exact Nat.lt_of_le_of_lt (show min j ss.length ≤ 10 by omega) (by decide)
      · rw [upd_same, List.take_succ, hq', List.map_append]
        rfl
    rintro H14 ⟨s14', hD14⟩
    rw [List.length_map, List.take_length] at hD14
    have eD : (ss.map fun q : Addr × Str => V.str q.2) = (ws.mergeSort leP).map V.str := by
      rw [← e2, List.map_map]
      rfl
    rw [eD] at hD14
    have s14 := s13.trans s14'
    refine ⟨_, _, rfl, ?_⟩
    -- told = word_order(handed)
    have hsq14 : SqL K H14 hv (ws.map V.str) ∨ SqT K H14 hv (ws.map V.str) := hsq.elim (fun h => .inl ((Stay.of s14).l _ _ h)) (fun h => .inr ((Stay.of s14).t _ _ h))
    refine ⟨_, rfl, hv, ws, rfl, hsq14, by omega, fun z hz => Nat.le_trans (hw z hz).1 (by decide), fun l3 H15 s15 hl3 hl3' => ?_⟩
    rw [order_eq] at hl3'
    have ow : ∀ z ∈ ws.mergeSort leP, Wd 6 z := fun z hz => hw z (List.mem_mergeSort.mp hz)
    have sho : Shw 1000 (.list ((ws.mergeSort leP).map PyData.str)) := (shw_words ow (n := 10) (by rw [List.length_mergeSort]; exact wlen)).more (by decide)
    have dpd : L2.Dp K H15 (.ref D3) (.list ((ws.mergeSort leP).map PyData.str)) := .lst (SqL.of (s15 _ _ hD14)) dpAll_strs
    have dpt : L2.Dp K H15 (.ref l3) (.list ((ws.mergeSort leP).map PyData.str)) := .lst (SqL.of hl3') dpAll_strs
    have dph15 : L2.Dp K H15 (.ref hv) dh := (Stay.of (s14.trans s15)).dp dph
    refine ⟨_, rfl, _, "list", rfl, RZ.Ty4.lst hl3', _, rfl, iteF ?_⟩
    refine ⟨_, rfl, _, _, rfl, dpt, sho.s, sho.dp, sho.sz (by decide), _, rfl, _, _, rfl, dpd, sho.s, sho.dp, sho.sz (by decide), rfl, _, rfl, iteNS rfl ?_⟩
    refine ⟨_, rfl, _, _, rfl, dph15, shh.s, shh.dp, shh.sz (by decide), _, rfl, rfl, _, rfl, iteNS rfl ?_⟩
    -- told.append(None)
    refine ⟨_, rfl, .inl ⟨rfl, _, SqL.of hl3'⟩, l3, _, _, rfl, rfl, hl3', ?_, ?_⟩
    · rw [List.length_map, List.length_mergeSort]
      exact Nat.lt_of_le_of_lt wlen (by decide)
    have s16 : Same H14 (upd H15 l3 (.lst ((ws.mergeSort leP).map V.str ++ [.non]))) := swr s15 hl3
    generalize upd H15 l3 _ = H16 at s16 ⊢
    have hsq16 : SqL K H16 hv (ws.map V.str) ∨ SqT K H16 hv (ws.map V.str) := hsq14.elim (fun h => .inl ((Stay.of s16).l _ _ h)) (fun h => .inr ((Stay.of s16).t _ _ h))
    refine ⟨_, rfl, hv, ws, rfl, hsq16, by omega, fun z hz => Nat.le_trans (hw z hz).1 (by decide), fun l4 H17 s17 hl4 hl4' => ?_⟩
    rw [order_eq] at hl4'
    have dpd17 : L2.Dp K H17 (.ref D3) (.list ((ws.mergeSort leP).map PyData.str)) := .lst (SqL.of (s17 _ _ (s16 _ _ hD14))) dpAll_strs
    refine ⟨_, _, rfl, .lst (SqL.of hl4') dpAll_strs, sho.s, sho.dp, sho.sz (by decide), _, rfl, _, _, rfl, dpd17, sho.s, sho.dp, sho.sz (by decide), rfl, _, rfl, iteNS rfl ?_⟩
    exact ⟨_, _, _, _, _, _, _, _, _, _, rfl, (hp11.same ((s14.trans s16).trans s17)).up (by omega)⟩
end
end Wf
namespace Wf
open PySem L2
theorem all_mk {l : PySem.W.OpenLaw} {w : World} {K : PySem.W.Frag} {h : Heap} {mg : Str → Option Value} {fa f_law_pen f_law_draw f_law_pick f_law_shuffled f_law_letters f_law_word f_word_order f_law : Addr} (X : K.In h) (G : h.Ns mainGlobals mg) (hfa : mg "law" = some (.ref fa))
    {od_law_pen an_law_pen : Option Addr} {sl_law_pen : Array (Option Value)} {oc_law_pen kV_law_pen dc_law_pen pm_law_pen cd_law_pen ct_law_pen : Value}
    {od_law_draw an_law_draw : Option Addr} {sl_law_draw : Array (Option Value)} {oc_law_draw kV_law_draw dc_law_draw pm_law_draw cd_law_draw ct_law_draw : Value}
    {od_law_pick an_law_pick : Option Addr} {sl_law_pick : Array (Option Value)} {oc_law_pick kV_law_pick dc_law_pick pm_law_pick cd_law_pick ct_law_pick : Value}
    {od_law_shuffled an_law_shuffled : Option Addr} {sl_law_shuffled : Array (Option Value)} {oc_law_shuffled kV_law_shuffled dc_law_shuffled pm_law_shuffled cd_law_shuffled ct_law_shuffled : Value}
    {od_law_letters an_law_letters : Option Addr} {sl_law_letters : Array (Option Value)} {oc_law_letters kV_law_letters dc_law_letters pm_law_letters cd_law_letters ct_law_letters : Value}
    {od_law_word an_law_word : Option Addr} {sl_law_word : Array (Option Value)} {oc_law_word kV_law_word dc_law_word pm_law_word cd_law_word ct_law_word : Value}
    {od_word_order an_word_order : Option Addr} {sl_word_order : Array (Option Value)} {oc_word_order kV_word_order dc_word_order pm_word_order cd_word_order ct_word_order : Value}
    {od_law an_law : Option Addr} {sl_law : Array (Option Value)} {oc_law kV_law dc_law pm_law cd_law ct_law : Value}
    (a_law_pen : PySem.W.nsIn K mainGlobals "_law_pen" = some (some (.ref f_law_pen)))
    (l_law_pen : K.lookup f_law_pen = some ⟨oc_law_pen, od_law_pen, .func (PySem.W.fnOf "_law_pen" "_law_pen" (defArgs s_law_pen) (defBody s_law_pen) (defScope s_law_pen) .none kV_law_pen dc_law_pen pm_law_pen an_law_pen cd_law_pen ct_law_pen), sl_law_pen⟩)
    (c_law_pen : PySem.W.codeIn K cd_law_pen "_law_pen" = true) (k_law_pen : PySem.W.keepIn K (.ref f_law_pen) = true)
    (a_law_draw : PySem.W.nsIn K mainGlobals "_law_draw" = some (some (.ref f_law_draw)))
    (l_law_draw : K.lookup f_law_draw = some ⟨oc_law_draw, od_law_draw, .func (PySem.W.fnOf "_law_draw" "_law_draw" (defArgs s_law_draw) (defBody s_law_draw) (defScope s_law_draw) .none kV_law_draw dc_law_draw pm_law_draw an_law_draw cd_law_draw ct_law_draw), sl_law_draw⟩)
    (c_law_draw : PySem.W.codeIn K cd_law_draw "_law_draw" = true) (k_law_draw : PySem.W.keepIn K (.ref f_law_draw) = true)
    (a_law_pick : PySem.W.nsIn K mainGlobals "_law_pick" = some (some (.ref f_law_pick)))
    (l_law_pick : K.lookup f_law_pick = some ⟨oc_law_pick, od_law_pick, .func (PySem.W.fnOf "_law_pick" "_law_pick" (defArgs s_law_pick) (defBody s_law_pick) (defScope s_law_pick) .none kV_law_pick dc_law_pick pm_law_pick an_law_pick cd_law_pick ct_law_pick), sl_law_pick⟩)
    (c_law_pick : PySem.W.codeIn K cd_law_pick "_law_pick" = true) (k_law_pick : PySem.W.keepIn K (.ref f_law_pick) = true)
    (a_law_shuffled : PySem.W.nsIn K mainGlobals "_law_shuffled" = some (some (.ref f_law_shuffled)))
    (l_law_shuffled : K.lookup f_law_shuffled = some ⟨oc_law_shuffled, od_law_shuffled, .func (PySem.W.fnOf "_law_shuffled" "_law_shuffled" (defArgs s_law_shuffled) (defBody s_law_shuffled) (defScope s_law_shuffled) .none kV_law_shuffled dc_law_shuffled pm_law_shuffled an_law_shuffled cd_law_shuffled ct_law_shuffled), sl_law_shuffled⟩)
    (c_law_shuffled : PySem.W.codeIn K cd_law_shuffled "_law_shuffled" = true) (k_law_shuffled : PySem.W.keepIn K (.ref f_law_shuffled) = true)
    (a_law_letters : PySem.W.nsIn K mainGlobals "_law_letters" = some (some (.ref f_law_letters)))
    (l_law_letters : K.lookup f_law_letters = some ⟨oc_law_letters, od_law_letters, .func (PySem.W.fnOf "_law_letters" "_law_letters" (defArgs s_law_letters) (defBody s_law_letters) (defScope s_law_letters) .none kV_law_letters dc_law_letters pm_law_letters an_law_letters cd_law_letters ct_law_letters), sl_law_letters⟩)
    (c_law_letters : PySem.W.codeIn K cd_law_letters "_law_letters" = true) (k_law_letters : PySem.W.keepIn K (.ref f_law_letters) = true)
    (a_law_word : PySem.W.nsIn K mainGlobals "_law_word" = some (some (.ref f_law_word)))
    (l_law_word : K.lookup f_law_word = some ⟨oc_law_word, od_law_word, .func (PySem.W.fnOf "_law_word" "_law_word" (defArgs s_law_word) (defBody s_law_word) (defScope s_law_word) .none kV_law_word dc_law_word pm_law_word an_law_word cd_law_word ct_law_word), sl_law_word⟩)
    (c_law_word : PySem.W.codeIn K cd_law_word "_law_word" = true) (k_law_word : PySem.W.keepIn K (.ref f_law_word) = true)
    (a_word_order : PySem.W.nsIn K mainGlobals "word_order" = some (some (.ref f_word_order)))
    (l_word_order : K.lookup f_word_order = some ⟨oc_word_order, od_word_order, .func (PySem.W.fnOf "word_order" "word_order" (defArgs s_word_order) (defBody s_word_order) (defScope s_word_order) .none kV_word_order dc_word_order pm_word_order an_word_order cd_word_order ct_word_order), sl_word_order⟩)
    (c_word_order : PySem.W.codeIn K cd_word_order "word_order" = true) (k_word_order : PySem.W.keepIn K (.ref f_word_order) = true)
    (a_law : PySem.W.nsIn K mainGlobals "law" = some (some (.ref f_law)))
    (l_law : K.lookup f_law = some ⟨oc_law, od_law, .func (PySem.W.fnOf "law" "law" (defArgs s_law) (defBody s_law) (defScope s_law) .none kV_law dc_law pm_law an_law cd_law ct_law), sl_law⟩)
    (c_law : PySem.W.codeIn K cd_law "law" = true) (k_law : PySem.W.keepIn K (.ref f_law) = true)
    (z_list : PySem.W.nsIn K mainGlobals "list" = some none)
    (z_len : PySem.W.nsIn K mainGlobals "len" = some none)
    (z_abs : PySem.W.nsIn K mainGlobals "abs" = some none)
    (z_range : PySem.W.nsIn K mainGlobals "range" = some none)
    (z_sorted : PySem.W.nsIn K mainGlobals "sorted" = some none)
    (z_repr : PySem.W.nsIn K mainGlobals "repr" = some none)
    (z_tuple : PySem.W.nsIn K mainGlobals "tuple" = some none)
    (z_isinstance : PySem.W.nsIn K mainGlobals "isinstance" = some none)
    {t_LENGTH : Tok} (g_LENGTH : PySem.W.nsIn K mainGlobals "LENGTH" = some (some (.int 12 t_LENGTH)))
    {t_WORDS : Tok} (g_WORDS : PySem.W.nsIn K mainGlobals "WORDS" = some (some (.int 200 t_WORDS)))
    {t_PREFIXES : Tok} (g_PREFIXES : PySem.W.nsIn K mainGlobals "PREFIXES" = some (some (.int 600 t_PREFIXES)))
    {t_STATES : Tok} (g_STATES : PySem.W.nsIn K mainGlobals "STATES" = some (some (.int 600 t_STATES)))
    {t_POINTS : Tok} (g_POINTS : PySem.W.nsIn K mainGlobals "POINTS" = some (some (.int 60 t_POINTS)))
    {t_CHOICES : Tok} (g_CHOICES : PySem.W.nsIn K mainGlobals "CHOICES" = some (some (.int 8 t_CHOICES)))
    {t_NODES : Tok} (g_NODES : PySem.W.nsIn K mainGlobals "NODES" = some (some (.int 2000 t_NODES)))
    {t_TOLD : Tok} (g_TOLD : PySem.W.nsIn K mainGlobals "TOLD" = some (some (.int 4 t_TOLD)))
    {t_COMPARED : Tok} (g_COMPARED : PySem.W.nsIn K mainGlobals "COMPARED" = some (some (.int 20 t_COMPARED)))
    {t_FAULTS : Tok} (g_FAULTS : PySem.W.nsIn K mainGlobals "FAULTS" = some (some (.int 8 t_FAULTS)))
    {t_LESSON : Tok} (g_LESSON : PySem.W.nsIn K mainGlobals "LESSON" = some (some (.int 300 t_LESSON)))
    : ∃ fd : FuncData, (∀ (t : Shared) (v : Value), BindsTo t fd ⟨[v], []⟩ [("script", v)]) ∧ ∀ base : Heap, K.In base → base.Ns mainGlobals mg → FnG l.prog w K mg base CX0 4 fa fd ["script"] (spLaw K) := by
  have e := hfa.symm.trans (PySem.W.mg_of X G a_law)
  cases e
  have Z_list := PySem.W.mg_none_of X G z_list
  have Z_len := PySem.W.mg_none_of X G z_len
  have Z_abs := PySem.W.mg_none_of X G z_abs
  have Z_range := PySem.W.mg_none_of X G z_range
  have Z_sorted := PySem.W.mg_none_of X G z_sorted
  have Z_repr := PySem.W.mg_none_of X G z_repr
  have Z_tuple := PySem.W.mg_none_of X G z_tuple
  have Z_isinstance := PySem.W.mg_none_of X G z_isinstance
  have G_LENGTH := PySem.W.mg_of X G g_LENGTH
  have G_WORDS := PySem.W.mg_of X G g_WORDS
  have G_PREFIXES := PySem.W.mg_of X G g_PREFIXES
  have G_STATES := PySem.W.mg_of X G g_STATES
  have G_POINTS := PySem.W.mg_of X G g_POINTS
  have G_CHOICES := PySem.W.mg_of X G g_CHOICES
  have G_NODES := PySem.W.mg_of X G g_NODES
  have G_TOLD := PySem.W.mg_of X G g_TOLD
  have G_COMPARED := PySem.W.mg_of X G g_COMPARED
  have G_FAULTS := PySem.W.mg_of X G g_FAULTS
  have G_LESSON := PySem.W.mg_of X G g_LESSON
  have T := (⟨⟨Z_list, Z_len, Z_abs, Z_range, Z_sorted⟩, Z_repr, Z_tuple, Z_isinstance, ⟨_, G_LENGTH⟩, ⟨_, G_WORDS⟩, ⟨_, G_PREFIXES⟩, ⟨_, G_STATES⟩, ⟨_, G_POINTS⟩, ⟨_, G_CHOICES⟩, ⟨_, G_NODES⟩, ⟨_, G_TOLD⟩, ⟨_, G_COMPARED⟩, ⟨_, G_FAULTS⟩, ⟨_, G_LESSON⟩⟩ : TxtK K mg)
  have F_law_pen := fun_mk (st := s_law_pen) l_law_pen c_law_pen k_law_pen
  have b_law_pen := F_law_pen.binds (ps := ["script"]) fun _ _ _ _ _ _ us hl => match us, hl with | [_], _ => rfl
  have F_law_draw := fun_mk (st := s_law_draw) l_law_draw c_law_draw k_law_draw
  have b_law_draw := F_law_draw.binds (ps := ["pen", "many"]) fun _ _ _ _ _ _ us hl => match us, hl with | [_, _], _ => rfl
  have F_law_pick := fun_mk (st := s_law_pick) l_law_pick c_law_pick k_law_pick
  have b_law_pick := F_law_pick.binds (ps := ["pen", "some"]) fun _ _ _ _ _ _ us hl => match us, hl with | [_, _], _ => rfl
  have F_law_shuffled := fun_mk (st := s_law_shuffled) l_law_shuffled c_law_shuffled k_law_shuffled
  have b_law_shuffled := F_law_shuffled.binds (ps := ["pen", "some"]) fun _ _ _ _ _ _ us hl => match us, hl with | [_, _], _ => rfl
  have F_law_letters := fun_mk (st := s_law_letters) l_law_letters c_law_letters k_law_letters
  have b_law_letters := F_law_letters.binds (ps := ["pen", "most"]) fun _ _ _ _ _ _ us hl => match us, hl with | [_, _], _ => rfl
  have F_law_word := fun_mk (st := s_law_word) l_law_word c_law_word k_law_word
  have b_law_word := F_law_word.binds (ps := ["pen", "letters", "most"]) fun _ _ _ _ _ _ us hl => match us, hl with | [_, _, _], _ => rfl
  have F_word_order := fun_mk (st := s_word_order) l_word_order c_word_order k_word_order
  have b_word_order := F_word_order.binds (ps := ["words"]) fun _ _ _ _ _ _ us hl => match us, hl with | [_], _ => rfl
  have F_law := fun_mk (st := s_law) l_law c_law k_law
  have b_law := F_law.binds (ps := ["script"]) fun _ _ _ _ _ _ us hl => match us, hl with | [_], _ => rfl
  refine ⟨PySem.W.fnOf "law" "law" (defArgs s_law) (defBody s_law) (defScope s_law) .none kV_law dc_law pm_law an_law cd_law ct_law, fun t v => .of_eq rfl, fun base _ _ => ?_⟩
  have D_law_pen : Dn l.prog w K mg base 1 "_law_pen" ["script"] (spPen K) := ⟨_, _, ok_pen F_law_pen T.toTxt, PySem.W.mg_of X G a_law_pen, k_law_pen, b_law_pen⟩
  have D_law_draw : Dn l.prog w K mg base 1 "_law_draw" ["pen", "many"] spDraw := ⟨_, _, ok_draw F_law_draw T.toTxt, PySem.W.mg_of X G a_law_draw, k_law_draw, b_law_draw⟩
  have D_law_pick : Dn l.prog w K mg base 2 "_law_pick" ["pen", "some"] (spPick K) := ⟨_, _, ok_pick F_law_pick T.toTxt D_law_draw, PySem.W.mg_of X G a_law_pick, k_law_pick, b_law_pick⟩
  have D_law_shuffled : Dn l.prog w K mg base 2 "_law_shuffled" ["pen", "some"] (spShuffled K) := ⟨_, _, ok_shuffled F_law_shuffled T.toTxt D_law_draw, PySem.W.mg_of X G a_law_shuffled, k_law_shuffled, b_law_shuffled⟩
  have D_law_letters : Dn l.prog w K mg base 3 "_law_letters" ["pen", "most"] spLetters := ⟨_, _, ok_letters F_law_letters T.toTxt D_law_draw D_law_shuffled, PySem.W.mg_of X G a_law_letters, k_law_letters, b_law_letters⟩
  have D_law_word : Dn l.prog w K mg base 3 "_law_word" ["pen", "letters", "most"] spWord := ⟨_, _, ok_word F_law_word T.toTxt D_law_draw D_law_pick, PySem.W.mg_of X G a_law_word, k_law_word, b_law_word⟩
  have D_word_order : Dn l.prog w K mg base 1 "word_order" ["words"] (spOrder K) := ⟨_, _, ok_order F_word_order T, PySem.W.mg_of X G a_word_order, k_word_order, b_word_order⟩
  exact ok_law F_law T D_law_pen D_law_draw D_law_letters D_law_word D_word_order
end Wf

open PySem PySem.W PyProof.Rows in
set_option maxRecDepth 100000 in
set_option maxHeartbeats 0 in
theorem PySem.Challenge.cw_wordfit_k01_words_in_order_holds : PySem.Challenge.rw_wordfit_k01_words_in_order.Holds := by
  w_on; o_law; k_head; (case hw => w_witness2)
  k_fill
  refine Wf.walkG (l := PySem.Challenge.rw_wordfit_k01_words_in_order) (sp := Wf.spLaw) (n := 63) (k := 4) (x := "script") rfl (by decide) rfl ⟨rfl, by decide, by decide⟩ (fun w h Y => PySem.W.kIn_of Y) ?F (fun K H a ns hn hs => ⟨a, ns, rfl, hs, hn, fun _ => rfl⟩)
  case F =>
    intro w mg fa h KX G hmg
    refine' Wf.all_mk KX G hmg ?a_law_pen ?l_law_pen ?c_law_pen ?k_law_pen ?a_law_draw ?l_law_draw ?c_law_draw ?k_law_draw ?a_law_pick ?l_law_pick ?c_law_pick ?k_law_pick ?a_law_shuffled ?l_law_shuffled ?c_law_shuffled ?k_law_shuffled ?a_law_letters ?l_law_letters ?c_law_letters ?k_law_letters ?a_law_word ?l_law_word ?c_law_word ?k_law_word ?a_word_order ?l_word_order ?c_word_order ?k_word_order ?a_law ?l_law ?c_law ?k_law ?z_list ?z_len ?z_abs ?z_range ?z_sorted ?z_repr ?z_tuple ?z_isinstance ?g_LENGTH ?g_WORDS ?g_PREFIXES ?g_STATES ?g_POINTS ?g_CHOICES ?g_NODES ?g_TOLD ?g_COMPARED ?g_FAULTS ?g_LESSON
    (case a_law_pen => k_is)
    (case l_law_pen => k_is)
    (case c_law_pen => k_is)
    (case k_law_pen => k_is)
    (case a_law_draw => k_is)
    (case l_law_draw => k_is)
    (case c_law_draw => k_is)
    (case k_law_draw => k_is)
    (case a_law_pick => k_is)
    (case l_law_pick => k_is)
    (case c_law_pick => k_is)
    (case k_law_pick => k_is)
    (case a_law_shuffled => k_is)
    (case l_law_shuffled => k_is)
    (case c_law_shuffled => k_is)
    (case k_law_shuffled => k_is)
    (case a_law_letters => k_is)
    (case l_law_letters => k_is)
    (case c_law_letters => k_is)
    (case k_law_letters => k_is)
    (case a_law_word => k_is)
    (case l_law_word => k_is)
    (case c_law_word => k_is)
    (case k_law_word => k_is)
    (case a_word_order => k_is)
    (case l_word_order => k_is)
    (case c_word_order => k_is)
    (case k_word_order => k_is)
    (case a_law => k_is)
    (case l_law => k_is)
    (case c_law => k_is)
    (case k_law => k_is)
    (case z_list => k_is)
    (case z_len => k_is)
    (case z_abs => k_is)
    (case z_range => k_is)
    (case z_sorted => k_is)
    (case z_repr => k_is)
    (case z_tuple => k_is)
    (case z_isinstance => k_is)
    (case g_LENGTH => k_is)
    (case g_WORDS => k_is)
    (case g_PREFIXES => k_is)
    (case g_STATES => k_is)
    (case g_POINTS => k_is)
    (case g_CHOICES => k_is)
    (case g_NODES => k_is)
    (case g_TOLD => k_is)
    (case g_COMPARED => k_is)
    (case g_FAULTS => k_is)
    (case g_LESSON => k_is)
