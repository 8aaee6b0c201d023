import PyProof.Rows.All
import Wide.All
import OpenK.AllK
import Wide.FinOn
import HandS.Base
import HandS.Call
import HandS.List
import HandS.Comp
import HandS.Ends
import HandS.Dict
import HandS.Iter
import HandS.Text
import HandS.Words
import PyProof.AutoSeq1
import PyProof.ReprRoads
import PyProof.CallFns
import HandS.IsInst
import HandS.Flow
import HandS.Style
import PyProof.FitsInt
import PyProof.StrLawsRepr
import HandS.Strs
import HandS.Zip
import HandS.Rev
import KE.GoesMore
import PyProof.EnumMake
import PyProof.Draws
import HandS.NoneIn
import KE.SortData
import HandS.Conv
import KE.DataCmp
import KE.DataMinMax
import PyProof.Rows.RowBridgeK
import KE.DataFind
import HandS.SetFor
import PyProof.Rows.CallKwBuiltin
import HandS.DictComp
import PyProof.DictUpdate
import HandS.Star
import HandS.Deep
import HandS.AnyAll
import HandS.GenOver
import PyProof.GenQ
import PyProof.ConsumeS
import HandS.EndTab
import KE.KStrOpen
import PyProof.ListStr
import PyProof.StrOps2
import KE.KxField
import HandS.FStr
import HandS.More
import KE.KRevSl
import HandS.Exc
import HandS.ExcInit
import HandS.ExcField
import HandS.ExcIs
import HandS.ExcOwn
import HandS.TryOnly
import HandS.WordsExc
import KE.KExcIs
import PyProof.IsRules
import HandS.RaiseMore
import HandS.ExcValue
import HandS.Small
import HandS.Replace
import HandS.ReplaceLit
import HandS.ReplaceList
import PyProof.ToksMono
import PySem.Challenge.RW_wagoncalls_k04_texts_of_no_moment
set_option Elab.async false
set_option linter.all false
set_option maxRecDepth 100000
set_option maxHeartbeats 4000000
/-! Wagon, part 1: promises of defs that are called where no repr runs (so that what repr tells is known). -/
namespace Wg
open PySem PySem.Spec PyProof.Rows L2

/-- room for calls, and no repr under way -/
structure Rm (k : Nat) (A : Around) : Prop where
  rm : Room k A
  gd : A.guards = some []
theorem Rm.mono {j k : Nat} {A : Around} (r : Rm k A) (h : j ≤ k) : Rm j A := ⟨r.rm.mono h, r.gd⟩
theorem Rm.deep {k : Nat} {A : Around} (r : Rm (k + 1) A) (v : Env) : Rm k (A.deeper v) := ⟨r.rm.deeper v, r.gd⟩

/-- the def at f keeps the promise sp -/
structure Keeps (P : Program) (w : World) (K : PySem.W.Frag) (mg : Str → Option Value) (b : Heap) (CX : CXT) (k : Nat) (f : Addr) (fd : FuncData) (ps : List Str) (sp : Sp) : Prop where
  len : ∀ vs H Q E, sp vs H Q E → vs.length = ps.length
  run : ∀ (A : Around) (o : List Env) (s : Shared) (H : Hp) (g : Args) (us : List Value) (vs : List V) (Q : VK) (E : XK),
    Rm k A → Env0 P w K mg b A o s H → BindsTo s fd g (ps.zip us) → Vals vs us → sp vs H Q E →
      codeAny (model P w) A (.call (.ref f) g) (CR CX o P w H s Q E) s
theorem Keeps.up {P : Program} {w : World} {K : PySem.W.Frag} {mg : Str → Option Value} {b : Heap} {CX : CXT} {j k : Nat} {f : Addr} {fd : FuncData} {ps : List Str} {sp : Sp}
    (F : Keeps P w K mg b CX j f fd ps sp) (h : j ≤ k) : Keeps P w K mg b CX k f fd ps sp :=
  ⟨F.len, fun A o s H g us vs Q E hr => F.run A o s H g us vs Q E (hr.mono h)⟩
theorem Keeps.weak {P : Program} {w : World} {K : PySem.W.Frag} {mg : Str → Option Value} {b : Heap} {CX : CXT} {k : Nat} {f : Addr} {fd : FuncData} {ps : List Str} {sp sp' : Sp}
    (F : Keeps P w K mg b CX k f fd ps sp) (h : ∀ vs H Q E, sp' vs H Q E → sp vs H Q E) : Keeps P w K mg b CX k f fd ps sp' :=
  ⟨fun vs H Q E q => F.len vs H Q E (h _ _ _ _ q), fun A o s H g us vs Q E h1 h2 h3 h4 h5 => F.run A o s H g us vs Q E h1 h2 h3 h4 (h _ _ _ _ h5)⟩

section
variable {X : Cx} {CX : CXT} {k : Nat} {f : Addr} {fd : FuncData} {ps : List Str} {sp : Sp} {E : XK} {x : Str} {p pos : Pos} {e : Expr} {es : List Expr} {t : TA}
theorem go_fn {pins : List (Addr × Obj)} {σ : L2.St} {H : Hp} {s : Shared} {Q : VK} {us : List Value} {vs : List V}
    (F : Keeps X.prog X.w X.K X.mg X.base CX k f fd ps sp) (hr : Rm k X.A) (hb : Binds X.K fd ps []) (hx : Passes CX X E)
    (I : Inv X pins σ H s) (r : Vals vs us) (h : sp vs H Q E) : wpAny (model X.prog X.w) X.A (call (.ref f) us) (EP X pins σ Q) X.xe s := by
  have hl : (us ++ []).length = ps.length := by
    rw [List.append_nil, ← r.length]
    exact F.len _ _ _ _ h
  have hbs := hb s us I.kIn hl
  rw [List.append_nil] at hbs
  have run := F.run X.A X.stack s H ⟨us, []⟩ us vs Q E hr I.env0 hbs r h
  refine wpAny_call (codeAny_mono run fun res s' hq => ?_)
  match res, hq with
  | .error e, hq => exact hx pins σ H s e s' I hq
  | .ok (.ret u), hq => exact I.after hq
  | .ok .next, hq => exact hq.elim
  | .ok .brk, hq => exact hq.elim
  | .ok .cont, hq => exact hq.elim
/-- f(e, ..), f a def of the text -/
def tGo (sp : Sp) (E : XK) (t : TA) : TE := fun σ H Q => t σ H fun vs H1 => sp vs H1 Q E
theorem pe_go (F : Keeps X.prog X.w X.K X.mg X.base CX k f fd ps sp) (hr : Rm k X.A) (hg : Gl X x) (hm : X.mg x = some (.ref f)) (hk : PySem.W.keepIn X.K (.ref f) = true)
    (hb : Binds X.K fd ps []) (hx : Passes CX X E) (ha : PA X (e :: es) t) (hdb : (x == ("__debug__" : Str)) = false := by decide)
    (he : starEach (e :: es) X.env = (false, eval e X.env) :: starEach es X.env := by rfl) (hpl : (backTo pos (starEach es X.env)).any (·.1) = false := by rfl) :
    PE X (.Call (.Name x p) (e :: es) [] pos) (tGo sp E t) := by
  constructor
  intro pins s σ H Q I h
  refine wpAny_Call_Name_kw (ld_glob I hg hm ?_ hdb)
  have args := ha.run pos pins s σ H _ I h
  refine PySem.W.callWith_K (h₀ := X.base) I.ok.mod.kin hk (thn args fun us s1 hh => ?_) he hpl
  obtain ⟨vs, H1, I1, r, q⟩ := hh
  exact ⟨I1.kIn, go_fn F hr hb hx I1 r q⟩
theorem pe_go0 (F : Keeps X.prog X.w X.K X.mg X.base CX k f fd ps sp) (hr : Rm k X.A) (hg : Gl X x) (hm : X.mg x = some (.ref f)) (hk : PySem.W.keepIn X.K (.ref f) = true)
    (hb : Binds X.K fd ps []) (hx : Passes CX X E) (hdb : (x == ("__debug__" : Str)) = false := by decide) : PE X (.Call (.Name x p) [] [] pos) (tGo sp E tNil) := by
  constructor
  intro pins s σ H Q I h
  refine wpAny_Call_Name_kw (ld_glob I hg hm ?_ hdb)
  exact PySem.W.callWith_K0 I.kIn hk (go_fn (us := []) F hr hb hx I .nil h)
end

section
variable {P : Program} {w : World} {K : PySem.W.Frag} {mg : Str → Option Value} {b : Heap}
/-- a def keeps its promise, by its body -/
theorem keeps_of {CX : CXT} {x qual : Str} {st : Stmt} {f : Addr} {fd : FuncData} {N ps : List Str} {k : Nat} {sp : Sp} (F : Fun K x qual st f fd) (S : FnScope N ps (defScope st))
    (len : ∀ vs H Q E, sp vs H Q E → vs.length = ps.length)
    (body : ∀ (cdv : Value) (A : Around) (o : List Env) (s : Shared) (H : Hp) (vs : List V) (Q : VK) (E : XK), Rm k (A.deeper (envOfC qual (defScope st) s.heap.objs.size f cdv)) → sp vs H Q E →
      ∃ t, PSs (cxOf CX P w K mg b N qual (defScope st) f cdv A o s H E) (defBody st) t ∧ t { nx := fun _ H' => Q .non H', rt := Q } (start N vs) H) :
    Keeps P w K mg b CX (k + 1) f fd ps sp := by
  obtain ⟨oc, od, kV, doc, pm, an, cdv, ct, osl, rfl, lk, hcd⟩ := F.ex
  constructor
  · exact len
  intro A o s H g us vs Q E hr e0 hb r hsp
  have hl := len _ _ _ _ hsp
  have up : ∀ {a : Addr} {ob : Obj}, b.get? a = some ob → s.heap.get? a = some ob := fun {a ob} q => (e0.bs a ob q).1
  have inK : K.In s.heap := e0.mod.kin.keeps fun _ _ q => up q
  have nolim : s.heap.NoLimit := e0.mod.nolimit.keeps fun _ _ q => up q
  have kinds : ∀ y ∈ ps.zip us, (defScope st).names.lookup y.1 = some .local ∨ ((defScope st).names.lookup y.1 = some .cell ∧ ((cellsFrom (s.heap.objs.size + 1) (defScope st).names []).lookup y.1).isSome = true) := by
    rintro ⟨n, v⟩ hy
    have hn := S.par n (List.of_mem_zip hy).1
    exact hn.imp id fun q => ⟨q, PySem.W.cellsFrom_some _ _ _ (.inl q)⟩
  have recd := PySem.W.codeRec_of inK hcd
  refine codeAny_call_function hr.rm.depth (inK _ _ lk) rfl S.co S.gen rfl recd (hb _ _ _ _ ?_)
  refine wpAny_newFunctionEnv_cells S.kind kinds ?_
  intro env he s1 y
  subst he
  refine ⟨nolim.keeps y.toInCall.keep, codeAny_func ?_⟩
  obtain ⟨t, ht, hq⟩ := body cdv A o s H vs Q E (hr.deep _) hsp
  have I := inv_start (CX := CX) (E := E) S hr.rm.hd e0 hl r y
  refine wpAny_mono (ht.run [] s1 (start N vs) H _ I hq) ?_ fun _ _ q => q
  intro fl s' hs
  match fl, hs with
  | .ret u, hs =>
    obtain ⟨v, σ', H', J, rv, q⟩ := hs
    exact ⟨v, H', J.os, J.bare, J.base, J.hok, rv, q⟩
  | .next, hs =>
    obtain ⟨σ', H', J, q⟩ := hs
    exact ⟨.non, H', J.os, J.bare, J.base, J.hok, rfl, q⟩
  | .brk, hs => exact hs.elim fun _ z => z.elim fun _ y => y.2.elim
  | .cont, hs => exact hs.elim fun _ z => z.elim fun _ y => y.2.elim
theorem keeps0 {x qual : Str} {st : Stmt} {f : Addr} {fd : FuncData} {N ps : List Str} {k : Nat} {sp : Sp} (F : Fun K x qual st f fd) (S : FnScope N ps (defScope st))
    (len : ∀ vs H Q E, sp vs H Q E → vs.length = ps.length)
    (body : ∀ (cdv : Value) (A : Around) (o : List Env) (s : Shared) (H : Hp) (vs : List V) (Q : VK) (E : XK), Rm k (A.deeper (envOfC qual (defScope st) s.heap.objs.size f cdv)) → sp vs H Q E →
      ∃ t, PSs (cxOf CX0 P w K mg b N qual (defScope st) f cdv A o s H E).nox (defBody st) t ∧ t { nx := fun _ H' => Q .non H', rt := Q } (start N vs) H) :
    Keeps P w K mg b CX0 (k + 1) f fd ps sp :=
  keeps_of F S len fun cdv A o s H vs Q E hr h => (body cdv A o s H vs Q E hr h).elim fun t q => ⟨t, q.1.nox, q.2⟩
end

/-- the law's call, from its promise -/
theorem law_end {P : Program} {w : World} {K : PySem.W.Frag} {mg mb : Str → Option Value} {k : Nat} {fa a : Addr} {fd : FuncData} {x : Str} {sp : Sp} {s : Shared} {vs : List Value} {ns : List Int}
    (KX : K.In s.heap) (hns : s.heap.Ns mainGlobals mg) (hb : s.heap.Ns builtinsNs mb) (hbb : ∀ x : Str, x ≠ "__name__" → mb x = bootBuiltins x) (hlim : s.heap.NoLimit) (hg : s.gens = #[])
    (ha : s.heap.get? a = some { cls := .type "list", data := .seq vs.toArray }) (hi : IntsAre vs ns) (hl : ns.length ≤ sizeLine) (hr : Rm k callerA)
    (F : ∀ b : Heap, K.In b → b.Ns mainGlobals mg → Keeps P w K mg b CX0 k fa fd [x] sp) (hbind : ∀ (s : Shared) (u : Value), BindsTo s fd ⟨[u], []⟩ [(x, u)])
    (hsp : ∀ H : Hp, Only H → SqL K H a (ns.map V.int) → sp [.ref a] H (fun v _ => v = .bl true) fun _ _ _ => False) :
    codeAny (model P w) callerA (.call (.ref fa) ⟨[.ref a], []⟩) (fun r s' => r = .ok (.ret (.bool true)) ∧ OldK s.heap s'.heap ∧ s'.os = s.os ∧ AllBare s'.gens) s := by
  -- a promise at callerA alone, dressed as one of the layer's at that place
  have lenV := hi.length
  have rv := vals_ints hi
  suffices core : ∀ H : Hp, Only H → SqL K H a (ns.map V.int) → HOk P w H s.heap → (∀ c, H c ≠ none → c = a) → (H a ≠ none → K.lookup a = none) →
      codeAny (model P w) callerA (.call (.ref fa) ⟨[.ref a], []⟩) (fun r s' => r = .ok (.ret (.bool true)) ∧ OldK s.heap s'.heap ∧ s'.os = s.os ∧ AllBare s'.gens) s by
    match hk : K.lookup a with
    | some o =>
      have eo := (KX a o hk).symm.trans ha
      obtain rfl := Option.some.inj eo
      refine core (fun _ => none) (fun _ => .inl rfl) (.inr ⟨_, vs.toArray, _, hk, rfl, rfl, rfl, ?_, by simpa using rv⟩) ?_ (fun c z => absurd rfl z) (fun z => absurd rfl z)
      · rw [List.size_toArray, lenV]; exact hl
      · intro c u z; exact nomatch z
    | none =>
      let H0 : Hp := fun c => if c = a then some (.frz { cls := .type "list", data := .seq vs.toArray } (.lst (ns.map V.int))) else none
      have at0 : H0 a = some (.frz { cls := .type "list", data := .seq vs.toArray } (.lst (ns.map V.int))) := if_pos rfl
      have ne0 : ∀ c, c ≠ a → H0 c = none := fun c hc => if_neg hc
      refine core H0 (fun c => ?_) (.inl (.inr ⟨_, at0⟩)) (fun c u z => ?_) (fun c z => ?_) fun _ => hk
      · by_cases hc : c = a
        · exact .inr ⟨_, _, by rw [hc]; exact at0⟩
        · exact .inl (ne0 c hc)
      · by_cases hc : c = a
        · subst hc
          obtain rfl := Option.some.inj (at0.symm.trans z)
          exact ⟨ha, by rw [List.length_map]; exact hl, vs, _, rv, ha⟩
        · exact nomatch (ne0 c hc).symm.trans z
      · exact Classical.byContradiction fun hc => z (ne0 c hc)
  intro H hO hS hok hA hK
  have only : ∀ {c : Addr} {u : HO}, H c = some u → c = a := fun {c u} q => hA c (by rw [q]; exact Option.some_ne_none u)
  have stays : ∀ {c : Addr} {o : Obj} {es : Array DictEntry} {ep : Nat}, s.heap.get? c = some o → o.data = .dict es ep → H c = none := by
    intro c o es ep e d
    match q : H c with
    | none => rfl
    | some u =>
      rw [only q, ha] at e
      obtain rfl := Option.some.inj e
      cases (show Data.seq vs.toArray _ = Data.dict es ep from d)
  have ns' : ∀ {c : Addr} {m : Str → Option Value}, s.heap.Ns c m → (hidT s.heap H).Ns c m := by
    rintro c m ⟨o, es, ep, e, d, r⟩
    exact ⟨o, es, ep, hidT_get e (stays e d), d, r⟩
  have kin : K.In (hidT s.heap H) := by
    intro c o e
    refine hidT_get (KX c o e) ?_
    match q : H c with
    | none => rfl
    | some u =>
      have ec := only q
      subst ec
      rw [hK (by rw [q]; exact Option.some_ne_none u)] at e
      cases e
  obtain ⟨mc, l1, l2⟩ := hlim
  have M : Mod K mg (hidT s.heap H) := ⟨kin, ns' hns, ⟨mb, ns' hb, hbb⟩, ⟨mc, ns' l1, l2⟩⟩
  have e0 : Env0 P w K mg (hidT s.heap H) callerA [] s H :=
    ⟨rfl, M, fun c o e => of_hidT e, Nat.le_of_eq (hidT_size _ _), trivial, fun c hc => (List.not_mem_nil hc).elim, hok, .of_eq hg⟩
  have run := (F _ kin (ns' hns)).run callerA [] s H ⟨[.ref a], []⟩ [.ref a] [.ref a] _ _ hr e0 (hbind s (.ref a)) (.cons rfl .nil) (hsp H hO hS)
  refine codeAny_mono run fun res s' hq => ?_
  match res, hq with
  | .error e, hq => exact hq.elim
  | .ok .next, hq => exact hq.elim
  | .ok .brk, hq => exact hq.elim
  | .ok .cont, hq => exact hq.elim
  | .ok (.ret u), hq =>
    obtain ⟨v, H', os, bare, un, hok', r', q⟩ := hq
    obtain rfl : v = .bl true := q
    obtain rfl : u = Value.bool true := r'
    refine ⟨rfl, OldK.of_keep fun c o e => ?_, os, bare⟩
    rcases hO c with z | ⟨ob, xs, z⟩
    · exact un.keep c o e z List.not_mem_nil List.not_mem_nil
    · have z1 := (hok c _ z).1
      have z2 := (hok' c _ (un.frzs c ob _ z)).1
      exact z2.trans (z1.symm.trans e)

theorem walk_end {l : PySem.W.OpenLaw} {n k : Nat} {q : Program} {loose : List Str} {XP : (Str → Option Value) → Heap → Prop} {YP : World → Heap → Prop} {d : DefRec} {K : Params → PySem.W.Frag} {sp : PySem.W.Frag → Sp} {x : Str}
    (hn : l.most = some n) (hn2 : n ≤ sizeLine) (hdf : d.params.defaults = []) (hr : Rm k callerA) (hY : ∀ (w : World) (h : Heap), YP w h → (K w.params).In h)
    (F : ∀ (w : World) (mg : Str → Option Value) (fa : Addr) (h : Heap), (K w.params).In h → h.Ns mainGlobals mg → mg d.name = some (.ref fa) →
      ∃ fd : FuncData, (∀ (s : Shared) (u : Value), BindsTo s fd ⟨[u], []⟩ [(x, u)]) ∧
        ∀ b : Heap, (K w.params).In b → b.Ns mainGlobals mg → Keeps l.prog w (K w.params) mg b CX0 k fa fd [x] (sp (K w.params)))
    (hsp : ∀ (K : PySem.W.Frag) (H : Hp) (a : Addr) (ns : List Int), ns.length ≤ n → Only H → SqL K H a (ns.map V.int) → sp K [.ref a] H (fun v _ => v = .bl true) fun _ _ _ => False) :
    PySem.W.WalkO q loose XP YP l.row.toRowW d [] (fun f vs => PySem.call f vs) := by
  refine Att.attach_call hn hdf ?_
  intro w s₀ s₁ mg mb fa o pm cd doc a vs ns G Y ho hd hcd hmg hobj hints hlen hg
  have kin := hY w _ Y
  obtain ⟨fd, hb, hF⟩ := F w mg fa _ kin G.T.g hmg
  exact law_end kin G.T.g G.T.b G.T.builtins G.T.nolimit hg hobj hints (Nat.le_trans hlen hn2) hr hF hb fun H hO hS => hsp _ H a ns hlen hO hS
end Wg

/-! Wagon, part 2: heaps that are not written out, and the rules of operators, calls and methods in that style. -/
namespace Wg
open PySem PySem.Spec PyProof.Rows L2

/-- all but what stands at S is kept -/
def Keep (S : List Addr) (H H' : Hp) : Prop := ∀ b o, b ∉ S → H b = some o → H' b = some o
theorem Keep.at {S : List Addr} {H H' : Hp} {b : Addr} {o : HO} (k : Keep S H H') (n : b ∉ S) (h : H b = some o) : H' b = some o := k b o n h
theorem Keep.refl (S : List Addr) (H : Hp) : Keep S H H := fun _ _ _ h => h
theorem Keep.trans {S : List Addr} {H H1 H2 : Hp} (a : Keep S H H1) (b : Keep S H1 H2) : Keep S H H2 := fun c o n h => b c o n (a c o n h)
theorem Keep.wide {S T : List Addr} {H H' : Hp} (k : Keep S H H') (h : ∀ b ∈ S, b ∈ T) : Keep T H H' := fun b o n q => k b o (fun z => n (h b z)) q
theorem Keep.all {S : List Addr} {H H' : Hp} (k : Keep [] H H') : Keep S H H' := k.wide fun _ h => (List.not_mem_nil h).elim
theorem Keep.free {S : List Addr} {H H' : Hp} {b : Addr} (k : Keep S H H') (n : b ∉ S) (h : H' b = none) : H b = none := by
  match q : H b with
  | none => rfl
  | some o => exact nomatch h.symm.trans (k b o n q)
theorem Keep.new {S : List Addr} {H : Hp} {p : Addr} {o : HO} (h : H p = none) : Keep S H (upd H p o) := fun b u _ q => by
  rw [upd_ne (ne_of_none q h)]
  exact q
theorem Keep.set {H : Hp} {p : Addr} {o : HO} : Keep [p] H (upd H p o) := fun b u n q => by
  rw [upd_ne (fun z : b = p => n (by rw [z]; exact List.mem_singleton.mpr rfl))]
  exact q
theorem nin0 {b : Addr} : b ∉ ([] : List Addr) := List.not_mem_nil
theorem nin1 {a b : Addr} (h : b ≠ a) : b ∉ [a] := fun z => h (List.mem_singleton.mp z)
/-- a tuple that stands still, of no dict of its own -/
def Tup (H : Hp) (a : Addr) (xs : List V) : Prop := ∃ ob : Obj, H a = some (.frz ob (.tup xs)) ∧ ob.dict = none ∧ ob.slots = #[]
theorem Tup.sq {K : PySem.W.Frag} {H : Hp} {a : Addr} {xs : List V} (h : Tup H a xs) : SqT K H a xs := let ⟨ob, e, _⟩ := h; .inl (.inr ⟨ob, e⟩)
theorem Tup.keep {S : List Addr} {H H' : Hp} {a : Addr} {xs : List V} (h : Tup H a xs) (k : Keep S H H') (n : a ∉ S) : Tup H' a xs := let ⟨ob, e, d⟩ := h; ⟨ob, k a _ n e, d⟩
theorem Tup.inj {H : Hp} {a : Addr} {xs ys : List V} (h : Tup H a xs) (h' : Tup H a ys) : xs = ys := by
  obtain ⟨o1, e1, _⟩ := h
  obtain ⟨o2, e2, _⟩ := h'
  have q := Option.some.inj (e1.symm.trans e2)
  injection q with _ q
  exact HO.tup.inj q
theorem Tup.there {H : Hp} {a : Addr} {xs : List V} (h : Tup H a xs) : ∃ o, H a = some o := let ⟨ob, e, _⟩ := h; ⟨_, e⟩
theorem Tup.neL {H : Hp} {a b : Addr} {xs ys : List V} (h : Tup H a xs) (h' : H b = some (.lst ys)) : a ≠ b := fun z => by
  obtain ⟨o1, e1, _⟩ := h
  rw [z, h'] at e1
  cases e1
theorem Tup.neD {H : Hp} {a b : Addr} {xs : List V} {ys : List (Key × V)} (h : Tup H a xs) (h' : H b = some (.dK ys)) : a ≠ b := fun z => by
  obtain ⟨o1, e1, _⟩ := h
  rw [z, h'] at e1
  cases e1
theorem lst_sq {K : PySem.W.Frag} {H : Hp} {a : Addr} {xs : List V} (h : H a = some (.lst xs)) : SqL K H a xs := .inl (.inl h)
theorem sq_keep {K : PySem.W.Frag} {H H' : Hp} {S : List Addr} {a : Addr} {xs : List V} (h : SqL K H a xs) (k : Keep S H H') (n : a ∉ S) : SqL K H' a xs := by
  rcases h with (h | ⟨o, h⟩) | h
  · exact .inl (.inl (k _ _ n h))
  · exact .inl (.inr ⟨o, k _ _ n h⟩)
  · exact .inr h

/-- a new object o comes -/
def Mk (H : Hp) (o : HO) (Q : VK) : Prop := ∀ p H', H p = none → Keep [] H H' → H' p = some o → Q (.ref p) H'
/-- a new tuple comes -/
def Mt (H : Hp) (xs : List V) (Q : VK) : Prop := ∀ p H', H p = none → Keep [] H H' → Tup H' p xs → Q (.ref p) H'
/-- what stands at a is o from now on -/
def Ch (H : Hp) (a : Addr) (o : HO) (R : Hp → Prop) : Prop := ∀ H', Keep [a] H H' → H' a = some o → R H'
theorem Mk.at {H : Hp} {o : HO} {Q : VK} (h : Mk H o Q) (p : Addr) (n : H p = none) : Q (.ref p) (upd H p o) := h p _ n (Keep.new n) upd_same
theorem Ch.at {H : Hp} {a : Addr} {o : HO} {R : Hp → Prop} (h : Ch H a o R) : R (upd H a o) := h _ Keep.set upd_same

section
variable {X : Cx} {pins : List (Addr × Obj)} {σ : L2.St} {H : Hp} {s : Shared}
/-- a tuple object as the model lays it -/
abbrev tupObj (its : List Value) : Obj := { cls := .type "tuple", data := .seq its.toArray }
theorem mt_end {xs : List V} {its : List Value} {Q : VK} {t' : Nat} (I : Inv X pins σ H s) (r : Vals xs its) (z : xs.length ≤ sizeLine) (h : Mt H xs Q) :
    EP X pins σ Q (.ref s.heap.objs.size) { s with heap := s.heap.push (tupObj its), toks := t' } := by
  have n : H s.heap.objs.size = none := I.hok.fresh (Nat.le_refl _)
  have new : (s.heap.push (tupObj its)).get? s.heap.objs.size = some (tupObj its) := Heap.get?_push_size _ rfl
  refine ⟨.ref s.heap.objs.size, upd H s.heap.objs.size (.frz (tupObj its) (.tup xs)), I.laid (fun b u e => Heap.get?_push_of_some _ e) (Nat.le_refl _) ?_, rfl, ?_⟩
  · exact ⟨new, z, its, r, _, new, rfl, _, rfl⟩
  · exact h _ _ n (Keep.new n) ⟨_, upd_same, rfl, rfl⟩
/-- the object of such a tuple -/
theorem Tup.obj {a : Addr} {xs : List V} (I : Inv X pins σ H s) (h : Tup H a xs) : ∃ (its : List Value) (n : Nat), Vals xs its ∧ xs.length ≤ sizeLine ∧ s.heap.get? a = some { cls := .type "tuple", dict := none, data := .seq its.toArray n, slots := #[] } := by
  obtain ⟨ob, e, d, sl⟩ := h
  obtain ⟨h1, z, its, r, o2, h2, c, n, hd⟩ := I.hok a _ e
  have eo := Option.some.inj (h1.symm.trans h2)
  obtain ⟨c0, d0, da, s0⟩ := ob
  subst eo
  simp only at c hd d sl
  subst c hd d sl
  exact ⟨its, n, r, z, h1⟩
end

/-! ### operators -/
section
variable {X : Cx}
def uAdd (K : PySem.W.Frag) : R2 := fun x y H Q =>
  (∃ i j, x = .int i ∧ y = .int j ∧ Q (.int (i + j)) H) ∨
  (∃ i j, x = .str i ∧ y = .str j ∧ i.length + j.length ≤ sizeLine ∧ Q (.str (i ++ j)) H) ∨
  (∃ l b xs zs, x = .ref l ∧ y = .ref b ∧ H l = some (.lst xs) ∧ H b = some (.lst zs) ∧ xs.length + zs.length ≤ sizeLine ∧ Mk H (.lst (xs ++ zs)) Q) ∨
  (∃ a b xs ys, x = .ref a ∧ y = .ref b ∧ Tup H a xs ∧ Tup H b ys ∧ xs.length + ys.length ≤ sizeLine ∧ (xs = [] → Q y H) ∧ (xs ≠ [] → ys = [] → Q x H) ∧ (xs ≠ [] → ys ≠ [] → Mt H (xs ++ ys) Q))
theorem cat_none {pins : List (Addr × Obj)} {σ : L2.St} {H : Hp} {s : Shared} {a b : Addr} {ys : List V} {Q : VK} (I : Inv X pins σ H s) (ha : Tup H a []) (hb : Tup H b ys) (q : Q (.ref b) H) :
    wpAny (model X.prog X.w) X.A (binaryOp .Add (.ref a) (.ref b)) (EP X pins σ Q) X.xe s := by
  obtain ⟨its, n, r, _, ho⟩ := ha.obj I
  obtain ⟨its2, n2, r2, _, ho2⟩ := hb.obj I
  cases r
  exact concat_meets ⟨_, ho, rfl⟩ ⟨_, ho2, rfl⟩ noFill_tuple_add seq_tuple_add PySem.F.slot_tuple_add PySem.F.entry_tuple_add (PySem.F.args_tuple_add_2 _ _)
    (AutoSeq1.tuple___add___tuple_tuple_0 a #[] n b its2.toArray n2 rfl) ⟨ho, ho2, ⟨.ref b, H, I, rfl, q⟩⟩
theorem op_uAdd : OpR X (binaryOp .Add) (uAdd X.K) := by
  intro pins s σ H x y v u Q I rx ry h
  rcases h with h | h | h | ⟨a, b, xs, ys, rfl, rfl, ha, hb, z, q0, q1, q2⟩
  · exact op_add pins s σ H x y v u Q I rx ry h
  · exact op_add_str pins s σ H x y v u Q I rx ry h
  · obtain ⟨l, b, xs, zs, e1, e2, h1, h2, h3, q⟩ := h
    exact op_cat pins s σ H x y v u Q I rx ry ⟨l, b, xs, zs, e1, e2, h1, h2, h3, fun p n => q.at p n⟩
  · cases rx
    cases ry
    by_cases e : xs = []
    · subst e
      exact cat_none I ha hb (q0 rfl)
    · obtain ⟨its, r1, p1, _⟩ := I.tuple ha.sq
      obtain ⟨its2, r2, p2, _⟩ := I.tuple hb.sq
      refine HT.cat_tup p1 p2 (fun c => e (r1.nil_iff.mp c)) (fun c => ⟨.ref a, H, I, rfl, q1 e (r2.nil_iff.mp c)⟩) (fun c => ?_) (by rw [← r1.length, ← r2.length]; exact z)
      exact mt_end (t' := s.toks) I (r1.append r2) (by rw [List.length_append]; exact z) (q2 e fun d => c (r2.nil_iff.mpr d))
def uMul : R2 := fun x y H Q =>
  (∃ i j, x = .int i ∧ y = .int j ∧ CMul i j ∧ Q (.int (i * j)) H) ∨
  (∃ l k xs, x = .ref l ∧ y = .int k ∧ H l = some (.lst xs) ∧ -(2 ^ 63) ≤ k ∧ k < 2 ^ 63 ∧ xs.length * k.toNat ≤ sizeLine ∧ Mk H (.lst (List.replicate k.toNat xs).flatten) Q)
theorem op_uMul : OpR X (binaryOp .Mult) uMul := by
  intro pins s σ H x y v u Q I rx ry h
  rcases h with h | ⟨l, k, xs, e1, e2, h1, h2, h3, h4, q⟩
  · exact op_mul pins s σ H x y v u Q I rx ry h
  · exact op_rep pins s σ H x y v u Q I rx ry ⟨l, k, xs, e1, e2, h1, h2, h3, h4, fun p n => q.at p n⟩
/-- data that are compared -/
def uEq (K : PySem.W.Frag) (neg : Bool) : R2 := fun x y H Q =>
  (scal x y = true ∧ Q (.bl (if neg then !decide (x = y) else decide (x = y))) H) ∨
  (∃ d e, Dp K H x d ∧ Dp K H y e ∧ SeqAt.shaped d = true ∧ SeqAt.shaped e = true ∧ Q (.bl (if neg then !PyData.eqv d e else PyData.eqv d e)) H)
theorem op_uEq (hu : X.A.units + 64 < cLine) : OpR X (compareOp .Eq) (uEq X.K false) := by
  intro pins s σ H x y v u Q I rx ry h
  rcases h with h | h
  · exact op_eq pins s σ H x y v u Q I rx ry h
  · exact op_eqD hu pins s σ H x y v u Q I rx ry h
theorem op_uNe (hu : X.A.units + 64 < cLine) : OpR X (compareOp .NotEq) (uEq X.K true) := by
  intro pins s σ H x y v u Q I rx ry h
  rcases h with h | h
  · exact op_ne pins s σ H x y v u Q I rx ry h
  · exact op_neD hu pins s σ H x y v u Q I rx ry h
def uIn (K : PySem.W.Frag) (neg : Bool) : R2 := fun x y H Q =>
  (∃ p xs, y = .ref p ∧ (SqL K H p xs ∨ SqT K H p xs) ∧ flatV x = true ∧ xs.all flatV = true ∧ Q (.bl (if neg then !inV x xs else inV x xs)) H) ∨
  (∃ c z : Str, x = .str c ∧ y = .str z ∧ Q (.bl (if neg then !(!(Builtin.Str.occurrences z c 0 z.length 1).isEmpty) else !(Builtin.Str.occurrences z c 0 z.length 1).isEmpty)) H)
theorem op_uIn : OpR X (compareOp .In) (uIn X.K false) := by
  intro pins s σ H x y v u Q I rx ry h
  rcases h with h | ⟨i, j, e1, e2, q⟩
  · exact op_in_seq pins s σ H x y v u Q I rx ry h
  · exact op_in_str pins s σ H x y v u Q I rx ry ⟨i, j, e1, e2, q⟩
theorem op_uNotIn : OpR X (compareOp .NotIn) (uIn X.K true) := by
  intro pins s σ H x y v u Q I rx ry h
  rcases h with h | ⟨i, j, e1, e2, q⟩
  · exact op_notIn_seq pins s σ H x y v u Q I rx ry h
  · exact op_notIn_str pins s σ H x y v u Q I rx ry ⟨i, j, e1, e2, q⟩
end

/-! ### subscripts, slices -/
section
variable {X : Cx}
def uIx (K : PySem.W.Frag) : R2 := fun x y H Q =>
  (∃ p xs i v, x = .ref p ∧ y = .int i ∧ (SqL K H p xs ∨ SqT K H p xs) ∧ atI xs i = some v ∧ Q v H) ∨
  (∃ z i c, x = .str z ∧ y = .int i ∧ z.length ≤ sizeLine ∧ atI z.cps.toList i = some c ∧ Q (.str ⟨#[c]⟩) H)
theorem ix_u : IxR X (uIx X.K) := by
  intro ve se pins s σ H x y v u Q I rx ry h hs
  rcases h with ⟨p, xs, i, w, e1, e2, hq, ha, q⟩ | h
  · rcases hq with hq | hq
    · exact ix_list ve se pins s σ H x y v u Q I rx ry ⟨p, xs, i, w, e1, e2, hq, ha, q⟩ hs
    · exact ix_tup ve se pins s σ H x y v u Q I rx ry ⟨p, xs, i, w, e1, e2, hq, ha, q⟩ hs
  · exact ix_str ve se pins s σ H x y v u Q I rx ry h hs
def uSetL : V → V → V → Hp → (Hp → Prop) → Prop := fun o i v H Q => ∃ p xs k j, o = .ref p ∧ i = .int k ∧ H p = some (.lst xs) ∧ ixN xs.length k = some j ∧ Ch H p (.lst (xs.set j v)) Q
theorem set_u : PSet X uSetL := by
  intro pins s σ H o i v ov iv u Q I r1 r2 r3 h
  obtain ⟨p, xs, k, j, e1, e2, h1, h2, q⟩ := h
  exact set_list pins s σ H o i v ov iv u Q I r1 r2 r3 ⟨p, xs, k, j, e1, e2, h1, h2, q.at⟩
end
end Wg

/-! Wagon, part 3: displays, slices, calls of built-ins, repr of data. -/
namespace Wg
open PySem PySem.Spec PyProof.Rows L2

/-! ### displays -/
section
variable {X : Cx} {es : List Expr} {t : TA} {pos : Pos}
def tTupU (t : TA) : TE := fun σ H Q => t σ H fun xs H1 => xs.length ≤ sizeLine ∧ Mt H1 xs Q
def tLstU (t : TA) : TE := fun σ H Q => t σ H fun xs H1 => xs.length ≤ sizeLine ∧ Mk H1 (.lst xs) Q
theorem pe_tupU {k : Nat} (h : PA X es t) : PE X (.Tuple es k pos) (tTupU t) := by
  constructor
  intro pins s σ H Q I hq
  have run := h.run pos pins s σ H _ I hq
  refine wpAny_Tuple_spliced (thn run fun us s1 r => ?_)
  obtain ⟨xs, H1, I1, rv, z, q⟩ := r
  rw [← rv.length]
  exact ⟨z, mt_end (t' := s1.toks) I1 rv z q⟩
theorem pe_lstU (h : PA X es t) : PE X (.List es pos) (tLstU t) := by
  constructor
  intro pins s σ H Q I hq
  have run := h.run pos pins s σ H _ I hq
  refine wpAny_List_spliced (thn run fun us s1 r => ?_)
  obtain ⟨xs, H1, I1, rv, z, q⟩ := r
  rw [← rv.length]
  have n := I1.fresh
  have new : ObjOk X.prog X.w (upd H1 s1.heap.objs.size (.lst xs)) (s1.heap.push { cls := .type "list", data := .seq us.toArray }) s1.heap.objs.size (.lst xs) := ⟨z, us, 0, rv, Heap.get?_push_size _ rfl⟩
  exact ⟨z, .ref s1.heap.objs.size, _, I1.laid (t' := s1.toks) (fun b u e => Heap.get?_push_of_some _ e) (Nat.le_refl _) new, rfl, q.at _ n⟩
def tDNewU : TE := fun _ H Q => Mk H (.dK []) Q
theorem pe_dnewU : PE X (.Dict [] [] pos) tDNewU := ⟨fun pins s σ H Q I h => pe_dnewK.run pins s σ H Q I fun p n => h.at p n⟩
/-- {k: v} of two names -/
def tDic1 (i j : Nat) : TE := fun σ H Q => ∃ x : V, σ[i]? = some (some x) ∧ ∃ y : V, σ[j]? = some (some y) ∧ ∃ k : Key, x = kV k ∧ Mk H (.dK [(k, y)]) Q
theorem pe_dic1 {k v : Expr} {i j : Nat} (hk : PE X k (tVar i)) (hv : PE X v (tVar j)) : PE X (.Dict [some k] [v] pos) (tDic1 i j) := by
  constructor
  intro pins s σ H Q I h
  obtain ⟨x, e1, y, e2, kk, rfl, q⟩ := h
  refine (pe_disp (pps_cons hk hv pps_nil) rfl rfl (by simp) (by simp)).run pins s σ H Q I fun p n => ?_
  refine ⟨_, e1, _, e2, upd_same, [(kk, y)], rfl, by simp, ?_⟩
  rw [upd_upd]
  exact q.at p n
end

/-! ### slices -/
section
variable {prog : Program} {w : World} {A : Around} {E : Value → Shared → Prop} {s : Shared}
/-- t[..] of all of t is t -/
theorem cut_whole {t sl : Addr} {items : Array Value} {vl vu : Value} {lo hi : Option Int} {Q : Value → Shared → Prop} (ht : IsTup s.heap t items) (hs : s.heap.IsSliceOf sl vl vu .none) (pl : IsPart vl lo) (pu : IsPart vu hi)
    (h0 : HT.sIx items.size 0 lo = 0) (h1 : HT.sIx items.size items.size hi = items.size) (h : Q (.ref t) s) : wpAny (model prog w) A (getItem (.ref t) (.ref sl)) Q E s := by
  obtain ⟨os, hos, hcs, hds⟩ := id hs
  have tysl : s.TypeIs (.ref sl) "slice" := ⟨os, hos, hcs⟩
  unfold getItem
  try with_reducible refine wpAny_holding ?_
  first | refine wpAny_bind (wpAny_pure ?_) | skip
  refine wpAny_bind (wpAny_sequenceKey ht.typeIs (by decide) ?_)
  refine wpAny_bind (wpAny_callSpecial?_slot (name := Str.ofString "__getitem__") ht.typeIs PyProof.Rows.slot_tuple_getitem
    (wpAny_call_entry PyProof.Rows.slot_tuple_getitem ht.typeIs entry_tuple_getitem ?_ (args_tuple_getitem _ _)))
  show wpAny _ _ (Builtin.Tuple.tupleItemsOf (.ref t) >>= _) _ _ s
  refine wpAny_bind (tupleItemsOf_ ht (wpAny_bind (wpAny_typeOf tysl ?_)))
  rw [if_pos (by decide)]
  refine wpAny_bind (HT.sliceApplied_gen hs pl pu ?_)
  rw [h0, h1]
  show wpAny _ _ (if ((((0 : Nat) : Int) == 0 && (1 : Int) == 1 && (items.size - 0) == items.size) = true) then _ else _) _ _ s
  rw [if_pos (by simp)]
  refine wpAny_bind (m := Builtin.Tuple.tupleIsExact _) ?_
  unfold Builtin.Tuple.tupleIsExact
  refine wpAny_bind (wpAny_typeOf ht.typeIs (wpAny_pure ?_))
  rw [if_pos (by decide)]
  exact wpAny_bind (wpAny_rule (wpAny_pure ⟨_, rfl, wpAny_pure h⟩))
end
section
variable {X : Cx}
def uSl (K : PySem.W.Frag) : V → Option Int → Option Int → Hp → VK → Prop := fun x lo hi H Q =>
  (∃ a xs, x = .ref a ∧ SqL K H a xs ∧ Mk H (.lst (cutV xs lo hi)) Q) ∨
  (∃ z, x = .str z ∧ z.length ≤ sizeLine ∧ Q (.str (cutS z lo hi)) H) ∨
  (∃ a xs, x = .ref a ∧ Tup H a xs ∧ ((HT.sIx xs.length 0 lo = 0 ∧ HT.sIx xs.length xs.length hi = xs.length) → Q (.ref a) H) ∧
    (¬ (HT.sIx xs.length 0 lo = 0 ∧ HT.sIx xs.length xs.length hi = xs.length) → Mt H (cutV xs lo hi) Q))
theorem sl_u : SlR X (uSl X.K) := by
  intro pins s σ H x v vl vu lo hi sl Q I rx hs pl pu h
  rcases h with ⟨a, xs, e, hx, q⟩ | h | ⟨a, xs, rfl, hx, q1, q2⟩
  · exact sl_list pins s σ H x v vl vu lo hi sl Q I rx hs pl pu ⟨a, xs, e, hx, fun p n => q.at p n⟩
  · exact sl_str pins s σ H x v vl vu lo hi sl Q I rx hs pl pu h
  · cases rx
    obtain ⟨its, r, ht, hz⟩ := I.tuple hx.sq
    have hlen : its.toArray.size = xs.length := by
      rw [List.size_toArray]
      exact r.length.symm
    refine ⟨"tuple", _, PyProof.Rows.slot_tuple_getitem.lookup, ht.typeIs, ?_⟩
    by_cases c : HT.sIx xs.length 0 lo = 0 ∧ HT.sIx xs.length xs.length hi = xs.length
    · exact cut_whole ht hs pl pu (by rw [hlen]; exact c.1) (by rw [hlen]; exact c.2) ⟨.ref a, H, I, rfl, q1 c⟩
    · refine HT.getItem_tuple_cut ht hs pl pu (by rw [hlen]; exact c) ?_ (by rw [hlen]; exact hz)
      rw [hlen]
      refine mt_end (t' := s.toks) I ((r.drop (HT.sIx xs.length 0 lo)).take (HT.sIx xs.length xs.length hi - HT.sIx xs.length 0 lo)) (Nat.le_trans (cutV_length xs lo hi) hz) (q2 c)
end

/-! ### calls -/
section
variable {X : Cx}
def uList (K : PySem.W.Frag) : List V → Hp → VK → Prop := fun xs H Q => ∃ p ys, xs = [.ref p] ∧ (SqL K H p ys ∨ SqT K H p ys) ∧ Mk H (.lst ys) Q
theorem call_uList : CallR X (.type "list") (uList X.K) := by
  intro pins s σ H xs us Q I r h
  obtain ⟨p, ys, e, hq, q⟩ := h
  exact call_list_of pins s σ H xs us Q I r ⟨p, ys, e, hq, fun l n => q.at l n⟩
def uTuple (K : PySem.W.Frag) : List V → Hp → VK → Prop := fun xs H Q => ∃ p ys, xs = [.ref p] ∧ ((SqL K H p ys ∧ Mt H ys Q) ∨ (SqT K H p ys ∧ Q (.ref p) H))
theorem call_uTuple : CallR X (.type "tuple") (uTuple X.K) := by
  intro pins s σ H xs us Q I r h
  obtain ⟨p, ys, rfl, h⟩ := h
  obtain ⟨u, rfl, rx⟩ := vals1 r
  cases rx
  rcases h with ⟨hq, q⟩ | ⟨hq, q⟩
  · obtain ⟨its, r', pl, hz⟩ := I.list hq
    have hlen := r'.length
    refine call_tuple_list pl.isList (fun h' kp => ?_) (by simp only [List.size_toArray] <;> omega)
    exact mt_end (t' := s.toks) (I.kept (t' := s.toks) kp) r' hz q
  · obtain ⟨its, r', pl, hz⟩ := I.tuple hq
    exact call_tuple_same pl ⟨.ref p, H, I, rfl, q⟩
/-- what repr tells of data -/
def uRepr (K : PySem.W.Frag) : List V → Hp → VK → Prop := fun xs H Q => ∃ v d, xs = [v] ∧ Dp K H v d ∧ d.showable = true ∧ d.depth ≤ 100 ∧ d.shown.length ≤ sizeLine ∧ Q (.str d.shown) H
theorem dp_noDict {K : PySem.W.Frag} {H : Hp} : ∀ {v : V} {d : PyData}, Dp K H v d → d.hasDict = false := by
  intro v d h
  refine Dp.rec (motive_1 := fun v d _ => d.hasDict = false) (motive_2 := fun vs ds _ => PyData.hasDictAll ds = false) ?_ ?_ ?_ ?_ ?_ ?_ ?_ ?_ h
  all_goals intros
  all_goals (try simp only [PyData.hasDict, PyData.hasDictAll, Bool.or_eq_false_iff])
  all_goals (try assumption)
  all_goals (try (constructor <;> assumption))
theorem call_uRepr (hr : Rm 1 X.A) : CallR X (.builtin "repr") (uRepr X.K) := by
  intro pins s σ H xs us Q I r h
  obtain ⟨v, d, rfl, hd, hs, hdep, hz, q⟩ := h
  obtain ⟨u, rfl, rx⟩ := vals1 r
  have hu : X.A.units + (d.depth + 1) < cLine := by
    have := hr.rm.un
    omega
  have hno := dp_noDict hd
  cases hd with
  | non => cases rx; exact PySem.P.repr_of_none ⟨.str _, H, I.tok _, ⟨_, rfl⟩, q⟩
  | bl b => cases rx; exact PySem.P.repr_of_bool ⟨.str _, H, I.tok _, ⟨_, rfl⟩, q⟩
  | int i =>
    obtain ⟨t, rfl⟩ := rx
    exact PySem.P.repr_of_int (of_decide_eq_true hs) ⟨.str _, H, I.tok _, ⟨_, rfl⟩, q⟩
  | str x =>
    obtain ⟨t, rfl⟩ := rx
    exact PySem.P.repr_of_str ⟨.str _, H, I.tok _, ⟨_, rfl⟩, q⟩ hz
  | lst hl ha =>
    cases rx
    obtain ⟨as, rd⟩ := Dp.reads I _ _ _ (.lst hl ha) rfl
    refine repr_of_reads' rd hs (fun z => absurd z (by rw [hno]; exact Bool.false_ne_true)) hr.gd hu (fun _ _ e => e) (fun h' u tk hk => ?_) hz
    exact ⟨.str _, H, I.kept (t' := tk) hk, ⟨_, rfl⟩, q⟩
  | tup hl ha =>
    cases rx
    obtain ⟨as, rd⟩ := Dp.reads I _ _ _ (.tup hl ha) rfl
    refine repr_of_reads' rd hs (fun z => absurd z (by rw [hno]; exact Bool.false_ne_true)) hr.gd hu (fun _ _ e => e) (fun h' u tk hk => ?_) hz
    exact ⟨.str _, H, I.kept (t' := tk) hk, ⟨_, rfl⟩, q⟩
end
end Wg

/-! Wagon, part 4: what is walked; words for defs and their bodies. -/
namespace Wg
open PySem PySem.Spec PyProof.Rows L2

section
variable {X : Cx}
/-- an expression's truth -/
def tTru (K : PySem.W.Frag) (ta : TE) : TT := fun σ H Q => ta σ H fun x H' => ∃ k, TruV K x H' k ∧ Q k H'
theorem pt_tru {a : Expr} {ta : TE} (ha : PE X a ta) (he : ∀ whole, isTrue a X.env whole = (do let v ← whole; standAt a.pos; holding [v] (truthy v)) := by intro _; rfl) : PT X a (tTru X.K ta) := pt_truth ha he
/-- a list, a tuple or a text that is walked -/
def iU (K : PySem.W.Frag) (tl : TE) : TI := fun σ H R => tl σ H fun x H1 =>
  (∃ a xs, x = .ref a ∧ SqL K H1 a xs ∧ R (Itl K a) H1) ∨ (∃ a xs, x = .ref a ∧ SqT K H1 a xs ∧ R (Itt K a) H1) ∨ (∃ z, x = .str z ∧ R (Its z) H1)
theorem pi_u {tg l : Expr} {tl : TE} (hl : PE X l tl) : PI X tg l (iU X.K tl) := by
  constructor
  intro pins s σ H R I h
  have run := hl.run pins s σ H _ I h
  refine thn run fun v s1 e => ?_
  obtain ⟨x, H1, I1, r1, q1⟩ := e
  have new : ∀ {o : Obj} {b : Addr}, b ∈ [s1.heap.objs.size] → FpOk X pins H1 b := fun {o b} hb => by
    rw [List.mem_singleton.mp hb]
    exact I1.fpOk (Nat.le_refl _) I1.fresh
  rcases q1 with ⟨a, xs, rfl, hq, q⟩ | ⟨a, xs, rfl, hq, q⟩ | ⟨z, rfl, q⟩
  · cases r1
    obtain ⟨its, rv, p, hz⟩ := I1.list hq
    refine wpAny_pyIter_list p.isList ⟨_, [s1.heap.objs.size], _, _, H1, rfl, I1.kept (t' := s1.toks) fun b o e => Heap.get?_push_of_some _ e, turn_list a _, ?_, fun b hb => ?_, q⟩
    · exact ⟨_, Heap.get?_push_size _ rfl, rfl, rfl⟩
    · exact new (o := default) hb
  · cases r1
    obtain ⟨its, rv, p, hz⟩ := I1.tuple hq
    refine wpAny_pyIter_tuple (show s1.heap.IsTuple a its.toArray from p) ⟨_, [s1.heap.objs.size], _, _, H1, rfl, I1.kept (t' := s1.toks) fun b o e => Heap.get?_push_of_some _ e, turn_tuple a _, ?_, fun b hb => ?_, q⟩
    · exact ⟨_, Heap.get?_push_size _ rfl, rfl, rfl⟩
    · exact new (o := default) hb
  · obtain ⟨t, rfl⟩ := r1
    match ha : z.cps.all (· < 128) with
    | false => exact wpAny_pyIter_wide ha (pi_one (tk := s1.toks) I1 _ (turn_str _ z t "str_iterator" (.inr rfl)) ⟨_, Heap.get?_push_size _ rfl, rfl, rfl⟩ q)
    | true => exact wpAny_pyIter_ascii ha (pi_one (tk := s1.toks) I1 _ (turn_str _ z t "str_ascii_iterator" (.inl rfl)) ⟨_, Heap.get?_push_size _ rfl, rfl, rfl⟩ q)
end

/-- a body as a promise: the values in the slots at the beginning -/
def run (t : TS) (σ : L2.St) (H : Hp) (Q : VK) : Prop := t { nx := fun _ H' => Q .non H', rt := Q } σ H
end Wg

namespace Wg
open PySem PySem.Spec PyProof.Rows L2
/-- a def of the text where it stands -/
structure Fn (K : PySem.W.Frag) (mg : Str → Option Value) (x : Str) (st : Stmt) (f : Addr) (fd : FuncData) (ps : List Str) : Prop where
  fn : Fun K x x st f fd
  g : mg x = some (.ref f)
  b : Binds K fd ps []

/-! ### data that stand still -/
mutual
inductive Dt (K : PySem.W.Frag) (H : Hp) : V → PyData → Prop
  | non : Dt K H .non .none
  | bl (b : Bool) : Dt K H (.bl b) (.bool b)
  | int (i : Int) : Dt K H (.int i) (.int i)
  | str (x : Str) : Dt K H (.str x) (.str x)
  | tup {a : Addr} {xs : List V} {ds : List PyData} : Tup H a xs → DtAll K H xs ds → Dt K H (.ref a) (.tuple ds)
inductive DtAll (K : PySem.W.Frag) (H : Hp) : List V → List PyData → Prop
  | nil : DtAll K H [] []
  | cons {v : V} {vs : List V} {d : PyData} {ds : List PyData} : Dt K H v d → DtAll K H vs ds → DtAll K H (v :: vs) (d :: ds)
end
mutual
theorem Dt.dp {K : PySem.W.Frag} {H : Hp} : ∀ {v : V} {d : PyData}, Dt K H v d → Dp K H v d
  | _, _, .non => .non
  | _, _, .bl b => .bl b
  | _, _, .int i => .int i
  | _, _, .str x => .str x
  | _, _, .tup t a => .tup t.sq a.dp
theorem DtAll.dp {K : PySem.W.Frag} {H : Hp} : ∀ {vs : List V} {ds : List PyData}, DtAll K H vs ds → DpAll K H vs ds
  | _, _, .nil => .nil
  | _, _, .cons h r => .cons h.dp r.dp
end
mutual
theorem Dt.reads {X : Cx} {pins : List (Addr × Obj)} {σ : L2.St} {H : Hp} {s : Shared} {K : PySem.W.Frag} (I : Inv X pins σ H s) : ∀ {v : V} {d : PyData}, Dt K H v d → ∀ {u : Value}, RelV v u → Reads s.heap u d []
  | _, _, .non, u, r => by cases r; exact .none
  | _, _, .bl b, u, r => by cases r; exact .bool b
  | _, _, .int i, u, r => by obtain ⟨t, rfl⟩ := r; exact .int i t
  | _, _, .str x, u, r => by obtain ⟨t, rfl⟩ := r; exact .str x t
  | _, _, .tup (a := a) t q, u, r => by
    cases r
    obtain ⟨its, n, rv, z, ho⟩ := t.obj I
    exact .tuple ho rfl rfl (DtAll.reads I q rv)
theorem DtAll.reads {X : Cx} {pins : List (Addr × Obj)} {σ : L2.St} {H : Hp} {s : Shared} {K : PySem.W.Frag} (I : Inv X pins σ H s) : ∀ {vs : List V} {ds : List PyData}, DtAll K H vs ds → ∀ {us : List Value}, Vals vs us → ReadsAll s.heap us ds []
  | _, _, .nil, _, r => by cases r; exact .nil
  | _, _, .cons h q, _, r => by
    cases r with
    | cons r1 r2 => exact .cons (Dt.reads I h r1) (DtAll.reads I q r2)
end
mutual
/-- a change of what is no tuple leaves them -/
theorem Dt.keep {K : PySem.W.Frag} {S : List Addr} {H H' : Hp} (k : Keep S H H') (n : ∀ a xs, Tup H a xs → a ∉ S) : ∀ {v : V} {d : PyData}, Dt K H v d → Dt K H' v d
  | _, _, .non => .non
  | _, _, .bl b => .bl b
  | _, _, .int i => .int i
  | _, _, .str x => .str x
  | _, _, .tup t a => .tup (t.keep k (n _ _ t)) (DtAll.keep k n a)
theorem DtAll.keep {K : PySem.W.Frag} {S : List Addr} {H H' : Hp} (k : Keep S H H') (n : ∀ a xs, Tup H a xs → a ∉ S) : ∀ {vs : List V} {ds : List PyData}, DtAll K H vs ds → DtAll K H' vs ds
  | _, _, .nil => .nil
  | _, _, .cons h r => .cons (Dt.keep k n h) (DtAll.keep k n r)
end
def keyD : Key → PyData
  | .inl i => .int i
  | .inr x => .str x
theorem pairs_reads {X : Cx} {pins : List (Addr × Obj)} {σ : L2.St} {H : Hp} {s : Shared} {K : PySem.W.Frag} (I : Inv X pins σ H s) : ∀ {es : List DictEntry} {kvs : List (Key × V)} {us : List (Key × Value)} {ds : List PyData},
    PySem.Pairs (mixKind X.prog X.w) es us → KV kvs us → DtAll K H (kvs.map (·.2)) ds →
      ReadsAll s.heap (es.map (·.key)) (kvs.map fun p => keyD p.1) [] ∧ ReadsAll s.heap (es.map (·.val)) ds []
  | _, _, _, _, .nil, .nil, .nil => ⟨.nil, .nil⟩
  | e :: es, (k, v) :: kvs, (k', u) :: us, d :: ds, .cons h1 h2 hr, .cons ⟨q1, q2⟩ qr, .cons hd hds => by
    obtain ⟨r1, r2⟩ := pairs_reads I hr qr hds
    have q1' : k = k' := q1
    have q2' : RelV v u := q2
    have hv : e.val = u := h2
    have hk : keyIs k' e.key = true := h1
    subst q1'
    have rv : Reads s.heap e.val d [] := by
      rw [hv]
      exact hd.reads I q2'
    refine ⟨.cons (as := []) (bs := []) ?_ r1, .cons (as := []) (bs := []) rv r2⟩
    show Reads s.heap e.key (keyD k) []
    rcases keyIs_shape hk with ⟨i, t, rfl, e2⟩ | ⟨x, t, rfl, e2⟩
    · rw [e2]; exact .int i t
    · rw [e2]; exact .str x t

section
variable {X : Cx}
/-- what repr tells of a dict of such data -/
def uReprD (K : PySem.W.Frag) : List V → Hp → VK → Prop := fun xs H Q => ∃ (a : Addr) (kvs : List (Key × V)) (ds : List PyData), xs = [.ref a] ∧ H a = some (.dK kvs) ∧ DtAll K H (kvs.map (·.2)) ds ∧
  (PyData.dict ((kvs.map fun p => keyD p.1).zip ds)).showable = true ∧ (PyData.dict ((kvs.map fun p => keyD p.1).zip ds)).depth ≤ 100 ∧ (PyData.dict ((kvs.map fun p => keyD p.1).zip ds)).shown.length ≤ sizeLine ∧
  Q (.str (PyData.dict ((kvs.map fun p => keyD p.1).zip ds)).shown) H
theorem DtAll.len {K : PySem.W.Frag} {H : Hp} : ∀ {vs : List V} {ds : List PyData}, DtAll K H vs ds → vs.length = ds.length
  | _, _, .nil => rfl
  | _, _, .cons _ r => congrArg (· + 1) r.len
theorem call_uReprD (hr : Rm 1 X.A) : CallR X (.builtin "repr") (uReprD X.K) := by
  intro pins s σ H xs us Q I r h
  obtain ⟨a, kvs, ds, rfl, ha, hd, hs, hdep, hz, q⟩ := h
  obtain ⟨u, rfl, rx⟩ := vals1 r
  cases rx
  obtain ⟨z, hsy, ws, kv, o, es, ep, ho, ex, hdat, _, hp, _⟩ := I.hok a _ ha
  obtain ⟨r1, r2⟩ := pairs_reads I hp kv hd
  have hl := hd.len
  rw [List.length_map] at hl
  have e1 : ((kvs.map fun p => keyD p.1).zip ds).map (·.1) = kvs.map fun p => keyD p.1 := List.map_fst_zip (by rw [List.length_map]; omega)
  have e2 : ((kvs.map fun p => keyD p.1).zip ds).map (·.2) = ds := List.map_snd_zip (by rw [List.length_map]; omega)
  have rd : Reads s.heap (.ref a) (PyData.dict ((kvs.map fun p => keyD p.1).zip ds)) (a :: [] ++ []) := .dict ho ex.1 hdat (by rw [e1]; exact r1) (by rw [e2]; exact r2)
  have hu : X.A.units + ((PyData.dict ((kvs.map fun p => keyD p.1).zip ds)).depth + 1) < cLine := by
    have := hr.rm.un
    omega
  refine repr_of_reads' rd hs (fun _ hm => ?_) hr.gd hu (fun _ _ e => e) (fun h' u tk hk => ?_) hz
  · have e : sysModules = a := by simpa using hm
    rw [e] at hsy
    simp at hsy
  · exact ⟨.str _, H, I.kept (t' := tk) hk, ⟨_, rfl⟩, q⟩
def uRep (K : PySem.W.Frag) : List V → Hp → VK → Prop := fun xs H Q => uRepr K xs H Q ∨ uReprD K xs H Q
theorem call_uRep (hr : Rm 1 X.A) : CallR X (.builtin "repr") (uRep X.K) := (call_uRepr hr).or (call_uReprD hr)

def uLen (K : PySem.W.Frag) : List V → Hp → VK → Prop := fun xs H Q => ∃ x n, xs = [x] ∧ LenV K x H n ∧ Q (.int n) H
theorem call_uLen : CallR X (.builtin "len") (uLen X.K) := call_len
def uAbs : List V → Hp → VK → Prop := fun xs H Q => ∃ i, xs = [.int i] ∧ Q (.int (if i < 0 then -i else i)) H
theorem call_uAbs : CallR X (.builtin "abs") uAbs := call_abs
def uMax2 : List V → Hp → VK → Prop := fun xs H Q => ∃ i j, xs = [.int i, .int j] ∧ Q (.int (if j > i then j else i)) H
theorem call_uMax2 (hc : X.calm = true) : CallR X (.builtin "max") uMax2 := call_max2 hc
def uMin2 : List V → Hp → VK → Prop := fun xs H Q => ∃ i j, xs = [.int i, .int j] ∧ Q (.int (if j < i then j else i)) H
theorem call_uMin2 (hc : X.calm = true) : CallR X (.builtin "min") uMin2 := call_min2 hc
def uStr : List V → Hp → VK → Prop := fun xs H Q => ∃ i, xs = [.int i] ∧ i.natAbs.log2 < 1920 ∧ Q (.str (toString i)) H
theorem call_uStr : CallR X (.type "str") uStr := call_str_int
def uInt : List V → Hp → VK → Prop := fun xs H Q => (∃ i, xs = [.int i] ∧ Q (.int i) H) ∨ ∃ k, xs = [.bl k] ∧ Q (.int (if k then 1 else 0)) H
theorem call_uInt : CallR X (.type "int") uInt := call_int1
def rIsN : R2 := fun x y H Q => y = .non ∧ Q (.bl (decide (x = .non))) H
def rNotN : R2 := fun x y H Q => y = .non ∧ Q (.bl (!decide (x = .non))) H

/-! ### methods -/
def uAppend : V → List V → Hp → VK → Prop := fun x vs H Q => ∃ l xs y, x = .ref l ∧ vs = [y] ∧ H l = some (.lst xs) ∧ xs.length < sizeLine ∧ Ch H l (.lst (xs ++ [y])) (Q .non)
theorem mt_uAppend : MtM X "list.append" uAppend := by
  intro pins s σ H x vs v us Q I rx rv h
  obtain ⟨l, xs, y, e1, e2, h1, h2, q⟩ := h
  exact mt_append pins s σ H x vs v us Q I rx rv ⟨l, xs, y, e1, e2, h1, h2, q.at⟩
end
end Wg

/-! Wagon, part 5: how a reading goes on, construct by construct. -/
namespace Wg
open PySem PySem.Spec PyProof.Rows L2

section
variable {K : PySem.W.Frag} {H : Hp} {Q : VK} {i j : Int}
theorem e_rI {C : Int → Int → Prop} {g : Int → Int → V} : rI C g (.int i) (.int j) H Q ↔ C i j ∧ Q (g i j) H := by
  constructor
  · rintro ⟨a, b, e1, e2, c, q⟩
    cases e1; cases e2; exact ⟨c, q⟩
  · rintro ⟨c, q⟩; exact ⟨i, j, rfl, rfl, c, q⟩
theorem e_rI0 {g : Int → Int → V} : rI0 g (.int i) (.int j) H Q ↔ Q (g i j) H := by
  constructor
  · rintro ⟨a, b, e1, e2, q⟩
    cases e1; cases e2; exact q
  · intro q; exact ⟨i, j, rfl, rfl, q⟩
theorem e_rU {g : Int → V} : rU g (.int i) H Q ↔ Q (g i) H := by
  constructor
  · rintro ⟨a, e1, q⟩
    cases e1; exact q
  · intro q; exact ⟨i, rfl, q⟩
theorem e_addI : uAdd K (.int i) (.int j) H Q ↔ Q (.int (i + j)) H := by
  constructor
  · rintro (⟨a, b, e1, e2, q⟩ | ⟨a, b, e1, _⟩ | ⟨a, b, _, _, e1, _⟩ | ⟨a, b, _, _, e1, _⟩) <;> first | cases e1; cases e2; exact q | cases e1
  · intro q; exact .inl ⟨i, j, rfl, rfl, q⟩
theorem e_addS {x y : Str} : uAdd K (.str x) (.str y) H Q ↔ x.length + y.length ≤ sizeLine ∧ Q (.str (x ++ y)) H := by
  constructor
  · rintro (⟨a, b, e1, _⟩ | ⟨a, b, e1, e2, z, q⟩ | ⟨a, b, _, _, e1, _⟩ | ⟨a, b, _, _, e1, _⟩) <;> first | cases e1; cases e2; exact ⟨z, q⟩ | cases e1
  · rintro ⟨z, q⟩; exact .inr (.inl ⟨x, y, rfl, rfl, z, q⟩)
theorem e_mulI : uMul (.int i) (.int j) H Q ↔ CMul i j ∧ Q (.int (i * j)) H := by
  constructor
  · rintro (⟨a, b, e1, e2, c, q⟩ | ⟨a, b, _, e1, _⟩) <;> first | cases e1; cases e2; exact ⟨c, q⟩ | cases e1
  · rintro ⟨c, q⟩; exact .inl ⟨i, j, rfl, rfl, c, q⟩
theorem e_abs : uAbs [.int i] H Q ↔ Q (.int (if i < 0 then -i else i)) H := by
  constructor
  · rintro ⟨a, e1, q⟩
    cases e1; exact q
  · intro q; exact ⟨i, rfl, q⟩
theorem e_max2 : uMax2 [.int i, .int j] H Q ↔ Q (.int (if j > i then j else i)) H := by
  constructor
  · rintro ⟨a, b, e1, q⟩
    cases e1; exact q
  · intro q; exact ⟨i, j, rfl, q⟩
theorem e_min2 : uMin2 [.int i, .int j] H Q ↔ Q (.int (if j < i then j else i)) H := by
  constructor
  · rintro ⟨a, b, e1, q⟩
    cases e1; exact q
  · intro q; exact ⟨i, j, rfl, q⟩
theorem e_str : uStr [.int i] H Q ↔ i.natAbs.log2 < 1920 ∧ Q (.str (toString i)) H := by
  constructor
  · rintro ⟨a, e1, z, q⟩
    cases e1; exact ⟨z, q⟩
  · rintro ⟨z, q⟩; exact ⟨i, rfl, z, q⟩
theorem e_intI : uInt [.int i] H Q ↔ Q (.int i) H := by
  constructor
  · rintro (⟨a, e1, q⟩ | ⟨a, e1, q⟩) <;> cases e1; exact q
  · intro q; exact .inl ⟨i, rfl, q⟩
theorem e_intB {k : Bool} : uInt [.bl k] H Q ↔ Q (.int (if k then 1 else 0)) H := by
  constructor
  · rintro (⟨a, e1, q⟩ | ⟨a, e1, q⟩) <;> cases e1; exact q
  · intro q; exact .inr ⟨k, rfl, q⟩
theorem e_isN {x : V} : rIsN x .non H Q ↔ Q (.bl (decide (x = .non))) H := ⟨fun h => h.2, fun q => ⟨rfl, q⟩⟩
theorem e_notN {x : V} : rNotN x .non H Q ↔ Q (.bl (!decide (x = .non))) H := ⟨fun h => h.2, fun q => ⟨rfl, q⟩⟩
theorem e_truB {k k' : Bool} : TruV K (.bl k) H k' ↔ k' = k := Iff.rfl
theorem e_truI {k' : Bool} : TruV K (.int i) H k' ↔ k' = (i != 0) := Iff.rfl
/-- equality of scalars -/
theorem g_eq {x y : V} (h : scal x y = true) (q : Q (.bl (decide (x = y))) H) : uEq K false x y H Q := .inl ⟨h, by simpa using q⟩
theorem g_ne {x y : V} (h : scal x y = true) (q : Q (.bl (!decide (x = y))) H) : uEq K true x y H Q := .inl ⟨h, by simpa using q⟩
/-- an item of a list, of a tuple -/
theorem g_ixL {p : Addr} {xs : List V} {v : V} (h : H p = some (.lst xs)) (e : atI xs i = some v) (q : Q v H) : uIx K (.ref p) (.int i) H Q := .inl ⟨p, xs, i, v, rfl, rfl, .inl (lst_sq h), e, q⟩
theorem g_ixT {p : Addr} {xs : List V} {v : V} (h : Tup H p xs) (e : atI xs i = some v) (q : Q v H) : uIx K (.ref p) (.int i) H Q := .inl ⟨p, xs, i, v, rfl, rfl, .inr h.sq, e, q⟩
theorem g_ixQ {p : Addr} {xs : List V} {v : V} (h : SqL K H p xs) (e : atI xs i = some v) (q : Q v H) : uIx K (.ref p) (.int i) H Q := .inl ⟨p, xs, i, v, rfl, rfl, .inl h, e, q⟩
theorem g_ixS {z : Str} {c : Nat} (h : z.length ≤ sizeLine) (e : atI z.cps.toList i = some c) (q : Q (.str ⟨#[c]⟩) H) : uIx K (.str z) (.int i) H Q := .inr ⟨z, i, c, rfl, rfl, h, e, q⟩
/-- an item stored -/
theorem g_setL {p : Addr} {xs : List V} {v : V} {k : Nat} {R : Hp → Prop} (h : H p = some (.lst xs)) (e : ixN xs.length i = some k) (q : ∀ H', Keep [p] H H' → H' p = some (.lst (xs.set k v)) → R H') : uSetL (.ref p) (.int i) v H R :=
  ⟨p, xs, i, k, rfl, rfl, h, e, q⟩
theorem g_addL {a b : Addr} {xs ys : List V} (h1 : H a = some (.lst xs)) (h2 : H b = some (.lst ys)) (z : xs.length + ys.length ≤ sizeLine) (q : ∀ p H', H p = none → Keep [] H H' → H' p = some (.lst (xs ++ ys)) → Q (.ref p) H') : uAdd K (.ref a) (.ref b) H Q :=
  .inr (.inr (.inl ⟨a, b, xs, ys, rfl, rfl, h1, h2, z, q⟩))
theorem g_addT {a b : Addr} {xs ys : List V} (h1 : Tup H a xs) (h2 : Tup H b ys) (z : xs.length + ys.length ≤ sizeLine) (q : ∀ p H', Keep [] H H' → Tup H' p (xs ++ ys) → Q (.ref p) H') : uAdd K (.ref a) (.ref b) H Q := by
  refine .inr (.inr (.inr ⟨a, b, xs, ys, rfl, rfl, h1, h2, z, fun e => ?_, fun _ e => ?_, fun _ _ p H' _ k t => q p H' k t⟩))
  · subst e
    exact q b H (Keep.refl _ _) h2
  · subst e
    exact q a H (Keep.refl _ _) (by rw [List.append_nil]; exact h1)
theorem g_lenL {p : Addr} {xs : List V} (h : H p = some (.lst xs)) (q : Q (.int xs.length) H) : uLen K [.ref p] H Q := ⟨.ref p, xs.length, rfl, .inl ⟨xs, lst_sq h, rfl⟩, q⟩
theorem g_lenT {p : Addr} {xs : List V} (h : Tup H p xs) (q : Q (.int xs.length) H) : uLen K [.ref p] H Q := ⟨.ref p, xs.length, rfl, .inr ⟨xs, h.sq, rfl⟩, q⟩
theorem g_lenQ {p : Addr} {xs : List V} (h : SqL K H p xs) (q : Q (.int xs.length) H) : uLen K [.ref p] H Q := ⟨.ref p, xs.length, rfl, .inl ⟨xs, h, rfl⟩, q⟩
theorem g_lenS {z : Str} (h : z.length ≤ sizeLine) (q : Q (.int z.length) H) : uLen K [.str z] H Q := ⟨.str z, z.length, rfl, ⟨h, rfl⟩, q⟩
theorem g_repr {v : V} {d : PyData} (h : Dp K H v d) (h1 : d.showable = true) (h2 : d.depth ≤ 100) (h3 : d.shown.length ≤ sizeLine) (q : Q (.str d.shown) H) : uRep K [v] H Q := .inl ⟨v, d, rfl, h, h1, h2, h3, q⟩
theorem g_append {l : Addr} {xs : List V} {y : V} (h : H l = some (.lst xs)) (z : xs.length < sizeLine) (q : ∀ H', Keep [l] H H' → H' l = some (.lst (xs ++ [y])) → Q .non H') : uAppend (.ref l) [y] H Q := ⟨l, xs, y, rfl, rfl, h, z, q⟩
theorem g_listL {p : Addr} {ys : List V} (h : H p = some (.lst ys)) (q : ∀ l H', H l = none → Keep [] H H' → H' l = some (.lst ys) → Q (.ref l) H') : uList K [.ref p] H Q := ⟨p, ys, rfl, .inl (lst_sq h), q⟩
theorem g_listT {p : Addr} {ys : List V} (h : Tup H p ys) (q : ∀ l H', H l = none → Keep [] H H' → H' l = some (.lst ys) → Q (.ref l) H') : uList K [.ref p] H Q := ⟨p, ys, rfl, .inr h.sq, q⟩
theorem g_tupleL {p : Addr} {ys : List V} (h : H p = some (.lst ys)) (q : ∀ l H', H l = none → Keep [] H H' → Tup H' l ys → Q (.ref l) H') : uTuple K [.ref p] H Q := ⟨p, ys, rfl, .inl ⟨lst_sq h, q⟩⟩
theorem g_slL {p : Addr} {xs : List V} {lo hi : Option Int} (h : SqL K H p xs) (q : ∀ l H', H l = none → Keep [] H H' → H' l = some (.lst (cutV xs lo hi)) → Q (.ref l) H') : uSl K (.ref p) lo hi H Q := .inl ⟨p, xs, rfl, h, q⟩
theorem g_slS {z : Str} {lo hi : Option Int} (h : z.length ≤ sizeLine) (q : Q (.str (cutS z lo hi)) H) : uSl K (.str z) lo hi H Q := .inr (.inl ⟨z, rfl, h, q⟩)
theorem cut_all {xs : List V} {lo hi : Option Int} (h : HT.sIx xs.length 0 lo = 0 ∧ HT.sIx xs.length xs.length hi = xs.length) : cutV xs lo hi = xs := by
  unfold cutV
  rw [h.1, h.2]
  exact List.take_length
theorem g_slT {p : Addr} {xs : List V} {lo hi : Option Int} (h : Tup H p xs) (q : ∀ l H', Keep [] H H' → Tup H' l (cutV xs lo hi) → Q (.ref l) H') : uSl K (.ref p) lo hi H Q := by
  refine .inr (.inr ⟨p, xs, rfl, h, fun e => ?_, fun _ l H' _ k t => q l H' k t⟩)
  exact q p H (Keep.refl _ _) (by rw [cut_all e]; exact h)
/-- a slot's value by its place -/
theorem at_lit {α : Type} {xs : List α} {v : α} {i : Int} (j : Nat) (e : i = (j : Int)) (h : xs[j]? = some v) : atI xs i = some v := by
  subst e
  exact atI_nat h
end

/-! ### what isinstance tells -/
section
variable {K : PySem.W.Frag} {H : Hp} {Q : VK}
theorem ty_tup {a : Addr} {xs : List V} (h : Tup H a xs) : TyX K H (.ref a) (.type "tuple") := let ⟨_, e, _⟩ := h; .fTuple e
theorem g_isi {x : V} {n T : String} {k : Bool} (h : TyX K H x (.type n)) (e : kitB n T = some k) (q : Q (.bl k) H) : rIsi K [x, .ty T] H Q := ⟨x, .ty T, _, _, k, rfl, .ty T, h, kit_ty e, q⟩
end
theorem kit_int_int : kitB "int" "int" = some true := by decide +kernel
theorem kit_bool_int : kitB "bool" "int" = some true := by decide +kernel
theorem kit_str_int : kitB "str" "int" = some false := by decide +kernel
theorem kit_none_int : kitB "NoneType" "int" = some false := by decide +kernel
theorem kit_list_int : kitB "list" "int" = some false := by decide +kernel
theorem kit_tuple_int : kitB "tuple" "int" = some false := by decide +kernel
theorem kit_dict_int : kitB "dict" "int" = some false := by decide +kernel
theorem kit_int_bool : kitB "int" "bool" = some false := by decide +kernel
theorem kit_bool_bool : kitB "bool" "bool" = some true := by decide +kernel
theorem kit_str_bool : kitB "str" "bool" = some false := by decide +kernel
theorem kit_none_bool : kitB "NoneType" "bool" = some false := by decide +kernel
theorem kit_list_bool : kitB "list" "bool" = some false := by decide +kernel
theorem kit_tuple_bool : kitB "tuple" "bool" = some false := by decide +kernel
theorem kit_dict_bool : kitB "dict" "bool" = some false := by decide +kernel
end Wg

/-! Wagon, part 6: how long what repr tells is; things as a law's lists hold them. -/
namespace Wg
open PySem PySem.Spec PyProof.Rows L2

/-! ### how long -/
mutual
def cost : PyData → Nat
  | .none => 4
  | .bool _ => 5
  | .int _ => 1921
  | .str x => 10 * x.length + 2
  | .list xs => costs xs + 2
  | .tuple xs => costs xs + 3
  | .dict kvs => costKv kvs + 2
def costs : List PyData → Nat
  | [] => 0
  | x :: xs => cost x + 2 + costs xs
def costKv : List (PyData × PyData) → Nat
  | [] => 0
  | (k, v) :: r => cost k + 2 + cost v + 2 + costKv r
end
/-- texts of moderate signs, whole numbers that str can write -/
def signsOk (x : Str) : Prop := ∀ c ∈ x.cps.toList, c < 16 ^ 8
mutual
def fine : PyData → Prop
  | .none => True
  | .bool _ => True
  | .int i => i.natAbs.log2 < 1920
  | .str x => signsOk x
  | .list xs => fines xs
  | .tuple xs => fines xs
  | .dict kvs => fineKv kvs
def fines : List PyData → Prop
  | [] => True
  | x :: xs => fine x ∧ fines xs
def fineKv : List (PyData × PyData) → Prop
  | [] => True
  | (k, v) :: r => fine k ∧ fine v ∧ fineKv r
end
mutual
theorem fine_show : ∀ {d : PyData}, fine d → d.showable = true
  | .none, _ => rfl
  | .bool _, _ => rfl
  | .int i, h => decide_eq_true h
  | .str _, _ => rfl
  | .list xs, h => by simp only [PyData.showable]; exact fines_show h
  | .tuple xs, h => by simp only [PyData.showable]; exact fines_show h
  | .dict kvs, h => by simp only [PyData.showable]; exact fineKv_show h
theorem fines_show : ∀ {ds : List PyData}, fines ds → PyData.showableAll ds = true
  | [], _ => rfl
  | d :: ds, h => by simp only [PyData.showableAll, Bool.and_eq_true]; exact ⟨fine_show h.1, fines_show h.2⟩
theorem fineKv_show : ∀ {ds : List (PyData × PyData)}, fineKv ds → PyData.showableKv ds = true
  | [], _ => rfl
  | (k, v) :: ds, h => by simp only [PyData.showableKv, Bool.and_eq_true]; exact ⟨⟨fine_show h.1, fine_show h.2.1⟩, fineKv_show h.2.2⟩
end
theorem list_text (ts : List Str) : (listText ts).length ≤ piled ts + 2 := by
  have key : ∀ (ts : List Str) (k : Nat) (acc : Str), (textFrom k acc ts).length ≤ acc.length + piled ts := by
    intro ts
    induction ts with
    | nil =>
      intro k acc
      simp [textFrom, piled]
    | cons t r ih =>
      intro k acc
      have q := ih (k + 1) (acc ++ (if k > 0 then ", " else "" : String) ++ t)
      have e2 : (((if k > 0 then ", " else "" : String) : Str)).length ≤ 2 := by split <;> decide +kernel
      rw [strLen_append, strLen_append] at q
      show (textFrom (k + 1) (acc ++ (if k > 0 then ", " else "" : String) ++ t) r).length ≤ _
      rw [piled_cons]
      omega
  unfold listText
  have e1 : (("[" : String) : Str).length = 1 := rfl
  have e2 : (("]" : String) : Str).length = 1 := rfl
  have q := key ts 0 "["
  rw [strLen_append, e2]
  rw [e1] at q
  omega
theorem tuple_text (ts : List Str) : (tupleText ts).length ≤ piled ts + 3 := by
  unfold tupleText
  have e1 : (("(" : String) : Str).length = 1 := rfl
  have e3 : (((if ts.length == 1 then ",)" else ")" : String) : Str)).length ≤ 2 := by split <;> decide +kernel
  rw [strLen_append, strLen_append, e1]
  by_cases h : ts = []
  · subst h
    decide +kernel
  · have := join_length_add ts h
    omega
theorem dict_text (ts : List Str) : (dictText ts).length ≤ piled ts + 2 := by
  unfold dictText
  have e1 : (("{" : String) : Str).length = 1 := rfl
  have e3 : (("}" : String) : Str).length = 1 := rfl
  rw [strLen_append, strLen_append, e1, e3]
  by_cases h : ts = []
  · subst h
    decide +kernel
  · have := join_length_add ts h
    omega
mutual
theorem shown_le : ∀ {d : PyData}, fine d → d.shown.length ≤ cost d
  | .none, _ => by decide +kernel
  | .bool b, _ => by cases b <;> decide +kernel
  | .int i, h => by
    simp only [PyData.shown, cost]
    rw [PySem.ofString_length]
    exact int_text_length_le (by decide) h
  | .str x, h => by
    simp only [PyData.shown, cost]
    exact StrLaws.reprText_len x h
  | .list xs, h => by
    simp only [PyData.shown, cost]
    have := list_text (PyData.shownAll xs)
    have := shownAll_le h
    omega
  | .tuple xs, h => by
    simp only [PyData.shown, cost]
    have := tuple_text (PyData.shownAll xs)
    have := shownAll_le h
    omega
  | .dict kvs, h => by
    simp only [PyData.shown, cost]
    have := dict_text (PyData.shownKv kvs)
    have := shownKv_le h
    omega
theorem shownAll_le : ∀ {ds : List PyData}, fines ds → piled (PyData.shownAll ds) ≤ costs ds
  | [], _ => Nat.le_refl _
  | d :: ds, h => by
    have h1 := shown_le h.1
    have h2 := shownAll_le h.2
    simp only [PyData.shownAll, costs, piled_cons]
    omega
theorem shownKv_le : ∀ {ds : List (PyData × PyData)}, fineKv ds → piled (PyData.shownKv ds) ≤ costKv ds
  | [], _ => Nat.le_refl _
  | (k, v) :: ds, h => by
    have h1 := shown_le h.1
    have h2 := shown_le h.2.1
    have h3 := shownKv_le h.2.2
    have e : ((": " : String) : Str).length = 2 := rfl
    simp only [PyData.shownKv, costKv, piled_cons, strLen_append, e]
    omega
end
mutual
theorem Dp.keep {K : PySem.W.Frag} {H H' : Hp} (k : Keep [] H H') : ∀ {v : V} {d : PyData}, Dp K H v d → Dp K H' v d
  | _, _, .non => .non
  | _, _, .bl b => .bl b
  | _, _, .int i => .int i
  | _, _, .str x => .str x
  | _, _, .lst h q => .lst (sq_keep h k nin0) (DpAll.keep k q)
  | _, _, .tup h q => .tup (by
      rcases h with (h | ⟨o, h⟩) | h
      · exact .inl (.inl (k _ _ nin0 h))
      · exact .inl (.inr ⟨o, k _ _ nin0 h⟩)
      · exact .inr h) (DpAll.keep k q)
theorem DpAll.keep {K : PySem.W.Frag} {H H' : Hp} (k : Keep [] H H') : ∀ {vs : List V} {ds : List PyData}, DpAll K H vs ds → DpAll K H' vs ds
  | _, _, .nil => .nil
  | _, _, .cons h q => .cons (Dp.keep k h) (DpAll.keep k q)
end
/-- a thing that repr tells -/
inductive Th (K : PySem.W.Frag) (H : Hp) : V → PyData → Prop
  | dp {v : V} {d : PyData} : Dp K H v d → fine d → cost d ≤ 10000000 → d.depth ≤ 100 → Th K H v d
  | dic {a : Addr} {kvs : List (Key × V)} {ds : List PyData} : H a = some (.dK kvs) → DtAll K H (kvs.map (·.2)) ds → fine (.dict ((kvs.map fun p => keyD p.1).zip ds)) → cost (.dict ((kvs.map fun p => keyD p.1).zip ds)) ≤ 10000000 →
      (PyData.dict ((kvs.map fun p => keyD p.1).zip ds)).depth ≤ 100 → Th K H (.ref a) (.dict ((kvs.map fun p => keyD p.1).zip ds))
theorem line_big {n : Nat} (h : n ≤ 10000000) : n ≤ sizeLine := by
  rw [sizeLine_eq]
  omega
theorem g_rep {K : PySem.W.Frag} {H : Hp} {v : V} {d : PyData} {Q : VK} (h : Th K H v d) (q : Q (.str d.shown) H) : uRep K [v] H Q := by
  cases h with
  | dp h1 h2 h3 h4 => exact .inl ⟨v, d, rfl, h1, fine_show h2, h4, Nat.le_trans (shown_le h2) (line_big h3), q⟩
  | dic h1 h2 h3 h4 h5 => exact .inr ⟨_, _, _, rfl, h1, h2, fine_show h3, h5, Nat.le_trans (shown_le h3) (line_big h4), q⟩
theorem Th.keep {K : PySem.W.Frag} {H H' : Hp} (k : Keep [] H H') {v : V} {d : PyData} (h : Th K H v d) : Th K H' v d := by
  cases h with
  | dp h1 h2 h3 h4 => exact .dp (Dp.keep k h1) h2 h3 h4
  | dic h1 h2 h3 h4 h5 => exact .dic (k _ _ nin0 h1) (h2.keep k fun _ _ _ => nin0) h3 h4 h5
end Wg

/-! Wagon, part 7: loops and comprehensions by what holds ahead of each turn. -/
namespace Wg
open PySem PySem.Spec PyProof.Rows L2

/-- n turns, the i-th with the item it i -/
def Loop (n : Nat) (it : Nat → V) (g : TG) (tb : TS) (D : Ends) (σ : L2.St) (H : Hp) : Prop :=
  ∃ Pv : Nat → L2.St → Hp → Prop, Pv 0 σ H ∧ (∀ i σ H, i < n → Pv i σ H → g (it i) σ H fun σ2 H2 => tb { D with nx := Pv (i + 1), ct := Pv (i + 1), bk := D.nx } σ2 H2) ∧ ∀ σ H, Pv n σ H → D.nx σ H
/-- the same, told of the argument's end -/
theorem L_range1 {g : TG} {tb : TS} {D : Ends} {σ : L2.St} {H1 : Hp} {j : Int} (b1 : -(2 ^ 62) ≤ j) (b2 : j < 2 ^ 62) (h : Loop j.toNat (fun i => .int (i : Nat)) g tb D σ H1) :
    ∃ k : Int, [V.int j] = [V.int k] ∧ -(2 ^ 62) ≤ k ∧ k < 2 ^ 62 ∧ ∃ W : Nat → Nat → L2.St → Hp → Prop, (∃ m, W 0 m σ H1) ∧ ∀ i m σ H, W i m σ H →
      ((Itr 0 k.toNat).stop i H ∧ D.nx σ H) ∨ ((Itr 0 k.toNat).go i H ∧ ∃ N : L2.St → Hp → Prop, (∀ σ' H', N σ' H' → ∃ m', m' < m ∧ W (i + 1) m' σ' H') ∧ ∀ x H', (Itr 0 k.toNat).yld i H x H' → g x σ H' fun σ2 H2 => tb { D with nx := N, ct := N, bk := D.nx } σ2 H2) := by
  obtain ⟨Pv, p0, ps, pd⟩ := h
  refine ⟨j, rfl, b1, b2, for_range (lo := 0) (n := j.toNat) Pv p0 (fun i σ H hi p => ?_) pd⟩
  have q := ps i σ H hi p
  rw [Int.zero_add]
  exact q
/-- what a for over range asks, behind its argument -/
def FR1 (g : TG) (tb : TS) (D : Ends) (σ : L2.St) (vs : List V) (H1 : Hp) : Prop := ∃ j : Int, vs = [.int j] ∧ -(2 ^ 62) ≤ j ∧ j < 2 ^ 62 ∧ ∃ W : Nat → Nat → L2.St → Hp → Prop, (∃ m, W 0 m σ H1) ∧ ∀ i m σ H, W i m σ H →
  ((Itr 0 j.toNat).stop i H ∧ D.nx σ H) ∨ ((Itr 0 j.toNat).go i H ∧ ∃ N : L2.St → Hp → Prop, (∀ σ' H', N σ' H' → ∃ m', m' < m ∧ W (i + 1) m' σ' H') ∧ ∀ x H', (Itr 0 j.toNat).yld i H x H' → g x σ H' fun σ2 H2 => tb { D with nx := N, ct := N, bk := D.nx } σ2 H2)
theorem e_for1 {ta : TA} {g : TG} {tb : TS} {D : Ends} {σ : L2.St} {H : Hp} : tFor (iRng1 ta) g tb D σ H ↔ ta σ H (FR1 g tb D σ) := Iff.rfl
theorem g_FR1 {g : TG} {tb : TS} {D : Ends} {σ : L2.St} {H1 : Hp} {j : Int} (b1 : -(2 ^ 62) ≤ j) (b2 : j < 2 ^ 62) (h : Loop j.toNat (fun i => .int (i : Nat)) g tb D σ H1) : FR1 g tb D σ [.int j] H1 := L_range1 b1 b2 h
def FR2 (g : TG) (tb : TS) (D : Ends) (σ : L2.St) (vs : List V) (H1 : Hp) : Prop := ∃ i0 j : Int, vs = [.int i0, .int j] ∧ (-(2 ^ 62) ≤ i0 ∧ i0 < 2 ^ 62 ∧ -(2 ^ 62) ≤ j ∧ j < 2 ^ 62) ∧ ∃ W : Nat → Nat → L2.St → Hp → Prop, (∃ m, W 0 m σ H1) ∧ ∀ i m σ H, W i m σ H →
  ((Itr i0 (j - i0).toNat).stop i H ∧ D.nx σ H) ∨ ((Itr i0 (j - i0).toNat).go i H ∧ ∃ N : L2.St → Hp → Prop, (∀ σ' H', N σ' H' → ∃ m', m' < m ∧ W (i + 1) m' σ' H') ∧ ∀ x H', (Itr i0 (j - i0).toNat).yld i H x H' → g x σ H' fun σ2 H2 => tb { D with nx := N, ct := N, bk := D.nx } σ2 H2)
theorem e_for2 {ta : TA} {g : TG} {tb : TS} {D : Ends} {σ : L2.St} {H : Hp} : tFor (iRng2 ta) g tb D σ H ↔ ta σ H (FR2 g tb D σ) := Iff.rfl
/-- a for over a list, a tuple, a text, behind it -/
def FU (K : PySem.W.Frag) (g : TG) (tb : TS) (D : Ends) (σ : L2.St) (x : V) (H1 : Hp) : Prop := iU K (tC x) σ H1 fun J H1 => ∃ W : Nat → Nat → L2.St → Hp → Prop, (∃ m, W 0 m σ H1) ∧ ∀ i m σ H, W i m σ H →
  (J.stop i H ∧ D.nx σ H) ∨ (J.go i H ∧ ∃ N : L2.St → Hp → Prop, (∀ σ' H', N σ' H' → ∃ m', m' < m ∧ W (i + 1) m' σ' H') ∧ ∀ x H', J.yld i H x H' → g x σ H' fun σ2 H2 => tb { D with nx := N, ct := N, bk := D.nx } σ2 H2)
theorem e_forU {K : PySem.W.Frag} {tl : TE} {g : TG} {tb : TS} {D : Ends} {σ : L2.St} {H : Hp} : tFor (iU K tl) g tb D σ H ↔ tl σ H (FU K g tb D σ) := Iff.rfl
/-- over a list that stands still -/
theorem g_FL {K : PySem.W.Frag} {g : TG} {tb : TS} {D : Ends} {σ : L2.St} {H1 : Hp} {a : Addr} {xs : List V} (Pv : Nat → L2.St → Hp → Prop) (h : SqL K H1 a xs) (h0 : Pv 0 σ H1) (hl : ∀ i σ H, i ≤ xs.length → Pv i σ H → SqL K H a xs)
    (hs : ∀ i x σ H, xs[i]? = some x → Pv i σ H → g x σ H fun σ2 H2 => tb { D with nx := Pv (i + 1), ct := Pv (i + 1), bk := D.nx } σ2 H2) (hd : ∀ σ H, Pv xs.length σ H → D.nx σ H) : FU K g tb D σ (.ref a) H1 :=
  .inl ⟨a, xs, rfl, h, for_list Pv h0 hl hs hd⟩
theorem g_FT {K : PySem.W.Frag} {g : TG} {tb : TS} {D : Ends} {σ : L2.St} {H1 : Hp} {a : Addr} {xs : List V} (Pv : Nat → L2.St → Hp → Prop) (h : Tup H1 a xs) (h0 : Pv 0 σ H1) (hl : ∀ i σ H, i ≤ xs.length → Pv i σ H → Tup H a xs)
    (hs : ∀ i x σ H, xs[i]? = some x → Pv i σ H → g x σ H fun σ2 H2 => tb { D with nx := Pv (i + 1), ct := Pv (i + 1), bk := D.nx } σ2 H2) (hd : ∀ σ H, Pv xs.length σ H → D.nx σ H) : FU K g tb D σ (.ref a) H1 :=
  .inr (.inl ⟨a, xs, rfl, h.sq, for_tup Pv h0 (fun i σ H l p => (hl i σ H l p).sq) hs hd⟩)
/-- the script: locked, or an object of the module -/
def Scr (K : PySem.W.Frag) (H : Hp) (a : Addr) (xs : List V) : Prop :=
  (∃ o, H a = some (.frz o (.lst xs))) ∨ ∃ (o : Obj) (its : Array Value) (n : Nat), K.lookup a = some o ∧ o.cls = .type "list" ∧ o.dict = none ∧ o.data = .seq its n ∧ its.size ≤ sizeLine ∧ Vals xs its.toList
theorem Scr.sq {K : PySem.W.Frag} {H : Hp} {a : Addr} {xs : List V} (h : Scr K H a xs) : SqL K H a xs := h.elim (fun h => .inl (.inr h)) .inr
theorem Scr.keep {K : PySem.W.Frag} {S : List Addr} {H H' : Hp} {a : Addr} {xs : List V} (h : Scr K H a xs) (k : Keep S H H') (n : ∀ o, H a = some o → a ∉ S) : Scr K H' a xs :=
  h.elim (fun ⟨o, e⟩ => .inl ⟨o, k _ _ (n _ e) e⟩) .inr
theorem Scr.keep0 {K : PySem.W.Frag} {H H' : Hp} {a : Addr} {xs : List V} (h : Scr K H a xs) (k : Keep [] H H') : Scr K H' a xs := h.keep k fun _ _ => nin0
/-- a new object comes and is changed -/
theorem Scr.past {K : PySem.W.Frag} {H H1 H2 : Hp} {a p : Addr} {xs : List V} (h : Scr K H a xs) (n : H p = none) (k1 : Keep [] H H1) (k2 : Keep [p] H1 H2) : Scr K H2 a xs :=
  h.elim (fun ⟨o, e⟩ => .inl ⟨o, k2 _ _ (nin1 (ne_of_none e n)) (k1 _ _ nin0 e)⟩) .inr
theorem Scr.of {K : PySem.W.Frag} {H : Hp} {a : Addr} {xs : List V} (o : Only H) (h : SqL K H a xs) : Scr K H a xs := by
  rcases h with (h | h) | h
  · rcases o a with z | ⟨ob, ys, z⟩
    · exact nomatch z.symm.trans h
    · exact nomatch z.symm.trans h
  · exact .inl h
  · exact .inr h
theorem e_ten6 : (10 : Int) ^ (6 : Int).toNat = 1000000 := by decide
theorem e_ten18 : (10 : Int) ^ (18 : Int).toNat = 1000000000000000000 := by decide
theorem e_ten60 : (10 : Int) ^ (60 : Int).toNat = 10 ^ 60 := rfl
theorem len1 {α : Type} {a : α} : [a].length ≤ sizeLine := by show 1 ≤ sizeLine; decide
theorem len_le {n : Nat} (h : n ≤ 1000000) : n ≤ sizeLine := by
  rw [sizeLine_eq]
  omega
theorem len_lt {n : Nat} (h : n ≤ 1000000) : n < sizeLine := by
  rw [sizeLine_eq]
  omega
end Wg

/-! Wagon, part 8: comprehensions, places of texts in tuples, join, split. -/
namespace Wg
open PySem PySem.Spec PyProof.Rows L2

theorem Keep.past {S : List Addr} {H H1 H2 : Hp} {d : Addr} (k1 : Keep S H H1) (k2 : Keep [d] H1 H2) (n : H d = none) : Keep S H H2 := fun b o hb e =>
  k2 b o (nin1 (ne_of_none e n)) (k1 b o hb e)

/-! ### comprehensions -/
/-- n turns: acc is what is made so far, D the new list; R: what is wanted of an element, R0: of a turn without one -/
def CLoop (S : List Addr) (n : Nat) (it : Nat → V) (g : TG) (tt : TT) (te : TE) (vs : List Nat) (σ : L2.St) (H1 : Hp) (Q : VK) : Prop :=
  ∃ P : Nat → Hp → List V → Prop, (∀ D H2, H1 D = none → Keep [] H1 H2 → P 0 H2 []) ∧
    (∀ D i H acc (R : VK) (R0 : Hp → Prop), H1 D = none → i < n → Keep S H1 H → H D = some (.lst acc) → P i H acc →
      (∀ y H4, Keep S H H4 → acc.length < sizeLine → (∀ H5, Keep [D] H4 H5 → P (i + 1) H5 (acc ++ [y])) → R y H4) → (∀ H3, Keep S H H3 → P (i + 1) H3 acc → R0 H3) →
      g (it i) (wipe σ vs) H fun σ2 H2 => wipe σ2 vs = wipe σ vs ∧ tt σ2 H2 fun b H3 => if b = true then te σ2 H3 R else R0 H3) ∧
    ∀ D H acc, H1 D = none → Keep S H1 H → H D = some (.lst acc) → P n H acc → Q (.ref D) H
/-- what a comprehension asks behind its source's value -/
def CB (J : It) (g : TG) (tt : TT) (te : TE) (vs : List Nat) (σ : L2.St) (Q : VK) (H1 : Hp) : Prop := ∀ D, H1 D = none → ∃ W : Nat → Nat → Hp → Prop, (∃ m, W 0 m (upd H1 D (.lst []))) ∧ ∀ i m H, W i m H →
  (J.stop i H ∧ Q (.ref D) H) ∨ (J.go i H ∧ ∃ Nx : Hp → Prop, (∀ H', Nx H' → ∃ m', m' < m ∧ W (i + 1) m' H') ∧ ∀ x H', J.yld i H x H' → g x (wipe σ vs) H' fun σ2 H2 => wipe σ2 vs = wipe σ vs ∧ tt σ2 H2 fun b H3 =>
    if b = true then te σ2 H3 fun y H4 => ∃ acc, H4 D = some (.lst acc) ∧ acc.length < sizeLine ∧ Nx (upd H4 D (.lst (acc ++ [y]))) else Nx H3)
def CU (K : PySem.W.Frag) (g : TG) (tt : TT) (te : TE) (vs : List Nat) (σ : L2.St) (Q : VK) (x : V) (H1 : Hp) : Prop := iU K (tC x) σ H1 fun J H1 => CB J g tt te vs σ Q H1
theorem e_lcU {K : PySem.W.Frag} {tl : TE} {g : TG} {tt : TT} {te : TE} {vs : List Nat} {σ : L2.St} {H : Hp} {Q : VK} : tLc (iU K tl) g tt te vs σ H Q ↔ tl σ H (CU K g tt te vs σ Q) := Iff.rfl
def CR1 (g : TG) (tt : TT) (te : TE) (vs : List Nat) (σ : L2.St) (Q : VK) (xs : List V) (H1 : Hp) : Prop := ∃ j : Int, xs = [.int j] ∧ -(2 ^ 62) ≤ j ∧ j < 2 ^ 62 ∧ CB (Itr 0 j.toNat) g tt te vs σ Q H1
theorem e_lcR1 {ta : TA} {g : TG} {tt : TT} {te : TE} {vs : List Nat} {σ : L2.St} {H : Hp} {Q : VK} : tLc (iRng1 ta) g tt te vs σ H Q ↔ ta σ H (CR1 g tt te vs σ Q) := Iff.rfl
/-- from CLoop: J yields it i at turn i and stops at n, as long as what was there ahead is kept -/
theorem cb_of {S : List Addr} {n : Nat} {it : Nat → V} {J : It} {g : TG} {tt : TT} {te : TE} {vs : List Nat} {σ : L2.St} {H1 : Hp} {Q : VK} (hS : ∀ b ∈ S, ∃ o, H1 b = some o)
    (hgo : ∀ i H, i < n → Keep S H1 H → J.go i H) (hy : ∀ i H x H', i < n → Keep S H1 H → J.yld i H x H' → x = it i ∧ H' = H) (hst : ∀ H, Keep S H1 H → J.stop n H)
    (h : CLoop S n it g tt te vs σ H1 Q) : CB J g tt te vs σ Q H1 := by
  intro D hD
  obtain ⟨P, p0, ps, pd⟩ := h
  have nD : D ∉ S := fun z => by
    obtain ⟨o, e⟩ := hS D z
    exact nomatch hD.symm.trans e
  refine ⟨fun i m H => m = n - i ∧ i ≤ n ∧ Keep S H1 H ∧ ∃ acc, H D = some (.lst acc) ∧ P i H acc, ⟨n, by omega, by omega, (Keep.new hD).all, [], upd_same, p0 D _ hD (Keep.new hD)⟩, ?_⟩
  rintro i m H ⟨rfl, hi, k, acc, eD, p⟩
  by_cases hlt : i < n
  · refine .inr ⟨hgo i H hlt k, fun H' => i + 1 ≤ n ∧ Keep S H1 H' ∧ ∃ acc, H' D = some (.lst acc) ∧ P (i + 1) H' acc, fun H' q => ⟨n - (i + 1), by omega, rfl, q⟩, fun x H' y => ?_⟩
    obtain ⟨ex, eh⟩ := hy i H x H' hlt k y
    rw [ex, eh]
    exact ps D i H acc _ _ hD hlt k eD p (fun y H4 k4 z q => ⟨acc, k4 _ _ nD eD, z, hlt, (k.trans k4).past Keep.set hD, _, upd_same, q _ Keep.set⟩) fun H3 k3 q => ⟨hlt, k.trans k3, acc, k3 _ _ nD eD, q⟩
  · have e : i = n := by omega
    subst e
    exact .inl ⟨hst H k, pd D H acc hD k eD p⟩
theorem g_CR1 {S : List Addr} {g : TG} {tt : TT} {te : TE} {vs : List Nat} {σ : L2.St} {H1 : Hp} {Q : VK} {j : Int} (hS : ∀ b ∈ S, ∃ o, H1 b = some o) (b1 : -(2 ^ 62) ≤ j) (b2 : j < 2 ^ 62)
    (h : CLoop S j.toNat (fun i => .int (i : Nat)) g tt te vs σ H1 Q) : CR1 g tt te vs σ Q [.int j] H1 := by
  refine ⟨j, rfl, b1, b2, cb_of hS (fun i H hi _ => hi) (fun i H x H' hi _ y => ?_) (fun H _ => Nat.le_refl _) h⟩
  obtain ⟨e1, e2⟩ := y
  exact ⟨by rw [e2, Int.zero_add], e1⟩
theorem g_CL {S : List Addr} {K : PySem.W.Frag} {g : TG} {tt : TT} {te : TE} {vs : List Nat} {σ : L2.St} {H1 : Hp} {Q : VK} {a : Addr} {xs : List V} (hS : ∀ b ∈ S, ∃ o, H1 b = some o) (hx : H1 a = some (.lst xs)) (na : a ∉ S)
    (h : CLoop S xs.length (fun i => xs.getD i .non) g tt te vs σ H1 Q) : CU K g tt te vs σ Q (.ref a) H1 := by
  refine .inl ⟨a, xs, rfl, lst_sq hx, cb_of hS (fun i H hi k => ⟨xs, xs[i], lst_sq (k _ _ na hx), List.getElem?_eq_getElem hi⟩) (fun i H x H' hi k y => ?_) (fun H k => ⟨xs, lst_sq (k _ _ na hx), Nat.le_refl _⟩) h⟩
  obtain ⟨e1, e2⟩ := y
  have := e2 xs (lst_sq (k _ _ na hx))
  exact ⟨by rw [List.getD_eq_getElem?_getD, this]; rfl, e1⟩
theorem g_CT {S : List Addr} {K : PySem.W.Frag} {g : TG} {tt : TT} {te : TE} {vs : List Nat} {σ : L2.St} {H1 : Hp} {Q : VK} {a : Addr} {xs : List V} (hS : ∀ b ∈ S, ∃ o, H1 b = some o) (hx : Tup H1 a xs) (na : a ∉ S)
    (h : CLoop S xs.length (fun i => xs.getD i .non) g tt te vs σ H1 Q) : CU K g tt te vs σ Q (.ref a) H1 := by
  refine .inr (.inl ⟨a, xs, rfl, hx.sq, cb_of hS (fun i H hi k => ⟨xs, xs[i], (hx.keep k na).sq, List.getElem?_eq_getElem hi⟩) (fun i H x H' hi k y => ?_) (fun H k => ⟨xs, (hx.keep k na).sq, Nat.le_refl _⟩) h⟩)
  obtain ⟨e1, e2⟩ := y
  have := e2 xs (hx.keep k na).sq
  exact ⟨by rw [List.getD_eq_getElem?_getD, this]; rfl, e1⟩
theorem g_CS {S : List Addr} {K : PySem.W.Frag} {g : TG} {tt : TT} {te : TE} {vs : List Nat} {σ : L2.St} {H1 : Hp} {Q : VK} {z : Str} (hS : ∀ b ∈ S, ∃ o, H1 b = some o)
    (h : CLoop S z.cps.size (fun i => .str ⟨#[z.cps.getD i 0]⟩) g tt te vs σ H1 Q) : CU K g tt te vs σ Q (.str z) H1 := by
  refine .inr (.inr ⟨z, rfl, cb_of hS (fun i H hi k => hi) (fun i H x H' hi k y => ?_) (fun H k => Nat.le_refl _) h⟩)
  obtain ⟨e1, c, e2, e3⟩ := y
  refine ⟨?_, e1⟩
  rw [e3, Array.getD_eq_getD_getElem?, e2]
  rfl

/-! ### a text's place in a tuple of texts -/
section
variable {X : Cx} {o e : Expr} {to te : TE} {apos cpos : Pos}
def tIdx (K : PySem.W.Frag) (to : TE) (t : TA) : TE := fun σ H Q => to σ H fun x H1 => ∃ (a : Addr) (ys : List Str), x = .ref a ∧ Tup H1 a (ys.map V.str) ∧ t σ H1 fun vs H2 =>
  ∃ (z : Str) (j : Nat), vs = [.str z] ∧ Tup H2 a (ys.map V.str) ∧ ys[j]? = some z ∧ (∀ m, m < j → ys[m]? ≠ some z) ∧ Q (.int (j : Nat)) H2
theorem pe_idx {t : TA} (ho : PE X o to) (ha : PA X [e] t) (hbase : attributeBase o "index" X.env (eval o X.env) = eval o X.env := by rfl)
    (hfew : ((backTo cpos (starEach [e] X.env)).all (fun x => !x.1) && (backToKw cpos (keywordEach [] X.env)).all (fun x => x.1.isSome)
      && decide (([e] : List Expr).length + ([] : List Keyword).length + (if ([] : List Keyword).isEmpty then 0 else 1) < 30)) = true := by rfl)
    (hline : (apos.endLine == cpos.line) = true := by rfl) (hs : starEach [e] X.env = (false, eval e X.env) :: starEach [] X.env := by rfl) (hplain : (backTo cpos (starEach [] X.env)).any (·.1) = false := by rfl) :
    PE X (.Call (.Attribute o "index" apos) [e] [] cpos) (tIdx X.K to t) := by
  constructor
  intro pins s σ H Q I h
  have run := ho.run pins s σ H _ I h
  refine wpAny_Call_method_late hbase hfew hline rfl (thn run fun v s1 w => ?_)
  obtain ⟨x, H1, I1, r1, a, ys, rfl, tu, q1⟩ := w
  cases r1
  obtain ⟨its, n, rv, z, hob⟩ := tu.obj I1
  refine ⟨"tuple", "tuple.index", PySem.F.plainAttrs_tuple, PySem.F.slot_tuple_index, PySem.F.type_tuple_index, ⟨_, hob, rfl⟩, fun b e => ?_, ?_⟩
  · cases e
    exact ⟨_, hob, rfl⟩
  have args := ha.run cpos pins s1 σ H1 _ I1 q1
  rw [hs] at args ⊢
  refine Calls.callWith_builtin (by show (false || (backTo cpos (starEach [] X.env)).any (·.1)) = false; rw [hplain] <;> rfl) (Calls.evalArgs_plain ?_)
  refine thn args fun us s2 y => ?_
  obtain ⟨vs, H2, I2, r2, zz, j, rfl, t2, ej, em, q2⟩ := y
  exact mt_tup_index pins s2 σ H2 (.ref a) [.str zz] (.ref a) us Q I2 rfl r2 ⟨a, ys, zz, j, rfl, rfl, t2.sq, ej, em, q2⟩
end

/-! ### texts -/
section
variable {X : Cx} {o e : Expr} {to te : TE} {apos pos : Pos}
def uJoin (K : PySem.W.Frag) : V → List V → Hp → VK → Prop := fun x xs H Q => ∃ a p, ∃ ys : List Str, x = .str a ∧ xs = [.ref p] ∧ (SqL K H p (ys.map V.str) ∨ SqT K H p (ys.map V.str)) ∧ (ys.map (·.length)).sum + ys.length * a.length ≤ 16777216 ∧ Q (.str (Txt.join a ys)) H
theorem pe_uJoin (ho : PE X o to) (he : PE X e te) (hs : starEach [e] X.env = [(false, eval e X.env)] := by rfl) (hbase : attributeBase o "join" X.env (eval o X.env) = eval o X.env := by rfl) (hline : (apos.endLine == pos.line) = true := by rfl) :
    PE X (.Call (.Attribute o "join" apos) [e] [] pos) (tM1 (uJoin X.K) to te) := pe_join ho he hs hbase hline
def uSplit : V → List V → Hp → VK → Prop := fun x xs H Q => ∃ a b, x = .str a ∧ xs = [.str b] ∧ (b.length == 0) = false ∧ a.length + 2 ≤ sizeLine ∧ Mk H (.lst ((Txt.split a b).map V.str)) Q
theorem mt_uSplit : MtR X "str.split" uSplit := by
  intro pins s σ H x xs v us Q I rx rs h
  obtain ⟨a, b, e1, e2, h1, h2, q⟩ := h
  exact mt_split pins s σ H x xs v us Q I rx rs ⟨a, b, e1, e2, h1, h2, fun p n => q.at p n⟩
theorem pe_uSplit (ho : PE X o to) (he : PE X e te) (hs : starEach [e] X.env = [(false, eval e X.env)] := by rfl) (hbase : attributeBase o "split" X.env (eval o X.env) = eval o X.env := by rfl) (hline : (apos.endLine == pos.line) = true := by rfl) :
    PE X (.Call (.Attribute o "split" apos) [e] [] pos) (tM1 uSplit to te) := pe_m1 PySem.F.slot_str_split PySem.F.type_str_split mt_uSplit ho he hs hbase hline
end
end Wg

/-! Wagon, part 9: list(reversed(list)). -/
namespace Wg
open PySem PySem.Spec PyProof.Rows L2
section
variable {prog : Program} {w : World} {A : Around} {E : Value → Shared → Prop} {s : Shared}
/-- what a new list takes out of a list walked from behind -/
theorem takes_back {it l S : Addr} {items : Array Value} {R : Result → Shared → Prop} (hh : A.handled = none) (hit : s.heap.IsRevIter it l ((items.size : Int) - 1)) (hl : s.heap.IsList l items) (hne : l ≠ it) (hn : items.size ≤ sizeLine)
    (hSi : S ≠ it) (hSl : S ≠ l) (hS : s.heap.get? S = some { cls := .type "list", data := .seq #[] })
    (hR : ∀ (h' : Heap) (tk : Nat) (acc : Array Value) (c' : Nat), (∀ b o, b ≠ S → b ≠ it → s.heap.get? b = some o → h'.get? b = some o) → h'.get? S = some { cls := .type "list", dict := none, data := .seq acc c', slots := #[] } →
      ItemsOf (fun i v => items[items.size - 1 - i]? = some v) acc items.size → R (.ok (.ret .none)) { s with heap := h', toks := tk }) :
    wpAny (model prog w) A.in1 (Builtin.«list.__init__» ⟨[.ref S, .ref it], []⟩)
      (fun fin s' => match fin with | .done f => R (.ok f) s' | .again c' => c'.quiet = true ∧ codeAny (model prog w) A c' R s') (fun e s' => R (.error e) s') s := by
  have W := (Walks.listRev (prog := prog) (w := w) (A := A.in1) hh it l hne items).toS
  have hSf : S ∉ [it, l] := by simp only [List.mem_cons, List.not_mem_nil, or_false, not_or]; exact ⟨hSi, hSl⟩
  show wpAny _ A.in1 (do let old ← Builtin.List.listItems (.ref S); Builtin.List.listUpdate (.ref S) (fun _ => #[]); letGo old.toList.reverse; Builtin.List.listExtendWith (.ref S) (.ref it) .none) _ _ s
  refine wpAny_bind ?_
  unfold Builtin.List.listItems
  refine wpAny_bind (wpAny_seqItems hS rfl (wpAny_pure ?_))
  show wpAny _ A.in1 (updateSeq S (fun _ => #[]) >>= fun _ => letGo (#[] : Array Value).toList.reverse >>= fun _ => Builtin.List.listExtendWith (.ref S) (.ref it) .none) _ _ s
  refine wpAny_bind (wpAny_updateSeq hS rfl ?_)
  have hS₂ := Heap.get?_update_self (Obj.mapSeq (fun _ => (#[] : Array Value))) hS rfl
  have oth₂ : ∀ b o, b ≠ S → s.heap.get? b = some o → (s.heap.update S (Obj.mapSeq (fun _ => (#[] : Array Value)))).get? b = some o := fun b o hb e => (Heap.get?_update_other _ _ (Ne.symm hb)).trans e
  refine wpAny_bind (wpAny_letGo ?_)
  have hit2 := hit.at (h' := s.heap.update S (Obj.mapSeq (fun _ => (#[] : Array Value)))) fun o e => oth₂ it o (Ne.symm hSi) e
  have hl2 : (s.heap.update S (Obj.mapSeq (fun _ => (#[] : Array Value)))).IsList l items := hl.at fun o e => oth₂ l o (Ne.symm hSl) e
  have hT : ({ s with heap := s.heap.update S (Obj.mapSeq (fun _ => (#[] : Array Value))) } : Shared).TypeIs (.ref it) "list_reverseiterator" := Heap.IsRevIter.typeIs (s := { s with heap := s.heap.update S (Obj.mapSeq (fun _ => (#[] : Array Value))) }) hit2
  have h1 : Builtin.List.listSameRef (.ref S) (.ref it) = false := by simp [Builtin.List.listSameRef, hSi]
  unfold Builtin.List.listExtendWith
  refine wpAny_bind (wpAny_typeOf hT ?_)
  rw [if_neg (by rw [h1]; decide)]
  refine wpAny_bind (wpAny_pyIter_revIter (s := { s with heap := s.heap.update S (Obj.mapSeq (fun _ => (#[] : Array Value))) }) hit2 ?_)
  refine wpAny_bind (wpAny_holding ?_)
  unfold Builtin.List.listLengthHint
  refine wpAny_bind (wpAny_specialOf hT RT.nolen_lri ?_)
  show wpAny _ A.in1 (specialOf (Value.ref it) (Str.ofString "__length_hint__") >>= _) _ _ _
  refine wpAny_bind (wpAny_specialOf hT RT.hint_lri ?_)
  generalize hid : ("list_reverseiterator.__length_hint__" : String) = id0
  wp_delta
  rw [show splitId id0 = some ("list_reverseiterator", "__length_hint__") from by subst hid; decide +kernel]
  subst hid
  refine wpAny_bind (wpAny_isInstance (b := true) hT (by rw [isSubtype_type]; kernel_rfl) ?_)
  refine wpAny_pure ?_
  rw [if_neg (by decide)]
  have e0 : ((items.size : Nat) : Int) - 1 - ((0 : Nat) : Int) = (items.size : Int) - 1 := by omega
  refine wpAny_pure ⟨plainId_quiet F.plain_extend_loop _, codeAny_extend_loopS W hn _ hSf _ items.size 0 _ _ _ rfl (Nat.zero_le _) ⟨Nat.zero_le _, by rw [e0]; exact hit2, hl2⟩ hS₂ (ItemsOf.nil _) fun s' acc' c' hm hS' hacc => ?_⟩
  rw [Moved.eq_with hm]
  refine hR s'.heap s'.toks acc' c' (fun b o h1 h2 e => hm.heap b o (fun hmem => ?_) (oth₂ b o h1 e)) hS' hacc
  rcases List.mem_cons.mp hmem with e' | hmem
  · exact h1 e'
  · exact h2 (List.mem_singleton.mp hmem)
theorem call_list_back {it l : Addr} {items : Array Value} {Q : Value → Shared → Prop} (hh : A.handled = none) (hit : s.heap.IsRevIter it l ((items.size : Int) - 1)) (hl : s.heap.IsList l items) (hne : l ≠ it) (hn : items.size ≤ sizeLine)
    (hQ : ∀ (h' : Heap) (tk : Nat) (acc : Array Value) (c' : Nat), (∀ b o, b ≠ it → s.heap.get? b = some o → h'.get? b = some o) → h'.get? s.heap.objs.size = some { cls := .type "list", dict := none, data := .seq acc c', slots := #[] } →
      ItemsOf (fun i v => items[items.size - 1 - i]? = some v) acc items.size → Q (.ref s.heap.objs.size) { s with heap := h', toks := tk }) :
    wpAny (model prog w) A (call (.type "list") [.ref it]) Q E s := by
  obtain ⟨oi, hoi, _⟩ := id hit
  obtain ⟨ol, hol, _⟩ := id hl
  have hSi : s.heap.objs.size ≠ it := Nat.ne_of_gt (Heap.lt_size hoi)
  have hSl : s.heap.objs.size ≠ l := Nat.ne_of_gt (Heap.lt_size hol)
  refine callType_codes (Q₁ := fun obj s₁ => obj = .ref s.heap.objs.size ∧ s₁ = { s with heap := s.heap.push { cls := .type "list", data := .seq #[] } }) F.called_list (F.typeCall_list_1 _) F.entry_list_init
    (code_list_new _ ⟨rfl, rfl⟩) fun obj s₁ h₁ => ?_
  obtain ⟨rfl, rfl⟩ := h₁
  have hS : (s.heap.push { cls := .type "list", data := .seq #[] }).get? s.heap.objs.size = some { cls := .type "list", data := .seq #[] } := Heap.get?_push_size _ rfl
  refine ⟨⟨_, hS, rfl⟩, F.args_list_init_2 _ _, takes_back (s := { s with heap := s.heap.push { cls := .type "list", data := .seq #[] } }) (A := A.in1) hh (hit.at fun o e => Heap.get?_push_of_some _ e) (hl.push _) hne hn hSi hSl hS fun h' tk acc c' hk hS' hacc => ?_⟩
  refine ⟨rfl, hQ h' tk acc c' (fun b o hb e => hk b o (fun e' => absurd (Heap.lt_size e) (by rw [e']; exact Nat.lt_irrefl _)) hb (Heap.get?_push_of_some _ e)) hS' hacc⟩
end
def uLRev (K : PySem.W.Frag) (te : TE) : TE := fun σ H Q => te σ H fun x H1 => ∃ p ys, x = .ref p ∧ SqL K H1 p ys ∧ Mk H1 (.lst ys.reverse) Q
section
variable {X : Cx}
theorem pe_uLRev {e : Expr} {te : TE} {p p2 pos pos2 : Pos} (hc : X.calm = true) (hg : Gl X "list") (hm : X.mg "list" = none) (hg2 : Gl X "reversed") (hm2 : X.mg "reversed" = none) (he : PE X e te)
    (hs : starEach [e] X.env = (false, eval e X.env) :: starEach [] X.env := by rfl)
    (hs2 : starEach [.Call (.Name "reversed" p2) [e] [] pos2] X.env = (false, eval (.Call (.Name "reversed" p2) [e] [] pos2) X.env) :: starEach [] X.env := by rfl) :
    PE X (.Call (.Name "list" p) [.Call (.Name "reversed" p2) [e] [] pos2] [] pos) (uLRev X.K te) := by
  refine ⟨fun pins s σ H Q I h => ?_⟩
  refine Call_ (ld_blt I hg hm boot_list (PyProof.Rows.callWith_type1 (args_cons (Call_ (ld_blt I hg2 hm2 PyProof.Rows.boot_reversed (PyProof.Rows.callWith_type1 (args_cons (thn (he.run pins s σ H _ I h) fun u s1 ⟨v, H1, I1, r1, q1⟩ => args_nil ?_) hs) hs rfl))) hs2) hs2 rfl))
  obtain ⟨a, xs, ev, hq, q⟩ := q1
  subst ev
  obtain rfl : u = Value.ref a := r1
  obtain ⟨its, rv, p', hz⟩ := I1.list hq
  refine call_reversed_list p'.isList (args_nil ?_)
  have hl := p'.isList
  obtain ⟨ol, hol, _⟩ := id hl
  have hne : a ≠ s1.heap.objs.size := Nat.ne_of_lt (Heap.lt_size hol)
  have hn : its.toArray.size ≤ sizeLine := by rw [List.size_toArray, ← rv.length]; exact hz
  have hsz : (s1.heap.push (revObj a ((its.toArray.size : Int) - 1))).objs.size = s1.heap.objs.size + 1 := by simp [Heap.push]
  refine call_list_back (s := { s1 with heap := s1.heap.push (revObj a ((its.toArray.size : Int) - 1)) }) (I1.ok.hd hc) ⟨_, Heap.get?_push_size _ rfl, rfl, rfl⟩ (hl.push _) hne hn fun h' tk acc c' hk hS hi => ?_
  have k0 : ∀ b o, s1.heap.get? b = some o → h'.get? b = some o := fun b o e => hk b o (Nat.ne_of_lt (Heap.lt_size e)) (Heap.get?_push_of_some _ e)
  have le : s1.heap.objs.size ≤ (s1.heap.push (revObj a ((its.toArray.size : Int) - 1))).objs.size := by rw [hsz]; exact Nat.le_succ _
  refine ⟨.ref _, upd H1 _ (.lst xs.reverse), I1.laid (t' := tk) k0 le (show ObjOk X.prog X.w _ h' _ (.lst xs.reverse) from ⟨by rw [List.length_reverse]; exact hz, acc.toList, c', RT.vals_rev rv hi, ?_⟩), rfl, q.at _ (I1.hok.fresh le)⟩
  rw [Array.toArray_toList]
  exact hS
end
theorem g_lrev {K : PySem.W.Frag} {p : Addr} {ys : List V} {H : Hp} {Q : VK} (h : SqL K H p ys) (q : ∀ l H', H l = none → Keep [] H H' → H' l = some (.lst ys.reverse) → Q (.ref l) H') : ∃ p' ys', V.ref p = .ref p' ∧ SqL K H p' ys' ∧ Mk H (.lst ys'.reverse) Q := ⟨p, ys, rfl, h, q⟩
end Wg

/-! Wagon, part 10: {i: j}. -/
namespace Wg
open PySem PySem.Spec PyProof.Rows L2
section
variable {X : Cx} {pos : Pos}
def tDicI (i j : Int) : TE := fun _ H Q => Mk H (.dK [(.inl i, .int j)]) Q
theorem pe_dicI {k v : Expr} {i j : Int} (hk : PE X k (tC (.int i))) (hv : PE X v (tC (.int j))) : PE X (.Dict [some k] [v] pos) (tDicI i j) := by
  constructor
  intro pins s σ H Q I q
  refine (pe_disp (pps_cons hk hv pps_nil) rfl rfl (by simp) (by simp)).run pins s σ H Q I fun p n => ?_
  refine ⟨upd_same, [(.inl i, .int j)], rfl, by simp, ?_⟩
  rw [upd_upd]
  exact q.at p n
end
end Wg

/-! Wagon, part 11: enumerate(tuple), min of a list. -/
namespace Wg
open PySem PySem.Spec PyProof.Rows L2
theorem en_new (l : Addr) (items : Array Value) (n : Nat) (dct : Option Addr) (sl : Array (Option Value)) :
    Meets (Builtin.«enumerate.__new__» ⟨[.type "enumerate", .ref l], []⟩) (fun _ R s => s.heap.get? l = some { cls := .type "tuple", dict := dct, data := .seq items n, slots := sl } ∧
      R (.ok (.ret (.ref (s.heap.push { cls := .type "tuple_iterator", data := .fields #[.ref l, .int 0 0] }).objs.size)))
        { s with heap := (s.heap.push { cls := .type "tuple_iterator", data := .fields #[.ref l, .int 0 0] }).push { cls := .type "enumerate", data := .fields #[.none, .bool false, .ref s.heap.objs.size, rawInt 0, .none, .none] } }) :=
  .of_wp fun prog w A R s h => by
    obtain ⟨hp, g, d, tk, os⟩ := s
    obtain ⟨hl, h⟩ := h
    have hsub := sub_enumerate
    have hL : Heap.IsTuple (Shared.heap ⟨hp, g, d, tk, os⟩) l items := ⟨_, hl, rfl, n, rfl⟩
    wp_walk using AutoSeq1.wpAny_loadPart' hl
    refine wpAny_stack_any fun st => wpAny_pure ?_
    split
    · rename_i c _ _ _ _ _
      cases (c == Value.type "enumerate")
      · wp_walk using AutoSeq1.wpAny_loadPart' hl, wpAny_pyIter_tuple hL
        exact ⟨_, rfl, h⟩
      · wp_walk using AutoSeq1.wpAny_loadPart' hl, wpAny_pyIter_tuple hL
        exact ⟨_, rfl, h⟩
    · wp_walk using AutoSeq1.wpAny_loadPart' hl, wpAny_pyIter_tuple hL
      exact ⟨_, rfl, h⟩
section
variable {prog : Program} {w : World} {A : Around} {E : Value → Shared → Prop} {s : Shared}
theorem call_en {l : Addr} {items : Array Value} {Q : Value → Shared → Prop} (hL : s.heap.IsTuple l items)
    (h : ∀ h', IsEnum h' (s.heap.objs.size + 1) s.heap.objs.size 0 .none → h'.IsTupleIter s.heap.objs.size l 0 → h'.objs.size = s.heap.objs.size + 2 →
      (∀ b o, s.heap.get? b = some o → h'.get? b = some o) → Q (.ref (s.heap.objs.size + 1)) { s with heap := h' }) :
    wpAny (model prog w) A (call (.type "enumerate") [.ref l]) Q E s := by
  obtain ⟨⟨c, dct, dt, sl⟩, hl, hc, n, hd⟩ := hL
  replace hc : c = .type "tuple" := hc
  replace hd : dt = .seq items n := hd
  subst hc hd
  refine callType_new F.called_enumerate (by decide) (F.typeCall_enumerate_1 _) (F.newCall_enumerate_1 _) (fun obj => F.args_object_init_2 obj _) F.entry_enumerate_new
    (en_new l items n dct sl) ⟨hl, ?_⟩
  have hz : (s.heap.push { cls := .type "tuple_iterator", data := .fields #[.ref l, .int 0 0] }).objs.size = s.heap.objs.size + 1 := Heap.size_push ..
  show _ ∧ _
  rw [hz]
  have he : IsEnum ((s.heap.push { cls := .type "tuple_iterator", data := .fields #[.ref l, .int 0 0] }).push
      { cls := .type "enumerate", data := .fields #[.none, .bool false, .ref s.heap.objs.size, rawInt 0, .none, .none] }) (s.heap.objs.size + 1) s.heap.objs.size 0 .none := by
    have := Heap.get?_push_size (s.heap.push { cls := .type "tuple_iterator", data := .fields #[.ref l, .int 0 0] })
      (o := { cls := .type "enumerate", data := .fields #[.none, .bool false, .ref s.heap.objs.size, rawInt 0, .none, .none] }) rfl
    rw [hz] at this
    exact this
  exact ⟨⟨_, he, rfl⟩, h _ he ⟨_, Heap.get?_push_of_some _ (Heap.get?_push_size _ rfl), rfl, rfl⟩ (by rw [Heap.size_push, hz]) fun b o x => Heap.get?_push_of_some _ (Heap.get?_push_of_some _ x)⟩
end
/-- a tuple's items in new pairs -/
def Itn (a : Addr) (xs : List V) : It :=
  ⟨fun i H => i < xs.length ∧ Tup H a xs, fun i H v H' => ∃ T x, v = .ref T ∧ H T = none ∧ H' = upd H T (.tup [.int (i : Nat), x]) ∧ xs[i]? = some x, fun i H => i = xs.length ∧ Tup H a xs⟩
theorem turn_en {P : Program} {w : World} {K : PySem.W.Frag} {elts : List Expr} {kk : Nat} {tpos : Pos} (a e it : Addr) (xs : List V) :
    Turn P w K (.Tuple elts kk tpos) (Itn a xs) [e, it] e (fun i h => (∃ old, IsEnum h e it ((i : Nat) : Int) old) ∧ h.IsTupleIter it a i ∧ e ≠ it ∧ a ≠ it ∧ a ≠ e) where
  mem := by simp
  obj := fun i h st b hb => by
    obtain ⟨⟨old, he⟩, ⟨o, ho, hc, hd⟩, _⟩ := st
    have e' : b = e ∨ b = it := by simpa using hb
    rcases e' with z | z
    · rw [z]; exact ⟨_, he, fun v q => nomatch q⟩
    · rw [z]; exact ⟨o, ho, fun v q => by rw [hd] at q; cases q⟩
  keep := fun i h h' st k => let ⟨⟨old, he⟩, hi, hne⟩ := st; ⟨⟨old, k e (by simp) _ he⟩, hi.at fun o q => k it (by simp) o q, hne⟩
  item := by
    intro X hP hw hK hc i pins s σ H E I hf st hg
    subst hP hw hK
    obtain ⟨⟨old, he⟩, hit, hne, hai, hae⟩ := st
    obtain ⟨hin, tu⟩ := hg
    obtain ⟨its, rv, p, hz⟩ := I.tuple (tu.sq (K := X.K))
    have hl := rv.length
    have hel : e < s.heap.objs.size := Heap.lt_size he
    have hil : it < s.heap.objs.size := by obtain ⟨_, q, _⟩ := hit; exact Heap.lt_size q
    have D := Draws.tuple (prog := X.prog) (w := X.w) (A := X.A.in1) (I.ok.hd hc) it a hai its.toArray
    have hta : s.heap.IsTuple a its.toArray := p
    refine wpAny_pyNext_enum_itemD D he ⟨hit, hta⟩ (by simp; omega) hne (by simp [hne, Ne.symm hae]) fun x h' tk hP ho hs' hT hsz hk => ?_
    obtain ⟨hit', _⟩ := hs'
    refine ⟨_, rfl, wpAny_letOwnedTupleGo_enum (s := { s with heap := h', toks := tk + 1 }) ho fun h'' he' sb => ?_⟩
    have hT2 : h''.get? s.heap.objs.size = some { cls := .type "tuple", data := .seq #[.int i tk, x] } := (sb.2 _ (Nat.ne_of_gt hel)).trans hT
    have hxi : its[i]? = some x := by simpa using hP
    obtain ⟨u, hu, ru⟩ : ∃ u, xs[i]? = some u ∧ RelV u x := by
      obtain ⟨x', h1, h2⟩ := rv.get (List.getElem?_eq_getElem hin)
      rw [hxi] at h1
      cases h1
      exact ⟨_, List.getElem?_eq_getElem hin, h2⟩
    have new : ObjOk X.prog X.w (upd H s.heap.objs.size (.tup [.int (i : Nat), u])) h'' s.heap.objs.size (.tup [.int (i : Nat), u]) :=
      ⟨by show 2 ≤ sizeLine; decide, [.int i tk, x], .cons ⟨_, rfl⟩ (.cons ru .nil), ⟨_, hT2, rfl, _, rfl⟩⟩
    have I1 : Inv X pins σ (upd H s.heap.objs.size (.tup [.int (i : Nat), u])) { s with heap := h'', toks := tk + 1 } :=
      I.turnedNew (ch := [e, it]) (fun b ob hb q => (sb.2 b (fun z => hb (by simp [z]))).trans (hk b ob (fun z => hb (by simp [z])) (fun z => hb (by simp [z])) q)) hf (Nat.le_refl _) new
    refine ⟨.ref s.heap.objs.size, _, I1, rfl, ⟨_, u, rfl, I.hok.fresh (Nat.le_refl _), rfl, hu⟩, ⟨⟨x, ?_⟩, hit'.at fun o q => (sb.2 it (Ne.symm hne)).trans q, hne, hai, hae⟩, fun b hb => ?_⟩
    · have e1 : ((i + 1 : Nat) : Int) = (i : Int) + 1 := by omega
      rw [e1]
      exact he'
    · have hb' : b < s.heap.objs.size := by
        have e' : b = e ∨ b = it := by simpa using hb
        rcases e' with z | z
        · rw [z]; exact hel
        · rw [z]; exact hil
      rw [upd_ne (Nat.ne_of_lt hb')]
      exact (hf b hb).1
  done := by
    intro X hP hw hK hc i pins s σ H E I hf st hg
    subst hP hw hK
    obtain ⟨⟨old, he⟩, hit, hne, hai, hae⟩ := st
    obtain ⟨hin, tu⟩ := hg
    obtain ⟨its, rv, p, hz⟩ := I.tuple (tu.sq (K := X.K))
    have hl := rv.length
    have hta : s.heap.IsTuple a its.toArray := p
    obtain ⟨f0, f1, f2, f3, f4, f5⟩ := hf it (by simp)
    have D := Draws.tuple (prog := X.prog) (w := X.w) (A := X.A.in1) (I.ok.hd hc) it a hai its.toArray
    have hn : its.toArray.size = i := by simp; omega
    exact wpAny_pyNext_enum_endD D he (by rw [hn]; exact ⟨hit, hta⟩) fun h' eb => ⟨rfl, I.turned (t' := s.toks) (fun b o hb q => eb b o hb q) f0 f1 f3 f4 f5⟩
  self := fun A i s Q E st h => let ⟨⟨_, he⟩, _⟩ := st; wpAny_pyIter_enum he h
def iEnumU (K : PySem.W.Frag) (ta : TA) : TI := fun σ H R => ta σ H fun vs H1 => ∃ a xs, vs = [.ref a] ∧ Tup H1 a xs ∧ R (Itn a xs) H1
theorem pi_enumU {X : Cx} {e : Expr} {ta : TA} {p pos tpos : Pos} {elts : List Expr} {kk : Nat} (hg : Gl X "enumerate") (hm : X.mg "enumerate" = none) (ha : PA X [e] ta) (hs : starEach [e] X.env = [(false, eval e X.env)] := by rfl) :
    PI X (.Tuple elts kk tpos) (.Call (.Name "enumerate" p) [e] [] pos) (iEnumU X.K ta) := by
  refine ⟨fun pins s σ H R I h => ?_⟩
  refine Call_ (ld_blt I hg hm boot_enumerate (PyProof.Rows.callWith_type1 (thn (ha.run pos pins s σ H _ I h) fun us s1 ⟨vs, H1, I1, r1, q1⟩ => ?_) hs rfl))
  obtain ⟨a, xs, ex, tu, q⟩ := q1
  subst ex
  cases r1 with
  | cons r rr =>
    cases rr
    cases r
    obtain ⟨its, rv, p', hz⟩ := I1.tuple (tu.sq (K := X.K))
    have hta : s1.heap.IsTuple a its.toArray := p'
    have hal : a < s1.heap.objs.size := by obtain ⟨_, q, _⟩ := hta; exact Heap.lt_size q
    refine call_en hta fun h' he hit hsz hk => wpAny_pyIter_enum he ?_
    have I2 : Inv X pins σ H1 { s1 with heap := h' } := I1.kept (t' := s1.toks) hk
    refine ⟨s1.heap.objs.size + 1, [s1.heap.objs.size + 1, s1.heap.objs.size], _, _, H1, rfl, I2, turn_en a (s1.heap.objs.size + 1) s1.heap.objs.size xs, ⟨⟨.none, he⟩, hit, Nat.succ_ne_self _, Nat.ne_of_lt hal, Nat.ne_of_lt (Nat.lt_succ_of_lt hal)⟩, fun b hb => ?_, q⟩
    have e' : b = s1.heap.objs.size + 1 ∨ b = s1.heap.objs.size := by simpa using hb
    have hle : s1.heap.objs.size ≤ b := by
      rcases e' with z | z
      · rw [z]; exact Nat.le_add_right _ _
      · rw [z]; exact Nat.le_refl _
    exact I1.fpOk hle (I1.hok.fresh hle)
/-- a for over enumerate(tuple), behind its argument -/
def FE (g : TG) (tb : TS) (D : Ends) (σ : L2.St) (vs : List V) (H1 : Hp) : Prop := ∃ a xs, vs = [.ref a] ∧ Tup H1 a xs ∧ ∃ W : Nat → Nat → L2.St → Hp → Prop, (∃ m, W 0 m σ H1) ∧ ∀ i m σ H, W i m σ H →
  ((Itn a xs).stop i H ∧ D.nx σ H) ∨ ((Itn a xs).go i H ∧ ∃ N : L2.St → Hp → Prop, (∀ σ' H', N σ' H' → ∃ m', m' < m ∧ W (i + 1) m' σ' H') ∧ ∀ x H', (Itn a xs).yld i H x H' → g x σ H' fun σ2 H2 => tb { D with nx := N, ct := N, bk := D.nx } σ2 H2)
theorem e_forE {K : PySem.W.Frag} {ta : TA} {g : TG} {tb : TS} {D : Ends} {σ : L2.St} {H : Hp} : tFor (iEnumU K ta) g tb D σ H ↔ ta σ H (FE g tb D σ) := Iff.rfl
theorem g_FE {g : TG} {tb : TS} {D : Ends} {σ : L2.St} {H1 : Hp} {a : Addr} {xs : List V} (Pv : Nat → L2.St → Hp → Prop) (h : Tup H1 a xs) (h0 : Pv 0 σ H1) (hl : ∀ i σ H, i ≤ xs.length → Pv i σ H → Tup H a xs)
    (hs : ∀ i x σ H T H', xs[i]? = some x → Pv i σ H → H T = none → Keep [] H H' → H' T = some (.tup [.int (i : Nat), x]) → g (.ref T) σ H' fun σ2 H2 => tb { D with nx := Pv (i + 1), ct := Pv (i + 1), bk := D.nx } σ2 H2) (hd : ∀ σ H, Pv xs.length σ H → D.nx σ H) : FE g tb D σ [.ref a] H1 := by
  refine ⟨a, xs, rfl, h, fun i m σ H => m = xs.length - i ∧ i ≤ xs.length ∧ Pv i σ H, ⟨xs.length, by simp, Nat.zero_le _, h0⟩, ?_⟩
  rintro i m σ H ⟨rfl, hi, p⟩
  have tu := hl i σ H hi p
  by_cases hlt : i < xs.length
  · refine .inr ⟨⟨hlt, tu⟩, Pv (i + 1), fun σ' H' p' => ⟨xs.length - (i + 1), by omega, rfl, hlt, p'⟩, fun x H' y => ?_⟩
    obtain ⟨T, u, rfl, nT, rfl, hu⟩ := y
    exact hs i u σ H T _ hu p nT (Keep.new nT) upd_same
  · have e : i = xs.length := by omega
    subst e
    exact .inl ⟨⟨rfl, tu⟩, hd σ H p⟩
theorem g_pair {K : PySem.W.Frag} {p : Addr} {xs : List V} {n : Nat} {t : TGs} {σ : L2.St} {H : Hp} {Q : L2.St → Hp → Prop} (h : H p = some (.tup xs)) (l : xs.length = n) (q : t xs σ H Q) : gTup K n t (.ref p) σ H Q := ⟨p, xs, rfl, .inl (.inl h), l, q⟩
/-- l[::-1] -/
theorem g_revl {K : PySem.W.Frag} {p : Addr} {ys : List V} {H : Hp} {Q : VK} (h : SqL K H p ys) (q : ∀ l H', H l = none → Keep [] H H' → H' l = some (.lst ys.reverse) → Q (.ref l) H') : ∃ a xs, V.ref p = .ref a ∧ SqL K H a xs ∧ ∀ l, H l = none → Q (.ref l) (upd H l (.lst xs.reverse)) :=
  ⟨p, ys, rfl, h, fun l n => q l _ n (Keep.new n) upd_same⟩
/-- min(list of numbers) -/
theorem g_min {K : PySem.W.Frag} {a : Addr} {ns : List Int} {H : Hp} {Q : VK} (h : H a = some (.lst (ns.map V.int))) (l : 0 < ns.length) (q : ∀ m, m ∈ ns → (∀ y, y ∈ ns → m ≤ y) → Q (.int m) H) : rMin K [.ref a] H Q := ⟨a, ns, rfl, lst_sq h, l, q⟩
end Wg

/-! Wagon, part 12: pop, reverse, extend, zip of two tuples in a comprehension. -/
namespace Wg
open PySem PySem.Spec PyProof.Rows L2 RZ
section
variable {X : Cx}
def uPopAt : V → List V → Hp → VK → Prop := fun x vs H Q => ∃ l xs i k y, x = .ref l ∧ vs = [.int i] ∧ H l = some (.lst xs) ∧ -(2 ^ 63) ≤ i ∧ i < 2 ^ 63 ∧ seqIndex? i xs.length = some k ∧ xs[k]? = some y ∧ Ch H l (.lst (xs.eraseIdx k)) (Q y)
theorem mt_uPopAt : MtM X "list.pop" uPopAt := by
  intro pins s σ H x vs v us Q I rx rv h
  obtain ⟨l, xs, i, k, y, e1, e2, e3, e4, e5, e6, e7, q⟩ := h
  exact mt_popAt pins s σ H x vs v us Q I rx rv ⟨l, xs, i, k, y, e1, e2, e3, e4, e5, e6, e7, q.at⟩
def uReverse : V → List V → Hp → VK → Prop := fun x vs H Q => ∃ l xs, x = .ref l ∧ vs = [] ∧ H l = some (.lst xs) ∧ Ch H l (.lst xs.reverse) (Q .non)
theorem mt_uReverse : MtM X "list.reverse" uReverse := by
  intro pins s σ H x vs v us Q I rx rv h
  obtain ⟨l, xs, e1, e2, e3, q⟩ := h
  exact mt_reverse pins s σ H x vs v us Q I rx rv ⟨l, xs, e1, e2, e3, q.at⟩
def uExtend : V → List V → Hp → VK → Prop := fun x vs H Q => ∃ l b xs zs, x = .ref l ∧ vs = [.ref b] ∧ H l = some (.lst xs) ∧ H b = some (.lst zs) ∧ xs.length + zs.length ≤ sizeLine ∧ Ch H l (.lst (xs ++ zs)) (Q .non)
theorem mt_uExtend : MtM X "list.extend" uExtend := by
  intro pins s σ H x vs v us Q I rx rv h
  obtain ⟨l, b, xs, zs, e1, e2, e3, e4, e5, q⟩ := h
  exact mt_extend pins s σ H x vs v us Q I rx rv ⟨l, b, xs, zs, e1, e2, e3, e4, e5, q.at⟩
end
theorem g_popAt {l : Addr} {xs : List V} {i : Int} {k : Nat} {y : V} {H : Hp} {Q : VK} (h : H l = some (.lst xs)) (e : i = (k : Int)) (hk : k < xs.length) (hb : xs.length ≤ 1000) (hy : xs[k]? = some y) (q : ∀ H', Keep [l] H H' → H' l = some (.lst (xs.eraseIdx k)) → Q y H') : uPopAt (.ref l) [.int i] H Q := by
  refine ⟨l, xs, i, k, y, rfl, rfl, h, by omega, by omega, ?_, hy, q⟩
  subst e
  unfold seqIndex?
  have h0 : ¬ ((k : Int) < 0) := by omega
  simp only [h0, if_false]
  rw [if_pos (by simp; omega), Int.toNat_natCast]
theorem g_reverse {l : Addr} {xs : List V} {H : Hp} {Q : VK} (h : H l = some (.lst xs)) (q : ∀ H', Keep [l] H H' → H' l = some (.lst xs.reverse) → Q .non H') : uReverse (.ref l) [] H Q := ⟨l, xs, rfl, rfl, h, q⟩
/-- a comprehension over zip of two tuples, behind its arguments -/
def CZ (K : PySem.W.Frag) (g : TG) (tt : TT) (te : TE) (vs : List Nat) (σ : L2.St) (Q : VK) (xs : List V) (H1 : Hp) : Prop := ∃ a b us ws, xs = [.ref a, .ref b] ∧ ((SqL K H1 a us ∧ SqL K H1 b ws ∧ CB (Itz K a b) g tt te vs σ Q H1) ∨ (SqT K H1 a us ∧ SqT K H1 b ws ∧ CB (ItzT K a b) g tt te vs σ Q H1))
theorem e_lcZ {K : PySem.W.Frag} {ta : TA} {g : TG} {tt : TT} {te : TE} {vs : List Nat} {σ : L2.St} {H : Hp} {Q : VK} : tLc (iZipA K ta) g tt te vs σ H Q ↔ ta σ H (CZ K g tt te vs σ Q) := Iff.rfl
theorem g_CZ {K : PySem.W.Frag} {g : TG} {tt : TT} {te : TE} {vs : List Nat} {σ : L2.St} {Q : VK} {H1 : Hp} {a b : Addr} {us ws : List V} (ha : Tup H1 a us) (hb : Tup H1 b ws) (hl : us.length = ws.length) (P : Nat → Hp → List V → Prop)
    (p0 : ∀ D H2, H1 D = none → Keep [] H1 H2 → P 0 H2 [])
    (ps : ∀ D i x y H acc (R : VK) (R0 : Hp → Prop) T H', H1 D = none → us[i]? = some x → ws[i]? = some y → Keep [] H1 H' → H' D = some (.lst acc) → Keep [] H H' → P i H acc → H' T = some (.tup [x, y]) →
      (∀ z H4, Keep [] H' H4 → acc.length < sizeLine → (∀ H5, Keep [D] H4 H5 → P (i + 1) H5 (acc ++ [z])) → R z H4) → (∀ H3, Keep [] H' H3 → P (i + 1) H3 acc → R0 H3) →
      g (.ref T) (wipe σ vs) H' fun σ2 H2 => wipe σ2 vs = wipe σ vs ∧ tt σ2 H2 fun bb H3 => if bb = true then te σ2 H3 R else R0 H3)
    (pd : ∀ D H acc, H1 D = none → Keep [] H1 H → H D = some (.lst acc) → P us.length H acc → Q (.ref D) H) : CZ K g tt te vs σ Q [.ref a, .ref b] H1 := by
  refine ⟨a, b, us, ws, rfl, .inr ⟨ha.sq, hb.sq, fun D hD => ?_⟩⟩
  refine ⟨fun i m H => m = us.length - i ∧ i ≤ us.length ∧ Keep [] H1 H ∧ ∃ acc, H D = some (.lst acc) ∧ P i H acc, ⟨us.length, by omega, by omega, Keep.new hD, [], upd_same, p0 D _ hD (Keep.new hD)⟩, ?_⟩
  rintro i m H ⟨rfl, hi, k, acc, eD, p⟩
  have ta := (ha.keep k nin0).sq (K := K)
  have tb := (hb.keep k nin0).sq (K := K)
  by_cases hlt : i < us.length
  · have hx := List.getElem?_eq_getElem hlt
    have hy := List.getElem?_eq_getElem (show i < ws.length by omega)
    refine .inr ⟨⟨us, ws, _, _, ta, tb, hx, hy⟩, fun H' => i + 1 ≤ us.length ∧ Keep [] H1 H' ∧ ∃ acc, H' D = some (.lst acc) ∧ P (i + 1) H' acc, fun H' q => ⟨us.length - (i + 1), by omega, rfl, q⟩, fun v H' y => ?_⟩
    obtain ⟨T, x', y', rfl, hT, rfl, f1, f2⟩ := y
    have kn : Keep [] H (upd H T (.tup [x', y'])) := Keep.new hT
    refine ps D i x' y' H acc _ _ T _ hD (f1 us ta) (f2 ws tb) (k.trans kn) (kn _ _ nin0 eD) kn p upd_same (fun z H4 k4 hz q => ⟨acc, k4 _ _ nin0 (kn _ _ nin0 eD), hz, hlt, (k.trans (kn.trans k4)).past Keep.set hD, _, upd_same, q _ Keep.set⟩) fun H3 k3 q => ⟨hlt, k.trans (kn.trans k3), acc, k3 _ _ nin0 (kn _ _ nin0 eD), q⟩
  · have e : i = us.length := by omega
    subst e
    exact .inl ⟨⟨us, ws, ta, tb, .inl (Nat.le_refl _)⟩, pd D H acc hD k eD p⟩
/-! d[k], d[k] = v by values -/
def uDG (x y : V) (H : Hp) (Q : VK) : Prop := ∃ a v, x = .ref a ∧ DGet H a y (some v) ∧ Q v H
theorem e_dget {td ty : TE} {σ : L2.St} {H : Hp} {Q : VK} : tDGet td ty σ H Q ↔ td σ H fun x H1 => ty σ H1 fun y H2 => uDG x y H2 Q := Iff.rfl
def uDP (x y v : V) (H : Hp) (R : Hp → Prop) : Prop := ∃ a H4, x = .ref a ∧ DPut H a y v H4 ∧ R H4
theorem e_dput {td ty tv : TE} {D : Ends} {σ : L2.St} {H : Hp} : sDPut td ty tv D σ H ↔ tv σ H fun v H1 => td σ H1 fun x H2 => ty σ H2 fun y H3 => uDP x y v H3 (D.nx σ) := Iff.rfl
end Wg

/-! Wagon, part 13: sorted of alike data. -/
namespace Wg
open PySem PySem.Spec PyProof.Rows L2
theorem each_vals {α : Type} {RR : V → α → Prop} : ∀ {xs : List V} {us : List Value} {rs : List α}, Vals xs us → PySem.W.EachIs RR xs rs → PySem.W.EachIs (fun u r => ∃ x, RelV x u ∧ RR x r) us rs
  | _, _, _, .nil, .nil => .nil
  | _, _, _, .cons r q, .cons h t => .cons ⟨_, r, h⟩ (each_vals q t)
theorem vals_each {α : Type} {RR : V → α → Prop} : ∀ {us : List Value} {rs : List α}, PySem.W.EachIs (fun u r => ∃ x, RelV x u ∧ RR x r) us rs → ∃ xs, Vals xs us ∧ PySem.W.EachIs RR xs rs
  | _, _, .nil => ⟨[], .nil, .nil⟩
  | _, _, .cons ⟨x, h1, h2⟩ t => let ⟨xs, a, b⟩ := vals_each t; ⟨x :: xs, .cons h1 a, .cons h2 b⟩
/-- sorted(list of alike data): RR tells what the items are -/
def uSorted (K : PySem.W.Frag) : List V → Hp → VK → Prop := fun vs H Q => ∃ (α : Type) (RR : V → α → Prop) (enc : α → PyData) (a : Addr) (xs : List V) (rs : List α), vs = [.ref a] ∧ SqL K H a xs ∧ PySem.W.EachIs RR xs rs ∧
  (∀ x r, RR x r → Dp K H x (enc r)) ∧ PySem.W.AllAlike (rs.map enc) ∧ PySem.W.Sortable (rs.map enc) ∧ (∀ r ∈ rs, (enc r).depth ≤ 50) ∧
  ∀ ys, ys.length = xs.length → PySem.W.EachIs RR ys (rs.mergeSort (PySem.W.dataLe false enc)) → Mk H (.lst ys) Q
theorem call_uSorted {X : Cx} (hu : X.A.units + 64 < cLine) : CallR X (.builtin "sorted") (uSorted X.K) := by
  intro pins s σ H vs us Q I r h
  obtain ⟨α, RR, enc, a, xs, rs, rfl, hs, he, hd, ha, hk, hdp, q⟩ := h
  obtain ⟨its, rv, hl, hz⟩ := I.list hs
  obtain ⟨u, rfl, ru⟩ := vals1 r
  obtain rfl : u = Value.ref a := ru
  have er := each_vals rv he
  refine PySem.W.sorted_data (R := fun u r => ∃ x, RelV x u ∧ RR x r) hl.isList er (er.mono fun u r ⟨x, h1, h2⟩ => Dp.reads I _ _ _ (hd x r h2) h1) ha hk (by rw [← he.length]; exact hz) (fun b hb => by have := hdp b hb; omega) fun out ho eo => ?_
  obtain ⟨ys, v1, e1⟩ := vals_each eo
  obtain ⟨n, hn⟩ := sortedAll_at s.heap its (List.toArray out)
  have hly : ys.length = xs.length := by rw [v1.length, ho, he.length]
  refine ⟨.ref (s.heap.objs.size + 1), upd H (s.heap.objs.size + 1) (.lst ys), I.laid (t' := s.toks) (fun b o e => sortedAll_old e) (Nat.le_succ _) ⟨by rw [hly]; exact hz, out, n, v1, hn⟩, rfl, ?_⟩
  have nf := I.hok.fresh (Nat.le_succ s.heap.objs.size)
  exact q ys hly e1 _ _ nf (Keep.new nf) upd_same
end Wg

/-! Wagon, part 14: dict(pairs), list.clear. -/
namespace Wg
open PySem PySem.Spec PyProof.Rows L2
def uDictP (K : PySem.W.Frag) : List V → Hp → VK → Prop := fun xs H Q => ∃ (a : Addr) (ps : List Addr) (kvs : List (Key × V)), xs = [.ref a] ∧ SqL K H a (ps.map V.ref) ∧ Paired (fun p kv => SqT K H p [kV kv.1, kv.2]) ps kvs ∧ Mk H (.dK (mergeK [] kvs)) Q
theorem call_uDictP {X : Cx} (hc : X.calm = true) : CallR X (.type "dict") (uDictP X.K) := by
  intro pins s σ H xs us Q I r h
  obtain ⟨a, ps, kvs, e1, e2, e3, q⟩ := h
  exact call_dictP hc pins s σ H xs us Q I r ⟨a, ps, kvs, e1, e2, e3, fun p n => q.at p n⟩
def uClear : V → List V → Hp → VK → Prop := fun x vs H Q => ∃ l xs, x = .ref l ∧ vs = [] ∧ H l = some (.lst xs) ∧ Ch H l (.lst []) (Q .non)
theorem mt_uClear {X : Cx} : MtM X "list.clear" uClear := by
  intro pins s σ H x vs v us Q I rx rv h
  obtain ⟨l, xs, e1, e2, e3, q⟩ := h
  exact mt_clear pins s σ H x vs v us Q I rx rv ⟨l, xs, e1, e2, e3, q.at⟩
theorem g_clear {l : Addr} {xs : List V} {H : Hp} {Q : VK} (h : H l = some (.lst xs)) (q : ∀ H', Keep [l] H H' → H' l = some (.lst []) → Q .non H') : uClear (.ref l) [] H Q := ⟨l, xs, rfl, rfl, h, q⟩
theorem merge_nodup : ∀ (more acc : List (Key × V)), ((acc ++ more).map (·.1)).Nodup → mergeK acc more = acc ++ more
  | [], acc, _ => (List.append_nil acc).symm
  | (k, v) :: more, acc, h => by
    have e : acc ++ (k, v) :: more = (acc ++ [(k, v)]) ++ more := by simp
    have hk : (acc.any fun kv => decide (kv.1 = k)) = false := by
      rw [List.any_eq_false]
      intro x hx hq
      rw [List.map_append, List.nodup_append] at h
      exact h.2.2 x.1 (List.mem_map.mpr ⟨x, hx, rfl⟩) k (by simp) (of_decide_eq_true hq)
    have hp : putK acc k v = acc ++ [(k, v)] := by
      unfold putK
      rw [hk]
      rfl
    show mergeK (putK acc k v) more = _
    rw [hp, e]
    exact merge_nodup more _ (by rw [← e]; exact h)
end Wg
namespace Wg
open PySem PySem.Spec PyProof.Rows L2
def tTupRgM (te : L2.St → Hp → (Int → Int → Hp → Prop) → Prop) : TE := fun σ H Q => te σ H fun a b H1 => RgOk a b ∧ Mt H1 (rgV a b) Q
theorem pe_tupRgM {X : Cx} {e : Expr} {te : L2.St → Hp → (Int → Int → Hp → Prop) → Prop} {p pos : Pos} (hc : X.calm = true) (hg : Gl X "tuple") (hm : X.mg "tuple" = none) (he : PRg X e te) (na : starEach [e] X.env = (false, eval e X.env) :: starEach [] X.env := by rfl) : PE X (.Call (.Name "tuple" p) [e] [] pos) (tTupRgM te) := by
  refine ⟨fun pins s σ H Q I h => ?_⟩
  refine Call_ (ld_blt I hg hm boot_tuple (PyProof.Rows.callWith_type1 (args_cons (thn (he pins s σ H _ I h) fun x s1 ⟨r, a, b, t, u, v, H1, ex, hr, I1, ok, q⟩ => args_nil ?_) na) na))
  subst ex
  obtain ⟨b1, b2, b3, b4, b5⟩ := ok
  refine call_tuple_range (n := (b - a).toNat) (I1.ok.hd hc) hr (small_one b1 b2 b3 b4) (rangeSize_nat a b) b5 fun h' tk acc hk hi => ?_
  have I2 : Inv X pins σ H1 { s1 with heap := h', toks := tk } := I1.kept hk
  have := mt_end (t' := tk) I2 (vals_rg hi) (by rw [rgV_length, sizeLine_eq]; omega) q
  simpa using this
theorem rgV_ints (n : Nat) : rgV 0 (n : Int) = ((List.range n).map fun i => ((i : Nat) : Int)).map V.int := by
  unfold rgV
  rw [List.map_map]
  simp [Function.comp_def]
end Wg

/-! Wagon, part 15: < and min of alike data. -/
namespace Wg
open PySem PySem.Spec PyProof.Rows L2
def uLtD (K : PySem.W.Frag) : R2 := fun x y H Q => ∃ d e, Dp K H x d ∧ Dp K H y e ∧ PySem.W.alike d e = true ∧ d ≠ .none ∧ d.depth ≤ 50 ∧ Q (.bl (PySem.W.dataLt d e)) H
theorem op_uLtD {X : Cx} (hu : X.A.units + 64 < cLine) : OpR X (compareOp .Lt) (uLtD X.K) := by
  intro pins s σ H x y v u Q I rx ry h
  obtain ⟨d, e, h1, h2, h3, h4, h5, q⟩ := h
  obtain ⟨as, r1⟩ := Dp.reads I _ _ _ h1 rx
  obtain ⟨bs, r2⟩ := Dp.reads I _ _ _ h2 ry
  have := Nat.min_le_left d.depth e.depth
  exact PySem.W.lt_data r1 r2 h3 h4 (by omega) ⟨.bl _, H, I, rfl, q⟩
def uMinD (K : PySem.W.Frag) : List V → Hp → VK → Prop := fun vs H Q => ∃ (α : Type) (RR : V → α → Prop) (enc : α → PyData) (a : Addr) (xs : List V) (r : α) (rs : List α), vs = [.ref a] ∧ SqL K H a xs ∧ PySem.W.EachIs RR xs (r :: rs) ∧
  (∀ x r, RR x r → Dp K H x (enc r)) ∧ PySem.W.AlikeAll ((r :: rs).map enc) ∧ PyData.depthAll ((r :: rs).map enc) ≤ 50 ∧ ∀ x m, RR x m → enc m = PySem.W.minD (enc r) (rs.map enc) → Q x H
theorem each_reads {X : Cx} {pins : List (Addr × Obj)} {σ : L2.St} {H : Hp} {s : Shared} (I : Inv X pins σ H s) {α : Type} {RR : V → α → Prop} {enc : α → PyData} (hd : ∀ x r, RR x r → Dp X.K H x (enc r)) : ∀ {xs : List V} {us : List Value} {rs : List α}, Vals xs us → PySem.W.EachIs RR xs rs → ∃ as, ReadsAll s.heap us (rs.map enc) as
  | _, _, _, .nil, .nil => ⟨[], .nil⟩
  | _, _, _, .cons r q, .cons h t => by
    obtain ⟨as, h1⟩ := Dp.reads I _ _ _ (hd _ _ h) r
    obtain ⟨bs, h2⟩ := each_reads I hd q t
    exact ⟨as ++ bs, .cons h1 h2⟩
theorem call_uMinD {X : Cx} (hc : X.calm = true) (hu : X.A.units + 64 < cLine) : CallR X (.builtin "min") (uMinD X.K) := by
  intro pins s σ H vs us Q I r h
  obtain ⟨α, RR, enc, a, xs, r0, rs, rfl, hs, he, hd, ha, hdp, q⟩ := h
  obtain ⟨its, rv, hl, hz⟩ := I.list hs
  obtain ⟨u, rfl, ru⟩ := vals1 r
  obtain rfl : u = Value.ref a := ru
  obtain ⟨as, hr⟩ := each_reads I hd rv he
  refine PySem.W.min_list_data (I.ok.hd hc) hl.isList (x := enc r0) (xs := rs.map enc) (as := as) hr ha (by have e : PyData.depthAll (enc r0 :: rs.map enc) = PyData.depthAll ((r0 :: rs).map enc) := rfl; omega) fun i v h' tk bs hv rd hk => ?_
  have hv' : its[i]? = some v := by simpa using hv
  obtain ⟨b, hb, x, hx, hR⟩ := (each_vals rv he).left v (List.mem_of_getElem? hv')
  refine ⟨x, H, I.kept hk, hx, q x b hR ?_⟩
  obtain ⟨cs, r2⟩ := Dp.reads I _ _ _ (hd _ _ hR) hx
  exact (reads_det (fun b o e _ => hk b o e) r2 rd).1.symm
theorem minD_map {α : Type} (enc : α → PyData) (r : α) (rs : List α) : PySem.W.minD (enc r) (rs.map enc) = enc (rs.foldl (fun a y => if PySem.W.dataLt (enc y) (enc a) then y else a) r) := by
  unfold PySem.W.minD
  induction rs generalizing r with
  | nil => rfl
  | cons b rs ih =>
    rw [List.map_cons, List.foldl_cons, List.foldl_cons, ← ih]
    congr 1
    split <;> rfl
end Wg
namespace Wg
open PySem PySem.Spec PyProof.Rows L2
/-- a for over enumerate(list), behind its argument -/
def FEl (K : PySem.W.Frag) (g : TG) (tb : TS) (D : Ends) (σ : L2.St) (vs : List V) (H1 : Hp) : Prop := ∃ a xs, vs = [.ref a] ∧ SqL K H1 a xs ∧ ∃ W : Nat → Nat → L2.St → Hp → Prop, (∃ m, W 0 m σ H1) ∧ ∀ i m σ H, W i m σ H →
  ((Ite K a).stop i H ∧ D.nx σ H) ∨ ((Ite K a).go i H ∧ ∃ N : L2.St → Hp → Prop, (∀ σ' H', N σ' H' → ∃ m', m' < m ∧ W (i + 1) m' σ' H') ∧ ∀ x H', (Ite K a).yld i H x H' → g x σ H' fun σ2 H2 => tb { D with nx := N, ct := N, bk := D.nx } σ2 H2)
theorem e_forEl {K : PySem.W.Frag} {ta : TA} {g : TG} {tb : TS} {D : Ends} {σ : L2.St} {H : Hp} : tFor (iEnum K ta) g tb D σ H ↔ ta σ H (FEl K g tb D σ) := Iff.rfl
theorem g_FEl {K : PySem.W.Frag} {g : TG} {tb : TS} {D : Ends} {σ : L2.St} {H1 : Hp} {a : Addr} {xs : List V} (Pv : Nat → L2.St → Hp → Prop) (h : H1 a = some (.lst xs)) (h0 : Pv 0 σ H1) (hl : ∀ i σ H, i ≤ xs.length → Pv i σ H → H a = some (.lst xs))
    (hs : ∀ i x σ H T H', xs[i]? = some x → Pv i σ H → H T = none → Keep [] H H' → H' T = some (.tup [.int (i : Nat), x]) → g (.ref T) σ H' fun σ2 H2 => tb { D with nx := Pv (i + 1), ct := Pv (i + 1), bk := D.nx } σ2 H2) (hd : ∀ σ H, Pv xs.length σ H → D.nx σ H) : FEl K g tb D σ [.ref a] H1 := by
  refine ⟨a, xs, rfl, lst_sq h, fun i m σ H => m = xs.length - i ∧ i ≤ xs.length ∧ Pv i σ H, ⟨xs.length, by simp, Nat.zero_le _, h0⟩, ?_⟩
  rintro i m σ H ⟨rfl, hi, p⟩
  have tu := lst_sq (K := K) (hl i σ H hi p)
  by_cases hlt : i < xs.length
  · refine .inr ⟨⟨xs, _, tu, List.getElem?_eq_getElem hlt⟩, Pv (i + 1), fun σ' H' p' => ⟨xs.length - (i + 1), by omega, rfl, hlt, p'⟩, fun x H' y => ?_⟩
    obtain ⟨T, u, rfl, nT, rfl, hu⟩ := y
    exact hs i u σ H T _ (hu xs tu) p nT (Keep.new nT) upd_same
  · have e : i = xs.length := by omega
    subst e
    exact .inl ⟨⟨xs, tu, Nat.le_refl _⟩, hd σ H p⟩
theorem g_truL {K : PySem.W.Frag} {p : Addr} {xs : List V} {H : Hp} {k : Bool} (h : H p = some (.lst xs)) (e : k = !xs.isEmpty) : TruV K (.ref p) H k := .inl ⟨xs, lst_sq h, e⟩
end Wg

/-! Wagon, part 16: list.remove of data; whiles. -/
namespace Wg
open PySem PySem.Spec PyProof.Rows L2
def uRemD (K : PySem.W.Frag) : V → List V → Hp → VK → Prop := fun x vs H Q => ∃ (l : Addr) (xs : List V) (y : V) (d : PyData) (ds : List PyData) (j : Nat), x = .ref l ∧ vs = [y] ∧ H l = some (.lst xs) ∧ DpAll K H xs ds ∧ Dp K H y d ∧
  PyData.plainAll ds = true ∧ d.plain = true ∧ d.depth ≤ 50 ∧ PySem.SeqAt.dataPlace ds d = some j ∧ Ch H l (.lst (xs.eraseIdx j)) (Q .non)
theorem mt_uRemD {X : Cx} (hu : X.A.units + 64 < cLine) : MtM X "list.remove" (uRemD X.K) := by
  intro pins s σ H x vs v us Q I rx rv h
  obtain ⟨l, xs, y, d, ds, j, rfl, rfl, hH, hds, hd, p1, p2, hdp, hj, q⟩ := h
  cases rx
  obtain ⟨u, rfl, ru⟩ := rv.one
  obtain ⟨z, its, n, r, hl, e⟩ := I.lstM hH
  obtain ⟨as, rs⟩ := Dp.readsAll I _ _ _ hds r
  obtain ⟨bs, rd⟩ := Dp.reads I _ _ _ hd ru
  have := Nat.min_le_right (PyData.depthAll ds) d.depth
  refine PySem.SeqAt.remove_list_data (j := j) ⟨_, e, rfl, n, rfl⟩ (by simpa using rs) rd p1 p2 (by omega) hj (by rw [List.size_toArray]; omega) ?_
  refine ⟨.non, _, I.lset (its' := its.eraseIdx j) (ys := xs.eraseIdx j) (t' := s.toks) hH e ?_ (r.eraseIdx j) ?_, rfl, q.at⟩
  · show its.toArray.eraseIdxIfInBounds j = (its.eraseIdx j).toArray
    rw [List.eraseIdxIfInBounds_toArray]
  · have := List.length_eraseIdx_le xs j
    omega
end Wg

/-! Wagon, part 17: tuple + tuple wherever they stand. -/
namespace Wg
open PySem PySem.Spec PyProof.Rows L2
def uAddQ (K : PySem.W.Frag) : R2 := fun x y H Q => ∃ a b xs ys, x = .ref a ∧ y = .ref b ∧ SqT K H a xs ∧ SqT K H b ys ∧ xs ≠ [] ∧ ys ≠ [] ∧ xs.length + ys.length ≤ sizeLine ∧ Mt H (xs ++ ys) Q
theorem op_uAddQ {X : Cx} : OpR X (binaryOp .Add) (uAddQ X.K) := by
  intro pins s σ H x y v u Q I rx ry h
  obtain ⟨a, b, xs, ys, rfl, rfl, ha, hb, e1, e2, z, q⟩ := h
  cases rx
  cases ry
  obtain ⟨its, r1, p1, _⟩ := I.tuple ha
  obtain ⟨its2, r2, p2, _⟩ := I.tuple hb
  refine HT.cat_tup p1 p2 (fun c => e1 (r1.nil_iff.mp c)) (fun c => absurd (r2.nil_iff.mp c) e2) (fun c => ?_) (by rw [← r1.length, ← r2.length]; exact z)
  exact mt_end (t' := s.toks) I (r1.append r2) (by rw [List.length_append]; exact z) q
end Wg

/-! Wagon, part 18: a comprehension of two fors; list.extend by a list or tuple. -/
namespace Wg
open PySem PySem.Spec PyProof.Rows L2

def CU2 (K : PySem.W.Frag) (g : TG) (tt : TT) (wi1 : TI) (g1 : TG) (tt1 : TT) (te : TE) (vs vs1 : List Nat) (σ : L2.St) (Q : VK) (x : V) (H1 : Hp) : Prop := tLc2 (iU K (tC x)) g tt wi1 g1 tt1 te vs vs1 σ H1 Q
theorem e_lc2U {K : PySem.W.Frag} {tl : TE} {g : TG} {tt : TT} {wi1 : TI} {g1 : TG} {tt1 : TT} {te : TE} {vs vs1 : List Nat} {σ : L2.St} {H : Hp} {Q : VK} : tLc2 (iU K tl) g tt wi1 g1 tt1 te vs vs1 σ H Q ↔ tl σ H (CU2 K g tt wi1 g1 tt1 te vs vs1 σ Q) := Iff.rfl
/-- [y for z in zs for y in f(z)], of texts; f(z) a fresh list -/
theorem g_C2 {K : PySem.W.Frag} {tl1 : TE} {σ : L2.St} {H1 : Hp} {Q : VK} {a : Addr} {i j : Nat} {vs vs1 : List Nat} (zs : List Str) (f : Str → List Str) (hx : H1 a = some (.lst (zs.map V.str)) ∨ Tup H1 a (zs.map V.str))
    (hw : ∀ v, wipe ((wipe σ vs).set i v) vs = wipe σ vs) (hw1 : ∀ v u, wipe ((wipe ((wipe σ vs).set i v) vs1).set j u) vs1 = wipe ((wipe σ vs).set i v) vs1) (hw2 : ∀ v, wipe ((wipe σ vs).set i v) vs1 = (wipe σ vs).set i v)
    (hj : ∀ v u, ((wipe ((wipe σ vs).set i v) vs1).set j (some u))[j]? = some (some u))
    (hl : ∀ ws : List Str, (∀ z ∈ ws, z ∈ zs) → ws.length ≤ zs.length → (ws.flatMap f).length < 1000) (hl1 : ∀ z ∈ zs, (f z).length < 1000)
    (hc : ∀ z ∈ zs, ∀ H3 (Q1 : VK), Keep [] H1 H3 → (∀ l H4, H3 l = none → Keep [] H3 H4 → H4 l = some (.lst ((f z).map V.str)) → Q1 (.ref l) H4) → tl1 ((wipe σ vs).set i (some (.str z))) H3 Q1)
    (hd : ∀ D H, H1 D = none → Keep [] H1 H → H D = some (.lst ((zs.flatMap f).map V.str)) → Q (.ref D) H) : CU2 K (gName i) tYes (iU K tl1) (gName j) tYes (tVar j) vs vs1 σ Q (.ref a) H1 := by
  have core : ∀ J : It, (∀ n H, n < zs.length → Keep [] H1 H → J.go n H) → (∀ n H x H', n < zs.length → Keep [] H1 H → J.yld n H x H' → x = .str (zs.getD n "") ∧ H' = H) → (∀ H, Keep [] H1 H → J.stop zs.length H) →
      ∀ D, H1 D = none → ∃ W : Nat → Nat → Hp → Prop, (∃ m, W 0 m (upd H1 D (.lst []))) ∧ ∀ n m H, W n m H →
  (J.stop n H ∧ Q (.ref D) H) ∨ (J.go n H ∧ ∃ Nx : Hp → Prop, (∀ H', Nx H' → ∃ m', m' < m ∧ W (n + 1) m' H') ∧ ∀ x H', J.yld n H x H' → gName i x (wipe σ vs) H' fun σ2 H2 => wipe σ2 vs = wipe σ vs ∧ tYes σ2 H2 fun b H3 =>
    if b = true then iU K tl1 σ2 H3 fun J1 H4 => ∃ W1 : Nat → Nat → Hp → Prop, (∃ m, W1 0 m H4) ∧ ∀ jj k H, W1 jj k H →
      (J1.stop jj H ∧ Nx H) ∨ (J1.go jj H ∧ ∃ Nx1 : Hp → Prop, (∀ H', Nx1 H' → ∃ k', k' < k ∧ W1 (jj + 1) k' H') ∧ ∀ x H', J1.yld jj H x H' → gName j x (wipe σ2 vs1) H' fun σ3 H5 => wipe σ3 vs1 = wipe σ2 vs1 ∧ tYes σ3 H5 fun b H6 =>
        if b = true then tVar j σ3 H6 fun y H7 => ∃ acc, H7 D = some (.lst acc) ∧ acc.length < sizeLine ∧ Nx1 (upd H7 D (.lst (acc ++ [y]))) else Nx1 H6)
    else Nx H3) := by
    intro J hgo hy hst D hD
    refine ⟨fun n m H => m = zs.length - n ∧ n ≤ zs.length ∧ Keep [] H1 H ∧ H D = some (.lst (((zs.take n).flatMap f).map V.str)), ⟨zs.length, by omega, by omega, Keep.new hD, upd_same⟩, ?_⟩
    rintro n m H ⟨rfl, hn, k, eD⟩
    by_cases hlt : n < zs.length
    · refine .inr ⟨hgo n H hlt k, fun H' => Keep [] H1 H' ∧ H' D = some (.lst (((zs.take (n + 1)).flatMap f).map V.str)), fun H' q => ⟨zs.length - (n + 1), by omega, rfl, hlt, q⟩, fun x H' y => ?_⟩
      obtain ⟨ex, eh⟩ := hy n H x H' hlt k y
      have hz : zs[n]? = some (zs.getD n "") := by rw [List.getD_eq_getElem?_getD, List.getElem?_eq_getElem hlt]; rfl
      rw [ex, eh]
      generalize zs.getD n "" = z at hz
      have hzm := List.mem_of_getElem? hz
      have htk : (zs.take (n + 1)).flatMap f = (zs.take n).flatMap f ++ f z := by rw [List.take_succ, hz, List.flatMap_append]; simp
      refine ⟨hw _, ?_⟩
      unfold tYes
      show (if true = true then _ else _)
      rw [if_pos rfl]
      refine hc z hzm H _ k fun l H4 nl k4 e4 => .inl ⟨l, _, rfl, lst_sq e4, ?_⟩
      have nDl : D ≠ l := ne_of_none eD nl
      refine ⟨fun jj kk H' => kk = (f z).length - jj ∧ jj ≤ (f z).length ∧ Keep [D] H4 H' ∧ H' D = some (.lst (((zs.take n).flatMap f ++ (f z).take jj).map V.str)), ⟨(f z).length, by omega, by omega, Keep.refl _ _, by rw [List.take_zero, List.append_nil]; exact k4 _ _ nin0 eD⟩, ?_⟩
      rintro jj kk H5 ⟨rfl, hjj, k5, e5⟩
      have el5 := k5 _ _ (nin1 nDl.symm) e4
      by_cases hlt2 : jj < (f z).length
      · have hy2 : (f z)[jj]? = some (f z)[jj] := List.getElem?_eq_getElem hlt2
        have hym : ((f z).map V.str)[jj]? = some (.str (f z)[jj]) := by rw [List.getElem?_map, hy2]; rfl
        refine .inr ⟨⟨_, _, lst_sq el5, hym⟩, fun H' => Keep [D] H4 H' ∧ H' D = some (.lst (((zs.take n).flatMap f ++ (f z).take (jj + 1)).map V.str)), fun H' q => ⟨(f z).length - (jj + 1), by omega, rfl, hlt2, q⟩, fun x H' y => ?_⟩
        obtain ⟨e1, e2⟩ := y
        have e3 := e2 _ (lst_sq el5)
        rw [hym] at e3
        cases e3
        rw [e1]
        refine ⟨hw1 _ _, ?_⟩
        show (if true = true then _ else _)
        rw [if_pos rfl]
        refine ⟨_, hj _ _, _, e5, ?_, k5.trans Keep.set, ?_⟩
        · have h1 := hl (zs.take n) (fun w hw => List.mem_of_mem_take hw) (by rw [List.length_take]; omega)
          have h2 := hl1 z hzm
          rw [List.length_map, List.length_append, List.length_take]
          exact len_lt (by omega)
        · rw [upd_same, List.take_succ, hy2]
          simp only [List.map_append, Option.toList, List.map_cons, List.map_nil, List.append_assoc]
      · have e : jj = (f z).length := by omega
        subst e
        refine .inl ⟨⟨_, lst_sq el5, by rw [List.length_map]; exact Nat.le_refl _⟩, (k.trans k4).past k5 hD, ?_⟩
        rw [htk, e5, List.take_length]
    · have e : n = zs.length := by omega
      subst e
      rw [List.take_length] at eD
      exact .inl ⟨hst H k, hd D H hD k eD⟩
  have gt : ∀ {n : Nat}, n < zs.length → (zs.map V.str)[n]? = some (.str (zs.getD n "")) := fun h => by
    rw [List.getElem?_map, List.getD_eq_getElem?_getD, List.getElem?_eq_getElem h]; rfl
  rcases hx with hx | hx
  · refine .inl ⟨a, _, rfl, lst_sq hx, core (Itl K a) (fun n H h k => ⟨_, _, lst_sq (k _ _ nin0 hx), gt h⟩) (fun n H x H' h k y => ?_) fun H k => ⟨_, lst_sq (k _ _ nin0 hx), by rw [List.length_map]; exact Nat.le_refl _⟩⟩
    obtain ⟨e1, e2⟩ := y
    have := e2 _ (lst_sq (k _ _ nin0 hx))
    rw [gt h] at this
    cases this
    exact ⟨rfl, e1⟩
  · refine .inr (.inl ⟨a, _, rfl, hx.sq, core (Itt K a) (fun n H h k => ⟨_, _, (hx.keep k nin0).sq, gt h⟩) (fun n H x H' h k y => ?_) fun H k => ⟨_, (hx.keep k nin0).sq, by rw [List.length_map]; exact Nat.le_refl _⟩⟩)
    obtain ⟨e1, e2⟩ := y
    have := e2 _ (hx.keep k nin0).sq
    rw [gt h] at this
    cases this
    exact ⟨rfl, e1⟩
/-- a comprehension within a comprehension, that reads no name of what is around it but by cells that are there -/
theorem blkOk_any {N : List Str} {sc scope : Scope} {own : List (Str × Nat)} (h : blkC N { kind := .function, names := [], isGenerator := false, isCoroutine := false } scope own = true) : BlkOk N sc scope own := by
  have b := blkOk_by h
  exact ⟨b.kind, b.uniq, b.ix, fun y hy e => by rcases b.free y hy e with z | z <;> simp at z, b.own⟩
section
variable {X : Cx}
/-- a proper slice of a tuple wherever it stands -/
def uSlQ (K : PySem.W.Frag) : V → Option Int → Option Int → Hp → VK → Prop := fun x lo hi H Q => ∃ a xs, x = .ref a ∧ SqT K H a xs ∧ ¬ (HT.sIx xs.length 0 lo = 0 ∧ HT.sIx xs.length xs.length hi = xs.length) ∧ Mt H (cutV xs lo hi) Q
theorem sl_uQ : SlR X (uSlQ X.K) := by
  intro pins s σ H x v vl vu lo hi sl Q I rx hs pl pu h
  obtain ⟨a, xs, rfl, hx, c, q2⟩ := h
  cases rx
  obtain ⟨its, r, ht, hz⟩ := I.tuple hx
  have hlen : its.toArray.size = xs.length := by
    rw [List.size_toArray]
    exact r.length.symm
  refine ⟨"tuple", _, PyProof.Rows.slot_tuple_getitem.lookup, ht.typeIs, ?_⟩
  refine HT.getItem_tuple_cut ht hs pl pu (by rw [hlen]; exact c) ?_ (by rw [hlen]; exact hz)
  rw [hlen]
  exact mt_end (t' := s.toks) I ((r.drop (HT.sIx xs.length 0 lo)).take (HT.sIx xs.length xs.length hi - HT.sIx xs.length 0 lo)) (Nat.le_trans (cutV_length xs lo hi) hz) q2
def uExtT : V → List V → Hp → VK → Prop := fun x vs H Q => ∃ l b xs zs, x = .ref l ∧ vs = [.ref b] ∧ H l = some (.lst xs) ∧ (H b = some (.lst zs) ∨ Tup H b zs) ∧ xs.length + zs.length ≤ sizeLine ∧ Ch H l (.lst (xs ++ zs)) (Q .non)
theorem mt_uExtT : MtM X "list.extend" uExtT := by
  intro pins s σ H x vs v us Q I rx rv h
  obtain ⟨l, b, xs, zs, e1, e2, e3, e4, e5, q⟩ := h
  rcases e4 with e4 | e4
  · exact mt_extend pins s σ H x vs v us Q I rx rv ⟨l, b, xs, zs, e1, e2, e3, e4, e5, q.at⟩
  · subst e1 e2
    cases rx
    obtain ⟨u, rfl, ru⟩ := rv.one
    cases ru
    obtain ⟨z, its, n, r, hl, e⟩ := I.lstM e3
    obtain ⟨its2, n2, r2, hl2, e2⟩ := Tup.obj I e4
    have l2 := r2.length
    have hsz : its.toArray.size + its2.toArray.size ≤ sizeLine := by rw [List.size_toArray, List.size_toArray]; omega
    have hlong : ¬ (!its.toArray.isEmpty && Builtin.List.listTooLong (its.toArray.size + its2.toArray.size)) = true := by
      rw [notLongL hsz, Bool.and_false]
      exact Bool.false_ne_true
    refine call_meets F.slot_list_extend ⟨_, e, rfl⟩ F.entry_list_extend (F.args_list_extend_2 _ _)
      (AutoSeq1.list_extend_list_tuple_0 l its.toArray n b its2.toArray n2 hlong (by rw [List.size_toArray]; omega) (by omega)) ⟨e, e2, ?_⟩
    refine ⟨.non, _, I.lset (its' := its ++ its2) e3 e (by simp) (r.append r2) ?_, rfl, q.at⟩
    rw [List.length_append]
    omega
end
theorem g_extT {l b : Addr} {xs zs : List V} {H : Hp} {Q : VK} (h : H l = some (.lst xs)) (e : Tup H b zs) (z : xs.length + zs.length ≤ 1000) (q : ∀ H', Keep [l] H H' → H' l = some (.lst (xs ++ zs)) → Q .non H') : uExtT (.ref l) [.ref b] H Q := ⟨l, b, xs, zs, rfl, rfl, h, .inr e, len_le (by omega), q⟩
end Wg

/-! Wagon, part 19: xs[::k], k 1 or -1, of a list. -/
namespace Wg
open PySem PySem.Spec PyProof.Rows L2
theorem pick_one (items : Array Value) : slicePick items none none (some 1) = items := by
  have h : slicePick items none none (some 1) = slicePick items none none none := rfl
  rw [h, show items = items.toList.toArray by simp, slicePick_cut]
  simp [HT.sIx]
  rw [List.take_of_length_le (by simp)]
section
variable {X : Cx}
def tStepL (K : PySem.W.Frag) (te ts : TE) : TE := fun σ H Q => te σ H fun x H1 => tPart ts σ H1 fun o H2 => ∃ a xs v, x = .ref a ∧ SqL K H2 a xs ∧ o = some v ∧ (v = 1 ∨ v = -1) ∧ ∀ p, H2 p = none → Q (.ref p) (upd H2 p (.lst (if v = 1 then xs else xs.reverse)))
theorem pe_stepL {e es : Expr} {te ts : TE} {p3 pos : Pos} (he : PE X e te) (hs : PE X es ts) : PE X (.Subscript e (.Slice none none (some es) p3) pos) (tStepL X.K te ts) := by
  refine ⟨fun pins s σ H Q I h => ?_⟩
  refine Subscript_ (thn (he.run pins s σ H _ I h) fun v s1 ⟨x, H1, I1, r1, q1⟩ => ?_)
  have hst : PO X (some es) (tPart ts) := po_some hs
  refine wpAny_Slice (thn (po_none.run pins s1 σ H1 (fun o H2 => o = none ∧ H2 = H1) I1 ⟨rfl, rfl⟩) fun vl s2 ⟨l, H2, I2, pl, el, e2⟩ => ?_)
  subst el e2
  refine thn (po_none.run pins s2 σ H2 (fun o H3 => o = none ∧ H3 = H2) I2 ⟨rfl, rfl⟩) fun vu s3 ⟨u, H3, I3, pu, eu, e3⟩ => ?_
  subst eu e3
  refine thn (hst.run pins s3 σ H3 _ I3 q1) fun vs s4 ⟨o, H4, I4, ps, q4⟩ => ?_
  obtain ⟨a, xs, w, ex, hx, eo, hw, q⟩ := q4
  subst ex eo
  cases r1
  have I5 : Inv X pins σ H4 { s4 with heap := s4.heap.push { cls := .type "slice", data := .fields #[vl, vu, vs] } } := I4.kept (t' := s4.toks) fun b ob q => Heap.get?_push_of_some _ q
  obtain ⟨its, r, ht, hz⟩ := I5.list hx
  have hlen := r.length
  show wpAny (model X.prog X.w) X.A (subscriptTail e (.Slice none none (some es) p3) (.ref a) (.ref s4.heap.objs.size)) (EP X pins σ Q) X.xe { s4 with heap := s4.heap.push { cls := .type "slice", data := .fields #[vl, vu, vs] } }
  refine tail_any (ops := [.ref a, .ref s4.heap.objs.size]) ht.isList.typeIs (PySem.slot_list_getitem.lookup) ?_ (by with_unfolding_all rfl)
  refine wpAny_getItem_list_slice ht.isList (Heap.IsSliceOf.new _ vl vu vs) pl pu ps (by rcases hw with rfl | rfl <;> decide) ?_ (by rw [List.size_toArray]; omega)
  rcases hw with rfl | rfl
  · rw [pick_one]
    refine ⟨.ref _, _, I5.laid (t' := s4.toks) (o := .lst xs) (fun b ob q => Heap.get?_push_of_some _ q) (Nat.le_refl _) ?_, rfl, q _ (I5.hok.fresh (Nat.le_refl _))⟩
    exact ⟨hz, _, 0, r, Heap.get?_push_size _ rfl⟩
  · rw [PySem.W.krv_pick]
    refine ⟨.ref _, _, I5.laid (t' := s4.toks) (o := .lst xs.reverse) (fun b ob q => Heap.get?_push_of_some _ q) (Nat.le_refl _) ?_, rfl, q _ (I5.hok.fresh (Nat.le_refl _))⟩
    exact ⟨by rw [List.length_reverse]; exact hz, _, 0, r.reverse, Heap.get?_push_size _ rfl⟩
end
theorem e_stepL {K : PySem.W.Frag} {te ts : TE} {σ : L2.St} {H : Hp} {Q : VK} : tStepL K te ts σ H Q ↔ te σ H fun x H1 => ts σ H1 fun y H2 => ∃ i, y = .int i ∧ ∃ a xs v, x = .ref a ∧ SqL K H2 a xs ∧ some i = some v ∧ (v = 1 ∨ v = -1) ∧ ∀ p, H2 p = none → Q (.ref p) (upd H2 p (.lst (if v = 1 then xs else xs.reverse))) := Iff.rfl
end Wg

/-! Wagon, part 20: a for over zip of two tuples  -/
namespace Wg
open PySem PySem.Spec PyProof.Rows L2 RZ
def FZ (K : PySem.W.Frag) (g : TG) (tb : TS) (D : Ends) (σ : L2.St) (vs : List V) (H1 : Hp) : Prop := tFor (iZipA K (fun _ H Q => Q vs H)) g tb D σ H1
theorem e_forZ {K : PySem.W.Frag} {ta : TA} {g : TG} {tb : TS} {D : Ends} {σ : L2.St} {H : Hp} : tFor (iZipA K ta) g tb D σ H ↔ ta σ H (FZ K g tb D σ) := Iff.rfl
theorem g_FZ {K : PySem.W.Frag} {g : TG} {tb : TS} {D : Ends} {σ : L2.St} {H1 : Hp} {a b : Addr} {xs ys : List V} (Pv : Nat → L2.St → Hp → Prop) (ha : Tup H1 a xs) (hb : Tup H1 b ys) (hl2 : xs.length = ys.length) (h0 : Pv 0 σ H1) (hl : ∀ i σ H, i ≤ xs.length → Pv i σ H → Tup H a xs ∧ Tup H b ys)
    (hs : ∀ i x y σ H T H', xs[i]? = some x → ys[i]? = some y → Pv i σ H → H T = none → Keep [] H H' → H' T = some (.tup [x, y]) → g (.ref T) σ H' fun σ2 H2 => tb { D with nx := Pv (i + 1), ct := Pv (i + 1), bk := D.nx } σ2 H2) (hd : ∀ σ H, Pv xs.length σ H → D.nx σ H) : FZ K g tb D σ [.ref a, .ref b] H1 := by
  refine ⟨a, b, xs, ys, rfl, .inr ⟨ha.sq, hb.sq, fun i m σ H => m = xs.length - i ∧ i ≤ xs.length ∧ Pv i σ H, ⟨xs.length, by simp, Nat.zero_le _, h0⟩, ?_⟩⟩
  rintro i m σ H ⟨rfl, hi, p⟩
  obtain ⟨ta, tb'⟩ := hl i σ H hi p
  by_cases hlt : i < xs.length
  · have hx := List.getElem?_eq_getElem hlt
    have hy := List.getElem?_eq_getElem (show i < ys.length by omega)
    refine .inr ⟨⟨xs, ys, _, _, ta.sq, tb'.sq, hx, hy⟩, Pv (i + 1), fun σ' H' p' => ⟨xs.length - (i + 1), by omega, rfl, hlt, p'⟩, fun x H' y => ?_⟩
    obtain ⟨T, x', y', rfl, nT, rfl, f1, f2⟩ := y
    exact hs i x' y' σ H T _ (f1 xs ta.sq) (f2 ys tb'.sq) p nT (Keep.new nT) upd_same
  · have e : i = xs.length := by omega
    subst e
    exact .inl ⟨⟨xs, ys, ta.sq, tb'.sq, .inl (Nat.le_refl _)⟩, hd σ H p⟩
end Wg

/-! Wagon, part 21: xs[a:b] = ys. -/
namespace Wg
open PySem PySem.Spec PyProof.Rows L2
section
variable {X : Cx}
def gSli (to tl th : TE) : TG := fun v σ H R => to σ H fun x H1 => tl σ H1 fun i H2 => th σ H2 fun j H3 => ∃ l b xs ys a c, x = .ref l ∧ v = .ref b ∧ i = .int a ∧ j = .int c ∧ H3 l = some (.lst xs) ∧ H3 b = some (.lst ys) ∧ l ≠ b ∧ 0 ≤ a ∧ a ≤ c ∧ c ≤ xs.length ∧ xs.length + ys.length ≤ sizeLine ∧
  Ch H3 l (.lst (xs.take a.toNat ++ ys ++ xs.drop c.toNat)) (R σ)
theorem pg_sli {o lo hi : Expr} {to tl th : TE} {p2 pos : Pos} (ho : PE X o to) (hl : PE X lo tl) (hh : PE X hi th)
    (ha : ∀ v, assign (.Subscript o (.Slice (some lo) (some hi) none p2) pos) X.env v = (do
      let ov ← holding [v] (eval o X.env)
      let iv ← holding [v, ov] (eval (.Slice (some lo) (some hi) none p2) X.env)
      standAt pos
      holding [v, ov, iv] (setItem ov iv v)
      release [iv, v, ov] []) := by intro _; rfl) : PG X (.Subscript o (.Slice (some lo) (some hi) none p2) pos) (gSli to tl th) := by
  refine ⟨fun pins s σ H v u Q I r h => ?_⟩
  rw [ha]
  refine wpAny_bind (wpAny_holding (thn (ho.run pins s σ H _ I h) fun ov s1 ⟨x, H1, I1, r1, q1⟩ => ?_))
  refine wpAny_bind (wpAny_holding ?_)
  refine wpAny_Slice ?_
  rw [evalPart_some, evalPart_some, evalPart_none]
  refine thn (hl.run pins s1 σ H1 _ I1 q1) fun vl s2 ⟨i, H2, I2, r2, q2⟩ => thn (hh.run pins s2 σ H2 _ I2 q2) fun vu s3 ⟨j, H3, I3, r3, q3⟩ => ?_
  refine wpAny_pure ?_
  obtain ⟨l, b, xs, ys, a, c, rfl, rfl, rfl, rfl, e1, e2, ne, h0, hac, hc, hz, q⟩ := q3
  cases r1
  cases r
  have I4 : Inv X pins σ H3 { s3 with heap := s3.heap.push { cls := .type "slice", data := .fields #[vl, vu, .none] } } := I3.kept (t' := s3.toks) fun b ob q => Heap.get?_push_of_some _ q
  refine wpAny_bind (wpAny_standAt (wpAny_bind (wpAny_holding (set_slice I4 e1 e2 ne (Heap.IsSliceOf.new ..) r2 r3 h0 hac hc hz fun s' I5 => ?_))))
  exact wpAny_release ⟨σ, _, I5, q.at⟩
end
end Wg

/-! Wagon, part 22: min(xs, default=None) of a list of ints. -/
namespace Wg
open PySem PySem.Spec PyProof.Rows L2
section
variable {X : Cx}
def tMinN (K : PySem.W.Frag) (ta : TE) : TE := fun σ H Q => ta σ H fun x H1 => ∃ a ns, x = .ref a ∧ SqL K H1 a (ns.map V.int) ∧ (ns = [] → Q .non H1) ∧ ∀ m, m ∈ ns → (∀ y, y ∈ ns → m ≤ y) → Q (.int m) H1
theorem pe_minN {a : Expr} {ta : TE} {j : Nat} {p p2 p3 pos : Pos} (hc : X.calm = true) (hu : X.A.units + 64 < cLine) (hg : Gl X "min") (hm : X.mg "min" = none) (ha : PE X a ta)
    (he : backTo pos (starEach [a] X.env) = (false, eval a X.env) :: backTo pos (starEach [] X.env) := by rfl) :
    PE X (.Call (.Name "min" p) [a] [⟨some "default", .Constant .none j p2, p3⟩] pos) (tMinN X.K ta) := by
  refine ⟨fun pins s σ H Q I h => ?_⟩
  refine wpAny_Call_Name_kw (ld_blt I hg hm (show bootBuiltins "min" = some (.builtin "min") by decide +kernel) ?_)
  refine PyProof.Rows.callWith_kw ?_ he (by rw [he]; rfl)
  rw [he]
  refine Calls.spliced_cons (thn (ha.run pins s σ H _ I h) fun v s1 ⟨x, H1, I1, r1, q1⟩ => ?_)
  refine Calls.spliced_nil ?_
  obtain ⟨l, ns, rfl, hs, q0, q⟩ := q1
  cases r1
  obtain ⟨its, rv, hl, hz⟩ := I1.list hs
  refine PyProof.Rows.kws_cons (Constant_none (PyProof.Rows.kws_nil ?_))
  show wpAny _ _ (call (.builtin "min") [Value.ref l] [(Str.ofString "default", Value.none)]) _ _ _
  have dps : ∀ ns : List Int, DpAll X.K H1 (ns.map V.int) (ns.map .int) := fun ns => by
    induction ns with
    | nil => exact .nil
    | cons n ns ih => exact .cons (.int n) ih
  obtain ⟨as, hr⟩ := Dp.readsAll I1 _ _ _ (dps ns) rv
  have al : PySem.W.AlikeAll (ns.map .int) := by
    refine ⟨fun x hx y hy => ?_, fun x hx => ?_⟩
    · obtain ⟨i, _, rfl⟩ := List.mem_map.mp hx
      obtain ⟨j, _, rfl⟩ := List.mem_map.mp hy
      rfl
    · obtain ⟨i, _, rfl⟩ := List.mem_map.mp hx
      exact fun z => nomatch z
  have dp : PyData.depthAll (ns.map .int) = 0 := by
    clear hr al dps q0 q hs rv hz
    induction ns with
    | nil => simp [PyData.depthAll]
    | cons n ns ih => simp [PyData.depthAll, PyData.depth, ih]
  refine PySem.W.min_list_default (I1.ok.hd hc) hl.isList (as := as) hr al (by omega) (fun e h' tk hk => ?_) fun y ys i v h' tk bs e hv rd hk => ?_
  · exact ⟨.non, H1, I1.kept hk, rfl, q0 (List.map_eq_nil_iff.mp e)⟩
  · cases ns with
    | nil => cases e
    | cons n ns =>
      rw [List.map_cons] at e
      cases e
      rw [PySem.W.minD_ints] at rd
      obtain ⟨t, rfl⟩ : ∃ t, v = .int (ns.foldl min n) t := by
        cases rd
        exact ⟨_, rfl⟩
      have h1 : ∀ (ns : List Int) (n : Int), ns.foldl min n ∈ n :: ns ∧ ∀ y ∈ n :: ns, ns.foldl min n ≤ y := by
        intro ns
        induction ns with
        | nil => intro n; exact ⟨List.mem_singleton.mpr rfl, fun y hy => by rw [List.mem_singleton.mp hy]; exact Int.le_refl _⟩
        | cons m ns ih =>
          intro n
          obtain ⟨a, b⟩ := ih (min n m)
          rw [List.foldl_cons]
          have c := b (min n m) (List.mem_cons_self)
          refine ⟨?_, fun y hy => ?_⟩
          · rcases List.mem_cons.mp a with a | a
            · rw [a]
              by_cases hle : n ≤ m
              · rw [Int.min_eq_left hle]; simp
              · rw [Int.min_eq_right (by omega)]; simp
            · simp [a]
          · rcases List.mem_cons.mp hy with rfl | hy
            · exact Int.le_trans c (Int.min_le_left _ _)
            · rcases List.mem_cons.mp hy with rfl | hy
              · exact Int.le_trans c (Int.min_le_right _ _)
              · exact b y (List.mem_cons_of_mem _ hy)
      exact ⟨.int _, H1, I1.kept hk, ⟨t, rfl⟩, q _ (h1 ns n).1 (h1 ns n).2⟩
end
end Wg

/-! Wagon, part 23: a comprehension over enumerate(tuple); the order of tuples that begin with numbers. -/
namespace Wg
open PySem PySem.Spec PyProof.Rows L2
def CEn (g : TG) (tt : TT) (te : TE) (vs : List Nat) (σ : L2.St) (Q : VK) (ws : List V) (H1 : Hp) : Prop := ∃ a xs, ws = [.ref a] ∧ Tup H1 a xs ∧ CB (Itn a xs) g tt te vs σ Q H1
theorem e_lcEn {K : PySem.W.Frag} {ta : TA} {g : TG} {tt : TT} {te : TE} {vs : List Nat} {σ : L2.St} {H : Hp} {Q : VK} : tLc (iEnumU K ta) g tt te vs σ H Q ↔ ta σ H (CEn g tt te vs σ Q) := Iff.rfl
theorem g_CEn {K : PySem.W.Frag} {g : TG} {tt : TT} {te : TE} {vs : List Nat} {σ : L2.St} {Q : VK} {H1 : Hp} {a : Addr} {us : List V} (ha : Tup H1 a us) (P : Nat → Hp → List V → Prop)
    (p0 : ∀ D H2, H1 D = none → Keep [] H1 H2 → P 0 H2 [])
    (ps : ∀ D i x H acc (R : VK) (R0 : Hp → Prop) T H', H1 D = none → us[i]? = some x → Keep [] H1 H' → H' D = some (.lst acc) → Keep [] H H' → P i H acc → H' T = some (.tup [.int (i : Nat), x]) →
      (∀ z H4, Keep [] H' H4 → acc.length < sizeLine → (∀ H5, Keep [D] H4 H5 → P (i + 1) H5 (acc ++ [z])) → R z H4) → (∀ H3, Keep [] H' H3 → P (i + 1) H3 acc → R0 H3) →
      g (.ref T) (wipe σ vs) H' fun σ2 H2 => wipe σ2 vs = wipe σ vs ∧ tt σ2 H2 fun bb H3 => if bb = true then te σ2 H3 R else R0 H3)
    (pd : ∀ D H acc, H1 D = none → Keep [] H1 H → H D = some (.lst acc) → P us.length H acc → Q (.ref D) H) : CEn g tt te vs σ Q [.ref a] H1 := by
  refine ⟨a, us, rfl, ha, fun D hD => ?_⟩
  refine ⟨fun i m H => m = us.length - i ∧ i ≤ us.length ∧ Keep [] H1 H ∧ ∃ acc, H D = some (.lst acc) ∧ P i H acc, ⟨us.length, by omega, by omega, Keep.new hD, [], upd_same, p0 D _ hD (Keep.new hD)⟩, ?_⟩
  rintro i m H ⟨rfl, hi, k, acc, eD, p⟩
  have ta := ha.keep k nin0
  by_cases hlt : i < us.length
  · have hx := List.getElem?_eq_getElem hlt
    refine .inr ⟨⟨hlt, ta⟩, fun H' => i + 1 ≤ us.length ∧ Keep [] H1 H' ∧ ∃ acc, H' D = some (.lst acc) ∧ P (i + 1) H' acc, fun H' q => ⟨us.length - (i + 1), by omega, rfl, q⟩, fun v H' y => ?_⟩
    obtain ⟨T, x', rfl, hT, rfl, f1⟩ := y
    have kn : Keep [] H (upd H T (.tup [.int (i : Nat), x'])) := Keep.new hT
    refine ps D i x' H acc _ _ T _ hD f1 (k.trans kn) (kn _ _ nin0 eD) kn p upd_same (fun z H4 k4 hz q => ⟨acc, k4 _ _ nin0 (kn _ _ nin0 eD), hz, hlt, (k.trans (kn.trans k4)).past Keep.set hD, _, upd_same, q _ Keep.set⟩) fun H3 k3 q => ⟨hlt, k.trans (kn.trans k3), acc, k3 _ _ nin0 (kn _ _ nin0 eD), q⟩
  · have e : i = us.length := by omega
    subst e
    exact .inl ⟨⟨rfl, ta⟩, pd D H acc hD k eD p⟩
theorem lt_of_head {a b : Int} {r r' : List PyData} (h : a < b) : PySem.W.dataLt (.tuple (.int a :: r)) (.tuple (.int b :: r')) = true := by
  unfold PySem.W.dataLt
  simp only [PySem.W.keyToks, PySem.W.keyToksAll, List.cons_append, List.nil_append]
  simp [PyProof.Rows.lexLt, PyProof.Rows.itemOrd]
  refine .inr ⟨by decide, .inl ?_⟩
  simp [PyProof.Rows.itemLt, h]
theorem nlt_of_head {a b : Int} {r r' : List PyData} (h : b < a) : PySem.W.dataLt (.tuple (.int a :: r)) (.tuple (.int b :: r')) = false := by
  have h1 := lt_of_head (r := r') (r' := r) h
  cases e : PySem.W.dataLt (.tuple (.int a :: r)) (.tuple (.int b :: r')) with
  | false => rfl
  | true =>
    have h2 := (PyProof.Rows.listOrd PyProof.Rows.itemOrd).trans (PySem.W.keyToks (.tuple (.int b :: r'))) (PySem.W.keyToks (.tuple (.int a :: r))) (PySem.W.keyToks (.tuple (.int b :: r'))) h1 e
    have h3 := (PyProof.Rows.listOrd PyProof.Rows.itemOrd).irrefl (PySem.W.keyToks (.tuple (.int b :: r')))
    exact Bool.noConfusion (h3.symm.trans h2)
end Wg

/-! Wagon, part 24: len(set(xs)) of a list of texts, none told twice. -/
namespace Wg
open PySem PySem.Spec PyProof.Rows L2
section
variable {P : Program} {w : World} {A : Around} {R : Result → Shared → Prop} {it : Addr} {near own : List Addr} {G : Array GenState → Array GenState → Prop} {n : Nat} {Pv : Nat → Value → Prop} {St : Nat → Shared → Prop}
variable {K : Type} [DecidableEq K] [BEq K] [LawfulBEq K] {kd : KeyKind P w K}
theorem nodup_next {ks : List K} (nd : ks.Nodup) {i : Nat} (h : i < ks.length) : ks[i] ∉ ks.take i := fun hm => by
  obtain ⟨j, hj, e⟩ := List.getElem_of_mem hm
  rw [List.length_take] at hj
  rw [List.getElem_take] at e
  exact List.pairwise_iff_getElem.mp nd j i (by omega) h (by omega) e
/-- what set.update does over what walks through keys of one kind, none twice -/
theorem put_all (W : WalksS P w A.in1 it near own G n Pv St) {c : Addr} (hc : c ∉ near) {ks : List K} (hl : ks.length = n) (nd : ks.Nodup) (few : n + 1 < scanBound)
    (hv : ∀ i v, Pv i v → ∃ h : i < ks.length, kd.is ks[i] v = true ∧ v.scannable = true) :
    ∀ (m i : Nat), i + m = n → ∀ s : Shared, St i s → s.heap.SetOf kd c (fun k => decide (k ∈ ks.take i)) i →
      (∀ s', Moved (c :: own) G s s' → s'.heap.SetOf kd c (fun k => decide (k ∈ ks)) n → R (.ok (.ret .none)) s') →
      codeAny (model P w) A (.builtin "set.update.loop" ⟨[.ref c, .ref it], []⟩) R s := by
  have nc : c ∉ own := fun h => hc (W.sub c h)
  have up : ∀ {h h' : Heap} {S : K → Bool} {q : Nat}, h.SetOf kd c S q → (∀ o, h.get? c = some o → h'.get? c = some o) → h'.SetOf kd c S q := fun x k => by
    obtain ⟨o, es, ep, t, ho, x⟩ := x
    exact ⟨o, es, ep, t, k o ho, x⟩
  intro m
  induction m with
  | zero =>
    intro i e s st hS fin
    have e : i = n := e
    subst e
    refine codeAny_builtin PyProof.Rows.F.entry_set_update_loop ?_
    rw [Around.under_plainId PyProof.Rows.F.plain_set_update_loop]
    refine wpAny_bind (m := pyNext (.ref it)) (W.done s _ _ st fun s' mv => wpAny_pure (fin s' (mv.mono fun _ h => .tail _ h) ?_))
    have := up hS fun o ho => mv.heap c o nc ho
    have all : ks.take i = ks := by rw [← hl, List.take_length]
    simpa only [all] using this
  | succ m ih =>
    intro i e s st hS fin
    refine codeAny_builtin PyProof.Rows.F.entry_set_update_loop ?_
    rw [Around.under_plainId PyProof.Rows.F.plain_set_update_loop]
    refine wpAny_bind (m := pyNext (.ref it)) (W.item i s _ _ (by omega) st fun v s1 pv st1 mv => ?_)
    obtain ⟨hi, hk, sc⟩ := hv i v pv
    refine wpAny_bind (m := holding [v] (setAdd c v)) (wpAny_holding ?_)
    unfold setAdd
    refine wpAny_holding (wpAny_bind (kd.pyHash hk ?_))
    refine wpAny_setAddHashed_of (s := { s1 with toks := s1.toks + 1 }) hk sc (up hS fun o ho => mv.heap c o nc ho) (by omega) fun h2 same hS2 => ?_
    have no := nodup_next nd hi
    rw [if_neg (by rw [decide_eq_true_eq]; exact no)] at hS2
    have hS3 : h2.SetOf kd c (fun k => decide (k ∈ ks.take (i + 1))) (i + 1) := by
      refine PyProof.Rows.SetOf_congr hS2 (fun k => ?_) rfl
      rw [List.take_succ, List.getElem?_eq_getElem hi]
      simp only [Option.toList_some, List.mem_append, List.mem_singleton, Bool.decide_or]
    refine wpAny_pure ⟨plainId_quiet PyProof.Rows.F.plain_set_update_loop _, ih (i + 1) (by omega) _ (W.frame _ s1 _ _ st1 (Nat.le_succ _) fun b hb o ho => ?_) hS3 fun s2 mv2 hS4 => ?_⟩
    · rw [same.2 b fun x => hc (x ▸ hb)]
      exact ho
    · refine fin s2 (Moved.trans W.gtrans ((mv.mono fun _ h => .tail _ h).then_heap (Nat.le_succ _) fun b o hb ho => ?_) mv2) hS4
      rw [same.2 b fun x => hb (x ▸ .head _)]
      exact ho
end
section
variable {P : Program} {w : World} {A : Around} {E : Value → Shared → Prop} {s : Shared} {K : Type} [DecidableEq K] [BEq K] [LawfulBEq K] {kd : KeyKind P w K}
theorem set_of {l : Addr} {vs : Array Value} {ks : List K} {Q : Value → Shared → Prop} (hh : A.handled = none) (hl : s.heap.IsList l vs) (hn : ks.length = vs.size) (nd : ks.Nodup) (few : vs.size + 1 < scanBound)
    (hv : ∀ (i : Nat) (v : Value), vs[i]? = some v → ∃ h : i < ks.length, kd.is ks[i] v = true ∧ v.scannable = true)
    (q : ∀ (h : Heap) (t : Nat), h.SetOf kd s.heap.objs.size (fun k => decide (k ∈ ks)) vs.size → (∀ b o, b < s.heap.objs.size → s.heap.get? b = some o → h.get? b = some o) → Q (.ref s.heap.objs.size) { s with heap := h, toks := t }) :
    wpAny (model P w) A (call (.type "set") [.ref l]) Q E s := by
  obtain ⟨cl, rest, hmro⟩ := PySem.F.called_set.mro
  have f1 := PySem.F.called_set.made
  have f2 := PySem.F.called_set.sub
  have f3 := PySem.F.called_set.notType
  have f4 := PySem.F.called_set.canCreate
  have f5 := PySem.F.typeCall_set_1 (.ref l)
  have f6 := PySem.F.called_set.init.lookup
  have f7 := PySem.F.called_set.init.bind (.ref s.heap.objs.size)
  refine wpAny_call (codeAny_of_tree ?_)
  change wpAny _ _ (callAny (.type "set") _) _ _ _
  refine wpAny_pure ⟨Code.quiet_builtin _ (by decide +kernel), codeAny_builtin PySem.F.entry_type_call ?_⟩
  rw [Around.under_plain (weight_type_call_type "set" [.ref l] []) rfl]
  repeat (any_goals (first | assumption | wp_step))
  refine codeAny_mono (code_set_new_1 (.ref l) (E := E) (Q₁ := fun r s1 => ∃ b : Bool, r = .ref s.heap.objs.size ∧ s1 = { s with heap := s.heap.push { cls := .type "set", dict := none, data := .set #[] 0 (.fresh 0 0 b) } }) fun b => ⟨b, rfl, rfl⟩) fun r s1 hr => ?_
  rcases r with x | fl
  · exact hr
  cases fl with
  | ret r =>
    obtain ⟨b, rfl, rfl⟩ := hr
    have at0 : (s.heap.push { cls := .type "set", dict := none, data := .set #[] 0 (.fresh 0 0 b) }).get? s.heap.objs.size = some { cls := .type "set", dict := none, data := .set #[] 0 (.fresh 0 0 b) } := Heap.get?_push_size _ rfl
    have ty0 : Shared.TypeIs { s with heap := s.heap.push { cls := .type "set", dict := none, data := .set #[] 0 (.fresh 0 0 b) } } (.ref s.heap.objs.size) "set" := ⟨_, at0, rfl⟩
    repeat (any_goals (first | assumption | wp_step))
    refine codeAny_mono (codeAny_call_builtin (R := wants (fun r s2 => r = .none ∧ ∃ h t, s2 = { s with heap := h, toks := t } ∧ h.SetOf kd s.heap.objs.size (fun k => decide (k ∈ ks)) vs.size ∧
      ∀ b o, b < s.heap.objs.size → s.heap.get? b = some o → h.get? b = some o) E) PySem.F.called_set.init.plain PySem.F.entry_set_init (check_set_init_1 ty0 ?_)) fun r2 s2 hr2 => ?_
    · obtain ⟨⟨kc, kd1, kdat, ksl⟩, g1, g2, nl, g3⟩ := hl
      simp only at g2 g3
      subst g2 g3
      have t1 := PySem.F.sub_list_set
      have t2 := PySem.F.sub_list_frozenset
      have t3 : (Value.type "list" == Value.type "dict") = false := by decide
      have g4 := Heap.get?_push_of_some ({ cls := .type "set", dict := none, data := .set #[] 0 (.fresh 0 0 b) } : Obj) g1
      have here : (s.heap.push { cls := .type "set", dict := none, data := .set #[] 0 (.fresh 0 0 b) }).IsList l vs := ⟨_, g4, rfl, nl, rfl⟩
      have low : l < s.heap.objs.size := Heap.lt_size g1
      unfold Builtin.«set.__init__» noKeywords Builtin.Frozenset.updateFrom
      generalize hpy : pyIter = py
      wp_walk
      subst hpy
      refine wpAny_pyIter_list here (wpAny_bind (wpAny_runValue ?_))
      have sz : (s.heap.push { cls := .type "set", dict := none, data := .set #[] 0 (.fresh 0 0 b) }).objs.size = s.heap.objs.size + 1 := Heap.size_push _ _
      have apart : l ≠ s.heap.objs.size + 1 := Nat.ne_of_lt (Nat.lt_succ_of_lt low)
      have own : s.heap.objs.size ≠ s.heap.objs.size + 1 := Nat.ne_of_lt (Nat.lt_succ_self _)
      have quiet : A.in1.in1.in1.handled = none := by simp [hh]
      refine put_all (kd := kd) ((Walks.list quiet _ l (by rw [sz]; exact apart) vs).toS) (c := s.heap.objs.size) (by rw [sz]; simp only [List.mem_cons, List.not_mem_nil, or_false]; exact fun x => x.elim own (Nat.ne_of_gt low)) hn nd few hv vs.size 0 (by omega) _
        ⟨⟨_, Heap.get?_push_size _ rfl, rfl, rfl⟩, here.push _⟩ ?_ fun s2 mv hS => ?_
      · exact PyProof.Rows.SetOf_congr ((PyProof.Rows.setObjOf_fresh (knd := kd) b).setOf (Heap.get?_push_of_some _ at0) (by unfold scanBound; omega)) (fun k => by simp) rfl
      · obtain ⟨h2, gg, dd, tt, oo⟩ := s2
        obtain rfl : gg = s.gens := mv.gens
        obtain rfl : dd = s.drawn := mv.drawn
        obtain rfl : oo = s.os := mv.os
        refine wpAny_pure (wpAny_pure ⟨rfl, h2, tt, rfl, hS, fun a o ha ho => mv.heap a o ?_ (Heap.get?_push_of_some _ (Heap.get?_push_of_some _ ho))⟩)
        rw [sz]
        simp only [List.mem_cons, List.not_mem_nil, or_false]
        exact fun x => x.elim (Nat.ne_of_lt ha) (Nat.ne_of_lt (Nat.lt_succ_of_lt ha))
    · rcases r2 with x | f2
      · exact hr2
      cases f2 with
      | ret r =>
        obtain ⟨rfl, h, t, rfl, hS, old⟩ := hr2
        repeat (any_goals (first | assumption | wp_step))
        exact q _ _ hS old
      | _ => exact hr2.elim
  | _ => exact hr.elim
end
section
variable {X : Cx}
theorem text_at : ∀ {xs : List Str} {vs : List Value}, Vals (xs.map V.str) vs → ∀ (i : Nat) (v : Value), vs[i]? = some v → ∃ h : i < xs.length, (strKind X.prog X.w).is xs[i] v = true ∧ v.scannable = true
  | [], _, .nil, i, v, h => by simp at h
  | x :: xs, _, .cons r _, 0, v, h => by
    obtain ⟨t, rfl⟩ := r
    obtain rfl : Value.str x t = v := Option.some.inj h
    exact ⟨Nat.succ_pos _, strKind_is _ _ _ _, rfl⟩
  | x :: xs, _, .cons _ t, i + 1, v, h => by
    obtain ⟨g, q⟩ := text_at t i v h
    exact ⟨Nat.succ_lt_succ g, q⟩
def tLenTexts (K : PySem.W.Frag) (ta : TE) : TE := fun σ H Q => ta σ H fun x H1 => ∃ (l : Addr) (xs : List Str), x = V.ref l ∧ SqL K H1 l (xs.map V.str) ∧ xs.Nodup ∧ xs.length < 64 ∧ Q (.int xs.length) H1
theorem pe_lenTexts {a : Expr} {ta : TE} {p p2 q pos : Pos} (calm : X.calm = true) (g1 : Gl X "len") (m1 : X.mg "len" = none) (g2 : Gl X "set") (m2 : X.mg "set" = none) (pa : PE X a ta)
    (each : starEach [a] X.env = (false, eval a X.env) :: starEach [] X.env := by rfl) : PE X (.Call (.Name "len" p) [.Call (.Name "set" p2) [a] [] q] [] pos) (tLenTexts X.K ta) := by
  refine ⟨fun pins s σ H Q I h => Call_ (ld_blt I g1 m1 boot_len (PyProof.Rows.callWith_builtin1 (PyProof.Rows.args_cons ?_ rfl) rfl rfl))⟩
  refine Call_ (ld_blt I g2 m2 boot_set (PyProof.Rows.callWith_type1 (PyProof.Rows.args_cons (thn (pa.run pins s σ H _ I h) fun v s1 ⟨x, H1, J, r, hx⟩ => PyProof.Rows.args_nil ?_) each) each rfl))
  obtain ⟨l, xs, rfl, sq, nd, few, hx⟩ := hx
  cases r
  obtain ⟨vs, rv, lv, _⟩ := J.list sq
  have sz : xs.length = vs.toArray.size := by rw [List.size_toArray, ← rv.length, List.length_map]
  refine set_of (kd := strKind X.prog X.w) (J.ok.hd calm) lv.isList sz nd (by unfold scanBound; omega) (fun i v e => text_at rv i v (by simpa using e)) fun h2 t hS old => PyProof.Rows.args_nil ?_
  obtain ⟨o, es, ep, tb, ho, ex, hd, _, _, _, fit, hn⟩ := hS
  rw [← sz] at hn
  exact call_len_set ho ex hd fit (by rw [hn]; omega) ⟨.int xs.length, H1, (J.kept fun b o e => old b o (Heap.lt_size e) e).tok _, ⟨_, by rw [hn]⟩, hx⟩
end
section
/-- sorted(d) of a dict whose keys are texts -/
def uSortD : List V → Hp → VK → Prop := fun xs H Q => ∃ (a : Addr) (kvs : List (Key × V)) (ks : List Str), xs = [.ref a] ∧ H a = some (.dK kvs) ∧ kvs.map (·.1) = ks.map Sum.inr ∧ ks.length < 64 ∧
  ∀ ys, ys.Perm ks → sortedS ys = true → Mk H (.lst (ys.map V.str)) Q
theorem call_uSortD {X : Cx} (hc : X.calm = true) : CallR X (.builtin "sorted") uSortD := by
  intro pins s σ H xs us Q I r h
  obtain ⟨a, kvs, ks, e, ha, hk, hl, q⟩ := h
  exact call_sortedD hc pins s σ H xs us Q I r ⟨a, kvs, ks, e, .inl ha, hk, hl, fun ys p h1 h2 n => q ys h1 h2 p _ n (Keep.new n) upd_same⟩
theorem lt_tri {a b : Str} (h1 : ltCps a.cps.toList b.cps.toList = false) (h2 : ltCps b.cps.toList a.cps.toList = false) : a = b := by
  rw [ltCps_eq, decide_eq_false_iff_not] at h1 h2
  have e : a.cps.toList = b.cps.toList := List.le_antisymm (List.not_lt.mp h2) (List.not_lt.mp h1)
  obtain ⟨a⟩ := a
  obtain ⟨b⟩ := b
  have e2 : a.toList = b.toList := e
  rw [Array.toList_inj.mp e2]
theorem rising_pw : ∀ (l : List Str) (p : Str), risingS p l = true → (p :: l).Pairwise fun a b => ltCps b.cps.toList a.cps.toList = false
  | [], p, _ => List.pairwise_singleton _ _
  | x :: l, p, h => by
    have h' : (!ltCps x.cps.toList p.cps.toList && risingS x l) = true := h
    rw [Bool.and_eq_true, Bool.not_eq_true'] at h'
    have ih := rising_pw l x h'.2
    refine List.pairwise_cons.mpr ⟨fun y hy => ?_, ih⟩
    rcases List.mem_cons.mp hy with rfl | hy
    · exact h'.1
    · have h2 := (List.pairwise_cons.mp ih).1 y hy
      have h1 := h'.1
      rw [ltCps_eq, decide_eq_false_iff_not] at h1 h2 ⊢
      exact List.not_lt.mpr (List.le_trans (List.not_lt.mp h1) (List.not_lt.mp h2))
theorem sort_pw : ∀ {l : List Str}, sortedS l = true → l.Pairwise fun a b => ltCps b.cps.toList a.cps.toList = false
  | [], _ => .nil
  | x :: l, h => rising_pw l x h
theorem sort_one {xs ys : List Str} (h1 : xs.Pairwise fun a b => ltCps b.cps.toList a.cps.toList = false) (h2 : sortedS ys = true) (p : ys.Perm xs) : ys = xs :=
  List.Perm.eq_of_pairwise (fun a b _ _ x y => lt_tri y x) (sort_pw h2) h1 p
end
end Wg

/-! Wagon, part 26: own classes: C(e, ..), o.m(e, ..), by promises of the kind Keeps. -/
namespace Wg
open PySem PySem.Spec PyProof.Rows L2
section
variable {X : Cx} {CX : CXT} {k : Nat} {C f : Addr} {fd : FuncData} {ps : List Str} {sp : Sp} {E : XK} {x m : Str} {p pos apos : Pos} {o e : Expr} {es : List Expr} {ta : TE} {t : TA}
/-- what a call of a class asks: two new places, the instance and its dict -/
def MadeAt (sp : Sp) (E : XK) (C : Addr) (vs : List V) (H : Hp) (Q : VK) : Prop :=
  ∀ i d, H i = none → H d = none → d ≠ i → sp (.ref i :: vs) (upd (upd H d (.own i)) i (.ins C d [])) (fun v H' => v = .non ∧ Q (.ref i) H') E
theorem made_go {pins : List (Addr × Obj)} {σ : L2.St} {H : Hp} {s : Shared} {Q : VK} {us : List Value} {vs : List V}
    (M : L2.Mk X.K C f) (F : Keeps X.prog X.w X.K X.mg X.base CX k f fd ps sp) (hr : Rm (k + 1) X.A) (hb : Binds X.K fd ps []) (hx : Passes CX X E)
    (I : Inv X pins σ H s) (r : Vals vs us) (h : MadeAt sp E C vs H Q) : wpAny (model X.prog X.w) X.A (call (.ref C) us) (EP X pins σ Q) X.xe s := by
  let i : Addr := s.heap.objs.size + 1
  let d : Addr := s.heap.objs.size
  have g : sp (.ref i :: vs) _ _ _ := h i d (I.hok.fresh (Nat.le_succ _)) (I.hok.fresh (Nat.le_refl _)) (Nat.ne_of_lt (Nat.lt_succ_self _))
  have J := Inv.made (C := C) I
  have rr : Vals (V.ref i :: vs) (Value.ref i :: us) := .cons rfl r
  have len : ((Value.ref i :: us) ++ []).length = ps.length := by
    rw [List.append_nil, ← rr.length]
    exact F.len _ _ _ _ g
  have bd := hb _ (Value.ref i :: us) J.kIn len
  rw [List.append_nil] at bd
  have go := F.run _ X.stack _ _ ⟨Value.ref i :: us, []⟩ (Value.ref i :: us) _ _ E ⟨hr.rm.make C us [], hr.gd⟩ (J.env0.make C us []) bd rr g
  refine wpAny_call ?_
  refine make_map (f := f) I.kIn M.makes M.init (beq_iff_eq.mp M.fn) ?_
  refine codeAny_mono go fun res s' hq => ?_
  match res, hq with
  | .error u, hq => exact hx pins σ _ _ u s' J hq
  | .ok (.ret u), hq =>
    obtain ⟨v, H', J', rv, rfl, q⟩ := J.after hq
    exact ⟨rv, V.ref (s.heap.objs.size + 1), H', J', rfl, q⟩
  | .ok .next, hq => exact hq.elim
  | .ok .brk, hq => exact hq.elim
  | .ok .cont, hq => exact hq.elim
/-- C(e, ..), C an own class -/
def tNewC (sp : Sp) (E : XK) (C : Addr) (t : TA) : TE := fun σ H Q => t σ H fun vs H1 => MadeAt sp E C vs H1 Q
theorem pe_newC (M : L2.Mk X.K C f) (F : Keeps X.prog X.w X.K X.mg X.base CX k f fd ps sp) (hr : Rm (k + 1) X.A) (hg : Gl X x) (hm : X.mg x = some (.ref C)) (hb : Binds X.K fd ps []) (hx : Passes CX X E) (ha : PA X (e :: es) t)
    (hdb : (x == ("__debug__" : Str)) = false := by decide) (he : starEach (e :: es) X.env = (false, eval e X.env) :: starEach es X.env := by rfl) (hpl : (backTo pos (starEach es X.env)).any (·.1) = false := by rfl) :
    PE X (.Call (.Name x p) (e :: es) [] pos) (tNewC sp E C t) := by
  constructor
  intro pins s σ H Q I h
  have args := ha.run pos pins s σ H _ I h
  refine wpAny_Call_Name_kw (ld_glob I hg hm (PySem.W.callWith_K (h₀ := X.base) I.ok.mod.kin M.kp (thn args fun us s1 hh => ?_) he hpl) hdb)
  obtain ⟨vs, H1, J, r, q⟩ := hh
  exact ⟨J.kIn, made_go M F hr hb hx J r q⟩
/-- o.m(e, ..), m a method of an own class -/
def tMth (C : Addr) (m : Str) (sp : Sp) (E : XK) (ta : TE) (t : TA) : TE := fun σ H Q => ta σ H fun x H1 => ∃ a d fs, x = .ref a ∧ H1 a = some (.ins C d fs) ∧ fs.lookup m = none ∧ t σ H1 fun vs H2 => sp (x :: vs) H2 Q E
theorem pe_mth {pl : Sem Bool} (ho : PE X o ta) (c : Cls X.K C) (hm : Meth X.K C m f) (F : Keeps X.prog X.w X.K X.mg X.base CX k f fd ps sp) (hr : Rm k X.A) (hb : Binds X.K fd ps []) (hx : Passes CX X E) (ha : PA X (e :: es) t)
    (hst : starEach (e :: es) X.env = (false, eval e X.env) :: starEach es X.env := by rfl) (hpl : (backTo pos (starEach es X.env)).any (·.1) = false := by rfl)
    (ht : eval (.Call (.Attribute o m apos) (e :: es) [] pos) X.env = (do
      let ov ← eval o X.env
      standAt apos.atName
      let (f, first) ← holding [ov] (getMethod ov m pl)
      callWith pos f first (backTo pos (starEach (e :: es) X.env)) (backToKw pos (keywordEach [] X.env))) := by rfl) :
    PE X (.Call (.Attribute o m apos) (e :: es) [] pos) (tMth C m sp E ta t) := by
  constructor
  intro pins s σ H Q I h
  have self := ho.run pins s σ H _ I h
  refine PySem.W.methodCall_KW (pl := pl) (thn self fun u s1 hh => ?_) ht
  obtain ⟨y, H1, J, ry, a, d, fs, rfl, ea, l, q⟩ := hh
  cases ry
  have args := ha.run pos pins s1 σ H1 _ J q
  refine getmeth_ok J ea c hm l (PySem.W.callWith_K (first := [.ref a]) (h₀ := X.base) I.ok.mod.kin hm.kp (thn args fun us s2 hh => ?_) hst hpl)
  obtain ⟨vs, H2, J2, r, q2⟩ := hh
  exact ⟨J2.kIn, go_fn (us := .ref a :: us) (vs := .ref a :: vs) F hr hb hx J2 (.cons rfl r) q2⟩
end
end Wg

/-! Wagon, part 27: d.update(e) of two dicts; methods by qualified names. -/
namespace Wg
open PySem PySem.Spec PyProof.Rows L2
section
variable {X : Cx}
def uUpd : V → List V → Hp → VK → Prop := fun x vs H Q => ∃ a b kvs more, x = .ref a ∧ vs = [.ref b] ∧ a ≠ b ∧ H a = some (.dK kvs) ∧ H b = some (.dK more) ∧ kvs.length + more.length ≤ sizeLine ∧ Ch H a (.dK (mergeK kvs more)) (Q .non)
theorem mt_uUpd : MtR X "dict.update" uUpd := by
  intro pins s σ H x vs v us Q I rx rv h
  obtain ⟨a, b, kvs, more, rfl, rfl, ne, ha, hb, few, q⟩ := h
  cases rx
  obtain ⟨u, rfl, ru⟩ := vals1 rv
  obtain rfl : u = Value.ref b := ru
  obtain ⟨z1, y1, ws, r1, d1⟩ := dk_of I.hok ha
  obtain ⟨z2, y2, ms, r2, d2⟩ := dk_of I.hok hb
  refine call_meetsIn PySem.F.slot_dict_update d1.typeIs PySem.F.entry_dict_update (PySem.F.args_dict_update_2 _ _) (meets_dict_update (mixKind X.prog X.w) a b ne y2) ⟨ws, ms, d1, d2, by rw [← r1.length, ← r2.length]; exact few, fun h2 dd _ same => ?_⟩
  have fits : (mergeK kvs more).length ≤ sizeLine := Nat.le_trans (length_mergeK more kvs) few
  have there : ∃ o, h2.get? a = some o := let ⟨o, _, _, ho, _⟩ := dd; ⟨o, ho⟩
  exact ⟨.non, upd H a (.dK (mergeK kvs more)), d_write (t' := s.toks) I (by rw [ha]; trivial) same there (dk_new fits y1 (r2.merge r1) dd), rfl, q.at⟩
end
structure FnM (K : PySem.W.Frag) (x qual : Str) (st : Stmt) (f : Addr) (fd : FuncData) (ps : List Str) : Prop where
  fn : Fun K x qual st f fd
  b : Binds K fd ps []
end Wg

/-! Wagon, part 28: a comprehension within a comprehension that reads names of it. -/
namespace Wg
open PySem PySem.Spec PyProof.Rows L2
theorem rel_seen {f : NameKind → Str → NameKind} (hf : ∀ k x, k = .cell ∨ k = .free → f k x = .cell ∨ f k x = .free) : ∀ {l : List (Str × NameKind)} {x : Str}, l.lookup x = some .cell ∨ l.lookup x = some .free →
    (l.map fun p => (p.1, f p.2 p.1)).lookup x = some .cell ∨ (l.map fun p => (p.1, f p.2 p.1)).lookup x = some .free
  | [], _, h => by simp at h
  | (n, k) :: l, x, h => by
    rw [List.map_cons, List.lookup_cons]
    rw [List.lookup_cons] at h
    cases e : x == n with
    | true =>
      rw [e] at h
      simp only [Option.some.injEq] at h
      have := hf k n h
      simpa using this
    | false =>
      rw [e] at h
      exact rel_seen hf h
theorem blkOk_in {N : List Str} {sc scope : Scope} {env : Env} {own : List (Str × Nat)} (h : blkC N sc scope own = true) : BlkOk N (relabel sc env) scope own := by
  have b := blkOk_by h
  refine ⟨b.kind, b.uniq, b.ix, fun y hy e => ?_, b.own⟩
  have := rel_seen (f := fun k n => if (k == NameKind.free && env.scope.kind == .function && env.kindOf n == some .cell) then .cell else k) (fun k x h => by
    split
    · exact .inl rfl
    · exact h) (b.free y hy e)
  have eq : (relabel sc env).names = sc.names.map fun p => (p.1, if (p.2 == NameKind.free && env.scope.kind == .function && env.kindOf p.1 == some .cell) then NameKind.cell else p.2) := by
    unfold relabel
    refine List.map_congr_left fun p _ => ?_
    obtain ⟨n, k⟩ := p
    show (if _ then _ else _) = _
    split <;> rfl
  rw [eq]
  exact this
end Wg

/-! Wagon, part 29: displays with [*xs, y]: HandS.Star; in, not in over data: HandS.Deep. -/
namespace Wg
open PySem PySem.Spec PyProof.Rows L2
theorem un65 {k : Nat} {A : Around} (hr : Rm k A) : A.units + 65 < cLine := by
  have := hr.rm.un
  omega
theorem g_FR2 {g : TG} {tb : TS} {D : Ends} {σ : L2.St} {H1 : Hp} {i0 j : Int} (b1 : -(2 ^ 62) ≤ i0) (b2 : i0 < 2 ^ 62) (b3 : -(2 ^ 62) ≤ j) (b4 : j < 2 ^ 62) (h : Loop (j - i0).toNat (fun i => .int (i0 + (i : Nat))) g tb D σ H1) : FR2 g tb D σ [.int i0, .int j] H1 := by
  obtain ⟨Pv, p0, ps, pd⟩ := h
  exact ⟨i0, j, rfl, ⟨b1, b2, b3, b4⟩, for_range (lo := i0) (n := (j - i0).toNat) Pv p0 (fun i σ H hi p => ps i σ H hi p) pd⟩
end Wg

/-! Wagon, part 30: all and any of a generator expression whose element is any expression. -/
namespace Wg
open PySem PySem.Spec PyProof.Rows L2

/-- the context of a generator expression's frame: it began at s; fp: its iterator's objects -/
abbrev gx (X : Cx) (s : Shared) (H : Hp) (ce : Env) (A : Around) (fp : List Addr) : Cx :=
  { X with s_0 := s, H_0 := H, env := ce, outer := X.stack, stack := ce :: X.stack, A := A, ex := fp, fn := fun _ => false, pn := [], xe := fun _ _ => False }
/-- the scope of a generator expression -/
structure GenOk (N : List Str) (sc scope : Scope) (own : List (Str × Nat)) : Prop where
  b : BlkOk N sc scope own
  noc : ∀ y ∈ scope.names, y.2 ≠ .cell
  dot : scope.names.lookup (".0" : Str) = some NameKind.local
  co : scope.isCoroutine = false
abbrev gEnv (X : Cx) (scope : Scope) (C : Addr) (code : Value) : Env := genEnv scope (cloFrom X.env.cells scope.names []) C code builtinsNs X.env
section
variable {X : Cx} {pins : List (Addr × Obj)} {σ : L2.St} {H : Hp} {s : Shared}
theorem gen_free {scope : Scope} {own : List (Str × Nat)} (I : Inv X pins σ H s) (ok : GenOk X.N X.env.scope scope own) : ∀ y ∈ scope.names, y.2 = .free → ∃ c, X.env.cells.lookup y.1 = some c := fun y hy fr =>
  (ok.b.free y hy fr).elim (fun q => I.ok.has _ (.inl q)) fun q => I.ok.has _ (.inr q)
/-- the frame's beginning -/
theorem gen_start {scope : Scope} {own : List (Str × Nat)} {fp : List Addr} {code : Value} {A : Around} {m : Str → Option Value} {z : Shared} (I : Inv X pins σ H s) (ok : GenOk X.N X.env.scope scope own) (hN : X.N.Nodup)
    (hfp : ∀ b ∈ fp, FpOk X pins H b ∧ b < s.heap.objs.size) (hd : A.handled = none) (fr : A.frames = some (gEnv X scope s.heap.objs.size code :: X.stack)) (zo : z.os = s.os) (zb : AllBare z.gens) (zk : ∀ b o, s.heap.get? b = some o → z.heap.get? b = some o)
    (zc : z.heap.Ns s.heap.objs.size m) : Inv (gx X s H (gEnv X scope s.heap.objs.size code) A fp) [] (wipe σ (own.map (·.2))) H z := by
  have free := gen_free I ok
  have inClo : ∀ {y c}, (y, c) ∈ cloFrom X.env.cells scope.names [] → X.env.cells.lookup y = some c ∧ c < s.heap.objs.size := fun {y c} hm => by
    rcases cloFrom_mem hm with q | ⟨q, rfl⟩
    · cases q
    · obtain ⟨c, hc⟩ := free _ q rfl
      rw [hc]
      obtain ⟨w, x⟩ := I.cell _ _ hc
      exact ⟨rfl, x.lt⟩
  have inCl : ∀ {y c}, (cloFrom X.env.cells scope.names []).lookup y = some c → X.env.cells.lookup y = some c ∧ c < s.heap.objs.size := fun e => inClo (PySem.mem_of_lookup e)
  have find : ∀ {y}, scope.names.lookup y = some .free → ∃ c, (cloFrom X.env.cells scope.names []).lookup y = some c ∧ X.env.cells.lookup y = some c := fun {y} q => by
    obtain ⟨c, e⟩ := mem_lookup (cloFrom_has (cells := X.env.cells) (acc := []) (PySem.mem_of_lookup q))
    exact ⟨c, e, (inCl e).1⟩
  have noCell : ∀ {y}, scope.names.lookup y ≠ some .cell := fun q => ok.noc _ (PySem.mem_of_lookup q) rfl
  have OK : (gx X s H (gEnv X scope s.heap.objs.size code) A fp).Ok := by
    refine ⟨I.ok.mod, ok.b.kind, I.ok.glob, rfl, Nat.le_refl _, fun y u c e1 e2 => ?_, fun y hy => ?_, fun y c q => ?_, fun _ => hd, fr, .inr ⟨rfl, rfl⟩, fun b hb => ⟨?_, fun y c e q => ?_⟩, I.bs, Nat.le_trans I.ok.bsz I.sz, fun b o e hb => ?_, fun b hb q => ?_, I.stack, I.stkFree⟩
    · exact I.ok.inj y u c (inCl e1).1 (inCl e2).1
    · rcases hy with q | q
      · exact absurd q noCell
      · obtain ⟨c, e, _⟩ := find q
        exact ⟨c, e⟩
    · cases q
    · exact Nat.ne_of_lt (hfp b hb).2
    · exact (hfp b hb).1.2.2.2.2.1 y c (inCl e).1 q
    · rcases (hfp b hb).1.2.2.2.1 with q | q
      · exact I.ok.noex b o e q
      · exact absurd (Nat.lt_of_lt_of_le (Heap.lt_size e) (Nat.le_trans I.ok.bsz q)) (Nat.lt_irrefl _)
    · rcases List.mem_cons.mp (I.stkSub b q) with q | q
      · exact (hfp b hb).1.2.1 q
      · exact (hfp b hb).1.2.2.1 q
  refine ⟨OK, zo, zb, Un.kept zk, ⟨m, zc, fun i y v e1 e2 vis => ?_⟩, fun y c e => ?_, I.hok.fresh (Nat.le_refl _), fun y c e => I.freeC y c (inCl e).1, fun p hp => absurd (show p ∈ ([] : List (Addr × Obj)) ++ [] from hp) (by simp), I.hok.kept zk, by rw [wipe_length]; exact I.len⟩
  · obtain ⟨e2, hne⟩ := wipe_some e2
    have fr' : scope.names.lookup y = some .free := by
      have no : ∀ k, scope.names.lookup y = some k → (k = .local ∨ k = .cell) → False := fun k q h => by
        rcases ok.b.own _ (PySem.mem_of_lookup q) h with e | e
        · obtain ⟨p, hp, ep⟩ := List.mem_map.mp e
          have e3 := ok.b.ix p hp
          rw [show p.1 = y from ep] at e3
          exact hne (List.mem_map.mpr ⟨p, hp, nodup_ix hN e3 e1⟩)
        · exact e (List.mem_of_getElem? e1)
      rcases vis with q | q | q
      · exact (no _ q (.inl rfl)).elim
      · exact (no _ q (.inr rfl)).elim
      · exact q
    obtain ⟨m', hn, hl⟩ := I.loc
    have visX : Vis X.env.scope y := (ok.b.free _ (PySem.mem_of_lookup fr') rfl).elim (fun q => .inr (.inl q)) fun q => .inr (.inr q)
    obtain ⟨w, r, q⟩ := hl i y v e1 e2 visX
    obtain ⟨c, h1, h2⟩ := find fr'
    refine ⟨w, r, .inr ⟨.inr fr', ?_⟩⟩
    rcases q with ⟨k, _⟩ | ⟨_, c', e', x⟩
    · have k : X.env.scope.names.lookup y = some .local := k
      rcases ok.b.free _ (PySem.mem_of_lookup fr') rfl with k' | k' <;> rw [show X.env.scope.names.lookup y = _ from k'] at k <;> cases k
    · rw [h2] at e'
      cases e'
      exact ⟨c, h1, x.keeps zk⟩
  · obtain ⟨w, x⟩ := I.cell y c (inCl e).1
    exact ⟨w, x.keeps zk⟩
end

theorem over_gen {AS : Around} {elt tg iter : Expr} {ifs : List Expr} {scope : Scope} {pos : Pos} {x y : Value} {env : Env} : AS.over (.compLoop (.GeneratorExp elt [⟨tg, iter, ifs, 0⟩] scope pos) 0 x y env) [] = AS.deeper env := by
  first
    | rfl
    | (obtain ⟨hd, d, fr, gs, u⟩ := AS; simp [Around.over, Around.deeper, marksOver, frameCount, unitsOf, envsOf, guardsOf, pushEnvs, pushGuards, Code.envs, Code.env?, Code.isFrame, Code.guards, Code.weight, Code.frames, Code.isCreation, Code.isGuard, Code.isCaller, Code.cUnits]; cases fr <;> rfl)
theorem over_gen0 {AS : Around} {elt tg iter : Expr} {ifs : List Expr} {scope : Scope} {pos : Pos} {x y : Value} {env : Env} : AS.over (.compStart (.GeneratorExp elt [⟨tg, iter, ifs, 0⟩] scope pos) 0 x y env) [] = AS.deeper env := by
  first
    | rfl
    | (obtain ⟨hd, d, fr, gs, u⟩ := AS; simp [Around.over, Around.deeper, marksOver, frameCount, unitsOf, envsOf, guardsOf, pushEnvs, pushGuards, Code.envs, Code.env?, Code.isFrame, Code.guards, Code.weight, Code.frames, Code.isCreation, Code.isGuard, Code.isCaller, Code.cUnits]; cases fr <;> rfl)
/-- between two turns: what stood stands -/
structure Nap (s s' : Shared) : Prop where
  os : s'.os = s.os
  bare : AllBare s'.gens
  size : s.gens.size ≤ s'.gens.size
  keep : ∀ b o, s.heap.get? b = some o → s'.heap.get? b = some o
theorem inv_nap {X : Cx} {pins : List (Addr × Obj)} {σ : L2.St} {H : Hp} {s s' : Shared} (I : Inv X pins σ H s) (n : Nap s s') : Inv X pins σ H s' :=
  I.call' (ch := []) n.os (Un.kept n.keep) (I.hok.kept n.keep) n.bare fun b hb => absurd hb (by simp)
/-- what a turn begins with -/
structure AtTurn (G : Cx) (a : Addr) (ob : Obj) (g : Nat) (fp : List Addr) (tn : Nat → Heap → Prop) (σ : L2.St) (i : Nat) (H : Hp) (s : Shared) : Prop where
  inv : Inv G [(a, ob)] σ H s
  tn : tn i s.heap
  no : ∀ b ∈ fp, H b = none
  g : g < s.gens.size
/-- what a turn asks -/
def TurnW (J : It) (gg : TG) (tt : TT) (te : TE) (vs : List Nat) (σ : L2.St) (W : Nat → Nat → Hp → Prop) (Q : VK) (stop : Bool) : Prop := ∀ i m H, W i m H →
  (J.stop i H ∧ Q (.bl (!stop)) H) ∨ (J.go i H ∧ ∃ Nx : Hp → Prop, (∀ H', Nx H' → ∃ m', m' < m ∧ W (i + 1) m' H') ∧ ∀ x H', J.yld i H x H' → gg x (wipe σ vs) H' fun σ2 H2 => wipe σ2 vs = wipe σ vs ∧ tt σ2 H2 fun b H3 =>
    if b = true then te σ2 H3 fun y H4 => ∃ k, y = .bl k ∧ if k = stop then Q (.bl stop) H4 else Nx H4 else Nx H3)
/-- what is handed out, what is left at the end -/
def GnY (G : Cx) (a : Addr) (ob : Obj) (g : Nat) (fp : List Addr) (tn : Nat → Heap → Prop) (σ : L2.St) (W : Nat → Nat → Hp → Prop) (Q : VK) (stop : Bool) : Protocol := fun n _ v s kap =>
  (v = .bool stop ∧ ∃ σ' H', Inv G [(a, ob)] σ' H' s ∧ Q (.bl stop) H') ∨ (v = .bool (!stop) ∧ ∃ i m H', m < n ∧ AtTurn G a ob g fp tn σ i H' s ∧ W i m H' ∧ ∀ s', Nap s s' → kap (.send .none) s')
def GnR (G : Cx) (a : Addr) (ob : Obj) (σ : L2.St) (Q : VK) (stop : Bool) : GenEnd := fun _ _ r s => r = .ok .next ∧ ∃ H', Inv G [(a, ob)] σ H' s ∧ Q (.bl (!stop)) H'
theorem not_stop {k stop : Bool} (h : ¬ k = stop) : k = !stop := by
  cases k <;> cases stop <;> first | rfl | exact absurd rfl h
theorem gsz_thn {α : Type} {M : Model} {A : Around} {s : Shared} {t : Sem α} {Q Q' : α → Shared → Prop} {E : Value → Shared → Prop} {n : Nat} (hn : n ≤ s.gens.size) (h : wpAny M A t Q (fun _ _ => False) s) (k : ∀ a s', n ≤ s'.gens.size → Q a s' → Q' a s') : wpAny M A t Q' E s :=
  GenW.wpAny_gsz hn (wpAny_mono h (fun a s' q z => k a s' z q) fun _ _ z => False.elim z)
section
variable {G : Cx} {AS : Around} {elt tg iter : Expr} {ifs : List Expr} {scope : Scope} {pos : Pos} {it a : Addr} {ob : Obj} {g : Nat} {fp : List Addr} {tn : Nat → Heap → Prop} {J : It} {gg : TG} {tt : TT} {te : TE} {vs : List Nat} {σ : L2.St} {W : Nat → Nat → Hp → Prop} {Q : VK} {stop : Bool}
theorem seg_turns (ho : AS.deeper G.env = G.A) (hx : G.xe = fun _ _ => False) (hc : G.calm = true) (hpn : G.pn = []) (T : Turn G.prog G.w G.K tg J fp it tn) (hex : ∀ b ∈ fp, b ∈ G.ex) (hab : ∀ b ∈ fp, a ≠ b) (hco : G.env.scope.isCoroutine = false) (pg : PG G tg gg) (pt : PTs G ifs tt) (pe : PE G elt te)
    (turn : TurnW J gg tt te vs σ W Q stop) : ∀ (m n i : Nat) (H : Hp) (s₀ s : Shared), m < n → AtTurn G a ob g fp tn (wipe σ vs) i H s → W i m H →
      Seg (model G.prog G.w) AS (GnR G a ob (wipe σ vs) Q stop) (GnY G a ob g fp tn (wipe σ vs) W Q stop) n s₀ (.compLoop (.GeneratorExp elt [⟨tg, iter, ifs, 0⟩] scope pos) 0 (.ref it) .none G.env)
        ((model G.prog G.w).den (.compLoop (.GeneratorExp elt [⟨tg, iter, ifs, 0⟩] scope pos) 0 (.ref it) .none G.env)) [] s := by
  intro m
  induction m using Nat.strongRecOn with
  | ind m ih =>
    intro n i H s₀ s hmn at0 w
    have fpk : ∀ {σ' : L2.St} {H' : Hp} {s' : Shared}, Inv G [(a, ob)] σ' H' s' → (∀ b ∈ fp, H' b = none) → ∀ b ∈ fp, FpOk G [(a, ob)] H' b := fun {σ' H' s'} I' no b hb =>
      ⟨no b hb, (I'.ok.exf b (hex b hb)).1, I'.ok.exfs b (hex b hb), .inl (hex b hb), fun x c e => (I'.ok.exf b (hex b hb)).2 x c e, fun p hp => by
        rw [hpn] at hp
        rw [List.mem_singleton.mp (show p ∈ [(a, ob)] from hp)]
        exact hab b hb⟩
    show Seg _ AS _ _ _ s₀ _ ((compTurn (.GeneratorExp elt [⟨tg, iter, ifs, 0⟩] scope pos) 0 (.ref it) .none G.env).onRaise (leaving G.env)) [] s
    rw [compTurn_gen, Sem.onRaise_eq_wrap]
    refine seg_bind_wrap (wpAny_standAt ?_)
    rcases turn i m H w with ⟨st, q⟩ | ⟨go, Nx, hNx, step⟩
    · refine seg_bind_wrap ?_
      rw [over_gen, ho]
      have td := T.done G rfl rfl rfl hc i [(a, ob)] s (wipe σ vs) H (fun _ _ => False) at0.inv (fpk at0.inv at0.no) at0.tn st
      refine thnF td fun r s1 ⟨hr, I1⟩ => ?_
      subst hr
      exact seg_end (.ok .next) ⟨rfl, H, I1, q⟩
    · refine seg_bind_wrap ?_
      rw [over_gen, ho]
      have ti := T.item G rfl rfl rfl hc i [(a, ob)] s (wipe σ vs) H (fun _ _ => False) at0.inv (fpk at0.inv at0.no) at0.tn go
      refine gsz_thn (Nat.succ_le_of_lt at0.g) ti fun r s1 g1 ⟨u, hr, h1⟩ => ?_
      subst hr
      refine seg_bind_wrap ?_
      rw [over_gen, ho]
      refine gsz_thn g1 h1 fun _ s2 g2 ⟨x, H2, I2, r2, y2, t2, n2⟩ => ?_
      have I2' := I2.pinned (fpk I2 n2) (T.obj _ _ t2)
      refine seg_bind_wrap ?_
      rw [over_gen, ho]
      have pgr := pg.run _ s2 _ H2 x u _ I2' r2 (step x H2 y2)
      rw [hx] at pgr
      refine gsz_thn g2 pgr fun _ s3 g3 ⟨σ3, H3, I3, w3, q3⟩ => ?_
      refine seg_bind_wrap ?_
      rw [over_gen, ho]
      have ptr := pt.run _ s3 σ3 H3 _ I3 q3
      rw [hx] at ptr
      refine gsz_thn g3 ptr fun b s4 g4 ⟨H4, I4, q4⟩ => ?_
      -- the end of a turn that goes on
      have fin : ∀ {s' : Shared} {H' : Hp}, Inv G ([(a, ob)] ++ pinsAt fp s2.heap) σ3 H' s' → g + 1 ≤ s'.gens.size → AtTurn G a ob g fp tn (wipe σ vs) (i + 1) H' s' := fun {s' H'} I' gs => by
        have pin' : ∀ b ∈ fp, ∀ o, s2.heap.get? b = some o → s'.heap.get? b = some o ∧ H' b = none := fun b hb o e =>
          let z := I'.pin (b, o) (List.mem_append_right _ (List.mem_append_right _ (mem_pinsAt hb e)))
          ⟨z.1, z.2.1⟩
        have hl : (wipe σ vs).length = σ3.length := by rw [← w3, wipe_length]
        refine ⟨(I'.unpinned (pins := [(a, ob)])).weak hl (fun j v e => ?_), T.keep _ _ _ t2 fun b hb o e => (pin' b hb o e).1, fun b hb => ?_, gs⟩
        · rw [← w3] at e
          exact (wipe_some e).1
        · obtain ⟨o, e, _⟩ := T.obj _ _ t2 b hb
          exact (pin' b hb o e).2
      cases b with
      | false =>
        simp only [Bool.false_eq_true, if_false] at q4 ⊢
        obtain ⟨m', hm, w'⟩ := hNx _ q4
        exact seg_again rfl (ih m' hm n (i + 1) H4 s₀ s4 (by omega) (fin I4 g4) w')
      | true =>
        simp only [if_true] at q4 ⊢
        obtain ⟨n', rfl⟩ : ∃ n', n = n' + 1 := ⟨n - 1, by omega⟩
        have hy : ∀ v, yieldOut G.env v = yieldValue v := fun v => by simp only [yieldOut, hco, Bool.false_eq_true, if_false]
        simp only [hy]
        rw [Sem.bind_eq_wrap', Sem.bind_eq_wrap', Sem.wrap_wrap, Sem.wrap_wrap]
        refine seg_wrap ?_
        rw [over_gen, ho]
        have per := pe.run _ s4 σ3 H4 _ I4 q4
        rw [hx] at per
        refine gsz_thn g4 per fun v s5 g5 ⟨yv, H5, I5, r5, k, ek, q5⟩ => ?_
        subst ek
        obtain rfl : v = .bool k := r5
        refine seg_at (seg_yield rfl rfl rfl ?_)
        by_cases hk : k = stop
        · rw [if_pos hk] at q5
          exact .inl ⟨by rw [hk], σ3, H5, I5.unpinned (pins := [(a, ob)]), q5⟩
        · rw [if_neg hk] at q5
          obtain ⟨m', hm, w'⟩ := hNx _ q5
          refine .inr ⟨congrArg Value.bool (not_stop hk), i + 1, m', H5, by omega, fin I5 g5, w', fun s'' nap => ?_⟩
          have f5 := fin I5 g5
          exact seg_again rfl (ih m' hm n' (i + 1) H5 s'' s'' (by omega) ⟨inv_nap f5.inv nap, T.keep _ _ _ f5.tn fun b _ o e => nap.keep b o e, f5.no, Nat.lt_of_lt_of_le f5.g nap.size⟩ w')
end

section
variable {G : Cx} {AS : Around} {elt tg iter : Expr} {ifs : List Expr} {scope : Scope} {pos : Pos} {it a : Addr} {ob : Obj} {g : Nat} {fp : List Addr} {tn : Nat → Heap → Prop} {J : It} {gg : TG} {tt : TT} {te : TE} {vs : List Nat} {σ : L2.St} {W : Nat → Nat → Hp → Prop} {Q : VK} {stop : Bool}
theorem seg_begin (ho : AS.deeper G.env = G.A) (hx : G.xe = fun _ _ => False) (hc : G.calm = true) (hpn : G.pn = []) (T : Turn G.prog G.w G.K tg J fp it tn) (hex : ∀ b ∈ fp, b ∈ G.ex) (hab : ∀ b ∈ fp, a ≠ b) (hco : G.env.scope.isCoroutine = false) (pg : PG G tg gg) (pt : PTs G ifs tt) (pe : PE G elt te)
    (turn : TurnW J gg tt te vs σ W Q stop) (m n : Nat) (H : Hp) (s₀ s : Shared) (hmn : m < n) (at0 : AtTurn G a ob g fp tn (wipe σ vs) 0 H s) (w : W 0 m H) :
      Seg (model G.prog G.w) AS (GnR G a ob (wipe σ vs) Q stop) (GnY G a ob g fp tn (wipe σ vs) W Q stop) n s₀ (.compStart (.GeneratorExp elt [⟨tg, iter, ifs, 0⟩] scope pos) 0 (.ref it) .none G.env)
        ((model G.prog G.w).den (.compStart (.GeneratorExp elt [⟨tg, iter, ifs, 0⟩] scope pos) 0 (.ref it) .none G.env)) [] s := by
  have loop := seg_turns (iter := iter) (scope := scope) (pos := pos) ho hx hc hpn T hex hab hco pg pt pe turn m n 0 H s₀ s hmn at0 w
  show Seg _ AS _ _ _ s₀ _ ((compStart (.GeneratorExp elt [⟨tg, iter, ifs, 0⟩] scope pos) 0 (.ref it) .none G.env).onRaise (leaving G.env)) [] s
  unfold compStart
  rw [Sem.onRaise_eq_wrap]
  show Seg _ AS _ _ _ s₀ _ ((ask >>= _).wrap _ _ _ _) [] s
  refine seg_bind_wrap (wpAny_askSetting ?_)
  split
  · exact seg_again rfl loop
  · first
      | exact seg_bind_wrap (wpAny_rule (seg_bind_wrap (wpAny_standAt (seg_bind_wrap (T.self _ 0 s _ _ at0.tn (seg_again rfl loop))))))
      | (refine seg_bind_wrap (wpAny_rule ?_); show Seg _ AS _ _ _ s₀ _ ((standAt iter.pos >>= _).wrap _ _ _ _) [] s; exact seg_bind_wrap (wpAny_standAt (seg_bind_wrap (T.self _ 0 s _ _ at0.tn (seg_again rfl loop)))))
/-- the generator at a, to be asked at most n times more -/
structure Rdy (M : Model) (AS : Around) (R : GenEnd) (Y : Protocol) (a : Addr) (ob : Obj) (g n : Nat) (s : Shared) : Prop where
  at' : s.heap.get? a = some ob
  lim : s.heap.NoLimit
  st : ∃ gs, s.gens[g]? = some gs ∧ ∀ s', Nap s s' → gs.Goes M AS R Y n (.send .none) s'
theorem nap_trans {s s1 s2 : Shared} (x : Nap s s1) (y : Nap s1 s2) : Nap s s2 := ⟨y.os.trans x.os, y.bare, Nat.le_trans x.size y.size, fun b o e => y.keep b o (x.keep b o e)⟩
theorem nap_gen {s : Shared} {g : Nat} {gs : GenState} (hb : AllBare s.gens) (h : gs.bare = true) : Nap s (s.setGen g gs) := by
  refine ⟨rfl, ?_, by simp [Shared.setGen], fun b o e => e⟩
  intro y hy
  obtain ⟨i, hi, rfl⟩ := Array.mem_iff_getElem.mp hy
  have hi' : i < s.gens.size := by simpa [Shared.setGen] using hi
  by_cases e : g = i
  · subst e
    have : (s.setGen g gs).gens[g] = gs := by simp [Shared.setGen]
    rw [this]
    exact h
  · have q : (s.setGen g gs).gens[i]? = some s.gens[i] := by
      show (s.gens.setIfInBounds g gs)[i]? = _
      rw [Array.getElem?_setIfInBounds_ne e, Array.getElem?_eq_getElem hi']
    rw [Array.getElem?_eq_getElem hi] at q
    rw [Option.some.inj q]
    exact hb _ (Array.getElem_mem hi')
theorem set_self {s : Shared} {g : Nat} {gs : GenState} (h : g < s.gens.size) : (s.setGen g gs).gens[g]? = some gs := by
  simp [Shared.setGen, h]
/-- all( .. ): the walk over the generator -/
theorem all_turns {A : Around} {Rr : Result → Shared → Prop} (hh : A.handled = none) (hroom : A.depth < recursionLimit) (hg : ∀ h : Heap, h.get? a = some ob → h.IsGen a g)
    (fin : ∀ b s' σ' H', Inv G [(a, ob)] σ' H' s' → Q (.bl b) H' → Rr (.ok (.ret (.bool b))) s') : ∀ (n : Nat) (s : Shared), AllBare s.gens →
      Rdy (model G.prog G.w) A.in1.in1 (GnR G a ob (wipe σ vs) Q false) (GnY G a ob g fp tn (wipe σ vs) W Q false) a ob g n s → codeAny (model G.prog G.w) A (.builtin "all.loop" ⟨[.ref a], []⟩) Rr s := by
  intro n
  induction n with
  | zero =>
    intro s hb rdy
    obtain ⟨gs, hgs, hgo⟩ := rdy.st
    refine codeAny_builtin F.entry_all_loop ?_
    rw [Around.under_plainId F.plain_all_loop _]
    show wpAny _ A.in1 (pyNext (.ref a) >>= _) _ _ s
    refine wpAny_bind (wpAny_pyNext_genexpQ (A := A.in1) (P := fun _ _ s₁ => ∃ H', Inv G [(a, ob)] (wipe σ vs) H' s₁ ∧ Q (.bl (!false)) H') (Y := GnY G a ob g fp tn (wipe σ vs) W Q false) (n := 0) hh rdy.lim hroom (hg _ rdy.at') hgs (hgo _ (nap_gen hb rfl)) (fun v s₁ gs' hb' hv => ?_) fun s₁ hp h' hk => ?_)
    · rcases hv with ⟨rfl, σ', H', I', q'⟩ | ⟨_, i, m, H', hm, _⟩
      · refine wpAny_bind (wpAny_holding (wpAny_truthy_bool ?_))
        refine wpAny_bind (wpAny_letGo ?_)
        simp only [Bool.false_eq_true, if_false]
        refine wpAny_bind (wpAny_rule (wpAny_pure ?_))
        exact fin false _ σ' H' (inv_nap I' (nap_gen I'.bare hb')) q'
      · exact absurd hm (Nat.not_lt_zero _)
    · obtain ⟨H', I', q'⟩ := hp
      refine wpAny_bind (wpAny_rule (wpAny_pure ?_))
      exact fin true _ _ H' (inv_nap I' (nap_trans (nap_gen (gs := .finished) I'.bare rfl) ⟨rfl, (nap_gen (gs := .finished) I'.bare rfl).bare, Nat.le_refl _, hk⟩)) q'
  | succ n ih =>
    intro s hb rdy
    obtain ⟨gs, hgs, hgo⟩ := rdy.st
    refine codeAny_builtin F.entry_all_loop ?_
    rw [Around.under_plainId F.plain_all_loop _]
    show wpAny _ A.in1 (pyNext (.ref a) >>= _) _ _ s
    refine wpAny_bind (wpAny_pyNext_genexpQ (A := A.in1) (P := fun _ _ s₁ => ∃ H', Inv G [(a, ob)] (wipe σ vs) H' s₁ ∧ Q (.bl (!false)) H') (Y := GnY G a ob g fp tn (wipe σ vs) W Q false) (n := n + 1) hh rdy.lim hroom (hg _ rdy.at') hgs (hgo _ (nap_gen hb rfl)) (fun v s₁ gs' hb' hv => ?_) fun s₁ hp h' hk => ?_)
    · rcases hv with ⟨rfl, σ', H', I', q'⟩ | ⟨rfl, i, m, H', hm, at1, w1, kap⟩
      · refine wpAny_bind (wpAny_holding (wpAny_truthy_bool ?_))
        refine wpAny_bind (wpAny_letGo ?_)
        simp only [Bool.false_eq_true, if_false]
        refine wpAny_bind (wpAny_rule (wpAny_pure ?_))
        exact fin false _ σ' H' (inv_nap I' (nap_gen I'.bare hb')) q'
      · refine wpAny_bind (wpAny_holding (wpAny_truthy_bool ?_))
        refine wpAny_bind (wpAny_letGo ?_)
        simp only [Bool.not_false, if_true]
        have n1 := nap_gen (g := g) at1.inv.bare hb'
        have J1 := inv_nap at1.inv n1
        refine wpAny_pure ⟨plainId_quiet F.plain_all_loop _, ih _ n1.bare ⟨(J1.pin (a, ob) (List.mem_append_right _ List.mem_cons_self)).1, J1.nolimit, gs', set_self at1.g, fun s' nap => kap s' (nap_trans n1 nap)⟩⟩
    · obtain ⟨H', I', q'⟩ := hp
      refine wpAny_bind (wpAny_rule (wpAny_pure ?_))
      exact fin true _ _ H' (inv_nap I' (nap_trans (nap_gen (gs := .finished) I'.bare rfl) ⟨rfl, (nap_gen (gs := .finished) I'.bare rfl).bare, Nat.le_refl _, hk⟩)) q'
/-- any( .. ): the walk over the generator -/
theorem any_turns {A : Around} {Rr : Result → Shared → Prop} (hh : A.handled = none) (hroom : A.depth < recursionLimit) (hg : ∀ h : Heap, h.get? a = some ob → h.IsGen a g)
    (fin : ∀ b s' σ' H', Inv G [(a, ob)] σ' H' s' → Q (.bl b) H' → Rr (.ok (.ret (.bool b))) s') : ∀ (n : Nat) (s : Shared), AllBare s.gens →
      Rdy (model G.prog G.w) A.in1.in1 (GnR G a ob (wipe σ vs) Q true) (GnY G a ob g fp tn (wipe σ vs) W Q true) a ob g n s → codeAny (model G.prog G.w) A (.builtin "any.loop" ⟨[.ref a], []⟩) Rr s := by
  intro n
  induction n with
  | zero =>
    intro s hb rdy
    obtain ⟨gs, hgs, hgo⟩ := rdy.st
    refine codeAny_builtin F.entry_any_loop ?_
    rw [Around.under_plainId F.plain_any_loop _]
    show wpAny _ A.in1 (pyNext (.ref a) >>= _) _ _ s
    refine wpAny_bind (wpAny_pyNext_genexpQ (A := A.in1) (P := fun _ _ s₁ => ∃ H', Inv G [(a, ob)] (wipe σ vs) H' s₁ ∧ Q (.bl (!true)) H') (Y := GnY G a ob g fp tn (wipe σ vs) W Q true) (n := 0) hh rdy.lim hroom (hg _ rdy.at') hgs (hgo _ (nap_gen hb rfl)) (fun v s₁ gs' hb' hv => ?_) fun s₁ hp h' hk => ?_)
    · rcases hv with ⟨rfl, σ', H', I', q'⟩ | ⟨_, i, m, H', hm, _⟩
      · refine wpAny_bind (wpAny_holding (wpAny_truthy_bool ?_))
        refine wpAny_bind (wpAny_letGo ?_)
        simp only [if_true]
        refine wpAny_bind (wpAny_rule (wpAny_pure ?_))
        exact fin true _ σ' H' (inv_nap I' (nap_gen I'.bare hb')) q'
      · exact absurd hm (Nat.not_lt_zero _)
    · obtain ⟨H', I', q'⟩ := hp
      refine wpAny_bind (wpAny_rule (wpAny_pure ?_))
      exact fin false _ _ H' (inv_nap I' (nap_trans (nap_gen (gs := .finished) I'.bare rfl) ⟨rfl, (nap_gen (gs := .finished) I'.bare rfl).bare, Nat.le_refl _, hk⟩)) q'
  | succ n ih =>
    intro s hb rdy
    obtain ⟨gs, hgs, hgo⟩ := rdy.st
    refine codeAny_builtin F.entry_any_loop ?_
    rw [Around.under_plainId F.plain_any_loop _]
    show wpAny _ A.in1 (pyNext (.ref a) >>= _) _ _ s
    refine wpAny_bind (wpAny_pyNext_genexpQ (A := A.in1) (P := fun _ _ s₁ => ∃ H', Inv G [(a, ob)] (wipe σ vs) H' s₁ ∧ Q (.bl (!true)) H') (Y := GnY G a ob g fp tn (wipe σ vs) W Q true) (n := n + 1) hh rdy.lim hroom (hg _ rdy.at') hgs (hgo _ (nap_gen hb rfl)) (fun v s₁ gs' hb' hv => ?_) fun s₁ hp h' hk => ?_)
    · rcases hv with ⟨rfl, σ', H', I', q'⟩ | ⟨rfl, i, m, H', hm, at1, w1, kap⟩
      · refine wpAny_bind (wpAny_holding (wpAny_truthy_bool ?_))
        refine wpAny_bind (wpAny_letGo ?_)
        simp only [if_true]
        refine wpAny_bind (wpAny_rule (wpAny_pure ?_))
        exact fin true _ σ' H' (inv_nap I' (nap_gen I'.bare hb')) q'
      · refine wpAny_bind (wpAny_holding (wpAny_truthy_bool ?_))
        refine wpAny_bind (wpAny_letGo ?_)
        simp only [Bool.not_true, Bool.false_eq_true, if_false]
        have n1 := nap_gen (g := g) at1.inv.bare hb'
        have J1 := inv_nap at1.inv n1
        refine wpAny_pure ⟨plainId_quiet F.plain_any_loop _, ih _ n1.bare ⟨(J1.pin (a, ob) (List.mem_append_right _ List.mem_cons_self)).1, J1.nolimit, gs', set_self at1.g, fun s' nap => kap s' (nap_trans n1 nap)⟩⟩
    · obtain ⟨H', I', q'⟩ := hp
      refine wpAny_bind (wpAny_rule (wpAny_pure ?_))
      exact fin false _ _ H' (inv_nap I' (nap_trans (nap_gen (gs := .finished) I'.bare rfl) ⟨rfl, (nap_gen (gs := .finished) I'.bare rfl).bare, Nat.le_refl _, hk⟩)) q'
end

/-- all(elt for tg in iter if ..) (stop: false), any(..) (stop: true) -/
def tGen (P : Addr) (wi : TI) (gg : TG) (tt : TT) (te : TE) (vs : List Nat) (stop : Bool) : TE := fun σ H Q => wi σ H fun J H1 => GxR.TabG H1 P ∧ ∀ H2, GxR.Tabbed P H1 H2 → ∃ W : Nat → Nat → Hp → Prop, (∃ m, W 0 m H2) ∧ TurnW J gg tt te vs σ W Q stop
theorem rm_gen {k : Nat} {A : Around} {env : Env} (hr : Rm (k + 1) A) : Rm k (A.in1.in1.deeper env) :=
  ⟨⟨hr.rm.hd, by have := hr.rm.dp; show A.depth + 1 + 3 * k + 5 < _; omega, by have := hr.rm.un; show A.units + 1 + 1 + 3 + 16 * k + 200 < _; omega⟩, hr.gd⟩
theorem frames_gen {A : Around} {env : Env} {l : List Env} (h : A.frames = some l) : (A.in1.in1.deeper env).frames = some (env :: l) := by
  show Option.map _ A.frames = _
  rw [h]
  rfl
section
variable {X : Cx} {pins : List (Addr × Obj)} {σ : L2.St} {H : Hp} {s : Shared}
theorem gen_eval {c P : Addr} {elt tg iter : Expr} {ifs : List Expr} {gpos : Pos} {scope : Scope} {own : List (Str × Nat)} {wi : TI} {gg : TG} {tt : TT} {te : TE} {k : Nat} {stop : Bool} {Q : VK} {Q' : Value → Shared → Prop}
    (hr : Rm (k + 1) X.A) (TB : GxR.TabB X.base X.mg c P) (hcode : X.env.code = .ref c) (hc : X.calm = true) (hN : X.N.Nodup) (ok : GenOk X.N X.env.scope scope own) (hi : PI X tg iter wi)
    (hg : ∀ (s : Shared) (H : Hp) (C : Addr) (cd : Value) (A : Around) (fp : List Addr), Rm k A → PG (gx X s H (gEnv X scope C cd) A fp) tg gg)
    (ht : ∀ (s : Shared) (H : Hp) (C : Addr) (cd : Value) (A : Around) (fp : List Addr), Rm k A → PTs (gx X s H (gEnv X scope C cd) A fp) ifs tt)
    (he : ∀ (s : Shared) (H : Hp) (C : Addr) (cd : Value) (A : Around) (fp : List Addr), Rm k A → PE (gx X s H (gEnv X scope C cd) A fp) elt te)
    (hs : ∀ x, genFold iter X.env x = pure x) (I : Inv X pins σ H s) (h : tGen P wi gg tt te (own.map (·.2)) stop σ H Q)
    (hQ : ∀ (G : Cx) (a : Addr) (ob : Obj) (g n : Nat) (fp : List Addr) (tn : Nat → Heap → Prop) (W : Nat → Nat → Hp → Prop) (s5 : Shared), (∀ h : Heap, h.get? a = some ob → h.IsGen a g) → AllBare s5.gens →
      Rdy (model X.prog X.w) X.A.in1.in1 (GnR G a ob (wipe σ (own.map (·.2))) Q stop) (GnY G a ob g fp tn (wipe σ (own.map (·.2))) W Q stop) a ob g n s5 → G.prog = X.prog → G.w = X.w →
      (∀ σ' H' s', Inv G [(a, ob)] σ' H' s' → Inv X pins σ H' s') → Q' (.ref a) s5) :
    wpAny (model X.prog X.w) X.A (eval (.GeneratorExp elt [⟨tg, iter, ifs, 0⟩] scope gpos) X.env) Q' X.xe s := by
  refine wpAny_GeneratorExp_make ok.co (closure_ok (gen_free I ok)) ok.noc ok.dot ok.b.kind (by have := hr.rm.dp; omega) ?_ hs
  refine thn (hi.run pins s σ H _ I h) fun xv s1 h1 => thn h1 fun itv s2 h2 => ?_
  obtain ⟨it, fp, tn, J, H2, e, I2, T, st2, f2, ⟨ps, hP, tr⟩, q⟩ := h2
  subst e
  have hPs : s2.heap.get? P = some { cls := .none, data := .fields ps } := I2.hok P _ hP
  have cd2 : PySem.W.CodeHd s2.heap c P := TB.code.keeps fun b u e => I2.bk b u e
  have cont : ∀ (code : Value) (h3 : Heap) (tk : Nat) (more : Array Value), Heap.ExtBut P s2.heap h3 → s2.heap.objs.size ≤ h3.objs.size → h3.get? P = some { cls := .none, data := .fields (ps ++ more) } → TriplesOk (ps ++ more).toList →
      wpAny (model X.prog X.w) X.A (builtinsFor X.env.globals X.env.builtins) (fun bi s₄ => ∀ h', h'.Ns s₄.heap.objs.size (fun y => if y = ".0" then some (.ref it) else none) → Heap.SameBut s₄.heap.objs.size (s₄.heap.push { cls := .type "frame", data := .dict #[] }) h' →
          Q' (.ref h'.objs.size) { s₄ with
            gens := s₄.gens.push (.fresh (.compStart (.GeneratorExp elt [⟨tg, iter, ifs, 0⟩] scope gpos) 0 (.ref it) .none (genEnv scope (cloFrom X.env.cells scope.names []) s₄.heap.objs.size code bi X.env))),
            toks := s₄.toks + 1 + 1 + 1,
            heap := h'.push { cls := .type "generator", data := .fields #[.int s₄.gens.size 0, .str "<genexpr>" (s₄.toks + 1), .str (X.env.qual ++ "<genexpr>") (s₄.toks + 1 + 1)] } }) X.xe { s2 with heap := h3, toks := tk } := by
    intro code h3 tk more hx hsz hP3 tr3
    obtain ⟨bm, ob0, e1, e2, e3, e4, e5, e6, e7, e8⟩ := TB.bm
    have kp : ∀ b u, b ≠ P → s2.heap.get? b = some u → h3.get? b = some u := fun b u hb e => hx b u hb e
    refine wpAny_builtinsFor (m := X.mg) (by rw [I2.ok.glob]; exact (I2.mod.glob.keeps I2.bk).extBut hx TB.gP) e1 e2 (kp _ _ e4 (I2.bk _ _ e5)) e6 e7 e8 ?_
    intro h' hn' hs'
    have I3 : Inv X pins σ (upd H2 P (.tbl (ps ++ more))) { s2 with heap := h3, gens := s2.gens, drawn := s2.drawn, toks := tk } := GxR.inv_tab I2 hP kp hP3 I2.bare
    have hH3 : GxR.Tabbed P H2 (upd H2 P (.tbl (ps ++ more))) := ⟨⟨ps ++ more, upd_same, tr3⟩, fun b hb => upd_ne hb⟩
    obtain ⟨W, ⟨m0, w0⟩, turn⟩ := q _ hH3
    generalize upd H2 P (.tbl (ps ++ more)) = H3 at I3 hH3 w0
    have nP : ∀ b, H2 b = none → b ≠ P := fun b e z => by rw [z, hP] at e; cases e
    have f3 : ∀ b ∈ fp, FpOk X pins H3 b ∧ b < h3.objs.size := fun b hb => by
      obtain ⟨o, eo, _⟩ := T.obj _ _ st2 b hb
      refine ⟨⟨?_, (f2 b hb).2⟩, Nat.lt_of_lt_of_le (Heap.lt_size eo) hsz⟩
      rw [hH3.2 b (nP b (f2 b hb).1)]
      exact (f2 b hb).1
    have st3 : tn 0 h3 := T.keep _ _ _ st2 fun b hb o e => kp b o (nP b (f2 b hb).1) e
    show Q' (.ref h'.objs.size) _
    generalize hob : ({ cls := .type "generator", data := .fields #[.int s2.gens.size 0, .str "<genexpr>" (tk + 1), .str (X.env.qual ++ "<genexpr>") (tk + 1 + 1)] } : Obj) = ob
    have hsz' : h'.objs.size = h3.objs.size + 1 := by rw [hs'.1, Heap.size_push]
    have keep' : ∀ b o, h3.get? b = some o → h'.get? b = some o := fun b o e => hs'.extBut b o (Nat.ne_of_lt (Heap.lt_size e)) (Heap.get?_push_of_some _ e)
    have keep5 : ∀ b o, h3.get? b = some o → (h'.push ob).get? b = some o := fun b o e => Heap.get?_push_of_some _ (keep' b o e)
    generalize hcode5 : Code.compStart (.GeneratorExp elt [⟨tg, iter, ifs, 0⟩] scope gpos) 0 (.ref it) .none (gEnv X scope h3.objs.size code) = cs
    generalize hz : ({ s2 with heap := h'.push ob, gens := s2.gens.push (.fresh cs), toks := tk + 1 + 1 + 1 } : Shared) = z
    have zh : z.heap = h'.push ob := by rw [← hz]
    have zg : z.gens = s2.gens.push (.fresh cs) := by rw [← hz]
    have zo : z.os = s2.os := by rw [← hz]
    have zb : AllBare z.gens := by rw [zg]; exact I2.bare.push rfl
    have I4 := gen_start (code := code) (A := X.A.in1.in1.deeper (gEnv X scope h3.objs.size code)) (z := z) I3 ok hN f3 hr.rm.hd (frames_gen I3.ok.frames) zo zb (fun b o e => by rw [zh]; exact keep5 b o e) (by rw [zh]; exact hn'.push _)
    have ha : z.heap.get? h'.objs.size = some ob := by rw [zh]; exact Heap.get?_push_size _ (by rw [← hob]; rfl)
    have hna : H3 h'.objs.size = none := I3.hok.fresh (by show h3.objs.size ≤ _; omega)
    have I5 : Inv (gx X { s2 with heap := h3, gens := s2.gens, drawn := s2.drawn, toks := tk } H3 (gEnv X scope h3.objs.size code) (X.A.in1.in1.deeper (gEnv X scope h3.objs.size code)) fp) [(h'.objs.size, ob)] (wipe σ (own.map (·.2))) H3 z := I4.pins_of fun p hp => by
      rw [List.mem_singleton.mp hp]
      refine ⟨ha, hna, ?_, fun hf => ?_, fun v e => ?_⟩
      · show h'.objs.size ≠ h3.objs.size
        omega
      · rcases List.mem_cons.mp (I3.stkSub _ hf) with e | e
        · have := I3.lt
          have e : h'.objs.size = X.env.locals := e
          have this : X.env.locals < h3.objs.size := this
          have : h3.objs.size < h'.objs.size := by omega
          rw [e] at this
          exact absurd (Nat.lt_trans this ‹X.env.locals < h3.objs.size›) (Nat.lt_irrefl _)
        · exact I3.nofs (show h3.objs.size ≤ h'.objs.size by omega) e
      · rw [← hob] at e
        cases e
    have hgen : ∀ h : Heap, h.get? h'.objs.size = some ob → h.IsGen h'.objs.size s2.gens.size := fun h e => by
      subst hob
      exact ⟨_, _, _, e, rfl, rfl, rfl⟩
    have nsz : s2.gens.size < z.gens.size := by rw [zg, Array.size_push]; exact Nat.lt_succ_self _
    have back : ∀ (σ' : L2.St) (H' : Hp) (s' : Shared), Inv (gx X { s2 with heap := h3, gens := s2.gens, drawn := s2.drawn, toks := tk } H3 (gEnv X scope h3.objs.size code) (X.A.in1.in1.deeper (gEnv X scope h3.objs.size code)) fp) [(h'.objs.size, ob)] σ' H' s' → Inv X pins σ H' s' := fun σ' H' s' I' =>
      I3.call' (ch := fp) I'.os I'.base I'.hok I'.bare fun b hb => ⟨(f3 b hb).1.2.2.2.1, (f3 b hb).1.2.1, (f3 b hb).1.2.2.2.2.1, (f3 b hb).1.2.2.2.2.2⟩
    have pg := hg { s2 with heap := h3, gens := s2.gens, drawn := s2.drawn, toks := tk } H3 h3.objs.size code _ fp (rm_gen (env := gEnv X scope h3.objs.size code) hr)
    have pt := ht { s2 with heap := h3, gens := s2.gens, drawn := s2.drawn, toks := tk } H3 h3.objs.size code _ fp (rm_gen (env := gEnv X scope h3.objs.size code) hr)
    have pe := he { s2 with heap := h3, gens := s2.gens, drawn := s2.drawn, toks := tk } H3 h3.objs.size code _ fp (rm_gen (env := gEnv X scope h3.objs.size code) hr)
    have start : ∀ s', Nap z s' → (GenState.fresh cs).Goes (model X.prog X.w) X.A.in1.in1 (GnR (gx X { s2 with heap := h3, gens := s2.gens, drawn := s2.drawn, toks := tk } H3 (gEnv X scope h3.objs.size code) (X.A.in1.in1.deeper (gEnv X scope h3.objs.size code)) fp) h'.objs.size ob (wipe σ (own.map (·.2))) Q stop)
        (GnY (gx X { s2 with heap := h3, gens := s2.gens, drawn := s2.drawn, toks := tk } H3 (gEnv X scope h3.objs.size code) (X.A.in1.in1.deeper (gEnv X scope h3.objs.size code)) fp) h'.objs.size ob s2.gens.size fp tn (wipe σ (own.map (·.2))) W Q stop) (m0 + 1) (.send .none) s' := fun s' nap => by
      refine ⟨rfl, ?_⟩
      rw [← hcode5]
      exact seg_begin (G := gx X { s2 with heap := h3, gens := s2.gens, drawn := s2.drawn, toks := tk } H3 (gEnv X scope h3.objs.size code) (X.A.in1.in1.deeper (gEnv X scope h3.objs.size code)) fp) (AS := X.A.in1.in1) (iter := iter) (scope := scope) (pos := gpos) rfl rfl hc rfl T (fun b hb => hb) (fun b hb z => absurd (f3 b hb).2 (by rw [← z]; exact Nat.not_lt.mpr (by rw [hsz']; exact Nat.le_succ _))) ok.co pg pt pe turn m0 (m0 + 1) H3 s' s' (Nat.lt_succ_self _)
        ⟨inv_nap I5 nap, T.keep _ _ _ st3 fun b _ o e => nap.keep b o (by rw [zh]; exact keep5 b o e), fun b hb => (f3 b hb).1.1, Nat.lt_of_lt_of_le nsz nap.size⟩ w0
    exact hQ _ h'.objs.size ob s2.gens.size (m0 + 1) fp tn W z hgen zb ⟨ha, I5.nolimit, _, by rw [zg]; exact Array.getElem?_push_size .., start⟩ rfl rfl back
  refine ⟨I2.nolimit, ?_⟩
  cases hf : codeAmong gpos ps.toList with
  | none =>
    refine wpAny_genexprCodeX hcode (cd2.code hPs tr) (cd2.tab hPs) hf fun c' h' tk hx hge hlt hco' _ htab' _ => ?_
    obtain ⟨o1, vs', f1, tf, fl, tg', inF, tx, tt', op, _, _, _, _, _, _, _, _, _, htr, _⟩ := hco'
    exact cont _ h' tk _ hx (Nat.le_trans hge (Nat.le_of_lt hlt)) htab'.2 htr
  | some cv =>
    refine wpAny_genexprCode_hit hcode (cd2.code hPs tr) hf ?_
    exact cont cv s2.heap s2.toks #[] (Heap.ExtBut.refl _ _) (Nat.le_refl _) (by simpa using hPs) (by simpa using tr)
theorem pe_allG {c P : Addr} {elt tg iter : Expr} {ifs : List Expr} {p pos gpos : Pos} {scope : Scope} {own : List (Str × Nat)} {wi : TI} {gg : TG} {tt : TT} {te : TE} {k : Nat}
    (hr : Rm (k + 1) X.A) (TB : GxR.TabB X.base X.mg c P) (hcode : X.env.code = .ref c) (hc : X.calm = true) (hN : X.N.Nodup) (ok : GenOk X.N X.env.scope scope own) (hn : Gl X "all") (hm : X.mg "all" = none) (hi : PI X tg iter wi)
    (hg : ∀ (s : Shared) (H : Hp) (C : Addr) (cd : Value) (A : Around) (fp : List Addr), Rm k A → PG (gx X s H (gEnv X scope C cd) A fp) tg gg)
    (ht : ∀ (s : Shared) (H : Hp) (C : Addr) (cd : Value) (A : Around) (fp : List Addr), Rm k A → PTs (gx X s H (gEnv X scope C cd) A fp) ifs tt)
    (he : ∀ (s : Shared) (H : Hp) (C : Addr) (cd : Value) (A : Around) (fp : List Addr), Rm k A → PE (gx X s H (gEnv X scope C cd) A fp) elt te)
    (hs : ∀ x, genFold iter X.env x = pure x := by intro _; rfl) (hb : bootBuiltins "all" = some (.builtin "all") := by decide +kernel)
    (hst : starEach [.GeneratorExp elt [⟨tg, iter, ifs, 0⟩] scope gpos] X.env = (false, eval (.GeneratorExp elt [⟨tg, iter, ifs, 0⟩] scope gpos) X.env) :: starEach [] X.env := by rfl) :
    PE X (.Call (.Name "all" p) [.GeneratorExp elt [⟨tg, iter, ifs, 0⟩] scope gpos] [] pos) (tGen P wi gg tt te (own.map (·.2)) false) := by
  refine ⟨fun pins s σ H Q I h => ?_⟩
  refine wpAny_Call_Name_kw (ld_blt I hn hm hb ?_)
  refine PyProof.Rows.callWith_builtin1 ?_ hst (by rfl)
  rw [hst]
  show wpAny _ _ (spliced ((false, eval (.GeneratorExp elt [⟨tg, iter, ifs, 0⟩] scope gpos) X.env) :: backTo pos (starEach [] X.env))) _ _ s
  refine Calls.spliced_cons (gen_eval hr TB hcode hc hN ok hi hg ht he hs I h fun G a ob g n fp tn W s5 hgen hb5 rdy ep ew back => ?_)
  refine Calls.spliced_nil ?_
  refine call_function_tree F.kind_all F.plain_all F.entry_all (F.args_all1 _) ?_
  unfold Builtin.«all»
  refine wpAny_bind (m := oneArg "all" _) (wpAny_pure ?_)
  refine wpAny_bind (wpAny_pyIter_gen (hgen _ rdy.at') ?_)
  refine wpAny_pure ⟨plainId_quiet F.plain_all_loop _, ?_⟩
  rw [← ep, ← ew] at rdy ⊢
  exact all_turns hr.rm.hd (by have := hr.rm.dp; omega) hgen (fun b s' σ' H' I' q => ⟨.bl b, H', back σ' H' s' I', rfl, q⟩) n s5 hb5 rdy
theorem pe_anyG {c P : Addr} {elt tg iter : Expr} {ifs : List Expr} {p pos gpos : Pos} {scope : Scope} {own : List (Str × Nat)} {wi : TI} {gg : TG} {tt : TT} {te : TE} {k : Nat}
    (hr : Rm (k + 1) X.A) (TB : GxR.TabB X.base X.mg c P) (hcode : X.env.code = .ref c) (hc : X.calm = true) (hN : X.N.Nodup) (ok : GenOk X.N X.env.scope scope own) (hn : Gl X "any") (hm : X.mg "any" = none) (hi : PI X tg iter wi)
    (hg : ∀ (s : Shared) (H : Hp) (C : Addr) (cd : Value) (A : Around) (fp : List Addr), Rm k A → PG (gx X s H (gEnv X scope C cd) A fp) tg gg)
    (ht : ∀ (s : Shared) (H : Hp) (C : Addr) (cd : Value) (A : Around) (fp : List Addr), Rm k A → PTs (gx X s H (gEnv X scope C cd) A fp) ifs tt)
    (he : ∀ (s : Shared) (H : Hp) (C : Addr) (cd : Value) (A : Around) (fp : List Addr), Rm k A → PE (gx X s H (gEnv X scope C cd) A fp) elt te)
    (hs : ∀ x, genFold iter X.env x = pure x := by intro _; rfl) (hb : bootBuiltins "any" = some (.builtin "any") := by decide +kernel)
    (hst : starEach [.GeneratorExp elt [⟨tg, iter, ifs, 0⟩] scope gpos] X.env = (false, eval (.GeneratorExp elt [⟨tg, iter, ifs, 0⟩] scope gpos) X.env) :: starEach [] X.env := by rfl) :
    PE X (.Call (.Name "any" p) [.GeneratorExp elt [⟨tg, iter, ifs, 0⟩] scope gpos] [] pos) (tGen P wi gg tt te (own.map (·.2)) true) := by
  refine ⟨fun pins s σ H Q I h => ?_⟩
  refine wpAny_Call_Name_kw (ld_blt I hn hm hb ?_)
  refine PyProof.Rows.callWith_builtin1 ?_ hst (by rfl)
  rw [hst]
  show wpAny _ _ (spliced ((false, eval (.GeneratorExp elt [⟨tg, iter, ifs, 0⟩] scope gpos) X.env) :: backTo pos (starEach [] X.env))) _ _ s
  refine Calls.spliced_cons (gen_eval hr TB hcode hc hN ok hi hg ht he hs I h fun G a ob g n fp tn W s5 hgen hb5 rdy ep ew back => ?_)
  refine Calls.spliced_nil ?_
  refine call_function_tree F.kind_any F.plain_any F.entry_any (F.args_any1 _) ?_
  unfold Builtin.«any»
  refine wpAny_bind (m := oneArg "any" _) (wpAny_pure ?_)
  refine wpAny_bind (wpAny_pyIter_gen (hgen _ rdy.at') ?_)
  refine wpAny_pure ⟨plainId_quiet F.plain_any_loop _, ?_⟩
  rw [← ep, ← ew] at rdy ⊢
  exact any_turns hr.rm.hd (by have := hr.rm.dp; omega) hgen (fun b s' σ' H' I' q => ⟨.bl b, H', back σ' H' s' I', rfl, q⟩) n s5 hb5 rdy
end
end Wg

/-! Wagon, part 31: tables of code objects: what stays, how such readings go on, defs that hold a generator expression, the end. -/
namespace Wg
open PySem PySem.Spec PyProof.Rows L2

/-- the tables at L are tables -/
def Tabs (L : List Addr) (H : Hp) : Prop := ∀ p ∈ L, GxR.TabG H p
/-- all but the tables at L is kept, and these stay tables -/
structure KT (L : List Addr) (H H' : Hp) : Prop where
  k : Keep L H H'
  t : Tabs L H → Tabs L H'
theorem KT.refl (L : List Addr) (H : Hp) : KT L H H := ⟨Keep.refl _ _, id⟩
theorem KT.trans {L : List Addr} {H H1 H2 : Hp} (a : KT L H H1) (b : KT L H1 H2) : KT L H H2 := ⟨a.k.trans b.k, fun h => b.t (a.t h)⟩
theorem Tabs.keep0 {L : List Addr} {H H' : Hp} (h : Tabs L H) (k : Keep [] H H') : Tabs L H' := fun p hp => let ⟨ps, e, t⟩ := h p hp; ⟨ps, k _ _ nin0 e, t⟩
theorem KT.of0 {L : List Addr} {H H' : Hp} (k : Keep [] H H') : KT L H H' := ⟨k.all, fun h => h.keep0 k⟩
theorem Tabs.nin {L : List Addr} {H : Hp} (h : Tabs L H) {b : Addr} {o : HO} (e : H b = some o) (n : ∀ ps, o ≠ .tbl ps) : b ∉ L := fun z => by
  obtain ⟨ps, e', _⟩ := h b z
  rw [e] at e'
  exact n ps (Option.some.inj e')
theorem Tabs.ninN {L : List Addr} {H : Hp} (h : Tabs L H) {b : Addr} (e : H b = none) : b ∉ L := fun z => by
  obtain ⟨ps, e', _⟩ := h b z
  rw [e] at e'
  cases e'
theorem Tabs.noTup {L : List Addr} {H : Hp} (h : Tabs L H) : ∀ a xs, Tup H a xs → a ∉ L := fun a xs ⟨ob, e, _⟩ => h.nin e fun ps z => nomatch z
theorem Tabs.lst {L : List Addr} {H : Hp} (h : Tabs L H) {a : Addr} {xs : List V} (e : H a = some (.lst xs)) : a ∉ L := h.nin e fun ps z => nomatch z
theorem Tabs.dK {L : List Addr} {H : Hp} (h : Tabs L H) {a : Addr} {xs : List (Key × V)} (e : H a = some (.dK xs)) : a ∉ L := h.nin e fun ps z => nomatch z
/-- a new cell is changed -/
theorem KT.past {L : List Addr} {H H1 H2 : Hp} {d : Addr} (k1 : KT L H H1) (k2 : Keep [d] H1 H2) (n : H d = none) (ht : Tabs L H) : KT L H H2 := by
  have t1 := k1.t ht
  refine ⟨fun b o hb e => k2 b o (nin1 (ne_of_none e n)) (k1.k b o hb e), fun _ p hp => ?_⟩
  obtain ⟨ps, e, tr⟩ := t1 p hp
  refine ⟨ps, k2 _ _ (nin1 fun z => ?_) e, tr⟩
  rw [z] at hp
  exact ht.ninN n hp
theorem kt_tab {L : List Addr} {P : Addr} {H H' : Hp} (h : P ∈ L) (t : GxR.Tabbed P H H') : KT L H H' := by
  refine ⟨fun b o hb e => (t.2 b fun z => hb (z ▸ h)).trans e, fun ht p hp => ?_⟩
  by_cases z : p = P
  · rw [z]
    exact t.1
  · obtain ⟨ps, e, tr⟩ := ht p hp
    exact ⟨ps, (t.2 p z).trans e, tr⟩
theorem Tabs.sqT {K : PySem.W.Frag} {L : List Addr} {H H' : Hp} {a : Addr} {xs : List V} (ht : Tabs L H) (k : KT L H H') (h : SqT K H a xs) : SqT K H' a xs := by
  rcases h with (h | ⟨o, h⟩) | h
  · exact .inl (.inl (k.k _ _ (ht.nin h fun ps z => nomatch z) h))
  · exact .inl (.inr ⟨o, k.k _ _ (ht.nin h fun ps z => nomatch z) h⟩)
  · exact .inr h
theorem Tabs.sqL {K : PySem.W.Frag} {L : List Addr} {H H' : Hp} {a : Addr} {xs : List V} (ht : Tabs L H) (k : KT L H H') (h : SqL K H a xs) : SqL K H' a xs := by
  rcases h with (h | ⟨o, h⟩) | h
  · exact .inl (.inl (k.k _ _ (ht.nin h fun ps z => nomatch z) h))
  · exact .inl (.inr ⟨o, k.k _ _ (ht.nin h fun ps z => nomatch z) h⟩)
  · exact .inr h
mutual
theorem dp_kt {K : PySem.W.Frag} {L : List Addr} {H H' : Hp} (ht : Tabs L H) (k : KT L H H') : ∀ {v : V} {d : PyData}, Dp K H v d → Dp K H' v d
  | _, _, .non => .non
  | _, _, .bl b => .bl b
  | _, _, .int i => .int i
  | _, _, .str x => .str x
  | _, _, .lst h a => .lst (ht.sqL k h) (dps_kt ht k a)
  | _, _, .tup h a => .tup (ht.sqT k h) (dps_kt ht k a)
theorem dps_kt {K : PySem.W.Frag} {L : List Addr} {H H' : Hp} (ht : Tabs L H) (k : KT L H H') : ∀ {vs : List V} {ds : List PyData}, DpAll K H vs ds → DpAll K H' vs ds
  | _, _, .nil => .nil
  | _, _, .cons h r => .cons (dp_kt ht k h) (dps_kt ht k r)
end

/-! ### readings -/
def GU (K : PySem.W.Frag) (P : Addr) (g : TG) (tt : TT) (te : TE) (vs : List Nat) (stop : Bool) (σ : L2.St) (Q : VK) (x : V) (H1 : Hp) : Prop := iU K (tC x) σ H1 fun J H1 => GxR.TabG H1 P ∧ ∀ H2, GxR.Tabbed P H1 H2 → ∃ W : Nat → Nat → Hp → Prop, (∃ m, W 0 m H2) ∧ TurnW J g tt te vs σ W Q stop
theorem e_genU {K : PySem.W.Frag} {P : Addr} {tl : TE} {g : TG} {tt : TT} {te : TE} {vs : List Nat} {stop : Bool} {σ : L2.St} {H : Hp} {Q : VK} : tGen P (iU K tl) g tt te vs stop σ H Q ↔ tl σ H (GU K P g tt te vs stop σ Q) := Iff.rfl
/-- of the turns: n of them, turn i's truth f i -/
theorem gen_of {L : List Addr} {n : Nat} {it : Nat → V} {J : It} {g : TG} {tt : TT} {te : TE} {vs : List Nat} {σ : L2.St} {H2 : Hp} {Q : VK} {stop : Bool} (f : Nat → Bool)
    (hgo : ∀ i H, i < n → KT L H2 H → J.go i H) (hy : ∀ i H x H', i < n → KT L H2 H → J.yld i H x H' → x = it i ∧ H' = H) (hst : ∀ H, KT L H2 H → J.stop n H)
    (hs : ∀ i H (R : VK) (R0 : Hp → Prop), i < n → KT L H2 H → (∀ H4, KT L H H4 → R (.bl (f i)) H4) → g (it i) (wipe σ vs) H fun σ2 H3 => wipe σ2 vs = wipe σ vs ∧ tt σ2 H3 fun b H4 => if b = true then te σ2 H4 R else R0 H4)
    (q : ∀ H', KT L H2 H' → Q (.bl (if stop = true then (List.range n).any f else (List.range n).all f)) H') : ∃ W : Nat → Nat → Hp → Prop, (∃ m, W 0 m H2) ∧ TurnW J g tt te vs σ W Q stop := by
  refine ⟨fun i m H => m = n - i ∧ i ≤ n ∧ KT L H2 H ∧ ∀ j, j < i → f j = !stop, ⟨n, by omega, by omega, KT.refl _ _, fun _ h => by omega⟩, ?_⟩
  rintro i m H ⟨rfl, hi, k, hf⟩
  by_cases hlt : i < n
  · refine .inr ⟨hgo i H hlt k, fun H' => KT L H2 H' ∧ ∀ j, j < i + 1 → f j = !stop, fun H' h => ⟨n - (i + 1), by omega, rfl, hlt, h⟩, fun x H' y => ?_⟩
    obtain ⟨ex, eh⟩ := hy i H x H' hlt k y
    rw [ex, eh]
    refine hs i H _ _ hlt k fun H4 k4 => ⟨f i, rfl, ?_⟩
    by_cases e : f i = stop
    · rw [if_pos e]
      have q4 := q H4 (k.trans k4)
      cases stop with
      | true =>
        rw [if_pos rfl, List.any_eq_true.mpr ⟨i, List.mem_range.mpr hlt, e⟩] at q4
        exact q4
      | false =>
        rw [if_neg Bool.false_ne_true] at q4
        have : (List.range n).all f = false := by
          rw [List.all_eq_false]
          exact ⟨i, List.mem_range.mpr hlt, by rw [e]; decide⟩
        rw [this] at q4
        exact q4
    · rw [if_neg e]
      refine ⟨k.trans k4, fun j hj => ?_⟩
      rcases Nat.lt_succ_iff_lt_or_eq.mp hj with h | h
      · exact hf j h
      · rw [h]
        exact not_stop e
  · have e : i = n := by omega
    subst e
    refine .inl ⟨hst H k, ?_⟩
    have q4 := q H k
    cases stop with
    | true =>
      rw [if_pos rfl] at q4
      have : (List.range i).any f = false := by
        rw [List.any_eq_false]
        intro j hj
        rw [hf j (List.mem_range.mp hj)]
        decide
      rw [this] at q4
      exact q4
    | false =>
      rw [if_neg Bool.false_ne_true] at q4
      have : (List.range i).all f = true := by
        rw [List.all_eq_true]
        intro j hj
        rw [hf j (List.mem_range.mp hj)]
        rfl
      rw [this] at q4
      exact q4
theorem range_any {α : Type} {rs : List α} {f : α → Bool} {d : Bool} : (List.range rs.length).any (fun i => (rs[i]?.map f).getD d) = rs.any f := by
  rw [Bool.eq_iff_iff, List.any_eq_true, List.any_eq_true]
  constructor
  · rintro ⟨i, hi, e⟩
    have hi := List.mem_range.mp hi
    rw [List.getElem?_eq_getElem hi] at e
    exact ⟨_, List.getElem_mem hi, e⟩
  · rintro ⟨x, hx, e⟩
    obtain ⟨i, hi, rfl⟩ := List.getElem_of_mem hx
    exact ⟨i, List.mem_range.mpr hi, by rw [List.getElem?_eq_getElem hi]; exact e⟩
theorem range_all {α : Type} {rs : List α} {f : α → Bool} {d : Bool} : (List.range rs.length).all (fun i => (rs[i]?.map f).getD d) = rs.all f := by
  rw [Bool.eq_iff_iff, List.all_eq_true, List.all_eq_true]
  constructor
  · intro h x hx
    obtain ⟨i, hi, rfl⟩ := List.getElem_of_mem hx
    have := h i (List.mem_range.mpr hi)
    rw [List.getElem?_eq_getElem hi] at this
    exact this
  · intro h i hi
    have hi := List.mem_range.mp hi
    rw [List.getElem?_eq_getElem hi]
    exact h _ (List.getElem_mem hi)
theorem each_got {α β : Type} {R : α → β → Prop} : ∀ {vs : List α} {rs : List β} {i : Nat} {v : α}, PySem.W.EachIs R vs rs → vs[i]? = some v → ∃ r, rs[i]? = some r ∧ R v r
  | _, _, _, _, .nil, e => by simp at e
  | _, _, 0, _, .cons (b := q) h _, e => by
    simp at e
    subst e
    exact ⟨q, rfl, h⟩
  | _, _, i + 1, _, .cons _ t, e => by
    obtain ⟨q, h1, h2⟩ := each_got (i := i) t (by simpa using e)
    exact ⟨q, by simpa using h1, h2⟩
def aaB {α : Type} (stop : Bool) (f : α → Bool) (rs : List α) : Bool := if stop = true then rs.any f else rs.all f
/-- over a list or a tuple of things, wherever it stands -/
theorem g_GE {K : PySem.W.Frag} {L : List Addr} {P : Addr} {α : Type} {RR : Hp → V → α → Prop} {g : TG} {tt : TT} {te : TE} {vs : List Nat} {stop : Bool} {σ : L2.St} {H1 : Hp} {Q : VK} {a : Addr} {xs : List V} {rs : List α} (f : α → Bool) (hT : Tabs L H1) (hP : P ∈ L)
    (hx : SqL K H1 a xs ∨ SqT K H1 a xs) (he : PySem.W.EachIs (RR H1) xs rs) (hk : ∀ H' x r, RR H1 x r → KT L H1 H' → RR H' x r)
    (hs : ∀ (i : Nat) (x : V) (r : α) (H : Hp) (R : VK) (R0 : Hp → Prop), rs[i]? = some r → KT L H1 H → Tabs L H → RR H x r → (∀ H4, KT L H H4 → R (.bl (f r)) H4) → g x (wipe σ vs) H fun σ2 H3 => wipe σ2 vs = wipe σ vs ∧ tt σ2 H3 fun b H4 => if b = true then te σ2 H4 R else R0 H4)
    (q : ∀ H', KT L H1 H' → Q (.bl (aaB stop f rs)) H') : GU K P g tt te vs stop σ Q (.ref a) H1 := by
  have hl := he.length
  have tail : ∀ {J : It} {H2 : Hp}, GxR.Tabbed P H1 H2 → (∀ i H, i < xs.length → KT L H2 H → J.go i H) → (∀ i H x H', i < xs.length → KT L H2 H → J.yld i H x H' → x = xs.getD i .non ∧ H' = H) → (∀ H, KT L H2 H → J.stop xs.length H) →
      ∃ W : Nat → Nat → Hp → Prop, (∃ m, W 0 m H2) ∧ TurnW J g tt te vs σ W Q stop := fun {J H2} t h1 h2 h3 => by
    have k12 := kt_tab hP t
    refine gen_of (L := L) (n := xs.length) (it := fun i => xs.getD i .non) (fun i => (rs[i]?.map f).getD stop) h1 h2 h3 (fun i H R R0 hi k hR => ?_) fun H' k => ?_
    · obtain ⟨r, e1, e2⟩ := each_got he (List.getElem?_eq_getElem hi)
      have e3 : xs.getD i .non = xs[i] := by rw [List.getD_eq_getElem?_getD, List.getElem?_eq_getElem hi]; rfl
      show g (xs.getD i .non) _ _ _
      rw [e3]
      rw [e1] at hR
      exact hs i _ r H R R0 e1 (k12.trans k) ((k12.trans k).t hT) (hk _ _ _ e2 (k12.trans k)) hR
    · rw [hl, range_any, range_all]
      exact q H' (k12.trans k)
  have kk : ∀ {H2 H}, GxR.Tabbed P H1 H2 → KT L H2 H → KT L H1 H := fun t k => (kt_tab hP t).trans k
  rcases hx with hx | hx
  · exact .inl ⟨a, xs, rfl, hx, hT P hP, fun H2 t => tail t (fun i H hi k => ⟨xs, xs[i], hT.sqL (kk t k) hx, List.getElem?_eq_getElem hi⟩) (fun i H x H' hi k y => ⟨by rw [List.getD_eq_getElem?_getD, y.2 xs (hT.sqL (kk t k) hx)]; rfl, y.1⟩) fun H k => ⟨xs, hT.sqL (kk t k) hx, Nat.le_refl _⟩⟩
  · exact .inr (.inl ⟨a, xs, rfl, hx, hT P hP, fun H2 t => tail t (fun i H hi k => ⟨xs, xs[i], hT.sqT (kk t k) hx, List.getElem?_eq_getElem hi⟩) (fun i H x H' hi k y => ⟨by rw [List.getD_eq_getElem?_getD, y.2 xs (hT.sqT (kk t k) hx)]; rfl, y.1⟩) fun H k => ⟨xs, hT.sqT (kk t k) hx, Nat.le_refl _⟩⟩)
/-- over a text's signs -/
theorem g_GS {K : PySem.W.Frag} {L : List Addr} {P : Addr} {g : TG} {tt : TT} {te : TE} {vs : List Nat} {stop : Bool} {σ : L2.St} {H1 : Hp} {Q : VK} {z : Str} (f : Nat → Bool) (hT : Tabs L H1) (hP : P ∈ L)
    (hs : ∀ c H (R : VK) (R0 : Hp → Prop), c ∈ z.cps.toList → KT L H1 H → Tabs L H → (∀ H4, KT L H H4 → R (.bl (f c)) H4) → g (.str ⟨#[c]⟩) (wipe σ vs) H fun σ2 H3 => wipe σ2 vs = wipe σ vs ∧ tt σ2 H3 fun b H4 => if b = true then te σ2 H4 R else R0 H4)
    (q : ∀ H', KT L H1 H' → Q (.bl (aaB stop f z.cps.toList)) H') : GU K P g tt te vs stop σ Q (.str z) H1 := by
  refine .inr (.inr ⟨z, rfl, hT P hP, fun H2 t => ?_⟩)
  have k12 := kt_tab hP t
  have sz : z.cps.size = z.cps.toList.length := by simp
  refine gen_of (L := L) (n := z.cps.size) (it := fun i => .str ⟨#[z.cps.getD i 0]⟩) (fun i => (z.cps.toList[i]?.map f).getD stop) (fun i H hi k => hi) (fun i H x H' hi k y => ?_) (fun H k => Nat.le_refl _) (fun i H R R0 hi k hR => ?_) fun H' k => ?_
  · obtain ⟨e1, c, e2, e3⟩ := y
    refine ⟨?_, e1⟩
    rw [e3, Array.getD_eq_getD_getElem?, e2]
    rfl
  · have hi' : i < z.cps.toList.length := by rw [← sz]; exact hi
    have e : z.cps.getD i 0 = z.cps.toList[i] := by
      rw [Array.getD_eq_getD_getElem?, ← Array.getElem?_toList, List.getElem?_eq_getElem hi']
      rfl
    rw [List.getElem?_eq_getElem hi'] at hR
    show g (.str ⟨#[z.cps.getD i 0]⟩) _ _ _
    rw [e]
    exact hs _ H R R0 (List.getElem_mem hi') (k12.trans k) ((k12.trans k).t hT) hR
  · rw [sz, range_any, range_all]
    exact q H' (k12.trans k)

/-! ### defs that hold a generator expression -/
section
variable {P : Program} {w : World} {K : PySem.W.Frag} {mg : Str → Option Value} {b : Heap}
theorem keepsT {x qual : Str} {st : Stmt} {f c : Addr} {fd : FuncData} {N ps : List Str} {k : Nat} {sp : Sp} (F : Fun K x qual st f fd) (hc : fd.code = .ref c) (S : FnScope N ps (defScope st))
    (len : ∀ vs H Q E, sp vs H Q E → vs.length = ps.length)
    (body : ∀ (A : Around) (o : List Env) (s : Shared) (H : Hp) (vs : List V) (Q : VK) (E : XK), Rm k (A.deeper (envOfC qual (defScope st) s.heap.objs.size f (.ref c))) → sp vs H Q E →
      ∃ t, PSs (cxOf CX0 P w K mg b N qual (defScope st) f (.ref c) A o s H E).nox (defBody st) t ∧ t { nx := fun _ H' => Q .non H', rt := Q } (start N vs) H) :
    Keeps P w K mg b CX0 (k + 1) f fd ps sp := by
  obtain ⟨oc, od, kV, doc, pm, an, cdv, ct, osl, rfl, lk, hcd⟩ := F.ex
  obtain rfl : cdv = .ref c := hc
  refine ⟨len, fun A o s H g us vs Q E hr e0 hb r hsp => ?_⟩
  have hl := len _ _ _ _ hsp
  have up : ∀ {a : Addr} {ob : Obj}, b.get? a = some ob → s.heap.get? a = some ob := fun {a ob} q => (e0.bs a ob q).1
  have inK : K.In s.heap := e0.mod.kin.keeps fun _ _ q => up q
  have nolim : s.heap.NoLimit := e0.mod.nolimit.keeps fun _ _ q => up q
  have kinds : ∀ y ∈ ps.zip us, (defScope st).names.lookup y.1 = some .local ∨ ((defScope st).names.lookup y.1 = some .cell ∧ ((cellsFrom (s.heap.objs.size + 1) (defScope st).names []).lookup y.1).isSome = true) := by
    rintro ⟨n, v⟩ hy
    have hn := S.par n (List.of_mem_zip hy).1
    exact hn.imp id fun q => ⟨q, PySem.W.cellsFrom_some _ _ _ (.inl q)⟩
  have recd := PySem.W.codeRec_of inK hcd
  refine codeAny_call_function hr.rm.depth (inK _ _ lk) rfl S.co S.gen rfl recd (hb _ _ _ _ ?_)
  refine wpAny_newFunctionEnv_cells S.kind kinds ?_
  intro env he s1 y
  subst he
  refine ⟨nolim.keeps y.toInCall.keep, codeAny_func ?_⟩
  obtain ⟨t, ht, hq⟩ := body A o s H vs Q E (hr.deep _) hsp
  have I := inv_start (CX := CX0) (E := E) S hr.rm.hd e0 hl r y
  refine wpAny_mono (ht.nox.run [] s1 (start N vs) H _ I hq) ?_ fun _ _ q => q
  intro fl s' hs
  match fl, hs with
  | .ret u, hs =>
    obtain ⟨v, σ', H', J, rv, q⟩ := hs
    exact ⟨v, H', J.os, J.bare, J.base, J.hok, rv, q⟩
  | .next, hs =>
    obtain ⟨σ', H', J, q⟩ := hs
    exact ⟨.non, H', J.os, J.bare, J.base, J.hok, rfl, q⟩
  | .brk, hs => exact hs.elim fun _ z => z.elim fun _ y => y.2.elim
  | .cont, hs => exact hs.elim fun _ z => z.elim fun _ y => y.2.elim
end

/-! ### the end, with tables -/
/-- what may be tracked at the beginning: the script, locked, and the tables -/
def OnlyT (L : List Addr) (H : Hp) : Prop := ∀ b, H b = none ∨ (b ∈ L ∧ H b = some (.tbl #[])) ∨ ∃ o xs, H b = some (.frz o (.lst xs))
/-- the table of the code object at c, no object of the module's own -/
def tabIn (K : PySem.W.Frag) (c : Addr) : Option Addr := match K.lookup c with
  | some o => match o.data with
    | .fields vs => match vs[11]? with
      | some (Value.ref P) => if (K.lookup P).isNone then some P else none
      | _ => none
    | _ => none
  | none => none
theorem tabIn_ok {K : PySem.W.Frag} {h : Heap} {c P P' : Addr} (hK : K.In h) (e : tabIn K c = some P) (t : h.TableAt c P' #[]) : P' = P ∧ K.lookup P = none := by
  unfold tabIn at e
  split at e
  · rename_i o lk
    have ho := hK _ _ lk
    obtain ⟨⟨o', vs', e1, _, e3, e4⟩, _⟩ := t
    rw [ho] at e1
    cases e1
    rw [e3] at e
    dsimp only at e
    rw [e4] at e
    dsimp only at e
    split at e
    · rename_i hn
      cases e
      exact ⟨rfl, Option.isNone_iff_eq_none.mp hn⟩
    · cases e
  · cases e
theorem endT {P : Program} {w : World} {K : PySem.W.Frag} {mg mb : Str → Option Value} {k : Nat} {fa a : Addr} {fd : FuncData} {x : Str} {cs : List (Addr × Addr)} {sp : Sp} {s : Shared} {vs : List Value} {ns : List Int}
    (KX : K.In s.heap) (hns : s.heap.Ns mainGlobals mg) (hb : s.heap.Ns builtinsNs mb) (hbb : ∀ x : Str, x ≠ "__name__" → mb x = bootBuiltins x) (hlim : s.heap.NoLimit) (hg : s.gens = #[])
    (tab : ∀ p ∈ cs, s.heap.IsCode p.1 p.2 #[] ∧ s.heap.TableAt p.1 p.2 #[] ∧ K.lookup p.2 = none)
    (hbm : ∃ (bm : Addr) (ob : Obj), mg "__builtins__" = some (.ref bm) ∧ bm ≠ builtinsNs ∧ s.heap.get? bm = some ob ∧ ob.cls = .type "module" ∧ ob.dict = some builtinsNs ∧ ob.data = .plain)
    (ha : s.heap.get? a = some { cls := .type "list", data := .seq vs.toArray }) (hi : IntsAre vs ns) (hl : ns.length ≤ sizeLine) (hr : Rm k callerA)
    (F : ∀ b : Heap, K.In b → b.Ns mainGlobals mg → (∀ p ∈ cs, GxR.TabB b mg p.1 p.2) → Keeps P w K mg b CX0 k fa fd [x] sp) (hbind : ∀ (s : Shared) (u : Value), BindsTo s fd ⟨[u], []⟩ [(x, u)])
    (hsp : ∀ H : Hp, OnlyT (cs.map (·.2)) H → Tabs (cs.map (·.2)) H → SqL K H a (ns.map V.int) → sp [.ref a] H (fun v _ => v = .bl true) fun _ _ _ => False) :
    codeAny (model P w) callerA (.call (.ref fa) ⟨[.ref a], []⟩) (fun r s' => r = .ok (.ret (.bool true)) ∧ OldK s.heap s'.heap ∧ s'.os = s.os ∧ AllBare s'.gens) s := by
  have lenV := hi.length
  have rv := vals_ints hi
  have obT : ∀ b : Addr, b ∈ cs.map (·.2) → s.heap.get? b = some { cls := .none, data := .fields #[] } := fun b hm => by
    obtain ⟨p, hp, rfl⟩ := List.mem_map.mp hm
    exact (tab p hp).2.1.2
  have naT : a ∉ cs.map (·.2) := fun hm => by
    have q := obT a hm
    rw [ha] at q
    have q' := congrArg Obj.data (Option.some.inj q)
    cases q'
  let H0 : Hp := fun b => if b ∈ cs.map (·.2) then some (.tbl #[]) else if b = a ∧ K.lookup a = none then some (.frz { cls := .type "list", data := .seq vs.toArray } (.lst (ns.map V.int))) else none
  have atT : ∀ {b}, b ∈ cs.map (·.2) → H0 b = some (.tbl #[]) := fun hm => if_pos hm
  have only : OnlyT (cs.map (·.2)) H0 := fun b => by
    by_cases h1 : b ∈ cs.map (·.2)
    · exact .inr (.inl ⟨h1, if_pos h1⟩)
    · by_cases h2 : b = a ∧ K.lookup a = none
      · exact .inr (.inr ⟨_, _, (if_neg h1).trans (if_pos h2)⟩)
      · exact .inl ((if_neg h1).trans (if_neg h2))
  have where_ : ∀ b, H0 b ≠ none → b ∈ cs.map (·.2) ∨ (b = a ∧ K.lookup a = none) := fun b n => by
    by_cases h1 : b ∈ cs.map (·.2)
    · exact .inl h1
    · by_cases h2 : b = a ∧ K.lookup a = none
      · exact .inr h2
      · exact absurd ((if_neg h1).trans (if_neg h2)) n
  have tabs : Tabs (cs.map (·.2)) H0 := fun p hp => ⟨#[], atT hp, trivial⟩
  have sq : SqL K H0 a (ns.map V.int) := by
    cases q : K.lookup a with
    | none => exact .inl (.inr ⟨_, (if_neg naT).trans (if_pos ⟨rfl, q⟩)⟩)
    | some o =>
      have e := (KX a o q).symm.trans ha
      obtain rfl := Option.some.inj e
      exact .inr ⟨_, vs.toArray, _, q, rfl, rfl, rfl, by rw [List.size_toArray, lenV]; exact hl, by simpa using rv⟩
  have hok : HOk P w H0 s.heap := fun c u z => by
    rcases where_ c (by rw [z]; exact Option.some_ne_none u) with h | ⟨rfl, h⟩
    · rw [atT h] at z
      cases z
      exact obT c h
    · rw [show H0 c = _ from (if_neg naT).trans (if_pos ⟨rfl, h⟩)] at z
      cases z
      exact ⟨ha, by rw [List.length_map]; exact hl, vs, _, rv, ha⟩
  have stays : ∀ {c : Addr} {o : Obj}, s.heap.get? c = some o → (∀ u n, o.data ≠ .seq u n) → o.data ≠ .fields #[] → H0 c = none := fun {c o} e h1 h2 => by
    match q : H0 c with
    | none => rfl
    | some u =>
      rcases where_ c (by rw [q]; exact Option.some_ne_none u) with h | ⟨rfl, _⟩
      · rw [obT c h] at e
        cases e
        exact (h2 rfl).elim
      · rw [ha] at e
        cases e
        exact (h1 _ _ rfl).elim
  have dictOut : ∀ {c : Addr} {o : Obj} {es : Array DictEntry} {ep : Nat}, s.heap.get? c = some o → o.data = .dict es ep → H0 c = none := fun e d => stays e (fun u n z => by rw [d] at z; cases z) fun z => by rw [d] at z; cases z
  have ns' : ∀ {c : Addr} {m : Str → Option Value}, s.heap.Ns c m → (hidT s.heap H0).Ns c m := fun ⟨o, es, ep, e, d, r⟩ => ⟨o, es, ep, hidT_get e (dictOut e d), d, r⟩
  have kin : K.In (hidT s.heap H0) := fun c o e => by
    refine hidT_get (KX c o e) ?_
    match q : H0 c with
    | none => rfl
    | some u =>
      rcases where_ c (by rw [q]; exact Option.some_ne_none u) with h | ⟨rfl, h⟩
      · obtain ⟨p, hp, rfl⟩ := List.mem_map.mp h
        rw [(tab p hp).2.2] at e
        cases e
      · rw [h] at e
        cases e
  obtain ⟨mc, l1, l2⟩ := hlim
  have M : Mod K mg (hidT s.heap H0) := ⟨kin, ns' hns, ⟨mb, ns' hb, hbb⟩, ⟨mc, ns' l1, l2⟩⟩
  have nG : ∀ {p : Addr}, p ∈ cs.map (·.2) → mainGlobals ≠ p := fun hm z => by
    obtain ⟨o, es, ep, e, d, _⟩ := hns
    rw [z, obT _ hm] at e
    cases e
    cases d
  have TB : ∀ p ∈ cs, GxR.TabB (hidT s.heap H0) mg p.1 p.2 := fun p hp => by
    have hm : p.2 ∈ cs.map (·.2) := List.mem_map.mpr ⟨p, hp, rfl⟩
    refine ⟨?_, ?_, nG hm⟩
    · obtain ⟨o, us, file, tf, flags, tg, inF, text, tt, e1, r1, r2, r3, rest⟩ := PySem.W.CodeHd.of (tab p hp).1 (tab p hp).2.1
      refine ⟨o, us, file, tf, flags, tg, inF, text, tt, hidT_get e1 (stays e1 (fun u n z => ?_) fun z => ?_), r1, r2, r3, rest⟩
      · rw [r2] at z
        cases z
      · rw [r2] at z
        cases z
        simp at r3
    · obtain ⟨bm, ob, b1, b2, b3, b4, b5, b6⟩ := hbm
      refine ⟨bm, ob, b1, b2, fun z => ?_, fun z => ?_, hidT_get b3 (stays b3 (fun u n z => ?_) fun z => ?_), b4, b5, b6⟩
      · obtain ⟨o, es, ep, e, d, _⟩ := hns
        rw [z, e] at b3
        cases b3
        rw [d] at b6
        cases b6
      · rw [z, obT _ hm] at b3
        cases b3
        cases b6
      · rw [b6] at z
        cases z
      · rw [b6] at z
        cases z
  have e0 : Env0 P w K mg (hidT s.heap H0) callerA [] s H0 :=
    ⟨rfl, M, fun c o e => of_hidT e, Nat.le_of_eq (hidT_size _ _), trivial, fun c hc => (List.not_mem_nil hc).elim, hok, .of_eq hg⟩
  have run := (F _ kin (ns' hns) TB).run callerA [] s H0 ⟨[.ref a], []⟩ [.ref a] [.ref a] _ _ hr e0 (hbind s (.ref a)) (.cons rfl .nil) (hsp H0 only tabs sq)
  refine codeAny_mono run fun res s' hq => ?_
  match res, hq with
  | .error e, hq => exact hq.elim
  | .ok .next, hq => exact hq.elim
  | .ok .brk, hq => exact hq.elim
  | .ok .cont, hq => exact hq.elim
  | .ok (.ret u), hq =>
    obtain ⟨v, H', os, bare, un, hok', r', q⟩ := hq
    obtain rfl : v = .bl true := q
    obtain rfl : u = Value.bool true := r'
    have grown : ∀ p ∈ cs, ∃ more : Array Value, s'.heap.get? p.2 = some { cls := .none, data := .fields more } := fun p hp => by
      obtain ⟨more, z⟩ := un.tbls p.2 #[] (atT (List.mem_map.mpr ⟨p, hp, rfl⟩))
      exact ⟨_, hok' p.2 _ z⟩
    have rest : ∀ c o, c ∉ cs.map (·.2) → s.heap.get? c = some o → s'.heap.get? c = some o := fun c o hn e => by
      rcases only c with z | ⟨z, _⟩ | ⟨ob, xs, z⟩
      · exact un.keep c o e z List.not_mem_nil List.not_mem_nil
      · exact absurd z hn
      · have z1 := (hok c _ z).1
        have z2 := (hok' c _ (un.frzs c ob _ z)).1
        exact z2.trans (z1.symm.trans e)
    refine ⟨rfl, ⟨fun c o e => ?_, fun c o e => ?_⟩, os, bare⟩
    · by_cases hm : c ∈ cs.map (·.2)
      · obtain ⟨p, hp, rfl⟩ := List.mem_map.mp hm
        obtain ⟨more, g⟩ := grown p hp
        rw [obT _ hm] at e
        cases e
        exact .inr (.inl ⟨(tab p hp).2.1.isCodeTable, rfl, #[], more, rfl, by rw [Array.empty_append]; exact g⟩)
      · exact .inl (rest c o hm e)
    · by_cases hm : c ∈ cs.map (·.2)
      · obtain ⟨p, hp, rfl⟩ := List.mem_map.mp hm
        obtain ⟨more, g⟩ := grown p hp
        exact ⟨_, g⟩
      · exact ⟨o, rest c o hm e⟩
/-- a def of the text with its code object and that one's table -/
structure TabDef (q : Program) (K : PySem.W.Frag) (mg : Str → Option Value) (t : Str × Addr × Addr) : Prop where
  r : ((recsOf q).any fun e => e.name == t.1) = true
  f : ∃ (fa : Addr) (o : Obj) (fd : FuncData), mg t.1 = some (.ref fa) ∧ K.lookup fa = some o ∧ o.data = .func fd ∧ fd.code = .ref t.2.1
  t : tabIn K t.2.1 = some t.2.2
theorem walk_endT {l : PySem.W.OpenLaw} {n k : Nat} {q : Program} {loose : List Str} {XP : (Str → Option Value) → Heap → Prop} {YP : World → Heap → Prop} {d : DefRec} {K : Params → PySem.W.Frag} {sp : PySem.W.Frag → List Addr → Sp} {x : Str}
    (hn : l.most = some n) (hn2 : n ≤ sizeLine) (hdf : d.params.defaults = []) (hr : Rm k callerA) (hY : ∀ (w : World) (h : Heap), YP w h → (K w.params).In h)
    (F : ∀ (w : World) (mg : Str → Option Value) (fa : Addr) (h : Heap), (K w.params).In h → h.Ns mainGlobals mg → mg d.name = some (.ref fa) →
      ∃ (fd : FuncData) (ts : List (Str × Addr × Addr)), (∀ t ∈ ts, TabDef q (K w.params) mg t) ∧ (∀ (s : Shared) (u : Value), BindsTo s fd ⟨[u], []⟩ [(x, u)]) ∧
        ∀ b : Heap, (K w.params).In b → b.Ns mainGlobals mg → (∀ t ∈ ts, GxR.TabB b mg t.2.1 t.2.2) → Keeps l.prog w (K w.params) mg b CX0 k fa fd [x] (sp (K w.params) (ts.map fun t => t.2.2)))
    (hsp : ∀ (K : PySem.W.Frag) (L : List Addr) (H : Hp) (a : Addr) (ns : List Int), ns.length ≤ n → OnlyT L H → Tabs L H → SqL K H a (ns.map V.int) → sp K L [.ref a] H (fun v _ => v = .bl true) fun _ _ _ => False) :
    PySem.W.WalkO q loose XP YP l.row.toRowW d [] (fun f vs => PySem.call f vs) := by
  refine Att.attach_call hn hdf ?_
  intro w s₀ s₁ mg mb fa o pm cd doc a vs ns G Y ho hd hcd hmg hobj hints hlen hg
  have kin := hY w _ Y
  obtain ⟨fd, ts, hts, hb, hF⟩ := F w mg fa _ kin G.T.g hmg
  have em : (ts.map fun t => t.2).map (fun p => p.2) = ts.map fun t => t.2.2 := by rw [List.map_map]; rfl
  refine endT (cs := ts.map fun t => t.2) kin G.T.g G.T.b G.T.builtins G.T.nolimit hg (fun p hp => ?_) G.T.bmain hobj hints (Nat.le_trans hlen hn2) hr (fun b h1 h2 h3 => hF b h1 h2 fun t ht => h3 _ (List.mem_map.mpr ⟨t, ht, rfl⟩)) hb fun H hO hT hS => ?_
  · obtain ⟨t, ht, rfl⟩ := List.mem_map.mp hp
    obtain ⟨r, ⟨fa', o1, fd1, m1, k1, d1, c1⟩, tt⟩ := hts t ht
    obtain ⟨dL, hm, hnm⟩ := List.any_eq_true.mp r
    obtain ⟨a', o', fd', c', P', h1, h2, h3, h4, h5, h6⟩ := G.T.tab dL hm
    rw [show dL.name = t.1 from beq_iff_eq.mp hnm, m1] at h1
    cases h1
    have g1 := kin _ _ k1
    rw [g1] at h2
    cases h2
    rw [d1] at h3
    cases h3
    rw [c1] at h4
    cases h4
    obtain ⟨e1, e2⟩ := tabIn_ok kin tt h6
    subst e1
    exact ⟨h5, h6, e2⟩
  · rw [em] at hO hT
    exact hsp _ _ H a ns hlen hO hT hS
theorem Scr.ofT {K : PySem.W.Frag} {L : List Addr} {H : Hp} {a : Addr} {xs : List V} (o : OnlyT L H) (h : SqL K H a xs) : Scr K H a xs := by
  rcases h with (h | h) | h
  · rcases o a with z | ⟨_, z⟩ | ⟨ob, ys, z⟩
    · exact nomatch z.symm.trans h
    · exact nomatch z.symm.trans h
    · exact nomatch z.symm.trans h
  · exact .inl h
  · exact .inr h
theorem Scr.kt {K : PySem.W.Frag} {L : List Addr} {H H' : Hp} {a : Addr} {xs : List V} (h : Scr K H a xs) (ht : Tabs L H) (k : KT L H H') : Scr K H' a xs :=
  h.elim (fun ⟨o, e⟩ => .inl ⟨o, k.k _ _ (ht.nin e fun ps z => nomatch z) e⟩) .inr
theorem Tup.kt {L : List Addr} {H H' : Hp} {a : Addr} {xs : List V} (h : Tup H a xs) (ht : Tabs L H) (k : KT L H H') : Tup H' a xs := h.keep k.k (ht.noTup _ _ h)
end Wg

/-! Wagon, part 32: a text times a number, list of a text, upper; signs. -/
namespace Wg
open PySem PySem.Spec PyProof.Rows L2
section
variable {X : Cx}
/-- text * number -/
def uMulS : R2 := fun x y H Q => ∃ (z : Str) (n : Int), x = .str z ∧ y = .int n ∧ 2 ≤ n ∧ n ≤ 100000 ∧ z.length ≠ 0 ∧ z.length * n.toNat ≤ 1000000 ∧ Q (.str ⟨(List.replicate n.toNat z.cps).foldl (· ++ ·) #[]⟩) H
theorem op_uMulS : OpR X (binaryOp .Mult) uMulS := by
  intro pins s σ H x y v u Q I rx ry h
  obtain ⟨z, n, rfl, rfl, h1, h2, h3, h4, q⟩ := h
  obtain ⟨t, rfl⟩ := rx
  obtain ⟨t', rfl⟩ := ry
  have nn : ¬ n < 1 := by omega
  have n1 : (n == 1 || z.length == 0) = false := by
    rw [Bool.or_eq_false_iff]
    exact ⟨beq_false_of_ne (by omega), beq_false_of_ne h3⟩
  have tl : Builtin.Str.tooLong (z.length * n.toNat) = false := by
    unfold Builtin.Str.tooLong
    exact decide_eq_false (Nat.not_lt.mpr (len_le h4))
  refine PySem.P.mul_str ?_ (fun _ _ => ?_) (fun _ _ => tl) ?_
  · rw [decide_eq_false (by omega), decide_eq_false (by omega)]
    rfl
  · have : z.length ≤ 1000000 := Nat.le_trans (Nat.le_mul_of_pos_right _ (by omega)) h4
    have e : (92233720368547 : Int) ≤ (2 ^ 63 - 1) / n := by
      rw [Int.le_ediv_iff_mul_le (by omega)]
      omega
    omega
  · rw [if_neg nn, if_neg (by rw [n1]; exact Bool.false_ne_true)]
    refine ⟨?_, ⟨.str _, H, I.tok _, ⟨_, rfl⟩, q⟩⟩
    exact PySem.fits_reps tl
def uUpper : V → List V → Hp → VK → Prop := fun x xs H Q => ∃ a, x = .str a ∧ xs = [] ∧ a.length ≤ 5592405 ∧ Q (.str (Txt.upper a)) H
theorem pe_uUpper {o : Expr} {to : TE} {apos pos : Pos} (ho : PE X o to) (hbase : attributeBase o "upper" X.env (eval o X.env) = eval o X.env := by rfl) (hline : (apos.endLine == pos.line) = true := by rfl) :
    PE X (.Call (.Attribute o "upper" apos) [] [] pos) (tM0 uUpper to) := pe_upper ho hbase hline
/-- list(text) -/
def uListZ : List V → Hp → VK → Prop := fun xs H Q => ∃ z : Str, xs = [.str z] ∧ z.length ≤ 1000000 ∧ Mk H (.lst (z.cps.toList.map fun c => .str ⟨#[c]⟩)) Q
theorem call_uListZ (hc : X.calm = true) : CallR X (.type "list") uListZ := by
  intro pins s σ H xs us Q I r h
  obtain ⟨z, rfl, hz, q⟩ := h
  obtain ⟨u, rfl, rx⟩ := vals1 r
  obtain ⟨t, rfl⟩ := rx
  refine call_list_str (I.ok.hd hc) z t (fun h' tk acc c' hk e hi => ?_) (len_le hz)
  have hl : (z.cps.toList.map fun c => V.str ⟨#[c]⟩).length = acc.toList.length := by
    rw [List.length_map, Array.length_toList, Array.length_toList]
    exact hi.1.symm
  refine ⟨.ref s.heap.objs.size, upd H s.heap.objs.size (.lst (z.cps.toList.map fun c => .str ⟨#[c]⟩)), I.laid hk (Nat.le_refl _) ⟨by rw [List.length_map, Array.length_toList]; exact len_le hz, acc.toList, c', ?_, by rw [Array.toArray_toList]; exact e⟩, rfl, q.at _ (I.hok.fresh (Nat.le_refl _))⟩
  refine vals_of_idx _ _ hl.symm fun j u hj => ?_
  obtain ⟨c, t', hc, rfl⟩ := hi.2 j u (by rw [← Array.getElem?_toList]; exact hj)
  refine ⟨.str ⟨#[c]⟩, ?_, ⟨_, rfl⟩⟩
  rw [List.getElem?_map, Array.getElem?_toList, hc]
  rfl
end
end Wg

/-! Wagon, part 33: f-strings, partition, int(text), texts cut, == of texts. -/
namespace Wg
open PySem PySem.Spec PyProof.Rows L2 PySem.W
open Builtin Builtin.Str Builtin.Int
/-- a number below a hundred by two figures -/
def two (n : Nat) : Str := ⟨#[48 + n / 10, 48 + n % 10]⟩
section
variable {prog : Program} {w : World} {A : Around} {E : Value → Shared → Prop} {s : Shared}
theorem field_02 {n : Nat} (hn : n < 60) {t : Tok} {Q : Value → Shared → Prop} (h : ∀ t' k, Q (.str (two n) t') { s with toks := k }) : wpAny (model prog w) A (formatField (.int (n : Nat) t) "02d") Q E s := by
  have c : n = 0 ∨ n = 1 ∨ n = 2 ∨ n = 3 ∨ n = 4 ∨ n = 5 ∨ n = 6 ∨ n = 7 ∨ n = 8 ∨ n = 9 ∨ n = 10 ∨ n = 11 ∨ n = 12 ∨ n = 13 ∨ n = 14 ∨ n = 15 ∨ n = 16 ∨ n = 17 ∨ n = 18 ∨ n = 19 ∨ n = 20 ∨ n = 21 ∨ n = 22 ∨ n = 23 ∨ n = 24 ∨ n = 25 ∨ n = 26 ∨ n = 27 ∨ n = 28 ∨ n = 29 ∨ n = 30 ∨ n = 31 ∨ n = 32 ∨ n = 33 ∨ n = 34 ∨ n = 35 ∨ n = 36 ∨ n = 37 ∨ n = 38 ∨ n = 39 ∨ n = 40 ∨ n = 41 ∨ n = 42 ∨ n = 43 ∨ n = 44 ∨ n = 45 ∨ n = 46 ∨ n = 47 ∨ n = 48 ∨ n = 49 ∨ n = 50 ∨ n = 51 ∨ n = 52 ∨ n = 53 ∨ n = 54 ∨ n = 55 ∨ n = 56 ∨ n = 57 ∨ n = 58 ∨ n = 59 := by omega
  rcases c with rfl | rfl | rfl | rfl | rfl | rfl | rfl | rfl | rfl | rfl | rfl | rfl | rfl | rfl | rfl | rfl | rfl | rfl | rfl | rfl | rfl | rfl | rfl | rfl | rfl | rfl | rfl | rfl | rfl | rfl | rfl | rfl | rfl | rfl | rfl | rfl | rfl | rfl | rfl | rfl | rfl | rfl | rfl | rfl | rfl | rfl | rfl | rfl | rfl | rfl | rfl | rfl | rfl | rfl | rfl | rfl | rfl | rfl | rfl | rfl
  all_goals (refine KXf.field_int (spec' := "02d") rfl (by decide +kernel) (by decide +kernel) ?_ h; kxf_run_i)
end
section
variable {X : Cx}
/-- {x:02d} of a number below sixty -/
def tFmt02 (te : TE) : TE := fun σ H Q => te σ H fun x H1 => ∃ n : Nat, x = .int (n : Nat) ∧ n < 60 ∧ Q (.str (two n)) H1
theorem pe_fmt02 {e sp : Expr} {te : TE} {pos : Pos} (he : PE X e te) (hs : PE X sp (tC (.str "02d"))) : PE X (.FormattedValue e (-1) (some sp) pos) (tFmt02 te) := by
  refine ⟨fun pins s σ H Q I h => ?_⟩
  refine wpAny_FormattedValue_spec (thn (he.run pins s σ H _ I h) fun v s1 hv => ?_)
  obtain ⟨x, H1, I1, r1, n, rfl, hn, q⟩ := hv
  obtain ⟨t, rfl⟩ := r1
  refine thn (hs.run pins s1 σ H1 (fun x H2 => x = .str "02d" ∧ H2 = H1) I1 ⟨rfl, rfl⟩) fun r s2 hr => ?_
  obtain ⟨y, H2, I2, r2, rfl, rfl⟩ := hr
  obtain ⟨t2, rfl⟩ := r2
  exact ⟨_, _, rfl, field_02 hn fun t' k => ⟨.str (two n), H2, I2.tok _, ⟨_, rfl⟩, q⟩⟩
def tJoined (ts : List TE) : TE := fun σ H Q => tJs ts Str.empty σ H fun out H1 => Q (.str out) H1
theorem pe_joinedU {v1 v2 : Expr} {rest : List Expr} {ts : List TE} {pos : Pos} (h : PJ X (v1 :: v2 :: rest) ts) : PE X (.JoinedStr (v1 :: v2 :: rest) pos) (tJoined ts) := pe_joined h
/-- partition -/
def uPartition : V → List V → Hp → VK → Prop := fun x xs H Q => ∃ a b, x = .str a ∧ xs = [.str b] ∧ (b.length == 0) = false ∧ a.length ≤ sizeLine ∧
  ∀ p, H p = none → Q (.ref p) (upd H p (.tup [.str (Txt.partition a b).1, .str (Txt.partition a b).2.1, .str (Txt.partition a b).2.2]))
theorem pe_uPartition {o e : Expr} {to te : TE} {apos pos : Pos} (ho : PE X o to) (he : PE X e te) (hs : starEach [e] X.env = [(false, eval e X.env)] := by rfl) (hbase : attributeBase o "partition" X.env (eval o X.env) = eval o X.env := by rfl) (hline : (apos.endLine == pos.line) = true := by rfl) :
    PE X (.Call (.Attribute o "partition" apos) [e] [] pos) (tM1 uPartition to te) := pe_partition ho he hs hbase hline
/-- int(text) -/
def uIntS : List V → Hp → VK → Prop := fun xs H Q => ∃ a n, xs = [.str a] ∧ PySem.intText? a = some n ∧ a.length ≤ 640 ∧ Q (.int n) H
theorem call_uIntS : CallR X (.type "int") uIntS := call_int_str
end
end Wg

/-! Wagon, part 34: divmod. -/
namespace Wg
open PySem PySem.Spec PyProof.Rows L2
def uDivmod : List V → Hp → VK → Prop := fun xs H Q => ∃ i j, xs = [.int i, .int j] ∧ CDiv i j ∧ ∀ p, H p = none → Q (.ref p) (upd H p (.tup [.int (i / j), .int (i % j)]))
theorem call_uDivmod {X : Cx} : CallR X (.builtin "divmod") uDivmod := call_divmod
end Wg

/-! Wagon, part 35: < of texts. -/
namespace Wg
open PySem PySem.Spec PyProof.Rows L2
def uLtS : V → V → Hp → VK → Prop := fun x y H Q => ∃ i j, x = .str i ∧ y = .str j ∧ Q (.bl (decide (i.cps.toList < j.cps.toList))) H
theorem op_uLtS {X : Cx} : OpR X (compareOp .Lt) uLtS := op_lt_str
end Wg

/-! Wagon, part 36: repr of a tuple of data in which empty dicts may stand, at any depth. -/
namespace Wg
open PySem PySem.Spec PyProof.Rows L2
mutual
/-- data whose lists are the law's own, with empty dicts -/
inductive Dq (K : PySem.W.Frag) (H : Hp) : V → PyData → Prop
  | dp {v : V} {d : PyData} : Dp K H v d → Dq K H v d
  | lst {a : Addr} {xs : List V} {ds : List PyData} : H a = some (.lst xs) → DqAll K H xs ds → Dq K H (.ref a) (.list ds)
  | tup {a : Addr} {xs : List V} {ds : List PyData} : Tup H a xs → DqAll K H xs ds → Dq K H (.ref a) (.tuple ds)
  | dic {a : Addr} : H a = some (.dK []) → Dq K H (.ref a) (.dict [])
inductive DqAll (K : PySem.W.Frag) (H : Hp) : List V → List PyData → Prop
  | nil : DqAll K H [] []
  | cons {v : V} {vs : List V} {d : PyData} {ds : List PyData} : Dq K H v d → DqAll K H vs ds → DqAll K H (v :: vs) (d :: ds)
end
/-- what the heap tells of one value, of a row of them -/
structure Told (P : Program) (w : World) (h : Heap) (v : Value) (d : PyData) : Prop where
  r : ∃ as, Reads h v d as
  k : d.showable = true → d.shown.length ≤ sizeLine → ∃ bs, ReadAtMost h d.depth bs ∧ ReprK P w bs h d.depth v d.shown
structure ToldAll (P : Program) (w : World) (h : Heap) (vs : List Value) (ds : List PyData) : Prop where
  r : ∃ as, ReadsAll h vs ds as
  k : PyData.showableAll ds = true → (∀ t ∈ PyData.shownAll ds, t.length ≤ sizeLine) → ∃ bs, ReadAtMost h (PyData.depthAll ds) bs ∧ ReprAllK P w bs h (PyData.depthAll ds) vs (PyData.shownAll ds)
section
variable {P : Program} {w : World} {h : Heap}
theorem ToldAll.none : ToldAll P w h [] [] := ⟨⟨_, .nil⟩, fun _ _ => ⟨[], (fun _ z => nomatch z), by simp only [PyData.shownAll]; exact .nil⟩⟩
theorem ToldAll.more {v : Value} {vs : List Value} {d : PyData} {ds : List PyData} (a : Told P w h v d) (b : ToldAll P w h vs ds) : ToldAll P w h (v :: vs) (d :: ds) := by
  obtain ⟨as, ra⟩ := a.r
  obtain ⟨bs, rb⟩ := b.r
  refine ⟨⟨_, .cons ra rb⟩, fun hs hz => ?_⟩
  rw [show PyData.showableAll (d :: ds) = (d.showable && PyData.showableAll ds) by simp only [PyData.showableAll], Bool.and_eq_true] at hs
  have es : PyData.shownAll (d :: ds) = d.shown :: PyData.shownAll ds := by simp only [PyData.shownAll]
  have ed : PyData.depthAll (d :: ds) = max d.depth (PyData.depthAll ds) := by simp only [PyData.depthAll]
  rw [es] at hz ⊢
  rw [ed]
  obtain ⟨x, hx, kx⟩ := a.k hs.1 (hz _ List.mem_cons_self)
  obtain ⟨y, hy, ky⟩ := b.k hs.2 fun t ht => hz t (List.mem_cons_of_mem _ ht)
  exact ⟨x ++ y, (hx.mono (Nat.le_max_left _ _)).append (hy.mono (Nat.le_max_right _ _)), .cons ((kx.more fun b hb => List.mem_append_left _ hb).level_le (Nat.le_max_left _ _)) (ky.more_le (fun b hb => List.mem_append_right _ hb) (Nat.le_max_right _ _))⟩
theorem Told.list {a : Addr} {o : Obj} {n : Nat} {its : List Value} {ds : List PyData} (e : h.get? a = some o) (c : o.cls = .type "list") (dd : o.data = .seq its.toArray n) (t : ToldAll P w h its ds) : Told P w h (.ref a) (.list ds) := by
  obtain ⟨as, ra⟩ := t.r
  have r : Reads h (.ref a) (.list ds) (a :: as) := .list e c dd ra
  refine ⟨⟨_, r⟩, fun hs hz => ?_⟩
  have eD : (PyData.list ds).depth = PyData.depthAll ds + 1 := by simp only [PyData.depth]
  have eS : (PyData.list ds).shown = listText (PyData.shownAll ds) := by simp only [PyData.shown]
  rw [eS] at hz ⊢
  obtain ⟨bs, hb, hk⟩ := t.k (by simpa only [PyData.showable] using hs) fun x hx => Nat.le_trans (listText_mem_le hx) hz
  have hna : a ∉ bs := not_mem_of_deeper r (by rw [eD]; omega) hb
  refine ⟨a :: bs, ReadAtMost.cons r (by rw [eD]; omega) hb, ?_⟩
  rw [eD]
  cases its with
  | nil =>
    cases ra
    rw [show PyData.shownAll [] = [] by simp only [PyData.shownAll], listText_nil]
    exact ReprK.listEmpty e c dd
  | cons x l => exact ReprK.list e c dd hna (by simpa using hk.length_eq) fun i y q => hk.item i y (by simpa using q)
theorem Told.tuple {a : Addr} {o : Obj} {n : Nat} {its : List Value} {ds : List PyData} (e : h.get? a = some o) (c : o.cls = .type "tuple") (dd : o.data = .seq its.toArray n) (t : ToldAll P w h its ds) : Told P w h (.ref a) (.tuple ds) := by
  obtain ⟨as, ra⟩ := t.r
  have r : Reads h (.ref a) (.tuple ds) as := .tuple e c dd ra
  refine ⟨⟨_, r⟩, fun hs hz => ?_⟩
  have eD : (PyData.tuple ds).depth = PyData.depthAll ds + 1 := by simp only [PyData.depth]
  have eS : (PyData.tuple ds).shown = tupleText (PyData.shownAll ds) := by simp only [PyData.shown]
  rw [eS] at hz ⊢
  obtain ⟨bs, hb, hk⟩ := t.k (by simpa only [PyData.showable] using hs) fun x hx => Nat.le_trans (tupleText_mem_le hx) hz
  have hna : a ∉ bs := not_mem_of_deeper r (by rw [eD]; omega) hb
  refine ⟨a :: bs, ReadAtMost.cons r (by rw [eD]; omega) hb, ?_⟩
  rw [eD]
  exact ReprK.tuple e c dd hna hk
end
section
variable {X : Cx} {pins : List (Addr × Obj)} {σ : L2.St} {H : Hp} {s : Shared}
theorem told_dp (I : Inv X pins σ H s) {v : V} {d : PyData} {u : Value} (h : Dp X.K H v d) (r : RelV v u) : Told X.prog X.w s.heap u d := by
  obtain ⟨as, rd⟩ := Dp.reads I d v u h r
  exact ⟨⟨_, rd⟩, fun hs hz => ReprK.of_reads rd hs (PyData.noDict_hsm (dp_noDict h)) hz⟩
theorem told_dic (I : Inv X pins σ H s) {a : Addr} (h : H a = some (.dK [])) : Told X.prog X.w s.heap (.ref a) (.dict []) := by
  obtain ⟨z, hsy, ws, kv, o, es, ep, ho, ex, hdat, _, hp, _⟩ := I.hok a _ h
  obtain ⟨r1, r2⟩ := pairs_reads (K := X.K) I hp kv (ds := []) .nil
  have rd : Reads s.heap (.ref a) (PyData.dict []) (a :: [] ++ []) := .dict ho ex.1 hdat r1 r2
  refine ⟨⟨_, rd⟩, fun hs hz => ReprK.of_reads rd hs (fun _ hm => ?_) hz⟩
  have e : sysModules = a := by simpa using hm
  rw [e] at hsy
  simp at hsy
mutual
theorem Dq.told (I : Inv X pins σ H s) : ∀ (d : PyData) (v : V) (u : Value), Dq X.K H v d → RelV v u → Told X.prog X.w s.heap u d
  | .list ds, _, _, h, r => by
    cases h with
    | dp h => exact told_dp I h r
    | lst hs ha =>
      cases r
      obtain ⟨its, rv, ⟨o, n, ho, hc, _, hd⟩, _⟩ := I.list (lst_sq (K := X.K) hs)
      exact Told.list ho hc hd (DqAll.told I ds _ its ha rv)
  | .tuple ds, _, _, h, r => by
    cases h with
    | dp h => exact told_dp I h r
    | tup hs ha =>
      cases r
      obtain ⟨its, n, rv, _, ho⟩ := hs.obj I
      exact Told.tuple ho rfl rfl (DqAll.told I ds _ its ha rv)
  | .dict _, _, _, h, r => by
    cases h with
    | dp h => exact told_dp I h r
    | dic e => cases r; exact told_dic I e
  | .none, _, _, h, r => by cases h with | dp h => exact told_dp I h r
  | .bool _, _, _, h, r => by cases h with | dp h => exact told_dp I h r
  | .int _, _, _, h, r => by cases h with | dp h => exact told_dp I h r
  | .str _, _, _, h, r => by cases h with | dp h => exact told_dp I h r
theorem DqAll.told (I : Inv X pins σ H s) : ∀ (ds : List PyData) (vs : List V) (us : List Value), DqAll X.K H vs ds → Vals vs us → ToldAll X.prog X.w s.heap us ds
  | [], _, _, h, r => by
    cases h
    cases r
    exact ToldAll.none
  | d :: ds, _, _, h, r => by
    cases h with
    | cons h1 h2 =>
      cases r with
      | cons r1 r2 => exact ToldAll.more (Dq.told I d _ _ h1 r1) (DqAll.told I ds _ _ h2 r2)
end
end
/-- repr of a tuple of such data -/
def uReprQ (K : PySem.W.Frag) : List V → Hp → VK → Prop := fun xs H Q => ∃ (a : Addr) (vs : List V) (ds : List PyData), xs = [.ref a] ∧ Tup H a vs ∧ DqAll K H vs ds ∧ fine (.tuple ds) ∧ (PyData.tuple ds).depth ≤ 100 ∧ cost (.tuple ds) ≤ 10000000 ∧ Q (.str (PyData.tuple ds).shown) H
theorem call_uReprQ {X : Cx} (hr : Rm 1 X.A) : CallR X (.builtin "repr") (uReprQ X.K) := by
  intro pins s σ H xs us Q I r h
  obtain ⟨a, vs, ds, rfl, ht, hd, hf, hdep, hz, q⟩ := h
  obtain ⟨u, rfl, rx⟩ := vals1 r
  cases rx
  obtain ⟨its, n, rv, _, ho⟩ := ht.obj I
  have t := DqAll.told I ds _ its hd rv
  have hu : X.A.units + ((PyData.tuple ds).depth + 1) < cLine := by
    have := hr.rm.un
    omega
  have eS : (PyData.tuple ds).shown = tupleText (PyData.shownAll ds) := by simp only [PyData.shown]
  have eD : (PyData.tuple ds).depth = PyData.depthAll ds + 1 := by simp only [PyData.depth]
  have hs := fine_show hf
  have hz' : (PyData.tuple ds).shown.length ≤ sizeLine := Nat.le_trans (shown_le hf) (line_big hz)
  rw [eS] at hz'
  obtain ⟨as, ra⟩ := t.r
  obtain ⟨bs, hb, hk⟩ := t.k (by simpa only [PyData.showable] using hs) fun x hx => Nat.le_trans (tupleText_mem_le hx) hz'
  have rr : Reads s.heap (.ref a) (.tuple ds) as := .tuple ho rfl rfl ra
  have hna : a ∉ bs := not_mem_of_deeper rr (by rw [eD]; omega) hb
  refine call_repr_slot (T := "tuple") (idr := "tuple.__repr__") (by omega) ⟨_, ho, rfl⟩ F.slot_tuple_repr (call_tuple_reprK ho rfl rfl hna hk hr.gd (fun b _ => Clear.nil b) (by show X.A.units + 1 + _ < cLine; omega) (fun _ _ e => e) (fun h' u tk hkp => ⟨_, _, rfl, ?_⟩) hz')
  rw [← eS]
  exact ⟨.str _, H, I.kept (t' := tk) hkp, ⟨_, rfl⟩, q⟩
end Wg

/-! Wagon, part 37: list.insert. -/
namespace Wg
open PySem PySem.Spec PyProof.Rows L2
def uInsert : V → List V → Hp → VK → Prop := fun x vs H Q => ∃ (l : Addr) (xs : List V) (i : Int) (y : V), x = .ref l ∧ vs = [.int i, y] ∧ H l = some (.lst xs) ∧ xs.length < sizeLine ∧ 0 ≤ i ∧ i < 2 ^ 63 ∧
  Q .non (upd H l (.lst (xs.take i.toNat ++ [y] ++ xs.drop i.toNat)))
theorem mt_uInsert {X : Cx} : MtR X "list.insert" uInsert := mt_insert
theorem g_insert {l : Addr} {xs : List V} {i : Int} {y : V} {H : Hp} {Q : VK} (h : H l = some (.lst xs)) (z : xs.length < sizeLine) (h0 : 0 ≤ i) (h1 : i < 2 ^ 63) (q : ∀ H', Keep [l] H H' → H' l = some (.lst (xs.take i.toNat ++ [y] ++ xs.drop i.toNat)) → Q .non H') : uInsert (.ref l) [.int i, y] H Q := ⟨l, xs, i, y, rfl, rfl, h, z, h0, h1, q _ Keep.set upd_same⟩
end Wg

/-! Wagon, part 38: t[::-1] of a tuple. -/
namespace Wg
open PySem PySem.Spec PyProof.Rows L2
section
variable {prog : Program} {w : World} {A : Around} {E : Value → Shared → Prop} {s : Shared}
theorem applied_rev {sl : Addr} {vl vu vs : Value} {n : Nat} {Q : Int × Int × Nat → Shared → Prop} (hs : s.heap.IsSliceOf sl vl vu vs) (pl : IsPart vl none) (pu : IsPart vu none) (ps : IsPart vs (some (-1)))
    (h : Q ((n : Int) - 1, -1, n) s) : wpAny (model prog w) A (Builtin.Slice.sliceApplied (.ref sl) (pure (n : Int))) Q E s := by
  obtain ⟨os, hos, hcs, hds⟩ := id hs
  unfold Builtin.Slice.sliceApplied Builtin.Slice.sliceFields
  refine wpAny_bind (wpAny_bind (wpAny_field hos hds (x := vl) rfl (wpAny_bind (wpAny_field hos hds (x := vu) rfl (wpAny_bind (wpAny_field hos hds (x := vs) rfl (wpAny_pure ?_)))))))
  refine wpAny_bind (HT.slicePart_ ps ?_)
  show wpAny _ _ (if ((-1 : Int) == 0) = true then _ else _) _ _ s
  rw [if_neg (by decide)]
  refine wpAny_bind (HT.slicePart_ pl (wpAny_bind (HT.slicePart_ pu (wpAny_bind (wpAny_pure ?_)))))
  show wpAny _ _ (pure ((n : Int) - 1, (-1 : Int), Builtin.Slice.slicePlaces ((n : Int) - 1) (-1) (-1))) _ _ s
  have e : Builtin.Slice.slicePlaces ((n : Int) - 1) (-1) (-1) = n := by
    unfold Builtin.Slice.slicePlaces
    rw [if_neg (by decide)]
    by_cases hn : (n : Int) - 1 > -1
    · rw [if_pos hn, show (- -1 : Int) = 1 by decide, Int.ediv_one]
      omega
    · rw [if_neg hn]
      omega
  rw [e]
  exact wpAny_pure h
theorem pick_rev (xs : Array Value) : ((List.range xs.size).filterMap fun (m : Nat) => xs[((xs.size : Int) - 1 + (m : Int) * (-1)).toNat]?).toArray = xs.toList.reverse.toArray := by
  have e : (List.range xs.size).filterMap (fun (m : Nat) => xs[((xs.size : Int) - 1 + (m : Int) * (-1)).toNat]?) = ((List.range xs.size).map fun k => xs.size - 1 - k).filterMap (xs[·]?) := by
    rw [List.filterMap_map]
    refine congrArg (fun f => List.filterMap f _) ?_
    funext m
    show xs[_]? = xs[xs.size - 1 - m]?
    have : ((xs.size : Int) - 1 + (m : Int) * (-1)).toNat = xs.size - 1 - m := by omega
    rw [this]
  rw [e, PySem.W.krv_range, List.filterMap_reverse, PySem.W.krv_all]
theorem rev_tuple {t sl : Addr} {items : Array Value} {vl vu vs : Value} {Q : Value → Shared → Prop} (ht : IsTup s.heap t items) (hs : s.heap.IsSliceOf sl vl vu vs) (pl : IsPart vl none) (pu : IsPart vu none) (ps : IsPart vs (some (-1)))
    (h : Q (.ref s.heap.objs.size) { s with heap := s.heap.push { cls := .type "tuple", data := .seq items.toList.reverse.toArray } })
    (hsz : items.size ≤ sizeLine) : wpAny (model prog w) A (getItem (.ref t) (.ref sl)) Q E s := by
  have htake : sizeOk (.seq items.toList.reverse.toArray) := by
    show items.toList.reverse.toArray.size ≤ sizeLine
    rw [List.size_toArray, List.length_reverse, Array.length_toList]
    omega
  obtain ⟨os, hos, hcs, hds⟩ := id hs
  have hTs : s.TypeIs (.ref sl) "slice" := ⟨os, hos, hcs⟩
  unfold getItem
  try with_reducible refine wpAny_holding ?_
  first | refine wpAny_bind (wpAny_pure ?_) | skip
  refine wpAny_bind (wpAny_sequenceKey ht.typeIs (by decide) ?_)
  refine wpAny_bind (wpAny_callSpecial?_slot (name := Str.ofString "__getitem__") ht.typeIs PyProof.Rows.slot_tuple_getitem
    (wpAny_call_entry PyProof.Rows.slot_tuple_getitem ht.typeIs entry_tuple_getitem ?_ (args_tuple_getitem _ _)))
  show wpAny _ _ (Builtin.Tuple.tupleItemsOf (.ref t) >>= _) _ _ s
  refine wpAny_bind (tupleItemsOf_ ht ?_)
  refine wpAny_bind (wpAny_typeOf hTs ?_)
  rw [if_pos (by decide)]
  refine wpAny_bind (applied_rev (n := items.size) hs pl pu ps ?_)
  have hno : ¬ ((((items.size : Int) - 1) == 0 && (-1 : Int) == 1 && items.size == items.size) = true) := by
    rw [show ((-1 : Int) == 1) = false by decide, Bool.and_false, Bool.false_and]
    exact Bool.false_ne_true
  show wpAny _ _ (if (((items.size : Int) - 1) == 0 && (-1 : Int) == 1 && items.size == items.size) = true then _ else _) _ _ s
  rw [if_neg hno, pick_rev]
  first
    | exact wpAny_bind (m := Builtin.Tuple.tupleExact _) (wpAny_newObj_type (wpAny_pure ⟨_, rfl, wpAny_pure h⟩) htake)
    | exact wpAny_bind (m := Builtin.Tuple.tupleExact _) (wpAny_newObj_type (wpAny_bind (wpAny_pure (wpAny_pure ⟨_, rfl, wpAny_pure h⟩))) htake)
    | exact wpAny_bind (wpAny_bind (m := Builtin.Tuple.tupleExact _) (wpAny_newObj_type (wpAny_pure (wpAny_pure ⟨_, rfl, wpAny_pure h⟩)) htake))
    | exact wpAny_bind (wpAny_bind (m := Builtin.Tuple.tupleExact _) (wpAny_newObj_type (wpAny_pure ⟨_, rfl, wpAny_pure h⟩) htake))
end
section
variable {X : Cx}
/-- xs[::-1], of a list or a tuple -/
def tRevT (K : PySem.W.Frag) (te : TE) : TE := fun σ H Q => te σ H fun x H1 => ∃ a xs, x = .ref a ∧ Tup H1 a xs ∧ Mt H1 xs.reverse Q
theorem pe_revT {e : Expr} {te : TE} {k : Nat} {p1 p2 p3 pos : Pos} (he : PE X e te) : PE X (.Subscript e (.Slice none none (some (.UnaryOp .USub (.Constant (.int 1) k p1) p2)) p3) pos) (tRevT X.K te) := by
  refine ⟨fun pins s σ H Q I h => ?_⟩
  refine Subscript_ (thn (he.run pins s σ H _ I h) fun v s1 ⟨x, H1, I1, r1, q1⟩ => ?_)
  obtain ⟨a, xs, ex, hx, q⟩ := q1
  subst ex
  cases r1
  have hst : PO X (some (.UnaryOp .USub (.Constant (.int 1) k p1) p2)) (tPart (tUn (rU fun i => .int (-i)) (tC (.int 1)))) := po_some (pe_un un_neg pe_int)
  refine wpAny_Slice (thn (po_none.run pins s1 σ H1 (fun o H2 => o = none ∧ H2 = H1) I1 ⟨rfl, rfl⟩) fun vl s2 ⟨l, H2, I2, pl, el, e2⟩ => ?_)
  subst el e2
  refine thn (po_none.run pins s2 σ H2 (fun o H3 => o = none ∧ H3 = H2) I2 ⟨rfl, rfl⟩) fun vu s3 ⟨u, H3, I3, pu, eu, e3⟩ => ?_
  subst eu e3
  refine thn (hst.run pins s3 σ H3 (fun o H4 => o = some (-1) ∧ H4 = H3) I3 ⟨1, rfl, -1, rfl, rfl, rfl⟩) fun vs s4 ⟨o, H4, I4, ps, eo, e4⟩ => ?_
  subst eo e4
  have I5 : Inv X pins σ H4 { s4 with heap := s4.heap.push { cls := .type "slice", data := .fields #[vl, vu, vs] } } := I4.kept (t' := s4.toks) fun b ob q => Heap.get?_push_of_some _ q
  obtain ⟨its, r, ht, hz⟩ := I5.tuple hx.sq
  have hlen := r.length
  show wpAny (model X.prog X.w) X.A (subscriptTail e (.Slice none none (some (.UnaryOp .USub (.Constant (.int 1) k p1) p2)) p3) (.ref a) (.ref s4.heap.objs.size)) (EP X pins σ Q) X.xe { s4 with heap := s4.heap.push { cls := .type "slice", data := .fields #[vl, vu, vs] } }
  refine tail_any (ops := [.ref a, .ref s4.heap.objs.size]) ht.typeIs (PyProof.Rows.slot_tuple_getitem.lookup) ?_ (by with_unfolding_all rfl)
  refine rev_tuple ht (Heap.IsSliceOf.new _ vl vu vs) pl pu ps ?_ (by rw [List.size_toArray]; omega)
  exact mt_end (t' := s4.toks) I5 r.reverse (by rw [List.length_reverse]; exact hz) q
end
theorem g_revT {K : PySem.W.Frag} {te : TE} {σ : L2.St} {H : Hp} {Q : VK} : tRevT K te σ H Q ↔ te σ H fun x H1 => ∃ a xs, x = .ref a ∧ Tup H1 a xs ∧ Mt H1 xs.reverse Q := Iff.rfl
end Wg

/-! Wagon, part 39: len(set(t)) of a tuple of texts, some perhaps told twice. -/
namespace Wg
open PySem PySem.Spec PyProof.Rows L2
/-- how many unlike ones stand among the first i -/
def cntD {K : Type} [DecidableEq K] (ks : List K) : Nat → Nat
  | 0 => 0
  | i + 1 => match ks[i]? with
    | some k => if k ∈ ks.take i then cntD ks i else cntD ks i + 1
    | none => cntD ks i
theorem cntD_succ {K : Type} [DecidableEq K] {ks : List K} {i : Nat} {k : K} (e : ks[i]? = some k) : cntD ks (i + 1) = if k ∈ ks.take i then cntD ks i else cntD ks i + 1 := by
  show (match ks[i]? with | some k => if k ∈ ks.take i then cntD ks i else cntD ks i + 1 | none => cntD ks i) = _
  rw [e]
theorem cntD_le {K : Type} [DecidableEq K] (ks : List K) : ∀ i, cntD ks i ≤ i
  | 0 => Nat.le_refl _
  | i + 1 => by
    have := cntD_le ks i
    unfold cntD
    split
    · split <;> omega
    · omega
theorem cntD_full {K : Type} [DecidableEq K] (ks : List K) : ∀ i, i ≤ ks.length → (cntD ks i = i ↔ (ks.take i).Nodup)
  | 0, _ => by simp [cntD]
  | i + 1, h => by
    have ih := cntD_full ks i (by omega)
    have le := cntD_le ks i
    have e : ks[i]? = some ks[i] := List.getElem?_eq_getElem (by omega)
    have tk : ks.take (i + 1) = ks.take i ++ [ks[i]] := by rw [List.take_succ, e]; rfl
    rw [tk, List.nodup_append]
    unfold cntD
    rw [e]
    dsimp only
    split
    · rename_i hm
      constructor
      · intro z; omega
      · intro z; exact (z.2.2 _ hm _ (List.mem_singleton.mpr rfl) rfl).elim
    · rename_i hm
      constructor
      · intro z
        refine ⟨ih.mp (by omega), by simp, fun a ha b hb c => ?_⟩
        rw [List.mem_singleton.mp hb] at c
        exact hm (c ▸ ha)
      · intro z
        have := ih.mpr z.1
        omega
section
variable {P : Program} {w : World} {A : Around} {R : Result → Shared → Prop} {it : Addr} {near own : List Addr} {G : Array GenState → Array GenState → Prop} {n : Nat} {Pv : Nat → Value → Prop} {St : Nat → Shared → Prop}
variable {K : Type} [DecidableEq K] [BEq K] [LawfulBEq K] {kd : KeyKind P w K}
/-- what set.update does over what walks through keys of one kind -/
theorem put_any (W : WalksS P w A.in1 it near own G n Pv St) {c : Addr} (hc : c ∉ near) {ks : List K} (hl : ks.length = n) (few : n + 1 < scanBound)
    (hv : ∀ i v, Pv i v → ∃ h : i < ks.length, kd.is ks[i] v = true ∧ v.scannable = true) :
    ∀ (m i : Nat), i + m = n → ∀ s : Shared, St i s → s.heap.SetOf kd c (fun k => decide (k ∈ ks.take i)) (cntD ks i) →
      (∀ s', Moved (c :: own) G s s' → s'.heap.SetOf kd c (fun k => decide (k ∈ ks)) (cntD ks n) → R (.ok (.ret .none)) s') →
      codeAny (model P w) A (.builtin "set.update.loop" ⟨[.ref c, .ref it], []⟩) R s := by
  have nc : c ∉ own := fun h => hc (W.sub c h)
  have up : ∀ {h h' : Heap} {S : K → Bool} {q : Nat}, h.SetOf kd c S q → (∀ o, h.get? c = some o → h'.get? c = some o) → h'.SetOf kd c S q := fun x k => by
    obtain ⟨o, es, ep, t, ho, x⟩ := x
    exact ⟨o, es, ep, t, k o ho, x⟩
  intro m
  induction m with
  | zero =>
    intro i e s st hS fin
    have e : i = n := e
    subst e
    refine codeAny_builtin PyProof.Rows.F.entry_set_update_loop ?_
    rw [Around.under_plainId PyProof.Rows.F.plain_set_update_loop]
    refine wpAny_bind (m := pyNext (.ref it)) (W.done s _ _ st fun s' mv => wpAny_pure (fin s' (mv.mono fun _ h => .tail _ h) ?_))
    have := up hS fun o ho => mv.heap c o nc ho
    have all : ks.take i = ks := by rw [← hl, List.take_length]
    simpa only [all] using this
  | succ m ih =>
    intro i e s st hS fin
    refine codeAny_builtin PyProof.Rows.F.entry_set_update_loop ?_
    rw [Around.under_plainId PyProof.Rows.F.plain_set_update_loop]
    refine wpAny_bind (m := pyNext (.ref it)) (W.item i s _ _ (by omega) st fun v s1 pv st1 mv => ?_)
    obtain ⟨hi, hk, sc⟩ := hv i v pv
    refine wpAny_bind (m := holding [v] (setAdd c v)) (wpAny_holding ?_)
    unfold setAdd
    refine wpAny_holding (wpAny_bind (kd.pyHash hk ?_))
    have cl := cntD_le ks i
    refine wpAny_setAddHashed_of (s := { s1 with toks := s1.toks + 1 }) hk sc (up hS fun o ho => mv.heap c o nc ho) (by omega) fun h2 same hS2 => ?_
    have e : ks[i]? = some ks[i] := List.getElem?_eq_getElem hi
    have hS3 : h2.SetOf kd c (fun k => decide (k ∈ ks.take (i + 1))) (cntD ks (i + 1)) := by
      refine PyProof.Rows.SetOf_congr hS2 (fun k => ?_) ?_
      · rw [List.take_succ, List.getElem?_eq_getElem hi]
        simp only [Option.toList_some, List.mem_append, List.mem_singleton, Bool.decide_or]
      · show _ = cntD ks (i + 1)
        rw [cntD_succ e]
        by_cases hm : ks[i] ∈ ks.take i
        · rw [if_pos (decide_eq_true hm), if_pos hm]
        · rw [if_neg (by rw [decide_eq_true_eq]; exact hm), if_neg hm]
    refine wpAny_pure ⟨plainId_quiet PyProof.Rows.F.plain_set_update_loop _, ih (i + 1) (by omega) _ (W.frame _ s1 _ _ st1 (Nat.le_succ _) fun b hb o ho => ?_) hS3 fun s2 mv2 hS4 => ?_⟩
    · rw [same.2 b fun x => hc (x ▸ hb)]
      exact ho
    · refine fin s2 (Moved.trans W.gtrans ((mv.mono fun _ h => .tail _ h).then_heap (Nat.le_succ _) fun b o hb ho => ?_) mv2) hS4
      rw [same.2 b fun x => hb (x ▸ .head _)]
      exact ho
end
section
variable {P : Program} {w : World} {A : Around} {E : Value → Shared → Prop} {s : Shared} {K : Type} [DecidableEq K] [BEq K] [LawfulBEq K] {kd : KeyKind P w K}
theorem set_ofT {l : Addr} {vs : Array Value} {ks : List K} {Q : Value → Shared → Prop} (hh : A.handled = none) (hl : s.heap.IsTuple l vs) (hn : ks.length = vs.size) (few : vs.size + 1 < scanBound)
    (hv : ∀ (i : Nat) (v : Value), vs[i]? = some v → ∃ h : i < ks.length, kd.is ks[i] v = true ∧ v.scannable = true)
    (q : ∀ (h : Heap) (t : Nat), h.SetOf kd s.heap.objs.size (fun k => decide (k ∈ ks)) (cntD ks vs.size) → (∀ b o, b < s.heap.objs.size → s.heap.get? b = some o → h.get? b = some o) → Q (.ref s.heap.objs.size) { s with heap := h, toks := t }) :
    wpAny (model P w) A (call (.type "set") [.ref l]) Q E s := by
  obtain ⟨cl, rest, hmro⟩ := PySem.F.called_set.mro
  have f1 := PySem.F.called_set.made
  have f2 := PySem.F.called_set.sub
  have f3 := PySem.F.called_set.notType
  have f4 := PySem.F.called_set.canCreate
  have f5 := PySem.F.typeCall_set_1 (.ref l)
  have f6 := PySem.F.called_set.init.lookup
  have f7 := PySem.F.called_set.init.bind (.ref s.heap.objs.size)
  refine wpAny_call (codeAny_of_tree ?_)
  change wpAny _ _ (callAny (.type "set") _) _ _ _
  refine wpAny_pure ⟨Code.quiet_builtin _ (by decide +kernel), codeAny_builtin PySem.F.entry_type_call ?_⟩
  rw [Around.under_plain (weight_type_call_type "set" [.ref l] []) rfl]
  repeat (any_goals (first | assumption | wp_step))
  refine codeAny_mono (code_set_new_1 (.ref l) (E := E) (Q₁ := fun r s1 => ∃ b : Bool, r = .ref s.heap.objs.size ∧ s1 = { s with heap := s.heap.push { cls := .type "set", dict := none, data := .set #[] 0 (.fresh 0 0 b) } }) fun b => ⟨b, rfl, rfl⟩) fun r s1 hr => ?_
  rcases r with x | fl
  · exact hr
  cases fl with
  | ret r =>
    obtain ⟨b, rfl, rfl⟩ := hr
    have at0 : (s.heap.push { cls := .type "set", dict := none, data := .set #[] 0 (.fresh 0 0 b) }).get? s.heap.objs.size = some { cls := .type "set", dict := none, data := .set #[] 0 (.fresh 0 0 b) } := Heap.get?_push_size _ rfl
    have ty0 : Shared.TypeIs { s with heap := s.heap.push { cls := .type "set", dict := none, data := .set #[] 0 (.fresh 0 0 b) } } (.ref s.heap.objs.size) "set" := ⟨_, at0, rfl⟩
    repeat (any_goals (first | assumption | wp_step))
    refine codeAny_mono (codeAny_call_builtin (R := wants (fun r s2 => r = .none ∧ ∃ h t, s2 = { s with heap := h, toks := t } ∧ h.SetOf kd s.heap.objs.size (fun k => decide (k ∈ ks)) (cntD ks vs.size) ∧
      ∀ b o, b < s.heap.objs.size → s.heap.get? b = some o → h.get? b = some o) E) PySem.F.called_set.init.plain PySem.F.entry_set_init (check_set_init_1 ty0 ?_)) fun r2 s2 hr2 => ?_
    · obtain ⟨⟨kc, kd1, kdat, ksl⟩, g1, g2, nl, g3⟩ := hl
      simp only at g2 g3
      subst g2 g3
      have t1 := PySem.F.sub_tuple_set
      have t2 := PySem.F.sub_tuple_frozenset
      have t3 : (Value.type "tuple" == Value.type "dict") = false := by decide
      have g4 := Heap.get?_push_of_some ({ cls := .type "set", dict := none, data := .set #[] 0 (.fresh 0 0 b) } : Obj) g1
      have here : (s.heap.push { cls := .type "set", dict := none, data := .set #[] 0 (.fresh 0 0 b) }).IsTuple l vs := ⟨_, g4, rfl, nl, rfl⟩
      have low : l < s.heap.objs.size := Heap.lt_size g1
      unfold Builtin.«set.__init__» noKeywords Builtin.Frozenset.updateFrom
      generalize hpy : pyIter = py
      wp_walk
      subst hpy
      refine wpAny_pyIter_tuple here (wpAny_bind (wpAny_runValue ?_))
      have sz : (s.heap.push { cls := .type "set", dict := none, data := .set #[] 0 (.fresh 0 0 b) }).objs.size = s.heap.objs.size + 1 := Heap.size_push _ _
      have apart : l ≠ s.heap.objs.size + 1 := Nat.ne_of_lt (Nat.lt_succ_of_lt low)
      have own : s.heap.objs.size ≠ s.heap.objs.size + 1 := Nat.ne_of_lt (Nat.lt_succ_self _)
      have quiet : A.in1.in1.in1.handled = none := by simp [hh]
      refine put_any (kd := kd) ((Walks.tuple quiet _ l (by rw [sz]; exact apart) vs).toS) (c := s.heap.objs.size) (by rw [sz]; simp only [List.mem_cons, List.not_mem_nil, or_false]; exact fun x => x.elim own (Nat.ne_of_gt low)) hn few hv vs.size 0 (by omega) _
        ⟨⟨_, Heap.get?_push_size _ rfl, rfl, rfl⟩, here.push _⟩ ?_ fun s2 mv hS => ?_
      · exact PyProof.Rows.SetOf_congr ((PyProof.Rows.setObjOf_fresh (knd := kd) b).setOf (Heap.get?_push_of_some _ at0) (by unfold scanBound; omega)) (fun k => by simp) rfl
      · obtain ⟨h2, gg, dd, tt, oo⟩ := s2
        obtain rfl : gg = s.gens := mv.gens
        obtain rfl : dd = s.drawn := mv.drawn
        obtain rfl : oo = s.os := mv.os
        refine wpAny_pure (wpAny_pure ⟨rfl, h2, tt, rfl, hS, fun a o ha ho => mv.heap a o ?_ (Heap.get?_push_of_some _ (Heap.get?_push_of_some _ ho))⟩)
        rw [sz]
        simp only [List.mem_cons, List.not_mem_nil, or_false]
        exact fun x => x.elim (Nat.ne_of_lt ha) (Nat.ne_of_lt (Nat.lt_succ_of_lt ha))
    · rcases r2 with x | f2
      · exact hr2
      cases f2 with
      | ret r =>
        obtain ⟨rfl, h, t, rfl, hS, old⟩ := hr2
        repeat (any_goals (first | assumption | wp_step))
        exact q _ _ hS old
      | _ => exact hr2.elim
  | _ => exact hr.elim
end
section
variable {X : Cx}
/-- len(set(t)), t a tuple of texts -/
def tLenTextsT (K : PySem.W.Frag) (ta : TE) : TE := fun σ H Q => ta σ H fun x H1 => ∃ (l : Addr) (xs : List Str), x = V.ref l ∧ Tup H1 l (xs.map V.str) ∧ xs.length < 64 ∧ Q (.int (cntD xs xs.length : Nat)) H1
theorem pe_lenTextsT {a : Expr} {ta : TE} {p p2 q pos : Pos} (calm : X.calm = true) (g1 : Gl X "len") (m1 : X.mg "len" = none) (g2 : Gl X "set") (m2 : X.mg "set" = none) (pa : PE X a ta)
    (each : starEach [a] X.env = (false, eval a X.env) :: starEach [] X.env := by rfl) : PE X (.Call (.Name "len" p) [.Call (.Name "set" p2) [a] [] q] [] pos) (tLenTextsT X.K ta) := by
  refine ⟨fun pins s σ H Q I h => Call_ (ld_blt I g1 m1 boot_len (PyProof.Rows.callWith_builtin1 (PyProof.Rows.args_cons ?_ rfl) rfl rfl))⟩
  refine Call_ (ld_blt I g2 m2 boot_set (PyProof.Rows.callWith_type1 (PyProof.Rows.args_cons (thn (pa.run pins s σ H _ I h) fun v s1 ⟨x, H1, J, r, hx⟩ => PyProof.Rows.args_nil ?_) each) each rfl))
  obtain ⟨l, xs, rfl, tu, few, hx⟩ := hx
  cases r
  obtain ⟨vs, rv, lv, _⟩ := J.tuple (tu.sq (K := X.K))
  have sz : xs.length = vs.toArray.size := by rw [List.size_toArray, ← rv.length, List.length_map]
  have cl := cntD_le xs xs.length
  refine set_ofT (kd := strKind X.prog X.w) (J.ok.hd calm) (show s1.heap.IsTuple l vs.toArray from lv) sz (by unfold scanBound; omega) (fun i v e => text_at rv i v (by simpa using e)) fun h2 t hS old => PyProof.Rows.args_nil ?_
  obtain ⟨o, es, ep, tb, ho, ex, hd, _, _, _, fit, hn⟩ := hS
  rw [← sz] at hn
  exact call_len_set ho ex hd fit (by rw [hn]; omega) ⟨.int (cntD xs xs.length : Nat), H1, (J.kept fun b o e => old b o (Heap.lt_size e) e).tok _, ⟨_, by rw [hn]⟩, hx⟩
end
end Wg

/-! Wagon, part 40: exceptions of own classes: raised, let out by defs, caught, asked. -/
namespace Wg
open PySem PySem.Spec PyProof.Rows L2

/-! ### calls that may let an exception out -/
section
variable {X : Cx} {CX : CXT} {k : Nat} {f : Addr} {fd : FuncData} {ps : List Str} {sp : Sp} {E : L2.St → XK} {x : Str} {p pos : Pos} {e : Expr} {es : List Expr} {t : TA}
theorem go_fnS {pins : List (Addr × Obj)} {σ : L2.St} {H : Hp} {s : Shared} {Q : VK} {us : List Value} {vs : List V}
    (F : Keeps X.prog X.w X.K X.mg X.base CX k f fd ps sp) (hr : Rm k X.A) (hb : Binds X.K fd ps []) (hx : PassesAt CX X σ (E σ))
    (I : Inv X pins σ H s) (r : Vals vs us) (h : sp vs H Q (E σ)) : wpAny (model X.prog X.w) X.A (call (.ref f) us) (EP X pins σ Q) X.xe s := by
  have hl : (us ++ []).length = ps.length := by
    rw [List.append_nil, ← r.length]
    exact F.len _ _ _ _ h
  have hbs := hb s us I.kIn hl
  rw [List.append_nil] at hbs
  have run := F.run X.A X.stack s H ⟨us, []⟩ us vs Q (E σ) hr I.env0 hbs r h
  refine wpAny_call (codeAny_mono run fun res s' hq => ?_)
  match res, hq with
  | .error e, hq => exact hx pins H s e s' I hq
  | .ok (.ret u), hq => exact I.after hq
  | .ok .next, hq => exact hq.elim
  | .ok .brk, hq => exact hq.elim
  | .ok .cont, hq => exact hq.elim
def tGoS (sp : Sp) (E : L2.St → XK) (t : TA) : TE := fun σ H Q => t σ H fun vs H1 => sp vs H1 Q (E σ)
theorem pe_goS (F : Keeps X.prog X.w X.K X.mg X.base CX k f fd ps sp) (hr : Rm k X.A) (hg : Gl X x) (hm : X.mg x = some (.ref f)) (hk : PySem.W.keepIn X.K (.ref f) = true)
    (hb : Binds X.K fd ps []) (hx : ∀ σ, PassesAt CX X σ (E σ)) (ha : PA X (e :: es) t) (hdb : (x == ("__debug__" : Str)) = false := by decide)
    (he : starEach (e :: es) X.env = (false, eval e X.env) :: starEach es X.env := by rfl) (hpl : (backTo pos (starEach es X.env)).any (·.1) = false := by rfl) :
    PE X (.Call (.Name x p) (e :: es) [] pos) (tGoS sp E t) := by
  constructor
  intro pins s σ H Q I h
  refine wpAny_Call_Name_kw (ld_glob I hg hm ?_ hdb)
  have args := ha.run pos pins s σ H _ I h
  refine PySem.W.callWith_K (h₀ := X.base) I.ok.mod.kin hk (thn args fun us s1 hh => ?_) he hpl
  obtain ⟨vs, H1, I1, r, q⟩ := hh
  exact ⟨I1.kIn, go_fnS F hr hb (hx σ) I1 r q⟩
end

/-! ### defs that may raise -/
section
variable {P : Program} {w : World} {K : PySem.W.Frag} {mg : Str → Option Value} {b : Heap}
theorem keepsX {x qual : Str} {st : Stmt} {f : Addr} {fd : FuncData} {N ps : List Str} {k : Nat} {sp : Sp} (F : Fun K x qual st f fd) (S : FnScope N ps (defScope st))
    (len : ∀ vs H Q E, sp vs H Q E → vs.length = ps.length)
    (body : ∀ (cdv : Value) (A : Around) (o : List Env) (s : Shared) (H : Hp) (vs : List V) (Q : VK) (E : XK), Rm k (A.deeper (envOfC qual (defScope st) s.heap.objs.size f cdv)) → sp vs H Q E →
      ∃ t, PSs (cxOf (L2.CX P w) P w K mg b N qual (defScope st) f cdv A o s H E) (defBody st) t ∧ t { nx := fun _ H' => Q .non H', rt := Q } (start N vs) H) :
    Keeps P w K mg b (L2.CX P w) (k + 1) f fd ps sp := keeps_of F S len body
theorem keepsTX {x qual : Str} {st : Stmt} {f c : Addr} {fd : FuncData} {N ps : List Str} {k : Nat} {sp : Sp} (F : Fun K x qual st f fd) (hc : fd.code = .ref c) (S : FnScope N ps (defScope st))
    (len : ∀ vs H Q E, sp vs H Q E → vs.length = ps.length)
    (body : ∀ (A : Around) (o : List Env) (s : Shared) (H : Hp) (vs : List V) (Q : VK) (E : XK), Rm k (A.deeper (envOfC qual (defScope st) s.heap.objs.size f (.ref c))) → sp vs H Q E →
      ∃ t, PSs (cxOf (L2.CX P w) P w K mg b N qual (defScope st) f (.ref c) A o s H E) (defBody st) t ∧ t { nx := fun _ H' => Q .non H', rt := Q } (start N vs) H) :
    Keeps P w K mg b (L2.CX P w) (k + 1) f fd ps sp := by
  obtain ⟨oc, od, kV, doc, pm, an, cdv, ct, osl, rfl, lk, hcd⟩ := F.ex
  obtain rfl : cdv = .ref c := hc
  refine ⟨len, fun A o s H g us vs Q E hr e0 hb r hsp => ?_⟩
  have hl := len _ _ _ _ hsp
  have up : ∀ {a : Addr} {ob : Obj}, b.get? a = some ob → s.heap.get? a = some ob := fun {a ob} q => (e0.bs a ob q).1
  have inK : K.In s.heap := e0.mod.kin.keeps fun _ _ q => up q
  have nolim : s.heap.NoLimit := e0.mod.nolimit.keeps fun _ _ q => up q
  have kinds : ∀ y ∈ ps.zip us, (defScope st).names.lookup y.1 = some .local ∨ ((defScope st).names.lookup y.1 = some .cell ∧ ((cellsFrom (s.heap.objs.size + 1) (defScope st).names []).lookup y.1).isSome = true) := by
    rintro ⟨n, v⟩ hy
    have hn := S.par n (List.of_mem_zip hy).1
    exact hn.imp id fun q => ⟨q, PySem.W.cellsFrom_some _ _ _ (.inl q)⟩
  have recd := PySem.W.codeRec_of inK hcd
  refine codeAny_call_function hr.rm.depth (inK _ _ lk) rfl S.co S.gen rfl recd (hb _ _ _ _ ?_)
  refine wpAny_newFunctionEnv_cells S.kind kinds ?_
  intro env he s1 y
  subst he
  refine ⟨nolim.keeps y.toInCall.keep, codeAny_func ?_⟩
  obtain ⟨t, ht, hq⟩ := body A o s H vs Q E (hr.deep _) hsp
  have I := inv_start (CX := L2.CX P w) (E := E) S hr.rm.hd e0 hl r y
  refine wpAny_mono (ht.run [] s1 (start N vs) H _ I hq) ?_ fun _ _ q => q
  intro fl s' hs
  match fl, hs with
  | .ret u, hs =>
    obtain ⟨v, σ', H', J, rv, q⟩ := hs
    exact ⟨v, H', J.os, J.bare, J.base, J.hok, rv, q⟩
  | .next, hs =>
    obtain ⟨σ', H', J, q⟩ := hs
    exact ⟨.non, H', J.os, J.bare, J.base, J.hok, rfl, q⟩
  | .brk, hs => exact hs.elim fun _ z => z.elim fun _ y => y.2.elim
  | .cont, hs => exact hs.elim fun _ z => z.elim fun _ y => y.2.elim
end

/-! ### an own class's base, named: W.__init__(self, ..) where W has none of its own -/
structure BasW (K : PySem.W.Frag) (W : Addr) : Prop where
  ga : PySem.W.specialIn K (.ref W) "__getattribute__" = some (some (.builtin "type.__getattribute__"))
  rd : PySem.W.readsIn K W (.type "type") = true
  fi : PySem.W.findCls K (.ref W) (.type "type") "__init__" = some (.val (.builtin "ValueError.__init__"))
section
variable {X : Cx} {e : Expr} {es : List Expr} {ta : TA} {p1 p2 pos : Pos} {x : Str} {W : Addr}
theorem pe_winit {pl : Sem Bool} (B : BasW X.K W) (hg : Gl X x) (hm : X.mg x = some (.ref W)) (ha : PA X (e :: es) ta)
    (hc : eval (.Call (.Attribute (.Name x p1) "__init__" p2) (e :: es) [] pos) X.env = (do
      let ov ← eval (.Name x p1) X.env
      standAt p2.atName
      let (f, first) ← holding [ov] (getMethod ov "__init__" pl)
      callWith pos f first (backTo pos (starEach (e :: es) X.env)) (backToKw pos (keywordEach [] X.env))) := by rfl)
    (hdb : (x == ("__debug__" : Str)) = false := by decide)
    (he : starEach (e :: es) X.env = (false, eval e X.env) :: starEach es X.env := by rfl) (hpl : (backTo pos (starEach es X.env)).any (·.1) = false := by rfl) :
    PE X (.Call (.Attribute (.Name x p1) "__init__" p2) (e :: es) [] pos) (tVeI X.K ta) := by
  refine ⟨fun pins s σ H Q I h => ?_⟩
  refine PySem.W.methodCall_KW (ld_glob I hg hm ?_ hdb) hc
  refine PySem.W.method_cls I.kIn B.ga (PySem.W.cls_value I.kIn B.rd B.fi (by decide +kernel) ?_)
  show wpAny _ _ (callWith pos (Value.builtin "ValueError.__init__") [] (backTo pos (starEach (e :: es) X.env)) []) _ _ _
  refine PyProof.Rows.callWith_method1 (thn (ha.run pos pins _ σ H _ (I.tok _) h) fun us s1 ⟨vs, H1, I1, r1, a, C, ws, ev, hl, T, ea, q⟩ => ?_) he hpl
  subst ev
  cases r1 with
  | @cons _ u0 _ ur ra rw' =>
    obtain rfl : u0 = Value.ref a := ra
    have hlen : ur.length ≤ sizeLine := by
      rw [← Paired.length rw', sizeLine_eq]
      omega
    exact oinit_ok T I1 ea hlen fun s' J => ⟨.non, H1, J, rfl, q⟩
end

/-! ### raise -/
def tRaiseE (E : XK) (t : L2.St → Hp → XK → Prop) : TS := fun _ σ H => t σ H fun cls d H' => E cls d H'
/-- raise within a def that may let it out -/
theorem ps_raiseE {X : Cx} {E : XK} {e : Expr} {t : L2.St → Hp → XK → Prop} {pos : Pos} (hc : X.calm = true) (tk : Takes X (fun cls d _ H => E cls d H)) (he : PMk X e t) : PS X (.Raise (some e) none pos) (tRaiseE E t) := ps_raise hc tk he
theorem upd_fun {H1 H2 : Hp} {a d : Addr} {o : HO} (na : H1 a = none) (nd : d ≠ a) (h : ∀ b, b ≠ a → b ≠ d → H2 b = H1 b) : upd (del H2 a) d o = upd H1 d o := by
  funext b
  by_cases hd : b = d
  · rw [hd, upd_same, upd_same]
  · rw [upd_ne hd, upd_ne hd]
    by_cases ha : b = a
    · rw [ha, del_same, na]
    · rw [del_ne ha, h b ha hd]
/-- what an __init__ that keeps its arguments as fields promises -/
def spIni (K : PySem.W.Frag) (C : Addr) (fs : List Str) : Sp := fun vs H Q _ => ∃ (a : Addr) (ws : List V), vs = .ref a :: ws ∧ ws.length = fs.length ∧ H a = some (exo a C none) ∧
  ∀ d H', H d = none → d ≠ a → H' a = some (exo a C (some d)) → H' d = some (exd d (fs.zip ws).reverse) → (∀ b, b ≠ a → b ≠ d → H' b = H b) → Q .non H'
theorem g_mkO {C : Addr} {K : PySem.W.Frag} {fs : List Str} {ws : List V} {σ : L2.St} {H : Hp} {Q : XK} (l : ws.length = fs.length) (l2 : ws.length ≤ 1000) (q : ∀ d, H d = none → Q (.ref C) (some d) (upd H d (.xd (fs.zip ws).reverse))) :
    ws.length ≤ 1000 ∧ ∀ a, H a = none → spIni K C fs (.ref a :: (ws ++ [])) (upd H a (exo a C none))
      (fun v H2 => v = .non ∧ ∃ (d : Addr) (gs : List (Str × V)), H2 a = some (exo a C (some d)) ∧ H2 d = some (exd d gs) ∧ H d = none ∧ Q (.ref C) (some d) (upd (del H2 a) d (.xd gs))) (fun _ _ _ => False) := by
  refine ⟨l2, fun a na => ⟨a, ws, by rw [List.append_nil], l, upd_same, fun d H' nd ne ea ed same => ⟨rfl, d, _, ea, ed, ?_, ?_⟩⟩⟩
  · rw [upd_ne ne] at nd
    exact nd
  · rw [upd_ne ne] at nd
    rw [upd_fun na ne fun b h1 h2 => by rw [same b h1 h2, upd_ne h1]]
    exact q d nd

/-! ### asked in an except suite -/
structure ExA (K : PySem.W.Frag) (C : Addr) : Prop where
  cl : (PySem.W.clsIn K C).isSome = true
  ga : PySem.W.findIn K (.ref C) "__getattribute__" = some (some (.builtin "BaseException.__getattribute__"))
  gg : PySem.W.findIn K (.ref C) "__getattr__" = some none
  ex : PySem.W.subIn K (.ref C) (.type "BaseException") = some true
  hd : PySem.W.hasDictIn K C = true
  kl : PySem.W.findIn K (.ref C) "__class__" = some (some (.builtin "object.__class__"))
  kn : PySem.W.specialIn K (.builtin "object.__class__") "__get__" = some (some (.builtin "getset_descriptor.__get__"))
  kt : PySem.W.takesIn K (.builtin "object.__class__") = some true
  km : PySem.W.mroIn K C (.type "object") = some true
theorem ExA.xf {K : PySem.W.Frag} {C : Addr} (T : ExA K C) : XfC K C := ⟨T.ga, T.gg, T.ex, T.hd⟩
/-- the caught exception in the suite: its class, its fields -/
def Caught (K : PySem.W.Frag) (cls : Value) (d : Option Addr) (H : Hp) (C : Addr) (fs : List (Str × V)) : Prop := cls = .ref C ∧ ExA K C ∧ ∃ dd, d = some dd ∧ H dd = some (.xd fs)
theorem caught_at {X : Cx} {a C : Addr} {oe : Obj} {cls : Value} {d : Option Addr} {pn pins : List (Addr × Obj)} {σ : L2.St} {H : Hp} {s : Shared} {fs : List (Str × V)} (hz : Zc cls d oe) (hf : ∃ vs, oe.data = .fields vs)
    (I : Inv (X.suite a ((a, oe) :: pn)) pins σ H s) (h : Caught X.K cls d H C fs) : ∃ od, PySem.W.InstAt s.heap a oe C (some od) ∧ ∀ n v, fs.lookup n = some v → ∃ u, RelV v u ∧ PySem.W.lookIn n od = some (some u) := by
  obtain ⟨ec, T, dd, ed, ea⟩ := h
  subst ec
  subst ed
  obtain ⟨ha, _⟩ := I.pin (a, oe) (List.mem_append_left _ List.mem_cons_self)
  obtain ⟨vs, hd⟩ := hf
  have hx : ObjOk X.prog X.w H s.heap dd (.xd fs) := I.hok dd _ ea
  obtain ⟨mA, hns, hr⟩ := hx
  obtain ⟨od, ho, hl⟩ := lookIn_ns hns
  have J : PySem.W.InstAt s.heap a oe C (some od) := ⟨ha, hz.1, by unfold PySem.W.notCls; rw [hd] <;> rfl, by rw [hz.2]; exact ho⟩
  refine ⟨od, J, fun n v l => ?_⟩
  obtain ⟨u, hu, ru⟩ := RelO.some_of (v := v) (o := mA n) (by rw [← l]; exact hr n)
  exact ⟨u, ru, by rw [hl, hu]⟩
section
variable {X : Cx} {a : Addr} {oe : Obj} {cls : Value} {d : Option Addr} {pn : List (Addr × Obj)} {e : Expr} {te : TE} {pos : Pos} {n : Str}
/-- e.f -/
def tXfA (K : PySem.W.Frag) (a : Addr) (cls : Value) (d : Option Addr) (f : Str) (te : TE) : TE := fun σ H Q => te σ H fun x H1 => x = .ref a ∧ ∃ (C : Addr) (fs : List (Str × V)) (v : V), Caught K cls d H1 C fs ∧ PySem.W.findIn K (.ref C) f = some none ∧ fs.lookup f = some v ∧ Q v H1
theorem pe_xfA (hz : Zc cls d oe) (hf : ∃ vs, oe.data = .fields vs) (he : PE (X.suite a ((a, oe) :: pn)) e te) (hb : attributeBase e n X.env (eval e X.env) = eval e X.env := by rfl) :
    PE (X.suite a ((a, oe) :: pn)) (.Attribute e n pos) (tXfA X.K a cls d n te) := by
  refine ⟨fun pins s σ H Q I h => ?_⟩
  refine attr_of hb (thn (he.run pins s σ H _ I h) fun u s1 hh => ?_)
  obtain ⟨x, H1, I1, rx, ex, C, fs, v, c, hno, l, q⟩ := hh
  subst ex
  obtain rfl : u = Value.ref a := rx
  obtain ⟨od, J, hl⟩ := caught_at hz hf I1 c
  obtain ⟨u, ru, hu⟩ := hl n v l
  have T := c.2.1
  exact HandSPX.exc_get I1.kIn J T.ga T.gg T.ex (PySem.W.findObj_own T.hd hno rfl hu) (handed_of ru) ⟨v, H1, I1.tok _, ru, q⟩
/-- isinstance(e, c), isinstance(e, (c, ..)) -/
def rIsA (K : PySem.W.Frag) (a : Addr) (cls : Value) (d : Option Addr) : List V → Hp → VK → Prop := fun xs H Q => ∃ (C : Addr) (fs : List (Str × V)) (c : V), xs = [.ref a, c] ∧ Caught K cls d H C fs ∧
  ((∃ (cv : Value) (b : Bool), (∀ u, RelV c u → u = cv) ∧ PySem.W.kitOne K (.ref C) cv = some b ∧ Q (.bl b) H) ∨
    ∃ (t : Addr) (cs : List Addr) (b : Bool), c = .ref t ∧ Tup H t (cs.map V.ref) ∧ PySem.W.kitAny K (.ref C) (cs.map Value.ref) = some b ∧ Q (.bl b) H)
theorem vals_refs : ∀ {cs : List Addr} {us : List Value}, Vals (cs.map V.ref) us → us = cs.map Value.ref
  | [], _, r => by cases r; rfl
  | c :: cs, _, r => by
    cases r with
    | cons r1 r2 =>
      rw [vals_refs r2]
      cases r1
      rfl
theorem call_isA (hz : Zc cls d oe) (hf : ∃ vs, oe.data = .fields vs) : CallR (X.suite a ((a, oe) :: pn)) (.builtin "isinstance") (rIsA X.K a cls d) := by
  intro pins s σ H xs us Q I r h
  obtain ⟨C, fs, c, rfl, k, h⟩ := h
  obtain ⟨od, J, _⟩ := caught_at hz hf I k
  have T := k.2.1
  have Z : PySem.W.KitX X.K (.ref a) (.ref C) (fun h => PySem.W.InstAt h a oe C (some od)) := PySem.W.kitx_exc T.cl T.ga T.gg T.ex T.kl T.kn T.kt T.km
  cases r with
  | cons rx rr =>
    cases rr with
    | cons rt rr =>
      cases rr
      cases rx
      rcases h with ⟨cv, b, hcv, e, q⟩ | ⟨t, cs, b, rfl, tu, e, q⟩
      · have ec := hcv _ rt
        subst ec
        exact PySem.W.kia_one Z I.kIn J e (fun z => nomatch z) fun tk => ⟨.bl b, H, I.kept (t' := tk) fun _ _ z => z, rfl, q⟩
      · cases rt
        obtain ⟨its, n, rv, z, ho⟩ := tu.obj I
        rw [vals_refs rv] at ho
        exact PySem.W.kia_tup Z I.kIn J ho e (fun z => nomatch z) fun tk => ⟨.bl b, H, I.kept (t' := tk) fun _ _ z => z, rfl, q⟩
end
end Wg
namespace Wg
open PySem PySem.Spec PyProof.Rows L2
/-! ### the __init__ of an exception class, walked -/
theorem rd_ini1 {K : PySem.W.Frag} {C : Addr} {f1 m : Str} (T : OexC K C) (n1 : PySem.W.findIn K (.ref C) f1 = some none) {vs : List V} {H : Hp} {Q : VK} {E : XK} {x y : Str} (h : spIni K C [f1] vs H Q E) :
    tSeq (tDrop (tVeI K (tCons (tVar 0) (tCons (tC (.str m)) tNil)))) (tOst K f1 (tVar 0) (tVar 1)) { nx := fun _ H' => Q .non H', rt := Q } (L2.start [x, y] vs) H := by
  obtain ⟨a, ws, rfl, l, ea, q⟩ := h
  match ws, l with
  | [v1], _ =>
    show ∃ x, (some (some (V.ref a)) = some (some x)) ∧ _
    refine ⟨_, rfl, a, C, [.str m], rfl, by show 1 ≤ 1000; decide, T, ea, ?_⟩
    refine ⟨v1, rfl, .ref a, rfl, a, C, rfl, T, n1, .inl ⟨ea, fun d nd ne => ?_⟩⟩
    exact q d _ nd ne upd_same (by rw [upd_ne ne, upd_same]; rfl) fun b h1 h2 => by rw [upd_ne h1, upd_ne h2]
theorem rd_ini2 {K : PySem.W.Frag} {C : Addr} {f1 f2 m : Str} (T : OexC K C) (n1 : PySem.W.findIn K (.ref C) f1 = some none) (n2 : PySem.W.findIn K (.ref C) f2 = some none) {vs : List V} {H : Hp} {Q : VK} {E : XK} {x y z : Str} (h : spIni K C [f1, f2] vs H Q E) :
    tSeq (tDrop (tVeI K (tCons (tVar 0) (tCons (tC (.str m)) tNil)))) (tSeq (tOst K f1 (tVar 0) (tVar 1)) (tOst K f2 (tVar 0) (tVar 2))) { nx := fun _ H' => Q .non H', rt := Q } (L2.start [x, y, z] vs) H := by
  obtain ⟨a, ws, rfl, l, ea, q⟩ := h
  match ws, l with
  | [v1, v2], _ =>
    show ∃ x, (some (some (V.ref a)) = some (some x)) ∧ _
    refine ⟨_, rfl, a, C, [.str m], rfl, by show 1 ≤ 1000; decide, T, ea, ?_⟩
    refine ⟨v1, rfl, .ref a, rfl, a, C, rfl, T, n1, .inl ⟨ea, fun d nd ne => ?_⟩⟩
    refine ⟨v2, rfl, .ref a, rfl, a, C, rfl, T, n2, .inr ⟨d, _, upd_same, by rw [upd_ne ne, upd_same], by show 1 ≤ 900; decide, ?_⟩⟩
    refine q d _ nd ne (by rw [upd_ne (Ne.symm ne), upd_same]) upd_same fun b h1 h2 => by rw [upd_ne h2, upd_ne h1, upd_ne h2]
/-! ### try -/
def tTryAs (K : PySem.W.Frag) (C : Addr) (i : Nat) (tb : WX → TS) (ts : Addr → Value → Option Addr → TS) : TS := fun D σ H => tb (wAs K (.ref C) i ts (fun _ _ _ _ => False) D) D σ H
def tTryOnly (K : PySem.W.Frag) (C : Addr) (tb : WX → TS) (ts : Addr → Value → Option Addr → TS) : TS := fun D σ H => tb (wOnly K (.ref C) ts (fun _ _ _ _ => False) D) D σ H
end Wg

namespace Wg
open PySem PySem.Spec PyProof.Rows L2
/-! ### is True of a thing that may be an object -/
def rIsX : R2 := fun x y H Q => ∃ b : Bool, y = .bl b ∧ ((∃ a : Bool, x = .bl a ∧ Q (.bl (decide (a = b))) H) ∨ (∃ p, x = .ref p ∧ Q (.bl false) H))
def rNotX : R2 := fun x y H Q => ∃ b : Bool, y = .bl b ∧ ((∃ a : Bool, x = .bl a ∧ Q (.bl (!decide (a = b))) H) ∨ (∃ p, x = .ref p ∧ Q (.bl true) H))
section
variable {X : Cx}
theorem op_isX : OpR X (compareOp .Is) rIsX := by
  intro pins s σ H x y v u Q I rx ry h
  obtain ⟨b, rfl, ⟨a, rfl, q⟩ | ⟨p, rfl, q⟩⟩ := h
  · exact op_isBl _ _ _ _ _ _ _ _ _ I rx ry ⟨a, b, rfl, rfl, q⟩
  · cases (show v = Value.ref p from rx)
    cases (show u = Value.bool b from ry)
    exact wpAny_is_other rfl (fun z => nomatch z) ⟨.bl false, H, I, rfl, q⟩
theorem op_notX : OpR X (compareOp .IsNot) rNotX := by
  intro pins s σ H x y v u Q I rx ry h
  obtain ⟨b, rfl, ⟨a, rfl, q⟩ | ⟨p, rfl, q⟩⟩ := h
  · exact op_notBl _ _ _ _ _ _ _ _ _ I rx ry ⟨a, b, rfl, rfl, q⟩
  · cases (show v = Value.ref p from rx)
    cases (show u = Value.bool b from ry)
    exact wpAny_isNot_other rfl (fun z => nomatch z) ⟨.bl true, H, I, rfl, q⟩
end
/-! ### a comprehension over enumerate(list) -/
def CEl (K : PySem.W.Frag) (g : TG) (tt : TT) (te : TE) (vs : List Nat) (σ : L2.St) (Q : VK) (ws : List V) (H1 : Hp) : Prop := ∃ a xs, ws = [.ref a] ∧ SqL K H1 a xs ∧ CB (Ite K a) g tt te vs σ Q H1
theorem e_lcEl {K : PySem.W.Frag} {ta : TA} {g : TG} {tt : TT} {te : TE} {vs : List Nat} {σ : L2.St} {H : Hp} {Q : VK} : tLc (iEnum K ta) g tt te vs σ H Q ↔ ta σ H (CEl K g tt te vs σ Q) := Iff.rfl
theorem g_CEl {K : PySem.W.Frag} {g : TG} {tt : TT} {te : TE} {vs : List Nat} {σ : L2.St} {Q : VK} {H1 : Hp} {a : Addr} {us : List V} (ha : H1 a = some (.lst us)) (P : Nat → Hp → List V → Prop)
    (p0 : ∀ D H2, H1 D = none → Keep [] H1 H2 → P 0 H2 [])
    (ps : ∀ D i x H acc (R : VK) (R0 : Hp → Prop) T H', H1 D = none → us[i]? = some x → Keep [] H1 H' → H' D = some (.lst acc) → Keep [] H H' → P i H acc → H' T = some (.tup [.int (i : Nat), x]) →
      (∀ z H4, Keep [] H' H4 → acc.length < sizeLine → (∀ H5, Keep [D] H4 H5 → P (i + 1) H5 (acc ++ [z])) → R z H4) → (∀ H3, Keep [] H' H3 → P (i + 1) H3 acc → R0 H3) →
      g (.ref T) (wipe σ vs) H' fun σ2 H2 => wipe σ2 vs = wipe σ vs ∧ tt σ2 H2 fun bb H3 => if bb = true then te σ2 H3 R else R0 H3)
    (pd : ∀ D H acc, H1 D = none → Keep [] H1 H → H D = some (.lst acc) → P us.length H acc → Q (.ref D) H) : CEl K g tt te vs σ Q [.ref a] H1 := by
  refine ⟨a, us, rfl, lst_sq ha, fun D hD => ?_⟩
  refine ⟨fun i m H => m = us.length - i ∧ i ≤ us.length ∧ Keep [] H1 H ∧ ∃ acc, H D = some (.lst acc) ∧ P i H acc, ⟨us.length, by omega, by omega, Keep.new hD, [], upd_same, p0 D _ hD (Keep.new hD)⟩, ?_⟩
  rintro i m H ⟨rfl, hi, k, acc, eD, p⟩
  have ta := lst_sq (K := K) (k _ _ nin0 ha)
  by_cases hlt : i < us.length
  · have hx := List.getElem?_eq_getElem hlt
    refine .inr ⟨⟨us, _, ta, hx⟩, fun H' => i + 1 ≤ us.length ∧ Keep [] H1 H' ∧ ∃ acc, H' D = some (.lst acc) ∧ P (i + 1) H' acc, fun H' q => ⟨us.length - (i + 1), by omega, rfl, q⟩, fun v H' y => ?_⟩
    obtain ⟨T, x', rfl, hT, rfl, f1⟩ := y
    have kn : Keep [] H (upd H T (.tup [.int (i : Nat), x'])) := Keep.new hT
    refine ps D i x' H acc _ _ T _ hD (f1 us ta) (k.trans kn) (kn _ _ nin0 eD) kn p upd_same (fun z H4 k4 hz q => ⟨acc, k4 _ _ nin0 (kn _ _ nin0 eD), hz, hlt, (k.trans (kn.trans k4)).past Keep.set hD, _, upd_same, q _ Keep.set⟩) fun H3 k3 q => ⟨hlt, k.trans (kn.trans k3), acc, k3 _ _ nin0 (kn _ _ nin0 eD), q⟩
  · have e : i = us.length := by omega
    subst e
    exact .inl ⟨⟨us, ta, Nat.le_refl _⟩, pd D H acc hD k eD p⟩
end Wg

namespace Wg
open PySem PySem.Spec PyProof.Rows L2
/-! ### for over reversed(list) -/
def FRv (K : PySem.W.Frag) (g : TG) (tb : TS) (D : Ends) (σ : L2.St) (vs : List V) (H1 : Hp) : Prop := ∃ a xs, vs = [.ref a] ∧ SqL K H1 a xs ∧ ∃ W : Nat → Nat → L2.St → Hp → Prop, (∃ m, W 0 m σ H1) ∧ ∀ i m σ H, W i m σ H →
  ((Itv K a xs.length).stop i H ∧ D.nx σ H) ∨ ((Itv K a xs.length).go i H ∧ ∃ N : L2.St → Hp → Prop, (∀ σ' H', N σ' H' → ∃ m', m' < m ∧ W (i + 1) m' σ' H') ∧ ∀ x H', (Itv K a xs.length).yld i H x H' → g x σ H' fun σ2 H2 => tb { D with nx := N, ct := N, bk := D.nx } σ2 H2)
theorem e_forRv {K : PySem.W.Frag} {ta : TA} {g : TG} {tb : TS} {D : Ends} {σ : L2.St} {H : Hp} : tFor (iRev K ta) g tb D σ H ↔ ta σ H (FRv K g tb D σ) := Iff.rfl
theorem g_FRv {K : PySem.W.Frag} {g : TG} {tb : TS} {D : Ends} {σ : L2.St} {H1 : Hp} {a : Addr} {xs : List V} (Pv : Nat → L2.St → Hp → Prop) (h : H1 a = some (.lst xs)) (h0 : Pv 0 σ H1) (hl : ∀ i σ H, i ≤ xs.length → Pv i σ H → H a = some (.lst xs))
    (hs : ∀ i x σ H, i < xs.length → xs[xs.length - 1 - i]? = some x → Pv i σ H → g x σ H fun σ2 H2 => tb { D with nx := Pv (i + 1), ct := Pv (i + 1), bk := D.nx } σ2 H2) (hd : ∀ σ H, Pv xs.length σ H → D.nx σ H) : FRv K g tb D σ [.ref a] H1 := by
  refine ⟨a, xs, rfl, lst_sq h, fun i m σ H => m = xs.length - i ∧ i ≤ xs.length ∧ Pv i σ H, ⟨xs.length, by simp, Nat.zero_le _, h0⟩, ?_⟩
  rintro i m σ H ⟨rfl, hi, p⟩
  have tu := lst_sq (K := K) (hl i σ H hi p)
  by_cases hlt : i < xs.length
  · have hx := List.getElem?_eq_getElem (show xs.length - 1 - i < xs.length by omega)
    refine .inr ⟨⟨hlt, xs, _, tu, hx⟩, Pv (i + 1), fun σ' H' p' => ⟨xs.length - (i + 1), by omega, rfl, hlt, p'⟩, fun x H' y => ?_⟩
    obtain ⟨rfl, hu⟩ := y
    exact hs i x σ H' hlt (hu xs tu) p
  · have e : i = xs.length := by omega
    subst e
    exact .inl ⟨Nat.le_refl _, hd σ H p⟩
end Wg

namespace Wg
open PySem PySem.Spec PyProof.Rows L2
/-! ### startswith -/
section
variable {X : Cx} {o e : Expr} {to te : TE} {apos pos : Pos}
def uStarts : V → List V → Hp → VK → Prop := fun x xs H Q => ∃ a b : Str, x = .str a ∧ xs = [.str b] ∧ Q (.bl (Txt.startswith a b)) H
theorem pe_uStarts (ho : PE X o to) (he : PE X e te) (hs : starEach [e] X.env = [(false, eval e X.env)] := by rfl) (hbase : attributeBase o "startswith" X.env (eval o X.env) = eval o X.env := by rfl) (hline : (apos.endLine == pos.line) = true := by rfl) :
    PE X (.Call (.Attribute o "startswith" apos) [e] [] pos) (tM1 uStarts to te) := pe_m1 PySem.F.slot_str_startswith PySem.F.type_str_startswith mt_startswith ho he hs hbase hline
end
end Wg

/-! Wagon, part 44: exceptions as things: made without being raised, kept behind an except suite, asked for class and fields. -/
namespace Wg
open PySem PySem.Spec PyProof.Rows L2

/-- at a stands an exception of the class cls with the dict d -/
def ExV (cls : Value) (d : Option Addr) (a : Addr) : HO := .ext fun h => ∃ (ob : Obj) (fv : Array Value), h.get? a = some ob ∧ Zc cls d ob ∧ ob.data = .fields fv
theorem exv_ok {P : Program} {w : World} {H : Hp} {h : Heap} {a : Addr} {cls : Value} {d : Option Addr} {ob : Obj} {fv : Array Value} (e : h.get? a = some ob) (z : Zc cls d ob) (f : ob.data = .fields fv) : ObjOk P w H h a (ExV cls d a) :=
  ⟨⟨ob, fv, e, z, f⟩, ⟨ob, e⟩, fun _ _ ⟨o2, v2, q, r⟩ k => ⟨o2, v2, k o2 q, r⟩⟩
theorem exv_at {P : Program} {w : World} {H : Hp} {h : Heap} {a : Addr} {cls : Value} {d : Option Addr} (hok : HOk P w H h) (e : H a = some (ExV cls d a)) : ∃ (ob : Obj) (fv : Array Value), h.get? a = some ob ∧ Zc cls d ob ∧ ob.data = .fields fv := by
  have x : ObjOk P w H h a (.ext fun h => ∃ (ob : Obj) (fv : Array Value), h.get? a = some ob ∧ Zc cls d ob ∧ ob.data = .fields fv) := hok a _ e
  exact x.1
/-- an exception made, as a value -/
def tMkV (t : L2.St → Hp → XK → Prop) : TE := fun σ H Q => t σ H fun cls d H' => ∀ a, H' a = none → Q (.ref a) (upd H' a (ExV cls d a))
theorem pe_mkV {X : Cx} {e : Expr} {t : L2.St → Hp → XK → Prop} (mk : PMk X e t) : PE X e (tMkV t) := by
  refine ⟨fun pins s σ H Q I h => wpAny_mono (mk pins s σ H _ I h) (fun u s1 hu => ?_) fun _ _ z => z⟩
  obtain ⟨a, ob, fv, sI, H', cls, d, rfl, J, k, gone, there, hz, hd, _, na, os, ag, _, q⟩ := hu
  have new : ObjOk X.prog X.w (upd H' a (ExV cls d a)) s1.heap a (ExV cls d a) := exv_ok there hz hd
  exact ⟨.ref a, _, J.call' (ch := []) os (Un.laidN k gone na) (HOk.laidN J.hok k na new) ag (fun _ z => nomatch z), rfl, q a na⟩

/-! ### asked -/
/-- an exception of the class C with the fields fs -/
def ExcAt (K : PySem.W.Frag) (H : Hp) (a C : Addr) (fs : List (Str × V)) : Prop := ExA K C ∧ ∃ d, H a = some (ExV (.ref C) d a) ∧ ((d = none ∧ fs = []) ∨ ∃ dd, d = some dd ∧ H dd = some (.xd fs))
theorem excAt_inst {X : Cx} {pins : List (Addr × Obj)} {σ : L2.St} {H : Hp} {s : Shared} {a C : Addr} {fs : List (Str × V)} (I : Inv X pins σ H s) (h : ExcAt X.K H a C fs) :
    ∃ (ob : Obj) (od : Option Obj), PySem.W.InstAt s.heap a ob C od ∧ ∀ n v, fs.lookup n = some v → ∃ o u, od = some o ∧ RelV v u ∧ PySem.W.lookIn n o = some (some u) := by
  obtain ⟨_, d, ea, hd⟩ := h
  obtain ⟨ob, fv, e, hz, hf⟩ := exv_at I.hok ea
  rcases hd with ⟨rfl, rfl⟩ | ⟨dd, rfl, ed⟩
  · exact ⟨ob, none, ⟨e, hz.1, by unfold PySem.W.notCls; rw [hf] <;> rfl, by rw [hz.2]; trivial⟩, fun n v l => nomatch l⟩
  · have hx : ObjOk X.prog X.w H s.heap dd (.xd fs) := I.hok dd _ ed
    obtain ⟨mA, hns, hr⟩ := hx
    obtain ⟨o2, ho, hl⟩ := lookIn_ns hns
    refine ⟨ob, some o2, ⟨e, hz.1, by unfold PySem.W.notCls; rw [hf] <;> rfl, by rw [hz.2]; exact ho⟩, fun n v l => ?_⟩
    obtain ⟨u, hu, ru⟩ := RelO.some_of (v := v) (o := mA n) (by rw [← l]; exact hr n)
    exact ⟨o2, u, rfl, ru, by rw [hl, hu]⟩
section
variable {X : Cx} {e : Expr} {te : TE} {pos : Pos} {n : Str}
def tXfV (K : PySem.W.Frag) (f : Str) (te : TE) : TE := fun σ H Q => te σ H fun x H1 => ∃ (a C : Addr) (fs : List (Str × V)) (v : V), x = .ref a ∧ ExcAt K H1 a C fs ∧ PySem.W.findIn K (.ref C) f = some none ∧ fs.lookup f = some v ∧ Q v H1
theorem pe_xfV (he : PE X e te) (hb : attributeBase e n X.env (eval e X.env) = eval e X.env := by rfl) : PE X (.Attribute e n pos) (tXfV X.K n te) := by
  refine ⟨fun pins s σ H Q I h => attr_of hb (thn (he.run pins s σ H _ I h) fun u s1 hh => ?_)⟩
  obtain ⟨x, H1, I1, rx, a, C, fs, v, ex, c, hno, l, q⟩ := hh
  subst ex
  obtain rfl : u = Value.ref a := rx
  obtain ⟨ob, od, J, hl⟩ := excAt_inst I1 c
  obtain ⟨o, u, eo, ru, hu⟩ := hl n v l
  subst eo
  have T := c.1
  exact HandSPX.exc_get I1.kIn J T.ga T.gg T.ex (PySem.W.findObj_own T.hd hno rfl hu) (handed_of ru) ⟨v, H1, I1.tok _, ru, q⟩
def rIsV (K : PySem.W.Frag) : List V → Hp → VK → Prop := fun xs H Q => ∃ (a C : Addr) (fs : List (Str × V)) (c : V), xs = [.ref a, c] ∧ ExcAt K H a C fs ∧
  ((∃ (cv : Value) (b : Bool), (∀ u, RelV c u → u = cv) ∧ PySem.W.kitOne K (.ref C) cv = some b ∧ Q (.bl b) H) ∨
    ∃ (t : Addr) (cs : List Addr) (b : Bool), c = .ref t ∧ Tup H t (cs.map V.ref) ∧ PySem.W.kitAny K (.ref C) (cs.map Value.ref) = some b ∧ Q (.bl b) H)
theorem call_isV : CallR X (.builtin "isinstance") (rIsV X.K) := by
  intro pins s σ H xs us Q I r h
  obtain ⟨a, C, fs, c, rfl, k, h⟩ := h
  obtain ⟨ob, od, J, _⟩ := excAt_inst I k
  have T := k.1
  have Z : PySem.W.KitX X.K (.ref a) (.ref C) (fun h => PySem.W.InstAt h a ob C od) := PySem.W.kitx_exc T.cl T.ga T.gg T.ex T.kl T.kn T.kt T.km
  cases r with
  | cons rx rr =>
    cases rr with
    | cons rt rr =>
      cases rr
      cases rx
      rcases h with ⟨cv, b, hcv, e, q⟩ | ⟨t, cs, b, rfl, tu, e, q⟩
      · obtain rfl := hcv _ rt
        exact PySem.W.kia_one Z I.kIn J e (fun z => nomatch z) fun tk => ⟨.bl b, H, I.kept (t' := tk) fun _ _ z => z, rfl, q⟩
      · cases rt
        obtain ⟨its, m, rv, z, ho⟩ := tu.obj I
        rw [vals_refs rv] at ho
        exact PySem.W.kia_tup Z I.kIn J ho e (fun z => nomatch z) fun tk => ⟨.bl b, H, I.kept (t' := tk) fun _ _ z => z, rfl, q⟩
end

/-! ### kept behind the suite -/
def wKp (K : PySem.W.Frag) (c : Value) (i : Nat) (ts : Addr → Value → Option Addr → TS) (Wout : WX) (D : Ends) : WX := fun cls d σ H =>
  ∃ b, PySem.W.exmOne K cls c = some b ∧ (b = false → Wout cls d σ H) ∧ (b = true → ∀ a, H a = none →
    ts a cls d { nx := fun σ2 H2 => D.nx (σ2.set i none) (upd H2 a (ExV cls d a)), rt := fun v H2 => D.rt v (upd H2 a (ExV cls d a)), bk := fun σ2 H2 => D.bk (σ2.set i none) (upd H2 a (ExV cls d a)), ct := fun σ2 H2 => D.ct (σ2.set i none) (upd H2 a (ExV cls d a)) } (σ.set i (some (.ref a))) H)
theorem Inv.track {X : Cx} {pins : List (Addr × Obj)} {σ : L2.St} {H : Hp} {s : Shared} {a : Addr} {ob : Obj} {fv : Array Value} {cls : Value} {d : Option Addr} (I : Inv X pins σ H s) (na : H a = none) (old : X.s_0.heap.get? a = none)
    (there : s.heap.get? a = some ob) (hz : Zc cls d ob) (hf : ob.data = .fields fv) (nL : a ≠ X.env.locals) (np : ∀ p ∈ X.pn ++ pins, p.1 ≠ a) : Inv X pins σ (upd H a (ExV cls d a)) s := by
  have one : ∀ {b : Addr} {o : HO}, H b = some o → b ≠ a := fun {b o} q z => by rw [z, na] at q; cases q
  have out : ∀ {b : Addr} {o : Obj}, X.s_0.heap.get? b = some o → b ≠ a := fun {b o} q z => by rw [z, old] at q; cases q
  refine ⟨I.ok, I.os, I.bare, ⟨I.base.keep, I.base.slot, fun b o q n hx => ?_, I.base.there, fun b xs q => ?_, fun b o u q => ?_, fun b ps q => ?_⟩, I.loc, I.cell, ?_, fun x c hc => ?_, fun p hp => ?_, fun b u q => ?_, I.len⟩
  · rw [upd_ne (out q)]
    exact I.base.free b o q n hx
  · rw [upd_ne (one (I.base.tups b xs q))]
    exact I.base.tups b xs q
  · rw [upd_ne (one (I.base.frzs b o u q))]
    exact I.base.frzs b o u q
  · obtain ⟨m, z⟩ := I.base.tbls b ps q
    exact ⟨m, by rw [upd_ne (one z)]; exact z⟩
  · rw [upd_ne (Ne.symm nL)]
    exact I.free
  · have nc : c ≠ a := fun z => by
      obtain ⟨v, o, ho, hv⟩ := I.cell x c hc
      rw [z, there] at ho
      cases ho
      rw [hf] at hv
      cases hv
    rw [upd_ne nc]
    exact I.freeC x c hc
  · obtain ⟨q1, q2, q3⟩ := I.pin p hp
    exact ⟨q1, by rw [upd_ne (np p hp)]; exact q2, q3⟩
  · by_cases hb : b = a
    · subst hb
      rw [upd_same] at q
      cases q
      exact exv_ok there hz hf
    · rw [upd_ne hb] at q
      exact (I.hok b u q).stay (fun c v _ z => z) (fun c z => by rw [upd_ne (one z)]; exact z) fun c xs z => by rw [upd_ne (one z)]; exact z
section
variable {X : Cx} {x n : Str} {c : Value} {i : Nat} {body suite : List Stmt} {b₀ : Stmt} {np pos pos' : Pos} {tb : WX → TS} {ts : Addr → Value → Option Addr → TS} {Wout : WX}
theorem ps_try_kp (stk : X.stack = X.env :: X.outer) (fr : X.env.frame = some X.env.locals) (dup : X.N.Nodup) (slot : X.N[i]? = some n) (kd : X.env.kindOf n = some .local) (nm : Names X x c) (noex : X.ex = []) (tk : Takes X Wout)
    (bd : ∀ (W : WX) (pn : List (Addr × Obj)) (xe : Value → Shared → Prop), Takes (X.tr pn xe) W → PassesOwn (model X.prog X.w) X.A X.env xe → PSs (X.tr pn xe) body (tb W))
    (su : ∀ (a : Addr) (ob : Obj) (cls : Value) (d : Option Addr) (pn : List (Addr × Obj)), Zc cls d ob → (∃ vs, ob.data = .fields vs) → PSs (X.suite a ((a, ob) :: pn)) (b₀ :: suite) (ts a cls d)) :
    PS X (.Try body [.ExceptHandler (some (.Name x np)) (some n) (b₀ :: suite) pos'] [] [] pos) (fun D σ H => tb (wKp X.K c i ts Wout D) D σ H) := by
  refine ⟨fun pins s σ H D I h => ?_⟩
  have ok := I.ok
  have frs1 : X.A.frames = some (X.env :: X.outer) := by rw [ok.frames, stk]
  refine wpAny_Try_except ?_
  refine wpAny_mono ((bd (wKp X.K c i ts Wout D) (X.pn ++ pins) (fun ev z1 => wpAny (model X.prog X.w) X.A (noteFrame ev X.env) (fun _ z2 => wpAny (model X.prog X.w) X.A (setFlight ev none) (fun _ z3 =>
    wpAny (model X.prog X.w) X.A (handleBy ev X.env [.ExceptHandler (some (.Name x np)) (some n) (b₀ :: suite) pos']) (SP X pins D) X.xe z3) X.xe z2) X.xe z1) (fun u z xx => ?_) PassesOwn.looking).run [] s σ H D (I.toTry _) h) (fun f z1 hsp => ?_) (fun ev z1 he => he)
  · obtain ⟨a, B, sI, pins1, σ1, H1, cls, d, rfl, J1, nb, up, sky, na, os, ag, b, hb1, hno, hyes⟩ := xx
    have J : Inv X pins σ1 H1 sI := J1.ofTry ok
    have sky1 : Sky B (X.env :: X.outer) a (Zc cls d) X.env.locals z.heap := by rw [← stk]; exact sky
    show wpAny (model X.prog X.w) X.A (noteFrame (.ref a) X.env) _ _ _
    refine Sky.land Zc.steady frs1 fr sky1 fun h3 fl3 up3 => ?_
    have Ba : B.get? a = none := fl3.2.1
    have J3 : Inv X pins σ1 H1 { z with heap := h3 } := J.landed nb fl3.1 (up.trans up3) os ag
    obtain ⟨o3, f3, e3, z3, d3⟩ := fl3.there
    have off : a ∉ frs (X.env :: X.outer) := fun hm => by
      obtain ⟨_, o', e', hnf⟩ := fl3.2.2.1.mem hm
      rw [e3] at e'; cases e'
      exact hnf _ d3
    have nL : a ≠ X.env.locals := fun q => off (List.mem_filterMap.mpr ⟨X.env, List.mem_cons_self, by rw [fr, q]⟩)
    have nF : a ∉ X.fs := fun hm => by
      obtain ⟨ev, he, q⟩ := List.mem_filterMap.mp hm
      exact off (List.mem_filterMap.mpr ⟨ev, List.mem_cons_of_mem _ he, q⟩)
    have young : ∀ {b' : Addr} {o : Obj}, sI.heap.get? b' = some o → b' ≠ a := fun {b' o} q w => by
      have q' := nb b' o q (by rw [w, stk]; exact off)
      rw [w, Ba] at q'
      cases q'
    have old : X.s_0.heap.get? a = none := by
      cases q : X.s_0.heap.get? a with
      | none => rfl
      | some o =>
        obtain ⟨o', q'⟩ := J.base.there a o q (by rw [noex]; exact fun w => nomatch w)
        exact absurd rfl (young q')
    have apart : ∀ p ∈ X.pn ++ pins, p.1 ≠ a := fun p hp => young (J.pin p hp).1
    have S3 := J3.suite e3 d3 na nL nF
    refine wpAny_handleBy_cons (codeAny_handlers_test ?_) (by intro q; cases q)
    have LT : PySem.W.Looks (model X.prog X.w) h3 (typeOf (.ref a)) cls := fun A Q E s k q => wpAny_typeOf_ref (k _ _ e3) (by rw [z3.1]; exact q)
    have LM := PySem.W.exm_one (M := model X.prog X.w) (J3.kIn) LT hb1
    have named : ∀ {Q : Value → Shared → Prop} {E : Value → Shared → Prop}, Q c { z with heap := h3 } → wpAny (model X.prog X.w) (X.A.mark (some (.ref a))) (eval (.Name x np) X.env) Q E { z with heap := h3 } := fun {Q E} q => by
      obtain ⟨hg, hdbg, hm | ⟨hm, hv, hnn⟩⟩ := nm
      · exact ld_glob (X := X.suite a ((a, o3) :: (X.pn ++ pins))) S3 hg hm q hdbg
      · exact ld_blt (X := X.suite a ((a, o3) :: (X.pn ++ pins))) S3 hg hm hv q hnn hdbg
    refine named (LM.here ?_)
    cases b with
    | true =>
      refine codeAny_handlers_suite_as ?_
      refine HandSPX.lands_againZ fl3 fun h4 fl4 up4 => ?_
      have J4 : Inv X pins σ1 H1 { z with heap := h4 } := J.landed nb fl4.1 ((up.trans up3).trans up4) os ag
      obtain ⟨o4, f4, e4, z4, d4⟩ := fl4.there
      have S4 := J4.suite e4 d4 na nL nF
      refine store_ok (X := X.suite a ((a, o4) :: (X.pn ++ pins))) (v := .ref a) S4 dup slot (.inl kd) rfl (fun s5 S5 => ?_) (.inr kd)
      refine wpAny_mono ((su a o4 cls d (X.pn ++ pins) z4 ⟨_, d4⟩).run [] s5 _ H1 _ S5 (hyes rfl a na)) (fun f s6 hsp => ?_) (fun _ _ w => False.elim w)
      have fin : ∀ {σ6 : L2.St} {H6 : Hp} {Q : Shared → Prop}, Inv (X.suite a ((a, o4) :: (X.pn ++ pins))) [] σ6 H6 s6 → (∀ s7, Inv X pins (σ6.set i none) (upd H6 a (ExV cls d a)) s7 → Q s7) →
          wpAny (model X.prog X.w) X.A (do bindName X.env n .none; unbindBehindTheSuite X.env n pos') (fun _ s7 => Q s7) X.xe s6 := fun {σ6 H6 Q} S6 hq => by
        obtain ⟨p1, p2, _⟩ := S6.pin (a, o4) (List.mem_append_left _ List.mem_cons_self)
        exact gone_ok (Inv.track (S6.unsuite ok) p2 old p1 z4 d4 nL apart) dup slot kd hq
      cases f with
      | next =>
        obtain ⟨σ6, H6, S6, q6⟩ := hsp
        exact fin S6 fun s7 J7 => ⟨_, _, J7, q6⟩
      | brk =>
        obtain ⟨σ6, H6, S6, q6⟩ := hsp
        exact fin S6 fun s7 J7 => ⟨_, _, J7, q6⟩
      | cont =>
        obtain ⟨σ6, H6, S6, q6⟩ := hsp
        exact fin S6 fun s7 J7 => ⟨_, _, J7, q6⟩
      | ret u =>
        obtain ⟨v6, σ6, H6, S6, r6, q6⟩ := hsp
        exact fin S6 fun s7 J7 => ⟨_, _, _, J7, r6, q6⟩
    | false =>
      show wpAny _ X.A (handleBy (.ref a) X.env []) _ _ _
      refine wpAny_handleBy_nil ?_
      obtain ⟨k1, k2, k3, ob, fv, T, oT, tv, he, hz, hd, h1, hr⟩ := id fl3
      unfold PySem.passOn
      refine wpAny_bind (wpAny_field he hd h1 ?_)
      rw [if_neg (show ¬ ((Value.ref T == Value.none) = true) from by simp)]
      have on : wpAny (model X.prog X.w) X.A (setFlight (.ref a) X.env.frame) (fun _ s4 => wpAny (model X.prog X.w) X.A (throw (.ref a) : Sem Flow) (SP X pins D) X.xe s4) X.xe { z with heap := h3 } := by
        rw [fr]
        refine HandSPX.setFlight_upZ fl3 fun h4 hh4 up4 => wpAny_throw (tk _ _ ?_)
        exact ⟨a, B, sI, pins, σ1, H1, cls, d, rfl, J, nb, (up.trans up3).trans up4, .inr (.inr (by rw [stk]; exact hh4)), na, os, ag, hno rfl⟩
      first
        | exact wpAny_bind (wpAny_pure (wpAny_bind on))
        | exact wpAny_bind on
  · cases f with
    | next =>
      obtain ⟨σ', H', J', q⟩ := hsp
      exact wpAny_execs_nil ⟨σ', H', J'.ofTry ok, q⟩
    | brk =>
      obtain ⟨σ', H', J', q⟩ := hsp
      exact ⟨σ', H', J'.ofTry ok, q⟩
    | cont =>
      obtain ⟨σ', H', J', q⟩ := hsp
      exact ⟨σ', H', J'.ofTry ok, q⟩
    | ret u =>
      obtain ⟨v, σ', H', J', r, q⟩ := hsp
      exact ⟨v, σ', H', J'.ofTry ok, r, q⟩
def tTryKp (K : PySem.W.Frag) (C : Addr) (i : Nat) (tb : WX → TS) (ts : Addr → Value → Option Addr → TS) : TS := fun D σ H => tb (wKp K (.ref C) i ts (fun _ _ _ _ => False) D) D σ H
end
def tMkA (C : Addr) (t : TA) : L2.St → Hp → XK → Prop := fun σ H Q => t σ H fun vs H1 => vs.length ≤ sizeLine ∧ Q (.ref C) none H1
def tRaiseW (W : WX) (t : L2.St → Hp → XK → Prop) : TS := fun _ σ H => t σ H fun cls d H' => W cls d σ H'
end Wg

/-! Wagon, part 45: repr of data in which dicts may stand at any depth. -/
namespace Wg
open PySem PySem.Spec PyProof.Rows L2
mutual
inductive Dr (K : PySem.W.Frag) (H : Hp) : V → PyData → Prop
  | dp {v : V} {d : PyData} : Dp K H v d → Dr K H v d
  | lst {a : Addr} {xs : List V} {ds : List PyData} : H a = some (.lst xs) → DrAll K H xs ds → Dr K H (.ref a) (.list ds)
  | tup {a : Addr} {xs : List V} {ds : List PyData} : Tup H a xs → DrAll K H xs ds → Dr K H (.ref a) (.tuple ds)
  | dic {a : Addr} {kvs : List (Key × V)} {vs : List V} {ds : List PyData} : H a = some (.dK kvs) → vs = kvs.map (·.2) → DrAll K H vs ds → Dr K H (.ref a) (.dict ((kvs.map fun p => keyD p.1).zip ds))
inductive DrAll (K : PySem.W.Frag) (H : Hp) : List V → List PyData → Prop
  | nil : DrAll K H [] []
  | cons {v : V} {vs : List V} {d : PyData} {ds : List PyData} : Dr K H v d → DrAll K H vs ds → DrAll K H (v :: vs) (d :: ds)
end
theorem DrAll.len {K : PySem.W.Frag} {H : Hp} : ∀ {vs : List V} {ds : List PyData}, DrAll K H vs ds → vs.length = ds.length
  | _, _, .nil => rfl
  | _, _, .cons _ r => congrArg (· + 1) r.len
mutual
theorem Dr.keep {K : PySem.W.Frag} {H H' : Hp} (k : Keep [] H H') : ∀ {v : V} {d : PyData}, Dr K H v d → Dr K H' v d
  | _, _, .dp h => .dp (Dp.keep k h)
  | _, _, .lst h a => .lst (k _ _ nin0 h) (DrAll.keep k a)
  | _, _, .tup h a => .tup (h.keep k nin0) (DrAll.keep k a)
  | _, _, .dic h e a => .dic (k _ _ nin0 h) e (DrAll.keep k a)
theorem DrAll.keep {K : PySem.W.Frag} {H H' : Hp} (k : Keep [] H H') : ∀ {vs : List V} {ds : List PyData}, DrAll K H vs ds → DrAll K H' vs ds
  | _, _, .nil => .nil
  | _, _, .cons h r => .cons (Dr.keep k h) (DrAll.keep k r)
end
section
variable {X : Cx} {pins : List (Addr × Obj)} {σ : L2.St} {H : Hp} {s : Shared}
theorem pairs_keys {P : Program} {w : World} {h : Heap} : ∀ {es : List DictEntry} {kvs : List (Key × V)} {us : List (Key × Value)}, PySem.Pairs (mixKind P w) es us → KV kvs us →
    ReadsAll h (es.map (·.key)) (kvs.map fun p => keyD p.1) [] ∧ Vals (kvs.map (·.2)) (es.map (·.val))
  | _, _, _, .nil, .nil => ⟨.nil, .nil⟩
  | e :: es, (k, v) :: kvs, (k', u) :: us, .cons h1 h2 hr, .cons ⟨q1, q2⟩ qr => by
    obtain ⟨r1, r2⟩ := pairs_keys (h := h) hr qr
    have q1' : k = k' := q1
    have q2' : RelV v u := q2
    have hv : e.val = u := h2
    have hk : keyIs k' e.key = true := h1
    subst q1'
    refine ⟨.cons (as := []) (bs := []) ?_ r1, .cons (by show RelV v e.val; rw [hv]; exact q2') r2⟩
    show Reads h e.key (keyD k) []
    rcases keyIs_shape hk with ⟨i, t, rfl, e2⟩ | ⟨x, t, rfl, e2⟩
    · rw [e2]; exact .int i t
    · rw [e2]; exact .str x t
/-- the rows of a dict, told -/
structure ToldD (P : Program) (w : World) (h : Heap) (a : Addr) (o : Obj) (es : Array DictEntry) (n : Nat) (kvs : List (PyData × PyData)) : Prop where
  at_ : h.get? a = some o
  c : o.cls = .type "dict"
  d : o.data = .dict es n
  sy : (a == sysModules) = false
  r : ∃ as, Reads h (.ref a) (.dict kvs) as
  k : PyData.showableKv kvs = true → (dictText (PyData.shownKv kvs)).length ≤ sizeLine → ∃ bs ps, ReadAtMost h (PyData.depthKv kvs) bs ∧ a ∉ bs ∧ PyData.shownKv kvs = ps ∧ ReprEntriesK P w bs h (PyData.depthKv kvs) es.toList ps
theorem toldD (I : Inv X pins σ H s) {a : Addr} {kvs : List (Key × V)} {ds : List PyData} (h : H a = some (.dK kvs)) (l : (kvs.map (·.2)).length = ds.length) (t : ∀ us, Vals (kvs.map (·.2)) us → ToldAll X.prog X.w s.heap us ds) :
    ∃ o es n, ToldD X.prog X.w s.heap a o es n ((kvs.map fun p => keyD p.1).zip ds) := by
  obtain ⟨z, hsy, ws, kv, o, es, ep, ho, ex, hdat, _, hp, _⟩ := I.hok a _ h
  obtain ⟨r1, v2⟩ := pairs_keys (h := s.heap) hp kv
  have tv := t _ v2
  obtain ⟨av, rv⟩ := tv.r
  have lk : (kvs.map fun p => keyD p.1).length = ds.length := by rw [List.length_map, ← List.length_map (f := (·.2)), l]
  have ek : ((kvs.map fun p => keyD p.1).zip ds).map (·.1) = kvs.map fun p => keyD p.1 := List.map_fst_zip (Nat.le_of_eq lk)
  have ev : ((kvs.map fun p => keyD p.1).zip ds).map (·.2) = ds := List.map_snd_zip (Nat.le_of_eq lk.symm)
  have sy : (a == sysModules) = false := by
    refine beq_eq_false_iff_ne.mpr fun e => ?_
    rw [e] at hsy
    simp at hsy
  generalize hkv : (kvs.map fun p => keyD p.1).zip ds = kvd at *
  have rd : Reads s.heap (.ref a) (PyData.dict kvd) (a :: [] ++ av) := .dict ho ex.1 hdat (by rw [ek]; exact r1) (by rw [ev]; exact rv)
  refine ⟨o, es, _, ho, ex.1, hdat, sy, ⟨_, rd⟩, fun hs hz => ?_⟩
  obtain ⟨hs1, hs2⟩ := PyData.showableKv_split kvd hs
  obtain ⟨b1, hb1, k1⟩ := ReprAllK.of_readsAll (prog := X.prog) (w := X.w) (show ReadsAll s.heap (es.toList.map (·.key)) (kvd.map (·.1)) [] by rw [ek]; exact r1) hs1 (fun _ hm => nomatch hm) (fun t ht => let ⟨p, hp, hl⟩ := PyData.shownKv_key_le kvd t ht; Nat.le_trans hl (Nat.le_trans (dictText_mem_le hp) hz))
  obtain ⟨b2, hb2, k2⟩ := tv.k (by rw [← ev]; exact hs2) (fun t ht => let ⟨p, hp, hl⟩ := PyData.shownKv_val_le kvd t (by rw [ev]; exact ht); Nat.le_trans hl (Nat.le_trans (dictText_mem_le hp) hz))
  have hb2' : ReadAtMost s.heap (PyData.depthAll (kvd.map (·.2))) b2 := by rw [ev]; exact hb2
  have hb : ReadAtMost s.heap (PyData.depthKv kvd) (b1 ++ b2) := (hb1.mono (PyData.depthAll_keys_le kvd)).append (hb2'.mono (PyData.depthAll_vals_le kvd))
  have hna : a ∉ b1 ++ b2 := not_mem_of_deeper rd (by simp only [PyData.depth]; omega) hb
  have k2' : ReprAllK X.prog X.w b2 s.heap (PyData.depthAll (kvd.map (·.2))) (es.toList.map (·.val)) (PyData.shownAll (kvd.map (·.2))) := by rw [ev]; exact k2
  exact ⟨b1 ++ b2, _, hb, hna, PyData.shownKv_eq kvd, ReprEntriesK.of_two es.toList _ _ (k1.more_le (fun b hb => List.mem_append_left _ hb) (PyData.depthAll_keys_le kvd)) (k2'.more_le (fun b hb => List.mem_append_right _ hb) (PyData.depthAll_vals_le kvd))⟩
theorem ToldD.told {P : Program} {w : World} {h : Heap} {a : Addr} {o : Obj} {es : Array DictEntry} {n : Nat} {kvs : List (PyData × PyData)} (t : ToldD P w h a o es n kvs) : Told P w h (.ref a) (.dict kvs) := by
  obtain ⟨as, rd⟩ := t.r
  refine ⟨⟨as, rd⟩, fun hs hz => ?_⟩
  obtain ⟨bs, ps, hb, hna, e, k⟩ := t.k (by simpa only [PyData.showable] using hs) (by simpa only [PyData.shown] using hz)
  have eD : (PyData.dict kvs).depth = PyData.depthKv kvs + 1 := by simp only [PyData.depth]
  refine ⟨a :: bs, ReadAtMost.cons rd (by rw [eD]; omega) hb, ?_⟩
  simp only [PyData.depth, PyData.shown]
  rw [e]
  exact ReprK.dict t.at_ t.c t.d t.sy hna k
mutual
theorem Dr.told (I : Inv X pins σ H s) : ∀ {d : PyData} {v : V} {u : Value}, Dr X.K H v d → RelV v u → Told X.prog X.w s.heap u d
  | _, _, _, .dp h, r => told_dp I h r
  | _, _, _, .lst hs ha, r => by
    cases r
    obtain ⟨its, rv, ⟨o, n, ho, hc, _, hd⟩, _⟩ := I.list (lst_sq (K := X.K) hs)
    exact Told.list ho hc hd (DrAll.told I ha rv)
  | _, _, _, .tup hs ha, r => by
    cases r
    obtain ⟨its, n, rv, _, ho⟩ := hs.obj I
    exact Told.tuple ho rfl rfl (DrAll.told I ha rv)
  | _, _, _, .dic hs e ha, r => by
    cases r
    obtain ⟨o, es, n, t⟩ := toldD I hs (by rw [← e]; exact ha.len) fun us rv => DrAll.told I ha (by rw [e]; exact rv)
    exact t.told
theorem DrAll.told (I : Inv X pins σ H s) : ∀ {ds : List PyData} {vs : List V} {us : List Value}, DrAll X.K H vs ds → Vals vs us → ToldAll X.prog X.w s.heap us ds
  | _, _, _, .nil, r => by
    cases r
    exact ToldAll.none
  | _, _, _, .cons h1 h2, r => by
    cases r with
    | cons r1 r2 => exact ToldAll.more (Dr.told I h1 r1) (DrAll.told I h2 r2)
end
end
def uReprX (K : PySem.W.Frag) : List V → Hp → VK → Prop := fun xs H Q => ∃ (v : V) (d : PyData), xs = [v] ∧ Dr K H v d ∧ fine d ∧ d.depth ≤ 100 ∧ cost d ≤ 10000000 ∧ Q (.str d.shown) H
theorem call_uReprX {X : Cx} (hr : Rm 1 X.A) : CallR X (.builtin "repr") (uReprX X.K) := by
  intro pins s σ H xs us Q I r h
  obtain ⟨v, d, rfl, hd, hf, hdep, hz, q⟩ := h
  have hs := fine_show hf
  have hz' : d.shown.length ≤ sizeLine := Nat.le_trans (shown_le hf) (line_big hz)
  have hu : X.A.units + (d.depth + 1) < cLine := by
    have := hr.rm.un
    omega
  have dpc : ∀ {v : V} {d : PyData}, Dp X.K H v d → d.showable = true → d.depth ≤ 100 → d.shown.length ≤ sizeLine → Q (.str d.shown) H → Vals [v] us → wpAny (model X.prog X.w) X.A (call (.builtin "repr") us) (EP X pins σ Q) X.xe s :=
    fun {v d} h1 h2 h3 h4 q r => call_uRep hr pins s σ H _ us Q I r (.inl ⟨v, d, rfl, h1, h2, h3, h4, q⟩)
  cases hd with
  | dp h => exact dpc h hs hdep hz' q r
  | @lst a xs ds hl ha =>
    cases ha with
    | nil => exact dpc (.lst (lst_sq hl) .nil) hs hdep hz' q r
    | @cons v0 vs d0 ds h0 h1 =>
      obtain ⟨u, rfl, rx⟩ := vals1 r
      cases rx
      obtain ⟨its, rv, ⟨o, n, ho, hc, _, hdt⟩, _⟩ := I.list (lst_sq (K := X.K) hl)
      have t := DrAll.told I (.cons h0 h1) rv
      have eS : (PyData.list (d0 :: ds)).shown = listText (PyData.shownAll (d0 :: ds)) := by simp only [PyData.shown]
      have eD : (PyData.list (d0 :: ds)).depth = PyData.depthAll (d0 :: ds) + 1 := by simp only [PyData.depth]
      rw [eS] at hz'
      obtain ⟨as, ra⟩ := t.r
      obtain ⟨bs, hb, hk⟩ := t.k (by simpa only [PyData.showable] using hs) fun x hx => Nat.le_trans (listText_mem_le hx) hz'
      have rr : Reads s.heap (.ref a) (.list (d0 :: ds)) (a :: as) := .list ho hc hdt ra
      have hna : a ∉ bs := not_mem_of_deeper rr (by rw [eD]; omega) hb
      cases its with
      | nil => cases rv
      | cons x l =>
        refine call_repr_slot (T := "list") (idr := "list.__repr__") (by omega) ⟨_, ho, hc⟩ F.slot_list_repr.toG (call_list_reprK ho hc hdt hna (by simpa using hk.length_eq) (fun i y q => hk.item i y (by simpa using q)) hr.gd (fun b _ => Clear.nil b) (by show X.A.units + 1 + _ < cLine; omega) (fun _ _ e => e) (fun h' u tk hkp => ⟨_, _, rfl, ?_⟩) hz')
        rw [← eS]
        exact ⟨.str _, H, I.kept (t' := tk) hkp, ⟨_, rfl⟩, q⟩
  | @tup a xs ds ht ha =>
    obtain ⟨u, rfl, rx⟩ := vals1 r
    cases rx
    obtain ⟨its, n, rv, _, ho⟩ := ht.obj I
    have t := DrAll.told I ha rv
    have eS : (PyData.tuple ds).shown = tupleText (PyData.shownAll ds) := by simp only [PyData.shown]
    have eD : (PyData.tuple ds).depth = PyData.depthAll ds + 1 := by simp only [PyData.depth]
    rw [eS] at hz'
    obtain ⟨as, ra⟩ := t.r
    obtain ⟨bs, hb, hk⟩ := t.k (by simpa only [PyData.showable] using hs) fun x hx => Nat.le_trans (tupleText_mem_le hx) hz'
    have rr : Reads s.heap (.ref a) (.tuple ds) as := .tuple ho rfl rfl ra
    have hna : a ∉ bs := not_mem_of_deeper rr (by rw [eD]; omega) hb
    refine call_repr_slot (T := "tuple") (idr := "tuple.__repr__") (by omega) ⟨_, ho, rfl⟩ F.slot_tuple_repr (call_tuple_reprK ho rfl rfl hna hk hr.gd (fun b _ => Clear.nil b) (by show X.A.units + 1 + _ < cLine; omega) (fun _ _ e => e) (fun h' u tk hkp => ⟨_, _, rfl, ?_⟩) hz')
    rw [← eS]
    exact ⟨.str _, H, I.kept (t' := tk) hkp, ⟨_, rfl⟩, q⟩
  | @dic a kvs vs ds h e ha =>
    obtain ⟨u, rfl, rx⟩ := vals1 r
    cases rx
    obtain ⟨o, es, n, t⟩ := toldD I h (by rw [← e]; exact ha.len) fun us rv => DrAll.told I ha (by rw [e]; exact rv)
    generalize (kvs.map fun p => keyD p.1).zip ds = kvd at *
    have eS : (PyData.dict kvd).shown = dictText (PyData.shownKv kvd) := by simp only [PyData.shown]
    have eD : (PyData.dict kvd).depth = PyData.depthKv kvd + 1 := by simp only [PyData.depth]
    rw [eS] at hz'
    obtain ⟨bs, ps, hb, hna, ep, hk⟩ := t.k (by simpa only [PyData.showable] using hs) hz'
    rw [ep] at hz' eS
    refine call_repr_slot (T := "dict") (idr := "dict.__repr__") (by omega) ⟨_, t.at_, t.c⟩ F.slot_dict_repr (call_dict_reprK t.at_ t.c t.d t.sy hna hk hr.gd (fun b _ => Clear.nil b) (by show X.A.units + 1 + _ < cLine; omega) (fun _ _ e => e) (fun h' u tk hkp => ⟨_, _, rfl, ?_⟩) hz')
    rw [← eS]
    exact ⟨.str _, H, I.kept (t' := tk) hkp, ⟨_, rfl⟩, q⟩
theorem g_repX {K : PySem.W.Frag} {H : Hp} {v : V} {d : PyData} {Q : VK} (h : Dr K H v d) (f : fine d) (l : d.depth ≤ 100) (c : cost d ≤ 10000000) (q : Q (.str d.shown) H) : uReprX K [v] H Q := ⟨v, d, rfl, h, f, l, c, q⟩
end Wg

namespace Wg
open PySem PySem.Spec PyProof.Rows L2
/-! ### exceptions as things -/
def MkV (K : PySem.W.Frag) (C : Addr) (fs : List Str) (ws : List V) (H : Hp) (Q : VK) : Prop := ws.length ≤ 1000 ∧ ∀ a, H a = none → spIni K C fs (.ref a :: (ws ++ [])) (upd H a (exo a C none))
  (fun v H2 => v = .non ∧ ∃ (d : Addr) (gs : List (Str × V)), H2 a = some (exo a C (some d)) ∧ H2 d = some (exd d gs) ∧ H d = none ∧ ∀ a2, (upd (del H2 a) d (.xd gs)) a2 = none → Q (.ref a2) (upd (upd (del H2 a) d (.xd gs)) a2 (ExV (.ref C) (some d) a2))) (fun _ _ _ => False)
theorem e_mkV {K : PySem.W.Frag} {C : Addr} {fs : List Str} {ta : TA} {σ : L2.St} {H : Hp} {Q : VK} : tMkV (tMkO C (spIni K C fs) [] ta) σ H Q ↔ ta σ H (fun vs H1 => MkV K C fs vs H1 Q) := Iff.rfl
def MkA (C : Addr) (ws : List V) (H : Hp) (Q : VK) : Prop := ws.length ≤ sizeLine ∧ ∀ a, H a = none → Q (.ref a) (upd H a (ExV (.ref C) none a))
theorem e_mkA {C : Addr} {ta : TA} {σ : L2.St} {H : Hp} {Q : VK} : tMkV (tMkA C ta) σ H Q ↔ ta σ H (fun vs H1 => MkA C vs H1 Q) := Iff.rfl
def RaW (K : PySem.W.Frag) (W : WX) (C : Addr) (fs : List Str) (σ : L2.St) (ws : List V) (H : Hp) : Prop := ws.length ≤ 1000 ∧ ∀ a, H a = none → spIni K C fs (.ref a :: (ws ++ [])) (upd H a (exo a C none))
  (fun v H2 => v = .non ∧ ∃ (d : Addr) (gs : List (Str × V)), H2 a = some (exo a C (some d)) ∧ H2 d = some (exd d gs) ∧ H d = none ∧ W (.ref C) (some d) σ (upd (del H2 a) d (.xd gs))) (fun _ _ _ => False)
theorem e_raW {K : PySem.W.Frag} {W : WX} {C : Addr} {fs : List Str} {ta : TA} {D : Ends} {σ : L2.St} {H : Hp} : tRaiseW W (tMkO C (spIni K C fs) [] ta) D σ H ↔ ta σ H (fun vs H1 => RaW K W C fs σ vs H1) := Iff.rfl
/-- an exception of the class C with the fields fs, as it stands in the heap -/
def EAt (H : Hp) (a C : Addr) (fs : List (Str × V)) : Prop := ∃ d, H a = some (ExV (.ref C) d a) ∧ ((d = none ∧ fs = []) ∨ ∃ dd, d = some dd ∧ H dd = some (.xd fs))
theorem EAt.keep {H H' : Hp} {a C : Addr} {fs : List (Str × V)} (h : EAt H a C fs) (k : Keep [] H H') : EAt H' a C fs := by
  obtain ⟨d, e, h⟩ := h
  refine ⟨d, k _ _ nin0 e, ?_⟩
  rcases h with h | ⟨dd, ed, h⟩
  · exact .inl h
  · exact .inr ⟨dd, ed, k _ _ nin0 h⟩
theorem EAt.ea {K : PySem.W.Frag} {H : Hp} {a C : Addr} {fs : List (Str × V)} (h : EAt H a C fs) (T : ExA K C) : ExcAt K H a C fs := ⟨T, h⟩
theorem g_mkV {K : PySem.W.Frag} {C : Addr} {fs : List Str} {ws : List V} {H : Hp} {Q : VK} (l : ws.length = fs.length) (l2 : ws.length ≤ 1000) (q : ∀ a H', Keep [] H H' → EAt H' a C (fs.zip ws).reverse → Q (.ref a) H') : MkV K C fs ws H Q := by
  refine g_mkO (σ := []) (Q := fun cls d H' => ∀ a, H' a = none → Q (.ref a) (upd H' a (ExV cls d a))) l l2 fun d nd a na => ?_
  have ne : d ≠ a := fun z => by rw [← z, upd_same] at na; cases na
  refine q a _ ((Keep.new nd).trans (Keep.new na)) ⟨some d, upd_same, .inr ⟨d, rfl, ?_⟩⟩
  rw [upd_ne ne, upd_same]
theorem g_mkA {C : Addr} {ws : List V} {H : Hp} {Q : VK} (l : ws.length ≤ 1000) (q : ∀ a H', Keep [] H H' → EAt H' a C [] → Q (.ref a) H') : MkA C ws H Q :=
  ⟨len_le (by omega), fun a na => q a _ (Keep.new na) ⟨none, upd_same, .inl ⟨rfl, rfl⟩⟩⟩
theorem rel_refX {C : Addr} : ∀ u, RelV (.ref C) u → u = .ref C := fun u r => r
theorem rel_tyX {T : String} : ∀ u, RelV (.ty T) u → u = .type T := fun u r => r
theorem g_isV {K : PySem.W.Frag} {H : Hp} {a C c : Addr} {fs : List (Str × V)} {b : Bool} {Q : VK} (h : ExcAt K H a C fs) (k : PySem.W.kitOne K (.ref C) (.ref c) = some b) (q : Q (.bl b) H) : rIsV K [.ref a, .ref c] H Q :=
  ⟨a, C, fs, .ref c, rfl, h, .inl ⟨_, b, rel_refX, k, q⟩⟩
theorem g_isVT {K : PySem.W.Frag} {H : Hp} {a C : Addr} {T : String} {fs : List (Str × V)} {b : Bool} {Q : VK} (h : ExcAt K H a C fs) (k : PySem.W.kitOne K (.ref C) (.type T) = some b) (q : Q (.bl b) H) : rIsV K [.ref a, .ty T] H Q :=
  ⟨a, C, fs, .ty T, rfl, h, .inl ⟨_, b, rel_tyX, k, q⟩⟩
def XfV (K : PySem.W.Frag) (f : Str) (Q : VK) (x : V) (H1 : Hp) : Prop := ∃ (a C : Addr) (fs : List (Str × V)) (v : V), x = .ref a ∧ ExcAt K H1 a C fs ∧ PySem.W.findIn K (.ref C) f = some none ∧ fs.lookup f = some v ∧ Q v H1
theorem e_xfV {K : PySem.W.Frag} {f : Str} {te : TE} {σ : L2.St} {H : Hp} {Q : VK} : tXfV K f te σ H Q ↔ te σ H (XfV K f Q) := Iff.rfl
theorem g_xfV {K : PySem.W.Frag} {f : Str} {a C : Addr} {fs : List (Str × V)} {v : V} {H : Hp} {Q : VK} (h : ExcAt K H a C fs) (no : PySem.W.findIn K (.ref C) f = some none) (l : fs.lookup f = some v) (q : Q v H) : XfV K f Q (.ref a) H := ⟨a, C, fs, v, rfl, h, no, l, q⟩
end Wg

/-! Wagon, part 47: sorted of a tuple of alike data. -/
namespace Wg
open PySem PySem.Spec PyProof.Rows PySem.W
section
variable {prog : Program} {w : World} {A : Around} {E : Value → Shared → Prop} {s : Shared} {l : Addr} {vs : List Value} {ob : Obj} {n : Nat}
theorem collect_tupV {Q : List Value → Shared → Prop} (at_ : s.heap.get? l = some ob) (cl_ : ob.cls = .type "tuple") (dt : ob.data = .seq vs.toArray n) (few : vs.length ≤ sizeLine)
    (q : Q vs { s with heap := (s.heap.push (seqObj "list" #[] 0)).update s.heap.objs.size (Obj.mapSeq (· ++ vs.toArray)) }) : wpAny (model prog w) A (collect (.ref l)) Q E s := by
  unfold collect
  refine wpAny_bind (wpAny_runValue (codeAny_builtin entry_proto_collect' ?_))
  show wpAny _ _ (do again (.builtin "list.__iadd__" ⟨[← newList [], .ref l], []⟩)) _ _ s
  refine wpAny_bind (wpAny_newList (wpAny_pure ⟨Code.quiet_builtin _ (by decide +kernel), codeAny_builtin entry_list_iadd' ?_⟩))
  show wpAny _ _ (Builtin.List.listExtendWith (.ref s.heap.objs.size) (.ref l) (.ref s.heap.objs.size)) _ _ { s with heap := s.heap.push (seqObj "list" #[] 0) }
  unfold Builtin.List.listExtendWith
  have at2 : (s.heap.push (seqObj "list" #[] 0)).get? l = some ob := Heap.get?_push_of_some _ at_
  refine wpAny_bind (wpAny_typeOf (T := "tuple") ⟨ob, at2, cl_⟩ ?_)
  have same : (Value.type "tuple" == Value.type "tuple") = true := by rfl
  rw [if_pos (by rw [same]; simp)]
  refine wpAny_bind (listItems_at at2 dt ?_)
  refine wpAny_bind (listItems_at (xs := #[]) (n := 0) (Heap.get?_push_size _ rfl) rfl ?_)
  rw [if_neg (by simp)]
  refine wpAny_bind (listUpdate_at (xs := #[]) (n := 0) (Heap.get?_push_size _ rfl) rfl ?_ (Nat.zero_le _) (by show (#[] ++ vs.toArray).size ≤ sizeLine + 1; simp only [Array.size_append, List.size_toArray, List.length_nil]; omega))
  refine wpAny_pure ?_
  show wpAny (model prog w) A (do
      let o ← load s.heap.objs.size
      match o.data with
      | .seq xs _ => pure xs.toList
      | _ => unsupported "internal:collect") Q E { s with heap := (s.heap.push (seqObj "list" #[] 0)).update s.heap.objs.size (Obj.mapSeq (· ++ vs.toArray)) }
  refine wpAny_bind (wpAny_load (get?_update_seq (Heap.get?_push_size _ rfl) _) ?_)
  show wpAny _ _ (pure ((#[] : Array Value) ++ vs.toArray).toList) Q E _
  rw [show ((#[] : Array Value) ++ vs.toArray).toList = vs by simp]
  exact wpAny_pure q
theorem sortT_vals {κ : PyProof.Rows.KeyKind} {Q : Value → Shared → Prop} (at_ : s.heap.get? l = some ob) (cl_ : ob.cls = .type "tuple") (dt : ob.data = .seq vs.toArray n) (few : vs.length ≤ sizeLine)
    (S : SortsAt prog w A.in1.in1 { s with heap := sortingHeap (copyHeap s.heap vs) (s.heap.objs.size + 1) vs } κ vs)
    (q : Q (.ref (s.heap.objs.size + 1)) { s with heap := sortedAll s.heap vs (sortVals κ false vs vs).toArray }) : wpAny (model prog w) A (call (.builtin "sorted") [.ref l]) Q E s := by
  refine call_function_entry_kw kind_sorted plain_sorted entry_sorted (args_sorted1 _) ?_
  unfold Builtin.«sorted»
  refine wpAny_bind (m := checkCount "sorted" 1 1 _) (wpAny_pure ?_)
  refine wpAny_bind (collect_tupV at_ cl_ dt few ?_)
  refine wpAny_bind (wpAny_newList ?_ few)
  have sz : ((s.heap.push (seqObj "list" #[] 0)).update s.heap.objs.size (Obj.mapSeq (· ++ vs.toArray))).objs.size = s.heap.objs.size + 1 := by
    rw [Heap.size_update, size_push']
  show wpAny _ _ _ _ _ { s with heap := copyHeap s.heap vs }
  rw [sz]
  refine wpAny_bind (wpAny_holding (wpAny_call_entry_kw slot_list_sort ⟨_, copyHeap_at s.heap vs, rfl⟩ entry_list_sort ?_ (args_list_sort _)))
  show wpAny (model prog w) A.in1.in1 (Builtin.«list.sort» ⟨[.ref (s.heap.objs.size + 1)], []⟩) _ _ _
  refine wpAny_mono (list_sort_vals (s := { s with heap := copyHeap s.heap vs }) (P := fun f s' => f = .done (.ret .none) ∧ Q (.ref (s.heap.objs.size + 1)) s') (copyHeap_at s.heap vs) S few ⟨rfl, q⟩) (fun f s' hf => ?_) fun _ _ e => e
  obtain ⟨rfl, hq⟩ := hf
  exact ⟨_, rfl, wpAny_pure ⟨_, rfl, hq⟩⟩
theorem sortT_data {β : Type} {R : Value → β → Prop} {enc : β → PyData} {bs : List β} {Q : Value → Shared → Prop} (at_ : s.heap.get? l = some ob) (cl_ : ob.cls = .type "tuple") (dt : ob.data = .seq vs.toArray n) (e : EachIs R vs bs) (er : EachIs (fun v b => ∃ as, Reads s.heap v (enc b) as) vs bs)
    (hal : AllAlike (bs.map enc)) (hk : Sortable (bs.map enc)) (few : bs.length ≤ sizeLine) (hu : ∀ b, b ∈ bs → A.units + 2 + (enc b).depth < cLine)
    (q : ∀ out, out.length = bs.length → EachIs R out (bs.mergeSort (dataLe false enc)) → Q (.ref (s.heap.objs.size + 1)) { s with heap := sortedAll s.heap vs (List.toArray out) }) :
    wpAny (model prog w) A (call (.builtin "sorted") [.ref l]) Q E s := by
  have er2 : EachIs (fun v b => ∃ as, Reads (sortingHeap (copyHeap s.heap vs) (s.heap.objs.size + 1) vs) v (enc b) as) vs bs := er.mono fun _ _ ⟨as, r⟩ => ⟨as, PyProof.Rows.Reads.keeps (fun _ _ => sorting_copy_old) r⟩
  exact sortT_vals at_ cl_ dt (by rw [e.length]; exact few) (SortsAt.data (s := { s with heap := sortingHeap (copyHeap s.heap vs) (s.heap.objs.size + 1) vs }) (each_map (R := fun v d => ∃ as, Reads (sortingHeap (copyHeap s.heap vs) (s.heap.objs.size + 1) vs) v d as) enc er2) hal hk (bound_map hu))
    (q _ (by rw [sortVals_length false rfl]; exact e.length) (sortVals_data false e er2 hal))
end
end Wg
namespace Wg
open PySem PySem.Spec PyProof.Rows L2
/-- sorted(tuple of alike data) -/
def uSortedT (K : PySem.W.Frag) : List V → Hp → VK → Prop := fun vs H Q => ∃ (α : Type) (RR : V → α → Prop) (enc : α → PyData) (a : Addr) (xs : List V) (rs : List α), vs = [.ref a] ∧ Tup H a xs ∧ PySem.W.EachIs RR xs rs ∧ xs.length ≤ 1000 ∧
  (∀ x r, RR x r → Dp K H x (enc r)) ∧ PySem.W.AllAlike (rs.map enc) ∧ PySem.W.Sortable (rs.map enc) ∧ (∀ r ∈ rs, (enc r).depth ≤ 50) ∧
  ∀ ys, ys.length = xs.length → PySem.W.EachIs RR ys (rs.mergeSort (PySem.W.dataLe false enc)) → Mk H (.lst ys) Q
theorem call_uSortedT {X : Cx} (hu : X.A.units + 64 < cLine) : CallR X (.builtin "sorted") (uSortedT X.K) := by
  intro pins s σ H vs us Q I r h
  obtain ⟨α, RR, enc, a, xs, rs, rfl, ht, he, few, hd, ha, hk, hdp, q⟩ := h
  obtain ⟨its, n, rv, _, ho⟩ := ht.obj I
  obtain ⟨u, rfl, ru⟩ := vals1 r
  obtain rfl : u = Value.ref a := ru
  have er := each_vals rv he
  have lz : rs.length ≤ sizeLine := len_le (by rw [← he.length]; omega)
  refine sortT_data (R := fun u r => ∃ x, RelV x u ∧ RR x r) ho rfl rfl er (er.mono fun u r ⟨x, h1, h2⟩ => Dp.reads I _ _ _ (hd x r h2) h1) ha hk lz (fun b hb => by have := hdp b hb; omega) fun out lo eo => ?_
  obtain ⟨ys, v1, e1⟩ := vals_each eo
  obtain ⟨m, hm⟩ := sortedAll_at s.heap its (List.toArray out)
  have hly : ys.length = xs.length := by rw [v1.length, lo, he.length]
  refine ⟨.ref (s.heap.objs.size + 1), upd H (s.heap.objs.size + 1) (.lst ys), I.laid (t' := s.toks) (fun b o e => sortedAll_old e) (Nat.le_succ _) ⟨by rw [hly, he.length]; exact lz, out, m, v1, hm⟩, rfl, ?_⟩
  have nf := I.hok.fresh (Nat.le_succ s.heap.objs.size)
  exact q ys hly e1 _ _ nf (Keep.new nf) upd_same
end Wg

/-! Wagon, part 48: anything asked in a tuple of texts; any list held against the empty list. -/
namespace Wg
open PySem PySem.Spec PyProof.Rows L2
theorem str_eq_declines_dict (b : Str) (u : Tok) (a : Addr) (cls : Value) (dd : Option Addr) (es : Array DictEntry) (n : Nat) (sl : Array (Option Value)) : Meets (Builtin.«str.__eq__» { pos := [Value.str b u, Value.ref a] }) fun x R s =>
    s.heap.get? a = some ⟨cls, dd, .dict es n, sl⟩ ∧ R (Except.ok (Flow.ret Value.notImplemented)) s := by
  refine Meets.of_wp fun prog w A R s h => ?_
  obtain ⟨hp, g, d, tk, os⟩ := s
  obtain ⟨hl, h⟩ := h
  refine wpAny_bind (wpAny_bind ?_)
  unfold slotArgs
  refine wpAny_ite_false rfl (wpAny_ite_false rfl (wpAny_pure ?_))
  refine wpAny_bind ?_
  refine wpAny_pure ?_
  refine wpAny_pure ?_
  refine wpAny_bind ?_
  refine wpAny_bind ?_
  refine wpAny_load hl ?_
  refine wpAny_pure (wpAny_bind (wpAny_rule ?_))
  exact wpAny_pure ⟨_, rfl, h⟩
theorem dict_eq_declines_str (a : Addr) (o : Obj) (b : Str) (u : Tok) : Meets (Builtin.«dict.__eq__» { pos := [Value.ref a, Value.str b u] }) fun x R s =>
    s.heap.get? a = some o ∧ R (Except.ok (Flow.ret Value.notImplemented)) s := by
  refine Meets.of_wp fun prog w A R s h => ?_
  obtain ⟨ho, h⟩ := h
  have f1 := F.sub_str_dict
  refine wpAny_bind (wpAny_bind ?_)
  unfold Builtin.Dict.notOrdered
  refine wpAny_ite_false (by decide +kernel) (wpAny_pure (wpAny_bind ?_))
  unfold slotArgs
  refine wpAny_ite_false rfl (wpAny_ite_false rfl (wpAny_pure (wpAny_pure ?_)))
  refine wpAny_bind ?_
  refine wpAny_bind (wpAny_pure (wpAny_of_eq f1 ?_))
  refine wpAny_ite_true rfl (wpAny_bind (wpAny_rule ?_))
  exact wpAny_pure ⟨_, rfl, h⟩
theorem rc_str_dict {A : Around} {s : Shared} {a : Addr} {dd : Option Addr} {es : Array DictEntry} {n : Nat} {sl : Array (Option Value)} (b : Str) (u : Tok) (ho : s.heap.get? a = some ⟨.type "dict", dd, .dict es n, sl⟩) (hu : A.units < cLine) : SeqAt.RcAt A s (Value.str b u) (Value.ref a) false := fun prog w E Q h =>
  SeqAt.rc_eq_decline_or (typeIs_str s b u) ⟨_, ho, rfl⟩ (by decide) F.sub_dict_str F.slot_str_eq F.slot_dict_eq_refl
    (fun x hq => call_meets F.slot_str_eq (typeIs_str s b u) F.entry_str_eq (F.args_str_eq_2 _ _) (str_eq_declines_dict b u a _ dd es n sl) ⟨ho, hq⟩)
    (fun x hq => call_meets F.slot_dict_eq_refl ⟨_, ho, rfl⟩ F.entry_dict_eq (F.args_dict_eq_2 _ _) (dict_eq_declines_str a _ b u) ⟨ho, hq⟩)
    (fun x hq => wpAny_of_eq rfl hq) (.inr hu) h
theorem eq_str_dict {A : Around} {s : Shared} {a : Addr} {dd : Option Addr} {es : Array DictEntry} {n : Nat} {sl : Array (Option Value)} (b : Str) (u : Tok) (ho : s.heap.get? a = some ⟨.type "dict", dd, .dict es n, sl⟩) (hu : A.units < cLine) : SeqAt.EqAt A s (Value.str b u) (Value.ref a) false := fun prog w E Q h => by
  unfold eqBool
  exact wpAny_holding (wpAny_ite_split (fun hab => absurd (eq_of_beq hab) fun a => nomatch a) fun x => wpAny_bind (rc_str_dict b u ho hu prog w E _ (wpAny_truthy_bool h)))
/-- any data that lies in the heap -/
def AnyV (H : Hp) (x : V) : Prop := flatV x = true ∨ (∃ l xs, x = .ref l ∧ H l = some (.lst xs)) ∨ (∃ l xs, x = .ref l ∧ Tup H l xs) ∨ ∃ l kvs, x = .ref l ∧ H l = some (.dK kvs)
def inX (x : V) (ys : List Str) : Bool := match x with
  | .str z => decide (z ∈ ys)
  | _ => false
theorem flat_strsX (ys : List Str) : (ys.map V.str).all flatV = true := by
  rw [List.all_map]
  exact List.all_eq_true.mpr fun _ _ => rfl
theorem inV_inX {x : V} (ys : List Str) (f : flatV x = true) : inV x (ys.map V.str) = inX x ys := by
  induction ys with
  | nil => cases x <;> first | rfl | cases f
  | cons y ys ih =>
    have e : inV x ((y :: ys).map V.str) = (eqV (.str y) x || inV x (ys.map V.str)) := rfl
    rw [e, ih]
    cases x with
    | str z =>
      show (eqV (.str y) (.str z) || decide (z ∈ ys)) = decide (z ∈ y :: ys)
      by_cases h : z = y
      · subst h; simp [eqV]
      · have h' : ¬ y = z := fun q => h q.symm
        simp [eqV, h, h']
    | non => rfl
    | bl b => rfl
    | int i => rfl
    | _ => cases f
def uInX (K : PySem.W.Frag) (neg : Bool) : R2 := fun x y H Q => ∃ a ys, y = .ref a ∧ Tup H a (ys.map V.str) ∧ AnyV H x ∧ Q (.bl (if neg then !inX x ys else inX x ys)) H
section
variable {X : Cx}
theorem strs_vals : ∀ {ys : List Str} {its : List Value}, Vals (ys.map V.str) its → ∀ w ∈ its, ∃ z t, w = Value.str z t
  | [], _, .nil, w, h => (List.not_mem_nil h).elim
  | y :: ys, _, .cons r q, w, h => by
    rcases List.mem_cons.mp h with rfl | h
    · obtain ⟨t, e⟩ := r
      exact ⟨y, t, e⟩
    · exact strs_vals q w h
/-- each item differs from what is asked -/
theorem any_differs (hu : X.A.units + 65 < cLine) {pins : List (Addr × Obj)} {σ : L2.St} {H : Hp} {s : Shared} (I : L2.Inv X pins σ H s) {x : V} {v : Value} (rx : L2.RelV x v) (h : ¬ flatV x = true) (hx : AnyV H x) : inX x = (fun _ => false) ∧ ∀ (z : Str) (t : Tok), SeqAt.EqAt X.A.in1 s (Value.str z t) v false := by
  have hu1 : X.A.in1.units < cLine := by show X.A.units + 1 < cLine; omega
  rcases hx with f | ⟨l, xs, rfl, e⟩ | ⟨l, xs, rfl, e⟩ | ⟨l, kvs, rfl, e⟩
  · exact absurd f h
  · cases rx
    obtain ⟨its, _, pl, _⟩ := I.list (lst_sq (K := X.K) e)
    exact ⟨rfl, fun z t => SeqAt.EqAt.str_list z t pl.isList hu1⟩
  · cases rx
    obtain ⟨its, _, pl, _⟩ := I.tuple (e.sq (K := X.K))
    exact ⟨rfl, fun z t => SeqAt.EqAt.str_tuple z t pl hu1⟩
  · cases rx
    obtain ⟨z, hsy, ws, kv, o, es, ep, ho, ex, hdat, _⟩ := I.hok l _ e
    obtain ⟨cls, dd, data, sl⟩ := o
    have e1 : cls = .type "dict" := ex.1
    subst e1
    have e2 : data = .dict es _ := hdat
    subst e2
    exact ⟨rfl, fun z t => eq_str_dict z t ho hu1⟩
theorem op_uInX (hu : X.A.units + 65 < cLine) : OpR X (compareOp .In) (uInX X.K false) := by
  intro pins s σ H x y v u Q I rx ry ⟨a, ys, e, ht, hx, q⟩
  by_cases f : flatV x = true
  · exact op_uIn pins s σ H x y v u Q I rx ry (.inl ⟨a, _, e, .inr ht.sq, f, flat_strsX ys, by rw [if_neg (by decide), inV_inX ys f]; exact q⟩)
  · subst e
    cases ry
    obtain ⟨d1, d2⟩ := any_differs hu I rx f hx
    obtain ⟨its, rv, pl, _⟩ := I.tuple (ht.sq (K := X.K))
    refine SeqAt.in_tupleAt (fun _ => false) pl (fun w hw => ?_) ⟨.bl (its.toArray.any fun _ => false), H, I, rfl, ?_⟩
    · obtain ⟨z, t, rfl⟩ := strs_vals rv w (by simpa using hw)
      exact d2 z t
    · rw [d1] at q
      have : (its.toArray.any fun _ => false) = false := by simp
      rw [this]
      exact q
theorem op_uNotInX (hu : X.A.units + 65 < cLine) : OpR X (compareOp .NotIn) (uInX X.K true) := by
  intro pins s σ H x y v u Q I rx ry ⟨a, ys, e, ht, hx, q⟩
  by_cases f : flatV x = true
  · exact op_uNotIn pins s σ H x y v u Q I rx ry (.inl ⟨a, _, e, .inr ht.sq, f, flat_strsX ys, by rw [if_pos rfl, inV_inX ys f]; exact q⟩)
  · subst e
    cases ry
    obtain ⟨d1, d2⟩ := any_differs hu I rx f hx
    obtain ⟨its, rv, pl, _⟩ := I.tuple (ht.sq (K := X.K))
    refine SeqAt.notIn_tupleAt (fun _ => false) pl (fun w hw => ?_) ⟨.bl (!its.toArray.any fun _ => false), H, I, rfl, ?_⟩
    · obtain ⟨z, t, rfl⟩ := strs_vals rv w (by simpa using hw)
      exact d2 z t
    · rw [d1] at q
      have : (its.toArray.any fun _ => false) = false := by simp
      rw [this]
      exact q
/-- a list of anything held against the empty list -/
def uEqE : R2 := fun x y H Q => ∃ a b xs, x = .ref a ∧ y = .ref b ∧ H a = some (.lst xs) ∧ H b = some (.lst []) ∧ Q (.bl xs.isEmpty) H
theorem op_uEqE (hu : X.A.units + 65 < cLine) : OpR X (compareOp .Eq) uEqE := by
  intro pins s σ H x y v u Q I rx ry ⟨a, b, xs, e1, e2, ha, hb, q⟩
  subst e1 e2
  cases rx
  cases ry
  obtain ⟨its, rv, pl, _⟩ := I.list (lst_sq (K := X.K) ha)
  obtain ⟨its2, rv2, pl2, _⟩ := I.list (lst_sq (K := X.K) hb)
  cases rv2
  cases rv with
  | nil => exact SeqAt.eq_listAt (e := fun _ => true) pl.isList pl2.isList rfl (by omega) (fun j h1 h2 => absurd h1 (by simp)) ⟨.bl true, H, I, rfl, q⟩
  | cons r rs => exact SeqAt.eq_list_lengthsAt pl.isList pl2.isList (by simp) (by omega) ⟨.bl false, H, I, rfl, q⟩
end
theorem g_inX {K : PySem.W.Frag} {H : Hp} {x : V} {a : Addr} {ys : List Str} {Q : VK} (h : Tup H a (ys.map V.str)) (hx : AnyV H x) (q : Q (.bl (inX x ys)) H) : uInX K false x (.ref a) H Q := ⟨a, ys, rfl, h, hx, q⟩
theorem g_ninX {K : PySem.W.Frag} {H : Hp} {x : V} {a : Addr} {ys : List Str} {Q : VK} (h : Tup H a (ys.map V.str)) (hx : AnyV H x) (q : Q (.bl (!inX x ys)) H) : uInX K true x (.ref a) H Q := ⟨a, ys, rfl, h, hx, q⟩
theorem g_eqE {H : Hp} {a b : Addr} {xs : List V} {Q : VK} (h : H a = some (.lst xs)) (e : H b = some (.lst [])) (q : Q (.bl xs.isEmpty) H) : uEqE (.ref a) (.ref b) H Q := ⟨a, b, xs, rfl, rfl, h, e, q⟩
end Wg

/-! Wagon, part 49: True and False counted as numbers: + and - a number, str. -/
namespace Wg
open PySem PySem.Spec PyProof.Rows L2
def numOfV : V → Option Int
  | .int i => some i
  | .bl b => some (if b then 1 else 0)
  | _ => none
/-- number or bool beside a number -/
def rN0 (f : Int → Int → Int) : R2 := fun x y H Q => ∃ i j, numOfV x = some i ∧ y = .int j ∧ Q (.int (f i j)) H
section
variable {X : Cx}
theorem op_addN : OpR X (binaryOp .Add) (rN0 fun i j => i + j) := by
  intro pins s σ H x y v u Q I rx ry ⟨i, j, hx, hy, q⟩
  subst hy
  cases x with
  | int k =>
    obtain rfl : k = i := Option.some.inj hx
    exact op_add pins s σ H _ _ v u Q I rx ry ⟨k, j, rfl, rfl, q⟩
  | bl b =>
    have hx' : (if b then 1 else 0 : Int) = i := Option.some.inj hx
    obtain ⟨t, rfl⟩ := ry
    cases rx
    exact IntBool.add_bool_int ⟨.int (i + j), H, Inv.tok I _, ⟨_, by rw [hx']⟩, q⟩
  | _ => cases hx
theorem op_subN : OpR X (binaryOp .Sub) (rN0 fun i j => i - j) := by
  intro pins s σ H x y v u Q I rx ry ⟨i, j, hx, hy, q⟩
  subst hy
  cases x with
  | int k =>
    obtain rfl : k = i := Option.some.inj hx
    exact op_sub pins s σ H _ _ v u Q I rx ry ⟨k, j, rfl, rfl, q⟩
  | bl b =>
    have hx' : (if b then 1 else 0 : Int) = i := Option.some.inj hx
    obtain ⟨t, rfl⟩ := ry
    cases rx
    exact IntBool.sub_bool_int ⟨.int (i - j), H, Inv.tok I _, ⟨_, by rw [hx']⟩, q⟩
  | _ => cases hx
end
def numS : V → Str
  | .int i => Str.ofString (toString i)
  | .bl b => if b then Str.ofString "True" else Str.ofString "False"
  | _ => ""
def uStrN : List V → Hp → VK → Prop := fun xs H Q => ∃ x i, xs = [x] ∧ numOfV x = some i ∧ i.natAbs.log2 < 1920 ∧ Q (.str (numS x)) H
theorem call_uStrN {X : Cx} : CallR X (.type "str") uStrN := by
  intro pins s σ H xs us Q I r ⟨x, i, e, hx, hz, q⟩
  subst e
  cases x with
  | int k =>
    obtain rfl : k = i := Option.some.inj hx
    exact call_uStr pins s σ H _ us Q I r ⟨k, rfl, hz, q⟩
  | bl b =>
    obtain ⟨u, rfl, ru⟩ := vals1 r
    cases ru
    exact P.str_of_bool ⟨.str (numS (.bl b)), H, Inv.tok I _, ⟨_, rfl⟩, q⟩
  | _ => cases hx
end Wg

/-! Wagon, part 50: anything held against a text, asked in a list of texts; a tuple of texts asked in a list of tuples of anything; >= of alike data. -/
namespace Wg
open PySem PySem.Spec PyProof.Rows L2
theorem rc_dict_str {A : Around} {s : Shared} {a : Addr} {dd : Option Addr} {es : Array DictEntry} {n : Nat} {sl : Array (Option Value)} (b : Str) (u : Tok) (ho : s.heap.get? a = some ⟨.type "dict", dd, .dict es n, sl⟩) (hu : A.units < cLine) : SeqAt.RcAt A s (Value.ref a) (Value.str b u) false := fun prog w E Q h =>
  SeqAt.rc_eq_decline_or ⟨_, ho, rfl⟩ (typeIs_str s b u) (by decide) F.sub_str_dict F.slot_dict_eq F.slot_str_eq_refl
    (fun x hq => call_meets F.slot_dict_eq ⟨_, ho, rfl⟩ F.entry_dict_eq (F.args_dict_eq_2 _ _) (dict_eq_declines_str a _ b u) ⟨ho, hq⟩)
    (fun x hq => call_meets F.slot_str_eq_refl (typeIs_str s b u) F.entry_str_eq (F.args_str_eq_2 _ _) (str_eq_declines_dict b u a _ dd es n sl) ⟨ho, hq⟩)
    (fun x hq => wpAny_of_eq rfl hq) (.inr hu) h
theorem eq_dict_str {A : Around} {s : Shared} {a : Addr} {dd : Option Addr} {es : Array DictEntry} {n : Nat} {sl : Array (Option Value)} (b : Str) (u : Tok) (ho : s.heap.get? a = some ⟨.type "dict", dd, .dict es n, sl⟩) (hu : A.units < cLine) : SeqAt.EqAt A s (Value.ref a) (Value.str b u) false := fun prog w E Q h => by
  unfold eqBool
  exact wpAny_holding (wpAny_ite_split (fun hab => absurd (eq_of_beq hab) fun a => nomatch a) fun x => wpAny_bind (rc_dict_str b u ho hu prog w E _ (wpAny_truthy_bool h)))
def isTxt (x : V) (z : Str) : Bool := match x with
  | .str w => decide (w = z)
  | _ => false
section
variable {X : Cx}
/-- any data held against a text, both ways of asking -/
theorem any_txt {A : Around} (hu : A.units < cLine) {pins : List (Addr × Obj)} {σ : L2.St} {H : Hp} {s : Shared} (I : L2.Inv X pins σ H s) {x : V} {v : Value} (rx : L2.RelV x v) (hx : AnyV H x) (z : Str) (t : Tok) :
    SeqAt.RcAt A s v (.str z t) (isTxt x z) ∧ SeqAt.EqAt A s v (.str z t) (isTxt x z) := by
  rcases hx with f | ⟨l, xs, rfl, e⟩ | ⟨l, xs, rfl, e⟩ | ⟨l, kvs, rfl, e⟩
  · cases x with
    | non => cases rx; exact ⟨SeqAt.RcAt.none_str z t, SeqAt.EqAt.none_str z t⟩
    | bl b => cases rx; exact ⟨SeqAt.RcAt.bool_str b z t, SeqAt.EqAt.bool_str b z t⟩
    | int i =>
      obtain ⟨u, rfl⟩ := rx
      exact ⟨SeqAt.RcAt.int_str i u z t, SeqAt.EqAt.int_str i u z t⟩
    | str w =>
      obtain ⟨u, rfl⟩ := rx
      have e : isTxt (.str w) z = (w == z) := by
        show decide (w = z) = _
        rw [Bool.eq_iff_iff]; simp
      rw [e]
      exact ⟨SeqAt.RcAt.str_str w u z t, SeqAt.EqAt.str_str w u z t⟩
    | _ => cases f
  · cases rx
    obtain ⟨its, _, pl, _⟩ := I.list (lst_sq (K := X.K) e)
    exact ⟨SeqAt.RcAt.list_str z t pl.isList hu, SeqAt.EqAt.list_str z t pl.isList hu⟩
  · cases rx
    obtain ⟨its, _, pl, _⟩ := I.tuple (e.sq (K := X.K))
    exact ⟨SeqAt.RcAt.tuple_str z t pl hu, SeqAt.EqAt.tuple_str z t pl hu⟩
  · cases rx
    obtain ⟨y, hsy, ws, kv, o, es, ep, ho, ex, hdat, _⟩ := I.hok l _ e
    obtain ⟨cls, dd, data, sl⟩ := o
    have e1 : cls = .type "dict" := ex.1
    subst e1
    have e2 : data = .dict es _ := hdat
    subst e2
    exact ⟨rc_dict_str z t ho hu, eq_dict_str z t ho hu⟩
def uEqX : R2 := fun x y H Q => ∃ z, y = .str z ∧ AnyV H x ∧ Q (.bl (isTxt x z)) H
theorem op_uEqX (hu : X.A.units + 65 < cLine) : OpR X (compareOp .Eq) uEqX := by
  intro pins s σ H x y v u Q I rx ry ⟨z, e, hx, q⟩
  subst e
  obtain ⟨t, rfl⟩ := ry
  exact (any_txt (by omega) I rx hx z t).1 _ _ _ _ ⟨.bl _, H, I, rfl, q⟩
/-- anything asked in a list of texts -/
def uInXL (K : PySem.W.Frag) (neg : Bool) : R2 := fun x y H Q => ∃ a ys, y = .ref a ∧ H a = some (.lst (ys.map V.str)) ∧ AnyV H x ∧ Q (.bl (if neg then !inX x ys else inX x ys)) H
theorem op_uInXL (hu : X.A.units + 65 < cLine) : OpR X (compareOp .In) (uInXL X.K false) := by
  intro pins s σ H x y v u Q I rx ry ⟨a, ys, e, ht, hx, q⟩
  by_cases f : flatV x = true
  · exact op_uIn pins s σ H x y v u Q I rx ry (.inl ⟨a, _, e, .inl (lst_sq ht), f, flat_strsX ys, by rw [if_neg (by decide), inV_inX ys f]; exact q⟩)
  · subst e
    cases ry
    obtain ⟨d1, d2⟩ := any_differs hu I rx f hx
    obtain ⟨its, rv, pl, _⟩ := I.list (lst_sq (K := X.K) ht)
    refine SeqAt.in_listAt (fun _ => false) pl.isList (fun w hw => ?_) ⟨.bl (its.toArray.any fun _ => false), H, I, rfl, ?_⟩
    · obtain ⟨z, t, rfl⟩ := strs_vals rv w (by simpa using hw)
      exact d2 z t
    · rw [d1] at q
      have : (its.toArray.any fun _ => false) = false := by simp
      rw [this]
      exact q
theorem op_uNotInXL (hu : X.A.units + 65 < cLine) : OpR X (compareOp .NotIn) (uInXL X.K true) := by
  intro pins s σ H x y v u Q I rx ry ⟨a, ys, e, ht, hx, q⟩
  by_cases f : flatV x = true
  · exact op_uNotIn pins s σ H x y v u Q I rx ry (.inl ⟨a, _, e, .inl (lst_sq ht), f, flat_strsX ys, by rw [if_pos rfl, inV_inX ys f]; exact q⟩)
  · subst e
    cases ry
    obtain ⟨d1, d2⟩ := any_differs hu I rx f hx
    obtain ⟨its, rv, pl, _⟩ := I.list (lst_sq (K := X.K) ht)
    refine SeqAt.notIn_listAt (fun _ => false) pl.isList (fun w hw => ?_) ⟨.bl (!its.toArray.any fun _ => false), H, I, rfl, ?_⟩
    · obtain ⟨z, t, rfl⟩ := strs_vals rv w (by simpa using hw)
      exact d2 z t
    · rw [d1] at q
      have : (its.toArray.any fun _ => false) = false := by simp
      rw [this]
      exact q
/-- a tuple of texts asked in a list of tuples of anything -/
def HdAt (H : Hp) (v : V) (xs : List V) : Prop := ∃ p, v = .ref p ∧ Tup H p xs ∧ ∀ x ∈ xs, AnyV H x
def isTxts : List V → List Str → Bool
  | [], [] => true
  | x :: xs, z :: zs => isTxt x z && isTxts xs zs
  | _, _ => false
def uInH : R2 := fun x y H Q => ∃ p a ss hv hs, x = .ref p ∧ Tup H p (ss.map V.str) ∧ y = .ref a ∧ H a = some (.lst hv) ∧ PySem.W.EachIs (HdAt H) hv hs ∧ Q (.bl (hs.any fun xs => isTxts xs ss)) H
theorem txts_range : ∀ (xs : List V) (ss : List Str), ((List.range (min xs.length ss.length)).all (fun j => isTxt (xs.getD j .non) (ss.getD j "")) && xs.length == ss.length) = isTxts xs ss
  | [], [] => rfl
  | [], s :: ss => by simp [isTxts]
  | x :: xs, [] => by simp [isTxts]
  | x :: xs, s :: ss => by
    rw [isTxts, ← txts_range xs ss]
    have e : min (x :: xs).length (s :: ss).length = min xs.length ss.length + 1 := by simp only [List.length_cons]; omega
    rw [e, List.range_succ_eq_map, List.all_cons, List.all_map]
    have e2 : ((x :: xs).length == (s :: ss).length) = (xs.length == ss.length) := by simp only [List.length_cons]; rw [Bool.eq_iff_iff]; simp
    rw [e2, Bool.and_assoc]
    rfl
theorem txts_self : ∀ ss : List Str, isTxts (ss.map V.str) ss = true
  | [] => rfl
  | s :: ss => by
    show (decide (s = s) && isTxts (ss.map V.str) ss) = true
    rw [txts_self ss]; simp
theorem heads_of {H : Hp} : ∀ {hv : List V} {its : List Value} {hs : List (List V)}, Vals hv its → PySem.W.EachIs (HdAt H) hv hs → ∀ y ∈ its, ∃ c xs, y = Value.ref c ∧ Tup H c xs ∧ ∀ x ∈ xs, AnyV H x
  | _, _, _, .nil, .nil, y, h => (List.not_mem_nil h).elim
  | _, _, _, .cons r q, .cons ⟨c, e, t, w⟩ es, y, h => by
    rcases List.mem_cons.mp h with h | h
    · subst e
      cases r
      exact ⟨c, _, h, t, w⟩
    · exact heads_of q es y h
open Classical in
theorem heads_any {H : Hp} {ss : List Str} : ∀ {hv : List V} {its : List Value} {hs : List (List V)}, Vals hv its → PySem.W.EachIs (HdAt H) hv hs → (its.any fun y => decide (∃ c xs, y = Value.ref c ∧ Tup H c xs ∧ isTxts xs ss = true)) = hs.any fun xs => isTxts xs ss
  | _, _, _, .nil, .nil => rfl
  | _, _, _, .cons r q, .cons (b := xs) ⟨c, e, t, w⟩ es => by
    subst e
    cases r
    rw [List.any_cons, List.any_cons, heads_any q es]
    congr 1
    cases hx : isTxts xs ss with
    | true => exact decide_eq_true ⟨c, xs, rfl, t, hx⟩
    | false =>
      refine decide_eq_false ?_
      rintro ⟨c', xs', e, t', h⟩
      cases e
      rw [t.inj t'] at hx
      rw [hx] at h
      cases h
open Classical in
theorem op_inH (hu : X.A.units + 65 < cLine) : OpR X (compareOp .In) uInH := by
  intro pins s σ H x y v u Q I rx ry ⟨p, a, ss, hv, hs, e1, tp, e2, ha, eh, q⟩
  subst e1 e2
  cases rx
  cases ry
  have hu1 : X.A.in1.units < cLine := by show X.A.units + 1 < cLine; omega
  have hu2 : X.A.in1.in1.units < cLine := by show X.A.units + 1 + 1 < cLine; omega
  obtain ⟨its, rv, pl, _⟩ := I.list (lst_sq (K := X.K) ha)
  obtain ⟨is2, rv2, pl2, _⟩ := I.tuple (tp.sq (K := X.K))
  refine SeqAt.in_listAt (fun y => decide (∃ c xs, y = Value.ref c ∧ Tup H c xs ∧ isTxts xs ss = true)) pl.isList (fun w hw => ?_) ⟨.bl _, H, I, rfl, ?_⟩
  · obtain ⟨c, xs, rfl, tc, an⟩ := heads_of rv eh w (by simpa using hw)
    have ev : decide (∃ c' xs, Value.ref c = Value.ref c' ∧ Tup H c' xs ∧ isTxts xs ss = true) = isTxts xs ss := by
      cases hx : isTxts xs ss with
      | true => exact decide_eq_true ⟨c, xs, rfl, tc, hx⟩
      | false =>
        refine decide_eq_false ?_
        rintro ⟨c', xs', e, t', h⟩
        cases e
        rw [tc.inj t'] at hx
        rw [hx] at h
        cases h
    show SeqAt.EqAt X.A.in1 s (Value.ref c) (Value.ref p) (decide _)
    rw [ev]
    by_cases hne : c = p
    · subst hne
      rw [tc.inj tp, txts_self]
      exact SeqAt.EqAt.same _
    · obtain ⟨is1, rv1, pl1, _⟩ := I.tuple (tc.sq (K := X.K))
      have l1 := rv1.length
      have l2 := rv2.length
      rw [List.length_map] at l2
      have key := SeqAt.RcAt.tuples (A := X.A.in1) (e := fun j => isTxt (xs.getD j .non) (ss.getD j "")) pl1 pl2 hu1 (fun j h1 h2 => ?_)
      · rw [List.size_toArray, List.size_toArray, ← l1, ← l2, txts_range] at key
        exact SeqAt.EqAt.of_refs hne key
      · rw [List.size_toArray] at h1 h2
        have hx : xs[j]? = some (xs.getD j .non) := by rw [List.getD_eq_getElem?_getD, List.getElem?_eq_getElem (by omega)]; rfl
        have hs' : (ss.map V.str)[j]? = some (.str (ss.getD j "")) := by rw [List.getElem?_map, List.getD_eq_getElem?_getD, List.getElem?_eq_getElem (by omega)]; rfl
        obtain ⟨u1, g1, r1⟩ := rv1.get hx
        obtain ⟨u2, g2, r2⟩ := rv2.get hs'
        obtain ⟨t, rfl⟩ := r2
        have e1 : is1.toArray[j] = u1 := by
          rw [List.getElem_toArray]
          exact (List.getElem?_eq_some_iff.mp g1).2
        have e2 : is2.toArray[j] = Value.str (ss.getD j "") t := by
          rw [List.getElem_toArray]
          exact (List.getElem?_eq_some_iff.mp g2).2
        rw [e1, e2]
        exact (any_txt hu2 I r1 (an _ (List.mem_of_getElem? hx)) _ t).2
  · have e : (its.toArray.any fun y => decide (∃ c xs, y = Value.ref c ∧ Tup H c xs ∧ isTxts xs ss = true)) = hs.any fun xs => isTxts xs ss := by
      rw [List.any_toArray]
      exact heads_any rv eh
    rw [e]
    exact q
def uGeD (K : PySem.W.Frag) : R2 := fun x y H Q => ∃ d e, Dp K H x d ∧ Dp K H y e ∧ PySem.W.alike d e = true ∧ d ≠ .none ∧ d.depth ≤ 50 ∧ Q (.bl (!PySem.W.dataLt d e)) H
theorem op_uGeD (hu : X.A.units + 65 < cLine) : OpR X (compareOp .GtE) (uGeD X.K) := by
  intro pins s σ H x y v u Q I rx ry h
  obtain ⟨d, e, h1, h2, h3, h4, h5, q⟩ := h
  obtain ⟨as, r1⟩ := Dp.reads I _ _ _ h1 rx
  obtain ⟨bs, r2⟩ := Dp.reads I _ _ _ h2 ry
  have := Nat.min_le_left d.depth e.depth
  exact PySem.W.ge_data r1 r2 h3 h4 (by omega) ⟨.bl _, H, I, rfl, q⟩
end
theorem g_eqX {H : Hp} {x : V} {z : Str} {Q : VK} (hx : AnyV H x) (q : Q (.bl (isTxt x z)) H) : uEqX x (.str z) H Q := ⟨z, rfl, hx, q⟩
theorem g_ninXL {K : PySem.W.Frag} {H : Hp} {x : V} {a : Addr} {ys : List Str} {Q : VK} (h : H a = some (.lst (ys.map V.str))) (hx : AnyV H x) (q : Q (.bl (!inX x ys)) H) : uInXL K true x (.ref a) H Q := ⟨a, ys, rfl, h, hx, q⟩
theorem g_inH {H : Hp} {p a : Addr} {ss : List Str} {hv : List V} {hs : List (List V)} {Q : VK} (tp : Tup H p (ss.map V.str)) (ha : H a = some (.lst hv)) (eh : PySem.W.EachIs (HdAt H) hv hs) (q : Q (.bl (hs.any fun xs => isTxts xs ss)) H) : uInH (.ref p) (.ref a) H Q := ⟨p, a, ss, hv, hs, rfl, tp, rfl, ha, eh, q⟩
end Wg

/-! Wagon, part 51: a list of anything that isn't the empty list. -/
namespace Wg
open PySem PySem.Spec PyProof.Rows L2
/-- a list of anything that isn't the empty list -/
def uNeE : R2 := fun x y H Q => ∃ a b xs, x = .ref a ∧ y = .ref b ∧ H a = some (.lst xs) ∧ H b = some (.lst []) ∧ Q (.bl (!xs.isEmpty)) H
theorem op_uNeE {X : Cx} (hu : X.A.units + 65 < cLine) : OpR X (compareOp .NotEq) uNeE := by
  intro pins s σ H x y v u Q I rx ry ⟨a, b, xs, e1, e2, ha, hb, q⟩
  subst e1 e2
  cases rx
  cases ry
  obtain ⟨its, rv, pl, _⟩ := I.list (lst_sq (K := X.K) ha)
  obtain ⟨its2, rv2, pl2, _⟩ := I.list (lst_sq (K := X.K) hb)
  cases rv2
  cases rv with
  | nil => exact SeqAt.RcNeAt.lists (e := fun _ => true) pl.isList pl2.isList rfl (by omega) (fun j h1 h2 => absurd h1 (by simp)) _ _ _ _ ⟨.bl false, H, I, rfl, q⟩
  | cons r rs => exact SeqAt.RcNeAt.lists_lengths pl.isList pl2.isList (by simp) (by omega) _ _ _ _ ⟨.bl true, H, I, rfl, q⟩
theorem g_neE {H : Hp} {a b : Addr} {xs : List V} {Q : VK} (h : H a = some (.lst xs)) (e : H b = some (.lst [])) (q : Q (.bl (!xs.isEmpty)) H) : uNeE (.ref a) (.ref b) H Q := ⟨a, b, xs, rfl, rfl, h, e, q⟩
def uNinH : R2 := fun x y H Q => ∃ p a ss hv hs, x = .ref p ∧ Tup H p (ss.map V.str) ∧ y = .ref a ∧ H a = some (.lst hv) ∧ PySem.W.EachIs (HdAt H) hv hs ∧ Q (.bl (!hs.any fun xs => isTxts xs ss)) H
section
variable {X : Cx}
open Classical in
theorem op_notInH (hu : X.A.units + 65 < cLine) : OpR X (compareOp .NotIn) uNinH := by
  intro pins s σ H x y v u Q I rx ry ⟨p, a, ss, hv, hs, e1, tp, e2, ha, eh, q⟩
  subst e1 e2
  cases rx
  cases ry
  have hu1 : X.A.in1.units < cLine := by show X.A.units + 1 < cLine; omega
  have hu2 : X.A.in1.in1.units < cLine := by show X.A.units + 1 + 1 < cLine; omega
  obtain ⟨its, rv, pl, _⟩ := I.list (lst_sq (K := X.K) ha)
  obtain ⟨is2, rv2, pl2, _⟩ := I.tuple (tp.sq (K := X.K))
  refine SeqAt.notIn_listAt (fun y => decide (∃ c xs, y = Value.ref c ∧ Tup H c xs ∧ isTxts xs ss = true)) pl.isList (fun w hw => ?_) ⟨.bl _, H, I, rfl, ?_⟩
  · obtain ⟨c, xs, rfl, tc, an⟩ := heads_of rv eh w (by simpa using hw)
    have ev : decide (∃ c' xs, Value.ref c = Value.ref c' ∧ Tup H c' xs ∧ isTxts xs ss = true) = isTxts xs ss := by
      cases hx : isTxts xs ss with
      | true => exact decide_eq_true ⟨c, xs, rfl, tc, hx⟩
      | false =>
        refine decide_eq_false ?_
        rintro ⟨c', xs', e, t', h⟩
        cases e
        rw [tc.inj t'] at hx
        rw [hx] at h
        cases h
    show SeqAt.EqAt X.A.in1 s (Value.ref c) (Value.ref p) (decide _)
    rw [ev]
    by_cases hne : c = p
    · subst hne
      rw [tc.inj tp, txts_self]
      exact SeqAt.EqAt.same _
    · obtain ⟨is1, rv1, pl1, _⟩ := I.tuple (tc.sq (K := X.K))
      have l1 := rv1.length
      have l2 := rv2.length
      rw [List.length_map] at l2
      have key := SeqAt.RcAt.tuples (A := X.A.in1) (e := fun j => isTxt (xs.getD j .non) (ss.getD j "")) pl1 pl2 hu1 (fun j h1 h2 => ?_)
      · rw [List.size_toArray, List.size_toArray, ← l1, ← l2, txts_range] at key
        exact SeqAt.EqAt.of_refs hne key
      · rw [List.size_toArray] at h1 h2
        have hx : xs[j]? = some (xs.getD j .non) := by rw [List.getD_eq_getElem?_getD, List.getElem?_eq_getElem (by omega)]; rfl
        have hs' : (ss.map V.str)[j]? = some (.str (ss.getD j "")) := by rw [List.getElem?_map, List.getD_eq_getElem?_getD, List.getElem?_eq_getElem (by omega)]; rfl
        obtain ⟨u1, g1, r1⟩ := rv1.get hx
        obtain ⟨u2, g2, r2⟩ := rv2.get hs'
        obtain ⟨t, rfl⟩ := r2
        have e1 : is1.toArray[j] = u1 := by
          rw [List.getElem_toArray]
          exact (List.getElem?_eq_some_iff.mp g1).2
        have e2 : is2.toArray[j] = Value.str (ss.getD j "") t := by
          rw [List.getElem_toArray]
          exact (List.getElem?_eq_some_iff.mp g2).2
        rw [e1, e2]
        exact (any_txt hu2 I r1 (an _ (List.mem_of_getElem? hx)) _ t).2
  · have e : (its.toArray.any fun y => decide (∃ c xs, y = Value.ref c ∧ Tup H c xs ∧ isTxts xs ss = true)) = hs.any fun xs => isTxts xs ss := by
      rw [List.any_toArray]
      exact heads_any rv eh
    show Q (.bl (!its.toArray.any _)) H
    rw [e]
    exact q
end
theorem g_ninH {H : Hp} {p a : Addr} {ss : List Str} {hv : List V} {hs : List (List V)} {Q : VK} (tp : Tup H p (ss.map V.str)) (ha : H a = some (.lst hv)) (eh : PySem.W.EachIs (HdAt H) hv hs) (q : Q (.bl (!hs.any fun xs => isTxts xs ss)) H) : uNinH (.ref p) (.ref a) H Q := ⟨p, a, ss, hv, hs, rfl, tp, rfl, ha, eh, q⟩
end Wg

/-! Wagon, part 52: a tuple of anything that isn't (). -/
namespace Wg
open PySem PySem.Spec PyProof.Rows L2
def uNeT : R2 := fun x y H Q => ∃ a b xs, x = .ref a ∧ y = .ref b ∧ Tup H a xs ∧ Tup H b [] ∧ Q (.bl (!xs.isEmpty)) H
theorem op_uNeT {X : Cx} (hu : X.A.units + 65 < cLine) : OpR X (compareOp .NotEq) uNeT := by
  intro pins s σ H x y v u Q I rx ry ⟨a, b, xs, e1, e2, ha, hb, q⟩
  subst e1 e2
  cases rx
  cases ry
  obtain ⟨its, rv, pl, _⟩ := I.tuple (ha.sq (K := X.K))
  obtain ⟨its2, rv2, pl2, _⟩ := I.tuple (hb.sq (K := X.K))
  cases rv2
  have key := SeqAt.RcNeAt.tuples (A := X.A) (e := fun _ => true) pl pl2 (by omega) (fun j h1 h2 => absurd h2 (by simp))
  cases rv with
  | nil => exact key _ _ _ _ ⟨.bl false, H, I, rfl, q⟩
  | cons r rs => exact key _ _ _ _ ⟨.bl true, H, I, by simp; rfl, q⟩
theorem g_neT {H : Hp} {a b : Addr} {xs : List V} {Q : VK} (h : Tup H a xs) (e : Tup H b []) (q : Q (.bl (!xs.isEmpty)) H) : uNeT (.ref a) (.ref b) H Q := ⟨a, b, xs, rfl, rfl, h, e, q⟩
end Wg

/-! Wagon, part 53: a tuple of anything held against (). -/
namespace Wg
open PySem PySem.Spec PyProof.Rows L2
def uEqT : R2 := fun x y H Q => ∃ a b xs, x = .ref a ∧ y = .ref b ∧ Tup H a xs ∧ Tup H b [] ∧ Q (.bl xs.isEmpty) H
theorem op_uEqT {X : Cx} (hu : X.A.units + 65 < cLine) : OpR X (compareOp .Eq) uEqT := by
  intro pins s σ H x y v u Q I rx ry ⟨a, b, xs, e1, e2, ha, hb, q⟩
  subst e1 e2
  cases rx
  cases ry
  obtain ⟨its, rv, pl, _⟩ := I.tuple (ha.sq (K := X.K))
  obtain ⟨its2, rv2, pl2, _⟩ := I.tuple (hb.sq (K := X.K))
  cases rv2
  have key := SeqAt.RcAt.tuples (A := X.A) (e := fun _ => true) pl pl2 (by omega) (fun j h1 h2 => absurd h2 (by simp))
  cases rv with
  | nil => exact key _ _ _ _ ⟨.bl true, H, I, rfl, q⟩
  | cons r rs => exact key _ _ _ _ ⟨.bl false, H, I, by simp; rfl, q⟩
theorem g_eqT {H : Hp} {a b : Addr} {xs : List V} {Q : VK} (h : Tup H a xs) (e : Tup H b []) (q : Q (.bl xs.isEmpty) H) : uEqT (.ref a) (.ref b) H Q := ⟨a, b, xs, rfl, rfl, h, e, q⟩
end Wg

/-! Wagon, part 54: tokens that are out (str.replace of written texts), str.find. -/
namespace Wg
open PySem PySem.Spec PyProof.Rows L2
section
variable {X : Cx} {e a b o : Expr} {es : List Expr} {te ta tb to : TE} {t tas : TA} {pos : Pos}
/-- behind it a token is out -/
def PE1 (X : Cx) (e : Expr) (te : TE) : Prop := ∀ (pins : List (Addr × Obj)) (s : Shared) (σ : L2.St) (H : Hp) (Q : VK), Inv X pins σ H s → te σ H Q → wpAny (model X.prog X.w) X.A (eval e X.env) (fun u s' => 1 ≤ s'.toks ∧ EP X pins σ Q u s') X.xe s
def PA1 (X : Cx) (es : List Expr) (t : TA) : Prop := ∀ (pos : Pos) (pins : List (Addr × Obj)) (s : Shared) (σ : L2.St) (H : Hp) (Q : List V → Hp → Prop), Inv X pins σ H s → t σ H Q → wpAny (model X.prog X.w) X.A (spliced (backTo pos (starEach es X.env))) (fun us s' => 1 ≤ s'.toks ∧ AP X pins σ Q us s') X.xe s
def PS1 (X : Cx) (st : Stmt) (t : TS) : Prop := ∀ (pins : List (Addr × Obj)) (s : Shared) (σ : L2.St) (H : Hp) (D : Ends), Inv X pins σ H s → t D σ H → wpAny (model X.prog X.w) X.A (exec st X.env) (fun f s' => 1 ≤ s'.toks ∧ SP X pins D f s') X.xe s
theorem pe1_str {x : Str} {j : Nat} : PE1 X (.Constant (.str x) j pos) (tC (.str x)) := fun _ s _ H _ I h => Calls.Constant_str ⟨(by show 1 ≤ s.toks + 1; omega), .str x, H, I.tok _, ⟨_, rfl⟩, h⟩
theorem pe1_opL {op : Operator} {r : R2} (ho : OpR X (binaryOp op) r) (ha : PE1 X a ta) (hb : PE X b tb) : PE1 X (.BinOp a op b pos) (tOp r ta tb) := by
  intro pins s σ H Q I h
  refine wpAny_BinOp (wpAny_mono (ha pins s σ H _ I h) (fun v s1 q => ?_) fun _ _ z => z)
  obtain ⟨h0, x, H1, I1, r1, q1⟩ := q
  refine wpAny_mono (PySem.wpAny_toks (hb.run pins s1 σ H1 _ I1 q1)) (fun u s2 q2 => ?_) fun _ _ z => z.2
  obtain ⟨hk, y, H2, I2, r2, q2⟩ := q2
  exact wpAny_mono (PySem.wpAny_toks (ho pins s2 σ H2 x y v u Q I2 r1 r2 q2)) (fun _ s3 z => ⟨by have := z.1; omega, z.2⟩) fun _ _ z => z.2
theorem pe1_opR {op : Operator} {r : R2} (ho : OpR X (binaryOp op) r) (ha : PE X a ta) (hb : PE1 X b tb) : PE1 X (.BinOp a op b pos) (tOp r ta tb) := by
  intro pins s σ H Q I h
  refine wpAny_BinOp (thn (ha.run pins s σ H _ I h) fun v s1 q => ?_)
  obtain ⟨x, H1, I1, r1, q1⟩ := q
  refine wpAny_mono (hb pins s1 σ H1 _ I1 q1) (fun u s2 q2 => ?_) fun _ _ z => z
  obtain ⟨h0, y, H2, I2, r2, q2⟩ := q2
  exact wpAny_mono (PySem.wpAny_toks (ho pins s2 σ H2 x y v u Q I2 r1 r2 q2)) (fun _ s3 z => ⟨by have := z.1; omega, z.2⟩) fun _ _ z => z.2
theorem PAT.of (h : PA X es t) : PAT X es t := fun pos pins s σ H Q _ I q => h.run pos pins s σ H Q I q
theorem pa1_here (ha : PE1 X e te) (hr : PA X es tas) (hs : starEach (e :: es) X.env = (false, eval e X.env) :: starEach es X.env := by rfl) : PA1 X (e :: es) (tCons te tas) := by
  intro pos pins s σ H Q I h
  rw [hs]
  show wpAny _ _ (spliced ((false, eval e X.env) :: backTo pos (starEach es X.env))) _ _ s
  refine Calls.spliced_cons (wpAny_mono (ha pins s σ H _ I h) (fun v s1 q => ?_) fun _ _ z => z)
  obtain ⟨h0, x, H1, I1, r1, q1⟩ := q
  exact wpAny_mono (PySem.wpAny_toks (hr.run pos pins s1 σ H1 _ I1 q1)) (fun us s2 z => by obtain ⟨hk, xs, H2, I2, r2, q2⟩ := z; exact ⟨by omega, x :: xs, H2, I2, .cons r1 r2, q2⟩) fun _ _ z => z.2
theorem pa1_there (ha : PE X e te) (hr : PA1 X es tas) (hs : starEach (e :: es) X.env = (false, eval e X.env) :: starEach es X.env := by rfl) : PA1 X (e :: es) (tCons te tas) := by
  intro pos pins s σ H Q I h
  rw [hs]
  show wpAny _ _ (spliced ((false, eval e X.env) :: backTo pos (starEach es X.env))) _ _ s
  refine Calls.spliced_cons (thn (ha.run pins s σ H _ I h) fun v s1 q => ?_)
  obtain ⟨x, H1, I1, r1, q1⟩ := q
  exact wpAny_mono (hr pos pins s1 σ H1 _ I1 q1) (fun us s2 z => by obtain ⟨h0, xs, H2, I2, r2, q2⟩ := z; exact ⟨h0, x :: xs, H2, I2, .cons r1 r2, q2⟩) fun _ _ z => z
/-- a token is out behind the first, and needed from there on -/
theorem pa_mid (ha : PE1 X e te) (hr : PAT X es tas) (hs : starEach (e :: es) X.env = (false, eval e X.env) :: starEach es X.env := by rfl) : PA X (e :: es) (tCons te tas) := by
  refine ⟨fun pos pins s σ H Q I h => ?_⟩
  rw [hs]
  show wpAny _ _ (spliced ((false, eval e X.env) :: backTo pos (starEach es X.env))) _ _ s
  refine Calls.spliced_cons (wpAny_mono (ha pins s σ H _ I h) (fun v s1 q => ?_) fun _ _ z => z)
  obtain ⟨h0, x, H1, I1, r1, q1⟩ := q
  exact thn (hr pos pins s1 σ H1 _ h0 I1 q1) fun us s2 ⟨xs, H2, I2, r2, q2⟩ => ⟨x :: xs, H2, I2, .cons r1 r2, q2⟩
theorem pe1_lstU (h : PA1 X es t) : PE1 X (.List es pos) (tLstU t) := by
  intro pins s σ H Q I hq
  refine wpAny_List_spliced (wpAny_mono (h pos pins s σ H _ I hq) (fun us s1 r => ?_) fun _ _ z => z)
  obtain ⟨h0, xs, H1, I1, rv, z, q⟩ := r
  rw [← rv.length]
  have n := I1.fresh
  have new : ObjOk X.prog X.w (upd H1 s1.heap.objs.size (.lst xs)) (s1.heap.push { cls := .type "list", data := .seq us.toArray }) s1.heap.objs.size (.lst xs) := ⟨z, us, 0, rv, Heap.get?_push_size _ rfl⟩
  exact ⟨z, h0, .ref s1.heap.objs.size, _, I1.laid (t' := s1.toks) (fun b u e => Heap.get?_push_of_some _ e) (Nat.le_refl _) new, rfl, q.at _ n⟩
theorem pet_lstU (h : PAT X es t) : PET X (.List es pos) (tLstU t) := by
  intro pins s σ H Q h0 I hq
  refine wpAny_List_spliced (thn (h pos pins s σ H _ h0 I hq) fun us s1 r => ?_)
  obtain ⟨xs, H1, I1, rv, z, q⟩ := r
  rw [← rv.length]
  have n := I1.fresh
  have new : ObjOk X.prog X.w (upd H1 s1.heap.objs.size (.lst xs)) (s1.heap.push { cls := .type "list", data := .seq us.toArray }) s1.heap.objs.size (.lst xs) := ⟨z, us, 0, rv, Heap.get?_push_size _ rfl⟩
  exact ⟨z, .ref s1.heap.objs.size, _, I1.laid (t' := s1.toks) (fun b u e => Heap.get?_push_of_some _ e) (Nat.le_refl _) new, rfl, q.at _ n⟩
theorem ps1_set {i : Nat} {x : Str} {pos' : Pos} (hN : X.N.Nodup) (hi : X.N[i]? = some x) (hx : Loc X.env.scope x) (he : PE1 X e te) (hs : swapsWith e (some (.Name x pos')) pos.line X.env = pure false := by rfl) (hf : X.fn x = true ∨ X.env.scope.names.lookup x = some .local := by first | exact .inl rfl | exact .inr rfl | assumption) :
    PS1 X (.Assign [.Name x pos'] e pos) (tAsg te (gName i)) := by
  intro pins s σ H D I h
  refine wpAny_Assign_Name (wpAny_mono (he pins s σ H _ I h) (fun v s1 z => ?_) fun _ _ z => z) hs
  obtain ⟨h0, y, H1, I1, r1, q1⟩ := z
  refine wpAny_mono (PySem.wpAny_toks (store_ok (Q := fun _ s2 => SP X pins D .next s2) I1 hN hi hx r1 (fun s2 I2 => ⟨_, H1, I2, q1⟩) hf)) (fun _ s2 z => ?_) fun _ _ z => z.2
  exact ⟨by have := z.1; omega, z.2⟩
theorem pst_set {i : Nat} {x : Str} {pos' : Pos} (hN : X.N.Nodup) (hi : X.N[i]? = some x) (hx : Loc X.env.scope x) (he : PET X e te) (hs : swapsWith e (some (.Name x pos')) pos.line X.env = pure false := by rfl) (hf : X.fn x = true ∨ X.env.scope.names.lookup x = some .local := by first | exact .inl rfl | exact .inr rfl | assumption) :
    PST X (.Assign [.Name x pos'] e pos) (tAsg te (gName i)) := by
  intro pins s σ H D h0 I h
  refine wpAny_Assign_Name (thn (he pins s σ H _ h0 I h) fun v s1 ⟨y, H1, I1, r1, q1⟩ => ?_) hs
  exact store_ok I1 hN hi hx r1 (fun s2 I2 => ⟨_, H1, I2, q1⟩) hf
theorem pss_cons1 {st : Stmt} {rest : List Stmt} {t1 u : TS} (h1 : PS1 X st t1) (h2 : PSsT X rest u) : PSs X (st :: rest) (tSeq t1 u) := by
  refine ⟨fun pins s σ H D I h => ?_⟩
  refine wpAny_execs_cons (wpAny_mono (h1 pins s σ H { D with nx := u D } I h) (fun f s1 q => ?_) fun _ _ x => x)
  obtain ⟨h0, q⟩ := q
  cases f with
  | next =>
    obtain ⟨σ', H', I', q⟩ := q
    exact h2 pins s1 σ' H' D h0 I' q
  | ret v => exact q
  | brk => exact q
  | cont => exact q
def uFind : V → List V → Hp → VK → Prop := fun x xs H Q => ∃ a b : Str, x = .str a ∧ xs = [.str b] ∧ Q (.int (Txt.find a b)) H
theorem pe_uFind {e : Expr} {te : TE} {apos : Pos} (ho : PE X o to) (he : PE X e te) (hs : starEach [e] X.env = [(false, eval e X.env)] := by rfl) (hbase : attributeBase o "find" X.env (eval o X.env) = eval o X.env := by rfl) (hline : (apos.endLine == pos.line) = true := by rfl) :
    PE X (.Call (.Attribute o "find" apos) [e] [] pos) (tM1 uFind to te) := pe_m1 PySem.F.slot_str_find PySem.F.type_str_find mt_find ho he hs hbase hline
end
end Wg

namespace Wg
open PySem PySem.Spec PyProof.Rows L2
def topS (i : Nat) : Stmt := PySem.Challenge.pw_wagoncalls_k04_texts_of_no_moment.main.body.getD i (.Pass ⟨0, 0, 0, 0⟩)
/-! wagoncalls_k04_texts_of_no_moment: the text and the derivations, written by gen.py -/
abbrev s_NoText____init___ : Stmt := inClass (topS 2) 0
abbrev N_NoText____init__ : List Str := ["self", "row"]
theorem sc_NoText____init__ : FnScope N_NoText____init__ ["self", "row"] (defScope s_NoText____init___) := ⟨rfl, rfl, rfl, by decide +kernel, rfl, by decide +kernel, by decide +kernel⟩
theorem dv_NoText____init__ {P : Program} {w : World} {K : PySem.W.Frag} {mg : Str → Option Value} {b : Heap} {a C W : Addr} {dd : FuncData} (F : FnM K "__init__" "NoText.__init__" s_NoText____init___ a dd ["self", "row"]) (B : BasW K W) (g : mg "WagonError" = some (.ref W)) (T : OexC K C) (no_row : PySem.W.findIn K (.ref C) "row" = some none) :
    FnOk P w K mg b CX0 2 a dd ["self", "row"] (spIni K C ["row"]) :=
  Fun.ok F.fn sc_NoText____init__ (fun vs H Q E h => by obtain ⟨x, ws, rfl, l, _⟩ := h; show ws.length + 1 = _; rw [l]; rfl) fun cdv A o s H vs Q E hr h =>
    ⟨_, (pss_cons (ps_expr (pe_winit B (by rfl) g (pa_cons (pv 0) (pa_cons pe_str pa_nil)))) (pss_one (ps_ost (pv 0) (pv 1)))), rd_ini1 (m := "no such text") T no_row h⟩

abbrev s_NoPaper____init___ : Stmt := inClass (topS 3) 0
abbrev N_NoPaper____init__ : List Str := ["self", "word", "at"]
theorem sc_NoPaper____init__ : FnScope N_NoPaper____init__ ["self", "word", "at"] (defScope s_NoPaper____init___) := ⟨rfl, rfl, rfl, by decide +kernel, rfl, by decide +kernel, by decide +kernel⟩
theorem dv_NoPaper____init__ {P : Program} {w : World} {K : PySem.W.Frag} {mg : Str → Option Value} {b : Heap} {a C W : Addr} {dd : FuncData} (F : FnM K "__init__" "NoPaper.__init__" s_NoPaper____init___ a dd ["self", "word", "at"]) (B : BasW K W) (g : mg "WagonError" = some (.ref W)) (T : OexC K C) (no_word : PySem.W.findIn K (.ref C) "word" = some none) (no_at : PySem.W.findIn K (.ref C) "at" = some none) :
    FnOk P w K mg b CX0 2 a dd ["self", "word", "at"] (spIni K C ["word", "at"]) :=
  Fun.ok F.fn sc_NoPaper____init__ (fun vs H Q E h => by obtain ⟨x, ws, rfl, l, _⟩ := h; show ws.length + 1 = _; rw [l]; rfl) fun cdv A o s H vs Q E hr h =>
    ⟨_, (pss_cons (ps_expr (pe_winit B (by rfl) g (pa_cons (pv 0) (pa_cons pe_str pa_nil)))) (pss_cons (ps_ost (pv 0) (pv 1)) (pss_one (ps_ost (pv 0) (pv 2))))), rd_ini2 (m := "no such paper") T no_word no_at h⟩

abbrev s_NoCall____init___ : Stmt := inClass (topS 4) 0
abbrev N_NoCall____init__ : List Str := ["self", "name"]
theorem sc_NoCall____init__ : FnScope N_NoCall____init__ ["self", "name"] (defScope s_NoCall____init___) := ⟨rfl, rfl, rfl, by decide +kernel, rfl, by decide +kernel, by decide +kernel⟩
theorem dv_NoCall____init__ {P : Program} {w : World} {K : PySem.W.Frag} {mg : Str → Option Value} {b : Heap} {a C W : Addr} {dd : FuncData} (F : FnM K "__init__" "NoCall.__init__" s_NoCall____init___ a dd ["self", "name"]) (B : BasW K W) (g : mg "WagonError" = some (.ref W)) (T : OexC K C) (no_name : PySem.W.findIn K (.ref C) "name" = some none) :
    FnOk P w K mg b CX0 2 a dd ["self", "name"] (spIni K C ["name"]) :=
  Fun.ok F.fn sc_NoCall____init__ (fun vs H Q E h => by obtain ⟨x, ws, rfl, l, _⟩ := h; show ws.length + 1 = _; rw [l]; rfl) fun cdv A o s H vs Q E hr h =>
    ⟨_, (pss_cons (ps_expr (pe_winit B (by rfl) g (pa_cons (pv 0) (pa_cons pe_str pa_nil)))) (pss_one (ps_ost (pv 0) (pv 1)))), rd_ini1 (m := "no such call") T no_name h⟩

abbrev s_is_whole_ : Stmt := topS 17
abbrev N_is_whole : List Str := ["thing"]
theorem sc_is_whole : FnScope N_is_whole ["thing"] (defScope s_is_whole_) := ⟨rfl, rfl, rfl, by decide +kernel, rfl, by decide +kernel, by decide +kernel⟩
def t_is_whole (K : PySem.W.Frag) : TS :=
  tRet (tAndT K (tCB (rIsi K) (tCons (tVar 0) (tCons (tC (.ty "int")) (tNil)))) (tNotT K (tCB (rIsi K) (tCons (tVar 0) (tCons (tC (.ty "bool")) (tNil))))))
theorem dv_is_whole {P : Program} {w : World} {K : PySem.W.Frag} {mg : Str → Option Value} {b : Heap} {a : Addr} {d : FuncData} {sp : Sp} (F : Fn K mg "is_whole" s_is_whole_ a d ["thing"])
    (n_isinstance : mg "isinstance" = none)
    (n_int : mg "int" = none)
    (n_bool : mg "bool" = none)
    (len : ∀ vs H Q E, sp vs H Q E → vs.length = 1)
    (rd : ∀ vs H Q E, sp vs H Q E → run (t_is_whole K) (start N_is_whole vs) H Q) : Keeps P w K mg b CX0 2 a d ["thing"] sp := by
  refine keeps0 F.fn sc_is_whole len fun cdv A o s H vs Q E hr h => ⟨t_is_whole K, ?_, rd vs H Q E h⟩
  unfold t_is_whole 
  exact (pss_one (ps_ret (pe_andT (pe_callB call_isi (by rfl) n_isinstance (by decide +kernel) (pa_cons (pv 0) (pa_cons (pe_bltn (v := .ty "int") (by rfl) n_int (by decide +kernel) rfl) pa_nil))) (pe_one (pe_notT (pe_callB call_isi (by rfl) n_isinstance (by decide +kernel) (pa_cons (pv 0) (pa_cons (pe_bltn (v := .ty "bool") (by rfl) n_bool (by decide +kernel) rfl) pa_nil))))))))

abbrev s_is_within_ : Stmt := topS 18
abbrev N_is_within : List Str := ["thing", "least", "most"]
theorem sc_is_within : FnScope N_is_within ["thing", "least", "most"] (defScope s_is_within_) := ⟨rfl, rfl, rfl, by decide +kernel, rfl, by decide +kernel, by decide +kernel⟩
def t_is_within (K : PySem.W.Frag) (s_is_whole : Sp) : TS :=
  tRet (tAndT K (tGo s_is_whole E0 (tCons (tVar 0) (tNil))) (tChain (rI0 fun i j => .bl (decide (i ≤ j))) (rI0 fun i j => .bl (decide (i ≤ j))) (tVar 1) (tVar 0) (tVar 2)))
theorem dv_is_within {P : Program} {w : World} {K : PySem.W.Frag} {mg : Str → Option Value} {b : Heap} {a : Addr} {d : FuncData} {sp : Sp} (F : Fn K mg "is_within" s_is_within_ a d ["thing", "least", "most"])
    {a_is_whole : Addr} {d_is_whole : FuncData} {s_is_whole : Sp} (F_is_whole : Fn K mg "is_whole" s_is_whole_ a_is_whole d_is_whole ["thing"]) (k_is_whole : Keeps P w K mg b CX0 2 a_is_whole d_is_whole ["thing"] s_is_whole)
    (len : ∀ vs H Q E, sp vs H Q E → vs.length = 3)
    (rd : ∀ vs H Q E, sp vs H Q E → run (t_is_within K s_is_whole) (start N_is_within vs) H Q) : Keeps P w K mg b CX0 3 a d ["thing", "least", "most"] sp := by
  refine keeps0 F.fn sc_is_within len fun cdv A o s H vs Q E hr h => ⟨t_is_within K s_is_whole, ?_, rd vs H Q E h⟩
  unfold t_is_within 
  exact (pss_one (ps_ret (pe_andT (pe_go k_is_whole (hr.mono (by decide)) rfl F_is_whole.g F_is_whole.fn.kp F_is_whole.b pass0 (pa_cons (pv 0) pa_nil)) (pe_one (pe_chain op_le op_le (pv 1) (pv 0) (pv 2))))))

abbrev s_is_moment_ : Stmt := topS 19
abbrev N_is_moment : List Str := ["thing"]
theorem sc_is_moment : FnScope N_is_moment ["thing"] (defScope s_is_moment_) := ⟨rfl, rfl, rfl, by decide +kernel, rfl, by decide +kernel, by decide +kernel⟩
def t_is_moment (K : PySem.W.Frag) (s_is_within : Sp) : TS :=
  tRet (tGo s_is_within E0 (tCons (tVar 0) (tCons (tC (.int 0)) (tCons (tC (.int 1000000)) (tNil)))))
theorem dv_is_moment {P : Program} {w : World} {K : PySem.W.Frag} {mg : Str → Option Value} {b : Heap} {a : Addr} {d : FuncData} {sp : Sp} (F : Fn K mg "is_moment" s_is_moment_ a d ["thing"])
    {a_is_within : Addr} {d_is_within : FuncData} {s_is_within : Sp} (F_is_within : Fn K mg "is_within" s_is_within_ a_is_within d_is_within ["thing", "least", "most"]) (k_is_within : Keeps P w K mg b CX0 3 a_is_within d_is_within ["thing", "least", "most"] s_is_within)
    {k_LAST_MOMENT : Tok} (c_LAST_MOMENT : mg "LAST_MOMENT" = some (.int 1000000 k_LAST_MOMENT))
    (len : ∀ vs H Q E, sp vs H Q E → vs.length = 1)
    (rd : ∀ vs H Q E, sp vs H Q E → run (t_is_moment K s_is_within) (start N_is_moment vs) H Q) : Keeps P w K mg b CX0 4 a d ["thing"] sp := by
  refine keeps0 F.fn sc_is_moment len fun cdv A o s H vs Q E hr h => ⟨t_is_moment K s_is_within, ?_, rd vs H Q E h⟩
  unfold t_is_moment 
  exact (pss_one (ps_ret (pe_go k_is_within (hr.mono (by decide)) rfl F_is_within.g F_is_within.fn.kp F_is_within.b pass0 (pa_cons (pv 0) (pa_cons pe_int (pa_cons (pe_glob rfl c_LAST_MOMENT ⟨_, rfl⟩) pa_nil))))))

abbrev s_number_by_ : Stmt := topS 20
abbrev N_number_by : List Str := ["text", "most", "number", "sign"]
theorem sc_number_by : FnScope N_number_by ["text", "most"] (defScope s_number_by_) := ⟨rfl, rfl, rfl, by decide +kernel, rfl, by decide +kernel, by decide +kernel⟩
def t_number_by_r1 (K : PySem.W.Frag) (P_number_by : Addr) : TS :=
  tSeq (tAsg (tCB uIntS (tCons (tVar 0) (tNil))) (gName 2)) (tRet (tIf (tTest (tOp (rI0 fun i j => .bl (decide (i ≤ j))) (tVar 2) (tVar 1))) (tVar 2) (tC .non)))
def t_number_by_r2 (K : PySem.W.Frag) (P_number_by : Addr) : TS :=
  tSeq (tIfS (tAnd (tTest (tOp (uEq K false) (tOp (uIx K) (tVar 0) (tC (.int 0))) (tC (.str "0")))) (tTest (tOp (rI0 fun i j => .bl (decide (j < i))) (tCB (uLen K) (tCons (tVar 0) (tNil))) (tC (.int 1))))) (tRet (tC .non)) (tNext)) (t_number_by_r1 K P_number_by)
def t_number_by_r3 (K : PySem.W.Frag) (P_number_by : Addr) : TS :=
  tSeq (tIfS (tNot (tTru K (tGen P_number_by (iU K (tVar 0)) (gName 3) (tYes) (tOp (uIn K false) (tVar 3) (tC (.str "0123456789"))) [3] false))) (tRet (tC .non)) (tNext)) (t_number_by_r2 K P_number_by)
def t_number_by (K : PySem.W.Frag) (P_number_by : Addr) : TS :=
  tSeq (tIfS (tNot (tTest (tChain (rI0 fun i j => .bl (decide (i ≤ j))) (rI0 fun i j => .bl (decide (i ≤ j))) (tC (.int 1)) (tCB (uLen K) (tCons (tVar 0) (tNil))) (tCB (uLen K) (tCons (tCB (uStr) (tCons (tVar 1) (tNil))) (tNil)))))) (tRet (tC .non)) (tNext)) (t_number_by_r3 K P_number_by)
theorem dv_number_by {P : Program} {w : World} {K : PySem.W.Frag} {mg : Str → Option Value} {b : Heap} {a : Addr} {d : FuncData} {sp : Sp} (F : Fn K mg "number_by" s_number_by_ a d ["text", "most"])
    {tc_number_by P_number_by : Addr} (hcd : d.code = .ref tc_number_by) (TB : GxR.TabB b mg tc_number_by P_number_by)
    (n_len : mg "len" = none)
    (n_str : mg "str" = none)
    (n_all : mg "all" = none)
    {k_FIGURES : Tok} (c_FIGURES : mg "FIGURES" = some (.str "0123456789" k_FIGURES))
    (n_int : mg "int" = none)
    (len : ∀ vs H Q E, sp vs H Q E → vs.length = 2)
    (rd : ∀ vs H Q E, sp vs H Q E → run (t_number_by K P_number_by) (start N_number_by vs) H Q) : Keeps P w K mg b CX0 3 a d ["text", "most"] sp := by
  refine keepsT F.fn hcd sc_number_by len fun A o s H vs Q E hr h => ⟨t_number_by K P_number_by, ?_, rd vs H Q E h⟩
  unfold t_number_by t_number_by_r3 t_number_by_r2 t_number_by_r1
  exact (pss_cons (ps_if (pt_not (pt_chain op_le op_le pe_int (pe_callB call_uLen (by rfl) n_len (by decide +kernel) (pa_cons (pv 0) pa_nil)) (pe_callB call_uLen (by rfl) n_len (by decide +kernel) (pa_cons (pe_callTy call_uStr (by rfl) n_str (by decide +kernel) (pa_cons (pv 1) pa_nil)) pa_nil)))) (pss_one (ps_ret pe_non)) pss_nil)
  (pss_cons (ps_if (pt_not (pt_tru (pe_allG (own := [("sign", 3)]) hr TB (by rfl) rfl sc_number_by.nd ⟨blkOk_by (own := [("sign", 3)]) (N := N_number_by) (sc := defScope s_number_by_) (by decide +kernel), by decide +kernel, by rfl, by rfl⟩ (by rfl) n_all (pi_u (pv 0)) (fun _ _ _ _ _ _ hr => (pg_name (i := 3) sc_number_by.nd rfl (.inl rfl))) (fun _ _ _ _ _ _ _ => pts_nil) (fun _ _ _ _ _ _ hr => (pe_cmpR op_uIn (pv 3) (pe_glob rfl c_FIGURES ⟨_, rfl⟩) rfl))))) (pss_one (ps_ret pe_non)) pss_nil)
  (pss_cons (ps_if (PW.pt (pw_and (pt_cmpR (op_uEq hr.rm.units) (pe_ix ix_u (pv 0) pe_int (fun _ _ => rfl)) pe_str (nomark _)) (pw_and1 (pt_cmpR op_gt (pe_callB call_uLen (by rfl) n_len (by decide +kernel) (pa_cons (pv 0) pa_nil)) pe_int (nomark _))))) (pss_one (ps_ret pe_non)) pss_nil)
  (pss_cons (ps_set (i := 2) sc_number_by.nd rfl (.inl rfl) (pe_callTy call_uIntS (by rfl) n_int (by decide +kernel) (pa_cons (pv 0) pa_nil)))
  (pss_one (ps_ret (pe_ifExp (pt_cmpR op_le (pv 2) (pv 1) (nomark _)) (pv 2) pe_non)))))))

abbrev s__minutes_by_ : Stmt := topS 22
abbrev N__minutes_by : List Str := ["text"]
theorem sc__minutes_by : FnScope N__minutes_by ["text"] (defScope s__minutes_by_) := ⟨rfl, rfl, rfl, by decide +kernel, rfl, by decide +kernel, by decide +kernel⟩
def t__minutes_by_r1 (K : PySem.W.Frag) : TS :=
  tRet (tCB uIntS (tCons (tVar 0) (tNil)))
def t__minutes_by (K : PySem.W.Frag) : TS :=
  tSeq (tIfS (tOr (tTest (tOp (uEq K true) (tCB (uLen K) (tCons (tVar 0) (tNil))) (tC (.int 2)))) (tOr (tTest (tOp (uIn K true) (tOp (uIx K) (tVar 0) (tC (.int 0))) (tSl (uSl K) (tC (.str "0123456789")) (tNoPart) (tPart (tC (.int 6)))))) (tTest (tOp (uIn K true) (tOp (uIx K) (tVar 0) (tC (.int 1))) (tC (.str "0123456789")))))) (tRet (tC .non)) (tNext)) (t__minutes_by_r1 K)
theorem dv__minutes_by {P : Program} {w : World} {K : PySem.W.Frag} {mg : Str → Option Value} {b : Heap} {a : Addr} {d : FuncData} {sp : Sp} (F : Fn K mg "_minutes_by" s__minutes_by_ a d ["text"])
    (n_len : mg "len" = none)
    {k_FIGURES : Tok} (c_FIGURES : mg "FIGURES" = some (.str "0123456789" k_FIGURES))
    (n_int : mg "int" = none)
    (len : ∀ vs H Q E, sp vs H Q E → vs.length = 1)
    (rd : ∀ vs H Q E, sp vs H Q E → run (t__minutes_by K) (start N__minutes_by vs) H Q) : Keeps P w K mg b CX0 2 a d ["text"] sp := by
  refine keeps0 F.fn sc__minutes_by len fun cdv A o s H vs Q E hr h => ⟨t__minutes_by K, ?_, rd vs H Q E h⟩
  unfold t__minutes_by t__minutes_by_r1
  exact (pss_cons (ps_if (PW.pt (pw_or (pt_cmpR (op_uNe hr.rm.units) (pe_callB call_uLen (by rfl) n_len (by decide +kernel) (pa_cons (pv 0) pa_nil)) pe_int (nomark _)) (pw_or (pt_cmpR op_uNotIn (pe_ix ix_u (pv 0) pe_int (fun _ _ => rfl)) (pe_slice sl_u (pe_glob rfl c_FIGURES ⟨_, rfl⟩) po_none (po_some pe_int)) rfl) (pw_or1 (pt_cmpR op_uNotIn (pe_ix ix_u (pv 0) pe_int (fun _ _ => rfl)) (pe_glob rfl c_FIGURES ⟨_, rfl⟩) rfl))))) (pss_one (ps_ret pe_non)) pss_nil)
  (pss_one (ps_ret (pe_callTy call_uIntS (by rfl) n_int (by decide +kernel) (pa_cons (pv 0) pa_nil)))))

abbrev s_moment_by_ : Stmt := topS 21
abbrev N_moment_by : List Str := ["text", "hours", "_", "minutes", "whole", "part"]
theorem sc_moment_by : FnScope N_moment_by ["text"] (defScope s_moment_by_) := ⟨rfl, rfl, rfl, by decide +kernel, rfl, by decide +kernel, by decide +kernel⟩
def t_moment_by_r1 (K : PySem.W.Frag) (s_number_by : Sp) (s__minutes_by : Sp) (s_is_moment : Sp) (c_NoText : Addr) (E : XK) : TS :=
  tRet (tOp (uAdd K) (tOp uMul (tVar 4) (tC (.int 60))) (tVar 5))
def t_moment_by_r2 (K : PySem.W.Frag) (s_number_by : Sp) (s__minutes_by : Sp) (s_is_moment : Sp) (c_NoText : Addr) (E : XK) : TS :=
  tSeq (tAsg (tM1 uPartition (tVar 0) (tC (.str ":"))) (gTup K 3 (gCons (gName 1) (gCons (gName 2) (gCons (gName 3) (gNil)))))) (tSeq (tAsg (tGo s_number_by E0 (tCons (tVar 1) (tCons (tOp (rI CDiv fun i j => .int (i / j)) (tC (.int 1000000)) (tC (.int 60))) (tNil)))) (gName 4)) (tSeq (tAsg (tGo s__minutes_by E0 (tCons (tVar 3) (tNil))) (gName 5)) (tSeq (tIfS (tOr (tTest (tOp rIsN (tVar 4) (tC .non))) (tOr (tTest (tOp rIsN (tVar 5) (tC .non))) (tNot (tTru K (tGo s_is_moment E0 (tCons (tOp (uAdd K) (tOp uMul (tVar 4) (tC (.int 60))) (tVar 5)) (tNil))))))) (tRaiseE E (tMkO c_NoText (spIni K c_NoText ["row"]) [] (tCons (tC (.int 0)) (tNil)))) (tNext)) (t_moment_by_r1 K s_number_by s__minutes_by s_is_moment c_NoText E))))
def t_moment_by (K : PySem.W.Frag) (s_number_by : Sp) (s__minutes_by : Sp) (s_is_moment : Sp) (c_NoText : Addr) (E : XK) : TS :=
  tSeq (tIfS (tNot (tTru K (tCB (rIsi K) (tCons (tVar 0) (tCons (tC (.ty "str")) (tNil)))))) (tRaiseE E (tMkO c_NoText (spIni K c_NoText ["row"]) [] (tCons (tC (.int 0)) (tNil)))) (tNext)) (t_moment_by_r2 K s_number_by s__minutes_by s_is_moment c_NoText E)
theorem dv_moment_by {P : Program} {w : World} {K : PySem.W.Frag} {mg : Str → Option Value} {b : Heap} {a : Addr} {d : FuncData} {sp : Sp} (F : Fn K mg "moment_by" s_moment_by_ a d ["text"])
    {c_NoText : Addr}
    (g_NoText : mg "NoText" = some (.ref c_NoText))
    (n_isinstance : mg "isinstance" = none)
    (n_str : mg "str" = none)
    {ai_NoText : Addr} {di_NoText : FuncData} (T_NoText : OexC K c_NoText) (iC_NoText : PySem.W.findIn K (.ref c_NoText) "__init__" = some (some (.ref ai_NoText))) (tI_NoText : PySem.W.typeIn K (.ref ai_NoText) = some (.type "function")) (bi_NoText : Binds K di_NoText ["self", "row"] []) (Fi_NoText : FnOk P w K mg b CX0 2 ai_NoText di_NoText ["self", "row"] (spIni K c_NoText ["row"]))
    {a_number_by : Addr} {d_number_by : FuncData} {s_number_by : Sp} (F_number_by : Fn K mg "number_by" s_number_by_ a_number_by d_number_by ["text", "most"]) (k_number_by : Keeps P w K mg b CX0 3 a_number_by d_number_by ["text", "most"] s_number_by)
    {k_LAST_MOMENT : Tok} (c_LAST_MOMENT : mg "LAST_MOMENT" = some (.int 1000000 k_LAST_MOMENT))
    {k_HOUR : Tok} (c_HOUR : mg "HOUR" = some (.int 60 k_HOUR))
    {a__minutes_by : Addr} {d__minutes_by : FuncData} {s__minutes_by : Sp} (F__minutes_by : Fn K mg "_minutes_by" s__minutes_by_ a__minutes_by d__minutes_by ["text"]) (k__minutes_by : Keeps P w K mg b CX0 2 a__minutes_by d__minutes_by ["text"] s__minutes_by)
    {a_is_moment : Addr} {d_is_moment : FuncData} {s_is_moment : Sp} (F_is_moment : Fn K mg "is_moment" s_is_moment_ a_is_moment d_is_moment ["thing"]) (k_is_moment : Keeps P w K mg b CX0 4 a_is_moment d_is_moment ["thing"] s_is_moment)
    (len : ∀ vs H Q E, sp vs H Q E → vs.length = 1)
    (rd : ∀ vs H Q E, sp vs H Q E → run (t_moment_by K s_number_by s__minutes_by s_is_moment c_NoText E) (start N_moment_by vs) H Q) : Keeps P w K mg b (L2.CX P w) 5 a d ["text"] sp := by
  refine keepsX F.fn sc_moment_by len fun cdv A o s H vs Q E hr h => ⟨t_moment_by K s_number_by s__minutes_by s_is_moment c_NoText E, ?_, rd vs H Q E h⟩
  unfold t_moment_by t_moment_by_r2 t_moment_by_r1
  exact (pss_cons (ps_if (pt_not (pt_tru (pe_callB call_isi (by rfl) n_isinstance (by decide +kernel) (pa_cons (pv 0) (pa_cons (pe_bltn (v := .ty "str") (by rfl) n_str (by decide +kernel) rfl) pa_nil))))) (pss_one (ps_raiseE rfl (takes_of rfl rfl rfl rfl) (pmk_oex T_NoText iC_NoText tI_NoText Fi_NoText (hr.rm.mono (by decide)) bi_NoText .nil pass0 (by rfl) g_NoText (pa_cons pe_int pa_nil)))) pss_nil)
  (pss_cons (ps_asg (pe_uPartition (pv 0) pe_str) (pg_tup rfl (pgs_cons (pg_name (i := 1) sc_moment_by.nd rfl (.inl rfl)) (pgs_cons (pg_name (i := 2) sc_moment_by.nd rfl (.inl rfl)) (pgs_cons (pg_name (i := 3) sc_moment_by.nd rfl (.inl rfl)) pgs_nil)))))
  (pss_cons (ps_set (i := 4) sc_moment_by.nd rfl (.inl rfl) (pe_go k_number_by (hr.mono (by decide)) rfl F_number_by.g F_number_by.fn.kp F_number_by.b pass0 (pa_cons (pv 1) (pa_cons (pe_op op_fdiv (pe_glob rfl c_LAST_MOMENT ⟨_, rfl⟩) (pe_glob rfl c_HOUR ⟨_, rfl⟩)) pa_nil))))
  (pss_cons (ps_set (i := 5) sc_moment_by.nd rfl (.inl rfl) (pe_go k__minutes_by (hr.mono (by decide)) rfl F__minutes_by.g F__minutes_by.fn.kp F__minutes_by.b pass0 (pa_cons (pv 3) pa_nil)))
  (pss_cons (ps_if (PW.pt (pw_or (pt_cmpR op_isN (pv 4) pe_non (nomark _)) (pw_or (pt_cmpR op_isN (pv 5) pe_non (nomark _)) (pw_or1 (pt_not (pt_tru (pe_go k_is_moment (hr.mono (by decide)) rfl F_is_moment.g F_is_moment.fn.kp F_is_moment.b pass0 (pa_cons (pe_op op_uAdd (pe_op op_uMul (pv 4) (pe_glob rfl c_HOUR ⟨_, rfl⟩)) (pv 5)) pa_nil)))))))) (pss_one (ps_raiseE rfl (takes_of rfl rfl rfl rfl) (pmk_oex T_NoText iC_NoText tI_NoText Fi_NoText (hr.rm.mono (by decide)) bi_NoText .nil pass0 (by rfl) g_NoText (pa_cons pe_int pa_nil)))) pss_nil)
  (pss_one (ps_ret (pe_op op_uAdd (pe_op op_uMul (pv 4) (pe_glob rfl c_HOUR ⟨_, rfl⟩)) (pv 5)))))))))

abbrev s__law_pen_ : Stmt := topS 24
abbrev N__law_pen : List Str := ["script", "k", "cell", "digits"]
theorem sc__law_pen : FnScope N__law_pen ["script", "k"] (defScope s__law_pen_) := ⟨rfl, rfl, rfl, by decide +kernel, rfl, by decide +kernel, by decide +kernel⟩
def t__law_pen_r1 (K : PySem.W.Frag) : TS :=
  tRet (tLstU (tCons (tVar 3) (tCons (tOp (rI (fun _ j => 0 < j) fun i j => .int (i % j)) (tVar 2) (tC (.int 2147483629))) (tCons (tC (.int 0)) (tNil)))))
def t__law_pen_r2 (K : PySem.W.Frag) : TS :=
  tSeq (tAsg (tC (.int 0)) (gName 3)) (tSeq (tIfS (tTest (tOp (rI0 fun i j => .bl (decide (j ≤ i))) (tCB (uAbs) (tCons (tVar 2) (tNil))) (tOp (rI CPow fun i j => .int (i ^ j.toNat)) (tC (.int 10)) (tC (.int 18))))) (tAsg (tCB (uAbs) (tCons (tVar 2) (tNil))) (gName 3)) (tNext)) (t__law_pen_r1 K))
def t__law_pen (K : PySem.W.Frag) : TS :=
  tSeq (tAsg (tC (.int 0)) (gName 2)) (tSeq (tIfS (tTest (tOp (rI0 fun i j => .bl (decide (i < j))) (tVar 1) (tCB (uLen K) (tCons (tVar 0) (tNil))))) (tAsg (tOp (uIx K) (tVar 0) (tVar 1)) (gName 2)) (tNext)) (t__law_pen_r2 K))
theorem dv__law_pen {P : Program} {w : World} {K : PySem.W.Frag} {mg : Str → Option Value} {b : Heap} {a : Addr} {d : FuncData} {sp : Sp} (F : Fn K mg "_law_pen" s__law_pen_ a d ["script", "k"])
    (n_len : mg "len" = none)
    (n_abs : mg "abs" = none)
    (len : ∀ vs H Q E, sp vs H Q E → vs.length = 2)
    (rd : ∀ vs H Q E, sp vs H Q E → run (t__law_pen K) (start N__law_pen vs) H Q) : Keeps P w K mg b CX0 2 a d ["script", "k"] sp := by
  refine keeps0 F.fn sc__law_pen len fun cdv A o s H vs Q E hr h => ⟨t__law_pen K, ?_, rd vs H Q E h⟩
  unfold t__law_pen t__law_pen_r2 t__law_pen_r1
  exact (pss_cons (ps_set (i := 2) sc__law_pen.nd rfl (.inl rfl) pe_int)
  (pss_cons (ps_if (pt_cmpR op_lt (pv 1) (pe_callB call_uLen (by rfl) n_len (by decide +kernel) (pa_cons (pv 0) pa_nil)) (nomark _)) (pss_one (ps_set (i := 2) sc__law_pen.nd rfl (.inl rfl) (pe_ix ix_u (pv 0) (pv 1) (fun _ _ => rfl)))) pss_nil)
  (pss_cons (ps_set (i := 3) sc__law_pen.nd rfl (.inl rfl) pe_int)
  (pss_cons (ps_if (pt_cmpR op_ge (pe_callB call_uAbs (by rfl) n_abs (by decide +kernel) (pa_cons (pv 2) pa_nil)) (pe_op op_pow pe_int pe_int) (nomark _)) (pss_one (ps_set (i := 3) sc__law_pen.nd rfl (.inl rfl) (pe_callB call_uAbs (by rfl) n_abs (by decide +kernel) (pa_cons (pv 2) pa_nil)))) pss_nil)
  (pss_one (ps_ret (pe_lstU (pa_cons (pv 3) (pa_cons (pe_op op_mod (pv 2) pe_int) (pa_cons pe_int pa_nil))))))))))

abbrev s__law_draw_ : Stmt := topS 25
abbrev N__law_draw : List Str := ["pen", "base", "found", "many", "number"]
theorem sc__law_draw : FnScope N__law_draw ["pen", "base"] (defScope s__law_draw_) := ⟨rfl, rfl, rfl, by decide +kernel, rfl, by decide +kernel, by decide +kernel⟩
def t__law_draw_r1 (K : PySem.W.Frag) : TS :=
  tSeq (tAsg (tOp (uAdd K) (tOp (uIx K) (tVar 0) (tC (.int 2))) (tC (.int 1))) (gSub (tVar 0) (tC (.int 2)) uSetL)) (tSeq (tAsg (tOp (uIx K) (tVar 0) (tC (.int 2))) (gName 3)) (tSeq (tAsg (tOp (rI (fun _ j => 0 < j) fun i j => .int (i % j)) (tOp (uAdd K) (tOp (uAdd K) (tOp uMul (tOp (uIx K) (tVar 0) (tC (.int 1))) (tC (.int 40503))) (tOp uMul (tOp uMul (tC (.int 7919)) (tVar 3)) (tVar 3))) (tOp uMul (tC (.int 104729)) (tVar 3))) (tC (.int 2147483647))) (gName 4)) (tSeq (tAsg (tOp (rI (fun _ j => 0 < j) fun i j => .int (i % j)) (tOp uMul (tVar 4) (tOp (uAdd K) (tOp (rI (fun _ j => 0 < j) fun i j => .int (i % j)) (tVar 4) (tC (.int 65003))) (tC (.int 3)))) (tC (.int 2147483587))) (gName 4)) (tRet (tOp (rI (fun _ j => 0 < j) fun i j => .int (i % j)) (tOp (rI CDiv fun i j => .int (i / j)) (tOp (rI (fun _ j => 0 < j) fun i j => .int (i % j)) (tOp (uAdd K) (tOp uMul (tVar 4) (tC (.int 69621))) (tVar 3)) (tC (.int 2147483563))) (tC (.int 16))) (tVar 1))))))
def t__law_draw (K : PySem.W.Frag) : TS :=
  tSeq (tIfS (tTest (tOp (rI0 fun i j => .bl (decide (j < i))) (tOp (uIx K) (tVar 0) (tC (.int 0))) (tC (.int 0)))) (tSeq (tAsg (tOp (rI (fun _ j => 0 < j) fun i j => .int (i % j)) (tOp (uIx K) (tVar 0) (tC (.int 0))) (tVar 1)) (gName 2)) (tSeq (tAsg (tOp (rI CDiv fun i j => .int (i / j)) (tOp (uIx K) (tVar 0) (tC (.int 0))) (tVar 1)) (gSub (tVar 0) (tC (.int 0)) uSetL)) (tRet (tVar 2)))) (tNext)) (t__law_draw_r1 K)
theorem dv__law_draw {P : Program} {w : World} {K : PySem.W.Frag} {mg : Str → Option Value} {b : Heap} {a : Addr} {d : FuncData} {sp : Sp} (F : Fn K mg "_law_draw" s__law_draw_ a d ["pen", "base"])
    (len : ∀ vs H Q E, sp vs H Q E → vs.length = 2)
    (rd : ∀ vs H Q E, sp vs H Q E → run (t__law_draw K) (start N__law_draw vs) H Q) : Keeps P w K mg b CX0 2 a d ["pen", "base"] sp := by
  refine keeps0 F.fn sc__law_draw len fun cdv A o s H vs Q E hr h => ⟨t__law_draw K, ?_, rd vs H Q E h⟩
  unfold t__law_draw t__law_draw_r1
  exact (pss_cons (ps_if (pt_cmpR op_gt (pe_ix ix_u (pv 0) pe_int (fun _ _ => rfl)) pe_int (nomark _)) (pss_cons (ps_set (i := 2) sc__law_draw.nd rfl (.inl rfl) (pe_op op_mod (pe_ix ix_u (pv 0) pe_int (fun _ _ => rfl)) (pv 1)))
  (pss_cons (ps_asg (pe_op op_fdiv (pe_ix ix_u (pv 0) pe_int (fun _ _ => rfl)) (pv 1)) (pg_sub (pv 0) pe_int set_u))
  (pss_one (ps_ret (pv 2))))) pss_nil)
  (pss_cons (ps_asg (pe_op op_uAdd (pe_ix ix_u (pv 0) pe_int (fun _ _ => rfl)) pe_int) (pg_sub (pv 0) pe_int set_u))
  (pss_cons (ps_set (i := 3) sc__law_draw.nd rfl (.inl rfl) (pe_ix ix_u (pv 0) pe_int (fun _ _ => rfl)))
  (pss_cons (ps_set (i := 4) sc__law_draw.nd rfl (.inl rfl) (pe_op op_mod (pe_op op_uAdd (pe_op op_uAdd (pe_op op_uMul (pe_ix ix_u (pv 0) pe_int (fun _ _ => rfl)) pe_int) (pe_op op_uMul (pe_op op_uMul pe_int (pv 3)) (pv 3))) (pe_op op_uMul pe_int (pv 3))) pe_int))
  (pss_cons (ps_set (i := 4) sc__law_draw.nd rfl (.inl rfl) (pe_op op_mod (pe_op op_uMul (pv 4) (pe_op op_uAdd (pe_op op_mod (pv 4) pe_int) pe_int)) pe_int))
  (pss_one (ps_ret (pe_op op_mod (pe_op op_fdiv (pe_op op_mod (pe_op op_uAdd (pe_op op_uMul (pv 4) pe_int) (pv 3)) pe_int) pe_int) (pv 1)))))))))

abbrev s__law_signs_ : Stmt := topS 26
abbrev N__law_signs : List Str := ["found"]
theorem sc__law_signs : FnScope N__law_signs [] (defScope s__law_signs_) := ⟨rfl, rfl, rfl, by decide +kernel, rfl, by decide +kernel, by decide +kernel⟩
def t__law_signs (K : PySem.W.Frag) : TS :=
  tSeq (tAsg (tC (.str " !\"#$&'()*+,-./0123456789:;<=>?@ABCDEFGHIJKLMNOPQRSTUVWXYZ")) (gName 0)) (tRet (tOp (uAdd K) (tVar 0) (tC (.str "[\\]^_`abcdefghijklmnopqrstuvwxyz{|}~\n"))))
theorem dv__law_signs {P : Program} {w : World} {K : PySem.W.Frag} {mg : Str → Option Value} {b : Heap} {a : Addr} {d : FuncData} {sp : Sp} (F : Fn K mg "_law_signs" s__law_signs_ a d [])
    (len : ∀ vs H Q E, sp vs H Q E → vs.length = 0)
    (rd : ∀ vs H Q E, sp vs H Q E → run (t__law_signs K) (start N__law_signs vs) H Q) : Keeps P w K mg b CX0 2 a d [] sp := by
  refine keeps0 F.fn sc__law_signs len fun cdv A o s H vs Q E hr h => ⟨t__law_signs K, ?_, rd vs H Q E h⟩
  unfold t__law_signs 
  exact (pss_cons (ps_set (i := 0) sc__law_signs.nd rfl (.inl rfl) pe_str)
  (pss_one (ps_ret (pe_op op_uAdd (pv 0) pe_str))))

abbrev s__law_moment_text_ : Stmt := topS 27
abbrev N__law_moment_text : List Str := ["moment", "figures", "rest"]
theorem sc__law_moment_text : FnScope N__law_moment_text ["moment"] (defScope s__law_moment_text_) := ⟨rfl, rfl, rfl, by decide +kernel, rfl, by decide +kernel, by decide +kernel⟩
def t__law_moment_text (K : PySem.W.Frag) : TS :=
  tSeq (tAsg (tC (.str "0123456789")) (gName 1)) (tSeq (tAsg (tOp (rI (fun _ j => 0 < j) fun i j => .int (i % j)) (tVar 0) (tC (.int 60))) (gName 2)) (tRet (tOp (uAdd K) (tOp (uAdd K) (tOp (uAdd K) (tCB (uStr) (tCons (tOp (rI CDiv fun i j => .int (i / j)) (tVar 0) (tC (.int 60))) (tNil))) (tC (.str ":"))) (tOp (uIx K) (tVar 1) (tOp (rI CDiv fun i j => .int (i / j)) (tVar 2) (tC (.int 10))))) (tOp (uIx K) (tVar 1) (tOp (rI (fun _ j => 0 < j) fun i j => .int (i % j)) (tVar 2) (tC (.int 10)))))))
theorem dv__law_moment_text {P : Program} {w : World} {K : PySem.W.Frag} {mg : Str → Option Value} {b : Heap} {a : Addr} {d : FuncData} {sp : Sp} (F : Fn K mg "_law_moment_text" s__law_moment_text_ a d ["moment"])
    (n_str : mg "str" = none)
    (len : ∀ vs H Q E, sp vs H Q E → vs.length = 1)
    (rd : ∀ vs H Q E, sp vs H Q E → run (t__law_moment_text K) (start N__law_moment_text vs) H Q) : Keeps P w K mg b CX0 2 a d ["moment"] sp := by
  refine keeps0 F.fn sc__law_moment_text len fun cdv A o s H vs Q E hr h => ⟨t__law_moment_text K, ?_, rd vs H Q E h⟩
  unfold t__law_moment_text 
  exact (pss_cons (ps_set (i := 1) sc__law_moment_text.nd rfl (.inl rfl) pe_str)
  (pss_cons (ps_set (i := 2) sc__law_moment_text.nd rfl (.inl rfl) (pe_op op_mod (pv 0) pe_int))
  (pss_one (ps_ret (pe_op op_uAdd (pe_op op_uAdd (pe_op op_uAdd (pe_callTy call_uStr (by rfl) n_str (by decide +kernel) (pa_cons (pe_op op_fdiv (pv 0) pe_int) pa_nil)) pe_str) (pe_ix ix_u (pv 1) (pe_op op_fdiv (pv 2) pe_int) (fun _ _ => rfl))) (pe_ix ix_u (pv 1) (pe_op op_mod (pv 2) pe_int) (fun _ _ => rfl)))))))

abbrev s__law_moment_ : Stmt := topS 28
abbrev N__law_moment : List Str := ["pen", "some", "hour", "step", "found"]
theorem sc__law_moment : FnScope N__law_moment ["pen"] (defScope s__law_moment_) := ⟨rfl, rfl, rfl, by decide +kernel, rfl, by decide +kernel, by decide +kernel⟩
def t__law_moment (K : PySem.W.Frag) (s__law_draw : Sp) : TS :=
  tSeq (tAsg (tGo s__law_draw E0 (tCons (tVar 0) (tCons (tOp (uAdd K) (tOp (rI CPow fun i j => .int (i ^ j.toNat)) (tC (.int 10)) (tC (.int 6))) (tC (.int 1))) (tNil)))) (gName 1)) (tSeq (tAsg (tOp uMul (tOp (rI CDiv fun i j => .int (i / j)) (tVar 1) (tC (.int 60))) (tC (.int 60))) (gName 2)) (tSeq (tAsg (tOp (rI0 fun i j => .int (i - j)) (tGo s__law_draw E0 (tCons (tVar 0) (tCons (tC (.int 3)) (tNil)))) (tC (.int 1))) (gName 3)) (tSeq (tAsg (tLstU (tCons (tVar 1) (tCons (tOp (uAdd K) (tVar 2) (tVar 3)) (tCons (tOp (uAdd K) (tOp (uAdd K) (tVar 2) (tC (.int 10))) (tVar 3)) (tNil))))) (gName 4)) (tSeq (tAsg (tOp (uAdd K) (tVar 4) (tLstU (tCons (tGo s__law_draw E0 (tCons (tVar 0) (tCons (tC (.int 130)) (tNil)))) (tCons (tOp (rI0 fun i j => .int (i - j)) (tOp (rI CPow fun i j => .int (i ^ j.toNat)) (tC (.int 10)) (tC (.int 6))) (tGo s__law_draw E0 (tCons (tVar 0) (tCons (tC (.int 50)) (tNil))))) (tNil))))) (gName 4)) (tRet (tCB uMax2 (tCons (tC (.int 0)) (tCons (tCB uMin2 (tCons (tOp (rI CPow fun i j => .int (i ^ j.toNat)) (tC (.int 10)) (tC (.int 6))) (tCons (tOp (uIx K) (tVar 4) (tGo s__law_draw E0 (tCons (tVar 0) (tCons (tC (.int 5)) (tNil))))) (tNil)))) (tNil)))))))))
theorem dv__law_moment {P : Program} {w : World} {K : PySem.W.Frag} {mg : Str → Option Value} {b : Heap} {a : Addr} {d : FuncData} {sp : Sp} (F : Fn K mg "_law_moment" s__law_moment_ a d ["pen"])
    {a__law_draw : Addr} {d__law_draw : FuncData} {s__law_draw : Sp} (F__law_draw : Fn K mg "_law_draw" s__law_draw_ a__law_draw d__law_draw ["pen", "base"]) (k__law_draw : Keeps P w K mg b CX0 2 a__law_draw d__law_draw ["pen", "base"] s__law_draw)
    (n_max : mg "max" = none)
    (n_min : mg "min" = none)
    (len : ∀ vs H Q E, sp vs H Q E → vs.length = 1)
    (rd : ∀ vs H Q E, sp vs H Q E → run (t__law_moment K s__law_draw) (start N__law_moment vs) H Q) : Keeps P w K mg b CX0 3 a d ["pen"] sp := by
  refine keeps0 F.fn sc__law_moment len fun cdv A o s H vs Q E hr h => ⟨t__law_moment K s__law_draw, ?_, rd vs H Q E h⟩
  unfold t__law_moment 
  exact (pss_cons (ps_set (i := 1) sc__law_moment.nd rfl (.inl rfl) (pe_go k__law_draw (hr.mono (by decide)) rfl F__law_draw.g F__law_draw.fn.kp F__law_draw.b pass0 (pa_cons (pv 0) (pa_cons (pe_op op_uAdd (pe_op op_pow pe_int pe_int) pe_int) pa_nil))))
  (pss_cons (ps_set (i := 2) sc__law_moment.nd rfl (.inl rfl) (pe_op op_uMul (pe_op op_fdiv (pv 1) pe_int) pe_int))
  (pss_cons (ps_set (i := 3) sc__law_moment.nd rfl (.inl rfl) (pe_op op_sub (pe_go k__law_draw (hr.mono (by decide)) rfl F__law_draw.g F__law_draw.fn.kp F__law_draw.b pass0 (pa_cons (pv 0) (pa_cons pe_int pa_nil))) pe_int))
  (pss_cons (ps_set (i := 4) sc__law_moment.nd rfl (.inl rfl) (pe_lstU (pa_cons (pv 1) (pa_cons (pe_op op_uAdd (pv 2) (pv 3)) (pa_cons (pe_op op_uAdd (pe_op op_uAdd (pv 2) pe_int) (pv 3)) pa_nil)))))
  (pss_cons (ps_set (i := 4) sc__law_moment.nd rfl (.inl rfl) (pe_op op_uAdd (pv 4) (pe_lstU (pa_cons (pe_go k__law_draw (hr.mono (by decide)) rfl F__law_draw.g F__law_draw.fn.kp F__law_draw.b pass0 (pa_cons (pv 0) (pa_cons pe_int pa_nil))) (pa_cons (pe_op op_sub (pe_op op_pow pe_int pe_int) (pe_go k__law_draw (hr.mono (by decide)) rfl F__law_draw.g F__law_draw.fn.kp F__law_draw.b pass0 (pa_cons (pv 0) (pa_cons pe_int pa_nil)))) pa_nil)))))
  (pss_one (ps_ret (pe_callB (call_uMax2 rfl) (by rfl) n_max (by decide +kernel) (pa_cons pe_int (pa_cons (pe_callB (call_uMin2 rfl) (by rfl) n_min (by decide +kernel) (pa_cons (pe_op op_pow pe_int pe_int) (pa_cons (pe_ix ix_u (pv 4) (pe_go k__law_draw (hr.mono (by decide)) rfl F__law_draw.g F__law_draw.fn.kp F__law_draw.b pass0 (pa_cons (pv 0) (pa_cons pe_int pa_nil))) (fun _ _ => rfl)) pa_nil))) pa_nil))))))))))

abbrev s__law_marks_ : Stmt := topS 29
abbrev N__law_marks : List Str := ["error", "found"]
theorem sc__law_marks : FnScope N__law_marks ["error"] (defScope s__law_marks_) := ⟨rfl, rfl, rfl, by decide +kernel, rfl, by decide +kernel, by decide +kernel⟩
def t__law_marks (K : PySem.W.Frag) (c_WagonError : Addr) (c_NoText : Addr) (c_NoMoment : Addr) (c_NoLog : Addr) (c_NoDeed : Addr) (c_NoCall : Addr) (c_Late : Addr) (c_TooMany : Addr) (c_NoTown : Addr) (c_NoTelling : Addr) (c_NoRow : Addr) (c_NoPaper : Addr) : TS :=
  tSeq (tAsg (tLstU (tCons (tCB (rIsV K) (tCons (tVar 0) (tCons (tC (.ref c_NoText)) (tNil)))) (tCons (tCB (rIsV K) (tCons (tVar 0) (tCons (tC (.ref c_WagonError)) (tNil)))) (tNil)))) (gName 1)) (tSeq (tDrop (tBM K "list" uAppend (tVar 1) (tCons (tCB (rIsV K) (tCons (tVar 0) (tCons (tC (.ty "ValueError")) (tNil)))) (tNil)))) (tSeq (tDrop (tBM K "list" uAppend (tVar 1) (tCons (tCB (rIsV K) (tCons (tVar 0) (tCons (tTupU (tCons (tC (.ref c_Late)) (tCons (tC (.ref c_NoCall)) (tCons (tC (.ref c_NoDeed)) (tCons (tC (.ref c_NoLog)) (tCons (tC (.ref c_NoMoment)) (tNil))))))) (tNil)))) (tNil)))) (tRet (tOp (uAdd K) (tVar 1) (tLstU (tCons (tCB (rIsV K) (tCons (tVar 0) (tCons (tTupU (tCons (tC (.ref c_NoPaper)) (tCons (tC (.ref c_NoRow)) (tCons (tC (.ref c_NoTelling)) (tCons (tC (.ref c_NoTown)) (tCons (tC (.ref c_TooMany)) (tNil))))))) (tNil)))) (tNil)))))))
theorem dv__law_marks {P : Program} {w : World} {K : PySem.W.Frag} {mg : Str → Option Value} {b : Heap} {a : Addr} {d : FuncData} {sp : Sp} (F : Fn K mg "_law_marks" s__law_marks_ a d ["error"])
    {c_WagonError : Addr}
    {c_NoText : Addr}
    {c_NoMoment : Addr}
    {c_NoLog : Addr}
    {c_NoDeed : Addr}
    {c_NoCall : Addr}
    {c_Late : Addr}
    {c_TooMany : Addr}
    {c_NoTown : Addr}
    {c_NoTelling : Addr}
    {c_NoRow : Addr}
    {c_NoPaper : Addr}
    (g_WagonError : mg "WagonError" = some (.ref c_WagonError))
    (g_NoText : mg "NoText" = some (.ref c_NoText))
    (g_NoMoment : mg "NoMoment" = some (.ref c_NoMoment))
    (g_NoLog : mg "NoLog" = some (.ref c_NoLog))
    (g_NoDeed : mg "NoDeed" = some (.ref c_NoDeed))
    (g_NoCall : mg "NoCall" = some (.ref c_NoCall))
    (g_Late : mg "Late" = some (.ref c_Late))
    (g_TooMany : mg "TooMany" = some (.ref c_TooMany))
    (g_NoTown : mg "NoTown" = some (.ref c_NoTown))
    (g_NoTelling : mg "NoTelling" = some (.ref c_NoTelling))
    (g_NoRow : mg "NoRow" = some (.ref c_NoRow))
    (g_NoPaper : mg "NoPaper" = some (.ref c_NoPaper))
    (n_isinstance : mg "isinstance" = none)
    (n_ValueError : mg "ValueError" = none)
    (len : ∀ vs H Q E, sp vs H Q E → vs.length = 1)
    (rd : ∀ vs H Q E, sp vs H Q E → run (t__law_marks K c_WagonError c_NoText c_NoMoment c_NoLog c_NoDeed c_NoCall c_Late c_TooMany c_NoTown c_NoTelling c_NoRow c_NoPaper) (start N__law_marks vs) H Q) : Keeps P w K mg b CX0 2 a d ["error"] sp := by
  refine keeps0 F.fn sc__law_marks len fun cdv A o s H vs Q E hr h => ⟨t__law_marks K c_WagonError c_NoText c_NoMoment c_NoLog c_NoDeed c_NoCall c_Late c_TooMany c_NoTown c_NoTelling c_NoRow c_NoPaper, ?_, rd vs H Q E h⟩
  unfold t__law_marks 
  exact (pss_cons (ps_set (i := 1) sc__law_marks.nd rfl (.inl rfl) (pe_lstU (pa_cons (pe_callB call_isV (by rfl) n_isinstance (by decide +kernel) (pa_cons (pv 0) (pa_cons (pe_glob rfl g_NoText rfl) pa_nil))) (pa_cons (pe_callB call_isV (by rfl) n_isinstance (by decide +kernel) (pa_cons (pv 0) (pa_cons (pe_glob rfl g_WagonError rfl) pa_nil))) pa_nil))))
  (pss_cons (ps_expr (pe_bm PySem.F.plainAttrs_list PySem.F.slot_list_append PySem.F.type_list_append mt_uAppend (pv 1) (pa_cons (pe_callB call_isV (by rfl) n_isinstance (by decide +kernel) (pa_cons (pv 0) (pa_cons (pe_bltn (v := .ty "ValueError") (by rfl) n_ValueError (by decide +kernel) rfl) pa_nil))) pa_nil)))
  (pss_cons (ps_expr (pe_bm PySem.F.plainAttrs_list PySem.F.slot_list_append PySem.F.type_list_append mt_uAppend (pv 1) (pa_cons (pe_callB call_isV (by rfl) n_isinstance (by decide +kernel) (pa_cons (pv 0) (pa_cons (pe_tupU (pa_cons (pe_glob rfl g_Late rfl) (pa_cons (pe_glob rfl g_NoCall rfl) (pa_cons (pe_glob rfl g_NoDeed rfl) (pa_cons (pe_glob rfl g_NoLog rfl) (pa_cons (pe_glob rfl g_NoMoment rfl) pa_nil)))))) pa_nil))) pa_nil)))
  (pss_one (ps_ret (pe_op op_uAdd (pv 1) (pe_lstU (pa_cons (pe_callB call_isV (by rfl) n_isinstance (by decide +kernel) (pa_cons (pv 0) (pa_cons (pe_tupU (pa_cons (pe_glob rfl g_NoPaper rfl) (pa_cons (pe_glob rfl g_NoRow rfl) (pa_cons (pe_glob rfl g_NoTelling rfl) (pa_cons (pe_glob rfl g_NoTown rfl) (pa_cons (pe_glob rfl g_TooMany rfl) pa_nil)))))) pa_nil))) pa_nil))))))))

abbrev s__law_read_ : Stmt := topS 30
abbrev N__law_read : List Str := ["thing", "at", "signs", "moment", "sign"]
theorem sc__law_read : FnScope N__law_read ["thing"] (defScope s__law_read_) := ⟨rfl, rfl, rfl, by decide +kernel, rfl, by decide +kernel, by decide +kernel⟩
def t__law_read_r1 (K : PySem.W.Frag) (s__law_moment_text : Sp) : TS :=
  tRet (tVar 3)
def t__law_read_r2 (K : PySem.W.Frag) (s__law_moment_text : Sp) : TS :=
  tSeq (tAsg (tOp (uAdd K) (tOp uMul (tCB uIntS (tCons (tSl (uSl K) (tVar 0) (tNoPart) (tPart (tVar 1))) (tNil))) (tC (.int 60))) (tCB uIntS (tCons (tSl (uSl K) (tVar 0) (tPart (tOp (uAdd K) (tVar 1) (tC (.int 1)))) (tNoPart)) (tNil)))) (gName 3)) (tSeq (tIfS (tOr (tTest (tOp (rI0 fun i j => .bl (decide (j < i))) (tVar 3) (tOp (rI CPow fun i j => .int (i ^ j.toNat)) (tC (.int 10)) (tC (.int 6))))) (tTest (tOp (uEq K true) (tGo s__law_moment_text E0 (tCons (tVar 3) (tNil))) (tVar 0)))) (tRet (tC .non)) (tNext)) (t__law_read_r1 K s__law_moment_text))
def t__law_read_r3 (K : PySem.W.Frag) (s__law_moment_text : Sp) : TS :=
  tSeq (tIfS (tTest (tOp (uEq K true) (tLc (iU K (tVar 2)) (gName 4) (tTest (tOp (uIn K true) (tVar 4) (tC (.str "0123456789")))) (tVar 4) [4]) (tLstU (tNil)))) (tRet (tC .non)) (tNext)) (t__law_read_r2 K s__law_moment_text)
def t__law_read_r4 (K : PySem.W.Frag) (s__law_moment_text : Sp) : TS :=
  tSeq (tAsg (tM1 uFind (tVar 0) (tC (.str ":"))) (gName 1)) (tSeq (tAsg (tOp (uAdd K) (tSl (uSl K) (tVar 0) (tNoPart) (tPart (tVar 1))) (tSl (uSl K) (tVar 0) (tPart (tOp (uAdd K) (tVar 1) (tC (.int 1)))) (tNoPart))) (gName 2)) (tSeq (tIfS (tOr (tTest (tOp (uEq K false) (tVar 1) (tC (.int 0)))) (tTest (tOp (uEq K true) (tOp (rI0 fun i j => .int (i - j)) (tCB (uLen K) (tCons (tVar 0) (tNil))) (tVar 1)) (tC (.int 3))))) (tRet (tC .non)) (tNext)) (t__law_read_r3 K s__law_moment_text)))
def t__law_read (K : PySem.W.Frag) (s__law_moment_text : Sp) : TS :=
  tSeq (tIfS (tOr (tNot (tTru K (tCB (rIsi K) (tCons (tVar 0) (tCons (tC (.ty "str")) (tNil)))))) (tOr (tTest (tOp (rI0 fun i j => .bl (decide (j < i))) (tCB (uLen K) (tCons (tVar 0) (tNil))) (tC (.int 8)))) (tTest (tOp (uIn K true) (tC (.str ":")) (tVar 0))))) (tRet (tC .non)) (tNext)) (t__law_read_r4 K s__law_moment_text)
theorem dv__law_read {P : Program} {w : World} {K : PySem.W.Frag} {mg : Str → Option Value} {b : Heap} {a : Addr} {d : FuncData} {sp : Sp} (F : Fn K mg "_law_read" s__law_read_ a d ["thing"])
    (n_isinstance : mg "isinstance" = none)
    (n_str : mg "str" = none)
    (n_len : mg "len" = none)
    (n_int : mg "int" = none)
    {a__law_moment_text : Addr} {d__law_moment_text : FuncData} {s__law_moment_text : Sp} (F__law_moment_text : Fn K mg "_law_moment_text" s__law_moment_text_ a__law_moment_text d__law_moment_text ["moment"]) (k__law_moment_text : Keeps P w K mg b CX0 2 a__law_moment_text d__law_moment_text ["moment"] s__law_moment_text)
    (len : ∀ vs H Q E, sp vs H Q E → vs.length = 1)
    (rd : ∀ vs H Q E, sp vs H Q E → run (t__law_read K s__law_moment_text) (start N__law_read vs) H Q) : Keeps P w K mg b CX0 3 a d ["thing"] sp := by
  refine keeps0 F.fn sc__law_read len fun cdv A o s H vs Q E hr h => ⟨t__law_read K s__law_moment_text, ?_, rd vs H Q E h⟩
  unfold t__law_read t__law_read_r4 t__law_read_r3 t__law_read_r2 t__law_read_r1
  exact (pss_cons (ps_if (PW.pt (pw_or (pt_not (pt_tru (pe_callB call_isi (by rfl) n_isinstance (by decide +kernel) (pa_cons (pv 0) (pa_cons (pe_bltn (v := .ty "str") (by rfl) n_str (by decide +kernel) rfl) pa_nil))))) (pw_or (pt_cmpR op_gt (pe_callB call_uLen (by rfl) n_len (by decide +kernel) (pa_cons (pv 0) pa_nil)) pe_int (nomark _)) (pw_or1 (pt_cmpR op_uNotIn pe_str (pv 0) rfl))))) (pss_one (ps_ret pe_non)) pss_nil)
  (pss_cons (ps_set (i := 1) sc__law_read.nd rfl (.inl rfl) (pe_uFind (pv 0) pe_str))
  (pss_cons (ps_set (i := 2) sc__law_read.nd rfl (.inl rfl) (pe_op op_uAdd (pe_slice sl_u (pv 0) po_none (po_some (pv 1))) (pe_slice sl_u (pv 0) (po_some (pe_op op_uAdd (pv 1) pe_int)) po_none)))
  (pss_cons (ps_if (PW.pt (pw_or (pt_cmpR (op_uEq hr.rm.units) (pv 1) pe_int (nomark _)) (pw_or1 (pt_cmpR (op_uNe hr.rm.units) (pe_op op_sub (pe_callB call_uLen (by rfl) n_len (by decide +kernel) (pa_cons (pv 0) pa_nil)) (pv 1)) pe_int (nomark _))))) (pss_one (ps_ret pe_non)) pss_nil)
  (pss_cons (ps_if (pt_cmpR (op_uNe hr.rm.units) (pe_lc (own := [("sign", 4)]) rfl sc__law_read.nd (pi_u (pv 2)) (blkOk_by (own := [("sign", 4)]) (N := N__law_read) (sc := defScope s__law_read_) (by decide +kernel)) (fun _ _ _ _ _ => (pg_name (i := 4) sc__law_read.nd rfl (.inl rfl))) (fun _ _ _ _ _ => (pts_one (pt_cmpR op_uNotIn (pv 4) pe_str rfl))) (fun _ _ _ _ _ => (pv 4))) (pe_lstU pa_nil) (nomark _)) (pss_one (ps_ret pe_non)) pss_nil)
  (pss_cons (ps_set (i := 3) sc__law_read.nd rfl (.inl rfl) (pe_op op_uAdd (pe_op op_uMul (pe_callTy call_uIntS (by rfl) n_int (by decide +kernel) (pa_cons (pe_slice sl_u (pv 0) po_none (po_some (pv 1))) pa_nil)) pe_int) (pe_callTy call_uIntS (by rfl) n_int (by decide +kernel) (pa_cons (pe_slice sl_u (pv 0) (po_some (pe_op op_uAdd (pv 1) pe_int)) po_none) pa_nil))))
  (pss_cons (ps_if (PW.pt (pw_or (pt_cmpR op_gt (pv 3) (pe_op op_pow pe_int pe_int) (nomark _)) (pw_or1 (pt_cmpR (op_uNe hr.rm.units) (pe_go k__law_moment_text (hr.mono (by decide)) rfl F__law_moment_text.g F__law_moment_text.fn.kp F__law_moment_text.b pass0 (pa_cons (pv 3) pa_nil)) (pv 0) (nomark _))))) (pss_one (ps_ret pe_non)) pss_nil)
  (pss_one (ps_ret (pv 3))))))))))

abbrev s__law_told_ : Stmt := topS 31
abbrev N__law_told : List Str := ["thing", "caught", "found", "e"]
theorem sc__law_told : FnScope N__law_told ["thing"] (defScope s__law_told_) := ⟨rfl, rfl, rfl, by decide +kernel, rfl, by decide +kernel, by decide +kernel⟩
def t__law_told_r1 (K : PySem.W.Frag) (s_moment_by : Sp) (s__law_marks : Sp) (c_NoText : Addr) : TS :=
  tRet (tLstU (tCons (tC (.str "refused")) (tCons (tXfV K "row" (tVar 1)) (tCons (tGo s__law_marks E0 (tCons (tVar 1) (tNil))) (tNil)))))
def t__law_told_r2 (K : PySem.W.Frag) (s_moment_by : Sp) (s__law_marks : Sp) (c_NoText : Addr) : TS :=
  tSeq (tIfS (tTest (tOp rIsN (tVar 1) (tC .non))) (tRet (tLstU (tCons (tC (.str "told")) (tCons (tVar 2) (tNil))))) (tNext)) (t__law_told_r1 K s_moment_by s__law_marks c_NoText)
def t__law_told (K : PySem.W.Frag) (s_moment_by : Sp) (s__law_marks : Sp) (c_NoText : Addr) : TS :=
  tSeq (tAsg (tC .non) (gName 1)) (tSeq (tAsg (tC .non) (gName 2)) (tSeq (tTryKp K c_NoText 3 (fun W => tAsg (tGoS s_moment_by (WE W) (tCons (tVar 0) (tNil))) (gName 2)) (fun a cls d => tAsg (tVar 3) (gName 1))) (t__law_told_r2 K s_moment_by s__law_marks c_NoText)))
theorem dv__law_told {P : Program} {w : World} {K : PySem.W.Frag} {mg : Str → Option Value} {b : Heap} {a : Addr} {d : FuncData} {sp : Sp} (F : Fn K mg "_law_told" s__law_told_ a d ["thing"])
    {c_NoText : Addr}
    (g_NoText : mg "NoText" = some (.ref c_NoText))
    {a_moment_by : Addr} {d_moment_by : FuncData} {s_moment_by : Sp} (F_moment_by : Fn K mg "moment_by" s_moment_by_ a_moment_by d_moment_by ["text"]) (k_moment_by : Keeps P w K mg b (L2.CX P w) 5 a_moment_by d_moment_by ["text"] s_moment_by)
    {a__law_marks : Addr} {d__law_marks : FuncData} {s__law_marks : Sp} (F__law_marks : Fn K mg "_law_marks" s__law_marks_ a__law_marks d__law_marks ["error"]) (k__law_marks : Keeps P w K mg b CX0 2 a__law_marks d__law_marks ["error"] s__law_marks)
    (len : ∀ vs H Q E, sp vs H Q E → vs.length = 1)
    (rd : ∀ vs H Q E, sp vs H Q E → run (t__law_told K s_moment_by s__law_marks c_NoText) (start N__law_told vs) H Q) : Keeps P w K mg b CX0 6 a d ["thing"] sp := by
  refine keeps0 F.fn sc__law_told len fun cdv A o s H vs Q E hr h => ⟨t__law_told K s_moment_by s__law_marks c_NoText, ?_, rd vs H Q E h⟩
  unfold t__law_told t__law_told_r2 t__law_told_r1
  exact (pss_cons (ps_set (i := 1) sc__law_told.nd rfl (.inl rfl) pe_non)
  (pss_cons (ps_set (i := 2) sc__law_told.nd rfl (.inl rfl) pe_non)
  (pss_cons (ps_try_kp (i := 3) rfl rfl sc__law_told.nd rfl rfl ⟨by rfl, by decide, .inl g_NoText⟩ rfl takes0 (fun W pn xe tk _ => (pss_one (ps_set (i := 2) sc__law_told.nd rfl (.inl rfl) (pe_goS k_moment_by (hr.mono (by decide)) (by rfl) F_moment_by.g F_moment_by.fn.kp F_moment_by.b (fun σ => passAt tk σ) (pa_cons (pv 0) pa_nil))))) (fun a oe cls d pn hz hf => (pss_one (ps_set (i := 1) sc__law_told.nd rfl (.inl rfl) (pv 3)))))
  (pss_cons (ps_if (pt_cmpR op_isN (pv 1) pe_non (nomark _)) (pss_one (ps_ret (pe_lstU (pa_cons pe_str (pa_cons (pv 2) pa_nil))))) pss_nil)
  (pss_one (ps_ret (pe_lstU (pa_cons pe_str (pa_cons (pe_xfV (pv 1)) (pa_cons (pe_go k__law_marks (hr.mono (by decide)) rfl F__law_marks.g F__law_marks.fn.kp F__law_marks.b pass0 (pa_cons (pv 1) pa_nil)) pa_nil))))))))))

abbrev s__law_bent_ : Stmt := topS 32
abbrev N__law_bent : List Str := ["pen", "text", "signs", "spot", "sign", "pick"]
theorem sc__law_bent : FnScope N__law_bent ["pen", "text"] (defScope s__law_bent_) := ⟨rfl, rfl, rfl, by decide +kernel, rfl, by decide +kernel, by decide +kernel⟩
def t__law_bent (K : PySem.W.Frag) (s__law_signs : Sp) (s__law_draw : Sp) : TS :=
  tSeq (tAsg (tOp (uAdd K) (tGo s__law_signs E0 tNil) (tC (.str "0123456789:"))) (gName 2)) (tSeq (tAsg (tGo s__law_draw E0 (tCons (tVar 0) (tCons (tOp (uAdd K) (tCB (uLen K) (tCons (tVar 1) (tNil))) (tC (.int 1))) (tNil)))) (gName 3)) (tSeq (tAsg (tOp (uIx K) (tVar 2) (tGo s__law_draw E0 (tCons (tVar 0) (tCons (tCB (uLen K) (tCons (tVar 2) (tNil))) (tNil))))) (gName 4)) (tSeq (tAsg (tGo s__law_draw E0 (tCons (tVar 0) (tCons (tC (.int 3)) (tNil)))) (gName 5)) (tRet (tOp (uAdd K) (tOp (uAdd K) (tSl (uSl K) (tVar 1) (tNoPart) (tPart (tVar 3))) (tOp (uIx K) (tLstU (tCons (tVar 4) (tCons (tVar 4) (tCons (tC (.str "")) (tNil))))) (tVar 5))) (tSl (uSl K) (tVar 1) (tPart (tOp (uAdd K) (tVar 3) (tCB (uInt) (tCons (tOp (rI0 fun i j => .bl (decide (j < i))) (tVar 5) (tC (.int 0))) (tNil))))) (tNoPart)))))))
theorem dv__law_bent {P : Program} {w : World} {K : PySem.W.Frag} {mg : Str → Option Value} {b : Heap} {a : Addr} {d : FuncData} {sp : Sp} (F : Fn K mg "_law_bent" s__law_bent_ a d ["pen", "text"])
    {a__law_signs : Addr} {d__law_signs : FuncData} {s__law_signs : Sp} (F__law_signs : Fn K mg "_law_signs" s__law_signs_ a__law_signs d__law_signs []) (k__law_signs : Keeps P w K mg b CX0 2 a__law_signs d__law_signs [] s__law_signs)
    {a__law_draw : Addr} {d__law_draw : FuncData} {s__law_draw : Sp} (F__law_draw : Fn K mg "_law_draw" s__law_draw_ a__law_draw d__law_draw ["pen", "base"]) (k__law_draw : Keeps P w K mg b CX0 2 a__law_draw d__law_draw ["pen", "base"] s__law_draw)
    (n_len : mg "len" = none)
    (n_int : mg "int" = none)
    (len : ∀ vs H Q E, sp vs H Q E → vs.length = 2)
    (rd : ∀ vs H Q E, sp vs H Q E → run (t__law_bent K s__law_signs s__law_draw) (start N__law_bent vs) H Q) : Keeps P w K mg b CX0 3 a d ["pen", "text"] sp := by
  refine keeps0 F.fn sc__law_bent len fun cdv A o s H vs Q E hr h => ⟨t__law_bent K s__law_signs s__law_draw, ?_, rd vs H Q E h⟩
  unfold t__law_bent 
  exact (pss_cons (ps_set (i := 2) sc__law_bent.nd rfl (.inl rfl) (pe_op op_uAdd (pe_go0 k__law_signs (hr.mono (by decide)) rfl F__law_signs.g F__law_signs.fn.kp F__law_signs.b pass0) pe_str))
  (pss_cons (ps_set (i := 3) sc__law_bent.nd rfl (.inl rfl) (pe_go k__law_draw (hr.mono (by decide)) rfl F__law_draw.g F__law_draw.fn.kp F__law_draw.b pass0 (pa_cons (pv 0) (pa_cons (pe_op op_uAdd (pe_callB call_uLen (by rfl) n_len (by decide +kernel) (pa_cons (pv 1) pa_nil)) pe_int) pa_nil))))
  (pss_cons (ps_set (i := 4) sc__law_bent.nd rfl (.inl rfl) (pe_ix ix_u (pv 2) (pe_go k__law_draw (hr.mono (by decide)) rfl F__law_draw.g F__law_draw.fn.kp F__law_draw.b pass0 (pa_cons (pv 0) (pa_cons (pe_callB call_uLen (by rfl) n_len (by decide +kernel) (pa_cons (pv 2) pa_nil)) pa_nil))) (fun _ _ => rfl)))
  (pss_cons (ps_set (i := 5) sc__law_bent.nd rfl (.inl rfl) (pe_go k__law_draw (hr.mono (by decide)) rfl F__law_draw.g F__law_draw.fn.kp F__law_draw.b pass0 (pa_cons (pv 0) (pa_cons pe_int pa_nil))))
  (pss_one (ps_ret (pe_op op_uAdd (pe_op op_uAdd (pe_slice sl_u (pv 1) po_none (po_some (pv 3))) (pe_ix ix_u (pe_lstU (pa_cons (pv 4) (pa_cons (pv 4) (pa_cons pe_str pa_nil)))) (pv 5) (fun _ _ => rfl))) (pe_slice sl_u (pv 1) (po_some (pe_op op_uAdd (pv 3) (pe_callTy call_uInt (by rfl) n_int (by decide +kernel) (pa_cons (pe_cmpR op_gt (pv 5) pe_int (nomark _)) pa_nil)))) po_none))))))))

abbrev s__law_things_ : Stmt := topS 33
abbrev N__law_things : List Str := ["pen", "moment", "text", "bent", "rest", "found"]
theorem sc__law_things : FnScope N__law_things ["pen"] (defScope s__law_things_) := ⟨rfl, rfl, rfl, by decide +kernel, rfl, by decide +kernel, by decide +kernel⟩
def t__law_things (K : PySem.W.Frag) (s__law_moment : Sp) (s__law_moment_text : Sp) (s__law_bent : Sp) (s__law_draw : Sp) : TS :=
  tSeq (tAsg (tGo s__law_moment E0 (tCons (tVar 0) (tNil))) (gName 1)) (tSeq (tAsg (tGo s__law_moment_text E0 (tCons (tVar 1) (tNil))) (gName 2)) (tSeq (tAsg (tGo s__law_bent E0 (tCons (tVar 0) (tCons (tVar 2) (tNil)))) (gName 3)) (tSeq (tAsg (tCB (uStr) (tCons (tGo s__law_draw E0 (tCons (tVar 0) (tCons (tC (.int 10)) (tNil)))) (tNil))) (gName 4)) (tSeq (tAsg (tLstU (tCons (tVar 2) (tCons (tVar 3) (tCons (tGo s__law_bent E0 (tCons (tVar 0) (tCons (tVar 3) (tNil)))) (tCons (tOp (uAdd K) (tC (.str "0")) (tVar 2)) (tCons (tOp (uAdd K) (tC (.str "-")) (tVar 2)) (tNil))))))) (gName 5)) (tSeq (tAsg (tOp (uAdd K) (tVar 5) (tLstU (tCons (tOp (uAdd K) (tC (.str "+")) (tVar 2)) (tCons (tOp (uAdd K) (tC (.str " ")) (tVar 2)) (tCons (tOp (uAdd K) (tVar 2) (tC (.str " "))) (tCons (tOp (uAdd K) (tVar 2) (tC (.str "\n"))) (tNil))))))) (gName 5)) (tSeq (tAsg (tOp (uAdd K) (tVar 5) (tLstU (tCons (tOp (uAdd K) (tOp (uAdd K) (tVar 2) (tC (.str ":"))) (tVar 2)) (tCons (tSl (uSl K) (tVar 2) (tNoPart) (tPart (tUn (rU fun i => .int (-i)) (tC (.int 1))))) (tCons (tSl (uSl K) (tVar 2) (tNoPart) (tPart (tUn (rU fun i => .int (-i)) (tC (.int 2))))) (tCons (tSl (uSl K) (tVar 2) (tPart (tC (.int 1))) (tNoPart)) (tNil))))))) (gName 5)) (tSeq (tAsg (tOp (uAdd K) (tVar 5) (tLstU (tCons (CwR.tReplC (tVar 2) ":" ".") (tCons (tOp (uAdd K) (tVar 2) (tC (.str "0"))) (tCons (tOp (uAdd K) (tC (.str ":")) (tVar 2)) (tNil)))))) (gName 5)) (tSeq (tAsg (tOp (uAdd K) (tVar 5) (tLstU (tCons (tOp (uAdd K) (tOp (uAdd K) (tVar 4) (tC (.str ":6"))) (tVar 4)) (tCons (tOp (uAdd K) (tOp (uAdd K) (tVar 4) (tC (.str ":"))) (tVar 4)) (tNil))))) (gName 5)) (tSeq (tAsg (tOp (uAdd K) (tVar 5) (tLstU (tCons (tOp (uAdd K) (tOp (uAdd K) (tOp (uAdd K) (tC (.str "1666")) (tVar 4)) (tC (.str ":4"))) (tVar 4)) (tNil)))) (gName 5)) (tSeq (tAsg (tOp (uAdd K) (tVar 5) (tLstU (tCons (tC (.str "")) (tCons (tC (.str ":")) (tCons (tC (.str "0:")) (tCons (tC (.str ":00")) (tCons (tC (.str "00:00")) (tCons (tC (.str "0:0")) (tCons (tC (.str "0:60")) (tCons (tC (.str "16666:41")) (tNil))))))))))) (gName 5)) (tSeq (tAsg (tOp (uAdd K) (tVar 5) (tLstU (tCons (tC (.str "16667:00")) (tCons (tC (.str "16666:40")) (tCons (tOp (uAdd K) (tOp uMulS (tC (.str "9")) (tC (.int 60))) (tC (.str ":00"))) (tCons (tOp (uAdd K) (tOp uMulS (tC (.str "0")) (tC (.int 7990))) (tC (.str ":00"))) (tNil))))))) (gName 5)) (tSeq (tAsg (tOp (uAdd K) (tVar 5) (tLstU (tCons (tC .non) (tCons (tC (.bl true)) (tCons (tVar 1) (tCons (tLstU (tCons (tVar 2) (tNil))) (tCons (tTupU (tCons (tVar 2) (tNil))) (tCons (tDic1 2 1) (tNil))))))))) (gName 5)) (tRet (tOp (uAdd K) (tVar 5) (tLstU (tCons (tLstU (tNil)) (tCons (tDNewU) (tCons (tCB (uStr) (tCons (tVar 1) (tNil))) (tNil)))))))))))))))))))
theorem dv__law_things {P : Program} {w : World} {K : PySem.W.Frag} {mg : Str → Option Value} {b : Heap} {a : Addr} {d : FuncData} {sp : Sp} (F : Fn K mg "_law_things" s__law_things_ a d ["pen"])
    {a__law_moment : Addr} {d__law_moment : FuncData} {s__law_moment : Sp} (F__law_moment : Fn K mg "_law_moment" s__law_moment_ a__law_moment d__law_moment ["pen"]) (k__law_moment : Keeps P w K mg b CX0 3 a__law_moment d__law_moment ["pen"] s__law_moment)
    {a__law_moment_text : Addr} {d__law_moment_text : FuncData} {s__law_moment_text : Sp} (F__law_moment_text : Fn K mg "_law_moment_text" s__law_moment_text_ a__law_moment_text d__law_moment_text ["moment"]) (k__law_moment_text : Keeps P w K mg b CX0 2 a__law_moment_text d__law_moment_text ["moment"] s__law_moment_text)
    {a__law_bent : Addr} {d__law_bent : FuncData} {s__law_bent : Sp} (F__law_bent : Fn K mg "_law_bent" s__law_bent_ a__law_bent d__law_bent ["pen", "text"]) (k__law_bent : Keeps P w K mg b CX0 3 a__law_bent d__law_bent ["pen", "text"] s__law_bent)
    (n_str : mg "str" = none)
    {a__law_draw : Addr} {d__law_draw : FuncData} {s__law_draw : Sp} (F__law_draw : Fn K mg "_law_draw" s__law_draw_ a__law_draw d__law_draw ["pen", "base"]) (k__law_draw : Keeps P w K mg b CX0 2 a__law_draw d__law_draw ["pen", "base"] s__law_draw)
    (len : ∀ vs H Q E, sp vs H Q E → vs.length = 1)
    (rd : ∀ vs H Q E, sp vs H Q E → run (t__law_things K s__law_moment s__law_moment_text s__law_bent s__law_draw) (start N__law_things vs) H Q) : Keeps P w K mg b CX0 4 a d ["pen"] sp := by
  refine keeps0 F.fn sc__law_things len fun cdv A o s H vs Q E hr h => ⟨t__law_things K s__law_moment s__law_moment_text s__law_bent s__law_draw, ?_, rd vs H Q E h⟩
  unfold t__law_things 
  exact (pss_cons (ps_set (i := 1) sc__law_things.nd rfl (.inl rfl) (pe_go k__law_moment (hr.mono (by decide)) rfl F__law_moment.g F__law_moment.fn.kp F__law_moment.b pass0 (pa_cons (pv 0) pa_nil)))
  (pss_cons (ps_set (i := 2) sc__law_things.nd rfl (.inl rfl) (pe_go k__law_moment_text (hr.mono (by decide)) rfl F__law_moment_text.g F__law_moment_text.fn.kp F__law_moment_text.b pass0 (pa_cons (pv 1) pa_nil)))
  (pss_cons (ps_set (i := 3) sc__law_things.nd rfl (.inl rfl) (pe_go k__law_bent (hr.mono (by decide)) rfl F__law_bent.g F__law_bent.fn.kp F__law_bent.b pass0 (pa_cons (pv 0) (pa_cons (pv 2) pa_nil))))
  (pss_cons (ps_set (i := 4) sc__law_things.nd rfl (.inl rfl) (pe_callTy call_uStr (by rfl) n_str (by decide +kernel) (pa_cons (pe_go k__law_draw (hr.mono (by decide)) rfl F__law_draw.g F__law_draw.fn.kp F__law_draw.b pass0 (pa_cons (pv 0) (pa_cons pe_int pa_nil))) pa_nil)))
  (pss_cons1 (ps1_set (i := 5) sc__law_things.nd rfl (.inl rfl) (pe1_lstU (pa1_there (pv 2) (pa1_there (pv 3) (pa1_there (pe_go k__law_bent (hr.mono (by decide)) rfl F__law_bent.g F__law_bent.fn.kp F__law_bent.b pass0 (pa_cons (pv 0) (pa_cons (pv 3) pa_nil))) (pa1_here (pe1_opL op_uAdd pe1_str (pv 2)) (pa_cons (pe_op op_uAdd pe_str (pv 2)) pa_nil)))))))
  (psst_cons (PST.of (ps_set (i := 5) sc__law_things.nd rfl (.inl rfl) (pe_op op_uAdd (pv 5) (pe_lstU (pa_cons (pe_op op_uAdd pe_str (pv 2)) (pa_cons (pe_op op_uAdd pe_str (pv 2)) (pa_cons (pe_op op_uAdd (pv 2) pe_str) (pa_cons (pe_op op_uAdd (pv 2) pe_str) pa_nil))))))))
  (psst_cons (PST.of (ps_set (i := 5) sc__law_things.nd rfl (.inl rfl) (pe_op op_uAdd (pv 5) (pe_lstU (pa_cons (pe_op op_uAdd (pe_op op_uAdd (pv 2) pe_str) (pv 2)) (pa_cons (pe_slice sl_u (pv 2) po_none (po_some (pe_un un_neg pe_int))) (pa_cons (pe_slice sl_u (pv 2) po_none (po_some (pe_un un_neg pe_int))) (pa_cons (pe_slice sl_u (pv 2) (po_some pe_int) po_none) pa_nil))))))))
  (psst_cons (pst_set (i := 5) sc__law_things.nd rfl (.inl rfl) (CwR.pet_op op_uAdd (CwR.PET.of (pv 5)) (pet_lstU (pat_cons (CwR.pet_replC (pv 2)) (pat_cons (CwR.PET.of (pe_op op_uAdd (pv 2) pe_str)) (pat_cons (CwR.PET.of (pe_op op_uAdd pe_str (pv 2))) pat_nil))))))
  (PSsT.of (pss_cons (ps_set (i := 5) sc__law_things.nd rfl (.inl rfl) (pe_op op_uAdd (pv 5) (pe_lstU (pa_cons (pe_op op_uAdd (pe_op op_uAdd (pv 4) pe_str) (pv 4)) (pa_cons (pe_op op_uAdd (pe_op op_uAdd (pv 4) pe_str) (pv 4)) pa_nil)))))
  (pss_cons (ps_set (i := 5) sc__law_things.nd rfl (.inl rfl) (pe_op op_uAdd (pv 5) (pe_lstU (pa_cons (pe_op op_uAdd (pe_op op_uAdd (pe_op op_uAdd pe_str (pv 4)) pe_str) (pv 4)) pa_nil))))
  (pss_cons (ps_set (i := 5) sc__law_things.nd rfl (.inl rfl) (pe_op op_uAdd (pv 5) (pe_lstU (pa_cons pe_str (pa_cons pe_str (pa_cons pe_str (pa_cons pe_str (pa_cons pe_str (pa_cons pe_str (pa_cons pe_str (pa_cons pe_str pa_nil)))))))))))
  (pss_cons (ps_set (i := 5) sc__law_things.nd rfl (.inl rfl) (pe_op op_uAdd (pv 5) (pe_lstU (pa_cons pe_str (pa_cons pe_str (pa_cons (pe_op op_uAdd (pe_op op_uMulS pe_str pe_int) pe_str) (pa_cons (pe_op op_uAdd (pe_op op_uMulS pe_str pe_int) pe_str) pa_nil)))))))
  (pss_cons (ps_set (i := 5) sc__law_things.nd rfl (.inl rfl) (pe_op op_uAdd (pv 5) (pe_lstU (pa_cons pe_non (pa_cons pe_bl (pa_cons (pv 1) (pa_cons (pe_lstU (pa_cons (pv 2) pa_nil)) (pa_cons (pe_tupU (pa_cons (pv 2) pa_nil)) (pa_cons (pe_dic1 (pv 2) (pv 1)) pa_nil)))))))))
  (pss_one (ps_ret (pe_op op_uAdd (pv 5) (pe_lstU (pa_cons (pe_lstU pa_nil) (pa_cons pe_dnewU (pa_cons (pe_callTy call_uStr (by rfl) n_str (by decide +kernel) (pa_cons (pv 1) pa_nil)) pa_nil)))))))))))))))))))))

abbrev s_law_ : Stmt := topS 34
abbrev N_law : List Str := ["script", "k", "thing", "kept", "due"]
theorem sc_law : FnScope N_law ["script"] (defScope s_law_) := ⟨rfl, rfl, rfl, by decide +kernel, rfl, by decide +kernel, by decide +kernel⟩
def t_law_r1 (K : PySem.W.Frag) (s__law_things : Sp) (s__law_pen : Sp) (s__law_read : Sp) (s__law_told : Sp) : TS :=
  tIfS (tTest (tOp (uEq K true) (tGo s__law_told E0 (tCons (tC (.str "0:07")) (tNil))) (tLstU (tCons (tC (.str "told")) (tCons (tC (.int 7)) (tNil)))))) (tRet (tC (.bl false))) (tNext)
def t_law_r2 (K : PySem.W.Frag) (s__law_things : Sp) (s__law_pen : Sp) (s__law_read : Sp) (s__law_told : Sp) : TS :=
  tSeq (tIfS (tOr (tTest (tOp (uEq K true) (tCB (uReprX K) (tCons (tGo s__law_told E0 (tCons (tVar 2) (tNil))) (tNil))) (tCB (uReprX K) (tCons (tVar 4) (tNil))))) (tTest (tOp (uEq K true) (tCB (uReprX K) (tCons (tVar 2) (tNil))) (tVar 3)))) (tRet (tC (.bl false))) (tNext)) (t_law_r1 K s__law_things s__law_pen s__law_read s__law_told)
def t_law_b1 (K : PySem.W.Frag) (s__law_things : Sp) (s__law_pen : Sp) (s__law_read : Sp) (s__law_told : Sp) : TS :=
  tSeq (tAsg (tCB (uReprX K) (tCons (tVar 2) (tNil))) (gName 3)) (tSeq (tAsg (tLstU (tCons (tC (.str "refused")) (tCons (tC (.int 0)) (tCons (tLstU (tCons (tC (.bl true)) (tCons (tC (.bl true)) (tCons (tC (.bl true)) (tCons (tC (.bl false)) (tCons (tC (.bl false)) (tNil))))))) (tNil))))) (gName 4)) (tSeq (tIfS (tTest (tOp rNotN (tGo s__law_read E0 (tCons (tVar 2) (tNil))) (tC .non))) (tAsg (tLstU (tCons (tC (.str "told")) (tCons (tGo s__law_read E0 (tCons (tVar 2) (tNil))) (tNil)))) (gName 4)) (tNext)) (t_law_r2 K s__law_things s__law_pen s__law_read s__law_told)))
def t_law_b2 (K : PySem.W.Frag) (s__law_things : Sp) (s__law_pen : Sp) (s__law_read : Sp) (s__law_told : Sp) : TS :=
  tFor (iU K (tGo s__law_things E0 (tCons (tGo s__law_pen E0 (tCons (tVar 0) (tCons (tVar 1) (tNil)))) (tNil)))) (gName 2) (t_law_b1 K s__law_things s__law_pen s__law_read s__law_told)
def t_law_r3 (K : PySem.W.Frag) (s__law_things : Sp) (s__law_pen : Sp) (s__law_read : Sp) (s__law_told : Sp) : TS :=
  tRet (tC (.bl true))
def t_law (K : PySem.W.Frag) (s__law_things : Sp) (s__law_pen : Sp) (s__law_read : Sp) (s__law_told : Sp) : TS :=
  tSeq (tFor (iRng1 (tCons (tCB uMax2 (tCons (tC (.int 1)) (tCons (tCB uMin2 (tCons (tC (.int 30)) (tCons (tCB (uLen K) (tCons (tVar 0) (tNil))) (tNil)))) (tNil)))) (tNil))) (gName 1) (t_law_b2 K s__law_things s__law_pen s__law_read s__law_told)) (t_law_r3 K s__law_things s__law_pen s__law_read s__law_told)
theorem dv_law {P : Program} {w : World} {K : PySem.W.Frag} {mg : Str → Option Value} {b : Heap} {a : Addr} {d : FuncData} {sp : Sp} (F : Fn K mg "law" s_law_ a d ["script"])
    (n_range : mg "range" = none)
    (n_max : mg "max" = none)
    (n_min : mg "min" = none)
    (n_len : mg "len" = none)
    {a__law_things : Addr} {d__law_things : FuncData} {s__law_things : Sp} (F__law_things : Fn K mg "_law_things" s__law_things_ a__law_things d__law_things ["pen"]) (k__law_things : Keeps P w K mg b CX0 4 a__law_things d__law_things ["pen"] s__law_things)
    {a__law_pen : Addr} {d__law_pen : FuncData} {s__law_pen : Sp} (F__law_pen : Fn K mg "_law_pen" s__law_pen_ a__law_pen d__law_pen ["script", "k"]) (k__law_pen : Keeps P w K mg b CX0 2 a__law_pen d__law_pen ["script", "k"] s__law_pen)
    (n_repr : mg "repr" = none)
    {a__law_read : Addr} {d__law_read : FuncData} {s__law_read : Sp} (F__law_read : Fn K mg "_law_read" s__law_read_ a__law_read d__law_read ["thing"]) (k__law_read : Keeps P w K mg b CX0 3 a__law_read d__law_read ["thing"] s__law_read)
    {a__law_told : Addr} {d__law_told : FuncData} {s__law_told : Sp} (F__law_told : Fn K mg "_law_told" s__law_told_ a__law_told d__law_told ["thing"]) (k__law_told : Keeps P w K mg b CX0 6 a__law_told d__law_told ["thing"] s__law_told)
    (len : ∀ vs H Q E, sp vs H Q E → vs.length = 1)
    (rd : ∀ vs H Q E, sp vs H Q E → run (t_law K s__law_things s__law_pen s__law_read s__law_told) (start N_law vs) H Q) : Keeps P w K mg b CX0 7 a d ["script"] sp := by
  refine keeps0 F.fn sc_law len fun cdv A o s H vs Q E hr h => ⟨t_law K s__law_things s__law_pen s__law_read s__law_told, ?_, rd vs H Q E h⟩
  unfold t_law t_law_r3 t_law_b2 t_law_b1 t_law_r2 t_law_r1
  exact (pss_cons (ps_for PassesOwn.never rfl (pi_range1 (by rfl) n_range (pa_cons (pe_callB (call_uMax2 rfl) (by rfl) n_max (by decide +kernel) (pa_cons pe_int (pa_cons (pe_callB (call_uMin2 rfl) (by rfl) n_min (by decide +kernel) (pa_cons pe_int (pa_cons (pe_callB call_uLen (by rfl) n_len (by decide +kernel) (pa_cons (pv 0) pa_nil)) pa_nil))) pa_nil))) pa_nil)) (pg_name (i := 1) sc_law.nd rfl (.inl rfl)) (pss_one (ps_for PassesOwn.never rfl (pi_u (pe_go k__law_things (hr.mono (by decide)) rfl F__law_things.g F__law_things.fn.kp F__law_things.b pass0 (pa_cons (pe_go k__law_pen (hr.mono (by decide)) rfl F__law_pen.g F__law_pen.fn.kp F__law_pen.b pass0 (pa_cons (pv 0) (pa_cons (pv 1) pa_nil))) pa_nil))) (pg_name (i := 2) sc_law.nd rfl (.inl rfl)) (pss_cons (ps_set (i := 3) sc_law.nd rfl (.inl rfl) (pe_callB (call_uReprX (hr.mono (by decide))) (by rfl) n_repr (by decide +kernel) (pa_cons (pv 2) pa_nil)))
  (pss_cons (ps_set (i := 4) sc_law.nd rfl (.inl rfl) (pe_lstU (pa_cons pe_str (pa_cons pe_int (pa_cons (pe_lstU (pa_cons pe_bl (pa_cons pe_bl (pa_cons pe_bl (pa_cons pe_bl (pa_cons pe_bl pa_nil)))))) pa_nil)))))
  (pss_cons (ps_if (pt_cmpR op_notN (pe_go k__law_read (hr.mono (by decide)) rfl F__law_read.g F__law_read.fn.kp F__law_read.b pass0 (pa_cons (pv 2) pa_nil)) pe_non (nomark _)) (pss_one (ps_set (i := 4) sc_law.nd rfl (.inl rfl) (pe_lstU (pa_cons pe_str (pa_cons (pe_go k__law_read (hr.mono (by decide)) rfl F__law_read.g F__law_read.fn.kp F__law_read.b pass0 (pa_cons (pv 2) pa_nil)) pa_nil))))) pss_nil)
  (pss_cons (ps_if (PW.pt (pw_or (pt_cmpR (op_uNe hr.rm.units) (pe_callB (call_uReprX (hr.mono (by decide))) (by rfl) n_repr (by decide +kernel) (pa_cons (pe_go k__law_told (hr.mono (by decide)) rfl F__law_told.g F__law_told.fn.kp F__law_told.b pass0 (pa_cons (pv 2) pa_nil)) pa_nil)) (pe_callB (call_uReprX (hr.mono (by decide))) (by rfl) n_repr (by decide +kernel) (pa_cons (pv 4) pa_nil)) (nomark _)) (pw_or1 (pt_cmpR (op_uNe hr.rm.units) (pe_callB (call_uReprX (hr.mono (by decide))) (by rfl) n_repr (by decide +kernel) (pa_cons (pv 2) pa_nil)) (pv 3) (nomark _))))) (pss_one (ps_ret pe_bl)) pss_nil)
  (pss_one (ps_if (pt_cmpR (op_uNe hr.rm.units) (pe_go k__law_told (hr.mono (by decide)) rfl F__law_told.g F__law_told.fn.kp F__law_told.b pass0 (pa_cons pe_str pa_nil)) (pe_lstU (pa_cons pe_str (pa_cons pe_int pa_nil))) (nomark _)) (pss_one (ps_ret pe_bl)) pss_nil)))))))))
  (pss_one (ps_ret pe_bl)))


local macro_rules | `(tactic| walk_at "hp") => `(tactic| first | assumption | (refine Keep.at (by assumption) ?_ ?_ <;> first | exact nin0 | (refine nin1 ?_; walk_at "ne") | walk_at "hp"))
local macro_rules | `(tactic| walk_at "ne") => `(tactic| first | assumption | (refine Ne.symm ?_; assumption) | exact Tup.neL (by assumption) (by assumption) | exact ne_of_none (by assumption) (by assumption) | exact (ne_of_none (by assumption) (by assumption)).symm)
local macro_rules | `(tactic| walk_at "sx") => `(tactic| try simp only [run, tSeq, tAsg, tIfS, tTest, tOp, tUn, tVar, tC, tRet, tRetN, tDrop, gName, gSub, gCons, gNil, tNext, tCons, tNil, tGo, tCB, tAndT, tOrT, tNotT, tTru, tAnd, tOr, tNot, tChain, tIf, tLstU, tTupU, tSl, tPart, tNoPart, tPar, tBM, tBM0, tDNewU, tDic1,
  List.getElem?_cons_zero, List.getElem?_cons_succ, List.set_cons_zero, List.set_cons_succ, Option.some.injEq, exists_eq_left', exists_eq_left, V.int.injEq, V.bl.injEq, V.str.injEq, V.ref.injEq, true_and, and_true, e_rI, e_rI0, e_rU, e_addI, e_addS, e_mulI, e_abs, e_max2, e_min2, e_str, e_intI, e_intB, e_isN, e_notN, e_truB, e_truI, wipe, tYes, tDicI, tIdx, tM1, tM0, e_lcU, e_lcR1, e_ten6, e_ten18, e_ten60, e_mkV, e_mkA, e_raW, e_xfV, e_for1, e_for2, e_forU, e_forE, e_lcZ, e_dget, e_dput, e_forE, decide_eq_true_eq, if_true, if_false, ite_true, ite_false, Bool.false_eq_true, Bool.not_true, Bool.not_false, Bool.true_eq_false])
local macro_rules | `(tactic| walk_at "sz") => `(tactic| (first | refine len_le ?_ | refine len_lt ?_ | skip); simp only [List.length_cons, List.length_nil, List.length_append, List.length_map, List.length_replicate, List.length_set]; omega)
/-! ### the draws -/
/-- a pen that k draws may be taken of -/
def Pen (H : Hp) (p : Addr) (k : Nat) : Prop := ∃ d c n : Int, H p = some (.lst [.int d, .int c, .int n]) ∧ 0 ≤ d ∧ 0 ≤ c ∧ c < 2147483629 ∧ 0 ≤ n ∧ n + (k : Int) ≤ 1000000
theorem Pen.less {H : Hp} {p : Addr} {j k : Nat} (h : Pen H p k) (l : j ≤ k) : Pen H p j := by
  obtain ⟨d, c, n, e, h1, h2, h3, h4, h5⟩ := h
  exact ⟨d, c, n, e, h1, h2, h3, h4, by omega⟩
theorem Pen.keep {H H' : Hp} {p : Addr} {k : Nat} (h : Pen H p k) (q : Keep [] H H') : Pen H' p k := by
  obtain ⟨d, c, n, e, r⟩ := h
  exact ⟨d, c, n, q _ _ nin0 e, r⟩
theorem Pen.at {H : Hp} {p : Addr} {k : Nat} (h : Pen H p k) : ∃ xs, H p = some (.lst xs) := by
  obtain ⟨d, c, n, e, r⟩ := h
  exact ⟨_, e⟩
def spDraw : Sp := fun vs H Q _ => ∃ (p : Addr) (b : Int) (k : Nat), vs = [.ref p, .int b] ∧ 0 < b ∧ b < 1073741824 ∧ Pen H p (k + 1) ∧ ∀ r H', 0 ≤ r → r < b → Keep [p] H H' → Pen H' p k → Q (.int r) H'
theorem cmul_small {i j : Int} (h : -(2 ^ 64) < i ∧ i < 2 ^ 64) : CMul i j := .inl h
theorem cmul_right {i j : Int} (h : -(2 ^ 64) < j ∧ j < 2 ^ 64) : CMul i j := .inr h
theorem rd_draw (K : PySem.W.Frag) : ∀ vs H Q E, spDraw vs H Q E → run (t__law_draw K) (L2.start N__law_draw vs) H Q := by
  rintro _ H Q _ ⟨p, b, k, rfl, b0, b1, ⟨d, c, n, hp, d0, c0, c1, n0, nk⟩, q⟩
  show run (t__law_draw K) [some (.ref p), some (.int b), none, none, none] H Q
  unfold t__law_draw
  walk_at "sx"
  refine g_ixL hp (at_lit 0 rfl rfl) ?_
  walk_at "sx"
  by_cases h : 0 < d
  · rw [if_pos h]
    refine g_ixL hp (at_lit 0 rfl rfl) ?_
    walk_at "sx"
    refine ⟨b0, g_ixL hp (at_lit 0 rfl rfl) ?_⟩
    walk_at "sx"
    refine ⟨⟨b0, b1⟩, g_setL hp (k := 0) rfl fun H' k1 hp1 => ?_⟩
    refine q _ _ (Int.emod_nonneg _ (by omega)) (Int.emod_lt_of_pos _ b0) k1 ⟨_, c, n, hp1, Int.ediv_nonneg d0 (by omega), c0, c1, n0, by omega⟩
  · rw [if_neg h]
    unfold t__law_draw_r1
    walk_at "sx"
    refine g_ixL hp (at_lit 2 rfl rfl) ?_
    walk_at "sx"
    refine g_setL hp (k := 2) rfl fun H1 k1 hp1 => ?_
    have hp1' : H1 p = some (.lst [.int d, .int c, .int (n + 1)]) := hp1
    refine g_ixL hp1' (at_lit 2 rfl rfl) (g_ixL hp1' (at_lit 1 rfl rfl) ?_)
    walk_at "sx"
    refine ⟨cmul_right (by decide), cmul_small (by decide), cmul_right (by omega), cmul_small (by decide), by decide, by decide, cmul_right ?_, by decide, cmul_right (by decide), by decide, ⟨by decide, by decide⟩, b0, ?_⟩
    · generalize (c * 40503 + 7919 * (n + 1) * (n + 1) + 104729 * (n + 1)) % 2147483647 = x
      have h1 := Int.emod_nonneg x (show (65003 : Int) ≠ 0 by decide)
      have h2 := Int.emod_lt_of_pos x (show (0 : Int) < 65003 by decide)
      omega
    · refine q _ _ (Int.emod_nonneg _ (by omega)) (Int.emod_lt_of_pos _ b0) k1 ⟨d, c, n + 1, hp1', d0, c0, c1, by omega, by omega⟩
def spPen (K : PySem.W.Frag) : Sp := fun vs H Q _ => ∃ (a : Addr) (k : Int) (ns : List Int), vs = [.ref a, .int k] ∧ SqL K H a (ns.map V.int) ∧ 0 ≤ k ∧ ∀ p H', H p = none → Keep [] H H' → Pen H' p 1000000 → Q (.ref p) H'
theorem rd_pen (K : PySem.W.Frag) : ∀ vs H Q E, spPen K vs H Q E → run (t__law_pen K) (L2.start N__law_pen vs) H Q := by
  rintro _ H Q _ ⟨a, k, ns, rfl, hS, k0, q⟩
  show run (t__law_pen K) [some (.ref a), some (.int k), none, none] H Q
  have fin2 : ∀ cell dg : Int, 0 ≤ dg → t__law_pen_r1 K { nx := fun _ H' => Q .non H', rt := Q } [some (.ref a), some (.int k), some (.int cell), some (.int dg)] H := fun cell dg hd => by
    unfold t__law_pen_r1
    walk_at "sx"
    refine ⟨by decide, by walk_at "sz", fun p H' n kp hp => q p H' n kp ⟨_, _, 0, hp, hd, Int.emod_nonneg _ (by decide), Int.emod_lt_of_pos _ (by decide), by omega, by omega⟩⟩
  have fin : ∀ cell : Int, t__law_pen_r2 K { nx := fun _ H' => Q .non H', rt := Q } [some (.ref a), some (.int k), some (.int cell), none] H := fun cell => by
    unfold t__law_pen_r2
    walk_at "sx"
    refine ⟨⟨by decide, by decide, by decide⟩, ?_⟩
    by_cases h : 1000000000000000000 ≤ if cell < 0 then -cell else cell
    · rw [if_pos h]
      refine fin2 cell _ ?_
      split <;> omega
    · rw [if_neg h]
      exact fin2 cell 0 (by decide)
  unfold t__law_pen
  walk_at "sx"
  refine g_lenQ hS ?_
  walk_at "sx"
  rw [List.length_map]
  by_cases h : k < (ns.length : Int)
  · rw [if_pos h]
    have e : ((ns.map V.int))[k.toNat]? = some (.int ns[k.toNat]) := by
      rw [List.getElem?_map, List.getElem?_eq_getElem (show k.toNat < ns.length by omega)]
      rfl
    exact g_ixQ hS (at_lit k.toNat (by omega) e) (fin _)
  · rw [if_neg h]
    exact fin 0
/-- a thing of a kind that isinstance knows -/
inductive Kd (K : PySem.W.Frag) (H : Hp) : V → Prop
  | non : Kd K H .non
  | bl (b : Bool) : Kd K H (.bl b)
  | int (i : Int) : Kd K H (.int i)
  | str (x : Str) : Kd K H (.str x)
  | lst {a : Addr} {xs : List V} : H a = some (.lst xs) → Kd K H (.ref a)
  | tup {a : Addr} {xs : List V} : Tup H a xs → Kd K H (.ref a)
  | dic {a : Addr} {xs : List (Key × V)} : H a = some (.dK xs) → Kd K H (.ref a)
theorem Kd.keep {K : PySem.W.Frag} {H H' : Hp} {v : V} (h : Kd K H v) (k : Keep [] H H') : Kd K H' v := by
  cases h with
  | non => exact .non
  | bl b => exact .bl b
  | int i => exact .int i
  | str x => exact .str x
  | lst e => exact .lst (k _ _ nin0 e)
  | tup e => exact .tup (e.keep k nin0)
  | dic e => exact .dic (k _ _ nin0 e)
/-! ### what is within -/
def wh : V → Option Int
  | .int i => some i
  | _ => none
def inR (v : V) (lo hi : Int) : Bool := match v with
  | .int i => decide (lo ≤ i) && decide (i ≤ hi)
  | _ => false
def isIntB : V → Bool
  | .int _ => true
  | .bl _ => true
  | _ => false
def isBoolB : V → Bool
  | .bl _ => true
  | _ => false
theorem g_isInt {K : PySem.W.Frag} {H : Hp} {v : V} {Q : VK} (h : Kd K H v) (q : Q (.bl (isIntB v)) H) : rIsi K [v, .ty "int"] H Q := by
  cases h with
  | int i => exact g_isi (.base (.int i)) kit_int_int q
  | bl b => exact g_isi (.base (.bl b)) kit_bool_int q
  | non => exact g_isi (.base .non) kit_none_int q
  | str x => exact g_isi (.base (.str x)) kit_str_int q
  | lst e => exact g_isi (.base (.lst e)) kit_list_int q
  | tup e => exact g_isi (ty_tup e) kit_tuple_int q
  | dic e => exact g_isi (.base (.dK e)) kit_dict_int q
theorem g_isBool {K : PySem.W.Frag} {H : Hp} {v : V} {Q : VK} (h : Kd K H v) (q : Q (.bl (isBoolB v)) H) : rIsi K [v, .ty "bool"] H Q := by
  cases h with
  | int i => exact g_isi (.base (.int i)) kit_int_bool q
  | bl b => exact g_isi (.base (.bl b)) kit_bool_bool q
  | non => exact g_isi (.base .non) kit_none_bool q
  | str x => exact g_isi (.base (.str x)) kit_str_bool q
  | lst e => exact g_isi (.base (.lst e)) kit_list_bool q
  | tup e => exact g_isi (ty_tup e) kit_tuple_bool q
  | dic e => exact g_isi (.base (.dK e)) kit_dict_bool q
def spWhole (K : PySem.W.Frag) : Sp := fun vs H Q _ => ∃ v, vs = [v] ∧ Kd K H v ∧ Q (.bl (wh v).isSome) H
theorem rd_whole (K : PySem.W.Frag) : ∀ vs H Q E, spWhole K vs H Q E → run (t_is_whole K) (L2.start N_is_whole vs) H Q := by
  rintro _ H Q _ ⟨v, rfl, hv, q⟩
  show run (t_is_whole K) [some v] H Q
  unfold t_is_whole
  walk_at "sx"
  refine g_isInt hv ⟨_, rfl, ?_⟩
  have hb := g_isBool (Q := fun x H1 => ∃ k, TruV K x H1 k ∧ Q (V.bl !k) H1) hv
  cases v with
  | int i => exact hb ⟨_, rfl, q⟩
  | bl i => exact hb ⟨_, rfl, q⟩
  | _ => exact q
def spWithin (K : PySem.W.Frag) : Sp := fun vs H Q _ => ∃ v lo hi, vs = [v, .int lo, .int hi] ∧ Kd K H v ∧ Q (.bl (inR v lo hi)) H
theorem rd_within (K : PySem.W.Frag) : ∀ vs H Q E, spWithin K vs H Q E → run (t_is_within K (spWhole K)) (L2.start N_is_within vs) H Q := by
  rintro _ H Q _ ⟨v, lo, hi, rfl, hv, q⟩
  show run (t_is_within K (spWhole K)) [some v, some (.int lo), some (.int hi)] H Q
  unfold t_is_within
  walk_at "sx"
  refine ⟨v, rfl, hv, ?_⟩
  walk_at "sx"
  cases v with
  | int i =>
    simp only [wh, Option.isSome_some, if_true]
    walk_at "sx"
    by_cases h : lo ≤ i <;> simpa [h, inR, e_rI0] using q
  | _ => exact q
def spRange (lo hi : Int) (K : PySem.W.Frag) : Sp := fun vs H Q _ => ∃ v, vs = [v] ∧ Kd K H v ∧ Q (.bl (inR v lo hi)) H
theorem rd_moment (K : PySem.W.Frag) : ∀ vs H Q E, spRange 0 1000000 K vs H Q E → run (t_is_moment K (spWithin K)) (L2.start N_is_moment vs) H Q := by
  rintro _ H Q _ ⟨v, rfl, hv, q⟩
  show run (t_is_moment K (spWithin K)) [some v] H Q
  unfold t_is_moment
  walk_at "sx"
  exact ⟨v, 0, 1000000, rfl, hv, q⟩
/-! ### texts, names -/
abbrev sg (z : Str) : List Nat := z.cps.toList
abbrev s1 (c : Nat) : Str := ⟨#[c]⟩
abbrev LET : Str := "abcdefghijklmnopqrstuvwxyz"
abbrev NSG : Str := "abcdefghijklmnopqrstuvwxyz0123456789"
theorem kit_int_str : kitB "int" "str" = some false := by decide +kernel
theorem kit_bool_str : kitB "bool" "str" = some false := by decide +kernel
theorem kit_str_str' : kitB "str" "str" = some true := by decide +kernel
theorem kit_none_str : kitB "NoneType" "str" = some false := by decide +kernel
theorem kit_list_str : kitB "list" "str" = some false := by decide +kernel
theorem kit_tuple_str : kitB "tuple" "str" = some false := by decide +kernel
theorem kit_dict_str : kitB "dict" "str" = some false := by decide +kernel
def isStrB : V → Bool
  | .str _ => true
  | _ => false
theorem g_isStr {K : PySem.W.Frag} {H : Hp} {v : V} {Q : VK} (h : Kd K H v) (q : Q (.bl (isStrB v)) H) : rIsi K [v, .ty "str"] H Q := by
  cases h with
  | int i => exact g_isi (.base (.int i)) kit_int_str q
  | bl b => exact g_isi (.base (.bl b)) kit_bool_str q
  | non => exact g_isi (.base .non) kit_none_str q
  | str x => exact g_isi (.base (.str x)) kit_str_str' q
  | lst e => exact g_isi (.base (.lst e)) kit_list_str q
  | tup e => exact g_isi (ty_tup e) kit_tuple_str q
  | dic e => exact g_isi (.base (.dK e)) kit_dict_str q
theorem g_inC {K : PySem.W.Frag} {H : Hp} {Q : VK} {c : Nat} {z : Str} (q : Q (.bl (decide (c ∈ sg z))) H) : uIn K false (.str (s1 c)) (.str z) H Q :=
  .inr ⟨s1 c, z, rfl, rfl, by rw [if_neg Bool.false_ne_true, PySem.StrLaws.found_one z c]; exact q⟩
theorem g_ninC {K : PySem.W.Frag} {H : Hp} {Q : VK} {c : Nat} {z : Str} (q : Q (.bl (!decide (c ∈ sg z))) H) : uIn K true (.str (s1 c)) (.str z) H Q :=
  .inr ⟨s1 c, z, rfl, rfl, by rw [if_pos rfl, PySem.StrLaws.found_one z c]; exact q⟩
theorem sg_len (z : Str) : (sg z).length = z.length := by simp [Str.length]
theorem g_first {K : PySem.W.Frag} {H : Hp} {Q : VK} {z : Str} (h1 : 1 ≤ z.length) (h8 : z.length ≤ 8) (q : Q (.str (s1 ((sg z).getD 0 0))) H) : uIx K (.str z) (.int 0) H Q := by
  have hl := sg_len z
  refine g_ixS (len_le (by omega)) (at_lit 0 rfl ?_) q
  show (sg z)[0]? = _
  rw [List.getD_eq_getElem?_getD, List.getElem?_eq_getElem (show 0 < (sg z).length by omega)]
  rfl
/-! ### moments as texts -/
abbrev nt (h : Nat) : Str := Str.ofString (toString ((h : Nat) : Int))
abbrev FIG : Str := "0123456789"
theorem sg_nt (h : Nat) : sg (nt h) = TL.numL h := TL.tl_num h
theorem fig_of {c : Nat} (h0 : 48 ≤ c) (h1 : c ≤ 57) : c ∈ sg FIG := by
  have : c = 48 ∨ c = 49 ∨ c = 50 ∨ c = 51 ∨ c = 52 ∨ c = 53 ∨ c = 54 ∨ c = 55 ∨ c = 56 ∨ c = 57 := by omega
  rcases this with rfl | rfl | rfl | rfl | rfl | rfl | rfl | rfl | rfl | rfl <;> decide +kernel
theorem num_head : ∀ h : Nat, 1 ≤ h → ∃ c r, TL.numL h = c :: r ∧ 49 ≤ c := by
  intro h
  induction h using Nat.strongRecOn with
  | ind h ih =>
    intro h1
    by_cases h2 : h < 10
    · exact ⟨48 + h, [], TL.numL_lt h2, by omega⟩
    · obtain ⟨c, r, e, hc⟩ := ih (h / 10) (by omega) (by omega)
      exact ⟨c, r ++ [48 + h % 10], by rw [TL.numL_step (by omega), e]; rfl, hc⟩
theorem nt_len {h k : Nat} (hk : 0 < k) (hh : h < 10 ^ k) : (nt h).length ≤ k := by
  rw [← sg_len, sg_nt]
  exact TL.numL_len hk hh
theorem nt_pos (h : Nat) : 1 ≤ (nt h).length := by
  rw [← sg_len, sg_nt]
  exact List.length_pos_iff.mpr (TL.numL_ne h)
theorem two_sg (m : Nat) : sg (two m) = [48 + m / 10, 48 + m % 10] := rfl
abbrev mt (m : Nat) : Str := (nt (m / 60) ++ ":") ++ two (m % 60)
theorem mt_parts (m : Nat) : Txt.partition (mt m) ":" = (nt (m / 60), (":" : Str), two (m % 60)) := by
  have e1 : mt m = SX.S (TL.numL (m / 60) ++ (58 :: [] ++ [48 + m % 60 / 10, 48 + m % 60 % 10])) := by
    refine PySem.Str.ext' ?_
    rw [PySem.Str.cps_append, PySem.Str.cps_append]
    refine Array.ext' ?_
    simp only [Array.toList_append]
    rw [show (nt (m / 60)).cps.toList = TL.numL (m / 60) from sg_nt _]
    simp [SX.S, two]
    rfl
  have e2 : (":" : Str) = SX.S (58 :: []) := rfl
  have free : 58 ∉ TL.numL (m / 60) := TL.numL_free (.inr (by decide))
  rw [e1, e2, SX.partition_some (List.cons_ne_nil _ _) (SX.par_head (sep := []) [48 + m % 60 / 10, 48 + m % 60 % 10] free)]
  have e3 : SX.S (TL.numL (m / 60)) = nt (m / 60) := PySem.Str.ext' (Array.ext' (by rw [show (nt (m / 60)).cps.toList = TL.numL (m / 60) from sg_nt _]))
  rw [e3]
  rfl
theorem mt_len {m : Nat} (hm : m ≤ 1000000) : (mt m).length ≤ 8 := by
  rw [strLen_append, strLen_append]
  have h1 : (nt (m / 60)).length ≤ 5 := nt_len (by decide) (by omega)
  have h2 : (two (m % 60)).length = 2 := rfl
  have h3 : ((":" : String) : Str).length = 1 := rfl
  omega

/-! ### the law of moments -/
theorem log_small {i : Int} (h0 : 0 ≤ i) (h1 : i ≤ 1000000) : i.natAbs.log2 < 1920 := by
  have : i.natAbs < 2 ^ 20 := by omega
  by_cases h : i.natAbs = 0
  · rw [h]; decide
  · exact Nat.lt_trans ((Nat.log2_lt h).mpr this) (by decide)
def spLTxt : Sp := fun vs H Q _ => ∃ m : Nat, vs = [.int (m : Nat)] ∧ m ≤ 1000000 ∧ Q (.str (mt m)) H
theorem dig_at {d : Nat} (h : d < 10) : (sg FIG)[d]? = some (48 + d) := by
  have : d = 0 ∨ d = 1 ∨ d = 2 ∨ d = 3 ∨ d = 4 ∨ d = 5 ∨ d = 6 ∨ d = 7 ∨ d = 8 ∨ d = 9 := by omega
  rcases this with rfl | rfl | rfl | rfl | rfl | rfl | rfl | rfl | rfl | rfl <;> decide +kernel
theorem two_cat (m : Nat) (hm : m < 60) (x : Str) : (x ++ s1 (48 + m / 10)) ++ s1 (48 + m % 10) = x ++ two m := by
  refine PySem.Str.ext' ?_
  rw [PySem.Str.cps_append, PySem.Str.cps_append, PySem.Str.cps_append]
  refine Array.ext' ?_
  simp [two, s1]
theorem rd_ltxt (K : PySem.W.Frag) : ∀ vs H Q E, spLTxt vs H Q E → run (t__law_moment_text K) (L2.start N__law_moment_text vs) H Q := by
  rintro _ H Q _ ⟨m, rfl, hm, q⟩
  show run (t__law_moment_text K) [some (.int (m : Nat)), none, none] H Q
  unfold t__law_moment_text
  walk_at "sx"
  have hfig : FIG.length ≤ sizeLine := by rw [show FIG.length = 10 by decide +kernel]; exact len_le (by decide)
  have hh : (nt (m / 60)).length ≤ 5 := nt_len (by decide) (by omega)
  have i1 : (m : Int) / 60 = ((m / 60 : Nat) : Int) := by omega
  have i2 : (m : Int) % 60 / 10 = ((m % 60 / 10 : Nat) : Int) := by omega
  have i3 : (m : Int) % 60 % 10 = ((m % 60 % 10 : Nat) : Int) := by omega
  rw [i1, i2, i3]
  refine ⟨by decide, ⟨by decide, by decide⟩, ?_, ?_, ⟨by decide, by decide⟩, g_ixS hfig (at_lit (m % 60 / 10) rfl (dig_at (by omega))) ?_⟩
  · exact log_small (by omega) (by omega)
  · have e : ((":" : String) : Str).length = 1 := rfl
    show (nt (m / 60)).length + _ ≤ _
    rw [e]
    exact len_le (by omega)
  refine e_addS.mpr ⟨?_, by decide, g_ixS hfig (at_lit (m % 60 % 10) rfl (dig_at (by omega))) (e_addS.mpr ⟨?_, ?_⟩)⟩
  · rw [strLen_append]
    show (nt (m / 60)).length + 1 + 1 ≤ _
    exact len_le (by omega)
  · rw [strLen_append, strLen_append]
    show (nt (m / 60)).length + 1 + 1 + 1 ≤ _
    exact len_le (by omega)
  · have := two_cat (m % 60) (Nat.mod_lt _ (by decide)) (nt (m / 60) ++ ":")
    show Q (.str (((nt (m / 60) ++ ":") ++ s1 (48 + m % 60 / 10)) ++ s1 (48 + m % 60 % 10))) H
    rw [this]
    exact q
def spMom : Sp := fun vs H Q _ => ∃ (p : Addr) (k : Nat), vs = [.ref p] ∧ Pen H p (k + 5) ∧ ∀ (m : Nat) H', m ≤ 1000000 → Keep [p] H H' → Pen H' p k → Q (.int (m : Nat)) H'
theorem clamp {i : Int} : ∃ m : Nat, m ≤ 1000000 ∧ (if (if i < 1000000 then i else 1000000) > 0 then (if i < 1000000 then i else 1000000) else 0) = ((m : Nat) : Int) := by
  by_cases h : i < 1000000
  · by_cases h0 : i > 0
    · exact ⟨i.toNat, by omega, by rw [if_pos h, if_pos h0]; omega⟩
    · exact ⟨0, by omega, by rw [if_pos h, if_neg h0]; rfl⟩
  · exact ⟨1000000, by omega, by rw [if_neg h]; rfl⟩
theorem rd_mom (K : PySem.W.Frag) : ∀ vs H Q E, spMom vs H Q E → run (t__law_moment K spDraw) (L2.start N__law_moment vs) H Q := by
  rintro _ H Q _ ⟨p, k, rfl, hp, q⟩
  show run (t__law_moment K spDraw) [some (.ref p), none, none, none, none] H Q
  unfold t__law_moment
  walk_at "sx"
  refine ⟨⟨by decide, by decide, by decide⟩, p, _, k + 4, rfl, by decide, by decide, hp, fun x H1 x0 x1 k1 hp1 => ?_⟩
  walk_at "sx"
  refine ⟨⟨by decide, by decide⟩, cmul_right (by decide), p, _, k + 3, rfl, by decide, by decide, hp1, fun s H2 s0 s1 k2 hp2 => ?_⟩
  walk_at "sx"
  refine ⟨by simp only [List.length_cons, List.length_nil]; exact len_le (by decide), fun l H3 n3 k3 e3 => ?_⟩
  have hp3 := hp2.keep k3
  refine ⟨p, _, k + 2, rfl, by decide, by decide, hp3, fun a H4 a0 a1 k4 hp4 => ?_⟩
  refine ⟨⟨by decide, by decide, by decide⟩, p, _, k + 1, rfl, by decide, by decide, hp4, fun c H5 c0 c1 k5 hp5 => ?_⟩
  walk_at "sx"
  refine ⟨by simp only [List.length_cons, List.length_nil]; exact len_le (by decide), fun l2 H6 n6 k6 e6 => ?_⟩
  have hp6 := hp5.keep k6
  have hpl : p ≠ l := fun e => by
    obtain ⟨xs, hx⟩ := hp2.at
    rw [e, n3] at hx
    exact nomatch hx
  have e36 := (((k4.trans k5).trans k6.all) _ _ (nin1 hpl.symm) e3)
  refine g_addL e36 e6 (by simp only [List.length_cons, List.length_nil]; exact len_le (by decide)) fun l7 H7 n7 k7 e7 => ?_
  have hp7 := hp6.keep k7
  refine ⟨⟨by decide, by decide, by decide⟩, p, _, k, rfl, by decide, by decide, hp7, fun r H8 r0 r1 k8 hp8 => ?_⟩
  have hl7 : p ≠ l7 := fun e => by
    obtain ⟨xs, hx⟩ := hp6.at
    rw [e, n7] at hx
    exact nomatch hx
  have e8 := k8 _ _ (nin1 hl7.symm) e7
  have fin : ∀ i : Int, uMin2 [V.int 1000000, V.int i] H8 fun x H1 => uMax2 [V.int 0, x] H1 Q := fun i => by
    obtain ⟨m, hm, e⟩ := @clamp i
    walk_at "sx"
    rw [e]
    exact q m H8 hm ((((((k1.trans k2).trans k3.all).trans k4).trans k5).trans k6.all).trans (k7.all.trans k8)) hp8
  have : r = 0 ∨ r = 1 ∨ r = 2 ∨ r = 3 ∨ r = 4 := by omega
  rcases this with rfl | rfl | rfl | rfl | rfl <;> exact g_ixL e8 (at_lit _ rfl rfl) (fin _)/-! ### numbers told by any text -/
theorem fig_num {c : Nat} (h : c ∈ sg FIG) : 48 ≤ c ∧ c ≤ 57 := by
  have : ∀ c ∈ sg FIG, 48 ≤ c ∧ c ≤ 57 := by decide +kernel
  exact this c h
theorem num_val (m : Nat) : NumText.digitsVal (TL.numL m) = m := PySem.W.KIN.val_back m
theorem nt_inj {a b : Nat} (h : nt a = nt b) : a = b := by
  have := congrArg (fun x : Str => NumText.digitsVal x.cps.toList) h
  have e : NumText.digitsVal (sg (nt a)) = NumText.digitsVal (sg (nt b)) := this
  rw [sg_nt, sg_nt, num_val, num_val] at e
  exact e
theorem back_num : ∀ {cs : List Nat}, (∀ c ∈ cs, 48 ≤ c ∧ c ≤ 57) → (cs.map Char.ofNat).map Char.toNat = cs
  | [], _ => rfl
  | c :: cs, h => by
    have h1 := h c (by simp)
    have e : (Char.ofNat c).toNat = c := by
      have : c = 48 ∨ c = 49 ∨ c = 50 ∨ c = 51 ∨ c = 52 ∨ c = 53 ∨ c = 54 ∨ c = 55 ∨ c = 56 ∨ c = 57 := by omega
      rcases this with rfl | rfl | rfl | rfl | rfl | rfl | rfl | rfl | rfl | rfl <;> decide
    show (Char.ofNat c).toNat :: _ = _
    rw [e, back_num fun d hd => h d (by simp [hd])]
theorem digs_num {x : Str} (hd : ∀ c ∈ sg x, 48 ≤ c ∧ c ≤ 57) (h1 : 1 ≤ x.length) (hz : x.length = 1 ∨ ∃ c r, sg x = c :: r ∧ 49 ≤ c) : x = nt (NumText.digitsVal (sg x)) := by
  refine PySem.Str.ext' (Array.ext' ?_)
  show sg x = sg (nt _)
  rw [sg_nt]
  have l : (sg x).length = (x.length - 1) + 1 := by rw [sg_len]; omega
  have := PySem.NumText.toDigits_digitsVal (x.length - 1) (sg x) l hd (hz.elim (fun h => .inl (by omega)) .inr)
  unfold TL.numL
  rw [this, back_num hd]
theorem int_digs {x : Str} (hd : ∀ c ∈ sg x, 48 ≤ c ∧ c ≤ 57) (h1 : 1 ≤ x.length) (hl : x.length ≤ 640) : PySem.intText? x = some ((NumText.digitsVal (sg x) : Nat) : Int) :=
  PySem.intText_digits hd (fun e => by
    have e' : sg x = [] := e
    have := sg_len x
    rw [e'] at this
    simp at this
    omega) (by omega)
def optV : Option Nat → V
  | none => .non
  | some h => .int (h : Nat)
def NumR (x : Str) (M : Nat) : Option Nat → Prop
  | some h => h ≤ M ∧ x = nt h
  | none => ∀ h, h ≤ M → x ≠ nt h
def spNumA (K : PySem.W.Frag) (L : List Addr) (P : Addr) : Sp := fun vs H Q _ => ∃ x : Str, vs = [.str x, .int 16666] ∧ x.length ≤ 100000 ∧ Tabs L H ∧ P ∈ L ∧ ∀ r H', KT L H H' → NumR x 16666 r → Q (optV r) H'
theorem rd_numA (K : PySem.W.Frag) {L : List Addr} {P : Addr} : ∀ vs H Q E, spNumA K L P vs H Q E → run (t_number_by K P) (L2.start N_number_by vs) H Q := by
  rintro _ H Q _ ⟨x, rfl, hx, ht, hP, q⟩
  show run (t_number_by K P) [some (.str x), some (.int 16666), none, none] H Q
  have n5 : ∀ h : Nat, h ≤ 16666 → (nt h).length ≤ 5 := fun h hh => nt_len (by decide) (by omega)
  unfold t_number_by
  walk_at "sx"
  refine g_lenS (len_le (by omega)) ?_
  refine e_rI0.mpr ⟨_, rfl, ?_⟩
  by_cases h1 : 1 ≤ x.length
  case neg =>
    rw [if_neg (by rw [decide_eq_false (by omega)]; decide)]
    refine q none H (KT.refl _ _) fun h _ e => ?_
    have := nt_pos h
    rw [← e] at this
    omega
  rw [if_pos (decide_eq_true (show (1 : Int) ≤ (x.length : Nat) by omega))]
  refine ⟨by decide +kernel, g_lenS (by decide +kernel) ?_⟩
  have e5 : (Str.ofString (toString (16666 : Int))).length = 5 := by decide +kernel
  rw [e5]
  refine e_rI0.mpr ⟨_, rfl, ?_⟩
  by_cases h2 : x.length ≤ 5
  case neg =>
    rw [if_pos (by rw [decide_eq_false (by omega)]; rfl)]
    refine q none H (KT.refl _ _) fun h hh e => ?_
    have := n5 h hh
    rw [← e] at this
    omega
  rw [if_neg (by rw [decide_eq_true (by omega)]; decide)]
  unfold t_number_by_r3
  walk_at "sx"
  refine e_genU.mpr ?_
  walk_at "sx"
  refine g_GS (fun c => decide (c ∈ sg FIG)) ht hP (fun c H1 R R0 hc k1 t1 hR => ?_) fun H1 k1 => ?_
  · walk_at "sx"
    exact g_inC (hR H1 (KT.refl _ _))
  by_cases hd : ∀ c ∈ sg x, c ∈ sg FIG
  case neg =>
    have all : aaB false (fun c => decide (c ∈ sg FIG)) (sg x) = false := by
      show (sg x).all _ = false
      refine Bool.eq_false_iff.mpr fun z => hd fun c hc => ?_
      exact of_decide_eq_true (List.all_eq_true.mp z c hc)
    rw [all]
    refine ⟨false, rfl, ?_⟩
    rw [if_pos (by decide)]
    refine q none H1 k1 fun h hh e => hd fun c hc => ?_
    rw [e, sg_nt] at hc
    have := TL.numL_digits h c hc
    exact fig_of this.1 this.2
  have all : aaB false (fun c => decide (c ∈ sg FIG)) (sg x) = true := by
    show (sg x).all _ = true
    rw [List.all_eq_true]
    exact fun c hc => decide_eq_true (hd c hc)
  rw [all]
  refine ⟨true, rfl, ?_⟩
  rw [if_neg (by decide)]
  unfold t_number_by_r2
  walk_at "sx"
  refine g_first h1 (by omega) (g_eq rfl ⟨_, rfl, ?_⟩)
  have hdg : ∀ c ∈ sg x, 48 ≤ c ∧ c ≤ 57 := fun c hc => fig_num (hd c hc)
  have fin : (x.length = 1 ∨ ∃ c r, sg x = c :: r ∧ 49 ≤ c) → t_number_by_r1 K P { nx := fun x H' => Q V.non H', rt := Q } [some (.str x), some (.int 16666), none, none] H1 := by
    intro hz
    have ex := digs_num hdg h1 hz
    unfold t_number_by_r1
    walk_at "sx"
    refine ⟨x, _, rfl, int_digs hdg h1 (by omega), by omega, ?_⟩
    walk_at "sx"
    generalize NumText.digitsVal (sg x) = n at ex
    by_cases hn : n ≤ 16666
    · rw [if_pos (show ((n : Nat) : Int) ≤ 16666 by omega)]
      exact q (some n) H1 k1 ⟨hn, ex⟩
    · rw [if_neg (show ¬ ((n : Nat) : Int) ≤ 16666 by omega)]
      refine q none H1 k1 fun h hh e => hn ?_
      rw [← nt_inj (e.symm.trans ex)]
      exact hh
  obtain ⟨c, r, ec⟩ : ∃ c r, sg x = c :: r := by
    cases e : sg x with
    | nil => have := sg_len x; rw [e] at this; simp at this; omega
    | cons c r => exact ⟨c, r, rfl⟩
  have hc48 := hdg c (by rw [ec]; simp)
  rw [ec]
  by_cases hc : c = 48
  · subst hc
    rw [decide_eq_true (show V.str (s1 ((48 :: r).getD 0 0)) = V.str "0" from rfl), if_pos rfl]
    refine g_lenS (len_le (by omega)) (e_rI0.mpr ⟨_, rfl, ?_⟩)
    by_cases l1 : x.length = 1
    · rw [if_neg (by rw [decide_eq_false (by omega)]; decide)]
      exact fin (.inl l1)
    · rw [if_pos (by rw [decide_eq_true (by omega)])]
      refine q none H1 k1 fun h hh e => ?_
      have e' : sg x = TL.numL h := by rw [e, sg_nt]
      by_cases h0 : h = 0
      · subst h0
        rw [show TL.numL 0 = [48] by decide +kernel] at e'
        have := sg_len x
        rw [e'] at this
        simp at this
        omega
      · obtain ⟨c', r', e2, hc'⟩ := num_head h (by omega)
        rw [ec, e2] at e'
        injection e' with e3 _
        omega
  · have ne : ¬ V.str (s1 ((c :: r).getD 0 0)) = V.str "0" := fun z => by
      injection z with z
      have z' : [c] = [48] := congrArg (fun x : Str => x.cps.toList) z
      injection z' with z2
      exact hc z2
    rw [decide_eq_false ne, if_neg (by decide)]
    exact fin (.inr ⟨c, r, ec, by omega⟩)


/-! ### minutes, moments told by any text -/
def MinR (x : Str) : Option Nat → Prop
  | some m => m < 60 ∧ x = two m
  | none => ∀ m, m < 60 → x ≠ two m
theorem two_inj {a b : Nat} (h : two a = two b) : a = b := by
  have e : [48 + a / 10, 48 + a % 10] = [48 + b / 10, 48 + b % 10] := congrArg (fun x : Str => x.cps.toList) h
  injection e with e1 e2
  injection e2 with e2 _
  omega
theorem two_list {x : Str} (h : x.length = 2) : ∃ a b, sg x = [a, b] := by
  have l := sg_len x
  rw [h] at l
  match e : sg x, l with
  | [a, b], _ => exact ⟨a, b, rfl⟩
def spMinA : Sp := fun vs H Q _ => ∃ x : Str, vs = [.str x] ∧ x.length ≤ 100000 ∧ ∀ r, MinR x r → Q (optV r) H
theorem rd_minA (K : PySem.W.Frag) : ∀ vs H Q E, spMinA vs H Q E → run (t__minutes_by K) (L2.start N__minutes_by vs) H Q := by
  rintro _ H Q _ ⟨x, rfl, hx, q⟩
  show run (t__minutes_by K) [some (.str x)] H Q
  unfold t__minutes_by
  walk_at "sx"
  refine g_lenS (len_le (by omega)) (g_ne rfl ⟨_, rfl, ?_⟩)
  by_cases h2 : x.length = 2
  case neg =>
    rw [if_pos (by rw [decide_eq_false (fun z => h2 (by injection z with z; omega))]; rfl)]
    refine q none fun m _ e => h2 ?_
    rw [e]; rfl
  rw [if_neg (by rw [h2]; decide)]
  obtain ⟨a, b, e⟩ := two_list h2
  have hfig : FIG.length = 10 := by decide +kernel
  refine g_ixS (len_le (by omega)) (at_lit 0 rfl (show (sg x)[0]? = some a by rw [e]; rfl)) (g_slS (by rw [hfig]; exact len_le (by decide)) ?_)
  have e6 : cutS FIG none (some 6) = ("012345" : Str) := by decide +kernel
  rw [e6]
  refine g_ninC ⟨_, rfl, ?_⟩
  by_cases ha : a ∈ sg ("012345" : Str)
  case neg =>
    rw [if_pos (by rw [decide_eq_false ha]; rfl)]
    refine q none fun m hm z => ha ?_
    have z' : sg x = [48 + m / 10, 48 + m % 10] := by rw [z]; rfl
    rw [e] at z'
    injection z' with z1 _
    rw [z1]
    have : m / 10 = 0 ∨ m / 10 = 1 ∨ m / 10 = 2 ∨ m / 10 = 3 ∨ m / 10 = 4 ∨ m / 10 = 5 := by omega
    rcases this with e | e | e | e | e | e <;> rw [e] <;> decide +kernel
  rw [if_neg (by rw [decide_eq_true ha]; decide)]
  refine g_ixS (len_le (by omega)) (at_lit 1 rfl (show (sg x)[1]? = some b by rw [e]; rfl)) (g_ninC ⟨_, rfl, ?_⟩)
  by_cases hb : b ∈ sg FIG
  case neg =>
    rw [if_pos (by rw [decide_eq_false hb]; rfl)]
    refine q none fun m hm z => hb ?_
    have z' : sg x = [48 + m / 10, 48 + m % 10] := by rw [z]; rfl
    rw [e] at z'
    injection z' with _ z1
    injection z1 with z1 _
    rw [z1]
    exact fig_of (by omega) (by omega)
  rw [if_neg (by rw [decide_eq_true hb]; decide)]
  have a5 : 48 ≤ a ∧ a ≤ 53 := by
    have : ∀ c ∈ sg ("012345" : Str), 48 ≤ c ∧ c ≤ 53 := by decide +kernel
    exact this a ha
  have b9 := fig_num hb
  unfold t__minutes_by_r1
  walk_at "sx"
  refine ⟨x, _, rfl, int_digs (fun c hc => ?_) (by omega) (by omega), by omega, ?_⟩
  · rw [e] at hc
    simp at hc
    rcases hc with rfl | rfl
    · omega
    · exact b9
  · have v : NumText.digitsVal (sg x) = (a - 48) * 10 + (b - 48) := by
      rw [e]
      show (0 * 10 + (a - 48)) * 10 + (b - 48) = _
      omega
    rw [v]
    refine q (some _) ⟨by omega, PySem.Str.ext' (Array.ext' ?_)⟩
    show sg x = [48 + _ / 10, 48 + _ % 10]
    rw [e]
    have e1 : 48 + ((a - 48) * 10 + (b - 48)) / 10 = a := by omega
    have e2 : 48 + ((a - 48) * 10 + (b - 48)) % 10 = b := by omega
    rw [e1, e2]
/-- the moment that a text tells -/
def MomR (x : Str) : Option Nat → Prop
  | some m => m ≤ 1000000 ∧ x = mt m
  | none => ∀ m, m ≤ 1000000 → x ≠ mt m
theorem mt_sg (m : Nat) : sg (mt m) = TL.numL (m / 60) ++ 58 :: [48 + m % 60 / 10, 48 + m % 60 % 10] := by
  show ((nt (m / 60) ++ (":" : Str)) ++ two (m % 60)).cps.toList = _
  rw [PySem.Str.cps_append, PySem.Str.cps_append]
  simp only [Array.toList_append]
  rw [show (nt (m / 60)).cps.toList = TL.numL (m / 60) from sg_nt _]
  simp [two]
  rfl
theorem num_58 (h : Nat) : 58 ∉ TL.numL h := TL.numL_free (.inr (by decide))
theorem cut_same {α : Type} {a : α} : ∀ {p p' q q' : List α}, a ∉ p → a ∉ p' → p ++ a :: q = p' ++ a :: q' → p = p' ∧ q = q'
  | [], [], _, _, _, _, e => ⟨rfl, by injection e⟩
  | [], c :: p', _, _, _, h', e => by injection e with e1 _; exact (h' (by rw [e1]; simp)).elim
  | c :: p, [], _, _, h, _, e => by injection e with e1 _; exact (h (by rw [← e1]; simp)).elim
  | c :: p, c' :: p', q, q', h, h', e => by
    injection e with e1 e2
    have := cut_same (fun z => h (by simp [z])) (fun z => h' (by simp [z])) e2
    exact ⟨by rw [e1, this.1], this.2⟩
/-- a text with a colon -/
theorem mt_cut {x : Str} {p q : List Nat} {m : Nat} (e : sg x = p ++ 58 :: q) (hp : 58 ∉ p) (h : x = mt m) : SX.S p = nt (m / 60) ∧ SX.S q = two (m % 60) := by
  rw [h, mt_sg] at e
  obtain ⟨e1, e2⟩ := cut_same (num_58 _) hp e
  constructor
  · refine PySem.Str.ext' (Array.ext' ?_)
    show p = sg (nt _)
    rw [sg_nt, e1]
  · refine PySem.Str.ext' (Array.ext' ?_)
    show q = [_, _]
    rw [← e2]
theorem cut_mt {x : Str} {p q : List Nat} {h k : Nat} (e : sg x = p ++ 58 :: q) (eh : SX.S p = nt h) (ek : SX.S q = two k) (hk : k < 60) : x = mt (h * 60 + k) := by
  refine PySem.Str.ext' (Array.ext' ?_)
  show sg x = sg (mt _)
  have e1 : p = TL.numL h := by
    have := congrArg (fun x : Str => x.cps.toList) eh
    have this' : p = sg (nt h) := this
    rw [this', sg_nt]
  have e2 : q = [48 + k / 10, 48 + k % 10] := congrArg (fun x : Str => x.cps.toList) ek
  rw [mt_sg, e, e1, e2, show (h * 60 + k) / 60 = h by omega, show (h * 60 + k) % 60 = k by omega]
theorem mt_colon {x : Str} {m : Nat} (h : x = mt m) : 58 ∈ sg x := by
  rw [h, mt_sg]
  simp


def rowV (n : Nat) : HO := .xd [("row", .int (n : Nat))]
theorem raise_row {K : PySem.W.Frag} {C : Addr} {L : List Addr} {σ : L2.St} {H H1 : Hp} {E : XK} {i : Nat} (kk : KT L H H1) (q : ∀ d H', KT L H H' → H' d = some (rowV i) → E (.ref C) (some d) H') :
    [V.int (i : Nat)].length ≤ 1000 ∧ ∀ a, H1 a = none → spIni K C ["row"] (.ref a :: ([V.int (i : Nat)] ++ [])) (upd H1 a (exo a C none))
      (fun v H2 => v = .non ∧ ∃ (d : Addr) (gs : List (Str × V)), H2 a = some (exo a C (some d)) ∧ H2 d = some (exd d gs) ∧ H1 d = none ∧ E (.ref C) (some d) (upd (del H2 a) d (.xd gs))) (fun _ _ _ => False) :=
  g_mkO (fs := ["row"]) (Q := E) (σ := σ) rfl (by show 1 ≤ 1000; decide) fun d nd => q d _ (kk.trans (KT.of0 (Keep.new nd))) upd_same
/-! ### moment_by of anything -/
theorem momParts (x : Str) : ∃ h mid mi : Str, Txt.partition x ":" = (h, mid, mi) ∧ h.length ≤ x.length ∧ mi.length ≤ x.length ∧ (∀ m, x = mt m → h = nt (m / 60) ∧ mi = two (m % 60)) ∧ (∀ a k, k < 60 → h = nt a → mi = two k → x = mt (a * 60 + k)) := by
  have ex : SX.S (sg x) = x := SX.S_tl x
  have c1 : (":" : Str) = SX.S (58 :: []) := rfl
  by_cases hm : 58 ∈ sg x
  · obtain ⟨p, q, e, hp⟩ := List.eq_append_cons_of_mem hm
    have lx : p.length + (q.length + 1) = x.length := by rw [← sg_len x, e]; simp
    have ep : Txt.partition x ":" = (SX.S p, SX.S [58], SX.S q) := by
      rw [← ex, e, c1]
      exact SX.partition_some (List.cons_ne_nil _ _) (SX.par_head (sep := []) q hp)
    refine ⟨_, _, _, ep, by rw [SX.S_len]; omega, by rw [SX.S_len]; omega, fun m h => mt_cut e hp h, fun a k hk h1 h2 => cut_mt e h1 h2 hk⟩
  · have ep : Txt.partition x ":" = (SX.S (sg x), SX.S [], SX.S []) := by
      have : Txt.partition (SX.S (sg x)) ":" = (SX.S (sg x), SX.S [], SX.S []) := by
        rw [c1]
        exact SX.partition_none (List.cons_ne_nil _ _) (SX.par_head_none hm)
      rw [ex] at this
      rw [ex]
      exact this
    refine ⟨_, _, _, ep, by rw [ex]; omega, by rw [SX.S_len]; simp, fun m h => (hm (mt_colon h)).elim, fun a k _ _ h2 => ?_⟩
    have := congrArg (fun x : Str => x.length) h2
    simp [SX.S_len] at this
    have l2 : (two k).length = 2 := rfl
    omega
def NoM (v : V) : Prop := ∀ m, m ≤ 1000000 → v ≠ .str (mt m)
def spMomBy (K : PySem.W.Frag) (CN : Addr) (L : List Addr) (P : Addr) : Sp := fun vs H Q E => ∃ v : V, vs = [v] ∧ Kd K H v ∧ (∀ x, v = .str x → x.length ≤ 100000) ∧ Tabs L H ∧ P ∈ L ∧
  (∀ m H', KT L H H' → m ≤ 1000000 → v = .str (mt m) → Q (.int (m : Nat)) H') ∧ (NoM v → ∀ d H', KT L H H' → H' d = some (rowV 0) → E (.ref CN) (some d) H')
theorem rd_momBy (K : PySem.W.Frag) {CN : Addr} {L : List Addr} {P : Addr} : ∀ vs H Q E, spMomBy K CN L P vs H Q E → run (t_moment_by K (spNumA K L P) spMinA (spRange 0 1000000 K) CN E) (L2.start N_moment_by vs) H Q := by
  rintro _ H Q E ⟨v, rfl, kd, hl, ht, hP, good, bad⟩
  show run (t_moment_by K (spNumA K L P) spMinA (spRange 0 1000000 K) CN E) [some v, none, none, none, none, none] H Q
  unfold t_moment_by
  walk_at "sx"
  refine g_isStr kd ⟨_, rfl, ?_⟩
  by_cases hs : isStrB v = true
  case neg =>
    rw [if_pos (by rw [Bool.eq_false_iff.mpr hs]; rfl)]
    unfold tRaiseE tMkO
    walk_at "sx"
    exact raise_row (σ := []) (i := 0) (KT.refl _ _) (bad fun m _ e => hs (by rw [e]; rfl))
  obtain ⟨x, rfl⟩ : ∃ x, v = .str x := by
    cases v <;> first | exact ⟨_, rfl⟩ | (simp [isStrB] at hs)
  rw [if_neg (by rw [hs]; decide)]
  have lx := hl x rfl
  have bad' : (∀ m, m ≤ 1000000 → x ≠ mt m) → ∀ d H', KT L H H' → H' d = some (rowV 0) → E (.ref CN) (some d) H' := fun h => bad fun m hm e => h m hm (V.str.inj e)
  unfold t_moment_by_r2
  walk_at "sx"
  refine ⟨⟨_, rfl⟩, x, ":", rfl, rfl, by decide, len_le (by omega), fun p np => ?_⟩
  obtain ⟨h, mid, mi, ep, l1, l2, fwd, bwd⟩ := momParts x
  rw [ep]
  have k1 : Keep [] H (upd H p (.tup [.str h, .str mid, .str mi])) := Keep.new np
  have e1 : (upd H p (.tup [.str h, .str mid, .str mi])) p = some (.tup [.str h, .str mid, .str mi]) := upd_same
  show gTup K 3 _ (.ref p) _ (upd H p (.tup [.str h, .str mid, .str mi])) _
  generalize upd H p (.tup [.str h, .str mid, .str mi]) = H1 at k1 e1
  refine g_pair e1 rfl ?_
  walk_at "sx"
  refine ⟨_, _, rfl, _, _, rfl, _, _, rfl, rfl, ?_⟩
  walk_at "sx"
  refine ⟨⟨by decide, by decide⟩, h, rfl, by omega, ht.keep0 k1, hP, fun r H2 k2 hr => ?_⟩
  walk_at "sx"
  refine ⟨mi, rfl, by omega, fun r2 hr2 => ?_⟩
  have kk : KT L H H2 := (KT.of0 k1).trans k2
  show (if optV r = V.non then _ else _)
  cases r with
  | none =>
    rw [if_pos (show optV none = V.non from rfl)]
    unfold tRaiseE tMkO
    walk_at "sx"
    exact raise_row (σ := []) (i := 0) kk (bad' fun m hm e => hr (m / 60) (by omega) (fwd m e).1)
  | some a =>
    rw [if_neg (show ¬ optV (some a) = V.non from fun z => nomatch z)]
    obtain ⟨ha, eh⟩ := hr
    cases r2 with
    | none =>
      rw [if_pos (show optV none = V.non from rfl)]
      unfold tRaiseE tMkO
      walk_at "sx"
      exact raise_row (σ := []) (i := 0) kk (bad' fun m hm e => hr2 (m % 60) (by omega) (fwd m e).2)
    | some b =>
      rw [if_neg (show ¬ optV (some b) = V.non from fun z => nomatch z)]
      obtain ⟨hb, ek⟩ := hr2
      have ex := bwd a b hb eh ek
      have em : ((a : Nat) : Int) * 60 + ((b : Nat) : Int) = ((a * 60 + b : Nat) : Int) := by omega
      simp only [optV]
      walk_at "sx"
      refine ⟨cmul_right (by decide), _, rfl, .int _, ⟨_, rfl, ?_⟩⟩
      rw [em]
      have ei : inR (V.int ((a * 60 + b : Nat) : Int)) 0 1000000 = (decide ((0 : Int) ≤ ((a * 60 + b : Nat) : Int)) && decide ((((a * 60 + b : Nat) : Int)) ≤ 1000000)) := rfl
      rw [ei]
      by_cases hm : a * 60 + b ≤ 1000000
      · rw [if_neg (by rw [decide_eq_true (by omega), decide_eq_true (by omega)]; decide)]
        unfold t_moment_by_r1
        walk_at "sx"
        rw [em]
        exact ⟨cmul_right (by decide), good _ H2 kk hm (by rw [← ex])⟩
      · rw [if_pos (by rw [decide_eq_false (show ¬ (((a * 60 + b : Nat) : Int) ≤ 1000000) by omega)]; simp)]
        unfold tRaiseE tMkO
        walk_at "sx"
        refine raise_row (σ := []) (i := 0) kk (bad' fun m hm2 e => hm ?_)
        obtain ⟨f1, f2⟩ := fwd m e
        have g1 := nt_inj (eh.symm.trans f1)
        have g2 := two_inj (ek.symm.trans f2)
        omega


/-! ### the law's own reader -/
def Lo (y : Str) : Prop := ∀ c ∈ sg y, c < 128
theorem dpAll_len {K : PySem.W.Frag} {H : Hp} : ∀ {vs : List V} {ds : List PyData}, DpAll K H vs ds → vs.length = ds.length
  | _, _, .nil => rfl
  | _, _, .cons _ r => congrArg (· + 1) (dpAll_len r)
theorem g_emptyL {K : PySem.W.Frag} {neg : Bool} {H : Hp} {a b : Addr} {vs : List V} {ds : List PyData} {Q : VK} (h : H a = some (.lst vs)) (d : DpAll K H vs ds) (c : PyData.canLayAll0 ds = true) (dp : PyData.depthAll ds ≤ 60) (e : H b = some (.lst [])) (q : Q (.bl (if neg then !vs.isEmpty else vs.isEmpty)) H) : uEq K neg (.ref a) (.ref b) H Q := by
  refine .inr ⟨_, _, .lst (lst_sq h) d, .lst (lst_sq e) .nil, ?_, by decide +kernel, ?_⟩
  · unfold SeqAt.shaped
    rw [Bool.and_eq_true_iff]
    exact ⟨by simp [PyData.canLay0, c], decide_eq_true (by simp only [PyData.depth]; omega)⟩
  · have l := dpAll_len d
    have e1 : PyData.eqv (.list ds) (.list []) = vs.isEmpty := by
      cases ds with
      | nil => rw [List.eq_nil_of_length_eq_zero l]; rfl
      | cons x xs => cases vs with
        | nil => simp at l
        | cons y ys => rfl
    rw [e1]
    exact q
theorem strOk_lo {y : Str} (h : Lo y) : PyData.strOk y = true := by
  unfold PyData.strOk
  rw [Array.all_eq_true]
  intro i hi
  have := h y.cps[i] (by rw [Array.mem_toList_iff]; exact Array.getElem_mem hi)
  exact decide_eq_true (by omega)
theorem lay_strsT : ∀ {ys : List Str}, (∀ y ∈ ys, Lo y) → PyData.canLayAll0 (ys.map .str) = true ∧ PyData.depthAll (ys.map .str) = 0
  | [], _ => by simp [PyData.canLayAll0, PyData.depthAll]
  | y :: ys, h => by
    obtain ⟨a, b⟩ := lay_strsT fun z hz => h z (.tail _ hz)
    simp [PyData.canLayAll0, PyData.depthAll, PyData.canLay0, PyData.depth, a, b, strOk_lo (h y (.head _))]
theorem find_colon {x : Str} {p q : List Nat} (e : sg x = p ++ 58 :: q) (hp : 58 ∉ p) : Txt.find x ":" = (p.length : Int) := by
  have c1 : (":" : Str).cps.toList = [58] := rfl
  have hl : x.length = p.length + (q.length + 1) := by rw [← sg_len x, e]; simp
  have at0 : StrLaws.At x ":" x.length p.length := StrLaws.take_at (by decide) (by
    rw [c1]
    show ((sg x).drop p.length).take 1 = [58]
    rw [e, List.drop_left]
    rfl)
  rcases find_whole x ":" with ⟨_, h⟩ | ⟨i, h1, h2, h3⟩
  · exact (h _ at0).elim
  · rw [h1]
    have hi : ¬ p.length < i := fun z => h3 _ z at0
    have h4 := StrLaws.at_take h2
    rw [c1] at h4
    have h5 : ((sg x).drop i).take 1 = [58] := h4
    by_cases hlt : i < p.length
    · rw [e, List.drop_append_of_le_length (by omega)] at h5
      have : (p.drop i) ≠ [] := by
        intro z
        have := congrArg List.length z
        rw [List.length_drop] at this
        simp at this
        omega
      obtain ⟨c, r, ec⟩ := List.exists_cons_of_ne_nil this
      rw [ec] at h5
      have h6 : c = 58 := by
        have h7 : [c] = [58] := h5
        injection h7
      refine (hp ?_).elim
      have : c ∈ p.drop i := by rw [ec]; simp
      rw [← h6]
      exact List.mem_of_mem_drop this
    · have : i = p.length := by omega
      rw [this]
theorem all_strs {K : PySem.W.Frag} {H : Hp} : ∀ (cs : List Nat), DpAll K H (cs.map fun c => V.str (s1 c)) (cs.map fun c => PyData.str (s1 c))
  | [] => .nil
  | c :: cs => .cons (.str _) (all_strs cs)
theorem lay_signs : ∀ {cs : List Nat}, (∀ c ∈ cs, c < 128) → PyData.canLayAll0 (cs.map fun c => PyData.str (s1 c)) = true ∧ PyData.depthAll (cs.map fun c => PyData.str (s1 c)) = 0
  | [], _ => by simp [PyData.canLayAll0, PyData.depthAll]
  | c :: cs, h => by
    obtain ⟨a, b⟩ := lay_signs fun z hz => h z (.tail _ hz)
    have : Lo (s1 c) := fun d hd => by
      have hd' : d ∈ [c] := hd
      rw [List.mem_singleton.mp hd']
      exact h c (.head _)
    simp [PyData.canLayAll0, PyData.depthAll, PyData.canLay0, PyData.depth, a, b, strOk_lo this]
theorem take_next {xs : List Nat} {j : Nat} {P : Nat → Prop} {c : Nat} (e : xs[j]? = some c) : (∀ d ∈ xs.take (j + 1), P d) ↔ (∀ d ∈ xs.take j, P d) ∧ P c := by
  rw [List.take_succ, e]
  constructor
  · exact fun h => ⟨fun d hd => h d (List.mem_append_left _ hd), h c (by simp)⟩
  · rintro ⟨h1, h2⟩ d hd
    rcases List.mem_append.mp hd with hd | hd
    · exact h1 d hd
    · simp at hd
      rw [hd]; exact h2
def spReadA (K : PySem.W.Frag) : Sp := fun vs H Q _ => ∃ v : V, vs = [v] ∧ Kd K H v ∧ (∀ x, v = .str x → x.length ≤ 100000 ∧ Lo x) ∧
  (∀ m H', Keep [] H H' → m ≤ 1000000 → v = .str (mt m) → Q (.int (m : Nat)) H') ∧ (NoM v → ∀ H', Keep [] H H' → Q .non H')
theorem rd_readA (K : PySem.W.Frag) : ∀ vs H Q E, spReadA K vs H Q E → run (t__law_read K spLTxt) (L2.start N__law_read vs) H Q := by
  rintro _ H Q E ⟨v, rfl, kd, hl, good, bad⟩
  show run (t__law_read K spLTxt) [some v, none, none, none, none] H Q
  unfold t__law_read
  walk_at "sx"
  refine g_isStr kd ⟨_, rfl, ?_⟩
  by_cases hs : isStrB v = true
  case neg =>
    rw [if_pos (by rw [Bool.eq_false_iff.mpr hs]; rfl)]
    exact bad (fun m _ e => hs (by rw [e]; rfl)) H (Keep.refl _ _)
  obtain ⟨x, rfl⟩ : ∃ x, v = .str x := by
    cases v <;> first | exact ⟨_, rfl⟩ | (simp [isStrB] at hs)
  rw [if_neg (by rw [hs]; decide)]
  obtain ⟨lx, lo⟩ := hl x rfl
  have bad' : (∀ m, m ≤ 1000000 → x ≠ mt m) → ∀ H', Keep [] H H' → Q .non H' := fun h => bad fun m hm e => h m hm (V.str.inj e)
  refine g_lenS (len_le (by omega)) (e_rI0.mpr ⟨_, rfl, ?_⟩)
  by_cases h8 : x.length ≤ 8
  case neg =>
    rw [if_pos (by rw [decide_eq_true (by omega)])]
    refine bad' (fun m hm e => h8 ?_) H (Keep.refl _ _)
    rw [e]; exact mt_len hm
  rw [if_neg (by rw [decide_eq_false (by omega)]; decide)]
  show uIn K true (.str (s1 58)) (.str x) H _
  refine g_ninC ⟨_, rfl, ?_⟩
  by_cases hc : 58 ∈ sg x
  case neg =>
    rw [if_pos (by rw [decide_eq_false hc]; rfl)]
    exact bad' (fun m hm e => hc (mt_colon e)) H (Keep.refl _ _)
  rw [if_neg (by rw [decide_eq_true hc]; decide)]
  obtain ⟨p, q, e, hp⟩ := List.eq_append_cons_of_mem hc
  have hlen : p.length + (q.length + 1) = x.length := by rw [← sg_len x, e]; simp
  have ex : x = SX.S (p ++ 58 :: q) := by rw [← e, SX.S_tl x]
  unfold t__law_read_r4
  walk_at "sx"
  refine ⟨⟨_, rfl⟩, x, ":", rfl, rfl, ?_⟩
  rw [find_colon e hp]
  walk_at "sx"
  have cP : cutS x none (some (p.length : Int)) = SX.S p := by rw [C8.cutS_slice, ex, SX.to_app p (58 :: q) rfl]
  have cQ : cutS x (some ((p.length : Int) + 1)) none = SX.S q := by
    rw [C8.cutS_slice, ex, SX.slice_from (by omega)]
    have e1 : ((p.length : Int) + 1).toNat = (p ++ [58]).length := by simp
    rw [e1, show p ++ 58 :: q = (p ++ [58]) ++ q by simp, List.drop_left]
  refine g_slS (len_le (by omega)) ?_
  rw [cP]
  refine g_slS (len_le (by omega)) ?_
  rw [cQ]
  refine e_addS.mpr ⟨by rw [SX.S_len, SX.S_len]; exact len_le (by omega), ?_⟩
  rw [SX.S_cat]
  refine g_eq rfl ⟨_, rfl, ?_⟩
  by_cases hp0 : p.length = 0
  · rw [if_pos (decide_eq_true (show V.int (p.length : Int) = V.int 0 by rw [hp0]; rfl))]
    refine bad' (fun m hm e' => ?_) H (Keep.refl _ _)
    have l := congrArg Str.length (mt_cut e hp e').1
    rw [SX.S_len] at l
    have := nt_pos (m / 60)
    omega
  rw [if_neg (by rw [decide_eq_false (show ¬ V.int (p.length : Int) = V.int 0 from fun z => hp0 (by injection z with z; omega))]; decide)]
  refine g_lenS (len_le (by omega)) (e_rI0.mpr (g_ne rfl ⟨_, rfl, ?_⟩))
  have e3 : ((x.length : Nat) : Int) - (p.length : Int) = ((q.length + 1 : Nat) : Int) := by omega
  rw [e3]
  by_cases hq2 : q.length = 2
  case neg =>
    rw [if_pos (by rw [decide_eq_false (fun z => hq2 (by injection z with z; omega))]; rfl)]
    refine bad' (fun m hm e' => hq2 ?_) H (Keep.refl _ _)
    have l := congrArg Str.length (mt_cut e hp e').2
    rw [SX.S_len] at l
    exact l
  rw [if_neg (by rw [hq2]; decide)]
  unfold t__law_read_r3
  walk_at "sx"
  have sgS : sg (SX.S (p ++ q)) = p ++ q := rfl
  have lpq : ∀ c ∈ p ++ q, c < 128 := fun c hc => lo c (by
    rw [e]
    rcases List.mem_append.mp hc with h | h
    · exact List.mem_append_left _ h
    · exact List.mem_append_right _ (List.mem_cons_of_mem _ h))
  refine g_CS (S := []) (fun _ h => (List.not_mem_nil h).elim) ⟨fun j H' acc => ∃ cs : List Nat, acc = cs.map (fun c => V.str (s1 c)) ∧ cs.length ≤ j ∧ (∀ c ∈ cs, c < 128) ∧ (cs = [] ↔ ∀ c ∈ (p ++ q).take j, c ∈ sg FIG), fun _ _ _ _ => ⟨[], rfl, Nat.le_refl _, fun _ h => (List.not_mem_nil h).elim, by simp⟩, ?_, ?_⟩
  · rintro D j H1 acc R R0 nD hj k1 eD ⟨cs, rfl, lcs, l128, hcs⟩ hR hR0
    have hj' : j < (p ++ q).length := hj
    have hg : (p ++ q)[j]? = some (p ++ q)[j] := List.getElem?_eq_getElem hj'
    have eg : (SX.S (p ++ q)).cps.getD j 0 = (p ++ q)[j] := by
      rw [Array.getD_eq_getD_getElem?, ← Array.getElem?_toList]
      show ((p ++ q)[j]?).getD 0 = _
      rw [hg]
      rfl
    show gName 4 (.str ⟨#[(SX.S (p ++ q)).cps.getD j 0]⟩) _ _ _
    rw [eg]
    have mem := List.mem_of_getElem? hg
    have hn := fun P => take_next (P := P) hg
    generalize (p ++ q)[j] = c at mem hn
    walk_at "sx"
    refine g_ninC ⟨_, rfl, ?_⟩
    by_cases hcf : c ∈ sg FIG
    · rw [if_neg (by rw [decide_eq_true hcf]; decide)]
      exact hR0 _ (Keep.refl _ _) ⟨cs, rfl, by omega, l128, by rw [hcs]; exact ⟨fun z => (hn _).mpr ⟨z, hcf⟩, fun z => ((hn _).mp z).1⟩⟩
    · rw [if_pos (by rw [decide_eq_false hcf]; rfl)]
      have lj : (p ++ q).length ≤ 8 := by rw [List.length_append]; omega
      refine hR _ _ (Keep.refl _ _) (by rw [List.length_map]; exact len_lt (by omega)) fun H5 k5 => ⟨cs ++ [c], by simp, by simp; omega, fun d hd => ?_, ?_⟩
      · rcases List.mem_append.mp hd with hd | hd
        · exact l128 d hd
        · rw [List.mem_singleton.mp hd]; exact lpq c mem
      · constructor
        · exact fun z => (by simp at z)
        · exact fun z => (hcf ((hn _).mp z).2).elim
  · rintro D H1 acc nD k1 eD ⟨cs, rfl, lcs, l128, hcs⟩
    have full : (p ++ q).take (SX.S (p ++ q)).cps.size = p ++ q := List.take_length
    rw [full] at hcs
    refine ⟨by walk_at "sz", fun z H2 n2 k2 e2 => ?_⟩
    obtain ⟨la, ld⟩ := lay_signs l128
    refine g_emptyL (ds := cs.map fun c => PyData.str (s1 c)) (k2 _ _ nin0 eD) (all_strs cs) la (by rw [ld]; decide) e2 ⟨_, rfl, ?_⟩
    have k02 : Keep [] H H2 := k1.trans k2
    by_cases hall : cs = []
    case neg =>
      rw [if_pos (by cases cs with | nil => exact (hall rfl).elim | cons a b => rfl)]
      refine bad' (fun m hm e' => hall (hcs.mpr fun c hc => ?_)) H2 k02
      obtain ⟨f1, f2⟩ := mt_cut e hp e'
      rcases List.mem_append.mp hc with hc | hc
      · have hc' : c ∈ sg (SX.S p) := hc
        rw [f1, sg_nt] at hc'
        have := TL.numL_digits _ c hc'
        exact fig_of this.1 this.2
      · have hc' : c ∈ sg (SX.S q) := hc
        rw [f2] at hc'
        have hc2 : c ∈ [48 + m % 60 / 10, 48 + m % 60 % 10] := hc'
        simp at hc2
        rcases hc2 with rfl | rfl <;> exact fig_of (by omega) (by omega)
    rw [if_neg (by rw [hall]; decide)]
    have figs := hcs.mp hall
    have dp : ∀ c ∈ sg (SX.S p), 48 ≤ c ∧ c ≤ 57 := fun c hc => fig_num (figs c (List.mem_append_left _ hc))
    have dq : ∀ c ∈ sg (SX.S q), 48 ≤ c ∧ c ≤ 57 := fun c hc => fig_num (figs c (List.mem_append_right _ hc))
    have lp := SX.S_len p
    have lq := SX.S_len q
    have ip := int_digs dp (by omega) (by omega)
    have iq := int_digs dq (by omega) (by omega)
    unfold t__law_read_r2
    walk_at "sx"
    refine g_slS (len_le (by omega)) ?_
    rw [cP]
    refine ⟨_, _, rfl, ip, by omega, ?_⟩
    walk_at "sx"
    refine ⟨cmul_right (by decide), g_slS (len_le (by omega)) ?_⟩
    rw [cQ]
    refine ⟨_, _, rfl, iq, by omega, ?_⟩
    have dval : ∀ {z : Str} {n : Nat}, z = nt n → NumText.digitsVal (sg z) = n := fun {z n} h => by rw [h, sg_nt, num_val]
    have tval : ∀ {z : Str} {n : Nat}, n < 60 → z = two n → NumText.digitsVal (sg z) = n := fun {z n} hn h => by
      rw [h]
      show (0 * 10 + (48 + n / 10 - 48)) * 10 + (48 + n % 10 - 48) = n
      omega
    have back : ∀ m, x = mt m → NumText.digitsVal (sg (SX.S p)) * 60 + NumText.digitsVal (sg (SX.S q)) = m := fun m e' => by
      obtain ⟨f1, f2⟩ := mt_cut e hp e'
      rw [dval f1, tval (by omega) f2]
      omega
    generalize NumText.digitsVal (sg (SX.S p)) = a at back
    generalize NumText.digitsVal (sg (SX.S q)) = b at back
    have em : ((a : Nat) : Int) * 60 + ((b : Nat) : Int) = ((a * 60 + b : Nat) : Int) := by omega
    walk_at "sx"
    rw [em]
    refine ⟨⟨by decide, by decide, by decide⟩, ?_⟩
    by_cases hm : a * 60 + b ≤ 1000000
    case neg =>
      rw [if_pos (show (1000000 : Int) < ((a * 60 + b : Nat) : Int) by omega)]
      exact bad' (fun m hm2 e' => hm (by rw [back m e']; exact hm2)) H2 k02
    rw [if_neg (show ¬ (1000000 : Int) < ((a * 60 + b : Nat) : Int) by omega)]
    refine ⟨_, rfl, hm, g_ne rfl ⟨_, rfl, ?_⟩⟩
    by_cases he : mt (a * 60 + b) = x
    · rw [if_neg (by rw [he, decide_eq_true rfl]; decide)]
      unfold t__law_read_r1
      walk_at "sx"
      exact good _ H2 k02 hm (by rw [he])
    · rw [if_pos (by rw [decide_eq_false (fun z => he (V.str.inj z))]; rfl)]
      exact bad' (fun m hm2 e' => he (by rw [back m e', ← e'])) H2 k02


/-! ### told: the town, or the row of the refusal -/
structure NoTF (K : PySem.W.Frag) (CW CN : Addr) (as bs : List Addr) : Prop where
  ea : ExA K CN
  k1 : PySem.W.kitOne K (.ref CN) (.ref CN) = some true
  k2 : PySem.W.kitOne K (.ref CN) (.ref CW) = some true
  k3 : PySem.W.kitOne K (.ref CN) (.type "ValueError") = some true
  k4 : PySem.W.kitAny K (.ref CN) (as.map Value.ref) = some false
  k5 : PySem.W.kitAny K (.ref CN) (bs.map Value.ref) = some false
  ex : PySem.W.exmOne K (.ref CN) (.ref CN) = some true
theorem g_isTup {K : PySem.W.Frag} {H : Hp} {a C t : Addr} {cs : List Addr} {fs : List (Str × V)} {b : Bool} {Q : VK} (h : ExcAt K H a C fs) (u : Tup H t (cs.map V.ref)) (k : PySem.W.kitAny K (.ref C) (cs.map Value.ref) = some b) (q : Q (.bl b) H) : rIsV K [.ref a, .ref t] H Q :=
  ⟨a, C, fs, .ref t, rfl, h, .inr ⟨t, cs, b, rfl, u, k, q⟩⟩
def spMarks9 (K : PySem.W.Frag) (CN : Addr) : Sp := fun vs H Q _ => ∃ (a : Addr) (fs : List (Str × V)), vs = [.ref a] ∧ ExcAt K H a CN fs ∧ ∀ p H', Keep [] H H' → H' p = some (.lst [.bl true, .bl true, .bl true, .bl false, .bl false]) → Q (.ref p) H'
theorem rd_marks9 (K : PySem.W.Frag) {CW CN l1 l2 l3 l4 l5 m1 m2 m3 m4 m5 : Addr} (F : NoTF K CW CN [l1, l2, l3, l4, l5] [m1, m2, m3, m4, m5]) : ∀ vs H Q E, spMarks9 K CN vs H Q E →
    run (t__law_marks K CW CN l5 l4 l3 l2 l1 m5 m4 m3 m2 m1) (L2.start N__law_marks vs) H Q := by
  rintro _ H Q _ ⟨a, fs, rfl, h, q⟩
  show run (t__law_marks K CW CN l5 l4 l3 l2 l1 m5 m4 m3 m2 m1) [some (.ref a), none] H Q
  unfold t__law_marks
  walk_at "sx"
  refine g_isV h F.k1 (g_isV h F.k2 ⟨by walk_at "sz", fun p H1 n1 k1 e1 => ?_⟩)
  walk_at "sx"
  have h1 : ExcAt K H1 a CN fs := EAt.ea (EAt.keep h.2 k1) h.1
  refine ⟨.inl ⟨rfl, _, .inl (.inl e1)⟩, g_isVT h1 F.k3 (g_append e1 (by walk_at "sz") fun H2 k2 e2 => ?_)⟩
  have k02 : Keep [] H H2 := k1.past k2 n1
  have h2 : ExcAt K H2 a CN fs := EAt.ea (EAt.keep h.2 k02) h.1
  walk_at "sx"
  refine ⟨.inl ⟨rfl, _, .inl (.inl e2)⟩, ⟨by walk_at "sz", fun t H3 n3 k3 t3 => ?_⟩⟩
  have h3 : ExcAt K H3 a CN fs := EAt.ea (EAt.keep h2.2 k3) h.1
  refine g_isTup (cs := [l1, l2, l3, l4, l5]) h3 t3 F.k4 (g_append (k3 _ _ nin0 e2) (by walk_at "sz") fun H4 k4 e4 => ?_)
  have k04 : Keep [] H H4 := (k02.trans k3).past k4 n1
  have h4 : ExcAt K H4 a CN fs := EAt.ea (EAt.keep h.2 k04) h.1
  walk_at "sx"
  refine ⟨by walk_at "sz", fun t5 H5 n5 k5 u5 => ?_⟩
  have h5 : ExcAt K H5 a CN fs := EAt.ea (EAt.keep h4.2 k5) h.1
  refine g_isTup (cs := [m1, m2, m3, m4, m5]) h5 u5 F.k5 ⟨by walk_at "sz", fun p6 H6 n6 k6 e6 => ?_⟩
  refine g_addL ((k5.trans k6) _ _ nin0 e4) e6 (by walk_at "sz") fun p7 H7 n7 k7 e7 => ?_
  exact q p7 H7 (k04.trans (k5.trans (k6.trans k7))) e7
def spToldA (K : PySem.W.Frag) (L : List Addr) (P : Addr) : Sp := fun vs H Q _ => ∃ v : V, vs = [v] ∧ Kd K H v ∧ (∀ x, v = .str x → x.length ≤ 100000) ∧ Tabs L H ∧ P ∈ L ∧
  (∀ m a H', KT L H H' → m ≤ 1000000 → v = .str (mt m) → H' a = some (.lst [.str "told", .int (m : Nat)]) → Q (.ref a) H') ∧
  (NoM v → ∀ a b H', KT L H H' → H' a = some (.lst [.str "refused", .int 0, .ref b]) → H' b = some (.lst [.bl true, .bl true, .bl true, .bl false, .bl false]) → Q (.ref a) H')
theorem rd_toldA (K : PySem.W.Frag) {CW CN : Addr} {as bs : List Addr} (F : NoTF K CW CN as bs) (nrow : PySem.W.findIn K (.ref CN) "row" = some none) {L : List Addr} {P : Addr} : ∀ vs H Q E, spToldA K L P vs H Q E → run (t__law_told K (spMomBy K CN L P) (spMarks9 K CN) CN) (L2.start N__law_told vs) H Q := by
  rintro _ H Q _ ⟨v, rfl, kd, hl, ht, hP, good, bad⟩
  show run (t__law_told K (spMomBy K CN L P) (spMarks9 K CN) CN) [some v, none, none, none] H Q
  unfold t__law_told tTryKp tGoS
  walk_at "sx"
  refine ⟨v, rfl, kd, hl, ht, hP, fun m H' k hm e => ?_, fun nm d H' k hd => ?_⟩
  · unfold t__law_told_r2
    walk_at "sx"
    exact ⟨by walk_at "sz", fun a HA nA kA eA => good m a HA (k.trans (KT.of0 kA)) hm e eA⟩
  · refine ⟨true, F.ex, (fun z => nomatch z), fun _ a na => ?_⟩
    walk_at "sx"
    have ne : d ≠ a := fun z => by rw [← z, hd] at na; cases na
    have hx : EAt (upd H' a (ExV (.ref CN) (some d) a)) a CN [("row", .int ((0 : Nat) : Int))] := ⟨some d, upd_same, .inr ⟨d, rfl, by rw [upd_ne ne]; exact hd⟩⟩
    have kk : KT L H (upd H' a (ExV (.ref CN) (some d) a)) := k.trans (KT.of0 (Keep.new na))
    generalize upd H' a (ExV (.ref CN) (some d) a) = HX at hx kk
    unfold t__law_told_r2
    walk_at "sx"
    rw [if_neg (show ¬ V.ref a = V.non from fun z => nomatch z)]
    unfold t__law_told_r1
    walk_at "sx"
    refine g_xfV (hx.ea F.ea) nrow rfl ?_
    refine ⟨a, _, rfl, hx.ea F.ea, fun p H1 k1 e1 => ⟨by walk_at "sz", fun z H2 n2 k2 e2 => ?_⟩⟩
    exact bad nm z p H2 (kk.trans (KT.of0 (k1.trans k2))) e2 (k2 _ _ nin0 e1)


/-! ### texts bent -/
theorem sg_app (a b : Str) : sg (a ++ b) = sg a ++ sg b := by
  show (a ++ b).cps.toList = _
  rw [PySem.Str.cps_append, Array.toList_append]
theorem lo_of {z : Str} (h : (sg z).all (fun c => decide (c < 128)) = true) : Lo z := fun c hc => of_decide_eq_true (List.all_eq_true.mp h c hc)
theorem Lo.app {a b : Str} (h : Lo a) (h' : Lo b) : Lo (a ++ b) := fun c hc => by
  rw [sg_app] at hc
  exact (List.mem_append.mp hc).elim (h c) (h' c)
theorem Lo.cut {z : Str} {lo hi : Option Int} (h : Lo z) : Lo (cutS z lo hi) := fun c hc => by
  have hc : c ∈ ((z.cps.toList.drop (HT.sIx z.length 0 lo)).take (HT.sIx z.length z.length hi - HT.sIx z.length 0 lo)) := by simpa [cutS] using hc
  exact h c (List.mem_of_mem_drop (List.mem_of_mem_take hc))
theorem cut_len (z : Str) (lo hi : Option Int) : (cutS z lo hi).length ≤ z.length := by
  have : (cutS z lo hi).length = ((z.cps.toList.drop (HT.sIx z.length 0 lo)).take (HT.sIx z.length z.length hi - HT.sIx z.length 0 lo)).length := by simp [cutS, Str.length]
  rw [this]
  refine Nat.le_trans (List.length_take_le' _ _) ?_
  rw [List.length_drop]
  have : z.cps.toList.length = z.length := sg_len z
  omega
theorem Lo.one {z : Str} {c : Nat} (h : Lo z) (hc : c ∈ sg z) : Lo (s1 c) := fun x hx => by
  have : x = c := by simpa using hx
  rw [this]
  exact h c hc
theorem s1_len (c : Nat) : (s1 c).length = 1 := rfl
theorem g_pick {K : PySem.W.Frag} {H : Hp} {Q : VK} {z : Str} {r : Int} (h0 : 0 ≤ r) (h1 : r < z.length) (hz : z.length ≤ 1000000) (q : ∀ c, c ∈ sg z → Q (.str (s1 c)) H) : uIx K (.str z) (.int r) H Q := by
  have hl := sg_len z
  have hr : r.toNat < (sg z).length := by omega
  exact g_ixS (len_le hz) (at_lit r.toNat (by omega) (List.getElem?_eq_getElem hr)) (q _ (List.getElem_mem hr))
theorem lo_s1 {c : Nat} (h : c < 128) : Lo (s1 c) := fun x hx => by
  have e : x = c := by simpa using hx
  rw [e]
  exact h
theorem lo_str (i : Int) : Lo (toString i : String) := fun c hc => by
  have hc : c ∈ (Str.ofString (toString i)).cps.toList := hc
  rw [PyProof.Rows.signs_ofString] at hc
  obtain ⟨ch, hm, rfl⟩ := List.mem_map.mp hc
  exact PySem.int_ascii i ch hm
abbrev SGA : Str := " !\"#$&'()*+,-./0123456789:;<=>?@ABCDEFGHIJKLMNOPQRSTUVWXYZ"
abbrev SGB : Str := "[\\]^_`abcdefghijklmnopqrstuvwxyz{|}~\n"
theorem sga : Lo SGA ∧ SGA.length = 58 := ⟨lo_of (by decide +kernel), by decide +kernel⟩
theorem sgb : Lo SGB ∧ SGB.length = 37 := ⟨lo_of (by decide +kernel), by decide +kernel⟩
def spSigns : Sp := fun vs H Q _ => ∃ _u : Unit, vs = [] ∧ Q (.str (SGA ++ SGB)) H
theorem rd_signs (K : PySem.W.Frag) : ∀ vs H Q E, spSigns vs H Q E → run (t__law_signs K) (L2.start N__law_signs vs) H Q := by
  rintro _ H Q _ ⟨_, rfl, q⟩
  show run (t__law_signs K) [none] H Q
  unfold t__law_signs
  walk_at "sx"
  exact ⟨by rw [sga.2, sgb.2]; exact len_le (by decide), q⟩
def spBent : Sp := fun vs H Q _ => ∃ (p : Addr) (x : Str) (k : Nat), vs = [.ref p, .str x] ∧ Lo x ∧ x.length ≤ 1000 ∧ Pen H p (k + 3) ∧ ∀ z H', Keep [p] H H' → Pen H' p k → Lo z → z.length ≤ 2 * x.length + 1 → Q (.str z) H'
theorem rd_bent (K : PySem.W.Frag) : ∀ vs H Q E, spBent vs H Q E → run (t__law_bent K spSigns spDraw) (L2.start N__law_bent vs) H Q := by
  rintro _ H Q _ ⟨p, x, k, rfl, lo, lx, hp, q⟩
  show run (t__law_bent K spSigns spDraw) [some (.ref p), some (.str x), none, none, none, none] H Q
  unfold t__law_bent
  walk_at "sx"
  refine ⟨(), rfl, ?_⟩
  walk_at "sx"
  have l10 : (("0123456789:" : String) : Str).length = 11 := by decide +kernel
  have lo10 : Lo (("0123456789:" : String) : Str) := lo_of (by decide +kernel)
  have lsig : ((SGA ++ SGB) ++ (("0123456789:" : String) : Str)).length = 106 := by rw [strLen_append, strLen_append, sga.2, sgb.2, l10]
  have losig : Lo ((SGA ++ SGB) ++ (("0123456789:" : String) : Str)) := (sga.1.app sgb.1).app lo10
  refine ⟨by rw [strLen_append, sga.2, sgb.2, l10]; exact len_le (by decide), ?_⟩
  refine g_lenS (len_le (by omega)) ?_
  walk_at "sx"
  refine ⟨p, _, k + 2, rfl, by omega, by omega, hp, fun a H1 a0 a1 k1 hp1 => ?_⟩
  walk_at "sx"
  refine g_lenS (by rw [lsig]; exact len_le (by decide)) ?_
  rw [lsig]
  refine ⟨p, _, k + 1, rfl, by decide, by decide, hp1, fun c H2 c0 c1 k2 hp2 => ?_⟩
  refine g_pick c0 (by rw [lsig]; exact c1) (by rw [lsig]; decide) fun s hs => ?_
  have ls := losig s hs
  walk_at "sx"
  refine ⟨p, _, k, rfl, by decide, by decide, hp2, fun r H3 r0 r1 k3 hp3 => ?_⟩
  walk_at "sx"
  refine g_slS (len_le (by omega)) ⟨by walk_at "sz", fun l H4 n4 k4 e4 => ?_⟩
  have hp4 := hp3.keep k4
  have pick : ∃ t : Str, Lo t ∧ t.length ≤ 1 ∧ ∀ V, V (.str t) H4 → uIx K (.ref l) (.int r) H4 V := by
    have : r = 0 ∨ r = 1 ∨ r = 2 := by omega
    rcases this with rfl | rfl | rfl
    · exact ⟨s1 s, lo_s1 ls, Nat.le_refl _, fun V v => g_ixL e4 (at_lit 0 rfl rfl) v⟩
    · exact ⟨s1 s, lo_s1 ls, Nat.le_refl _, fun V v => g_ixL e4 (at_lit 1 rfl rfl) v⟩
    · exact ⟨"", lo_of (by decide +kernel), by decide, fun V v => g_ixL e4 (at_lit 2 rfl rfl) v⟩
  obtain ⟨t, lt, l1, hix⟩ := pick
  refine hix _ ?_
  have lc := cut_len x none (some a)
  refine e_addS.mpr ⟨len_le (by omega), ?_⟩
  refine g_slS (len_le (by omega)) ?_
  have lc2 := cut_len x (some (a + if 0 < r then 1 else 0)) none
  refine e_addS.mpr ⟨by rw [strLen_append]; exact len_le (by omega), ?_⟩
  exact q _ H4 (k1.trans (k2.trans (k3.trans k4.all))) hp4 ((lo.cut.app lt).app lo.cut) (by rw [strLen_append, strLen_append]; omega)


/-! ### expressions that answer texts -/
/-- te answers a text of low signs, of n signs at most, and changes nothing -/
def TxE (te : TE) (σ : L2.St) (n : Nat) : Prop := ∀ H Q, (∀ z, Lo z → z.length ≤ n → Q (.str z) H) → te σ H Q
def TxL (ta : TA) (σ : L2.St) (n k : Nat) : Prop := ∀ H (Q : List V → Hp → Prop), (∀ zs : List Str, zs.length = k → (∀ z ∈ zs, Lo z ∧ z.length ≤ n) → Q (zs.map V.str) H) → ta σ H Q
section
variable {K : PySem.W.Frag} {σ : L2.St} {a b te : TE} {ta : TA} {n m k i : Nat} {z : Str}
theorem tx_var (h : σ[i]? = some (some (.str z))) (lo : Lo z) (l : z.length ≤ n) : TxE (tVar i) σ n := fun H Q q => ⟨_, h, q z lo l⟩
theorem tx_c (lo : Lo z) (l : z.length ≤ n) : TxE (tC (.str z)) σ n := fun H Q q => q z lo l
theorem tx_add (ha : TxE a σ n) (hb : TxE b σ m) (l : n + m ≤ 100000) : TxE (tOp (uAdd K) a b) σ (n + m) := fun H Q q =>
  ha H _ fun x lx nx => hb H _ fun y ly ny => e_addS.mpr ⟨len_le (by omega), q _ (lx.app ly) (by rw [strLen_append]; omega)⟩
theorem tx_mono (ha : TxE a σ n) (l : n ≤ m) : TxE a σ m := fun H Q q => ha H Q fun z lz nz => q z lz (Nat.le_trans nz l)
theorem repl_mem {y z : List Nat} : ∀ (l : List Nat) (s : Nat) (c : Nat), c ∈ StrLaws.replS y z s l → c ∈ l ∨ c ∈ z
  | [], s, c, h => by
    cases s <;> simp [StrLaws.replS] at h
  | d :: r, 0, c, h => by
    unfold StrLaws.replS at h
    split at h
    · rcases List.mem_append.mp h with h | h
      · exact .inr h
      · exact (repl_mem r _ c h).imp (List.mem_cons_of_mem _) id
    · rcases List.mem_cons.mp h with h | h
      · exact .inl (by rw [h]; simp)
      · exact (repl_mem r _ c h).imp (List.mem_cons_of_mem _) id
  | d :: r, s + 1, c, h => by
    unfold StrLaws.replS at h
    exact (repl_mem r s c h).imp (List.mem_cons_of_mem _) id
theorem tx_repl {y w : Str} (ha : TxE a σ n) (hy : 1 ≤ y.length) (lw : Lo w) (w1 : w.length ≤ 1) (hn : n ≤ 1000) : TxE (CwR.tReplC a y w) σ (2 * n + 1) := fun H Q q =>
  ha H _ fun x lx nx => by
    have h1 : x.length + (x.length + 1) * w.length ≤ x.length + (x.length + 1) * 1 := Nat.add_le_add_left (Nat.mul_le_mul_left _ w1) _
    refine ⟨x, rfl, by omega, q _ (fun c hc => ?_) ?_⟩
    · have hc' : c ∈ (Txt.replace x y w).cps.toList := hc
      rw [StrLaws.replace_list hy] at hc'
      exact (repl_mem _ _ _ hc').elim (lx c) (lw c)
    · have := TK.replace_len x y w
      omega
theorem fold_rep : ∀ (n : Nat) (z acc : Array Nat), ((List.replicate n z).foldl (· ++ ·) acc).toList = acc.toList ++ (List.replicate n z.toList).flatten
  | 0, _, _ => by simp
  | n + 1, z, acc => by
    rw [List.replicate_succ, List.foldl_cons, fold_rep n z, Array.toList_append, List.replicate_succ, List.flatten_cons, List.append_assoc]
theorem tx_mul {j : Nat} (lo : Lo z) (hz : z.length = 1) (h2 : 2 ≤ j) (hj : j ≤ 10000) : TxE (tOp uMulS (tC (.str z)) (tC (.int (j : Nat)))) σ j := fun H Q q => by
  have e := fold_rep j z.cps #[]
  refine ⟨z, _, rfl, rfl, by omega, by omega, by omega, by rw [hz]; omega, q _ (fun c hc => ?_) ?_⟩
  · have hc' : c ∈ ((List.replicate j z.cps).foldl (· ++ ·) #[]).toList := hc
    rw [e] at hc'
    simp only [List.mem_append, List.mem_flatten, List.mem_replicate] at hc'
    rcases hc' with hc' | ⟨l, ⟨_, rfl⟩, hc'⟩
    · simp at hc'
    · exact lo c hc'
  · have : (⟨(List.replicate j z.cps).foldl (· ++ ·) #[]⟩ : Str).length = (((List.replicate j z.cps).foldl (· ++ ·) #[]).toList).length := by simp [Str.length]
    show (⟨(List.replicate j z.cps).foldl (· ++ ·) #[]⟩ : Str).length ≤ j
    rw [this, e]
    have l1 : z.cps.toList.length = 1 := by rw [← hz]; exact sg_len z
    simp [l1]
    try omega
theorem txl_nil : TxL tNil σ n 0 := fun H Q q => q [] rfl fun _ h => (List.not_mem_nil h).elim
theorem txl_cons (ha : TxE te σ n) (hr : TxL ta σ n k) : TxL (tCons te ta) σ n (k + 1) := fun H Q q =>
  ha H _ fun z lz nz => hr H _ fun zs e h => q (z :: zs) (by rw [List.length_cons, e]) fun y hy => by
    rcases List.mem_cons.mp hy with hy | hy
    · rw [hy]; exact ⟨lz, nz⟩
    · exact h y hy
end
theorem tx_upto {K : PySem.W.Frag} {σ : L2.St} {i n : Nat} {z : Str} {j : Int} (h : σ[i]? = some (some (.str z))) (lo : Lo z) (l : z.length ≤ n) (hn : n ≤ 10000) : TxE (tSl (uSl K) (tVar i) tNoPart (tPart (tUn (rU fun i => .int (-i)) (tC (.int j))))) σ n := fun H Q q => by
  have lc := cut_len z none (some (-j))
  refine ⟨_, h, ?_⟩
  walk_at "sx"
  exact g_slS (len_le (by omega)) (q _ lo.cut (by omega))
theorem tx_from {K : PySem.W.Frag} {σ : L2.St} {i n : Nat} {z : Str} {j : Int} (h : σ[i]? = some (some (.str z))) (lo : Lo z) (l : z.length ≤ n) (hn : n ≤ 10000) : TxE (tSl (uSl K) (tVar i) (tPart (tC (.int j))) tNoPart) σ n := fun H Q q => by
  have lc := cut_len z (some j) none
  refine ⟨_, h, ?_⟩
  walk_at "sx"
  exact g_slS (len_le (by omega)) (q _ lo.cut (by omega))
/-- texts of low signs -/
def AllT (zs : List Str) : Prop := ∀ z ∈ zs, Lo z ∧ z.length ≤ 10000
theorem th_step {K : PySem.W.Frag} {ta : TA} {D : Ends} {rest : TS} {σ : L2.St} {H : Hp} {a : Addr} {xs : List Str} {k n : Nat} (hv : σ[5]? = some (some (.ref a))) (ha : H a = some (.lst (xs.map V.str))) (hx : AllT xs) (lx : xs.length ≤ 100) (hk : k ≤ 20) (hn : n ≤ 10000) (tl : TxL ta σ n k)
    (q : ∀ a' H' zs, Keep [] H H' → H' a' = some (.lst (zs.map V.str)) → AllT zs → zs.length = xs.length + k → rest D (σ.set 5 (some (.ref a'))) H') :
    tSeq (tAsg (tOp (uAdd K) (tVar 5) (tLstU ta)) (gName 5)) rest D σ H := by
  refine ⟨_, hv, tl H _ fun zs e h => ?_⟩
  refine ⟨by rw [List.length_map, e]; exact len_le (by omega), fun l H1 n1 k1 e1 => ?_⟩
  refine g_addL (k1 _ _ nin0 ha) e1 (by rw [List.length_map, List.length_map, e]; exact len_le (by omega)) fun l2 H2 n2 k2 e2 => ?_
  refine q l2 H2 (xs ++ zs) (k1.trans k2) (by rw [e2, List.map_append]) (fun z hz => ?_) (by rw [List.length_append, e])
  rcases List.mem_append.mp hz with hz | hz
  · exact hx z hz
  · exact ⟨(h z hz).1, Nat.le_trans (h z hz).2 hn⟩
/-! ### the things that are asked about -/
structure Tg4 (K : PySem.W.Frag) (H : Hp) (v : V) : Prop where
  kd : Kd K H v
  tx : ∀ x, v = .str x → x.length ≤ 100000 ∧ Lo x
  dr : ∃ d, Dr K H v d ∧ fine d ∧ d.depth ≤ 100 ∧ cost d ≤ 10000000
theorem Tg4.keep {K : PySem.W.Frag} {H H' : Hp} {v : V} (h : Tg4 K H v) (k : Keep [] H H') : Tg4 K H' v :=
  ⟨h.kd.keep k, h.tx, let ⟨d, a, r⟩ := h.dr; ⟨d, Dr.keep k a, r⟩⟩
theorem fine_lo {z : Str} (h : Lo z) : fine (.str z) := fun c hc => Nat.lt_trans (h c hc) (by decide)
theorem th_text {K : PySem.W.Frag} {H : Hp} {z : Str} (lo : Lo z) (l : z.length ≤ 10000) : Tg4 K H (.str z) :=
  ⟨.str z, fun x e => by cases e; exact ⟨by omega, lo⟩, _, .dp (.str z), fine_lo lo, by simp [PyData.depth], by show 10 * z.length + 2 ≤ _; omega⟩
def spThings (K : PySem.W.Frag) : Sp := fun vs H Q _ => ∃ (p : Addr) (k : Nat), vs = [.ref p] ∧ Pen H p (k + 20) ∧ ∀ a xs H', Keep [p] H H' → Pen H' p k → H' a = some (.lst xs) → xs.length ≤ 100 → (∀ v ∈ xs, Tg4 K H' v) → Q (.ref a) H'
theorem rd_things (K : PySem.W.Frag) : ∀ vs H Q E, spThings K vs H Q E → run (t__law_things K spMom spLTxt spBent spDraw) (L2.start N__law_things vs) H Q := by
  rintro _ H Q _ ⟨p, k, rfl, hp, q⟩
  show run (t__law_things K spMom spLTxt spBent spDraw) [some (.ref p), none, none, none, none, none] H Q
  unfold t__law_things
  refine ⟨_, rfl, p, k + 15, rfl, hp, fun m H1 hm k1 hp1 => ?_⟩
  refine ⟨_, rfl, m, rfl, hm, ?_⟩
  have lm := mt_len hm
  have lom : Lo (mt m) := ((lo_str _).app (lo_of (by decide +kernel))).app fun c hc => by
    have hc' : c ∈ [48 + m % 60 / 10, 48 + m % 60 % 10] := hc
    simp at hc'
    omega
  generalize hx : mt m = x at lm lom
  refine ⟨_, rfl, _, rfl, p, x, k + 12, rfl, lom, by omega, hp1, fun y H2 k2 hp2 loy ly => ?_⟩
  refine ⟨_, rfl, p, _, k + 11, rfl, by decide, by decide, hp2, fun r H3 r0 r1 k3 hp3 => ?_⟩
  obtain ⟨n, rfl⟩ : ∃ n : Nat, r = (n : Nat) := ⟨r.toNat, by omega⟩
  unfold tNil
  refine e_str.mpr ⟨log_small (by omega) (by omega), ?_⟩
  have lor : Lo (Str.ofString (toString ((n : Nat) : Int))) := lo_str _
  have lnr : (Str.ofString (toString ((n : Nat) : Int))).length ≤ 1 := nt_len (h := n) (k := 1) (by decide) (by omega)
  generalize Str.ofString (toString ((n : Nat) : Int)) = w at lor lnr
  refine ⟨_, rfl, _, rfl, ?_⟩
  refine ⟨_, rfl, _, rfl, p, y, k + 8, rfl, loy, by omega, hp3, fun u H4 k4 hp4 lou lu => ?_⟩
  have tx : ∀ (σ : L2.St), σ[2]? = some (some (.str x)) → ∀ n, 8 ≤ n → TxE (tVar 2) σ n := fun σ h n hn => tx_var h lom (by omega)
  have tw : ∀ (σ : L2.St), σ[4]? = some (some (.str w)) → ∀ n, 1 ≤ n → TxE (tVar 4) σ n := fun σ h n hn => tx_var h lor (by omega)
  have tc : ∀ {z : Str} (σ : L2.St) (n : Nat), ((sg z).all (fun c => decide (c < 128)) && decide (z.length ≤ n)) = true → TxE (tC (.str z)) σ n := fun σ n h => by
    rw [Bool.and_eq_true] at h
    exact tx_c (lo_of h.1) (of_decide_eq_true h.2)
  refine (show TxL (tCons (tOp (uAdd K) (tC (.str "0")) (tVar 2)) (tCons (tOp (uAdd K) (tC (.str "-")) (tVar 2)) tNil)) _ 9 2 from txl_cons (tx_add (n := 1) (m := 8) (tc _ _ (by decide +kernel)) (tx _ rfl 8 (by decide)) (by decide)) (txl_cons (tx_add (n := 1) (m := 8) (tc _ _ (by decide +kernel)) (tx _ rfl 8 (by decide)) (by decide)) txl_nil)) H4 _ fun zs ez hz => ?_
  refine ⟨by simp only [List.length_cons, List.length_map, ez]; exact len_le (by decide), fun a5 H5 n5 k5 e5 => ?_⟩
  have A5 : AllT (x :: y :: u :: zs) := fun z hz' => by
    simp only [List.mem_cons] at hz'
    rcases hz' with rfl | rfl | rfl | hz'
    · exact ⟨lom, by omega⟩
    · exact ⟨loy, by omega⟩
    · exact ⟨lou, by omega⟩
    · exact ⟨(hz z hz').1, by have := (hz z hz').2; omega⟩
  refine th_step (xs := x :: y :: u :: zs) (k := 4) (n := 9) rfl e5 A5 (by simp only [List.length_cons, ez]; decide) (by decide) (by decide) (txl_cons ?_ (txl_cons ?_ (txl_cons ?_ (txl_cons ?_ txl_nil)))) fun a6 H6 z6 k6 e6 A6 l6 => ?_
  · exact tx_add (n := 1) (m := 8) (tc _ _ (by decide +kernel)) (tx _ rfl 8 (by decide)) (by decide)
  · exact tx_add (n := 1) (m := 8) (tc _ _ (by decide +kernel)) (tx _ rfl 8 (by decide)) (by decide)
  · exact tx_add (n := 8) (m := 1) (tx _ rfl 8 (by decide)) (tc _ _ (by decide +kernel)) (by decide)
  · exact tx_add (n := 8) (m := 1) (tx _ rfl 8 (by decide)) (tc _ _ (by decide +kernel)) (by decide)
  have l6' : z6.length = 9 := by rw [l6]; simp only [List.length_cons, ez]
  refine th_step (xs := z6) (k := 4) (n := 17) rfl e6 A6 (by omega) (by decide) (by decide) (txl_cons ?_ (txl_cons ?_ (txl_cons ?_ (txl_cons ?_ txl_nil)))) fun a7 H7 z7 k7 e7 A7 l7 => ?_
  · exact tx_add (n := 9) (m := 8) (tx_add (n := 8) (m := 1) (tx _ rfl 8 (by decide)) (tc _ _ (by decide +kernel)) (by decide)) (tx _ rfl 8 (by decide)) (by decide)
  · exact tx_upto rfl lom (by omega) (by decide)
  · exact tx_upto rfl lom (by omega) (by decide)
  · exact tx_from rfl lom (by omega) (by decide)
  refine th_step (xs := z7) (k := 3) (n := 17) rfl e7 A7 (by omega) (by decide) (by decide) (txl_cons ?_ (txl_cons ?_ (txl_cons ?_ txl_nil))) fun a8 H8 z8 k8 e8 A8 l8 => ?_
  · exact tx_repl (n := 8) (tx _ rfl 8 (by decide)) (by decide) (lo_of (by decide +kernel)) (by decide) (by decide)
  · exact tx_add (n := 16) (m := 1) (tx _ rfl 16 (by decide)) (tc _ _ (by decide +kernel)) (by decide)
  · exact tx_add (n := 1) (m := 16) (tc _ _ (by decide +kernel)) (tx _ rfl 16 (by decide)) (by decide)
  refine th_step (xs := z8) (k := 2) (n := 4) rfl e8 A8 (by omega) (by decide) (by decide) (txl_cons ?_ (txl_cons ?_ txl_nil)) fun a9 H9 z9 k9 e9 A9 l9 => ?_
  · exact tx_add (n := 3) (m := 1) (tx_add (n := 1) (m := 2) (tw _ rfl 1 (by decide)) (tc _ _ (by decide +kernel)) (by decide)) (tw _ rfl 1 (by decide)) (by decide)
  · exact tx_add (n := 3) (m := 1) (tx_add (n := 1) (m := 2) (tw _ rfl 1 (by decide)) (tc _ _ (by decide +kernel)) (by decide)) (tw _ rfl 1 (by decide)) (by decide)
  refine th_step (xs := z9) (k := 1) (n := 8) rfl e9 A9 (by omega) (by decide) (by decide) (txl_cons ?_ txl_nil) fun a10 H10 z10 k10 e10 A10 l10 => ?_
  · exact tx_add (n := 7) (m := 1) (tx_add (n := 5) (m := 2) (tx_add (n := 4) (m := 1) (tc _ _ (by decide +kernel)) (tw _ rfl 1 (by decide)) (by decide)) (tc _ _ (by decide +kernel)) (by decide)) (tw _ rfl 1 (by decide)) (by decide)
  refine th_step (xs := z10) (k := 8) (n := 8) rfl e10 A10 (by omega) (by decide) (by decide) (txl_cons ?_ (txl_cons ?_ (txl_cons ?_ (txl_cons ?_ (txl_cons ?_ (txl_cons ?_ (txl_cons ?_ (txl_cons ?_ txl_nil)))))))) fun a11 H11 z11 k11 e11 A11 l11 => ?_
  iterate 8 exact tc _ _ (by decide +kernel)
  refine th_step (xs := z11) (k := 4) (n := 7993) rfl e11 A11 (by omega) (by decide) (by decide) (txl_cons ?_ (txl_cons ?_ (txl_cons ?_ (txl_cons ?_ txl_nil)))) fun a12 H12 z12 k12 e12 A12 l12 => ?_
  · exact tc _ _ (by decide +kernel)
  · exact tc _ _ (by decide +kernel)
  · exact tx_add (n := 60) (m := 7933) (tx_mul (j := 60) (lo_of (by decide +kernel)) rfl (by decide) (by decide)) (tc _ _ (by decide +kernel)) (by decide)
  · exact tx_add (n := 7990) (m := 3) (tx_mul (j := 7990) (lo_of (by decide +kernel)) rfl (by decide) (by decide)) (tc _ _ (by decide +kernel)) (by decide)
  have kp12 : Keep [] H4 H12 := k5.trans (k6.trans (k7.trans (k8.trans (k9.trans (k10.trans (k11.trans k12))))))
  have l12' : z12.length = 31 := by omega
  clear l12 l11 l10 l9 l8 l7 l6 e5 e6 e7 e8 e9 e10 e11 A5 A6 A7 A8 A9 A10 A11
  simp only [List.set_cons_zero, List.set_cons_succ]
  walk_at "sx"
  refine ⟨by walk_at "sz", fun b1 J1 m1 j1 f1 => ⟨by walk_at "sz", fun t1 J2 m2 j2 f2 => ⟨.inr x, rfl, fun d1 J3 m3 j3 f3 => ⟨by walk_at "sz", fun c1 J4 m4 j4 f4 => ?_⟩⟩⟩⟩
  have j04 := j1.trans (j2.trans (j3.trans j4))
  refine g_addL (j04 _ _ nin0 e12) f4 (by rw [List.length_map]; simp only [List.length_cons, List.length_nil]; exact len_le (by omega)) fun a13 J5 m5 j5 e13 => ?_
  refine ⟨by walk_at "sz", fun b2 J6 m6 j6 f6 => fun d2 J7 m7 j7 f7 => ⟨log_small (by omega) (by omega), by walk_at "sz", fun c2 J8 m8 j8 f8 => ?_⟩⟩
  have j58 := j6.trans (j7.trans j8)
  refine g_addL (j58 _ _ nin0 e13) f8 (by simp only [List.length_append, List.length_map, List.length_cons, List.length_nil]; exact len_le (by omega)) fun a14 J9 m9 j9 e14 => ?_
  have j19 : Keep [] J1 J9 := j2.trans (j3.trans (j4.trans (j5.trans (j58.trans j9))))
  have kAll : Keep [] H4 J9 := kp12.trans (j1.trans j19)
  refine q a14 _ J9 (k1.trans (k2.trans (k3.trans (k4.trans kAll.all)))) ((hp4.keep kAll).less (by omega)) e14 (by simp only [List.length_append, List.length_map, List.length_cons, List.length_nil]; omega) fun v hv => ?_
  have lnm : (nt m).length ≤ 7 := nt_len (by decide) (by omega)
  have lonm : Lo (nt m) := lo_str _
  have hv' : v ∈ z12.map V.str ∨ v = .non ∨ v = .bl true ∨ v = .int (m : Nat) ∨ v = .ref b1 ∨ v = .ref t1 ∨ v = .ref d1 ∨ v = .ref b2 ∨ v = .ref d2 ∨ v = .str (nt m) := by
    simp only [List.mem_append, List.mem_cons, List.not_mem_nil, or_false] at hv
    rcases hv with (h | h) | h
    · exact .inl h
    · rcases h with h | h | h | h | h | h
      · exact .inr (.inl h)
      · exact .inr (.inr (.inl h))
      · exact .inr (.inr (.inr (.inl h)))
      · exact .inr (.inr (.inr (.inr (.inl h))))
      · exact .inr (.inr (.inr (.inr (.inr (.inl h)))))
      · exact .inr (.inr (.inr (.inr (.inr (.inr (.inl h))))))
    · rcases h with h | h | h
      · exact .inr (.inr (.inr (.inr (.inr (.inr (.inr (.inl h)))))))
      · exact .inr (.inr (.inr (.inr (.inr (.inr (.inr (.inr (.inl h))))))))
      · exact .inr (.inr (.inr (.inr (.inr (.inr (.inr (.inr (.inr h))))))))
  rcases hv' with h | rfl | rfl | rfl | rfl | rfl | rfl | rfl | rfl | rfl
  · obtain ⟨z, hz, rfl⟩ := List.mem_map.mp h
    exact th_text (A12 z hz).1 (A12 z hz).2
  · exact ⟨.non, (fun _ z => nomatch z), _, .dp .non, trivial, by simp [PyData.depth], by decide⟩
  · exact ⟨.bl true, (fun _ z => nomatch z), _, .dp (.bl true), trivial, by simp [PyData.depth], by decide⟩
  · exact ⟨.int _, (fun _ z => nomatch z), _, .dp (.int _), log_small (by omega) (by omega), by simp [PyData.depth], by show 1921 ≤ 10000000; decide⟩
  · have f := j19 _ _ nin0 f1
    exact ⟨.lst f, fun _ z => (by cases z), _, .lst f (.cons (.dp (.str x)) .nil), ⟨fine_lo lom, trivial⟩, by simp [PyData.depth, PyData.depthAll], by simp only [cost, costs]; omega⟩
  · have f := f2.keep (j3.trans (j4.trans (j5.trans (j58.trans j9)))) nin0
    exact ⟨.tup f, fun _ z => (by cases z), _, .tup f (.cons (.dp (.str x)) .nil), ⟨fine_lo lom, trivial⟩, by simp [PyData.depth, PyData.depthAll], by simp only [cost, costs]; omega⟩
  · have f := (j4.trans (j5.trans (j58.trans j9))) _ _ nin0 f3
    exact ⟨.dic f, fun _ z => (by cases z), _, .dic f rfl (.cons (.dp (.int _)) .nil), ⟨fine_lo lom, log_small (by omega) (by omega), trivial⟩, by simp [PyData.depth, PyData.depthKv, keyD], by show 10 * x.length + 2 + 2 + 1921 + 2 + 0 + 2 ≤ 10000000; omega⟩
  · have f := (j7.trans (j8.trans j9)) _ _ nin0 f6
    exact ⟨.lst f, fun _ z => (by cases z), _, .lst f .nil, trivial, by simp [PyData.depth, PyData.depthAll], by simp only [cost, costs]; omega⟩
  · have f := (j8.trans j9) _ _ nin0 f7
    exact ⟨.dic f, fun _ z => (by cases z), _, .dic f rfl .nil, trivial, by simp [PyData.depth, PyData.depthKv], by decide⟩
  · exact th_text lonm (by omega)


/-! ### the law -/
theorem Tabs.keepL {L : List Addr} {H H' : Hp} {p : Addr} (h : Tabs L H) (k : Keep [p] H H') (n : p ∉ L) : Tabs L H' := fun b hb => let ⟨ps, e, t⟩ := h b hb; ⟨ps, k _ _ (nin1 fun z => n (z ▸ hb)) e, t⟩
theorem Kd.kt {K : PySem.W.Frag} {L : List Addr} {H H' : Hp} {v : V} (ht : Tabs L H) (k : KT L H H') (h : Kd K H v) : Kd K H' v := by
  cases h with
  | non => exact .non
  | bl b => exact .bl b
  | int i => exact .int i
  | str x => exact .str x
  | lst e => exact .lst (k.k _ _ (ht.lst e) e)
  | tup e => exact .tup (e.kt ht k)
  | dic e => exact .dic (k.k _ _ (ht.dK e) e)
section
variable {K : PySem.W.Frag} {L : List Addr} {H H' : Hp} (ht : Tabs L H) (k : KT L H H')
include ht k
mutual
theorem Dp.kt : ∀ {v : V} {d : PyData}, Dp K H v d → Dp K H' v d
  | _, _, .non => .non
  | _, _, .bl b => .bl b
  | _, _, .int i => .int i
  | _, _, .str x => .str x
  | _, _, .lst h q => .lst (by
      rcases h with (h | ⟨o, h⟩) | h
      · exact .inl (.inl (k.k _ _ (ht.nin h fun ps z => nomatch z) h))
      · exact .inl (.inr ⟨o, k.k _ _ (ht.nin h fun ps z => nomatch z) h⟩)
      · exact .inr h) (DpAll.kt q)
  | _, _, .tup h q => .tup (by
      rcases h with (h | ⟨o, h⟩) | h
      · exact .inl (.inl (k.k _ _ (ht.nin h fun ps z => nomatch z) h))
      · exact .inl (.inr ⟨o, k.k _ _ (ht.nin h fun ps z => nomatch z) h⟩)
      · exact .inr h) (DpAll.kt q)
theorem DpAll.kt : ∀ {vs : List V} {ds : List PyData}, DpAll K H vs ds → DpAll K H' vs ds
  | _, _, .nil => .nil
  | _, _, .cons h q => .cons (Dp.kt h) (DpAll.kt q)
end
mutual
theorem Dr.kt : ∀ {v : V} {d : PyData}, Dr K H v d → Dr K H' v d
  | _, _, .dp h => .dp (Dp.kt ht k h)
  | _, _, .lst h a => .lst (k.k _ _ (ht.lst h) h) (DrAll.kt a)
  | _, _, .tup h a => .tup (h.kt ht k) (DrAll.kt a)
  | _, _, .dic h e a => .dic (k.k _ _ (ht.dK h) h) e (DrAll.kt a)
theorem DrAll.kt : ∀ {vs : List V} {ds : List PyData}, DrAll K H vs ds → DrAll K H' vs ds
  | _, _, .nil => .nil
  | _, _, .cons h r => .cons (Dr.kt h) (DrAll.kt r)
end
end
theorem Tg4.kt {K : PySem.W.Frag} {L : List Addr} {H H' : Hp} {v : V} (h : Tg4 K H v) (ht : Tabs L H) (k : KT L H H') : Tg4 K H' v :=
  ⟨h.kd.kt ht k, h.tx, let ⟨d, a, r⟩ := h.dr; ⟨d, Dr.kt ht k a, r⟩⟩
theorem mt_inj {a b : Nat} (h : mt a = mt b) : a = b := by
  obtain ⟨f1, f2⟩ := mt_cut (mt_sg a) (num_58 _) h
  have e1 : nt (a / 60) = nt (b / 60) := by
    rw [← f1]
    exact PySem.Str.ext' (Array.ext' (by show sg (nt _) = TL.numL _; rw [sg_nt]))
  have e2 : two (a % 60) = two (b % 60) := by
    rw [← f2]
    rfl
  have h1 := nt_inj e1
  have h2 := two_inj e2
  omega
theorem seven : Str.ofString "0:07" = mt 7 := by decide +kernel
/-- what the law tells of a thing -/
def Due (K : PySem.W.Frag) (H : Hp) (v : V) (x : V) (d : PyData) : Prop :=
  Dr K H x d ∧ fine d ∧ d.depth ≤ 100 ∧ cost d ≤ 10000000 ∧ ((∃ m, m ≤ 1000000 ∧ v = .str (mt m) ∧ d = .list [.str "told", .int (m : Nat)]) ∨ (NoM v ∧ d = .list [.str "refused", .int 0, .list [.bool true, .bool true, .bool true, .bool false, .bool false]]))
theorem due_told {K : PySem.W.Frag} {H : Hp} {v : V} {a : Addr} {m : Nat} (hm : m ≤ 1000000) (e : v = .str (mt m)) (h : H a = some (.lst [.str "told", .int (m : Nat)])) : Due K H v (.ref a) (.list [.str "told", .int (m : Nat)]) :=
  ⟨.lst h (.cons (.dp (.str _)) (.cons (.dp (.int _)) .nil)), ⟨fine_lo (lo_of (by decide +kernel)), log_small (by omega) (by omega), trivial⟩, by simp [PyData.depth, PyData.depthAll], by show (10 * 4 + 2) + 2 + (1921 + 2 + 0) + 2 ≤ 10000000; decide, .inl ⟨m, hm, e, rfl⟩⟩
theorem due_ref {K : PySem.W.Frag} {H : Hp} {v : V} {a b : Addr} (n : NoM v) (h : H a = some (.lst [.str "refused", .int 0, .ref b])) (hb : H b = some (.lst [.bl true, .bl true, .bl true, .bl false, .bl false])) : Due K H v (.ref a) (.list [.str "refused", .int 0, .list [.bool true, .bool true, .bool true, .bool false, .bool false]]) :=
  ⟨.lst h (.cons (.dp (.str _)) (.cons (.dp (.int _)) (.cons (.lst hb (.cons (.dp (.bl _)) (.cons (.dp (.bl _)) (.cons (.dp (.bl _)) (.cons (.dp (.bl _)) (.cons (.dp (.bl _)) .nil)))))) .nil))), ⟨fine_lo (lo_of (by decide +kernel)), log_small (by omega) (by omega), ⟨trivial, trivial, trivial, trivial, trivial, trivial⟩, trivial⟩, by simp [PyData.depth, PyData.depthAll], by decide +kernel, .inr ⟨n, rfl⟩⟩
theorem Due.kt {K : PySem.W.Frag} {L : List Addr} {H H' : Hp} {v x : V} {d : PyData} (h : Due K H v x d) (ht : Tabs L H) (k : KT L H H') : Due K H' v x d := ⟨Dr.kt ht k h.1, h.2⟩
theorem Due.one {K : PySem.W.Frag} {H H' : Hp} {v x y : V} {d d' : PyData} (h : Due K H v x d) (h' : Due K H' v y d') : d = d' := by
  rcases h.2.2.2.2 with ⟨m, hm, e, r⟩ | ⟨n, r⟩ <;> rcases h'.2.2.2.2 with ⟨m', hm', e', r'⟩ | ⟨n', r'⟩
  · have := mt_inj (V.str.inj (e.symm.trans e'))
    rw [r, r', this]
  · exact (n' m hm e).elim
  · exact (n m' hm' e').elim
  · rw [r, r']


def spLaw (K : PySem.W.Frag) (L : List Addr) : Sp := fun vs H Q _ => ∃ (a : Addr) (ns : List Int), vs = [.ref a] ∧ Scr K H a (ns.map V.int) ∧ ns.length ≤ 63 ∧ Tabs L H ∧ ∀ H', Q (.bl true) H'
theorem rd_law (K : PySem.W.Frag) {L : List Addr} {P : Addr} (hP : P ∈ L) : ∀ vs H Q E, spLaw K L vs H Q E → run (t_law K (spThings K) (spPen K) (spReadA K) (spToldA K L P)) (L2.start N_law vs) H Q := by
  rintro _ H Q _ ⟨a, ns, rfl, hS, hl, htb, q⟩
  show run (t_law K (spThings K) (spPen K) (spReadA K) (spToldA K L P)) [some (.ref a), none, none, none, none] H Q
  unfold t_law
  walk_at "sx"
  refine g_lenQ hS.sq ?_
  walk_at "sx"
  rw [List.length_map]
  refine g_FR1 (by split <;> split <;> omega) (by split <;> split <;> omega) ⟨fun i σ H' => ∃ (x1 x2 x3 x4 : Option V), σ = [some (.ref a), x1, x2, x3, x4] ∧ Scr K H' a (ns.map V.int) ∧ Tabs L H', ⟨_, _, _, _, rfl, hS, htb⟩, ?_, ?_⟩
  · rintro i σ H1 hi ⟨x1, x2, x3, x4, rfl, hS1, tb1⟩
    unfold t_law_b2
    walk_at "sx"
    refine ⟨a, _, ns, rfl, hS1.sq, Int.natCast_nonneg i, fun p H2 n2 k2 hp => ?_⟩
    refine ⟨p, 999980, rfl, hp, fun l xs H3 k3 _ e3 lx th => ?_⟩
    have hS3 : Scr K H3 a (ns.map V.int) := hS1.past n2 k2 k3
    have tb3 : Tabs L H3 := (tb1.keep0 k2).keepL k3 (tb1.ninN n2)
    refine g_FL (fun j σ H' => ∃ (y2 y3 y4 : Option V), σ = [some (.ref a), some (.int (i : Nat)), y2, y3, y4] ∧ KT L H3 H') (lst_sq e3) ⟨_, _, _, rfl, KT.refl _ _⟩ ?_ ?_ ?_
    · rintro j σ H' _ ⟨y2, y3, y4, rfl, k4⟩
      exact lst_sq (k4.k _ _ (tb3.lst e3) e3)
    · rintro j v σ H4 hx ⟨y2, y3, y4, rfl, k4⟩
      have tb4 := k4.t tb3
      have t4 := (th v (List.mem_of_getElem? hx)).kt tb3 k4
      obtain ⟨d, dr, fi, dd, dc⟩ := t4.dr
      unfold t_law_b1
      walk_at "sx"
      refine g_repX dr fi dd dc ?_
      walk_at "sx"
      refine ⟨by walk_at "sz", fun b5 H5 n5 k5 e5 => ⟨by walk_at "sz", fun a6 H6 n6 k6 e6 => ?_⟩⟩
      walk_at "sx"
      have k46 : KT L H4 H6 := KT.of0 (k5.trans k6)
      have tb6 := k46.t tb4
      have t6 := t4.kt tb4 k46
      have fin : ∀ (x : V) (dx : PyData) (H7 : Hp), KT L H6 H7 → Due K H7 v x dx →
          t_law_r2 K (spThings K) (spPen K) (spReadA K) (spToldA K L P) { nx := fun σ H' => ∃ (y2 y3 y4 : Option V), σ = [some (.ref a), some (.int (i : Nat)), y2, y3, y4] ∧ KT L H3 H', rt := Q, ct := fun σ H' => ∃ (y2 y3 y4 : Option V), σ = [some (.ref a), some (.int (i : Nat)), y2, y3, y4] ∧ KT L H3 H', bk := fun σ H' => ∃ (x1 x2 x3 x4 : Option V), σ = [some (.ref a), x1, x2, x3, x4] ∧ Scr K H' a (ns.map V.int) ∧ Tabs L H' } [some (.ref a), some (.int (i : Nat)), some v, some (.str d.shown), some x] H7 := by
        intro x dx H7 k7 due
        have tb7 := k7.t tb6
        have t7 := t6.kt tb6 k7
        unfold t_law_r2
        walk_at "sx"
        have tail : ∀ H8, KT L H7 H8 → t_law_r1 K (spThings K) (spPen K) (spReadA K) (spToldA K L P) { nx := fun σ H' => ∃ (y2 y3 y4 : Option V), σ = [some (.ref a), some (.int (i : Nat)), y2, y3, y4] ∧ KT L H3 H', rt := Q, ct := fun σ H' => ∃ (y2 y3 y4 : Option V), σ = [some (.ref a), some (.int (i : Nat)), y2, y3, y4] ∧ KT L H3 H', bk := fun σ H' => ∃ (x1 x2 x3 x4 : Option V), σ = [some (.ref a), x1, x2, x3, x4] ∧ Scr K H' a (ns.map V.int) ∧ Tabs L H' } [some (.ref a), some (.int (i : Nat)), some v, some (.str d.shown), some x] H8 := by
          intro H8 k8
          unfold t_law_r1
          walk_at "sx"
          rw [seven]
          refine ⟨.str (mt 7), rfl, .str _, fun z e => ?_, k8.t tb7, hP, fun m c H9 k9 hm em e9 => ⟨by walk_at "sz", fun c2 H10 n10 k10 e10 => ?_⟩, fun nm => (nm 7 (by decide) rfl).elim⟩
          · rw [← V.str.inj e]
            have := mt_len (m := 7) (by decide)
            omega
          · have m7 := mt_inj (V.str.inj em)
            subst m7
            have dp : ∀ {c : Addr}, H10 c = some (.lst [.str "told", .int ((7 : Nat) : Int)]) → Dp K H10 (.ref c) (.list [.str "told", .int ((7 : Nat) : Int)]) := fun e => .lst (lst_sq e) (.cons (.str _) (.cons (.int _) .nil))
            refine .inr ⟨_, _, dp (k10 _ _ nin0 e9), dp e10, by decide +kernel, by decide +kernel, ?_⟩
            rw [if_pos rfl, SeqAt.eqv_refl _ (by decide +kernel)]
            refine ⟨false, rfl, ?_⟩
            rw [if_neg (by decide)]
            exact ⟨_, _, _, rfl, k4.trans (k46.trans (k7.trans (k8.trans (k9.trans (KT.of0 k10)))))⟩
        have go : ∀ y dy H8, KT L H7 H8 → Due K H8 v y dy → ∀ V1 : VK, V1 (.bl false) H8 → uReprX K [y] H8 (fun s H => uReprX K [x] H fun s2 H => uEq K true s s2 H V1) := by
          intro y dy H8 k8 due2 V1 v1
          have due3 := due.kt tb7 k8
          have same := due2.one due3
          subst same
          refine g_repX due2.1 due2.2.1 due2.2.2.1 due2.2.2.2.1 (g_repX due3.1 due3.2.1 due3.2.2.1 due3.2.2.2.1 (g_ne rfl ?_))
          rw [decide_eq_true rfl]
          exact v1
        have last : ∀ H8, KT L H7 H8 → ∀ V1 : VK, V1 (.bl false) H8 → uReprX K [v] H8 (fun s H => uEq K true s (.str d.shown) H V1) := by
          intro H8 k8 V1 v1
          refine g_repX (Dr.kt tb7 k8 (Dr.kt tb6 k7 (Dr.kt tb4 k46 dr))) fi dd dc (g_ne rfl ?_)
          rw [decide_eq_true rfl]
          exact v1
        refine ⟨v, rfl, t7.kd, fun z e => (t7.tx z e).1, tb7, hP, fun m c H8 k8 hm em e8 => ?_, fun nm c b H8 k8 e8 eb => ?_⟩
        · refine go _ _ H8 k8 (due_told hm em e8) _ ⟨false, rfl, ?_⟩
          rw [if_neg (by decide)]
          refine last H8 k8 _ ⟨false, rfl, ?_⟩
          rw [if_neg (by decide)]
          exact tail H8 k8
        · refine go _ _ H8 k8 (due_ref nm e8 eb) _ ⟨false, rfl, ?_⟩
          rw [if_neg (by decide)]
          refine last H8 k8 _ ⟨false, rfl, ?_⟩
          rw [if_neg (by decide)]
          exact tail H8 k8
      refine ⟨v, rfl, t6.kd, t6.tx, fun m H7 k7 hm em => ?_, fun nm H7 k7 => ?_⟩
      · show (if (!decide (V.int (m : Nat) = V.non)) = true then _ else _)
        rw [if_pos (show (!decide (V.int (m : Nat) = V.non)) = true from rfl)]
        have t7 := t6.keep k7
        refine ⟨v, rfl, t7.kd, t7.tx, fun m2 H8 k8 hm2 em2 => ⟨by walk_at "sz", fun c H9 n9 k9 e9 => ?_⟩, fun nm => (nm m hm em).elim⟩
        exact fin _ _ H9 (KT.of0 (k7.trans (k8.trans k9))) (due_told hm2 em2 e9)
      · show (if (!decide (V.non = V.non)) = true then _ else _)
        rw [if_neg (by decide)]
        exact fin _ _ H7 (KT.of0 k7) (due_ref nm (k7 _ _ nin0 e6) ((k6.trans k7) _ _ nin0 e5))
    · rintro σ H4 ⟨y2, y3, y4, rfl, k4⟩
      exact ⟨_, _, _, _, rfl, hS3.kt tb3 k4, k4.t tb3⟩
  · rintro σ H1 ⟨x1, x2, x3, x4, rfl, hS1, tb1⟩
    unfold t_law_r3
    walk_at "sx"
    exact q H1


theorem all_mk {P q : Program} {w : World} {K : PySem.W.Frag} {h : Heap} {mg : Str → Option Value} {fa : Addr} (X : K.In h) (G : h.Ns mainGlobals mg) (hfa : mg "law" = some (.ref fa))
    {c_NoText : Addr} (ad_NoText : PySem.W.nsIn K mainGlobals "NoText" = some (some (.ref c_NoText)))
    {c_WagonError : Addr} (ad_WagonError : PySem.W.nsIn K mainGlobals "WagonError" = some (some (.ref c_WagonError)))
    {c_NoMoment : Addr} (ad_NoMoment : PySem.W.nsIn K mainGlobals "NoMoment" = some (some (.ref c_NoMoment)))
    {c_NoLog : Addr} (ad_NoLog : PySem.W.nsIn K mainGlobals "NoLog" = some (some (.ref c_NoLog)))
    {c_NoDeed : Addr} (ad_NoDeed : PySem.W.nsIn K mainGlobals "NoDeed" = some (some (.ref c_NoDeed)))
    {c_NoCall : Addr} (ad_NoCall : PySem.W.nsIn K mainGlobals "NoCall" = some (some (.ref c_NoCall)))
    {c_Late : Addr} (ad_Late : PySem.W.nsIn K mainGlobals "Late" = some (some (.ref c_Late)))
    {c_TooMany : Addr} (ad_TooMany : PySem.W.nsIn K mainGlobals "TooMany" = some (some (.ref c_TooMany)))
    {c_NoTown : Addr} (ad_NoTown : PySem.W.nsIn K mainGlobals "NoTown" = some (some (.ref c_NoTown)))
    {c_NoTelling : Addr} (ad_NoTelling : PySem.W.nsIn K mainGlobals "NoTelling" = some (some (.ref c_NoTelling)))
    {c_NoRow : Addr} (ad_NoRow : PySem.W.nsIn K mainGlobals "NoRow" = some (some (.ref c_NoRow)))
    {c_NoPaper : Addr} (ad_NoPaper : PySem.W.nsIn K mainGlobals "NoPaper" = some (some (.ref c_NoPaper)))
    (wga : PySem.W.specialIn K (.ref c_WagonError) "__getattribute__" = some (some (.builtin "type.__getattribute__"))) (wrd : PySem.W.readsIn K c_WagonError (.type "type") = true) (wfi : PySem.W.findCls K (.ref c_WagonError) (.type "type") "__init__" = some (.val (.builtin "ValueError.__init__")))
    {nm_NoText q_NoText : Str} {N_NoText : Addr} {bs_NoText : List Value} {sn_NoText : List Str} {sub_NoText : List Value} {ab_NoText : Bool} {col_NoText : Option Bool} {dd_NoText : Option Addr} {k0_NoText k1_NoText k2_NoText k3_NoText k5_NoText : Option Value}
    (oc_NoText : K.lookup c_NoText = some (excClassObj nm_NoText q_NoText c_NoText N_NoText bs_NoText [.ref c_WagonError, .type "ValueError", .type "Exception", .type "BaseException", .type "object"] true sn_NoText sub_NoText ab_NoText col_NoText dd_NoText k0_NoText k1_NoText k2_NoText k3_NoText k5_NoText "ValueError.__new__"))
    (sa_NoText : PySem.W.findIn K (.ref c_NoText) "__setattr__" = some (some (.builtin "object.__setattr__"))) (ex_NoText : PySem.W.subIn K (.ref c_NoText) (.type "BaseException") = some true) (ty_NoText : PySem.W.typeIn K (.ref c_NoText) = some (.type "type")) (kc_NoText : PySem.W.keepIn K (.ref c_NoText) = true)
    (na_NoText_row : PySem.W.findIn K (.ref c_NoText) "row" = some none)
    (F9 : NoTF K c_WagonError c_NoText [c_Late, c_NoCall, c_NoDeed, c_NoLog, c_NoMoment] [c_NoPaper, c_NoRow, c_NoTelling, c_NoTown, c_TooMany])
    {a_NoText____init__ : Addr} {od_NoText____init__ an_NoText____init__ : Option Addr} {sl_NoText____init__ : Array (Option Value)} {oc_NoText____init__ kV_NoText____init__ dc_NoText____init__ pm_NoText____init__ cd_NoText____init__ ct_NoText____init__ : Value}
    (fi_NoText____init__ : PySem.W.findIn K (.ref c_NoText) "__init__" = some (some (.ref a_NoText____init__))) (ifn_NoText____init__ : PySem.W.isFn K (.ref a_NoText____init__) = true)
    (lo_NoText____init__ : K.lookup a_NoText____init__ = some ⟨oc_NoText____init__, od_NoText____init__, .func (PySem.W.fnOf "__init__" "NoText.__init__" (defArgs s_NoText____init___) (defBody s_NoText____init___) (defScope s_NoText____init___) .none kV_NoText____init__ dc_NoText____init__ pm_NoText____init__ an_NoText____init__ cd_NoText____init__ ct_NoText____init__), sl_NoText____init__⟩)
    (co_NoText____init__ : PySem.W.codeIn K cd_NoText____init__ "NoText.__init__" = true) (kp_NoText____init__ : PySem.W.keepIn K (.ref a_NoText____init__) = true)
    {a_is_whole : Addr} {od_is_whole an_is_whole : Option Addr} {sl_is_whole : Array (Option Value)} {oc_is_whole kV_is_whole dc_is_whole pm_is_whole cd_is_whole ct_is_whole : Value}
    (ad_is_whole : PySem.W.nsIn K mainGlobals "is_whole" = some (some (.ref a_is_whole)))
    (lo_is_whole : K.lookup a_is_whole = some ⟨oc_is_whole, od_is_whole, .func (PySem.W.fnOf "is_whole" "is_whole" (defArgs s_is_whole_) (defBody s_is_whole_) (defScope s_is_whole_) .none kV_is_whole dc_is_whole pm_is_whole an_is_whole cd_is_whole ct_is_whole), sl_is_whole⟩)
    (co_is_whole : PySem.W.codeIn K cd_is_whole "is_whole" = true) (kp_is_whole : PySem.W.keepIn K (.ref a_is_whole) = true)
    {a_is_within : Addr} {od_is_within an_is_within : Option Addr} {sl_is_within : Array (Option Value)} {oc_is_within kV_is_within dc_is_within pm_is_within cd_is_within ct_is_within : Value}
    (ad_is_within : PySem.W.nsIn K mainGlobals "is_within" = some (some (.ref a_is_within)))
    (lo_is_within : K.lookup a_is_within = some ⟨oc_is_within, od_is_within, .func (PySem.W.fnOf "is_within" "is_within" (defArgs s_is_within_) (defBody s_is_within_) (defScope s_is_within_) .none kV_is_within dc_is_within pm_is_within an_is_within cd_is_within ct_is_within), sl_is_within⟩)
    (co_is_within : PySem.W.codeIn K cd_is_within "is_within" = true) (kp_is_within : PySem.W.keepIn K (.ref a_is_within) = true)
    {a_is_moment : Addr} {od_is_moment an_is_moment : Option Addr} {sl_is_moment : Array (Option Value)} {oc_is_moment kV_is_moment dc_is_moment pm_is_moment cd_is_moment ct_is_moment : Value}
    (ad_is_moment : PySem.W.nsIn K mainGlobals "is_moment" = some (some (.ref a_is_moment)))
    (lo_is_moment : K.lookup a_is_moment = some ⟨oc_is_moment, od_is_moment, .func (PySem.W.fnOf "is_moment" "is_moment" (defArgs s_is_moment_) (defBody s_is_moment_) (defScope s_is_moment_) .none kV_is_moment dc_is_moment pm_is_moment an_is_moment cd_is_moment ct_is_moment), sl_is_moment⟩)
    (co_is_moment : PySem.W.codeIn K cd_is_moment "is_moment" = true) (kp_is_moment : PySem.W.keepIn K (.ref a_is_moment) = true)
    {a_number_by tc_number_by P_number_by : Addr} {od_number_by an_number_by : Option Addr} {sl_number_by : Array (Option Value)} {oc_number_by kV_number_by dc_number_by pm_number_by ct_number_by : Value}
    (ad_number_by : PySem.W.nsIn K mainGlobals "number_by" = some (some (.ref a_number_by)))
    (lo_number_by : K.lookup a_number_by = some ⟨oc_number_by, od_number_by, .func (PySem.W.fnOf "number_by" "number_by" (defArgs s_number_by_) (defBody s_number_by_) (defScope s_number_by_) .none kV_number_by dc_number_by pm_number_by an_number_by (.ref tc_number_by) ct_number_by), sl_number_by⟩)
    (co_number_by : PySem.W.codeIn K (.ref tc_number_by) "number_by" = true) (kp_number_by : PySem.W.keepIn K (.ref a_number_by) = true)
    (tb_number_by : tabIn K tc_number_by = some P_number_by) (re_number_by : ((recsOf q).any fun e => e.name == "number_by") = true)
    {a__minutes_by : Addr} {od__minutes_by an__minutes_by : Option Addr} {sl__minutes_by : Array (Option Value)} {oc__minutes_by kV__minutes_by dc__minutes_by pm__minutes_by cd__minutes_by ct__minutes_by : Value}
    (ad__minutes_by : PySem.W.nsIn K mainGlobals "_minutes_by" = some (some (.ref a__minutes_by)))
    (lo__minutes_by : K.lookup a__minutes_by = some ⟨oc__minutes_by, od__minutes_by, .func (PySem.W.fnOf "_minutes_by" "_minutes_by" (defArgs s__minutes_by_) (defBody s__minutes_by_) (defScope s__minutes_by_) .none kV__minutes_by dc__minutes_by pm__minutes_by an__minutes_by cd__minutes_by ct__minutes_by), sl__minutes_by⟩)
    (co__minutes_by : PySem.W.codeIn K cd__minutes_by "_minutes_by" = true) (kp__minutes_by : PySem.W.keepIn K (.ref a__minutes_by) = true)
    {a_moment_by : Addr} {od_moment_by an_moment_by : Option Addr} {sl_moment_by : Array (Option Value)} {oc_moment_by kV_moment_by dc_moment_by pm_moment_by cd_moment_by ct_moment_by : Value}
    (ad_moment_by : PySem.W.nsIn K mainGlobals "moment_by" = some (some (.ref a_moment_by)))
    (lo_moment_by : K.lookup a_moment_by = some ⟨oc_moment_by, od_moment_by, .func (PySem.W.fnOf "moment_by" "moment_by" (defArgs s_moment_by_) (defBody s_moment_by_) (defScope s_moment_by_) .none kV_moment_by dc_moment_by pm_moment_by an_moment_by cd_moment_by ct_moment_by), sl_moment_by⟩)
    (co_moment_by : PySem.W.codeIn K cd_moment_by "moment_by" = true) (kp_moment_by : PySem.W.keepIn K (.ref a_moment_by) = true)
    {a__law_pen : Addr} {od__law_pen an__law_pen : Option Addr} {sl__law_pen : Array (Option Value)} {oc__law_pen kV__law_pen dc__law_pen pm__law_pen cd__law_pen ct__law_pen : Value}
    (ad__law_pen : PySem.W.nsIn K mainGlobals "_law_pen" = some (some (.ref a__law_pen)))
    (lo__law_pen : K.lookup a__law_pen = some ⟨oc__law_pen, od__law_pen, .func (PySem.W.fnOf "_law_pen" "_law_pen" (defArgs s__law_pen_) (defBody s__law_pen_) (defScope s__law_pen_) .none kV__law_pen dc__law_pen pm__law_pen an__law_pen cd__law_pen ct__law_pen), sl__law_pen⟩)
    (co__law_pen : PySem.W.codeIn K cd__law_pen "_law_pen" = true) (kp__law_pen : PySem.W.keepIn K (.ref a__law_pen) = true)
    {a__law_draw : Addr} {od__law_draw an__law_draw : Option Addr} {sl__law_draw : Array (Option Value)} {oc__law_draw kV__law_draw dc__law_draw pm__law_draw cd__law_draw ct__law_draw : Value}
    (ad__law_draw : PySem.W.nsIn K mainGlobals "_law_draw" = some (some (.ref a__law_draw)))
    (lo__law_draw : K.lookup a__law_draw = some ⟨oc__law_draw, od__law_draw, .func (PySem.W.fnOf "_law_draw" "_law_draw" (defArgs s__law_draw_) (defBody s__law_draw_) (defScope s__law_draw_) .none kV__law_draw dc__law_draw pm__law_draw an__law_draw cd__law_draw ct__law_draw), sl__law_draw⟩)
    (co__law_draw : PySem.W.codeIn K cd__law_draw "_law_draw" = true) (kp__law_draw : PySem.W.keepIn K (.ref a__law_draw) = true)
    {a__law_signs : Addr} {od__law_signs an__law_signs : Option Addr} {sl__law_signs : Array (Option Value)} {oc__law_signs kV__law_signs dc__law_signs pm__law_signs cd__law_signs ct__law_signs : Value}
    (ad__law_signs : PySem.W.nsIn K mainGlobals "_law_signs" = some (some (.ref a__law_signs)))
    (lo__law_signs : K.lookup a__law_signs = some ⟨oc__law_signs, od__law_signs, .func (PySem.W.fnOf "_law_signs" "_law_signs" (defArgs s__law_signs_) (defBody s__law_signs_) (defScope s__law_signs_) .none kV__law_signs dc__law_signs pm__law_signs an__law_signs cd__law_signs ct__law_signs), sl__law_signs⟩)
    (co__law_signs : PySem.W.codeIn K cd__law_signs "_law_signs" = true) (kp__law_signs : PySem.W.keepIn K (.ref a__law_signs) = true)
    {a__law_moment_text : Addr} {od__law_moment_text an__law_moment_text : Option Addr} {sl__law_moment_text : Array (Option Value)} {oc__law_moment_text kV__law_moment_text dc__law_moment_text pm__law_moment_text cd__law_moment_text ct__law_moment_text : Value}
    (ad__law_moment_text : PySem.W.nsIn K mainGlobals "_law_moment_text" = some (some (.ref a__law_moment_text)))
    (lo__law_moment_text : K.lookup a__law_moment_text = some ⟨oc__law_moment_text, od__law_moment_text, .func (PySem.W.fnOf "_law_moment_text" "_law_moment_text" (defArgs s__law_moment_text_) (defBody s__law_moment_text_) (defScope s__law_moment_text_) .none kV__law_moment_text dc__law_moment_text pm__law_moment_text an__law_moment_text cd__law_moment_text ct__law_moment_text), sl__law_moment_text⟩)
    (co__law_moment_text : PySem.W.codeIn K cd__law_moment_text "_law_moment_text" = true) (kp__law_moment_text : PySem.W.keepIn K (.ref a__law_moment_text) = true)
    {a__law_moment : Addr} {od__law_moment an__law_moment : Option Addr} {sl__law_moment : Array (Option Value)} {oc__law_moment kV__law_moment dc__law_moment pm__law_moment cd__law_moment ct__law_moment : Value}
    (ad__law_moment : PySem.W.nsIn K mainGlobals "_law_moment" = some (some (.ref a__law_moment)))
    (lo__law_moment : K.lookup a__law_moment = some ⟨oc__law_moment, od__law_moment, .func (PySem.W.fnOf "_law_moment" "_law_moment" (defArgs s__law_moment_) (defBody s__law_moment_) (defScope s__law_moment_) .none kV__law_moment dc__law_moment pm__law_moment an__law_moment cd__law_moment ct__law_moment), sl__law_moment⟩)
    (co__law_moment : PySem.W.codeIn K cd__law_moment "_law_moment" = true) (kp__law_moment : PySem.W.keepIn K (.ref a__law_moment) = true)
    {a__law_marks : Addr} {od__law_marks an__law_marks : Option Addr} {sl__law_marks : Array (Option Value)} {oc__law_marks kV__law_marks dc__law_marks pm__law_marks cd__law_marks ct__law_marks : Value}
    (ad__law_marks : PySem.W.nsIn K mainGlobals "_law_marks" = some (some (.ref a__law_marks)))
    (lo__law_marks : K.lookup a__law_marks = some ⟨oc__law_marks, od__law_marks, .func (PySem.W.fnOf "_law_marks" "_law_marks" (defArgs s__law_marks_) (defBody s__law_marks_) (defScope s__law_marks_) .none kV__law_marks dc__law_marks pm__law_marks an__law_marks cd__law_marks ct__law_marks), sl__law_marks⟩)
    (co__law_marks : PySem.W.codeIn K cd__law_marks "_law_marks" = true) (kp__law_marks : PySem.W.keepIn K (.ref a__law_marks) = true)
    {a__law_read : Addr} {od__law_read an__law_read : Option Addr} {sl__law_read : Array (Option Value)} {oc__law_read kV__law_read dc__law_read pm__law_read cd__law_read ct__law_read : Value}
    (ad__law_read : PySem.W.nsIn K mainGlobals "_law_read" = some (some (.ref a__law_read)))
    (lo__law_read : K.lookup a__law_read = some ⟨oc__law_read, od__law_read, .func (PySem.W.fnOf "_law_read" "_law_read" (defArgs s__law_read_) (defBody s__law_read_) (defScope s__law_read_) .none kV__law_read dc__law_read pm__law_read an__law_read cd__law_read ct__law_read), sl__law_read⟩)
    (co__law_read : PySem.W.codeIn K cd__law_read "_law_read" = true) (kp__law_read : PySem.W.keepIn K (.ref a__law_read) = true)
    {a__law_told : Addr} {od__law_told an__law_told : Option Addr} {sl__law_told : Array (Option Value)} {oc__law_told kV__law_told dc__law_told pm__law_told cd__law_told ct__law_told : Value}
    (ad__law_told : PySem.W.nsIn K mainGlobals "_law_told" = some (some (.ref a__law_told)))
    (lo__law_told : K.lookup a__law_told = some ⟨oc__law_told, od__law_told, .func (PySem.W.fnOf "_law_told" "_law_told" (defArgs s__law_told_) (defBody s__law_told_) (defScope s__law_told_) .none kV__law_told dc__law_told pm__law_told an__law_told cd__law_told ct__law_told), sl__law_told⟩)
    (co__law_told : PySem.W.codeIn K cd__law_told "_law_told" = true) (kp__law_told : PySem.W.keepIn K (.ref a__law_told) = true)
    {a__law_bent : Addr} {od__law_bent an__law_bent : Option Addr} {sl__law_bent : Array (Option Value)} {oc__law_bent kV__law_bent dc__law_bent pm__law_bent cd__law_bent ct__law_bent : Value}
    (ad__law_bent : PySem.W.nsIn K mainGlobals "_law_bent" = some (some (.ref a__law_bent)))
    (lo__law_bent : K.lookup a__law_bent = some ⟨oc__law_bent, od__law_bent, .func (PySem.W.fnOf "_law_bent" "_law_bent" (defArgs s__law_bent_) (defBody s__law_bent_) (defScope s__law_bent_) .none kV__law_bent dc__law_bent pm__law_bent an__law_bent cd__law_bent ct__law_bent), sl__law_bent⟩)
    (co__law_bent : PySem.W.codeIn K cd__law_bent "_law_bent" = true) (kp__law_bent : PySem.W.keepIn K (.ref a__law_bent) = true)
    {a__law_things : Addr} {od__law_things an__law_things : Option Addr} {sl__law_things : Array (Option Value)} {oc__law_things kV__law_things dc__law_things pm__law_things cd__law_things ct__law_things : Value}
    (ad__law_things : PySem.W.nsIn K mainGlobals "_law_things" = some (some (.ref a__law_things)))
    (lo__law_things : K.lookup a__law_things = some ⟨oc__law_things, od__law_things, .func (PySem.W.fnOf "_law_things" "_law_things" (defArgs s__law_things_) (defBody s__law_things_) (defScope s__law_things_) .none kV__law_things dc__law_things pm__law_things an__law_things cd__law_things ct__law_things), sl__law_things⟩)
    (co__law_things : PySem.W.codeIn K cd__law_things "_law_things" = true) (kp__law_things : PySem.W.keepIn K (.ref a__law_things) = true)
    {a_law : Addr} {od_law an_law : Option Addr} {sl_law : Array (Option Value)} {oc_law kV_law dc_law pm_law cd_law ct_law : Value}
    (ad_law : PySem.W.nsIn K mainGlobals "law" = some (some (.ref a_law)))
    (lo_law : K.lookup a_law = some ⟨oc_law, od_law, .func (PySem.W.fnOf "law" "law" (defArgs s_law_) (defBody s_law_) (defScope s_law_) .none kV_law dc_law pm_law an_law cd_law ct_law), sl_law⟩)
    (co_law : PySem.W.codeIn K cd_law "law" = true) (kp_law : PySem.W.keepIn K (.ref a_law) = true)
    {tk_LAST_MOMENT : Tok} (cn_LAST_MOMENT : PySem.W.nsIn K mainGlobals "LAST_MOMENT" = some (some (.int 1000000 tk_LAST_MOMENT)))
    {tk_FIGURES : Tok} (cn_FIGURES : PySem.W.nsIn K mainGlobals "FIGURES" = some (some (.str "0123456789" tk_FIGURES)))
    {tk_HOUR : Tok} (cn_HOUR : PySem.W.nsIn K mainGlobals "HOUR" = some (some (.int 60 tk_HOUR)))
    (no_isinstance : PySem.W.nsIn K mainGlobals "isinstance" = some none)
    (no_int : PySem.W.nsIn K mainGlobals "int" = some none)
    (no_bool : PySem.W.nsIn K mainGlobals "bool" = some none)
    (no_len : PySem.W.nsIn K mainGlobals "len" = some none)
    (no_str : PySem.W.nsIn K mainGlobals "str" = some none)
    (no_all : PySem.W.nsIn K mainGlobals "all" = some none)
    (no_abs : PySem.W.nsIn K mainGlobals "abs" = some none)
    (no_max : PySem.W.nsIn K mainGlobals "max" = some none)
    (no_min : PySem.W.nsIn K mainGlobals "min" = some none)
    (no_ValueError : PySem.W.nsIn K mainGlobals "ValueError" = some none)
    (no_range : PySem.W.nsIn K mainGlobals "range" = some none)
    (no_repr : PySem.W.nsIn K mainGlobals "repr" = some none)
    : ∃ (fd : FuncData) (ts : List (Str × Addr × Addr)), (∀ t ∈ ts, TabDef q K mg t) ∧ (∀ (s : Shared) (u : Value), BindsTo s fd ⟨[u], []⟩ [("script", u)]) ∧ ∀ b : Heap, K.In b → b.Ns mainGlobals mg → (∀ t ∈ ts, GxR.TabB b mg t.2.1 t.2.2) → Keeps P w K mg b CX0 7 fa fd ["script"] (spLaw K (ts.map fun t => t.2.2)) := by
  have e := hfa.symm.trans (PySem.W.mg_of X G ad_law)
  cases e
  have f_NoText____init__ := fun_mk (st := s_NoText____init___) lo_NoText____init__ co_NoText____init__ kp_NoText____init__
  have F_NoText____init__ : FnM K "__init__" "NoText.__init__" s_NoText____init___ _ _ ["self", "row"] := ⟨f_NoText____init__, f_NoText____init__.binds (ps := ["self", "row"]) fun _ _ _ _ _ _ us hl => match us, hl with | [_, _], _ => rfl⟩
  have f_is_whole := fun_mk (st := s_is_whole_) lo_is_whole co_is_whole kp_is_whole
  have F_is_whole : Fn K mg "is_whole" s_is_whole_ _ _ ["thing"] := ⟨f_is_whole, PySem.W.mg_of X G ad_is_whole, f_is_whole.binds (ps := ["thing"]) fun _ _ _ _ _ _ us hl => match us, hl with | [_], _ => rfl⟩
  have f_is_within := fun_mk (st := s_is_within_) lo_is_within co_is_within kp_is_within
  have F_is_within : Fn K mg "is_within" s_is_within_ _ _ ["thing", "least", "most"] := ⟨f_is_within, PySem.W.mg_of X G ad_is_within, f_is_within.binds (ps := ["thing", "least", "most"]) fun _ _ _ _ _ _ us hl => match us, hl with | [_, _, _], _ => rfl⟩
  have f_is_moment := fun_mk (st := s_is_moment_) lo_is_moment co_is_moment kp_is_moment
  have F_is_moment : Fn K mg "is_moment" s_is_moment_ _ _ ["thing"] := ⟨f_is_moment, PySem.W.mg_of X G ad_is_moment, f_is_moment.binds (ps := ["thing"]) fun _ _ _ _ _ _ us hl => match us, hl with | [_], _ => rfl⟩
  have f_number_by := fun_mk (st := s_number_by_) lo_number_by co_number_by kp_number_by
  have F_number_by : Fn K mg "number_by" s_number_by_ _ _ ["text", "most"] := ⟨f_number_by, PySem.W.mg_of X G ad_number_by, f_number_by.binds (ps := ["text", "most"]) fun _ _ _ _ _ _ us hl => match us, hl with | [_, _], _ => rfl⟩
  have f__minutes_by := fun_mk (st := s__minutes_by_) lo__minutes_by co__minutes_by kp__minutes_by
  have F__minutes_by : Fn K mg "_minutes_by" s__minutes_by_ _ _ ["text"] := ⟨f__minutes_by, PySem.W.mg_of X G ad__minutes_by, f__minutes_by.binds (ps := ["text"]) fun _ _ _ _ _ _ us hl => match us, hl with | [_], _ => rfl⟩
  have f_moment_by := fun_mk (st := s_moment_by_) lo_moment_by co_moment_by kp_moment_by
  have F_moment_by : Fn K mg "moment_by" s_moment_by_ _ _ ["text"] := ⟨f_moment_by, PySem.W.mg_of X G ad_moment_by, f_moment_by.binds (ps := ["text"]) fun _ _ _ _ _ _ us hl => match us, hl with | [_], _ => rfl⟩
  have f__law_pen := fun_mk (st := s__law_pen_) lo__law_pen co__law_pen kp__law_pen
  have F__law_pen : Fn K mg "_law_pen" s__law_pen_ _ _ ["script", "k"] := ⟨f__law_pen, PySem.W.mg_of X G ad__law_pen, f__law_pen.binds (ps := ["script", "k"]) fun _ _ _ _ _ _ us hl => match us, hl with | [_, _], _ => rfl⟩
  have f__law_draw := fun_mk (st := s__law_draw_) lo__law_draw co__law_draw kp__law_draw
  have F__law_draw : Fn K mg "_law_draw" s__law_draw_ _ _ ["pen", "base"] := ⟨f__law_draw, PySem.W.mg_of X G ad__law_draw, f__law_draw.binds (ps := ["pen", "base"]) fun _ _ _ _ _ _ us hl => match us, hl with | [_, _], _ => rfl⟩
  have f__law_signs := fun_mk (st := s__law_signs_) lo__law_signs co__law_signs kp__law_signs
  have F__law_signs : Fn K mg "_law_signs" s__law_signs_ _ _ [] := ⟨f__law_signs, PySem.W.mg_of X G ad__law_signs, f__law_signs.binds (ps := []) fun _ _ _ _ _ _ us hl => match us, hl with | [], _ => rfl⟩
  have f__law_moment_text := fun_mk (st := s__law_moment_text_) lo__law_moment_text co__law_moment_text kp__law_moment_text
  have F__law_moment_text : Fn K mg "_law_moment_text" s__law_moment_text_ _ _ ["moment"] := ⟨f__law_moment_text, PySem.W.mg_of X G ad__law_moment_text, f__law_moment_text.binds (ps := ["moment"]) fun _ _ _ _ _ _ us hl => match us, hl with | [_], _ => rfl⟩
  have f__law_moment := fun_mk (st := s__law_moment_) lo__law_moment co__law_moment kp__law_moment
  have F__law_moment : Fn K mg "_law_moment" s__law_moment_ _ _ ["pen"] := ⟨f__law_moment, PySem.W.mg_of X G ad__law_moment, f__law_moment.binds (ps := ["pen"]) fun _ _ _ _ _ _ us hl => match us, hl with | [_], _ => rfl⟩
  have f__law_marks := fun_mk (st := s__law_marks_) lo__law_marks co__law_marks kp__law_marks
  have F__law_marks : Fn K mg "_law_marks" s__law_marks_ _ _ ["error"] := ⟨f__law_marks, PySem.W.mg_of X G ad__law_marks, f__law_marks.binds (ps := ["error"]) fun _ _ _ _ _ _ us hl => match us, hl with | [_], _ => rfl⟩
  have f__law_read := fun_mk (st := s__law_read_) lo__law_read co__law_read kp__law_read
  have F__law_read : Fn K mg "_law_read" s__law_read_ _ _ ["thing"] := ⟨f__law_read, PySem.W.mg_of X G ad__law_read, f__law_read.binds (ps := ["thing"]) fun _ _ _ _ _ _ us hl => match us, hl with | [_], _ => rfl⟩
  have f__law_told := fun_mk (st := s__law_told_) lo__law_told co__law_told kp__law_told
  have F__law_told : Fn K mg "_law_told" s__law_told_ _ _ ["thing"] := ⟨f__law_told, PySem.W.mg_of X G ad__law_told, f__law_told.binds (ps := ["thing"]) fun _ _ _ _ _ _ us hl => match us, hl with | [_], _ => rfl⟩
  have f__law_bent := fun_mk (st := s__law_bent_) lo__law_bent co__law_bent kp__law_bent
  have F__law_bent : Fn K mg "_law_bent" s__law_bent_ _ _ ["pen", "text"] := ⟨f__law_bent, PySem.W.mg_of X G ad__law_bent, f__law_bent.binds (ps := ["pen", "text"]) fun _ _ _ _ _ _ us hl => match us, hl with | [_, _], _ => rfl⟩
  have f__law_things := fun_mk (st := s__law_things_) lo__law_things co__law_things kp__law_things
  have F__law_things : Fn K mg "_law_things" s__law_things_ _ _ ["pen"] := ⟨f__law_things, PySem.W.mg_of X G ad__law_things, f__law_things.binds (ps := ["pen"]) fun _ _ _ _ _ _ us hl => match us, hl with | [_], _ => rfl⟩
  have f_law := fun_mk (st := s_law_) lo_law co_law kp_law
  have F_law : Fn K mg "law" s_law_ _ _ ["script"] := ⟨f_law, PySem.W.mg_of X G ad_law, f_law.binds (ps := ["script"]) fun _ _ _ _ _ _ us hl => match us, hl with | [_], _ => rfl⟩
  refine ⟨PySem.W.fnOf "law" "law" (defArgs s_law_) (defBody s_law_) (defScope s_law_) .none kV_law dc_law pm_law an_law cd_law ct_law, [("number_by", tc_number_by, P_number_by)], ?_, fun s v => .of_eq rfl, fun b _ _ TBs => ?_⟩
  · intro t ht
    simp only [List.mem_cons, List.not_mem_nil, or_false] at ht
    rcases ht with rfl
    · exact ⟨re_number_by, ⟨_, _, _, PySem.W.mg_of X G ad_number_by, lo_number_by, rfl, rfl⟩, tb_number_by⟩
  have TB_number_by := TBs ("number_by", tc_number_by, P_number_by) (by simp)
  have T_NoText : OexC K c_NoText := ⟨⟨_, _, _, _, _, _, _, _, _, _, _, _, _, _, _, oc_NoText, by first | rfl | decide⟩, sa_NoText, ex_NoText, ty_NoText, kc_NoText⟩
  have Fi_NoText := dv_NoText____init__ (P := P) (w := w) (b := b) (mg := mg) F_NoText____init__ ⟨wga, wrd, wfi⟩ (PySem.W.mg_of X G ad_WagonError) T_NoText na_NoText_row
  have k_is_whole := dv_is_whole (P := P) (w := w) (b := b) (mg := mg) (sp := spWhole K) F_is_whole (PySem.W.mg_none_of X G no_isinstance) (PySem.W.mg_none_of X G no_int) (PySem.W.mg_none_of X G no_bool) (by intro vs H Q E h; first | (obtain ⟨_, rfl, _⟩ := h; rfl; done) | (obtain ⟨_, _, rfl, _⟩ := h; rfl; done) | (obtain ⟨_, _, _, rfl, _⟩ := h; rfl; done) | (obtain ⟨_, _, _, _, rfl, _⟩ := h; rfl; done) | (obtain ⟨_, _, _, _, _, rfl, _⟩ := h; rfl; done) | (obtain ⟨_, _, _, _, _, _, rfl, _⟩ := h; rfl; done) | (obtain ⟨_, _, _, _, _, _, _, rfl, _⟩ := h; rfl; done) | (obtain ⟨_, _, _, _, _, _, _, _, rfl, _⟩ := h; rfl; done) | (obtain ⟨_, _, _, _, _, _, _, _, _, rfl, _⟩ := h; rfl; done) | (obtain ⟨_, _, _, _, _, _, _, _, _, _, rfl, _⟩ := h; rfl; done) | (obtain ⟨_, _, _, _, _, _, _, _, _, _, _, rfl, _⟩ := h; rfl; done) | (obtain ⟨_, _, _, _, _, _, _, _, _, _, _, _, rfl, _⟩ := h; rfl; done) | (obtain ⟨_, _, _, _, _, _, _, _, _, _, _, _, _, rfl, _⟩ := h; rfl; done) | (obtain ⟨_, _, _, _, _, _, _, _, _, _, _, _, _, _, rfl, _⟩ := h; rfl; done) | (obtain ⟨_, _, _, _, _, _, _, _, _, _, _, _, _, _, _, rfl, _⟩ := h; rfl; done) | (obtain ⟨_, _, _, _, _, _, _, _, _, _, _, _, _, _, _, _, rfl, _⟩ := h; rfl; done) | (obtain ⟨_, _, _, _, _, _, _, _, _, _, _, _, _, _, _, _, _, rfl, _⟩ := h; rfl; done) | (obtain ⟨_, _, _, _, _, _, _, _, _, _, _, _, _, _, _, _, _, _, rfl, _⟩ := h; rfl; done) | (obtain ⟨_, _, _, _, _, _, _, _, _, _, _, _, _, _, _, _, _, _, _, rfl, _⟩ := h; rfl; done) | (obtain ⟨_, _, _, _, _, _, _, _, _, _, _, _, _, _, _, _, _, _, _, _, rfl, _⟩ := h; rfl; done) | (obtain ⟨_, _, _, _, _, _, _, _, _, _, _, _, _, _, _, _, _, _, _, _, _, rfl, _⟩ := h; rfl; done) | (obtain ⟨_, _, _, _, _, _, _, _, _, _, _, _, _, _, _, _, _, _, _, _, _, _, rfl, _⟩ := h; rfl; done) | (rcases h with h | h <;> first | (obtain ⟨_, rfl, _⟩ := h; rfl; done) | (obtain ⟨_, _, rfl, _⟩ := h; rfl; done) | (obtain ⟨_, _, _, rfl, _⟩ := h; rfl; done) | (obtain ⟨_, _, _, _, rfl, _⟩ := h; rfl; done) | (obtain ⟨_, _, _, _, _, rfl, _⟩ := h; rfl; done) | (obtain ⟨_, _, _, _, _, _, rfl, _⟩ := h; rfl; done) | (obtain ⟨_, _, _, _, _, _, _, rfl, _⟩ := h; rfl; done) | (obtain ⟨_, _, _, _, _, _, _, _, rfl, _⟩ := h; rfl; done) | (obtain ⟨_, _, _, _, _, _, _, _, _, rfl, _⟩ := h; rfl; done) | (obtain ⟨_, _, _, _, _, _, _, _, _, _, rfl, _⟩ := h; rfl; done) | (obtain ⟨_, _, _, _, _, _, _, _, _, _, _, rfl, _⟩ := h; rfl; done) | (obtain ⟨_, _, _, _, _, _, _, _, _, _, _, _, rfl, _⟩ := h; rfl; done) | (obtain ⟨_, _, _, _, _, _, _, _, _, _, _, _, _, rfl, _⟩ := h; rfl; done) | (obtain ⟨_, _, _, _, _, _, _, _, _, _, _, _, _, _, rfl, _⟩ := h; rfl; done) | (obtain ⟨_, _, _, _, _, _, _, _, _, _, _, _, _, _, _, rfl, _⟩ := h; rfl; done) | (obtain ⟨_, _, _, _, _, _, _, _, _, _, _, _, _, _, _, _, rfl, _⟩ := h; rfl; done) | (obtain ⟨_, _, _, _, _, _, _, _, _, _, _, _, _, _, _, _, _, rfl, _⟩ := h; rfl; done) | (obtain ⟨_, _, _, _, _, _, _, _, _, _, _, _, _, _, _, _, _, _, rfl, _⟩ := h; rfl; done) | (obtain ⟨_, _, _, _, _, _, _, _, _, _, _, _, _, _, _, _, _, _, _, rfl, _⟩ := h; rfl; done) | (obtain ⟨_, _, _, _, _, _, _, _, _, _, _, _, _, _, _, _, _, _, _, _, rfl, _⟩ := h; rfl; done) | (obtain ⟨_, _, _, _, _, _, _, _, _, _, _, _, _, _, _, _, _, _, _, _, _, rfl, _⟩ := h; rfl; done) | (obtain ⟨_, _, _, _, _, _, _, _, _, _, _, _, _, _, _, _, _, _, _, _, _, _, rfl, _⟩ := h; rfl; done))) (rd_whole K)
  have k_is_within := dv_is_within (P := P) (w := w) (b := b) (mg := mg) (sp := spWithin K) F_is_within F_is_whole k_is_whole (by intro vs H Q E h; first | (obtain ⟨_, rfl, _⟩ := h; rfl; done) | (obtain ⟨_, _, rfl, _⟩ := h; rfl; done) | (obtain ⟨_, _, _, rfl, _⟩ := h; rfl; done) | (obtain ⟨_, _, _, _, rfl, _⟩ := h; rfl; done) | (obtain ⟨_, _, _, _, _, rfl, _⟩ := h; rfl; done) | (obtain ⟨_, _, _, _, _, _, rfl, _⟩ := h; rfl; done) | (obtain ⟨_, _, _, _, _, _, _, rfl, _⟩ := h; rfl; done) | (obtain ⟨_, _, _, _, _, _, _, _, rfl, _⟩ := h; rfl; done) | (obtain ⟨_, _, _, _, _, _, _, _, _, rfl, _⟩ := h; rfl; done) | (obtain ⟨_, _, _, _, _, _, _, _, _, _, rfl, _⟩ := h; rfl; done) | (obtain ⟨_, _, _, _, _, _, _, _, _, _, _, rfl, _⟩ := h; rfl; done) | (obtain ⟨_, _, _, _, _, _, _, _, _, _, _, _, rfl, _⟩ := h; rfl; done) | (obtain ⟨_, _, _, _, _, _, _, _, _, _, _, _, _, rfl, _⟩ := h; rfl; done) | (obtain ⟨_, _, _, _, _, _, _, _, _, _, _, _, _, _, rfl, _⟩ := h; rfl; done) | (obtain ⟨_, _, _, _, _, _, _, _, _, _, _, _, _, _, _, rfl, _⟩ := h; rfl; done) | (obtain ⟨_, _, _, _, _, _, _, _, _, _, _, _, _, _, _, _, rfl, _⟩ := h; rfl; done) | (obtain ⟨_, _, _, _, _, _, _, _, _, _, _, _, _, _, _, _, _, rfl, _⟩ := h; rfl; done) | (obtain ⟨_, _, _, _, _, _, _, _, _, _, _, _, _, _, _, _, _, _, rfl, _⟩ := h; rfl; done) | (obtain ⟨_, _, _, _, _, _, _, _, _, _, _, _, _, _, _, _, _, _, _, rfl, _⟩ := h; rfl; done) | (obtain ⟨_, _, _, _, _, _, _, _, _, _, _, _, _, _, _, _, _, _, _, _, rfl, _⟩ := h; rfl; done) | (obtain ⟨_, _, _, _, _, _, _, _, _, _, _, _, _, _, _, _, _, _, _, _, _, rfl, _⟩ := h; rfl; done) | (obtain ⟨_, _, _, _, _, _, _, _, _, _, _, _, _, _, _, _, _, _, _, _, _, _, rfl, _⟩ := h; rfl; done) | (rcases h with h | h <;> first | (obtain ⟨_, rfl, _⟩ := h; rfl; done) | (obtain ⟨_, _, rfl, _⟩ := h; rfl; done) | (obtain ⟨_, _, _, rfl, _⟩ := h; rfl; done) | (obtain ⟨_, _, _, _, rfl, _⟩ := h; rfl; done) | (obtain ⟨_, _, _, _, _, rfl, _⟩ := h; rfl; done) | (obtain ⟨_, _, _, _, _, _, rfl, _⟩ := h; rfl; done) | (obtain ⟨_, _, _, _, _, _, _, rfl, _⟩ := h; rfl; done) | (obtain ⟨_, _, _, _, _, _, _, _, rfl, _⟩ := h; rfl; done) | (obtain ⟨_, _, _, _, _, _, _, _, _, rfl, _⟩ := h; rfl; done) | (obtain ⟨_, _, _, _, _, _, _, _, _, _, rfl, _⟩ := h; rfl; done) | (obtain ⟨_, _, _, _, _, _, _, _, _, _, _, rfl, _⟩ := h; rfl; done) | (obtain ⟨_, _, _, _, _, _, _, _, _, _, _, _, rfl, _⟩ := h; rfl; done) | (obtain ⟨_, _, _, _, _, _, _, _, _, _, _, _, _, rfl, _⟩ := h; rfl; done) | (obtain ⟨_, _, _, _, _, _, _, _, _, _, _, _, _, _, rfl, _⟩ := h; rfl; done) | (obtain ⟨_, _, _, _, _, _, _, _, _, _, _, _, _, _, _, rfl, _⟩ := h; rfl; done) | (obtain ⟨_, _, _, _, _, _, _, _, _, _, _, _, _, _, _, _, rfl, _⟩ := h; rfl; done) | (obtain ⟨_, _, _, _, _, _, _, _, _, _, _, _, _, _, _, _, _, rfl, _⟩ := h; rfl; done) | (obtain ⟨_, _, _, _, _, _, _, _, _, _, _, _, _, _, _, _, _, _, rfl, _⟩ := h; rfl; done) | (obtain ⟨_, _, _, _, _, _, _, _, _, _, _, _, _, _, _, _, _, _, _, rfl, _⟩ := h; rfl; done) | (obtain ⟨_, _, _, _, _, _, _, _, _, _, _, _, _, _, _, _, _, _, _, _, rfl, _⟩ := h; rfl; done) | (obtain ⟨_, _, _, _, _, _, _, _, _, _, _, _, _, _, _, _, _, _, _, _, _, rfl, _⟩ := h; rfl; done) | (obtain ⟨_, _, _, _, _, _, _, _, _, _, _, _, _, _, _, _, _, _, _, _, _, _, rfl, _⟩ := h; rfl; done))) (rd_within K)
  have k_is_moment := dv_is_moment (P := P) (w := w) (b := b) (mg := mg) (sp := spRange 0 1000000 K) F_is_moment F_is_within k_is_within (PySem.W.mg_of X G cn_LAST_MOMENT) (by intro vs H Q E h; first | (obtain ⟨_, rfl, _⟩ := h; rfl; done) | (obtain ⟨_, _, rfl, _⟩ := h; rfl; done) | (obtain ⟨_, _, _, rfl, _⟩ := h; rfl; done) | (obtain ⟨_, _, _, _, rfl, _⟩ := h; rfl; done) | (obtain ⟨_, _, _, _, _, rfl, _⟩ := h; rfl; done) | (obtain ⟨_, _, _, _, _, _, rfl, _⟩ := h; rfl; done) | (obtain ⟨_, _, _, _, _, _, _, rfl, _⟩ := h; rfl; done) | (obtain ⟨_, _, _, _, _, _, _, _, rfl, _⟩ := h; rfl; done) | (obtain ⟨_, _, _, _, _, _, _, _, _, rfl, _⟩ := h; rfl; done) | (obtain ⟨_, _, _, _, _, _, _, _, _, _, rfl, _⟩ := h; rfl; done) | (obtain ⟨_, _, _, _, _, _, _, _, _, _, _, rfl, _⟩ := h; rfl; done) | (obtain ⟨_, _, _, _, _, _, _, _, _, _, _, _, rfl, _⟩ := h; rfl; done) | (obtain ⟨_, _, _, _, _, _, _, _, _, _, _, _, _, rfl, _⟩ := h; rfl; done) | (obtain ⟨_, _, _, _, _, _, _, _, _, _, _, _, _, _, rfl, _⟩ := h; rfl; done) | (obtain ⟨_, _, _, _, _, _, _, _, _, _, _, _, _, _, _, rfl, _⟩ := h; rfl; done) | (obtain ⟨_, _, _, _, _, _, _, _, _, _, _, _, _, _, _, _, rfl, _⟩ := h; rfl; done) | (obtain ⟨_, _, _, _, _, _, _, _, _, _, _, _, _, _, _, _, _, rfl, _⟩ := h; rfl; done) | (obtain ⟨_, _, _, _, _, _, _, _, _, _, _, _, _, _, _, _, _, _, rfl, _⟩ := h; rfl; done) | (obtain ⟨_, _, _, _, _, _, _, _, _, _, _, _, _, _, _, _, _, _, _, rfl, _⟩ := h; rfl; done) | (obtain ⟨_, _, _, _, _, _, _, _, _, _, _, _, _, _, _, _, _, _, _, _, rfl, _⟩ := h; rfl; done) | (obtain ⟨_, _, _, _, _, _, _, _, _, _, _, _, _, _, _, _, _, _, _, _, _, rfl, _⟩ := h; rfl; done) | (obtain ⟨_, _, _, _, _, _, _, _, _, _, _, _, _, _, _, _, _, _, _, _, _, _, rfl, _⟩ := h; rfl; done) | (rcases h with h | h <;> first | (obtain ⟨_, rfl, _⟩ := h; rfl; done) | (obtain ⟨_, _, rfl, _⟩ := h; rfl; done) | (obtain ⟨_, _, _, rfl, _⟩ := h; rfl; done) | (obtain ⟨_, _, _, _, rfl, _⟩ := h; rfl; done) | (obtain ⟨_, _, _, _, _, rfl, _⟩ := h; rfl; done) | (obtain ⟨_, _, _, _, _, _, rfl, _⟩ := h; rfl; done) | (obtain ⟨_, _, _, _, _, _, _, rfl, _⟩ := h; rfl; done) | (obtain ⟨_, _, _, _, _, _, _, _, rfl, _⟩ := h; rfl; done) | (obtain ⟨_, _, _, _, _, _, _, _, _, rfl, _⟩ := h; rfl; done) | (obtain ⟨_, _, _, _, _, _, _, _, _, _, rfl, _⟩ := h; rfl; done) | (obtain ⟨_, _, _, _, _, _, _, _, _, _, _, rfl, _⟩ := h; rfl; done) | (obtain ⟨_, _, _, _, _, _, _, _, _, _, _, _, rfl, _⟩ := h; rfl; done) | (obtain ⟨_, _, _, _, _, _, _, _, _, _, _, _, _, rfl, _⟩ := h; rfl; done) | (obtain ⟨_, _, _, _, _, _, _, _, _, _, _, _, _, _, rfl, _⟩ := h; rfl; done) | (obtain ⟨_, _, _, _, _, _, _, _, _, _, _, _, _, _, _, rfl, _⟩ := h; rfl; done) | (obtain ⟨_, _, _, _, _, _, _, _, _, _, _, _, _, _, _, _, rfl, _⟩ := h; rfl; done) | (obtain ⟨_, _, _, _, _, _, _, _, _, _, _, _, _, _, _, _, _, rfl, _⟩ := h; rfl; done) | (obtain ⟨_, _, _, _, _, _, _, _, _, _, _, _, _, _, _, _, _, _, rfl, _⟩ := h; rfl; done) | (obtain ⟨_, _, _, _, _, _, _, _, _, _, _, _, _, _, _, _, _, _, _, rfl, _⟩ := h; rfl; done) | (obtain ⟨_, _, _, _, _, _, _, _, _, _, _, _, _, _, _, _, _, _, _, _, rfl, _⟩ := h; rfl; done) | (obtain ⟨_, _, _, _, _, _, _, _, _, _, _, _, _, _, _, _, _, _, _, _, _, rfl, _⟩ := h; rfl; done) | (obtain ⟨_, _, _, _, _, _, _, _, _, _, _, _, _, _, _, _, _, _, _, _, _, _, rfl, _⟩ := h; rfl; done))) (rd_moment K)
  have k_number_by := dv_number_by (P := P) (w := w) (b := b) (mg := mg) (sp := spNumA K [P_number_by] P_number_by) F_number_by rfl TB_number_by (PySem.W.mg_none_of X G no_len) (PySem.W.mg_none_of X G no_str) (PySem.W.mg_none_of X G no_all) (PySem.W.mg_of X G cn_FIGURES) (PySem.W.mg_none_of X G no_int) (by intro vs H Q E h; first | (obtain ⟨_, rfl, _⟩ := h; rfl; done) | (obtain ⟨_, _, rfl, _⟩ := h; rfl; done) | (obtain ⟨_, _, _, rfl, _⟩ := h; rfl; done) | (obtain ⟨_, _, _, _, rfl, _⟩ := h; rfl; done) | (obtain ⟨_, _, _, _, _, rfl, _⟩ := h; rfl; done) | (obtain ⟨_, _, _, _, _, _, rfl, _⟩ := h; rfl; done) | (obtain ⟨_, _, _, _, _, _, _, rfl, _⟩ := h; rfl; done) | (obtain ⟨_, _, _, _, _, _, _, _, rfl, _⟩ := h; rfl; done) | (obtain ⟨_, _, _, _, _, _, _, _, _, rfl, _⟩ := h; rfl; done) | (obtain ⟨_, _, _, _, _, _, _, _, _, _, rfl, _⟩ := h; rfl; done) | (obtain ⟨_, _, _, _, _, _, _, _, _, _, _, rfl, _⟩ := h; rfl; done) | (obtain ⟨_, _, _, _, _, _, _, _, _, _, _, _, rfl, _⟩ := h; rfl; done) | (obtain ⟨_, _, _, _, _, _, _, _, _, _, _, _, _, rfl, _⟩ := h; rfl; done) | (obtain ⟨_, _, _, _, _, _, _, _, _, _, _, _, _, _, rfl, _⟩ := h; rfl; done) | (obtain ⟨_, _, _, _, _, _, _, _, _, _, _, _, _, _, _, rfl, _⟩ := h; rfl; done) | (obtain ⟨_, _, _, _, _, _, _, _, _, _, _, _, _, _, _, _, rfl, _⟩ := h; rfl; done) | (obtain ⟨_, _, _, _, _, _, _, _, _, _, _, _, _, _, _, _, _, rfl, _⟩ := h; rfl; done) | (obtain ⟨_, _, _, _, _, _, _, _, _, _, _, _, _, _, _, _, _, _, rfl, _⟩ := h; rfl; done) | (obtain ⟨_, _, _, _, _, _, _, _, _, _, _, _, _, _, _, _, _, _, _, rfl, _⟩ := h; rfl; done) | (obtain ⟨_, _, _, _, _, _, _, _, _, _, _, _, _, _, _, _, _, _, _, _, rfl, _⟩ := h; rfl; done) | (obtain ⟨_, _, _, _, _, _, _, _, _, _, _, _, _, _, _, _, _, _, _, _, _, rfl, _⟩ := h; rfl; done) | (obtain ⟨_, _, _, _, _, _, _, _, _, _, _, _, _, _, _, _, _, _, _, _, _, _, rfl, _⟩ := h; rfl; done) | (rcases h with h | h <;> first | (obtain ⟨_, rfl, _⟩ := h; rfl; done) | (obtain ⟨_, _, rfl, _⟩ := h; rfl; done) | (obtain ⟨_, _, _, rfl, _⟩ := h; rfl; done) | (obtain ⟨_, _, _, _, rfl, _⟩ := h; rfl; done) | (obtain ⟨_, _, _, _, _, rfl, _⟩ := h; rfl; done) | (obtain ⟨_, _, _, _, _, _, rfl, _⟩ := h; rfl; done) | (obtain ⟨_, _, _, _, _, _, _, rfl, _⟩ := h; rfl; done) | (obtain ⟨_, _, _, _, _, _, _, _, rfl, _⟩ := h; rfl; done) | (obtain ⟨_, _, _, _, _, _, _, _, _, rfl, _⟩ := h; rfl; done) | (obtain ⟨_, _, _, _, _, _, _, _, _, _, rfl, _⟩ := h; rfl; done) | (obtain ⟨_, _, _, _, _, _, _, _, _, _, _, rfl, _⟩ := h; rfl; done) | (obtain ⟨_, _, _, _, _, _, _, _, _, _, _, _, rfl, _⟩ := h; rfl; done) | (obtain ⟨_, _, _, _, _, _, _, _, _, _, _, _, _, rfl, _⟩ := h; rfl; done) | (obtain ⟨_, _, _, _, _, _, _, _, _, _, _, _, _, _, rfl, _⟩ := h; rfl; done) | (obtain ⟨_, _, _, _, _, _, _, _, _, _, _, _, _, _, _, rfl, _⟩ := h; rfl; done) | (obtain ⟨_, _, _, _, _, _, _, _, _, _, _, _, _, _, _, _, rfl, _⟩ := h; rfl; done) | (obtain ⟨_, _, _, _, _, _, _, _, _, _, _, _, _, _, _, _, _, rfl, _⟩ := h; rfl; done) | (obtain ⟨_, _, _, _, _, _, _, _, _, _, _, _, _, _, _, _, _, _, rfl, _⟩ := h; rfl; done) | (obtain ⟨_, _, _, _, _, _, _, _, _, _, _, _, _, _, _, _, _, _, _, rfl, _⟩ := h; rfl; done) | (obtain ⟨_, _, _, _, _, _, _, _, _, _, _, _, _, _, _, _, _, _, _, _, rfl, _⟩ := h; rfl; done) | (obtain ⟨_, _, _, _, _, _, _, _, _, _, _, _, _, _, _, _, _, _, _, _, _, rfl, _⟩ := h; rfl; done) | (obtain ⟨_, _, _, _, _, _, _, _, _, _, _, _, _, _, _, _, _, _, _, _, _, _, rfl, _⟩ := h; rfl; done))) (rd_numA K (L := [P_number_by]) (P := P_number_by))
  have k__minutes_by := dv__minutes_by (P := P) (w := w) (b := b) (mg := mg) (sp := spMinA) F__minutes_by (PySem.W.mg_none_of X G no_len) (PySem.W.mg_of X G cn_FIGURES) (PySem.W.mg_none_of X G no_int) (by intro vs H Q E h; first | (obtain ⟨_, rfl, _⟩ := h; rfl; done) | (obtain ⟨_, _, rfl, _⟩ := h; rfl; done) | (obtain ⟨_, _, _, rfl, _⟩ := h; rfl; done) | (obtain ⟨_, _, _, _, rfl, _⟩ := h; rfl; done) | (obtain ⟨_, _, _, _, _, rfl, _⟩ := h; rfl; done) | (obtain ⟨_, _, _, _, _, _, rfl, _⟩ := h; rfl; done) | (obtain ⟨_, _, _, _, _, _, _, rfl, _⟩ := h; rfl; done) | (obtain ⟨_, _, _, _, _, _, _, _, rfl, _⟩ := h; rfl; done) | (obtain ⟨_, _, _, _, _, _, _, _, _, rfl, _⟩ := h; rfl; done) | (obtain ⟨_, _, _, _, _, _, _, _, _, _, rfl, _⟩ := h; rfl; done) | (obtain ⟨_, _, _, _, _, _, _, _, _, _, _, rfl, _⟩ := h; rfl; done) | (obtain ⟨_, _, _, _, _, _, _, _, _, _, _, _, rfl, _⟩ := h; rfl; done) | (obtain ⟨_, _, _, _, _, _, _, _, _, _, _, _, _, rfl, _⟩ := h; rfl; done) | (obtain ⟨_, _, _, _, _, _, _, _, _, _, _, _, _, _, rfl, _⟩ := h; rfl; done) | (obtain ⟨_, _, _, _, _, _, _, _, _, _, _, _, _, _, _, rfl, _⟩ := h; rfl; done) | (obtain ⟨_, _, _, _, _, _, _, _, _, _, _, _, _, _, _, _, rfl, _⟩ := h; rfl; done) | (obtain ⟨_, _, _, _, _, _, _, _, _, _, _, _, _, _, _, _, _, rfl, _⟩ := h; rfl; done) | (obtain ⟨_, _, _, _, _, _, _, _, _, _, _, _, _, _, _, _, _, _, rfl, _⟩ := h; rfl; done) | (obtain ⟨_, _, _, _, _, _, _, _, _, _, _, _, _, _, _, _, _, _, _, rfl, _⟩ := h; rfl; done) | (obtain ⟨_, _, _, _, _, _, _, _, _, _, _, _, _, _, _, _, _, _, _, _, rfl, _⟩ := h; rfl; done) | (obtain ⟨_, _, _, _, _, _, _, _, _, _, _, _, _, _, _, _, _, _, _, _, _, rfl, _⟩ := h; rfl; done) | (obtain ⟨_, _, _, _, _, _, _, _, _, _, _, _, _, _, _, _, _, _, _, _, _, _, rfl, _⟩ := h; rfl; done) | (rcases h with h | h <;> first | (obtain ⟨_, rfl, _⟩ := h; rfl; done) | (obtain ⟨_, _, rfl, _⟩ := h; rfl; done) | (obtain ⟨_, _, _, rfl, _⟩ := h; rfl; done) | (obtain ⟨_, _, _, _, rfl, _⟩ := h; rfl; done) | (obtain ⟨_, _, _, _, _, rfl, _⟩ := h; rfl; done) | (obtain ⟨_, _, _, _, _, _, rfl, _⟩ := h; rfl; done) | (obtain ⟨_, _, _, _, _, _, _, rfl, _⟩ := h; rfl; done) | (obtain ⟨_, _, _, _, _, _, _, _, rfl, _⟩ := h; rfl; done) | (obtain ⟨_, _, _, _, _, _, _, _, _, rfl, _⟩ := h; rfl; done) | (obtain ⟨_, _, _, _, _, _, _, _, _, _, rfl, _⟩ := h; rfl; done) | (obtain ⟨_, _, _, _, _, _, _, _, _, _, _, rfl, _⟩ := h; rfl; done) | (obtain ⟨_, _, _, _, _, _, _, _, _, _, _, _, rfl, _⟩ := h; rfl; done) | (obtain ⟨_, _, _, _, _, _, _, _, _, _, _, _, _, rfl, _⟩ := h; rfl; done) | (obtain ⟨_, _, _, _, _, _, _, _, _, _, _, _, _, _, rfl, _⟩ := h; rfl; done) | (obtain ⟨_, _, _, _, _, _, _, _, _, _, _, _, _, _, _, rfl, _⟩ := h; rfl; done) | (obtain ⟨_, _, _, _, _, _, _, _, _, _, _, _, _, _, _, _, rfl, _⟩ := h; rfl; done) | (obtain ⟨_, _, _, _, _, _, _, _, _, _, _, _, _, _, _, _, _, rfl, _⟩ := h; rfl; done) | (obtain ⟨_, _, _, _, _, _, _, _, _, _, _, _, _, _, _, _, _, _, rfl, _⟩ := h; rfl; done) | (obtain ⟨_, _, _, _, _, _, _, _, _, _, _, _, _, _, _, _, _, _, _, rfl, _⟩ := h; rfl; done) | (obtain ⟨_, _, _, _, _, _, _, _, _, _, _, _, _, _, _, _, _, _, _, _, rfl, _⟩ := h; rfl; done) | (obtain ⟨_, _, _, _, _, _, _, _, _, _, _, _, _, _, _, _, _, _, _, _, _, rfl, _⟩ := h; rfl; done) | (obtain ⟨_, _, _, _, _, _, _, _, _, _, _, _, _, _, _, _, _, _, _, _, _, _, rfl, _⟩ := h; rfl; done))) (rd_minA K)
  have k_moment_by := dv_moment_by (P := P) (w := w) (b := b) (mg := mg) (sp := spMomBy K c_NoText [P_number_by] P_number_by) F_moment_by (PySem.W.mg_of X G ad_NoText) (PySem.W.mg_none_of X G no_isinstance) (PySem.W.mg_none_of X G no_str) T_NoText fi_NoText____init__ (beq_iff_eq.mp ifn_NoText____init__) F_NoText____init__.b Fi_NoText F_number_by k_number_by (PySem.W.mg_of X G cn_LAST_MOMENT) (PySem.W.mg_of X G cn_HOUR) F__minutes_by k__minutes_by F_is_moment k_is_moment (by intro vs H Q E h; first | (obtain ⟨_, rfl, _⟩ := h; rfl; done) | (obtain ⟨_, _, rfl, _⟩ := h; rfl; done) | (obtain ⟨_, _, _, rfl, _⟩ := h; rfl; done) | (obtain ⟨_, _, _, _, rfl, _⟩ := h; rfl; done) | (obtain ⟨_, _, _, _, _, rfl, _⟩ := h; rfl; done) | (obtain ⟨_, _, _, _, _, _, rfl, _⟩ := h; rfl; done) | (obtain ⟨_, _, _, _, _, _, _, rfl, _⟩ := h; rfl; done) | (obtain ⟨_, _, _, _, _, _, _, _, rfl, _⟩ := h; rfl; done) | (obtain ⟨_, _, _, _, _, _, _, _, _, rfl, _⟩ := h; rfl; done) | (obtain ⟨_, _, _, _, _, _, _, _, _, _, rfl, _⟩ := h; rfl; done) | (obtain ⟨_, _, _, _, _, _, _, _, _, _, _, rfl, _⟩ := h; rfl; done) | (obtain ⟨_, _, _, _, _, _, _, _, _, _, _, _, rfl, _⟩ := h; rfl; done) | (obtain ⟨_, _, _, _, _, _, _, _, _, _, _, _, _, rfl, _⟩ := h; rfl; done) | (obtain ⟨_, _, _, _, _, _, _, _, _, _, _, _, _, _, rfl, _⟩ := h; rfl; done) | (obtain ⟨_, _, _, _, _, _, _, _, _, _, _, _, _, _, _, rfl, _⟩ := h; rfl; done) | (obtain ⟨_, _, _, _, _, _, _, _, _, _, _, _, _, _, _, _, rfl, _⟩ := h; rfl; done) | (obtain ⟨_, _, _, _, _, _, _, _, _, _, _, _, _, _, _, _, _, rfl, _⟩ := h; rfl; done) | (obtain ⟨_, _, _, _, _, _, _, _, _, _, _, _, _, _, _, _, _, _, rfl, _⟩ := h; rfl; done) | (obtain ⟨_, _, _, _, _, _, _, _, _, _, _, _, _, _, _, _, _, _, _, rfl, _⟩ := h; rfl; done) | (obtain ⟨_, _, _, _, _, _, _, _, _, _, _, _, _, _, _, _, _, _, _, _, rfl, _⟩ := h; rfl; done) | (obtain ⟨_, _, _, _, _, _, _, _, _, _, _, _, _, _, _, _, _, _, _, _, _, rfl, _⟩ := h; rfl; done) | (obtain ⟨_, _, _, _, _, _, _, _, _, _, _, _, _, _, _, _, _, _, _, _, _, _, rfl, _⟩ := h; rfl; done) | (rcases h with h | h <;> first | (obtain ⟨_, rfl, _⟩ := h; rfl; done) | (obtain ⟨_, _, rfl, _⟩ := h; rfl; done) | (obtain ⟨_, _, _, rfl, _⟩ := h; rfl; done) | (obtain ⟨_, _, _, _, rfl, _⟩ := h; rfl; done) | (obtain ⟨_, _, _, _, _, rfl, _⟩ := h; rfl; done) | (obtain ⟨_, _, _, _, _, _, rfl, _⟩ := h; rfl; done) | (obtain ⟨_, _, _, _, _, _, _, rfl, _⟩ := h; rfl; done) | (obtain ⟨_, _, _, _, _, _, _, _, rfl, _⟩ := h; rfl; done) | (obtain ⟨_, _, _, _, _, _, _, _, _, rfl, _⟩ := h; rfl; done) | (obtain ⟨_, _, _, _, _, _, _, _, _, _, rfl, _⟩ := h; rfl; done) | (obtain ⟨_, _, _, _, _, _, _, _, _, _, _, rfl, _⟩ := h; rfl; done) | (obtain ⟨_, _, _, _, _, _, _, _, _, _, _, _, rfl, _⟩ := h; rfl; done) | (obtain ⟨_, _, _, _, _, _, _, _, _, _, _, _, _, rfl, _⟩ := h; rfl; done) | (obtain ⟨_, _, _, _, _, _, _, _, _, _, _, _, _, _, rfl, _⟩ := h; rfl; done) | (obtain ⟨_, _, _, _, _, _, _, _, _, _, _, _, _, _, _, rfl, _⟩ := h; rfl; done) | (obtain ⟨_, _, _, _, _, _, _, _, _, _, _, _, _, _, _, _, rfl, _⟩ := h; rfl; done) | (obtain ⟨_, _, _, _, _, _, _, _, _, _, _, _, _, _, _, _, _, rfl, _⟩ := h; rfl; done) | (obtain ⟨_, _, _, _, _, _, _, _, _, _, _, _, _, _, _, _, _, _, rfl, _⟩ := h; rfl; done) | (obtain ⟨_, _, _, _, _, _, _, _, _, _, _, _, _, _, _, _, _, _, _, rfl, _⟩ := h; rfl; done) | (obtain ⟨_, _, _, _, _, _, _, _, _, _, _, _, _, _, _, _, _, _, _, _, rfl, _⟩ := h; rfl; done) | (obtain ⟨_, _, _, _, _, _, _, _, _, _, _, _, _, _, _, _, _, _, _, _, _, rfl, _⟩ := h; rfl; done) | (obtain ⟨_, _, _, _, _, _, _, _, _, _, _, _, _, _, _, _, _, _, _, _, _, _, rfl, _⟩ := h; rfl; done))) (rd_momBy K (CN := c_NoText) (L := [P_number_by]) (P := P_number_by))
  have k__law_pen := dv__law_pen (P := P) (w := w) (b := b) (mg := mg) (sp := spPen K) F__law_pen (PySem.W.mg_none_of X G no_len) (PySem.W.mg_none_of X G no_abs) (by intro vs H Q E h; first | (obtain ⟨_, rfl, _⟩ := h; rfl; done) | (obtain ⟨_, _, rfl, _⟩ := h; rfl; done) | (obtain ⟨_, _, _, rfl, _⟩ := h; rfl; done) | (obtain ⟨_, _, _, _, rfl, _⟩ := h; rfl; done) | (obtain ⟨_, _, _, _, _, rfl, _⟩ := h; rfl; done) | (obtain ⟨_, _, _, _, _, _, rfl, _⟩ := h; rfl; done) | (obtain ⟨_, _, _, _, _, _, _, rfl, _⟩ := h; rfl; done) | (obtain ⟨_, _, _, _, _, _, _, _, rfl, _⟩ := h; rfl; done) | (obtain ⟨_, _, _, _, _, _, _, _, _, rfl, _⟩ := h; rfl; done) | (obtain ⟨_, _, _, _, _, _, _, _, _, _, rfl, _⟩ := h; rfl; done) | (obtain ⟨_, _, _, _, _, _, _, _, _, _, _, rfl, _⟩ := h; rfl; done) | (obtain ⟨_, _, _, _, _, _, _, _, _, _, _, _, rfl, _⟩ := h; rfl; done) | (obtain ⟨_, _, _, _, _, _, _, _, _, _, _, _, _, rfl, _⟩ := h; rfl; done) | (obtain ⟨_, _, _, _, _, _, _, _, _, _, _, _, _, _, rfl, _⟩ := h; rfl; done) | (obtain ⟨_, _, _, _, _, _, _, _, _, _, _, _, _, _, _, rfl, _⟩ := h; rfl; done) | (obtain ⟨_, _, _, _, _, _, _, _, _, _, _, _, _, _, _, _, rfl, _⟩ := h; rfl; done) | (obtain ⟨_, _, _, _, _, _, _, _, _, _, _, _, _, _, _, _, _, rfl, _⟩ := h; rfl; done) | (obtain ⟨_, _, _, _, _, _, _, _, _, _, _, _, _, _, _, _, _, _, rfl, _⟩ := h; rfl; done) | (obtain ⟨_, _, _, _, _, _, _, _, _, _, _, _, _, _, _, _, _, _, _, rfl, _⟩ := h; rfl; done) | (obtain ⟨_, _, _, _, _, _, _, _, _, _, _, _, _, _, _, _, _, _, _, _, rfl, _⟩ := h; rfl; done) | (obtain ⟨_, _, _, _, _, _, _, _, _, _, _, _, _, _, _, _, _, _, _, _, _, rfl, _⟩ := h; rfl; done) | (obtain ⟨_, _, _, _, _, _, _, _, _, _, _, _, _, _, _, _, _, _, _, _, _, _, rfl, _⟩ := h; rfl; done) | (rcases h with h | h <;> first | (obtain ⟨_, rfl, _⟩ := h; rfl; done) | (obtain ⟨_, _, rfl, _⟩ := h; rfl; done) | (obtain ⟨_, _, _, rfl, _⟩ := h; rfl; done) | (obtain ⟨_, _, _, _, rfl, _⟩ := h; rfl; done) | (obtain ⟨_, _, _, _, _, rfl, _⟩ := h; rfl; done) | (obtain ⟨_, _, _, _, _, _, rfl, _⟩ := h; rfl; done) | (obtain ⟨_, _, _, _, _, _, _, rfl, _⟩ := h; rfl; done) | (obtain ⟨_, _, _, _, _, _, _, _, rfl, _⟩ := h; rfl; done) | (obtain ⟨_, _, _, _, _, _, _, _, _, rfl, _⟩ := h; rfl; done) | (obtain ⟨_, _, _, _, _, _, _, _, _, _, rfl, _⟩ := h; rfl; done) | (obtain ⟨_, _, _, _, _, _, _, _, _, _, _, rfl, _⟩ := h; rfl; done) | (obtain ⟨_, _, _, _, _, _, _, _, _, _, _, _, rfl, _⟩ := h; rfl; done) | (obtain ⟨_, _, _, _, _, _, _, _, _, _, _, _, _, rfl, _⟩ := h; rfl; done) | (obtain ⟨_, _, _, _, _, _, _, _, _, _, _, _, _, _, rfl, _⟩ := h; rfl; done) | (obtain ⟨_, _, _, _, _, _, _, _, _, _, _, _, _, _, _, rfl, _⟩ := h; rfl; done) | (obtain ⟨_, _, _, _, _, _, _, _, _, _, _, _, _, _, _, _, rfl, _⟩ := h; rfl; done) | (obtain ⟨_, _, _, _, _, _, _, _, _, _, _, _, _, _, _, _, _, rfl, _⟩ := h; rfl; done) | (obtain ⟨_, _, _, _, _, _, _, _, _, _, _, _, _, _, _, _, _, _, rfl, _⟩ := h; rfl; done) | (obtain ⟨_, _, _, _, _, _, _, _, _, _, _, _, _, _, _, _, _, _, _, rfl, _⟩ := h; rfl; done) | (obtain ⟨_, _, _, _, _, _, _, _, _, _, _, _, _, _, _, _, _, _, _, _, rfl, _⟩ := h; rfl; done) | (obtain ⟨_, _, _, _, _, _, _, _, _, _, _, _, _, _, _, _, _, _, _, _, _, rfl, _⟩ := h; rfl; done) | (obtain ⟨_, _, _, _, _, _, _, _, _, _, _, _, _, _, _, _, _, _, _, _, _, _, rfl, _⟩ := h; rfl; done))) (rd_pen K)
  have k__law_draw := dv__law_draw (P := P) (w := w) (b := b) (mg := mg) (sp := spDraw) F__law_draw  (by intro vs H Q E h; first | (obtain ⟨_, rfl, _⟩ := h; rfl; done) | (obtain ⟨_, _, rfl, _⟩ := h; rfl; done) | (obtain ⟨_, _, _, rfl, _⟩ := h; rfl; done) | (obtain ⟨_, _, _, _, rfl, _⟩ := h; rfl; done) | (obtain ⟨_, _, _, _, _, rfl, _⟩ := h; rfl; done) | (obtain ⟨_, _, _, _, _, _, rfl, _⟩ := h; rfl; done) | (obtain ⟨_, _, _, _, _, _, _, rfl, _⟩ := h; rfl; done) | (obtain ⟨_, _, _, _, _, _, _, _, rfl, _⟩ := h; rfl; done) | (obtain ⟨_, _, _, _, _, _, _, _, _, rfl, _⟩ := h; rfl; done) | (obtain ⟨_, _, _, _, _, _, _, _, _, _, rfl, _⟩ := h; rfl; done) | (obtain ⟨_, _, _, _, _, _, _, _, _, _, _, rfl, _⟩ := h; rfl; done) | (obtain ⟨_, _, _, _, _, _, _, _, _, _, _, _, rfl, _⟩ := h; rfl; done) | (obtain ⟨_, _, _, _, _, _, _, _, _, _, _, _, _, rfl, _⟩ := h; rfl; done) | (obtain ⟨_, _, _, _, _, _, _, _, _, _, _, _, _, _, rfl, _⟩ := h; rfl; done) | (obtain ⟨_, _, _, _, _, _, _, _, _, _, _, _, _, _, _, rfl, _⟩ := h; rfl; done) | (obtain ⟨_, _, _, _, _, _, _, _, _, _, _, _, _, _, _, _, rfl, _⟩ := h; rfl; done) | (obtain ⟨_, _, _, _, _, _, _, _, _, _, _, _, _, _, _, _, _, rfl, _⟩ := h; rfl; done) | (obtain ⟨_, _, _, _, _, _, _, _, _, _, _, _, _, _, _, _, _, _, rfl, _⟩ := h; rfl; done) | (obtain ⟨_, _, _, _, _, _, _, _, _, _, _, _, _, _, _, _, _, _, _, rfl, _⟩ := h; rfl; done) | (obtain ⟨_, _, _, _, _, _, _, _, _, _, _, _, _, _, _, _, _, _, _, _, rfl, _⟩ := h; rfl; done) | (obtain ⟨_, _, _, _, _, _, _, _, _, _, _, _, _, _, _, _, _, _, _, _, _, rfl, _⟩ := h; rfl; done) | (obtain ⟨_, _, _, _, _, _, _, _, _, _, _, _, _, _, _, _, _, _, _, _, _, _, rfl, _⟩ := h; rfl; done) | (rcases h with h | h <;> first | (obtain ⟨_, rfl, _⟩ := h; rfl; done) | (obtain ⟨_, _, rfl, _⟩ := h; rfl; done) | (obtain ⟨_, _, _, rfl, _⟩ := h; rfl; done) | (obtain ⟨_, _, _, _, rfl, _⟩ := h; rfl; done) | (obtain ⟨_, _, _, _, _, rfl, _⟩ := h; rfl; done) | (obtain ⟨_, _, _, _, _, _, rfl, _⟩ := h; rfl; done) | (obtain ⟨_, _, _, _, _, _, _, rfl, _⟩ := h; rfl; done) | (obtain ⟨_, _, _, _, _, _, _, _, rfl, _⟩ := h; rfl; done) | (obtain ⟨_, _, _, _, _, _, _, _, _, rfl, _⟩ := h; rfl; done) | (obtain ⟨_, _, _, _, _, _, _, _, _, _, rfl, _⟩ := h; rfl; done) | (obtain ⟨_, _, _, _, _, _, _, _, _, _, _, rfl, _⟩ := h; rfl; done) | (obtain ⟨_, _, _, _, _, _, _, _, _, _, _, _, rfl, _⟩ := h; rfl; done) | (obtain ⟨_, _, _, _, _, _, _, _, _, _, _, _, _, rfl, _⟩ := h; rfl; done) | (obtain ⟨_, _, _, _, _, _, _, _, _, _, _, _, _, _, rfl, _⟩ := h; rfl; done) | (obtain ⟨_, _, _, _, _, _, _, _, _, _, _, _, _, _, _, rfl, _⟩ := h; rfl; done) | (obtain ⟨_, _, _, _, _, _, _, _, _, _, _, _, _, _, _, _, rfl, _⟩ := h; rfl; done) | (obtain ⟨_, _, _, _, _, _, _, _, _, _, _, _, _, _, _, _, _, rfl, _⟩ := h; rfl; done) | (obtain ⟨_, _, _, _, _, _, _, _, _, _, _, _, _, _, _, _, _, _, rfl, _⟩ := h; rfl; done) | (obtain ⟨_, _, _, _, _, _, _, _, _, _, _, _, _, _, _, _, _, _, _, rfl, _⟩ := h; rfl; done) | (obtain ⟨_, _, _, _, _, _, _, _, _, _, _, _, _, _, _, _, _, _, _, _, rfl, _⟩ := h; rfl; done) | (obtain ⟨_, _, _, _, _, _, _, _, _, _, _, _, _, _, _, _, _, _, _, _, _, rfl, _⟩ := h; rfl; done) | (obtain ⟨_, _, _, _, _, _, _, _, _, _, _, _, _, _, _, _, _, _, _, _, _, _, rfl, _⟩ := h; rfl; done))) (rd_draw K)
  have k__law_signs := dv__law_signs (P := P) (w := w) (b := b) (mg := mg) (sp := spSigns) F__law_signs  (by intro vs H Q E h; first | (obtain ⟨_, rfl, _⟩ := h; rfl; done) | (obtain ⟨_, _, rfl, _⟩ := h; rfl; done) | (obtain ⟨_, _, _, rfl, _⟩ := h; rfl; done) | (obtain ⟨_, _, _, _, rfl, _⟩ := h; rfl; done) | (obtain ⟨_, _, _, _, _, rfl, _⟩ := h; rfl; done) | (obtain ⟨_, _, _, _, _, _, rfl, _⟩ := h; rfl; done) | (obtain ⟨_, _, _, _, _, _, _, rfl, _⟩ := h; rfl; done) | (obtain ⟨_, _, _, _, _, _, _, _, rfl, _⟩ := h; rfl; done) | (obtain ⟨_, _, _, _, _, _, _, _, _, rfl, _⟩ := h; rfl; done) | (obtain ⟨_, _, _, _, _, _, _, _, _, _, rfl, _⟩ := h; rfl; done) | (obtain ⟨_, _, _, _, _, _, _, _, _, _, _, rfl, _⟩ := h; rfl; done) | (obtain ⟨_, _, _, _, _, _, _, _, _, _, _, _, rfl, _⟩ := h; rfl; done) | (obtain ⟨_, _, _, _, _, _, _, _, _, _, _, _, _, rfl, _⟩ := h; rfl; done) | (obtain ⟨_, _, _, _, _, _, _, _, _, _, _, _, _, _, rfl, _⟩ := h; rfl; done) | (obtain ⟨_, _, _, _, _, _, _, _, _, _, _, _, _, _, _, rfl, _⟩ := h; rfl; done) | (obtain ⟨_, _, _, _, _, _, _, _, _, _, _, _, _, _, _, _, rfl, _⟩ := h; rfl; done) | (obtain ⟨_, _, _, _, _, _, _, _, _, _, _, _, _, _, _, _, _, rfl, _⟩ := h; rfl; done) | (obtain ⟨_, _, _, _, _, _, _, _, _, _, _, _, _, _, _, _, _, _, rfl, _⟩ := h; rfl; done) | (obtain ⟨_, _, _, _, _, _, _, _, _, _, _, _, _, _, _, _, _, _, _, rfl, _⟩ := h; rfl; done) | (obtain ⟨_, _, _, _, _, _, _, _, _, _, _, _, _, _, _, _, _, _, _, _, rfl, _⟩ := h; rfl; done) | (obtain ⟨_, _, _, _, _, _, _, _, _, _, _, _, _, _, _, _, _, _, _, _, _, rfl, _⟩ := h; rfl; done) | (obtain ⟨_, _, _, _, _, _, _, _, _, _, _, _, _, _, _, _, _, _, _, _, _, _, rfl, _⟩ := h; rfl; done) | (rcases h with h | h <;> first | (obtain ⟨_, rfl, _⟩ := h; rfl; done) | (obtain ⟨_, _, rfl, _⟩ := h; rfl; done) | (obtain ⟨_, _, _, rfl, _⟩ := h; rfl; done) | (obtain ⟨_, _, _, _, rfl, _⟩ := h; rfl; done) | (obtain ⟨_, _, _, _, _, rfl, _⟩ := h; rfl; done) | (obtain ⟨_, _, _, _, _, _, rfl, _⟩ := h; rfl; done) | (obtain ⟨_, _, _, _, _, _, _, rfl, _⟩ := h; rfl; done) | (obtain ⟨_, _, _, _, _, _, _, _, rfl, _⟩ := h; rfl; done) | (obtain ⟨_, _, _, _, _, _, _, _, _, rfl, _⟩ := h; rfl; done) | (obtain ⟨_, _, _, _, _, _, _, _, _, _, rfl, _⟩ := h; rfl; done) | (obtain ⟨_, _, _, _, _, _, _, _, _, _, _, rfl, _⟩ := h; rfl; done) | (obtain ⟨_, _, _, _, _, _, _, _, _, _, _, _, rfl, _⟩ := h; rfl; done) | (obtain ⟨_, _, _, _, _, _, _, _, _, _, _, _, _, rfl, _⟩ := h; rfl; done) | (obtain ⟨_, _, _, _, _, _, _, _, _, _, _, _, _, _, rfl, _⟩ := h; rfl; done) | (obtain ⟨_, _, _, _, _, _, _, _, _, _, _, _, _, _, _, rfl, _⟩ := h; rfl; done) | (obtain ⟨_, _, _, _, _, _, _, _, _, _, _, _, _, _, _, _, rfl, _⟩ := h; rfl; done) | (obtain ⟨_, _, _, _, _, _, _, _, _, _, _, _, _, _, _, _, _, rfl, _⟩ := h; rfl; done) | (obtain ⟨_, _, _, _, _, _, _, _, _, _, _, _, _, _, _, _, _, _, rfl, _⟩ := h; rfl; done) | (obtain ⟨_, _, _, _, _, _, _, _, _, _, _, _, _, _, _, _, _, _, _, rfl, _⟩ := h; rfl; done) | (obtain ⟨_, _, _, _, _, _, _, _, _, _, _, _, _, _, _, _, _, _, _, _, rfl, _⟩ := h; rfl; done) | (obtain ⟨_, _, _, _, _, _, _, _, _, _, _, _, _, _, _, _, _, _, _, _, _, rfl, _⟩ := h; rfl; done) | (obtain ⟨_, _, _, _, _, _, _, _, _, _, _, _, _, _, _, _, _, _, _, _, _, _, rfl, _⟩ := h; rfl; done))) (rd_signs K)
  have k__law_moment_text := dv__law_moment_text (P := P) (w := w) (b := b) (mg := mg) (sp := spLTxt) F__law_moment_text (PySem.W.mg_none_of X G no_str) (by intro vs H Q E h; first | (obtain ⟨_, rfl, _⟩ := h; rfl; done) | (obtain ⟨_, _, rfl, _⟩ := h; rfl; done) | (obtain ⟨_, _, _, rfl, _⟩ := h; rfl; done) | (obtain ⟨_, _, _, _, rfl, _⟩ := h; rfl; done) | (obtain ⟨_, _, _, _, _, rfl, _⟩ := h; rfl; done) | (obtain ⟨_, _, _, _, _, _, rfl, _⟩ := h; rfl; done) | (obtain ⟨_, _, _, _, _, _, _, rfl, _⟩ := h; rfl; done) | (obtain ⟨_, _, _, _, _, _, _, _, rfl, _⟩ := h; rfl; done) | (obtain ⟨_, _, _, _, _, _, _, _, _, rfl, _⟩ := h; rfl; done) | (obtain ⟨_, _, _, _, _, _, _, _, _, _, rfl, _⟩ := h; rfl; done) | (obtain ⟨_, _, _, _, _, _, _, _, _, _, _, rfl, _⟩ := h; rfl; done) | (obtain ⟨_, _, _, _, _, _, _, _, _, _, _, _, rfl, _⟩ := h; rfl; done) | (obtain ⟨_, _, _, _, _, _, _, _, _, _, _, _, _, rfl, _⟩ := h; rfl; done) | (obtain ⟨_, _, _, _, _, _, _, _, _, _, _, _, _, _, rfl, _⟩ := h; rfl; done) | (obtain ⟨_, _, _, _, _, _, _, _, _, _, _, _, _, _, _, rfl, _⟩ := h; rfl; done) | (obtain ⟨_, _, _, _, _, _, _, _, _, _, _, _, _, _, _, _, rfl, _⟩ := h; rfl; done) | (obtain ⟨_, _, _, _, _, _, _, _, _, _, _, _, _, _, _, _, _, rfl, _⟩ := h; rfl; done) | (obtain ⟨_, _, _, _, _, _, _, _, _, _, _, _, _, _, _, _, _, _, rfl, _⟩ := h; rfl; done) | (obtain ⟨_, _, _, _, _, _, _, _, _, _, _, _, _, _, _, _, _, _, _, rfl, _⟩ := h; rfl; done) | (obtain ⟨_, _, _, _, _, _, _, _, _, _, _, _, _, _, _, _, _, _, _, _, rfl, _⟩ := h; rfl; done) | (obtain ⟨_, _, _, _, _, _, _, _, _, _, _, _, _, _, _, _, _, _, _, _, _, rfl, _⟩ := h; rfl; done) | (obtain ⟨_, _, _, _, _, _, _, _, _, _, _, _, _, _, _, _, _, _, _, _, _, _, rfl, _⟩ := h; rfl; done) | (rcases h with h | h <;> first | (obtain ⟨_, rfl, _⟩ := h; rfl; done) | (obtain ⟨_, _, rfl, _⟩ := h; rfl; done) | (obtain ⟨_, _, _, rfl, _⟩ := h; rfl; done) | (obtain ⟨_, _, _, _, rfl, _⟩ := h; rfl; done) | (obtain ⟨_, _, _, _, _, rfl, _⟩ := h; rfl; done) | (obtain ⟨_, _, _, _, _, _, rfl, _⟩ := h; rfl; done) | (obtain ⟨_, _, _, _, _, _, _, rfl, _⟩ := h; rfl; done) | (obtain ⟨_, _, _, _, _, _, _, _, rfl, _⟩ := h; rfl; done) | (obtain ⟨_, _, _, _, _, _, _, _, _, rfl, _⟩ := h; rfl; done) | (obtain ⟨_, _, _, _, _, _, _, _, _, _, rfl, _⟩ := h; rfl; done) | (obtain ⟨_, _, _, _, _, _, _, _, _, _, _, rfl, _⟩ := h; rfl; done) | (obtain ⟨_, _, _, _, _, _, _, _, _, _, _, _, rfl, _⟩ := h; rfl; done) | (obtain ⟨_, _, _, _, _, _, _, _, _, _, _, _, _, rfl, _⟩ := h; rfl; done) | (obtain ⟨_, _, _, _, _, _, _, _, _, _, _, _, _, _, rfl, _⟩ := h; rfl; done) | (obtain ⟨_, _, _, _, _, _, _, _, _, _, _, _, _, _, _, rfl, _⟩ := h; rfl; done) | (obtain ⟨_, _, _, _, _, _, _, _, _, _, _, _, _, _, _, _, rfl, _⟩ := h; rfl; done) | (obtain ⟨_, _, _, _, _, _, _, _, _, _, _, _, _, _, _, _, _, rfl, _⟩ := h; rfl; done) | (obtain ⟨_, _, _, _, _, _, _, _, _, _, _, _, _, _, _, _, _, _, rfl, _⟩ := h; rfl; done) | (obtain ⟨_, _, _, _, _, _, _, _, _, _, _, _, _, _, _, _, _, _, _, rfl, _⟩ := h; rfl; done) | (obtain ⟨_, _, _, _, _, _, _, _, _, _, _, _, _, _, _, _, _, _, _, _, rfl, _⟩ := h; rfl; done) | (obtain ⟨_, _, _, _, _, _, _, _, _, _, _, _, _, _, _, _, _, _, _, _, _, rfl, _⟩ := h; rfl; done) | (obtain ⟨_, _, _, _, _, _, _, _, _, _, _, _, _, _, _, _, _, _, _, _, _, _, rfl, _⟩ := h; rfl; done))) (rd_ltxt K)
  have k__law_moment := dv__law_moment (P := P) (w := w) (b := b) (mg := mg) (sp := spMom) F__law_moment F__law_draw k__law_draw (PySem.W.mg_none_of X G no_max) (PySem.W.mg_none_of X G no_min) (by intro vs H Q E h; first | (obtain ⟨_, rfl, _⟩ := h; rfl; done) | (obtain ⟨_, _, rfl, _⟩ := h; rfl; done) | (obtain ⟨_, _, _, rfl, _⟩ := h; rfl; done) | (obtain ⟨_, _, _, _, rfl, _⟩ := h; rfl; done) | (obtain ⟨_, _, _, _, _, rfl, _⟩ := h; rfl; done) | (obtain ⟨_, _, _, _, _, _, rfl, _⟩ := h; rfl; done) | (obtain ⟨_, _, _, _, _, _, _, rfl, _⟩ := h; rfl; done) | (obtain ⟨_, _, _, _, _, _, _, _, rfl, _⟩ := h; rfl; done) | (obtain ⟨_, _, _, _, _, _, _, _, _, rfl, _⟩ := h; rfl; done) | (obtain ⟨_, _, _, _, _, _, _, _, _, _, rfl, _⟩ := h; rfl; done) | (obtain ⟨_, _, _, _, _, _, _, _, _, _, _, rfl, _⟩ := h; rfl; done) | (obtain ⟨_, _, _, _, _, _, _, _, _, _, _, _, rfl, _⟩ := h; rfl; done) | (obtain ⟨_, _, _, _, _, _, _, _, _, _, _, _, _, rfl, _⟩ := h; rfl; done) | (obtain ⟨_, _, _, _, _, _, _, _, _, _, _, _, _, _, rfl, _⟩ := h; rfl; done) | (obtain ⟨_, _, _, _, _, _, _, _, _, _, _, _, _, _, _, rfl, _⟩ := h; rfl; done) | (obtain ⟨_, _, _, _, _, _, _, _, _, _, _, _, _, _, _, _, rfl, _⟩ := h; rfl; done) | (obtain ⟨_, _, _, _, _, _, _, _, _, _, _, _, _, _, _, _, _, rfl, _⟩ := h; rfl; done) | (obtain ⟨_, _, _, _, _, _, _, _, _, _, _, _, _, _, _, _, _, _, rfl, _⟩ := h; rfl; done) | (obtain ⟨_, _, _, _, _, _, _, _, _, _, _, _, _, _, _, _, _, _, _, rfl, _⟩ := h; rfl; done) | (obtain ⟨_, _, _, _, _, _, _, _, _, _, _, _, _, _, _, _, _, _, _, _, rfl, _⟩ := h; rfl; done) | (obtain ⟨_, _, _, _, _, _, _, _, _, _, _, _, _, _, _, _, _, _, _, _, _, rfl, _⟩ := h; rfl; done) | (obtain ⟨_, _, _, _, _, _, _, _, _, _, _, _, _, _, _, _, _, _, _, _, _, _, rfl, _⟩ := h; rfl; done) | (rcases h with h | h <;> first | (obtain ⟨_, rfl, _⟩ := h; rfl; done) | (obtain ⟨_, _, rfl, _⟩ := h; rfl; done) | (obtain ⟨_, _, _, rfl, _⟩ := h; rfl; done) | (obtain ⟨_, _, _, _, rfl, _⟩ := h; rfl; done) | (obtain ⟨_, _, _, _, _, rfl, _⟩ := h; rfl; done) | (obtain ⟨_, _, _, _, _, _, rfl, _⟩ := h; rfl; done) | (obtain ⟨_, _, _, _, _, _, _, rfl, _⟩ := h; rfl; done) | (obtain ⟨_, _, _, _, _, _, _, _, rfl, _⟩ := h; rfl; done) | (obtain ⟨_, _, _, _, _, _, _, _, _, rfl, _⟩ := h; rfl; done) | (obtain ⟨_, _, _, _, _, _, _, _, _, _, rfl, _⟩ := h; rfl; done) | (obtain ⟨_, _, _, _, _, _, _, _, _, _, _, rfl, _⟩ := h; rfl; done) | (obtain ⟨_, _, _, _, _, _, _, _, _, _, _, _, rfl, _⟩ := h; rfl; done) | (obtain ⟨_, _, _, _, _, _, _, _, _, _, _, _, _, rfl, _⟩ := h; rfl; done) | (obtain ⟨_, _, _, _, _, _, _, _, _, _, _, _, _, _, rfl, _⟩ := h; rfl; done) | (obtain ⟨_, _, _, _, _, _, _, _, _, _, _, _, _, _, _, rfl, _⟩ := h; rfl; done) | (obtain ⟨_, _, _, _, _, _, _, _, _, _, _, _, _, _, _, _, rfl, _⟩ := h; rfl; done) | (obtain ⟨_, _, _, _, _, _, _, _, _, _, _, _, _, _, _, _, _, rfl, _⟩ := h; rfl; done) | (obtain ⟨_, _, _, _, _, _, _, _, _, _, _, _, _, _, _, _, _, _, rfl, _⟩ := h; rfl; done) | (obtain ⟨_, _, _, _, _, _, _, _, _, _, _, _, _, _, _, _, _, _, _, rfl, _⟩ := h; rfl; done) | (obtain ⟨_, _, _, _, _, _, _, _, _, _, _, _, _, _, _, _, _, _, _, _, rfl, _⟩ := h; rfl; done) | (obtain ⟨_, _, _, _, _, _, _, _, _, _, _, _, _, _, _, _, _, _, _, _, _, rfl, _⟩ := h; rfl; done) | (obtain ⟨_, _, _, _, _, _, _, _, _, _, _, _, _, _, _, _, _, _, _, _, _, _, rfl, _⟩ := h; rfl; done))) (rd_mom K)
  have k__law_marks := dv__law_marks (P := P) (w := w) (b := b) (mg := mg) (sp := spMarks9 K c_NoText) F__law_marks (PySem.W.mg_of X G ad_WagonError) (PySem.W.mg_of X G ad_NoText) (PySem.W.mg_of X G ad_NoMoment) (PySem.W.mg_of X G ad_NoLog) (PySem.W.mg_of X G ad_NoDeed) (PySem.W.mg_of X G ad_NoCall) (PySem.W.mg_of X G ad_Late) (PySem.W.mg_of X G ad_TooMany) (PySem.W.mg_of X G ad_NoTown) (PySem.W.mg_of X G ad_NoTelling) (PySem.W.mg_of X G ad_NoRow) (PySem.W.mg_of X G ad_NoPaper) (PySem.W.mg_none_of X G no_isinstance) (PySem.W.mg_none_of X G no_ValueError) (by intro vs H Q E h; first | (obtain ⟨_, rfl, _⟩ := h; rfl; done) | (obtain ⟨_, _, rfl, _⟩ := h; rfl; done) | (obtain ⟨_, _, _, rfl, _⟩ := h; rfl; done) | (obtain ⟨_, _, _, _, rfl, _⟩ := h; rfl; done) | (obtain ⟨_, _, _, _, _, rfl, _⟩ := h; rfl; done) | (obtain ⟨_, _, _, _, _, _, rfl, _⟩ := h; rfl; done) | (obtain ⟨_, _, _, _, _, _, _, rfl, _⟩ := h; rfl; done) | (obtain ⟨_, _, _, _, _, _, _, _, rfl, _⟩ := h; rfl; done) | (obtain ⟨_, _, _, _, _, _, _, _, _, rfl, _⟩ := h; rfl; done) | (obtain ⟨_, _, _, _, _, _, _, _, _, _, rfl, _⟩ := h; rfl; done) | (obtain ⟨_, _, _, _, _, _, _, _, _, _, _, rfl, _⟩ := h; rfl; done) | (obtain ⟨_, _, _, _, _, _, _, _, _, _, _, _, rfl, _⟩ := h; rfl; done) | (obtain ⟨_, _, _, _, _, _, _, _, _, _, _, _, _, rfl, _⟩ := h; rfl; done) | (obtain ⟨_, _, _, _, _, _, _, _, _, _, _, _, _, _, rfl, _⟩ := h; rfl; done) | (obtain ⟨_, _, _, _, _, _, _, _, _, _, _, _, _, _, _, rfl, _⟩ := h; rfl; done) | (obtain ⟨_, _, _, _, _, _, _, _, _, _, _, _, _, _, _, _, rfl, _⟩ := h; rfl; done) | (obtain ⟨_, _, _, _, _, _, _, _, _, _, _, _, _, _, _, _, _, rfl, _⟩ := h; rfl; done) | (obtain ⟨_, _, _, _, _, _, _, _, _, _, _, _, _, _, _, _, _, _, rfl, _⟩ := h; rfl; done) | (obtain ⟨_, _, _, _, _, _, _, _, _, _, _, _, _, _, _, _, _, _, _, rfl, _⟩ := h; rfl; done) | (obtain ⟨_, _, _, _, _, _, _, _, _, _, _, _, _, _, _, _, _, _, _, _, rfl, _⟩ := h; rfl; done) | (obtain ⟨_, _, _, _, _, _, _, _, _, _, _, _, _, _, _, _, _, _, _, _, _, rfl, _⟩ := h; rfl; done) | (obtain ⟨_, _, _, _, _, _, _, _, _, _, _, _, _, _, _, _, _, _, _, _, _, _, rfl, _⟩ := h; rfl; done) | (rcases h with h | h <;> first | (obtain ⟨_, rfl, _⟩ := h; rfl; done) | (obtain ⟨_, _, rfl, _⟩ := h; rfl; done) | (obtain ⟨_, _, _, rfl, _⟩ := h; rfl; done) | (obtain ⟨_, _, _, _, rfl, _⟩ := h; rfl; done) | (obtain ⟨_, _, _, _, _, rfl, _⟩ := h; rfl; done) | (obtain ⟨_, _, _, _, _, _, rfl, _⟩ := h; rfl; done) | (obtain ⟨_, _, _, _, _, _, _, rfl, _⟩ := h; rfl; done) | (obtain ⟨_, _, _, _, _, _, _, _, rfl, _⟩ := h; rfl; done) | (obtain ⟨_, _, _, _, _, _, _, _, _, rfl, _⟩ := h; rfl; done) | (obtain ⟨_, _, _, _, _, _, _, _, _, _, rfl, _⟩ := h; rfl; done) | (obtain ⟨_, _, _, _, _, _, _, _, _, _, _, rfl, _⟩ := h; rfl; done) | (obtain ⟨_, _, _, _, _, _, _, _, _, _, _, _, rfl, _⟩ := h; rfl; done) | (obtain ⟨_, _, _, _, _, _, _, _, _, _, _, _, _, rfl, _⟩ := h; rfl; done) | (obtain ⟨_, _, _, _, _, _, _, _, _, _, _, _, _, _, rfl, _⟩ := h; rfl; done) | (obtain ⟨_, _, _, _, _, _, _, _, _, _, _, _, _, _, _, rfl, _⟩ := h; rfl; done) | (obtain ⟨_, _, _, _, _, _, _, _, _, _, _, _, _, _, _, _, rfl, _⟩ := h; rfl; done) | (obtain ⟨_, _, _, _, _, _, _, _, _, _, _, _, _, _, _, _, _, rfl, _⟩ := h; rfl; done) | (obtain ⟨_, _, _, _, _, _, _, _, _, _, _, _, _, _, _, _, _, _, rfl, _⟩ := h; rfl; done) | (obtain ⟨_, _, _, _, _, _, _, _, _, _, _, _, _, _, _, _, _, _, _, rfl, _⟩ := h; rfl; done) | (obtain ⟨_, _, _, _, _, _, _, _, _, _, _, _, _, _, _, _, _, _, _, _, rfl, _⟩ := h; rfl; done) | (obtain ⟨_, _, _, _, _, _, _, _, _, _, _, _, _, _, _, _, _, _, _, _, _, rfl, _⟩ := h; rfl; done) | (obtain ⟨_, _, _, _, _, _, _, _, _, _, _, _, _, _, _, _, _, _, _, _, _, _, rfl, _⟩ := h; rfl; done))) (rd_marks9 K F9)
  have k__law_read := dv__law_read (P := P) (w := w) (b := b) (mg := mg) (sp := spReadA K) F__law_read (PySem.W.mg_none_of X G no_isinstance) (PySem.W.mg_none_of X G no_str) (PySem.W.mg_none_of X G no_len) (PySem.W.mg_none_of X G no_int) F__law_moment_text k__law_moment_text (by intro vs H Q E h; first | (obtain ⟨_, rfl, _⟩ := h; rfl; done) | (obtain ⟨_, _, rfl, _⟩ := h; rfl; done) | (obtain ⟨_, _, _, rfl, _⟩ := h; rfl; done) | (obtain ⟨_, _, _, _, rfl, _⟩ := h; rfl; done) | (obtain ⟨_, _, _, _, _, rfl, _⟩ := h; rfl; done) | (obtain ⟨_, _, _, _, _, _, rfl, _⟩ := h; rfl; done) | (obtain ⟨_, _, _, _, _, _, _, rfl, _⟩ := h; rfl; done) | (obtain ⟨_, _, _, _, _, _, _, _, rfl, _⟩ := h; rfl; done) | (obtain ⟨_, _, _, _, _, _, _, _, _, rfl, _⟩ := h; rfl; done) | (obtain ⟨_, _, _, _, _, _, _, _, _, _, rfl, _⟩ := h; rfl; done) | (obtain ⟨_, _, _, _, _, _, _, _, _, _, _, rfl, _⟩ := h; rfl; done) | (obtain ⟨_, _, _, _, _, _, _, _, _, _, _, _, rfl, _⟩ := h; rfl; done) | (obtain ⟨_, _, _, _, _, _, _, _, _, _, _, _, _, rfl, _⟩ := h; rfl; done) | (obtain ⟨_, _, _, _, _, _, _, _, _, _, _, _, _, _, rfl, _⟩ := h; rfl; done) | (obtain ⟨_, _, _, _, _, _, _, _, _, _, _, _, _, _, _, rfl, _⟩ := h; rfl; done) | (obtain ⟨_, _, _, _, _, _, _, _, _, _, _, _, _, _, _, _, rfl, _⟩ := h; rfl; done) | (obtain ⟨_, _, _, _, _, _, _, _, _, _, _, _, _, _, _, _, _, rfl, _⟩ := h; rfl; done) | (obtain ⟨_, _, _, _, _, _, _, _, _, _, _, _, _, _, _, _, _, _, rfl, _⟩ := h; rfl; done) | (obtain ⟨_, _, _, _, _, _, _, _, _, _, _, _, _, _, _, _, _, _, _, rfl, _⟩ := h; rfl; done) | (obtain ⟨_, _, _, _, _, _, _, _, _, _, _, _, _, _, _, _, _, _, _, _, rfl, _⟩ := h; rfl; done) | (obtain ⟨_, _, _, _, _, _, _, _, _, _, _, _, _, _, _, _, _, _, _, _, _, rfl, _⟩ := h; rfl; done) | (obtain ⟨_, _, _, _, _, _, _, _, _, _, _, _, _, _, _, _, _, _, _, _, _, _, rfl, _⟩ := h; rfl; done) | (rcases h with h | h <;> first | (obtain ⟨_, rfl, _⟩ := h; rfl; done) | (obtain ⟨_, _, rfl, _⟩ := h; rfl; done) | (obtain ⟨_, _, _, rfl, _⟩ := h; rfl; done) | (obtain ⟨_, _, _, _, rfl, _⟩ := h; rfl; done) | (obtain ⟨_, _, _, _, _, rfl, _⟩ := h; rfl; done) | (obtain ⟨_, _, _, _, _, _, rfl, _⟩ := h; rfl; done) | (obtain ⟨_, _, _, _, _, _, _, rfl, _⟩ := h; rfl; done) | (obtain ⟨_, _, _, _, _, _, _, _, rfl, _⟩ := h; rfl; done) | (obtain ⟨_, _, _, _, _, _, _, _, _, rfl, _⟩ := h; rfl; done) | (obtain ⟨_, _, _, _, _, _, _, _, _, _, rfl, _⟩ := h; rfl; done) | (obtain ⟨_, _, _, _, _, _, _, _, _, _, _, rfl, _⟩ := h; rfl; done) | (obtain ⟨_, _, _, _, _, _, _, _, _, _, _, _, rfl, _⟩ := h; rfl; done) | (obtain ⟨_, _, _, _, _, _, _, _, _, _, _, _, _, rfl, _⟩ := h; rfl; done) | (obtain ⟨_, _, _, _, _, _, _, _, _, _, _, _, _, _, rfl, _⟩ := h; rfl; done) | (obtain ⟨_, _, _, _, _, _, _, _, _, _, _, _, _, _, _, rfl, _⟩ := h; rfl; done) | (obtain ⟨_, _, _, _, _, _, _, _, _, _, _, _, _, _, _, _, rfl, _⟩ := h; rfl; done) | (obtain ⟨_, _, _, _, _, _, _, _, _, _, _, _, _, _, _, _, _, rfl, _⟩ := h; rfl; done) | (obtain ⟨_, _, _, _, _, _, _, _, _, _, _, _, _, _, _, _, _, _, rfl, _⟩ := h; rfl; done) | (obtain ⟨_, _, _, _, _, _, _, _, _, _, _, _, _, _, _, _, _, _, _, rfl, _⟩ := h; rfl; done) | (obtain ⟨_, _, _, _, _, _, _, _, _, _, _, _, _, _, _, _, _, _, _, _, rfl, _⟩ := h; rfl; done) | (obtain ⟨_, _, _, _, _, _, _, _, _, _, _, _, _, _, _, _, _, _, _, _, _, rfl, _⟩ := h; rfl; done) | (obtain ⟨_, _, _, _, _, _, _, _, _, _, _, _, _, _, _, _, _, _, _, _, _, _, rfl, _⟩ := h; rfl; done))) (rd_readA K)
  have k__law_told := dv__law_told (P := P) (w := w) (b := b) (mg := mg) (sp := spToldA K [P_number_by] P_number_by) F__law_told (PySem.W.mg_of X G ad_NoText) F_moment_by k_moment_by F__law_marks k__law_marks (by intro vs H Q E h; first | (obtain ⟨_, rfl, _⟩ := h; rfl; done) | (obtain ⟨_, _, rfl, _⟩ := h; rfl; done) | (obtain ⟨_, _, _, rfl, _⟩ := h; rfl; done) | (obtain ⟨_, _, _, _, rfl, _⟩ := h; rfl; done) | (obtain ⟨_, _, _, _, _, rfl, _⟩ := h; rfl; done) | (obtain ⟨_, _, _, _, _, _, rfl, _⟩ := h; rfl; done) | (obtain ⟨_, _, _, _, _, _, _, rfl, _⟩ := h; rfl; done) | (obtain ⟨_, _, _, _, _, _, _, _, rfl, _⟩ := h; rfl; done) | (obtain ⟨_, _, _, _, _, _, _, _, _, rfl, _⟩ := h; rfl; done) | (obtain ⟨_, _, _, _, _, _, _, _, _, _, rfl, _⟩ := h; rfl; done) | (obtain ⟨_, _, _, _, _, _, _, _, _, _, _, rfl, _⟩ := h; rfl; done) | (obtain ⟨_, _, _, _, _, _, _, _, _, _, _, _, rfl, _⟩ := h; rfl; done) | (obtain ⟨_, _, _, _, _, _, _, _, _, _, _, _, _, rfl, _⟩ := h; rfl; done) | (obtain ⟨_, _, _, _, _, _, _, _, _, _, _, _, _, _, rfl, _⟩ := h; rfl; done) | (obtain ⟨_, _, _, _, _, _, _, _, _, _, _, _, _, _, _, rfl, _⟩ := h; rfl; done) | (obtain ⟨_, _, _, _, _, _, _, _, _, _, _, _, _, _, _, _, rfl, _⟩ := h; rfl; done) | (obtain ⟨_, _, _, _, _, _, _, _, _, _, _, _, _, _, _, _, _, rfl, _⟩ := h; rfl; done) | (obtain ⟨_, _, _, _, _, _, _, _, _, _, _, _, _, _, _, _, _, _, rfl, _⟩ := h; rfl; done) | (obtain ⟨_, _, _, _, _, _, _, _, _, _, _, _, _, _, _, _, _, _, _, rfl, _⟩ := h; rfl; done) | (obtain ⟨_, _, _, _, _, _, _, _, _, _, _, _, _, _, _, _, _, _, _, _, rfl, _⟩ := h; rfl; done) | (obtain ⟨_, _, _, _, _, _, _, _, _, _, _, _, _, _, _, _, _, _, _, _, _, rfl, _⟩ := h; rfl; done) | (obtain ⟨_, _, _, _, _, _, _, _, _, _, _, _, _, _, _, _, _, _, _, _, _, _, rfl, _⟩ := h; rfl; done) | (rcases h with h | h <;> first | (obtain ⟨_, rfl, _⟩ := h; rfl; done) | (obtain ⟨_, _, rfl, _⟩ := h; rfl; done) | (obtain ⟨_, _, _, rfl, _⟩ := h; rfl; done) | (obtain ⟨_, _, _, _, rfl, _⟩ := h; rfl; done) | (obtain ⟨_, _, _, _, _, rfl, _⟩ := h; rfl; done) | (obtain ⟨_, _, _, _, _, _, rfl, _⟩ := h; rfl; done) | (obtain ⟨_, _, _, _, _, _, _, rfl, _⟩ := h; rfl; done) | (obtain ⟨_, _, _, _, _, _, _, _, rfl, _⟩ := h; rfl; done) | (obtain ⟨_, _, _, _, _, _, _, _, _, rfl, _⟩ := h; rfl; done) | (obtain ⟨_, _, _, _, _, _, _, _, _, _, rfl, _⟩ := h; rfl; done) | (obtain ⟨_, _, _, _, _, _, _, _, _, _, _, rfl, _⟩ := h; rfl; done) | (obtain ⟨_, _, _, _, _, _, _, _, _, _, _, _, rfl, _⟩ := h; rfl; done) | (obtain ⟨_, _, _, _, _, _, _, _, _, _, _, _, _, rfl, _⟩ := h; rfl; done) | (obtain ⟨_, _, _, _, _, _, _, _, _, _, _, _, _, _, rfl, _⟩ := h; rfl; done) | (obtain ⟨_, _, _, _, _, _, _, _, _, _, _, _, _, _, _, rfl, _⟩ := h; rfl; done) | (obtain ⟨_, _, _, _, _, _, _, _, _, _, _, _, _, _, _, _, rfl, _⟩ := h; rfl; done) | (obtain ⟨_, _, _, _, _, _, _, _, _, _, _, _, _, _, _, _, _, rfl, _⟩ := h; rfl; done) | (obtain ⟨_, _, _, _, _, _, _, _, _, _, _, _, _, _, _, _, _, _, rfl, _⟩ := h; rfl; done) | (obtain ⟨_, _, _, _, _, _, _, _, _, _, _, _, _, _, _, _, _, _, _, rfl, _⟩ := h; rfl; done) | (obtain ⟨_, _, _, _, _, _, _, _, _, _, _, _, _, _, _, _, _, _, _, _, rfl, _⟩ := h; rfl; done) | (obtain ⟨_, _, _, _, _, _, _, _, _, _, _, _, _, _, _, _, _, _, _, _, _, rfl, _⟩ := h; rfl; done) | (obtain ⟨_, _, _, _, _, _, _, _, _, _, _, _, _, _, _, _, _, _, _, _, _, _, rfl, _⟩ := h; rfl; done))) (rd_toldA K F9 na_NoText_row (L := [P_number_by]) (P := P_number_by))
  have k__law_bent := dv__law_bent (P := P) (w := w) (b := b) (mg := mg) (sp := spBent) F__law_bent F__law_signs k__law_signs F__law_draw k__law_draw (PySem.W.mg_none_of X G no_len) (PySem.W.mg_none_of X G no_int) (by intro vs H Q E h; first | (obtain ⟨_, rfl, _⟩ := h; rfl; done) | (obtain ⟨_, _, rfl, _⟩ := h; rfl; done) | (obtain ⟨_, _, _, rfl, _⟩ := h; rfl; done) | (obtain ⟨_, _, _, _, rfl, _⟩ := h; rfl; done) | (obtain ⟨_, _, _, _, _, rfl, _⟩ := h; rfl; done) | (obtain ⟨_, _, _, _, _, _, rfl, _⟩ := h; rfl; done) | (obtain ⟨_, _, _, _, _, _, _, rfl, _⟩ := h; rfl; done) | (obtain ⟨_, _, _, _, _, _, _, _, rfl, _⟩ := h; rfl; done) | (obtain ⟨_, _, _, _, _, _, _, _, _, rfl, _⟩ := h; rfl; done) | (obtain ⟨_, _, _, _, _, _, _, _, _, _, rfl, _⟩ := h; rfl; done) | (obtain ⟨_, _, _, _, _, _, _, _, _, _, _, rfl, _⟩ := h; rfl; done) | (obtain ⟨_, _, _, _, _, _, _, _, _, _, _, _, rfl, _⟩ := h; rfl; done) | (obtain ⟨_, _, _, _, _, _, _, _, _, _, _, _, _, rfl, _⟩ := h; rfl; done) | (obtain ⟨_, _, _, _, _, _, _, _, _, _, _, _, _, _, rfl, _⟩ := h; rfl; done) | (obtain ⟨_, _, _, _, _, _, _, _, _, _, _, _, _, _, _, rfl, _⟩ := h; rfl; done) | (obtain ⟨_, _, _, _, _, _, _, _, _, _, _, _, _, _, _, _, rfl, _⟩ := h; rfl; done) | (obtain ⟨_, _, _, _, _, _, _, _, _, _, _, _, _, _, _, _, _, rfl, _⟩ := h; rfl; done) | (obtain ⟨_, _, _, _, _, _, _, _, _, _, _, _, _, _, _, _, _, _, rfl, _⟩ := h; rfl; done) | (obtain ⟨_, _, _, _, _, _, _, _, _, _, _, _, _, _, _, _, _, _, _, rfl, _⟩ := h; rfl; done) | (obtain ⟨_, _, _, _, _, _, _, _, _, _, _, _, _, _, _, _, _, _, _, _, rfl, _⟩ := h; rfl; done) | (obtain ⟨_, _, _, _, _, _, _, _, _, _, _, _, _, _, _, _, _, _, _, _, _, rfl, _⟩ := h; rfl; done) | (obtain ⟨_, _, _, _, _, _, _, _, _, _, _, _, _, _, _, _, _, _, _, _, _, _, rfl, _⟩ := h; rfl; done) | (rcases h with h | h <;> first | (obtain ⟨_, rfl, _⟩ := h; rfl; done) | (obtain ⟨_, _, rfl, _⟩ := h; rfl; done) | (obtain ⟨_, _, _, rfl, _⟩ := h; rfl; done) | (obtain ⟨_, _, _, _, rfl, _⟩ := h; rfl; done) | (obtain ⟨_, _, _, _, _, rfl, _⟩ := h; rfl; done) | (obtain ⟨_, _, _, _, _, _, rfl, _⟩ := h; rfl; done) | (obtain ⟨_, _, _, _, _, _, _, rfl, _⟩ := h; rfl; done) | (obtain ⟨_, _, _, _, _, _, _, _, rfl, _⟩ := h; rfl; done) | (obtain ⟨_, _, _, _, _, _, _, _, _, rfl, _⟩ := h; rfl; done) | (obtain ⟨_, _, _, _, _, _, _, _, _, _, rfl, _⟩ := h; rfl; done) | (obtain ⟨_, _, _, _, _, _, _, _, _, _, _, rfl, _⟩ := h; rfl; done) | (obtain ⟨_, _, _, _, _, _, _, _, _, _, _, _, rfl, _⟩ := h; rfl; done) | (obtain ⟨_, _, _, _, _, _, _, _, _, _, _, _, _, rfl, _⟩ := h; rfl; done) | (obtain ⟨_, _, _, _, _, _, _, _, _, _, _, _, _, _, rfl, _⟩ := h; rfl; done) | (obtain ⟨_, _, _, _, _, _, _, _, _, _, _, _, _, _, _, rfl, _⟩ := h; rfl; done) | (obtain ⟨_, _, _, _, _, _, _, _, _, _, _, _, _, _, _, _, rfl, _⟩ := h; rfl; done) | (obtain ⟨_, _, _, _, _, _, _, _, _, _, _, _, _, _, _, _, _, rfl, _⟩ := h; rfl; done) | (obtain ⟨_, _, _, _, _, _, _, _, _, _, _, _, _, _, _, _, _, _, rfl, _⟩ := h; rfl; done) | (obtain ⟨_, _, _, _, _, _, _, _, _, _, _, _, _, _, _, _, _, _, _, rfl, _⟩ := h; rfl; done) | (obtain ⟨_, _, _, _, _, _, _, _, _, _, _, _, _, _, _, _, _, _, _, _, rfl, _⟩ := h; rfl; done) | (obtain ⟨_, _, _, _, _, _, _, _, _, _, _, _, _, _, _, _, _, _, _, _, _, rfl, _⟩ := h; rfl; done) | (obtain ⟨_, _, _, _, _, _, _, _, _, _, _, _, _, _, _, _, _, _, _, _, _, _, rfl, _⟩ := h; rfl; done))) (rd_bent K)
  have k__law_things := dv__law_things (P := P) (w := w) (b := b) (mg := mg) (sp := spThings K) F__law_things F__law_moment k__law_moment F__law_moment_text k__law_moment_text F__law_bent k__law_bent (PySem.W.mg_none_of X G no_str) F__law_draw k__law_draw (by intro vs H Q E h; first | (obtain ⟨_, rfl, _⟩ := h; rfl; done) | (obtain ⟨_, _, rfl, _⟩ := h; rfl; done) | (obtain ⟨_, _, _, rfl, _⟩ := h; rfl; done) | (obtain ⟨_, _, _, _, rfl, _⟩ := h; rfl; done) | (obtain ⟨_, _, _, _, _, rfl, _⟩ := h; rfl; done) | (obtain ⟨_, _, _, _, _, _, rfl, _⟩ := h; rfl; done) | (obtain ⟨_, _, _, _, _, _, _, rfl, _⟩ := h; rfl; done) | (obtain ⟨_, _, _, _, _, _, _, _, rfl, _⟩ := h; rfl; done) | (obtain ⟨_, _, _, _, _, _, _, _, _, rfl, _⟩ := h; rfl; done) | (obtain ⟨_, _, _, _, _, _, _, _, _, _, rfl, _⟩ := h; rfl; done) | (obtain ⟨_, _, _, _, _, _, _, _, _, _, _, rfl, _⟩ := h; rfl; done) | (obtain ⟨_, _, _, _, _, _, _, _, _, _, _, _, rfl, _⟩ := h; rfl; done) | (obtain ⟨_, _, _, _, _, _, _, _, _, _, _, _, _, rfl, _⟩ := h; rfl; done) | (obtain ⟨_, _, _, _, _, _, _, _, _, _, _, _, _, _, rfl, _⟩ := h; rfl; done) | (obtain ⟨_, _, _, _, _, _, _, _, _, _, _, _, _, _, _, rfl, _⟩ := h; rfl; done) | (obtain ⟨_, _, _, _, _, _, _, _, _, _, _, _, _, _, _, _, rfl, _⟩ := h; rfl; done) | (obtain ⟨_, _, _, _, _, _, _, _, _, _, _, _, _, _, _, _, _, rfl, _⟩ := h; rfl; done) | (obtain ⟨_, _, _, _, _, _, _, _, _, _, _, _, _, _, _, _, _, _, rfl, _⟩ := h; rfl; done) | (obtain ⟨_, _, _, _, _, _, _, _, _, _, _, _, _, _, _, _, _, _, _, rfl, _⟩ := h; rfl; done) | (obtain ⟨_, _, _, _, _, _, _, _, _, _, _, _, _, _, _, _, _, _, _, _, rfl, _⟩ := h; rfl; done) | (obtain ⟨_, _, _, _, _, _, _, _, _, _, _, _, _, _, _, _, _, _, _, _, _, rfl, _⟩ := h; rfl; done) | (obtain ⟨_, _, _, _, _, _, _, _, _, _, _, _, _, _, _, _, _, _, _, _, _, _, rfl, _⟩ := h; rfl; done) | (rcases h with h | h <;> first | (obtain ⟨_, rfl, _⟩ := h; rfl; done) | (obtain ⟨_, _, rfl, _⟩ := h; rfl; done) | (obtain ⟨_, _, _, rfl, _⟩ := h; rfl; done) | (obtain ⟨_, _, _, _, rfl, _⟩ := h; rfl; done) | (obtain ⟨_, _, _, _, _, rfl, _⟩ := h; rfl; done) | (obtain ⟨_, _, _, _, _, _, rfl, _⟩ := h; rfl; done) | (obtain ⟨_, _, _, _, _, _, _, rfl, _⟩ := h; rfl; done) | (obtain ⟨_, _, _, _, _, _, _, _, rfl, _⟩ := h; rfl; done) | (obtain ⟨_, _, _, _, _, _, _, _, _, rfl, _⟩ := h; rfl; done) | (obtain ⟨_, _, _, _, _, _, _, _, _, _, rfl, _⟩ := h; rfl; done) | (obtain ⟨_, _, _, _, _, _, _, _, _, _, _, rfl, _⟩ := h; rfl; done) | (obtain ⟨_, _, _, _, _, _, _, _, _, _, _, _, rfl, _⟩ := h; rfl; done) | (obtain ⟨_, _, _, _, _, _, _, _, _, _, _, _, _, rfl, _⟩ := h; rfl; done) | (obtain ⟨_, _, _, _, _, _, _, _, _, _, _, _, _, _, rfl, _⟩ := h; rfl; done) | (obtain ⟨_, _, _, _, _, _, _, _, _, _, _, _, _, _, _, rfl, _⟩ := h; rfl; done) | (obtain ⟨_, _, _, _, _, _, _, _, _, _, _, _, _, _, _, _, rfl, _⟩ := h; rfl; done) | (obtain ⟨_, _, _, _, _, _, _, _, _, _, _, _, _, _, _, _, _, rfl, _⟩ := h; rfl; done) | (obtain ⟨_, _, _, _, _, _, _, _, _, _, _, _, _, _, _, _, _, _, rfl, _⟩ := h; rfl; done) | (obtain ⟨_, _, _, _, _, _, _, _, _, _, _, _, _, _, _, _, _, _, _, rfl, _⟩ := h; rfl; done) | (obtain ⟨_, _, _, _, _, _, _, _, _, _, _, _, _, _, _, _, _, _, _, _, rfl, _⟩ := h; rfl; done) | (obtain ⟨_, _, _, _, _, _, _, _, _, _, _, _, _, _, _, _, _, _, _, _, _, rfl, _⟩ := h; rfl; done) | (obtain ⟨_, _, _, _, _, _, _, _, _, _, _, _, _, _, _, _, _, _, _, _, _, _, rfl, _⟩ := h; rfl; done))) (rd_things K)
  have k_law := dv_law (P := P) (w := w) (b := b) (mg := mg) (sp := spLaw K [P_number_by]) F_law (PySem.W.mg_none_of X G no_range) (PySem.W.mg_none_of X G no_max) (PySem.W.mg_none_of X G no_min) (PySem.W.mg_none_of X G no_len) F__law_things k__law_things F__law_pen k__law_pen (PySem.W.mg_none_of X G no_repr) F__law_read k__law_read F__law_told k__law_told (by intro vs H Q E h; first | (obtain ⟨_, rfl, _⟩ := h; rfl; done) | (obtain ⟨_, _, rfl, _⟩ := h; rfl; done) | (obtain ⟨_, _, _, rfl, _⟩ := h; rfl; done) | (obtain ⟨_, _, _, _, rfl, _⟩ := h; rfl; done) | (obtain ⟨_, _, _, _, _, rfl, _⟩ := h; rfl; done) | (obtain ⟨_, _, _, _, _, _, rfl, _⟩ := h; rfl; done) | (obtain ⟨_, _, _, _, _, _, _, rfl, _⟩ := h; rfl; done) | (obtain ⟨_, _, _, _, _, _, _, _, rfl, _⟩ := h; rfl; done) | (obtain ⟨_, _, _, _, _, _, _, _, _, rfl, _⟩ := h; rfl; done) | (obtain ⟨_, _, _, _, _, _, _, _, _, _, rfl, _⟩ := h; rfl; done) | (obtain ⟨_, _, _, _, _, _, _, _, _, _, _, rfl, _⟩ := h; rfl; done) | (obtain ⟨_, _, _, _, _, _, _, _, _, _, _, _, rfl, _⟩ := h; rfl; done) | (obtain ⟨_, _, _, _, _, _, _, _, _, _, _, _, _, rfl, _⟩ := h; rfl; done) | (obtain ⟨_, _, _, _, _, _, _, _, _, _, _, _, _, _, rfl, _⟩ := h; rfl; done) | (obtain ⟨_, _, _, _, _, _, _, _, _, _, _, _, _, _, _, rfl, _⟩ := h; rfl; done) | (obtain ⟨_, _, _, _, _, _, _, _, _, _, _, _, _, _, _, _, rfl, _⟩ := h; rfl; done) | (obtain ⟨_, _, _, _, _, _, _, _, _, _, _, _, _, _, _, _, _, rfl, _⟩ := h; rfl; done) | (obtain ⟨_, _, _, _, _, _, _, _, _, _, _, _, _, _, _, _, _, _, rfl, _⟩ := h; rfl; done) | (obtain ⟨_, _, _, _, _, _, _, _, _, _, _, _, _, _, _, _, _, _, _, rfl, _⟩ := h; rfl; done) | (obtain ⟨_, _, _, _, _, _, _, _, _, _, _, _, _, _, _, _, _, _, _, _, rfl, _⟩ := h; rfl; done) | (obtain ⟨_, _, _, _, _, _, _, _, _, _, _, _, _, _, _, _, _, _, _, _, _, rfl, _⟩ := h; rfl; done) | (obtain ⟨_, _, _, _, _, _, _, _, _, _, _, _, _, _, _, _, _, _, _, _, _, _, rfl, _⟩ := h; rfl; done) | (rcases h with h | h <;> first | (obtain ⟨_, rfl, _⟩ := h; rfl; done) | (obtain ⟨_, _, rfl, _⟩ := h; rfl; done) | (obtain ⟨_, _, _, rfl, _⟩ := h; rfl; done) | (obtain ⟨_, _, _, _, rfl, _⟩ := h; rfl; done) | (obtain ⟨_, _, _, _, _, rfl, _⟩ := h; rfl; done) | (obtain ⟨_, _, _, _, _, _, rfl, _⟩ := h; rfl; done) | (obtain ⟨_, _, _, _, _, _, _, rfl, _⟩ := h; rfl; done) | (obtain ⟨_, _, _, _, _, _, _, _, rfl, _⟩ := h; rfl; done) | (obtain ⟨_, _, _, _, _, _, _, _, _, rfl, _⟩ := h; rfl; done) | (obtain ⟨_, _, _, _, _, _, _, _, _, _, rfl, _⟩ := h; rfl; done) | (obtain ⟨_, _, _, _, _, _, _, _, _, _, _, rfl, _⟩ := h; rfl; done) | (obtain ⟨_, _, _, _, _, _, _, _, _, _, _, _, rfl, _⟩ := h; rfl; done) | (obtain ⟨_, _, _, _, _, _, _, _, _, _, _, _, _, rfl, _⟩ := h; rfl; done) | (obtain ⟨_, _, _, _, _, _, _, _, _, _, _, _, _, _, rfl, _⟩ := h; rfl; done) | (obtain ⟨_, _, _, _, _, _, _, _, _, _, _, _, _, _, _, rfl, _⟩ := h; rfl; done) | (obtain ⟨_, _, _, _, _, _, _, _, _, _, _, _, _, _, _, _, rfl, _⟩ := h; rfl; done) | (obtain ⟨_, _, _, _, _, _, _, _, _, _, _, _, _, _, _, _, _, rfl, _⟩ := h; rfl; done) | (obtain ⟨_, _, _, _, _, _, _, _, _, _, _, _, _, _, _, _, _, _, rfl, _⟩ := h; rfl; done) | (obtain ⟨_, _, _, _, _, _, _, _, _, _, _, _, _, _, _, _, _, _, _, rfl, _⟩ := h; rfl; done) | (obtain ⟨_, _, _, _, _, _, _, _, _, _, _, _, _, _, _, _, _, _, _, _, rfl, _⟩ := h; rfl; done) | (obtain ⟨_, _, _, _, _, _, _, _, _, _, _, _, _, _, _, _, _, _, _, _, _, rfl, _⟩ := h; rfl; done) | (obtain ⟨_, _, _, _, _, _, _, _, _, _, _, _, _, _, _, _, _, _, _, _, _, _, rfl, _⟩ := h; rfl; done))) (rd_law K (L := [P_number_by]) (P := P_number_by) (by simp))
  exact k_law
end Wg
open PySem PySem.W PyProof.Rows
set_option maxHeartbeats 0 in
theorem PySem.Challenge.cw_wagoncalls_k04_texts_of_no_moment_holds : PySem.Challenge.rw_wagoncalls_k04_texts_of_no_moment.Holds := by
  w_on; o_law; k_head; (case hw => w_witness2)
  k_fill
  refine Wg.walk_endT (l := PySem.Challenge.rw_wagoncalls_k04_texts_of_no_moment) (n := 63) (k := 7) (x := "script") (sp := fun K L => Wg.spLaw K L) rfl (by decide) rfl ⟨⟨rfl, by decide, by decide⟩, rfl⟩ (fun w h Y => PySem.W.kIn_of Y) ?F ?S
  case S =>
    intro K L H a ns hl ho ht hs
    exact ⟨a, ns, rfl, Wg.Scr.ofT ho hs, hl, ht, fun _ => rfl⟩
  case F =>
    intro w mg fa h KX G hmg
    refine' Wg.all_mk KX G hmg ?ad_NoText ?ad_WagonError ?ad_NoMoment ?ad_NoLog ?ad_NoDeed ?ad_NoCall ?ad_Late ?ad_TooMany ?ad_NoTown ?ad_NoTelling ?ad_NoRow ?ad_NoPaper ?wga ?wrd ?wfi ?oc_NoText ?sa_NoText ?ex_NoText ?ty_NoText ?kc_NoText ?na_NoText_row ?F9 ?fi_NoText____init__ ?ifn_NoText____init__ ?lo_NoText____init__ ?co_NoText____init__ ?kp_NoText____init__ ?ad_is_whole ?lo_is_whole ?co_is_whole ?kp_is_whole ?ad_is_within ?lo_is_within ?co_is_within ?kp_is_within ?ad_is_moment ?lo_is_moment ?co_is_moment ?kp_is_moment ?ad_number_by ?lo_number_by ?co_number_by ?kp_number_by ?tb_number_by ?re_number_by ?ad__minutes_by ?lo__minutes_by ?co__minutes_by ?kp__minutes_by ?ad_moment_by ?lo_moment_by ?co_moment_by ?kp_moment_by ?ad__law_pen ?lo__law_pen ?co__law_pen ?kp__law_pen ?ad__law_draw ?lo__law_draw ?co__law_draw ?kp__law_draw ?ad__law_signs ?lo__law_signs ?co__law_signs ?kp__law_signs ?ad__law_moment_text ?lo__law_moment_text ?co__law_moment_text ?kp__law_moment_text ?ad__law_moment ?lo__law_moment ?co__law_moment ?kp__law_moment ?ad__law_marks ?lo__law_marks ?co__law_marks ?kp__law_marks ?ad__law_read ?lo__law_read ?co__law_read ?kp__law_read ?ad__law_told ?lo__law_told ?co__law_told ?kp__law_told ?ad__law_bent ?lo__law_bent ?co__law_bent ?kp__law_bent ?ad__law_things ?lo__law_things ?co__law_things ?kp__law_things ?ad_law ?lo_law ?co_law ?kp_law ?cn_LAST_MOMENT ?cn_FIGURES ?cn_HOUR ?no_isinstance ?no_int ?no_bool ?no_len ?no_str ?no_all ?no_abs ?no_max ?no_min ?no_ValueError ?no_range ?no_repr
    (case ad_NoText => k_is)
    (case ad_WagonError => k_is)
    (case ad_NoMoment => k_is)
    (case ad_NoLog => k_is)
    (case ad_NoDeed => k_is)
    (case ad_NoCall => k_is)
    (case ad_Late => k_is)
    (case ad_TooMany => k_is)
    (case ad_NoTown => k_is)
    (case ad_NoTelling => k_is)
    (case ad_NoRow => k_is)
    (case ad_NoPaper => k_is)
    (case wga => k_is)
    (case wrd => k_is)
    (case wfi => k_is)
    (case oc_NoText => k_is)
    (case sa_NoText => k_is)
    (case ex_NoText => k_is)
    (case ty_NoText => k_is)
    (case kc_NoText => k_is)
    (case na_NoText_row => k_is)
    (case F9 => refine ⟨⟨?_, ?_, ?_, ?_, ?_, ?_, ?_, ?_, ?_⟩, ?_, ?_, ?_, ?_, ?_, ?_⟩ <;> first | k_is | rfl | decide +kernel)
    (case fi_NoText____init__ => k_is)
    (case ifn_NoText____init__ => k_is)
    (case lo_NoText____init__ => k_is)
    (case co_NoText____init__ => k_is)
    (case kp_NoText____init__ => k_is)
    (case ad_is_whole => k_is)
    (case lo_is_whole => k_is)
    (case co_is_whole => k_is)
    (case kp_is_whole => k_is)
    (case ad_is_within => k_is)
    (case lo_is_within => k_is)
    (case co_is_within => k_is)
    (case kp_is_within => k_is)
    (case ad_is_moment => k_is)
    (case lo_is_moment => k_is)
    (case co_is_moment => k_is)
    (case kp_is_moment => k_is)
    (case ad_number_by => k_is)
    (case lo_number_by => k_is)
    (case co_number_by => k_is)
    (case kp_number_by => k_is)
    (case tb_number_by => first | k_is | rfl | decide +kernel)
    (case re_number_by => first | k_is | rfl | decide +kernel)
    (case ad__minutes_by => k_is)
    (case lo__minutes_by => k_is)
    (case co__minutes_by => k_is)
    (case kp__minutes_by => k_is)
    (case ad_moment_by => k_is)
    (case lo_moment_by => k_is)
    (case co_moment_by => k_is)
    (case kp_moment_by => k_is)
    (case ad__law_pen => k_is)
    (case lo__law_pen => k_is)
    (case co__law_pen => k_is)
    (case kp__law_pen => k_is)
    (case ad__law_draw => k_is)
    (case lo__law_draw => k_is)
    (case co__law_draw => k_is)
    (case kp__law_draw => k_is)
    (case ad__law_signs => k_is)
    (case lo__law_signs => k_is)
    (case co__law_signs => k_is)
    (case kp__law_signs => k_is)
    (case ad__law_moment_text => k_is)
    (case lo__law_moment_text => k_is)
    (case co__law_moment_text => k_is)
    (case kp__law_moment_text => k_is)
    (case ad__law_moment => k_is)
    (case lo__law_moment => k_is)
    (case co__law_moment => k_is)
    (case kp__law_moment => k_is)
    (case ad__law_marks => k_is)
    (case lo__law_marks => k_is)
    (case co__law_marks => k_is)
    (case kp__law_marks => k_is)
    (case ad__law_read => k_is)
    (case lo__law_read => k_is)
    (case co__law_read => k_is)
    (case kp__law_read => k_is)
    (case ad__law_told => k_is)
    (case lo__law_told => k_is)
    (case co__law_told => k_is)
    (case kp__law_told => k_is)
    (case ad__law_bent => k_is)
    (case lo__law_bent => k_is)
    (case co__law_bent => k_is)
    (case kp__law_bent => k_is)
    (case ad__law_things => k_is)
    (case lo__law_things => k_is)
    (case co__law_things => k_is)
    (case kp__law_things => k_is)
    (case ad_law => k_is)
    (case lo_law => k_is)
    (case co_law => k_is)
    (case kp_law => k_is)
    (case cn_LAST_MOMENT => k_is)
    (case cn_FIGURES => k_is)
    (case cn_HOUR => k_is)
    (case no_isinstance => k_is)
    (case no_int => k_is)
    (case no_bool => k_is)
    (case no_len => k_is)
    (case no_str => k_is)
    (case no_all => k_is)
    (case no_abs => k_is)
    (case no_max => k_is)
    (case no_min => k_is)
    (case no_ValueError => k_is)
    (case no_range => k_is)
    (case no_repr => k_is)
