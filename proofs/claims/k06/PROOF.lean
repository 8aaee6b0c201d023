import PyProof.Rows.All
import Wide.All
import OpenK.AllK
import Wide.FinOn
import HandS.Base
import HandS.Call
import HandS.List
import HandS.Comp
import HandS.Ends
import HandS.Dict
import HandS.Iter
import HandS.Text
import HandS.Words
import PyProof.AutoSeq1
import PyProof.ReprRoads
import PyProof.CallFns
import HandS.IsInst
import HandS.Flow
import HandS.Style
import PyProof.FitsInt
import PyProof.StrLawsRepr
import HandS.Strs
import HandS.Zip
import HandS.Rev
import KE.GoesMore
import PyProof.EnumMake
import PyProof.Draws
import HandS.NoneIn
import KE.SortData
import HandS.Conv
import KE.DataCmp
import KE.DataMinMax
import PyProof.Rows.RowBridgeK
import KE.DataFind
import HandS.SetFor
import PyProof.Rows.CallKwBuiltin
import HandS.DictComp
import PyProof.DictUpdate
import HandS.Star
import HandS.Deep
import HandS.AnyAll
import HandS.GenOver
import PyProof.GenQ
import PyProof.ConsumeS
import HandS.EndTab
import KE.KStrOpen
import PyProof.ListStr
import PyProof.StrOps2
import KE.KxField
import HandS.FStr
import HandS.More
import KE.KRevSl
import HandS.Exc
import HandS.ExcInit
import HandS.ExcField
import HandS.ExcIs
import HandS.ExcOwn
import HandS.TryOnly
import HandS.WordsExc
import KE.KExcIs
import PyProof.IsRules
import HandS.RaiseMore
import HandS.ExcValue
import HandS.Small
import PySem.Challenge.RW_wagoncalls_k06_towns_spoilt_anywhere
set_option Elab.async false
set_option linter.all false
set_option maxRecDepth 100000
set_option maxHeartbeats 4000000
/-! Wagon, part 1: promises of defs that are called where no repr runs (so that what repr tells is known). -/
namespace Wg
open PySem PySem.Spec PyProof.Rows L2

/-- room for calls, and no repr under way -/
structure Rm (k : Nat) (A : Around) : Prop where
  rm : Room k A
  gd : A.guards = some []
theorem Rm.mono {j k : Nat} {A : Around} (r : Rm k A) (h : j ≤ k) : Rm j A := ⟨r.rm.mono h, r.gd⟩
theorem Rm.deep {k : Nat} {A : Around} (r : Rm (k + 1) A) (v : Env) : Rm k (A.deeper v) := ⟨r.rm.deeper v, r.gd⟩

/-- the def at f keeps the promise sp -/
structure Keeps (P : Program) (w : World) (K : PySem.W.Frag) (mg : Str → Option Value) (b : Heap) (CX : CXT) (k : Nat) (f : Addr) (fd : FuncData) (ps : List Str) (sp : Sp) : Prop where
  len : ∀ vs H Q E, sp vs H Q E → vs.length = ps.length
  run : ∀ (A : Around) (o : List Env) (s : Shared) (H : Hp) (g : Args) (us : List Value) (vs : List V) (Q : VK) (E : XK),
    Rm k A → Env0 P w K mg b A o s H → BindsTo s fd g (ps.zip us) → Vals vs us → sp vs H Q E →
      codeAny (model P w) A (.call (.ref f) g) (CR CX o P w H s Q E) s
theorem Keeps.up {P : Program} {w : World} {K : PySem.W.Frag} {mg : Str → Option Value} {b : Heap} {CX : CXT} {j k : Nat} {f : Addr} {fd : FuncData} {ps : List Str} {sp : Sp}
    (F : Keeps P w K mg b CX j f fd ps sp) (h : j ≤ k) : Keeps P w K mg b CX k f fd ps sp :=
  ⟨F.len, fun A o s H g us vs Q E hr => F.run A o s H g us vs Q E (hr.mono h)⟩
theorem Keeps.weak {P : Program} {w : World} {K : PySem.W.Frag} {mg : Str → Option Value} {b : Heap} {CX : CXT} {k : Nat} {f : Addr} {fd : FuncData} {ps : List Str} {sp sp' : Sp}
    (F : Keeps P w K mg b CX k f fd ps sp) (h : ∀ vs H Q E, sp' vs H Q E → sp vs H Q E) : Keeps P w K mg b CX k f fd ps sp' :=
  ⟨fun vs H Q E q => F.len vs H Q E (h _ _ _ _ q), fun A o s H g us vs Q E h1 h2 h3 h4 h5 => F.run A o s H g us vs Q E h1 h2 h3 h4 (h _ _ _ _ h5)⟩

section
variable {X : Cx} {CX : CXT} {k : Nat} {f : Addr} {fd : FuncData} {ps : List Str} {sp : Sp} {E : XK} {x : Str} {p pos : Pos} {e : Expr} {es : List Expr} {t : TA}
theorem go_fn {pins : List (Addr × Obj)} {σ : L2.St} {H : Hp} {s : Shared} {Q : VK} {us : List Value} {vs : List V}
    (F : Keeps X.prog X.w X.K X.mg X.base CX k f fd ps sp) (hr : Rm k X.A) (hb : Binds X.K fd ps []) (hx : Passes CX X E)
    (I : Inv X pins σ H s) (r : Vals vs us) (h : sp vs H Q E) : wpAny (model X.prog X.w) X.A (call (.ref f) us) (EP X pins σ Q) X.xe s := by
  have hl : (us ++ []).length = ps.length := by
    rw [List.append_nil, ← r.length]
    exact F.len _ _ _ _ h
  have hbs := hb s us I.kIn hl
  rw [List.append_nil] at hbs
  have run := F.run X.A X.stack s H ⟨us, []⟩ us vs Q E hr I.env0 hbs r h
  refine wpAny_call (codeAny_mono run fun res s' hq => ?_)
  match res, hq with
  | .error e, hq => exact hx pins σ H s e s' I hq
  | .ok (.ret u), hq => exact I.after hq
  | .ok .next, hq => exact hq.elim
  | .ok .brk, hq => exact hq.elim
  | .ok .cont, hq => exact hq.elim
/-- f(e, ..), f a def of the text -/
def tGo (sp : Sp) (E : XK) (t : TA) : TE := fun σ H Q => t σ H fun vs H1 => sp vs H1 Q E
theorem pe_go (F : Keeps X.prog X.w X.K X.mg X.base CX k f fd ps sp) (hr : Rm k X.A) (hg : Gl X x) (hm : X.mg x = some (.ref f)) (hk : PySem.W.keepIn X.K (.ref f) = true)
    (hb : Binds X.K fd ps []) (hx : Passes CX X E) (ha : PA X (e :: es) t) (hdb : (x == ("__debug__" : Str)) = false := by decide)
    (he : starEach (e :: es) X.env = (false, eval e X.env) :: starEach es X.env := by rfl) (hpl : (backTo pos (starEach es X.env)).any (·.1) = false := by rfl) :
    PE X (.Call (.Name x p) (e :: es) [] pos) (tGo sp E t) := by
  constructor
  intro pins s σ H Q I h
  refine wpAny_Call_Name_kw (ld_glob I hg hm ?_ hdb)
  have args := ha.run pos pins s σ H _ I h
  refine PySem.W.callWith_K (h₀ := X.base) I.ok.mod.kin hk (thn args fun us s1 hh => ?_) he hpl
  obtain ⟨vs, H1, I1, r, q⟩ := hh
  exact ⟨I1.kIn, go_fn F hr hb hx I1 r q⟩
theorem pe_go0 (F : Keeps X.prog X.w X.K X.mg X.base CX k f fd ps sp) (hr : Rm k X.A) (hg : Gl X x) (hm : X.mg x = some (.ref f)) (hk : PySem.W.keepIn X.K (.ref f) = true)
    (hb : Binds X.K fd ps []) (hx : Passes CX X E) (hdb : (x == ("__debug__" : Str)) = false := by decide) : PE X (.Call (.Name x p) [] [] pos) (tGo sp E tNil) := by
  constructor
  intro pins s σ H Q I h
  refine wpAny_Call_Name_kw (ld_glob I hg hm ?_ hdb)
  exact PySem.W.callWith_K0 I.kIn hk (go_fn (us := []) F hr hb hx I .nil h)
end

section
variable {P : Program} {w : World} {K : PySem.W.Frag} {mg : Str → Option Value} {b : Heap}
/-- a def keeps its promise, by its body -/
theorem keeps_of {CX : CXT} {x qual : Str} {st : Stmt} {f : Addr} {fd : FuncData} {N ps : List Str} {k : Nat} {sp : Sp} (F : Fun K x qual st f fd) (S : FnScope N ps (defScope st))
    (len : ∀ vs H Q E, sp vs H Q E → vs.length = ps.length)
    (body : ∀ (cdv : Value) (A : Around) (o : List Env) (s : Shared) (H : Hp) (vs : List V) (Q : VK) (E : XK), Rm k (A.deeper (envOfC qual (defScope st) s.heap.objs.size f cdv)) → sp vs H Q E →
      ∃ t, PSs (cxOf CX P w K mg b N qual (defScope st) f cdv A o s H E) (defBody st) t ∧ t { nx := fun _ H' => Q .non H', rt := Q } (start N vs) H) :
    Keeps P w K mg b CX (k + 1) f fd ps sp := by
  obtain ⟨oc, od, kV, doc, pm, an, cdv, ct, osl, rfl, lk, hcd⟩ := F.ex
  constructor
  · exact len
  intro A o s H g us vs Q E hr e0 hb r hsp
  have hl := len _ _ _ _ hsp
  have up : ∀ {a : Addr} {ob : Obj}, b.get? a = some ob → s.heap.get? a = some ob := fun {a ob} q => (e0.bs a ob q).1
  have inK : K.In s.heap := e0.mod.kin.keeps fun _ _ q => up q
  have nolim : s.heap.NoLimit := e0.mod.nolimit.keeps fun _ _ q => up q
  have kinds : ∀ y ∈ ps.zip us, (defScope st).names.lookup y.1 = some .local ∨ ((defScope st).names.lookup y.1 = some .cell ∧ ((cellsFrom (s.heap.objs.size + 1) (defScope st).names []).lookup y.1).isSome = true) := by
    rintro ⟨n, v⟩ hy
    have hn := S.par n (List.of_mem_zip hy).1
    exact hn.imp id fun q => ⟨q, PySem.W.cellsFrom_some _ _ _ (.inl q)⟩
  have recd := PySem.W.codeRec_of inK hcd
  refine codeAny_call_function hr.rm.depth (inK _ _ lk) rfl S.co S.gen rfl recd (hb _ _ _ _ ?_)
  refine wpAny_newFunctionEnv_cells S.kind kinds ?_
  intro env he s1 y
  subst he
  refine ⟨nolim.keeps y.toInCall.keep, codeAny_func ?_⟩
  obtain ⟨t, ht, hq⟩ := body cdv A o s H vs Q E (hr.deep _) hsp
  have I := inv_start (CX := CX) (E := E) S hr.rm.hd e0 hl r y
  refine wpAny_mono (ht.run [] s1 (start N vs) H _ I hq) ?_ fun _ _ q => q
  intro fl s' hs
  match fl, hs with
  | .ret u, hs =>
    obtain ⟨v, σ', H', J, rv, q⟩ := hs
    exact ⟨v, H', J.os, J.bare, J.base, J.hok, rv, q⟩
  | .next, hs =>
    obtain ⟨σ', H', J, q⟩ := hs
    exact ⟨.non, H', J.os, J.bare, J.base, J.hok, rfl, q⟩
  | .brk, hs => exact hs.elim fun _ z => z.elim fun _ y => y.2.elim
  | .cont, hs => exact hs.elim fun _ z => z.elim fun _ y => y.2.elim
theorem keeps0 {x qual : Str} {st : Stmt} {f : Addr} {fd : FuncData} {N ps : List Str} {k : Nat} {sp : Sp} (F : Fun K x qual st f fd) (S : FnScope N ps (defScope st))
    (len : ∀ vs H Q E, sp vs H Q E → vs.length = ps.length)
    (body : ∀ (cdv : Value) (A : Around) (o : List Env) (s : Shared) (H : Hp) (vs : List V) (Q : VK) (E : XK), Rm k (A.deeper (envOfC qual (defScope st) s.heap.objs.size f cdv)) → sp vs H Q E →
      ∃ t, PSs (cxOf CX0 P w K mg b N qual (defScope st) f cdv A o s H E).nox (defBody st) t ∧ t { nx := fun _ H' => Q .non H', rt := Q } (start N vs) H) :
    Keeps P w K mg b CX0 (k + 1) f fd ps sp :=
  keeps_of F S len fun cdv A o s H vs Q E hr h => (body cdv A o s H vs Q E hr h).elim fun t q => ⟨t, q.1.nox, q.2⟩
end

/-- the law's call, from its promise -/
theorem law_end {P : Program} {w : World} {K : PySem.W.Frag} {mg mb : Str → Option Value} {k : Nat} {fa a : Addr} {fd : FuncData} {x : Str} {sp : Sp} {s : Shared} {vs : List Value} {ns : List Int}
    (KX : K.In s.heap) (hns : s.heap.Ns mainGlobals mg) (hb : s.heap.Ns builtinsNs mb) (hbb : ∀ x : Str, x ≠ "__name__" → mb x = bootBuiltins x) (hlim : s.heap.NoLimit) (hg : s.gens = #[])
    (ha : s.heap.get? a = some { cls := .type "list", data := .seq vs.toArray }) (hi : IntsAre vs ns) (hl : ns.length ≤ sizeLine) (hr : Rm k callerA)
    (F : ∀ b : Heap, K.In b → b.Ns mainGlobals mg → Keeps P w K mg b CX0 k fa fd [x] sp) (hbind : ∀ (s : Shared) (u : Value), BindsTo s fd ⟨[u], []⟩ [(x, u)])
    (hsp : ∀ H : Hp, Only H → SqL K H a (ns.map V.int) → sp [.ref a] H (fun v _ => v = .bl true) fun _ _ _ => False) :
    codeAny (model P w) callerA (.call (.ref fa) ⟨[.ref a], []⟩) (fun r s' => r = .ok (.ret (.bool true)) ∧ OldK s.heap s'.heap ∧ s'.os = s.os ∧ AllBare s'.gens) s := by
  -- a promise at callerA alone, dressed as one of the layer's at that place
  have lenV := hi.length
  have rv := vals_ints hi
  suffices core : ∀ H : Hp, Only H → SqL K H a (ns.map V.int) → HOk P w H s.heap → (∀ c, H c ≠ none → c = a) → (H a ≠ none → K.lookup a = none) →
      codeAny (model P w) callerA (.call (.ref fa) ⟨[.ref a], []⟩) (fun r s' => r = .ok (.ret (.bool true)) ∧ OldK s.heap s'.heap ∧ s'.os = s.os ∧ AllBare s'.gens) s by
    match hk : K.lookup a with
    | some o =>
      have eo := (KX a o hk).symm.trans ha
      obtain rfl := Option.some.inj eo
      refine core (fun _ => none) (fun _ => .inl rfl) (.inr ⟨_, vs.toArray, _, hk, rfl, rfl, rfl, ?_, by simpa using rv⟩) ?_ (fun c z => absurd rfl z) (fun z => absurd rfl z)
      · rw [List.size_toArray, lenV]; exact hl
      · intro c u z; exact nomatch z
    | none =>
      let H0 : Hp := fun c => if c = a then some (.frz { cls := .type "list", data := .seq vs.toArray } (.lst (ns.map V.int))) else none
      have at0 : H0 a = some (.frz { cls := .type "list", data := .seq vs.toArray } (.lst (ns.map V.int))) := if_pos rfl
      have ne0 : ∀ c, c ≠ a → H0 c = none := fun c hc => if_neg hc
      refine core H0 (fun c => ?_) (.inl (.inr ⟨_, at0⟩)) (fun c u z => ?_) (fun c z => ?_) fun _ => hk
      · by_cases hc : c = a
        · exact .inr ⟨_, _, by rw [hc]; exact at0⟩
        · exact .inl (ne0 c hc)
      · by_cases hc : c = a
        · subst hc
          obtain rfl := Option.some.inj (at0.symm.trans z)
          exact ⟨ha, by rw [List.length_map]; exact hl, vs, _, rv, ha⟩
        · exact nomatch (ne0 c hc).symm.trans z
      · exact Classical.byContradiction fun hc => z (ne0 c hc)
  intro H hO hS hok hA hK
  have only : ∀ {c : Addr} {u : HO}, H c = some u → c = a := fun {c u} q => hA c (by rw [q]; exact Option.some_ne_none u)
  have stays : ∀ {c : Addr} {o : Obj} {es : Array DictEntry} {ep : Nat}, s.heap.get? c = some o → o.data = .dict es ep → H c = none := by
    intro c o es ep e d
    match q : H c with
    | none => rfl
    | some u =>
      rw [only q, ha] at e
      obtain rfl := Option.some.inj e
      cases (show Data.seq vs.toArray _ = Data.dict es ep from d)
  have ns' : ∀ {c : Addr} {m : Str → Option Value}, s.heap.Ns c m → (hidT s.heap H).Ns c m := by
    rintro c m ⟨o, es, ep, e, d, r⟩
    exact ⟨o, es, ep, hidT_get e (stays e d), d, r⟩
  have kin : K.In (hidT s.heap H) := by
    intro c o e
    refine hidT_get (KX c o e) ?_
    match q : H c with
    | none => rfl
    | some u =>
      have ec := only q
      subst ec
      rw [hK (by rw [q]; exact Option.some_ne_none u)] at e
      cases e
  obtain ⟨mc, l1, l2⟩ := hlim
  have M : Mod K mg (hidT s.heap H) := ⟨kin, ns' hns, ⟨mb, ns' hb, hbb⟩, ⟨mc, ns' l1, l2⟩⟩
  have e0 : Env0 P w K mg (hidT s.heap H) callerA [] s H :=
    ⟨rfl, M, fun c o e => of_hidT e, Nat.le_of_eq (hidT_size _ _), trivial, fun c hc => (List.not_mem_nil hc).elim, hok, .of_eq hg⟩
  have run := (F _ kin (ns' hns)).run callerA [] s H ⟨[.ref a], []⟩ [.ref a] [.ref a] _ _ hr e0 (hbind s (.ref a)) (.cons rfl .nil) (hsp H hO hS)
  refine codeAny_mono run fun res s' hq => ?_
  match res, hq with
  | .error e, hq => exact hq.elim
  | .ok .next, hq => exact hq.elim
  | .ok .brk, hq => exact hq.elim
  | .ok .cont, hq => exact hq.elim
  | .ok (.ret u), hq =>
    obtain ⟨v, H', os, bare, un, hok', r', q⟩ := hq
    obtain rfl : v = .bl true := q
    obtain rfl : u = Value.bool true := r'
    refine ⟨rfl, OldK.of_keep fun c o e => ?_, os, bare⟩
    rcases hO c with z | ⟨ob, xs, z⟩
    · exact un.keep c o e z List.not_mem_nil List.not_mem_nil
    · have z1 := (hok c _ z).1
      have z2 := (hok' c _ (un.frzs c ob _ z)).1
      exact z2.trans (z1.symm.trans e)

theorem walk_end {l : PySem.W.OpenLaw} {n k : Nat} {q : Program} {loose : List Str} {XP : (Str → Option Value) → Heap → Prop} {YP : World → Heap → Prop} {d : DefRec} {K : Params → PySem.W.Frag} {sp : PySem.W.Frag → Sp} {x : Str}
    (hn : l.most = some n) (hn2 : n ≤ sizeLine) (hdf : d.params.defaults = []) (hr : Rm k callerA) (hY : ∀ (w : World) (h : Heap), YP w h → (K w.params).In h)
    (F : ∀ (w : World) (mg : Str → Option Value) (fa : Addr) (h : Heap), (K w.params).In h → h.Ns mainGlobals mg → mg d.name = some (.ref fa) →
      ∃ fd : FuncData, (∀ (s : Shared) (u : Value), BindsTo s fd ⟨[u], []⟩ [(x, u)]) ∧
        ∀ b : Heap, (K w.params).In b → b.Ns mainGlobals mg → Keeps l.prog w (K w.params) mg b CX0 k fa fd [x] (sp (K w.params)))
    (hsp : ∀ (K : PySem.W.Frag) (H : Hp) (a : Addr) (ns : List Int), ns.length ≤ n → Only H → SqL K H a (ns.map V.int) → sp K [.ref a] H (fun v _ => v = .bl true) fun _ _ _ => False) :
    PySem.W.WalkO q loose XP YP l.row.toRowW d [] (fun f vs => PySem.call f vs) := by
  refine Att.attach_call hn hdf ?_
  intro w s₀ s₁ mg mb fa o pm cd doc a vs ns G Y ho hd hcd hmg hobj hints hlen hg
  have kin := hY w _ Y
  obtain ⟨fd, hb, hF⟩ := F w mg fa _ kin G.T.g hmg
  exact law_end kin G.T.g G.T.b G.T.builtins G.T.nolimit hg hobj hints (Nat.le_trans hlen hn2) hr hF hb fun H hO hS => hsp _ H a ns hlen hO hS
end Wg

/-! Wagon, part 2: heaps that are not written out, and the rules of operators, calls and methods in that style. -/
namespace Wg
open PySem PySem.Spec PyProof.Rows L2

/-- all but what stands at S is kept -/
def Keep (S : List Addr) (H H' : Hp) : Prop := ∀ b o, b ∉ S → H b = some o → H' b = some o
theorem Keep.at {S : List Addr} {H H' : Hp} {b : Addr} {o : HO} (k : Keep S H H') (n : b ∉ S) (h : H b = some o) : H' b = some o := k b o n h
theorem Keep.refl (S : List Addr) (H : Hp) : Keep S H H := fun _ _ _ h => h
theorem Keep.trans {S : List Addr} {H H1 H2 : Hp} (a : Keep S H H1) (b : Keep S H1 H2) : Keep S H H2 := fun c o n h => b c o n (a c o n h)
theorem Keep.wide {S T : List Addr} {H H' : Hp} (k : Keep S H H') (h : ∀ b ∈ S, b ∈ T) : Keep T H H' := fun b o n q => k b o (fun z => n (h b z)) q
theorem Keep.all {S : List Addr} {H H' : Hp} (k : Keep [] H H') : Keep S H H' := k.wide fun _ h => (List.not_mem_nil h).elim
theorem Keep.free {S : List Addr} {H H' : Hp} {b : Addr} (k : Keep S H H') (n : b ∉ S) (h : H' b = none) : H b = none := by
  match q : H b with
  | none => rfl
  | some o => exact nomatch h.symm.trans (k b o n q)
theorem Keep.new {S : List Addr} {H : Hp} {p : Addr} {o : HO} (h : H p = none) : Keep S H (upd H p o) := fun b u _ q => by
  rw [upd_ne (ne_of_none q h)]
  exact q
theorem Keep.set {H : Hp} {p : Addr} {o : HO} : Keep [p] H (upd H p o) := fun b u n q => by
  rw [upd_ne (fun z : b = p => n (by rw [z]; exact List.mem_singleton.mpr rfl))]
  exact q
theorem nin0 {b : Addr} : b ∉ ([] : List Addr) := List.not_mem_nil
theorem nin1 {a b : Addr} (h : b ≠ a) : b ∉ [a] := fun z => h (List.mem_singleton.mp z)
/-- a tuple that stands still, of no dict of its own -/
def Tup (H : Hp) (a : Addr) (xs : List V) : Prop := ∃ ob : Obj, H a = some (.frz ob (.tup xs)) ∧ ob.dict = none ∧ ob.slots = #[]
theorem Tup.sq {K : PySem.W.Frag} {H : Hp} {a : Addr} {xs : List V} (h : Tup H a xs) : SqT K H a xs := let ⟨ob, e, _⟩ := h; .inl (.inr ⟨ob, e⟩)
theorem Tup.keep {S : List Addr} {H H' : Hp} {a : Addr} {xs : List V} (h : Tup H a xs) (k : Keep S H H') (n : a ∉ S) : Tup H' a xs := let ⟨ob, e, d⟩ := h; ⟨ob, k a _ n e, d⟩
theorem Tup.inj {H : Hp} {a : Addr} {xs ys : List V} (h : Tup H a xs) (h' : Tup H a ys) : xs = ys := by
  obtain ⟨o1, e1, _⟩ := h
  obtain ⟨o2, e2, _⟩ := h'
  have q := Option.some.inj (e1.symm.trans e2)
  injection q with _ q
  exact HO.tup.inj q
theorem Tup.there {H : Hp} {a : Addr} {xs : List V} (h : Tup H a xs) : ∃ o, H a = some o := let ⟨ob, e, _⟩ := h; ⟨_, e⟩
theorem Tup.neL {H : Hp} {a b : Addr} {xs ys : List V} (h : Tup H a xs) (h' : H b = some (.lst ys)) : a ≠ b := fun z => by
  obtain ⟨o1, e1, _⟩ := h
  rw [z, h'] at e1
  cases e1
theorem Tup.neD {H : Hp} {a b : Addr} {xs : List V} {ys : List (Key × V)} (h : Tup H a xs) (h' : H b = some (.dK ys)) : a ≠ b := fun z => by
  obtain ⟨o1, e1, _⟩ := h
  rw [z, h'] at e1
  cases e1
theorem lst_sq {K : PySem.W.Frag} {H : Hp} {a : Addr} {xs : List V} (h : H a = some (.lst xs)) : SqL K H a xs := .inl (.inl h)
theorem sq_keep {K : PySem.W.Frag} {H H' : Hp} {S : List Addr} {a : Addr} {xs : List V} (h : SqL K H a xs) (k : Keep S H H') (n : a ∉ S) : SqL K H' a xs := by
  rcases h with (h | ⟨o, h⟩) | h
  · exact .inl (.inl (k _ _ n h))
  · exact .inl (.inr ⟨o, k _ _ n h⟩)
  · exact .inr h

/-- a new object o comes -/
def Mk (H : Hp) (o : HO) (Q : VK) : Prop := ∀ p H', H p = none → Keep [] H H' → H' p = some o → Q (.ref p) H'
/-- a new tuple comes -/
def Mt (H : Hp) (xs : List V) (Q : VK) : Prop := ∀ p H', H p = none → Keep [] H H' → Tup H' p xs → Q (.ref p) H'
/-- what stands at a is o from now on -/
def Ch (H : Hp) (a : Addr) (o : HO) (R : Hp → Prop) : Prop := ∀ H', Keep [a] H H' → H' a = some o → R H'
theorem Mk.at {H : Hp} {o : HO} {Q : VK} (h : Mk H o Q) (p : Addr) (n : H p = none) : Q (.ref p) (upd H p o) := h p _ n (Keep.new n) upd_same
theorem Ch.at {H : Hp} {a : Addr} {o : HO} {R : Hp → Prop} (h : Ch H a o R) : R (upd H a o) := h _ Keep.set upd_same

section
variable {X : Cx} {pins : List (Addr × Obj)} {σ : L2.St} {H : Hp} {s : Shared}
/-- a tuple object as the model lays it -/
abbrev tupObj (its : List Value) : Obj := { cls := .type "tuple", data := .seq its.toArray }
theorem mt_end {xs : List V} {its : List Value} {Q : VK} {t' : Nat} (I : Inv X pins σ H s) (r : Vals xs its) (z : xs.length ≤ sizeLine) (h : Mt H xs Q) :
    EP X pins σ Q (.ref s.heap.objs.size) { s with heap := s.heap.push (tupObj its), toks := t' } := by
  have n : H s.heap.objs.size = none := I.hok.fresh (Nat.le_refl _)
  have new : (s.heap.push (tupObj its)).get? s.heap.objs.size = some (tupObj its) := Heap.get?_push_size _ rfl
  refine ⟨.ref s.heap.objs.size, upd H s.heap.objs.size (.frz (tupObj its) (.tup xs)), I.laid (fun b u e => Heap.get?_push_of_some _ e) (Nat.le_refl _) ?_, rfl, ?_⟩
  · exact ⟨new, z, its, r, _, new, rfl, _, rfl⟩
  · exact h _ _ n (Keep.new n) ⟨_, upd_same, rfl, rfl⟩
/-- the object of such a tuple -/
theorem Tup.obj {a : Addr} {xs : List V} (I : Inv X pins σ H s) (h : Tup H a xs) : ∃ (its : List Value) (n : Nat), Vals xs its ∧ xs.length ≤ sizeLine ∧ s.heap.get? a = some { cls := .type "tuple", dict := none, data := .seq its.toArray n, slots := #[] } := by
  obtain ⟨ob, e, d, sl⟩ := h
  obtain ⟨h1, z, its, r, o2, h2, c, n, hd⟩ := I.hok a _ e
  have eo := Option.some.inj (h1.symm.trans h2)
  obtain ⟨c0, d0, da, s0⟩ := ob
  subst eo
  simp only at c hd d sl
  subst c hd d sl
  exact ⟨its, n, r, z, h1⟩
end

/-! ### operators -/
section
variable {X : Cx}
def uAdd (K : PySem.W.Frag) : R2 := fun x y H Q =>
  (∃ i j, x = .int i ∧ y = .int j ∧ Q (.int (i + j)) H) ∨
  (∃ i j, x = .str i ∧ y = .str j ∧ i.length + j.length ≤ sizeLine ∧ Q (.str (i ++ j)) H) ∨
  (∃ l b xs zs, x = .ref l ∧ y = .ref b ∧ H l = some (.lst xs) ∧ H b = some (.lst zs) ∧ xs.length + zs.length ≤ sizeLine ∧ Mk H (.lst (xs ++ zs)) Q) ∨
  (∃ a b xs ys, x = .ref a ∧ y = .ref b ∧ Tup H a xs ∧ Tup H b ys ∧ xs.length + ys.length ≤ sizeLine ∧ (xs = [] → Q y H) ∧ (xs ≠ [] → ys = [] → Q x H) ∧ (xs ≠ [] → ys ≠ [] → Mt H (xs ++ ys) Q))
theorem cat_none {pins : List (Addr × Obj)} {σ : L2.St} {H : Hp} {s : Shared} {a b : Addr} {ys : List V} {Q : VK} (I : Inv X pins σ H s) (ha : Tup H a []) (hb : Tup H b ys) (q : Q (.ref b) H) :
    wpAny (model X.prog X.w) X.A (binaryOp .Add (.ref a) (.ref b)) (EP X pins σ Q) X.xe s := by
  obtain ⟨its, n, r, _, ho⟩ := ha.obj I
  obtain ⟨its2, n2, r2, _, ho2⟩ := hb.obj I
  cases r
  exact concat_meets ⟨_, ho, rfl⟩ ⟨_, ho2, rfl⟩ noFill_tuple_add seq_tuple_add PySem.F.slot_tuple_add PySem.F.entry_tuple_add (PySem.F.args_tuple_add_2 _ _)
    (AutoSeq1.tuple___add___tuple_tuple_0 a #[] n b its2.toArray n2 rfl) ⟨ho, ho2, ⟨.ref b, H, I, rfl, q⟩⟩
theorem op_uAdd : OpR X (binaryOp .Add) (uAdd X.K) := by
  intro pins s σ H x y v u Q I rx ry h
  rcases h with h | h | h | ⟨a, b, xs, ys, rfl, rfl, ha, hb, z, q0, q1, q2⟩
  · exact op_add pins s σ H x y v u Q I rx ry h
  · exact op_add_str pins s σ H x y v u Q I rx ry h
  · obtain ⟨l, b, xs, zs, e1, e2, h1, h2, h3, q⟩ := h
    exact op_cat pins s σ H x y v u Q I rx ry ⟨l, b, xs, zs, e1, e2, h1, h2, h3, fun p n => q.at p n⟩
  · cases rx
    cases ry
    by_cases e : xs = []
    · subst e
      exact cat_none I ha hb (q0 rfl)
    · obtain ⟨its, r1, p1, _⟩ := I.tuple ha.sq
      obtain ⟨its2, r2, p2, _⟩ := I.tuple hb.sq
      refine HT.cat_tup p1 p2 (fun c => e (r1.nil_iff.mp c)) (fun c => ⟨.ref a, H, I, rfl, q1 e (r2.nil_iff.mp c)⟩) (fun c => ?_) (by rw [← r1.length, ← r2.length]; exact z)
      exact mt_end (t' := s.toks) I (r1.append r2) (by rw [List.length_append]; exact z) (q2 e fun d => c (r2.nil_iff.mpr d))
def uMul : R2 := fun x y H Q =>
  (∃ i j, x = .int i ∧ y = .int j ∧ CMul i j ∧ Q (.int (i * j)) H) ∨
  (∃ l k xs, x = .ref l ∧ y = .int k ∧ H l = some (.lst xs) ∧ -(2 ^ 63) ≤ k ∧ k < 2 ^ 63 ∧ xs.length * k.toNat ≤ sizeLine ∧ Mk H (.lst (List.replicate k.toNat xs).flatten) Q)
theorem op_uMul : OpR X (binaryOp .Mult) uMul := by
  intro pins s σ H x y v u Q I rx ry h
  rcases h with h | ⟨l, k, xs, e1, e2, h1, h2, h3, h4, q⟩
  · exact op_mul pins s σ H x y v u Q I rx ry h
  · exact op_rep pins s σ H x y v u Q I rx ry ⟨l, k, xs, e1, e2, h1, h2, h3, h4, fun p n => q.at p n⟩
/-- data that are compared -/
def uEq (K : PySem.W.Frag) (neg : Bool) : R2 := fun x y H Q =>
  (scal x y = true ∧ Q (.bl (if neg then !decide (x = y) else decide (x = y))) H) ∨
  (∃ d e, Dp K H x d ∧ Dp K H y e ∧ SeqAt.shaped d = true ∧ SeqAt.shaped e = true ∧ Q (.bl (if neg then !PyData.eqv d e else PyData.eqv d e)) H)
theorem op_uEq (hu : X.A.units + 64 < cLine) : OpR X (compareOp .Eq) (uEq X.K false) := by
  intro pins s σ H x y v u Q I rx ry h
  rcases h with h | h
  · exact op_eq pins s σ H x y v u Q I rx ry h
  · exact op_eqD hu pins s σ H x y v u Q I rx ry h
theorem op_uNe (hu : X.A.units + 64 < cLine) : OpR X (compareOp .NotEq) (uEq X.K true) := by
  intro pins s σ H x y v u Q I rx ry h
  rcases h with h | h
  · exact op_ne pins s σ H x y v u Q I rx ry h
  · exact op_neD hu pins s σ H x y v u Q I rx ry h
def uIn (K : PySem.W.Frag) (neg : Bool) : R2 := fun x y H Q =>
  (∃ p xs, y = .ref p ∧ (SqL K H p xs ∨ SqT K H p xs) ∧ flatV x = true ∧ xs.all flatV = true ∧ Q (.bl (if neg then !inV x xs else inV x xs)) H) ∨
  (∃ c z : Str, x = .str c ∧ y = .str z ∧ Q (.bl (if neg then !(!(Builtin.Str.occurrences z c 0 z.length 1).isEmpty) else !(Builtin.Str.occurrences z c 0 z.length 1).isEmpty)) H)
theorem op_uIn : OpR X (compareOp .In) (uIn X.K false) := by
  intro pins s σ H x y v u Q I rx ry h
  rcases h with h | ⟨i, j, e1, e2, q⟩
  · exact op_in_seq pins s σ H x y v u Q I rx ry h
  · exact op_in_str pins s σ H x y v u Q I rx ry ⟨i, j, e1, e2, q⟩
theorem op_uNotIn : OpR X (compareOp .NotIn) (uIn X.K true) := by
  intro pins s σ H x y v u Q I rx ry h
  rcases h with h | ⟨i, j, e1, e2, q⟩
  · exact op_notIn_seq pins s σ H x y v u Q I rx ry h
  · exact op_notIn_str pins s σ H x y v u Q I rx ry ⟨i, j, e1, e2, q⟩
end

/-! ### subscripts, slices -/
section
variable {X : Cx}
def uIx (K : PySem.W.Frag) : R2 := fun x y H Q =>
  (∃ p xs i v, x = .ref p ∧ y = .int i ∧ (SqL K H p xs ∨ SqT K H p xs) ∧ atI xs i = some v ∧ Q v H) ∨
  (∃ z i c, x = .str z ∧ y = .int i ∧ z.length ≤ sizeLine ∧ atI z.cps.toList i = some c ∧ Q (.str ⟨#[c]⟩) H)
theorem ix_u : IxR X (uIx X.K) := by
  intro ve se pins s σ H x y v u Q I rx ry h hs
  rcases h with ⟨p, xs, i, w, e1, e2, hq, ha, q⟩ | h
  · rcases hq with hq | hq
    · exact ix_list ve se pins s σ H x y v u Q I rx ry ⟨p, xs, i, w, e1, e2, hq, ha, q⟩ hs
    · exact ix_tup ve se pins s σ H x y v u Q I rx ry ⟨p, xs, i, w, e1, e2, hq, ha, q⟩ hs
  · exact ix_str ve se pins s σ H x y v u Q I rx ry h hs
def uSetL : V → V → V → Hp → (Hp → Prop) → Prop := fun o i v H Q => ∃ p xs k j, o = .ref p ∧ i = .int k ∧ H p = some (.lst xs) ∧ ixN xs.length k = some j ∧ Ch H p (.lst (xs.set j v)) Q
theorem set_u : PSet X uSetL := by
  intro pins s σ H o i v ov iv u Q I r1 r2 r3 h
  obtain ⟨p, xs, k, j, e1, e2, h1, h2, q⟩ := h
  exact set_list pins s σ H o i v ov iv u Q I r1 r2 r3 ⟨p, xs, k, j, e1, e2, h1, h2, q.at⟩
end
end Wg

/-! Wagon, part 3: displays, slices, calls of built-ins, repr of data. -/
namespace Wg
open PySem PySem.Spec PyProof.Rows L2

/-! ### displays -/
section
variable {X : Cx} {es : List Expr} {t : TA} {pos : Pos}
def tTupU (t : TA) : TE := fun σ H Q => t σ H fun xs H1 => xs.length ≤ sizeLine ∧ Mt H1 xs Q
def tLstU (t : TA) : TE := fun σ H Q => t σ H fun xs H1 => xs.length ≤ sizeLine ∧ Mk H1 (.lst xs) Q
theorem pe_tupU {k : Nat} (h : PA X es t) : PE X (.Tuple es k pos) (tTupU t) := by
  constructor
  intro pins s σ H Q I hq
  have run := h.run pos pins s σ H _ I hq
  refine wpAny_Tuple_spliced (thn run fun us s1 r => ?_)
  obtain ⟨xs, H1, I1, rv, z, q⟩ := r
  rw [← rv.length]
  exact ⟨z, mt_end (t' := s1.toks) I1 rv z q⟩
theorem pe_lstU (h : PA X es t) : PE X (.List es pos) (tLstU t) := by
  constructor
  intro pins s σ H Q I hq
  have run := h.run pos pins s σ H _ I hq
  refine wpAny_List_spliced (thn run fun us s1 r => ?_)
  obtain ⟨xs, H1, I1, rv, z, q⟩ := r
  rw [← rv.length]
  have n := I1.fresh
  have new : ObjOk X.prog X.w (upd H1 s1.heap.objs.size (.lst xs)) (s1.heap.push { cls := .type "list", data := .seq us.toArray }) s1.heap.objs.size (.lst xs) := ⟨z, us, 0, rv, Heap.get?_push_size _ rfl⟩
  exact ⟨z, .ref s1.heap.objs.size, _, I1.laid (t' := s1.toks) (fun b u e => Heap.get?_push_of_some _ e) (Nat.le_refl _) new, rfl, q.at _ n⟩
def tDNewU : TE := fun _ H Q => Mk H (.dK []) Q
theorem pe_dnewU : PE X (.Dict [] [] pos) tDNewU := ⟨fun pins s σ H Q I h => pe_dnewK.run pins s σ H Q I fun p n => h.at p n⟩
/-- {k: v} of two names -/
def tDic1 (i j : Nat) : TE := fun σ H Q => ∃ x : V, σ[i]? = some (some x) ∧ ∃ y : V, σ[j]? = some (some y) ∧ ∃ k : Key, x = kV k ∧ Mk H (.dK [(k, y)]) Q
theorem pe_dic1 {k v : Expr} {i j : Nat} (hk : PE X k (tVar i)) (hv : PE X v (tVar j)) : PE X (.Dict [some k] [v] pos) (tDic1 i j) := by
  constructor
  intro pins s σ H Q I h
  obtain ⟨x, e1, y, e2, kk, rfl, q⟩ := h
  refine (pe_disp (pps_cons hk hv pps_nil) rfl rfl (by simp) (by simp)).run pins s σ H Q I fun p n => ?_
  refine ⟨_, e1, _, e2, upd_same, [(kk, y)], rfl, by simp, ?_⟩
  rw [upd_upd]
  exact q.at p n
end

/-! ### slices -/
section
variable {prog : Program} {w : World} {A : Around} {E : Value → Shared → Prop} {s : Shared}
/-- t[..] of all of t is t -/
theorem cut_whole {t sl : Addr} {items : Array Value} {vl vu : Value} {lo hi : Option Int} {Q : Value → Shared → Prop} (ht : IsTup s.heap t items) (hs : s.heap.IsSliceOf sl vl vu .none) (pl : IsPart vl lo) (pu : IsPart vu hi)
    (h0 : HT.sIx items.size 0 lo = 0) (h1 : HT.sIx items.size items.size hi = items.size) (h : Q (.ref t) s) : wpAny (model prog w) A (getItem (.ref t) (.ref sl)) Q E s := by
  obtain ⟨os, hos, hcs, hds⟩ := id hs
  have tysl : s.TypeIs (.ref sl) "slice" := ⟨os, hos, hcs⟩
  unfold getItem
  try with_reducible refine wpAny_holding ?_
  first | refine wpAny_bind (wpAny_pure ?_) | skip
  refine wpAny_bind (wpAny_sequenceKey ht.typeIs (by decide) ?_)
  refine wpAny_bind (wpAny_callSpecial?_slot (name := Str.ofString "__getitem__") ht.typeIs PyProof.Rows.slot_tuple_getitem
    (wpAny_call_entry PyProof.Rows.slot_tuple_getitem ht.typeIs entry_tuple_getitem ?_ (args_tuple_getitem _ _)))
  show wpAny _ _ (Builtin.Tuple.tupleItemsOf (.ref t) >>= _) _ _ s
  refine wpAny_bind (tupleItemsOf_ ht (wpAny_bind (wpAny_typeOf tysl ?_)))
  rw [if_pos (by decide)]
  refine wpAny_bind (HT.sliceApplied_gen hs pl pu ?_)
  rw [h0, h1]
  show wpAny _ _ (if ((((0 : Nat) : Int) == 0 && (1 : Int) == 1 && (items.size - 0) == items.size) = true) then _ else _) _ _ s
  rw [if_pos (by simp)]
  refine wpAny_bind (m := Builtin.Tuple.tupleIsExact _) ?_
  unfold Builtin.Tuple.tupleIsExact
  refine wpAny_bind (wpAny_typeOf ht.typeIs (wpAny_pure ?_))
  rw [if_pos (by decide)]
  exact wpAny_bind (wpAny_rule (wpAny_pure ⟨_, rfl, wpAny_pure h⟩))
end
section
variable {X : Cx}
def uSl (K : PySem.W.Frag) : V → Option Int → Option Int → Hp → VK → Prop := fun x lo hi H Q =>
  (∃ a xs, x = .ref a ∧ SqL K H a xs ∧ Mk H (.lst (cutV xs lo hi)) Q) ∨
  (∃ z, x = .str z ∧ z.length ≤ sizeLine ∧ Q (.str (cutS z lo hi)) H) ∨
  (∃ a xs, x = .ref a ∧ Tup H a xs ∧ ((HT.sIx xs.length 0 lo = 0 ∧ HT.sIx xs.length xs.length hi = xs.length) → Q (.ref a) H) ∧
    (¬ (HT.sIx xs.length 0 lo = 0 ∧ HT.sIx xs.length xs.length hi = xs.length) → Mt H (cutV xs lo hi) Q))
theorem sl_u : SlR X (uSl X.K) := by
  intro pins s σ H x v vl vu lo hi sl Q I rx hs pl pu h
  rcases h with ⟨a, xs, e, hx, q⟩ | h | ⟨a, xs, rfl, hx, q1, q2⟩
  · exact sl_list pins s σ H x v vl vu lo hi sl Q I rx hs pl pu ⟨a, xs, e, hx, fun p n => q.at p n⟩
  · exact sl_str pins s σ H x v vl vu lo hi sl Q I rx hs pl pu h
  · cases rx
    obtain ⟨its, r, ht, hz⟩ := I.tuple hx.sq
    have hlen : its.toArray.size = xs.length := by
      rw [List.size_toArray]
      exact r.length.symm
    refine ⟨"tuple", _, PyProof.Rows.slot_tuple_getitem.lookup, ht.typeIs, ?_⟩
    by_cases c : HT.sIx xs.length 0 lo = 0 ∧ HT.sIx xs.length xs.length hi = xs.length
    · exact cut_whole ht hs pl pu (by rw [hlen]; exact c.1) (by rw [hlen]; exact c.2) ⟨.ref a, H, I, rfl, q1 c⟩
    · refine HT.getItem_tuple_cut ht hs pl pu (by rw [hlen]; exact c) ?_ (by rw [hlen]; exact hz)
      rw [hlen]
      refine mt_end (t' := s.toks) I ((r.drop (HT.sIx xs.length 0 lo)).take (HT.sIx xs.length xs.length hi - HT.sIx xs.length 0 lo)) (Nat.le_trans (cutV_length xs lo hi) hz) (q2 c)
end

/-! ### calls -/
section
variable {X : Cx}
def uList (K : PySem.W.Frag) : List V → Hp → VK → Prop := fun xs H Q => ∃ p ys, xs = [.ref p] ∧ (SqL K H p ys ∨ SqT K H p ys) ∧ Mk H (.lst ys) Q
theorem call_uList : CallR X (.type "list") (uList X.K) := by
  intro pins s σ H xs us Q I r h
  obtain ⟨p, ys, e, hq, q⟩ := h
  exact call_list_of pins s σ H xs us Q I r ⟨p, ys, e, hq, fun l n => q.at l n⟩
def uTuple (K : PySem.W.Frag) : List V → Hp → VK → Prop := fun xs H Q => ∃ p ys, xs = [.ref p] ∧ ((SqL K H p ys ∧ Mt H ys Q) ∨ (SqT K H p ys ∧ Q (.ref p) H))
theorem call_uTuple : CallR X (.type "tuple") (uTuple X.K) := by
  intro pins s σ H xs us Q I r h
  obtain ⟨p, ys, rfl, h⟩ := h
  obtain ⟨u, rfl, rx⟩ := vals1 r
  cases rx
  rcases h with ⟨hq, q⟩ | ⟨hq, q⟩
  · obtain ⟨its, r', pl, hz⟩ := I.list hq
    have hlen := r'.length
    refine call_tuple_list pl.isList (fun h' kp => ?_) (by simp only [List.size_toArray] <;> omega)
    exact mt_end (t' := s.toks) (I.kept (t' := s.toks) kp) r' hz q
  · obtain ⟨its, r', pl, hz⟩ := I.tuple hq
    exact call_tuple_same pl ⟨.ref p, H, I, rfl, q⟩
/-- what repr tells of data -/
def uRepr (K : PySem.W.Frag) : List V → Hp → VK → Prop := fun xs H Q => ∃ v d, xs = [v] ∧ Dp K H v d ∧ d.showable = true ∧ d.depth ≤ 100 ∧ d.shown.length ≤ sizeLine ∧ Q (.str d.shown) H
theorem dp_noDict {K : PySem.W.Frag} {H : Hp} : ∀ {v : V} {d : PyData}, Dp K H v d → d.hasDict = false := by
  intro v d h
  refine Dp.rec (motive_1 := fun v d _ => d.hasDict = false) (motive_2 := fun vs ds _ => PyData.hasDictAll ds = false) ?_ ?_ ?_ ?_ ?_ ?_ ?_ ?_ h
  all_goals intros
  all_goals (try simp only [PyData.hasDict, PyData.hasDictAll, Bool.or_eq_false_iff])
  all_goals (try assumption)
  all_goals (try (constructor <;> assumption))
theorem call_uRepr (hr : Rm 1 X.A) : CallR X (.builtin "repr") (uRepr X.K) := by
  intro pins s σ H xs us Q I r h
  obtain ⟨v, d, rfl, hd, hs, hdep, hz, q⟩ := h
  obtain ⟨u, rfl, rx⟩ := vals1 r
  have hu : X.A.units + (d.depth + 1) < cLine := by
    have := hr.rm.un
    omega
  have hno := dp_noDict hd
  cases hd with
  | non => cases rx; exact PySem.P.repr_of_none ⟨.str _, H, I.tok _, ⟨_, rfl⟩, q⟩
  | bl b => cases rx; exact PySem.P.repr_of_bool ⟨.str _, H, I.tok _, ⟨_, rfl⟩, q⟩
  | int i =>
    obtain ⟨t, rfl⟩ := rx
    exact PySem.P.repr_of_int (of_decide_eq_true hs) ⟨.str _, H, I.tok _, ⟨_, rfl⟩, q⟩
  | str x =>
    obtain ⟨t, rfl⟩ := rx
    exact PySem.P.repr_of_str ⟨.str _, H, I.tok _, ⟨_, rfl⟩, q⟩ hz
  | lst hl ha =>
    cases rx
    obtain ⟨as, rd⟩ := Dp.reads I _ _ _ (.lst hl ha) rfl
    refine repr_of_reads' rd hs (fun z => absurd z (by rw [hno]; exact Bool.false_ne_true)) hr.gd hu (fun _ _ e => e) (fun h' u tk hk => ?_) hz
    exact ⟨.str _, H, I.kept (t' := tk) hk, ⟨_, rfl⟩, q⟩
  | tup hl ha =>
    cases rx
    obtain ⟨as, rd⟩ := Dp.reads I _ _ _ (.tup hl ha) rfl
    refine repr_of_reads' rd hs (fun z => absurd z (by rw [hno]; exact Bool.false_ne_true)) hr.gd hu (fun _ _ e => e) (fun h' u tk hk => ?_) hz
    exact ⟨.str _, H, I.kept (t' := tk) hk, ⟨_, rfl⟩, q⟩
end
end Wg

/-! Wagon, part 4: what is walked; words for defs and their bodies. -/
namespace Wg
open PySem PySem.Spec PyProof.Rows L2

section
variable {X : Cx}
/-- an expression's truth -/
def tTru (K : PySem.W.Frag) (ta : TE) : TT := fun σ H Q => ta σ H fun x H' => ∃ k, TruV K x H' k ∧ Q k H'
theorem pt_tru {a : Expr} {ta : TE} (ha : PE X a ta) (he : ∀ whole, isTrue a X.env whole = (do let v ← whole; standAt a.pos; holding [v] (truthy v)) := by intro _; rfl) : PT X a (tTru X.K ta) := pt_truth ha he
/-- a list, a tuple or a text that is walked -/
def iU (K : PySem.W.Frag) (tl : TE) : TI := fun σ H R => tl σ H fun x H1 =>
  (∃ a xs, x = .ref a ∧ SqL K H1 a xs ∧ R (Itl K a) H1) ∨ (∃ a xs, x = .ref a ∧ SqT K H1 a xs ∧ R (Itt K a) H1) ∨ (∃ z, x = .str z ∧ R (Its z) H1)
theorem pi_u {tg l : Expr} {tl : TE} (hl : PE X l tl) : PI X tg l (iU X.K tl) := by
  constructor
  intro pins s σ H R I h
  have run := hl.run pins s σ H _ I h
  refine thn run fun v s1 e => ?_
  obtain ⟨x, H1, I1, r1, q1⟩ := e
  have new : ∀ {o : Obj} {b : Addr}, b ∈ [s1.heap.objs.size] → FpOk X pins H1 b := fun {o b} hb => by
    rw [List.mem_singleton.mp hb]
    exact I1.fpOk (Nat.le_refl _) I1.fresh
  rcases q1 with ⟨a, xs, rfl, hq, q⟩ | ⟨a, xs, rfl, hq, q⟩ | ⟨z, rfl, q⟩
  · cases r1
    obtain ⟨its, rv, p, hz⟩ := I1.list hq
    refine wpAny_pyIter_list p.isList ⟨_, [s1.heap.objs.size], _, _, H1, rfl, I1.kept (t' := s1.toks) fun b o e => Heap.get?_push_of_some _ e, turn_list a _, ?_, fun b hb => ?_, q⟩
    · exact ⟨_, Heap.get?_push_size _ rfl, rfl, rfl⟩
    · exact new (o := default) hb
  · cases r1
    obtain ⟨its, rv, p, hz⟩ := I1.tuple hq
    refine wpAny_pyIter_tuple (show s1.heap.IsTuple a its.toArray from p) ⟨_, [s1.heap.objs.size], _, _, H1, rfl, I1.kept (t' := s1.toks) fun b o e => Heap.get?_push_of_some _ e, turn_tuple a _, ?_, fun b hb => ?_, q⟩
    · exact ⟨_, Heap.get?_push_size _ rfl, rfl, rfl⟩
    · exact new (o := default) hb
  · obtain ⟨t, rfl⟩ := r1
    match ha : z.cps.all (· < 128) with
    | false => exact wpAny_pyIter_wide ha (pi_one (tk := s1.toks) I1 _ (turn_str _ z t "str_iterator" (.inr rfl)) ⟨_, Heap.get?_push_size _ rfl, rfl, rfl⟩ q)
    | true => exact wpAny_pyIter_ascii ha (pi_one (tk := s1.toks) I1 _ (turn_str _ z t "str_ascii_iterator" (.inl rfl)) ⟨_, Heap.get?_push_size _ rfl, rfl, rfl⟩ q)
end

/-- a body as a promise: the values in the slots at the beginning -/
def run (t : TS) (σ : L2.St) (H : Hp) (Q : VK) : Prop := t { nx := fun _ H' => Q .non H', rt := Q } σ H
end Wg

namespace Wg
open PySem PySem.Spec PyProof.Rows L2
/-- a def of the text where it stands -/
structure Fn (K : PySem.W.Frag) (mg : Str → Option Value) (x : Str) (st : Stmt) (f : Addr) (fd : FuncData) (ps : List Str) : Prop where
  fn : Fun K x x st f fd
  g : mg x = some (.ref f)
  b : Binds K fd ps []

/-! ### data that stand still -/
mutual
inductive Dt (K : PySem.W.Frag) (H : Hp) : V → PyData → Prop
  | non : Dt K H .non .none
  | bl (b : Bool) : Dt K H (.bl b) (.bool b)
  | int (i : Int) : Dt K H (.int i) (.int i)
  | str (x : Str) : Dt K H (.str x) (.str x)
  | tup {a : Addr} {xs : List V} {ds : List PyData} : Tup H a xs → DtAll K H xs ds → Dt K H (.ref a) (.tuple ds)
inductive DtAll (K : PySem.W.Frag) (H : Hp) : List V → List PyData → Prop
  | nil : DtAll K H [] []
  | cons {v : V} {vs : List V} {d : PyData} {ds : List PyData} : Dt K H v d → DtAll K H vs ds → DtAll K H (v :: vs) (d :: ds)
end
mutual
theorem Dt.dp {K : PySem.W.Frag} {H : Hp} : ∀ {v : V} {d : PyData}, Dt K H v d → Dp K H v d
  | _, _, .non => .non
  | _, _, .bl b => .bl b
  | _, _, .int i => .int i
  | _, _, .str x => .str x
  | _, _, .tup t a => .tup t.sq a.dp
theorem DtAll.dp {K : PySem.W.Frag} {H : Hp} : ∀ {vs : List V} {ds : List PyData}, DtAll K H vs ds → DpAll K H vs ds
  | _, _, .nil => .nil
  | _, _, .cons h r => .cons h.dp r.dp
end
mutual
theorem Dt.reads {X : Cx} {pins : List (Addr × Obj)} {σ : L2.St} {H : Hp} {s : Shared} {K : PySem.W.Frag} (I : Inv X pins σ H s) : ∀ {v : V} {d : PyData}, Dt K H v d → ∀ {u : Value}, RelV v u → Reads s.heap u d []
  | _, _, .non, u, r => by cases r; exact .none
  | _, _, .bl b, u, r => by cases r; exact .bool b
  | _, _, .int i, u, r => by obtain ⟨t, rfl⟩ := r; exact .int i t
  | _, _, .str x, u, r => by obtain ⟨t, rfl⟩ := r; exact .str x t
  | _, _, .tup (a := a) t q, u, r => by
    cases r
    obtain ⟨its, n, rv, z, ho⟩ := t.obj I
    exact .tuple ho rfl rfl (DtAll.reads I q rv)
theorem DtAll.reads {X : Cx} {pins : List (Addr × Obj)} {σ : L2.St} {H : Hp} {s : Shared} {K : PySem.W.Frag} (I : Inv X pins σ H s) : ∀ {vs : List V} {ds : List PyData}, DtAll K H vs ds → ∀ {us : List Value}, Vals vs us → ReadsAll s.heap us ds []
  | _, _, .nil, _, r => by cases r; exact .nil
  | _, _, .cons h q, _, r => by
    cases r with
    | cons r1 r2 => exact .cons (Dt.reads I h r1) (DtAll.reads I q r2)
end
mutual
/-- a change of what is no tuple leaves them -/
theorem Dt.keep {K : PySem.W.Frag} {S : List Addr} {H H' : Hp} (k : Keep S H H') (n : ∀ a xs, Tup H a xs → a ∉ S) : ∀ {v : V} {d : PyData}, Dt K H v d → Dt K H' v d
  | _, _, .non => .non
  | _, _, .bl b => .bl b
  | _, _, .int i => .int i
  | _, _, .str x => .str x
  | _, _, .tup t a => .tup (t.keep k (n _ _ t)) (DtAll.keep k n a)
theorem DtAll.keep {K : PySem.W.Frag} {S : List Addr} {H H' : Hp} (k : Keep S H H') (n : ∀ a xs, Tup H a xs → a ∉ S) : ∀ {vs : List V} {ds : List PyData}, DtAll K H vs ds → DtAll K H' vs ds
  | _, _, .nil => .nil
  | _, _, .cons h r => .cons (Dt.keep k n h) (DtAll.keep k n r)
end
def keyD : Key → PyData
  | .inl i => .int i
  | .inr x => .str x
theorem pairs_reads {X : Cx} {pins : List (Addr × Obj)} {σ : L2.St} {H : Hp} {s : Shared} {K : PySem.W.Frag} (I : Inv X pins σ H s) : ∀ {es : List DictEntry} {kvs : List (Key × V)} {us : List (Key × Value)} {ds : List PyData},
    PySem.Pairs (mixKind X.prog X.w) es us → KV kvs us → DtAll K H (kvs.map (·.2)) ds →
      ReadsAll s.heap (es.map (·.key)) (kvs.map fun p => keyD p.1) [] ∧ ReadsAll s.heap (es.map (·.val)) ds []
  | _, _, _, _, .nil, .nil, .nil => ⟨.nil, .nil⟩
  | e :: es, (k, v) :: kvs, (k', u) :: us, d :: ds, .cons h1 h2 hr, .cons ⟨q1, q2⟩ qr, .cons hd hds => by
    obtain ⟨r1, r2⟩ := pairs_reads I hr qr hds
    have q1' : k = k' := q1
    have q2' : RelV v u := q2
    have hv : e.val = u := h2
    have hk : keyIs k' e.key = true := h1
    subst q1'
    have rv : Reads s.heap e.val d [] := by
      rw [hv]
      exact hd.reads I q2'
    refine ⟨.cons (as := []) (bs := []) ?_ r1, .cons (as := []) (bs := []) rv r2⟩
    show Reads s.heap e.key (keyD k) []
    rcases keyIs_shape hk with ⟨i, t, rfl, e2⟩ | ⟨x, t, rfl, e2⟩
    · rw [e2]; exact .int i t
    · rw [e2]; exact .str x t

section
variable {X : Cx}
/-- what repr tells of a dict of such data -/
def uReprD (K : PySem.W.Frag) : List V → Hp → VK → Prop := fun xs H Q => ∃ (a : Addr) (kvs : List (Key × V)) (ds : List PyData), xs = [.ref a] ∧ H a = some (.dK kvs) ∧ DtAll K H (kvs.map (·.2)) ds ∧
  (PyData.dict ((kvs.map fun p => keyD p.1).zip ds)).showable = true ∧ (PyData.dict ((kvs.map fun p => keyD p.1).zip ds)).depth ≤ 100 ∧ (PyData.dict ((kvs.map fun p => keyD p.1).zip ds)).shown.length ≤ sizeLine ∧
  Q (.str (PyData.dict ((kvs.map fun p => keyD p.1).zip ds)).shown) H
theorem DtAll.len {K : PySem.W.Frag} {H : Hp} : ∀ {vs : List V} {ds : List PyData}, DtAll K H vs ds → vs.length = ds.length
  | _, _, .nil => rfl
  | _, _, .cons _ r => congrArg (· + 1) r.len
theorem call_uReprD (hr : Rm 1 X.A) : CallR X (.builtin "repr") (uReprD X.K) := by
  intro pins s σ H xs us Q I r h
  obtain ⟨a, kvs, ds, rfl, ha, hd, hs, hdep, hz, q⟩ := h
  obtain ⟨u, rfl, rx⟩ := vals1 r
  cases rx
  obtain ⟨z, hsy, ws, kv, o, es, ep, ho, ex, hdat, _, hp, _⟩ := I.hok a _ ha
  obtain ⟨r1, r2⟩ := pairs_reads I hp kv hd
  have hl := hd.len
  rw [List.length_map] at hl
  have e1 : ((kvs.map fun p => keyD p.1).zip ds).map (·.1) = kvs.map fun p => keyD p.1 := List.map_fst_zip (by rw [List.length_map]; omega)
  have e2 : ((kvs.map fun p => keyD p.1).zip ds).map (·.2) = ds := List.map_snd_zip (by rw [List.length_map]; omega)
  have rd : Reads s.heap (.ref a) (PyData.dict ((kvs.map fun p => keyD p.1).zip ds)) (a :: [] ++ []) := .dict ho ex.1 hdat (by rw [e1]; exact r1) (by rw [e2]; exact r2)
  have hu : X.A.units + ((PyData.dict ((kvs.map fun p => keyD p.1).zip ds)).depth + 1) < cLine := by
    have := hr.rm.un
    omega
  refine repr_of_reads' rd hs (fun _ hm => ?_) hr.gd hu (fun _ _ e => e) (fun h' u tk hk => ?_) hz
  · have e : sysModules = a := by simpa using hm
    rw [e] at hsy
    simp at hsy
  · exact ⟨.str _, H, I.kept (t' := tk) hk, ⟨_, rfl⟩, q⟩
def uRep (K : PySem.W.Frag) : List V → Hp → VK → Prop := fun xs H Q => uRepr K xs H Q ∨ uReprD K xs H Q
theorem call_uRep (hr : Rm 1 X.A) : CallR X (.builtin "repr") (uRep X.K) := (call_uRepr hr).or (call_uReprD hr)

def uLen (K : PySem.W.Frag) : List V → Hp → VK → Prop := fun xs H Q => ∃ x n, xs = [x] ∧ LenV K x H n ∧ Q (.int n) H
theorem call_uLen : CallR X (.builtin "len") (uLen X.K) := call_len
def uAbs : List V → Hp → VK → Prop := fun xs H Q => ∃ i, xs = [.int i] ∧ Q (.int (if i < 0 then -i else i)) H
theorem call_uAbs : CallR X (.builtin "abs") uAbs := call_abs
def uMax2 : List V → Hp → VK → Prop := fun xs H Q => ∃ i j, xs = [.int i, .int j] ∧ Q (.int (if j > i then j else i)) H
theorem call_uMax2 (hc : X.calm = true) : CallR X (.builtin "max") uMax2 := call_max2 hc
def uMin2 : List V → Hp → VK → Prop := fun xs H Q => ∃ i j, xs = [.int i, .int j] ∧ Q (.int (if j < i then j else i)) H
theorem call_uMin2 (hc : X.calm = true) : CallR X (.builtin "min") uMin2 := call_min2 hc
def uStr : List V → Hp → VK → Prop := fun xs H Q => ∃ i, xs = [.int i] ∧ i.natAbs.log2 < 1920 ∧ Q (.str (toString i)) H
theorem call_uStr : CallR X (.type "str") uStr := call_str_int
def uInt : List V → Hp → VK → Prop := fun xs H Q => (∃ i, xs = [.int i] ∧ Q (.int i) H) ∨ ∃ k, xs = [.bl k] ∧ Q (.int (if k then 1 else 0)) H
theorem call_uInt : CallR X (.type "int") uInt := call_int1
def rIsN : R2 := fun x y H Q => y = .non ∧ Q (.bl (decide (x = .non))) H
def rNotN : R2 := fun x y H Q => y = .non ∧ Q (.bl (!decide (x = .non))) H

/-! ### methods -/
def uAppend : V → List V → Hp → VK → Prop := fun x vs H Q => ∃ l xs y, x = .ref l ∧ vs = [y] ∧ H l = some (.lst xs) ∧ xs.length < sizeLine ∧ Ch H l (.lst (xs ++ [y])) (Q .non)
theorem mt_uAppend : MtM X "list.append" uAppend := by
  intro pins s σ H x vs v us Q I rx rv h
  obtain ⟨l, xs, y, e1, e2, h1, h2, q⟩ := h
  exact mt_append pins s σ H x vs v us Q I rx rv ⟨l, xs, y, e1, e2, h1, h2, q.at⟩
end
end Wg

/-! Wagon, part 5: how a reading goes on, construct by construct. -/
namespace Wg
open PySem PySem.Spec PyProof.Rows L2

section
variable {K : PySem.W.Frag} {H : Hp} {Q : VK} {i j : Int}
theorem e_rI {C : Int → Int → Prop} {g : Int → Int → V} : rI C g (.int i) (.int j) H Q ↔ C i j ∧ Q (g i j) H := by
  constructor
  · rintro ⟨a, b, e1, e2, c, q⟩
    cases e1; cases e2; exact ⟨c, q⟩
  · rintro ⟨c, q⟩; exact ⟨i, j, rfl, rfl, c, q⟩
theorem e_rI0 {g : Int → Int → V} : rI0 g (.int i) (.int j) H Q ↔ Q (g i j) H := by
  constructor
  · rintro ⟨a, b, e1, e2, q⟩
    cases e1; cases e2; exact q
  · intro q; exact ⟨i, j, rfl, rfl, q⟩
theorem e_rU {g : Int → V} : rU g (.int i) H Q ↔ Q (g i) H := by
  constructor
  · rintro ⟨a, e1, q⟩
    cases e1; exact q
  · intro q; exact ⟨i, rfl, q⟩
theorem e_addI : uAdd K (.int i) (.int j) H Q ↔ Q (.int (i + j)) H := by
  constructor
  · rintro (⟨a, b, e1, e2, q⟩ | ⟨a, b, e1, _⟩ | ⟨a, b, _, _, e1, _⟩ | ⟨a, b, _, _, e1, _⟩) <;> first | cases e1; cases e2; exact q | cases e1
  · intro q; exact .inl ⟨i, j, rfl, rfl, q⟩
theorem e_addS {x y : Str} : uAdd K (.str x) (.str y) H Q ↔ x.length + y.length ≤ sizeLine ∧ Q (.str (x ++ y)) H := by
  constructor
  · rintro (⟨a, b, e1, _⟩ | ⟨a, b, e1, e2, z, q⟩ | ⟨a, b, _, _, e1, _⟩ | ⟨a, b, _, _, e1, _⟩) <;> first | cases e1; cases e2; exact ⟨z, q⟩ | cases e1
  · rintro ⟨z, q⟩; exact .inr (.inl ⟨x, y, rfl, rfl, z, q⟩)
theorem e_mulI : uMul (.int i) (.int j) H Q ↔ CMul i j ∧ Q (.int (i * j)) H := by
  constructor
  · rintro (⟨a, b, e1, e2, c, q⟩ | ⟨a, b, _, e1, _⟩) <;> first | cases e1; cases e2; exact ⟨c, q⟩ | cases e1
  · rintro ⟨c, q⟩; exact .inl ⟨i, j, rfl, rfl, c, q⟩
theorem e_abs : uAbs [.int i] H Q ↔ Q (.int (if i < 0 then -i else i)) H := by
  constructor
  · rintro ⟨a, e1, q⟩
    cases e1; exact q
  · intro q; exact ⟨i, rfl, q⟩
theorem e_max2 : uMax2 [.int i, .int j] H Q ↔ Q (.int (if j > i then j else i)) H := by
  constructor
  · rintro ⟨a, b, e1, q⟩
    cases e1; exact q
  · intro q; exact ⟨i, j, rfl, q⟩
theorem e_min2 : uMin2 [.int i, .int j] H Q ↔ Q (.int (if j < i then j else i)) H := by
  constructor
  · rintro ⟨a, b, e1, q⟩
    cases e1; exact q
  · intro q; exact ⟨i, j, rfl, q⟩
theorem e_str : uStr [.int i] H Q ↔ i.natAbs.log2 < 1920 ∧ Q (.str (toString i)) H := by
  constructor
  · rintro ⟨a, e1, z, q⟩
    cases e1; exact ⟨z, q⟩
  · rintro ⟨z, q⟩; exact ⟨i, rfl, z, q⟩
theorem e_intI : uInt [.int i] H Q ↔ Q (.int i) H := by
  constructor
  · rintro (⟨a, e1, q⟩ | ⟨a, e1, q⟩) <;> cases e1; exact q
  · intro q; exact .inl ⟨i, rfl, q⟩
theorem e_intB {k : Bool} : uInt [.bl k] H Q ↔ Q (.int (if k then 1 else 0)) H := by
  constructor
  · rintro (⟨a, e1, q⟩ | ⟨a, e1, q⟩) <;> cases e1; exact q
  · intro q; exact .inr ⟨k, rfl, q⟩
theorem e_isN {x : V} : rIsN x .non H Q ↔ Q (.bl (decide (x = .non))) H := ⟨fun h => h.2, fun q => ⟨rfl, q⟩⟩
theorem e_notN {x : V} : rNotN x .non H Q ↔ Q (.bl (!decide (x = .non))) H := ⟨fun h => h.2, fun q => ⟨rfl, q⟩⟩
theorem e_truB {k k' : Bool} : TruV K (.bl k) H k' ↔ k' = k := Iff.rfl
theorem e_truI {k' : Bool} : TruV K (.int i) H k' ↔ k' = (i != 0) := Iff.rfl
/-- equality of scalars -/
theorem g_eq {x y : V} (h : scal x y = true) (q : Q (.bl (decide (x = y))) H) : uEq K false x y H Q := .inl ⟨h, by simpa using q⟩
theorem g_ne {x y : V} (h : scal x y = true) (q : Q (.bl (!decide (x = y))) H) : uEq K true x y H Q := .inl ⟨h, by simpa using q⟩
/-- an item of a list, of a tuple -/
theorem g_ixL {p : Addr} {xs : List V} {v : V} (h : H p = some (.lst xs)) (e : atI xs i = some v) (q : Q v H) : uIx K (.ref p) (.int i) H Q := .inl ⟨p, xs, i, v, rfl, rfl, .inl (lst_sq h), e, q⟩
theorem g_ixT {p : Addr} {xs : List V} {v : V} (h : Tup H p xs) (e : atI xs i = some v) (q : Q v H) : uIx K (.ref p) (.int i) H Q := .inl ⟨p, xs, i, v, rfl, rfl, .inr h.sq, e, q⟩
theorem g_ixQ {p : Addr} {xs : List V} {v : V} (h : SqL K H p xs) (e : atI xs i = some v) (q : Q v H) : uIx K (.ref p) (.int i) H Q := .inl ⟨p, xs, i, v, rfl, rfl, .inl h, e, q⟩
theorem g_ixS {z : Str} {c : Nat} (h : z.length ≤ sizeLine) (e : atI z.cps.toList i = some c) (q : Q (.str ⟨#[c]⟩) H) : uIx K (.str z) (.int i) H Q := .inr ⟨z, i, c, rfl, rfl, h, e, q⟩
/-- an item stored -/
theorem g_setL {p : Addr} {xs : List V} {v : V} {k : Nat} {R : Hp → Prop} (h : H p = some (.lst xs)) (e : ixN xs.length i = some k) (q : ∀ H', Keep [p] H H' → H' p = some (.lst (xs.set k v)) → R H') : uSetL (.ref p) (.int i) v H R :=
  ⟨p, xs, i, k, rfl, rfl, h, e, q⟩
theorem g_addL {a b : Addr} {xs ys : List V} (h1 : H a = some (.lst xs)) (h2 : H b = some (.lst ys)) (z : xs.length + ys.length ≤ sizeLine) (q : ∀ p H', H p = none → Keep [] H H' → H' p = some (.lst (xs ++ ys)) → Q (.ref p) H') : uAdd K (.ref a) (.ref b) H Q :=
  .inr (.inr (.inl ⟨a, b, xs, ys, rfl, rfl, h1, h2, z, q⟩))
theorem g_addT {a b : Addr} {xs ys : List V} (h1 : Tup H a xs) (h2 : Tup H b ys) (z : xs.length + ys.length ≤ sizeLine) (q : ∀ p H', Keep [] H H' → Tup H' p (xs ++ ys) → Q (.ref p) H') : uAdd K (.ref a) (.ref b) H Q := by
  refine .inr (.inr (.inr ⟨a, b, xs, ys, rfl, rfl, h1, h2, z, fun e => ?_, fun _ e => ?_, fun _ _ p H' _ k t => q p H' k t⟩))
  · subst e
    exact q b H (Keep.refl _ _) h2
  · subst e
    exact q a H (Keep.refl _ _) (by rw [List.append_nil]; exact h1)
theorem g_lenL {p : Addr} {xs : List V} (h : H p = some (.lst xs)) (q : Q (.int xs.length) H) : uLen K [.ref p] H Q := ⟨.ref p, xs.length, rfl, .inl ⟨xs, lst_sq h, rfl⟩, q⟩
theorem g_lenT {p : Addr} {xs : List V} (h : Tup H p xs) (q : Q (.int xs.length) H) : uLen K [.ref p] H Q := ⟨.ref p, xs.length, rfl, .inr ⟨xs, h.sq, rfl⟩, q⟩
theorem g_lenQ {p : Addr} {xs : List V} (h : SqL K H p xs) (q : Q (.int xs.length) H) : uLen K [.ref p] H Q := ⟨.ref p, xs.length, rfl, .inl ⟨xs, h, rfl⟩, q⟩
theorem g_lenS {z : Str} (h : z.length ≤ sizeLine) (q : Q (.int z.length) H) : uLen K [.str z] H Q := ⟨.str z, z.length, rfl, ⟨h, rfl⟩, q⟩
theorem g_repr {v : V} {d : PyData} (h : Dp K H v d) (h1 : d.showable = true) (h2 : d.depth ≤ 100) (h3 : d.shown.length ≤ sizeLine) (q : Q (.str d.shown) H) : uRep K [v] H Q := .inl ⟨v, d, rfl, h, h1, h2, h3, q⟩
theorem g_append {l : Addr} {xs : List V} {y : V} (h : H l = some (.lst xs)) (z : xs.length < sizeLine) (q : ∀ H', Keep [l] H H' → H' l = some (.lst (xs ++ [y])) → Q .non H') : uAppend (.ref l) [y] H Q := ⟨l, xs, y, rfl, rfl, h, z, q⟩
theorem g_listL {p : Addr} {ys : List V} (h : H p = some (.lst ys)) (q : ∀ l H', H l = none → Keep [] H H' → H' l = some (.lst ys) → Q (.ref l) H') : uList K [.ref p] H Q := ⟨p, ys, rfl, .inl (lst_sq h), q⟩
theorem g_listT {p : Addr} {ys : List V} (h : Tup H p ys) (q : ∀ l H', H l = none → Keep [] H H' → H' l = some (.lst ys) → Q (.ref l) H') : uList K [.ref p] H Q := ⟨p, ys, rfl, .inr h.sq, q⟩
theorem g_tupleL {p : Addr} {ys : List V} (h : H p = some (.lst ys)) (q : ∀ l H', H l = none → Keep [] H H' → Tup H' l ys → Q (.ref l) H') : uTuple K [.ref p] H Q := ⟨p, ys, rfl, .inl ⟨lst_sq h, q⟩⟩
theorem g_slL {p : Addr} {xs : List V} {lo hi : Option Int} (h : SqL K H p xs) (q : ∀ l H', H l = none → Keep [] H H' → H' l = some (.lst (cutV xs lo hi)) → Q (.ref l) H') : uSl K (.ref p) lo hi H Q := .inl ⟨p, xs, rfl, h, q⟩
theorem g_slS {z : Str} {lo hi : Option Int} (h : z.length ≤ sizeLine) (q : Q (.str (cutS z lo hi)) H) : uSl K (.str z) lo hi H Q := .inr (.inl ⟨z, rfl, h, q⟩)
theorem cut_all {xs : List V} {lo hi : Option Int} (h : HT.sIx xs.length 0 lo = 0 ∧ HT.sIx xs.length xs.length hi = xs.length) : cutV xs lo hi = xs := by
  unfold cutV
  rw [h.1, h.2]
  exact List.take_length
theorem g_slT {p : Addr} {xs : List V} {lo hi : Option Int} (h : Tup H p xs) (q : ∀ l H', Keep [] H H' → Tup H' l (cutV xs lo hi) → Q (.ref l) H') : uSl K (.ref p) lo hi H Q := by
  refine .inr (.inr ⟨p, xs, rfl, h, fun e => ?_, fun _ l H' _ k t => q l H' k t⟩)
  exact q p H (Keep.refl _ _) (by rw [cut_all e]; exact h)
/-- a slot's value by its place -/
theorem at_lit {α : Type} {xs : List α} {v : α} {i : Int} (j : Nat) (e : i = (j : Int)) (h : xs[j]? = some v) : atI xs i = some v := by
  subst e
  exact atI_nat h
end

/-! ### what isinstance tells -/
section
variable {K : PySem.W.Frag} {H : Hp} {Q : VK}
theorem ty_tup {a : Addr} {xs : List V} (h : Tup H a xs) : TyX K H (.ref a) (.type "tuple") := let ⟨_, e, _⟩ := h; .fTuple e
theorem g_isi {x : V} {n T : String} {k : Bool} (h : TyX K H x (.type n)) (e : kitB n T = some k) (q : Q (.bl k) H) : rIsi K [x, .ty T] H Q := ⟨x, .ty T, _, _, k, rfl, .ty T, h, kit_ty e, q⟩
end
theorem kit_int_int : kitB "int" "int" = some true := by decide +kernel
theorem kit_bool_int : kitB "bool" "int" = some true := by decide +kernel
theorem kit_str_int : kitB "str" "int" = some false := by decide +kernel
theorem kit_none_int : kitB "NoneType" "int" = some false := by decide +kernel
theorem kit_list_int : kitB "list" "int" = some false := by decide +kernel
theorem kit_tuple_int : kitB "tuple" "int" = some false := by decide +kernel
theorem kit_dict_int : kitB "dict" "int" = some false := by decide +kernel
theorem kit_int_bool : kitB "int" "bool" = some false := by decide +kernel
theorem kit_bool_bool : kitB "bool" "bool" = some true := by decide +kernel
theorem kit_str_bool : kitB "str" "bool" = some false := by decide +kernel
theorem kit_none_bool : kitB "NoneType" "bool" = some false := by decide +kernel
theorem kit_list_bool : kitB "list" "bool" = some false := by decide +kernel
theorem kit_tuple_bool : kitB "tuple" "bool" = some false := by decide +kernel
theorem kit_dict_bool : kitB "dict" "bool" = some false := by decide +kernel
end Wg

/-! Wagon, part 6: how long what repr tells is; things as a law's lists hold them. -/
namespace Wg
open PySem PySem.Spec PyProof.Rows L2

/-! ### how long -/
mutual
def cost : PyData → Nat
  | .none => 4
  | .bool _ => 5
  | .int _ => 1921
  | .str x => 10 * x.length + 2
  | .list xs => costs xs + 2
  | .tuple xs => costs xs + 3
  | .dict kvs => costKv kvs + 2
def costs : List PyData → Nat
  | [] => 0
  | x :: xs => cost x + 2 + costs xs
def costKv : List (PyData × PyData) → Nat
  | [] => 0
  | (k, v) :: r => cost k + 2 + cost v + 2 + costKv r
end
/-- texts of moderate signs, whole numbers that str can write -/
def signsOk (x : Str) : Prop := ∀ c ∈ x.cps.toList, c < 16 ^ 8
mutual
def fine : PyData → Prop
  | .none => True
  | .bool _ => True
  | .int i => i.natAbs.log2 < 1920
  | .str x => signsOk x
  | .list xs => fines xs
  | .tuple xs => fines xs
  | .dict kvs => fineKv kvs
def fines : List PyData → Prop
  | [] => True
  | x :: xs => fine x ∧ fines xs
def fineKv : List (PyData × PyData) → Prop
  | [] => True
  | (k, v) :: r => fine k ∧ fine v ∧ fineKv r
end
mutual
theorem fine_show : ∀ {d : PyData}, fine d → d.showable = true
  | .none, _ => rfl
  | .bool _, _ => rfl
  | .int i, h => decide_eq_true h
  | .str _, _ => rfl
  | .list xs, h => by simp only [PyData.showable]; exact fines_show h
  | .tuple xs, h => by simp only [PyData.showable]; exact fines_show h
  | .dict kvs, h => by simp only [PyData.showable]; exact fineKv_show h
theorem fines_show : ∀ {ds : List PyData}, fines ds → PyData.showableAll ds = true
  | [], _ => rfl
  | d :: ds, h => by simp only [PyData.showableAll, Bool.and_eq_true]; exact ⟨fine_show h.1, fines_show h.2⟩
theorem fineKv_show : ∀ {ds : List (PyData × PyData)}, fineKv ds → PyData.showableKv ds = true
  | [], _ => rfl
  | (k, v) :: ds, h => by simp only [PyData.showableKv, Bool.and_eq_true]; exact ⟨⟨fine_show h.1, fine_show h.2.1⟩, fineKv_show h.2.2⟩
end
theorem list_text (ts : List Str) : (listText ts).length ≤ piled ts + 2 := by
  have key : ∀ (ts : List Str) (k : Nat) (acc : Str), (textFrom k acc ts).length ≤ acc.length + piled ts := by
    intro ts
    induction ts with
    | nil =>
      intro k acc
      simp [textFrom, piled]
    | cons t r ih =>
      intro k acc
      have q := ih (k + 1) (acc ++ (if k > 0 then ", " else "" : String) ++ t)
      have e2 : (((if k > 0 then ", " else "" : String) : Str)).length ≤ 2 := by split <;> decide +kernel
      rw [strLen_append, strLen_append] at q
      show (textFrom (k + 1) (acc ++ (if k > 0 then ", " else "" : String) ++ t) r).length ≤ _
      rw [piled_cons]
      omega
  unfold listText
  have e1 : (("[" : String) : Str).length = 1 := rfl
  have e2 : (("]" : String) : Str).length = 1 := rfl
  have q := key ts 0 "["
  rw [strLen_append, e2]
  rw [e1] at q
  omega
theorem tuple_text (ts : List Str) : (tupleText ts).length ≤ piled ts + 3 := by
  unfold tupleText
  have e1 : (("(" : String) : Str).length = 1 := rfl
  have e3 : (((if ts.length == 1 then ",)" else ")" : String) : Str)).length ≤ 2 := by split <;> decide +kernel
  rw [strLen_append, strLen_append, e1]
  by_cases h : ts = []
  · subst h
    decide +kernel
  · have := join_length_add ts h
    omega
theorem dict_text (ts : List Str) : (dictText ts).length ≤ piled ts + 2 := by
  unfold dictText
  have e1 : (("{" : String) : Str).length = 1 := rfl
  have e3 : (("}" : String) : Str).length = 1 := rfl
  rw [strLen_append, strLen_append, e1, e3]
  by_cases h : ts = []
  · subst h
    decide +kernel
  · have := join_length_add ts h
    omega
mutual
theorem shown_le : ∀ {d : PyData}, fine d → d.shown.length ≤ cost d
  | .none, _ => by decide +kernel
  | .bool b, _ => by cases b <;> decide +kernel
  | .int i, h => by
    simp only [PyData.shown, cost]
    rw [PySem.ofString_length]
    exact int_text_length_le (by decide) h
  | .str x, h => by
    simp only [PyData.shown, cost]
    exact StrLaws.reprText_len x h
  | .list xs, h => by
    simp only [PyData.shown, cost]
    have := list_text (PyData.shownAll xs)
    have := shownAll_le h
    omega
  | .tuple xs, h => by
    simp only [PyData.shown, cost]
    have := tuple_text (PyData.shownAll xs)
    have := shownAll_le h
    omega
  | .dict kvs, h => by
    simp only [PyData.shown, cost]
    have := dict_text (PyData.shownKv kvs)
    have := shownKv_le h
    omega
theorem shownAll_le : ∀ {ds : List PyData}, fines ds → piled (PyData.shownAll ds) ≤ costs ds
  | [], _ => Nat.le_refl _
  | d :: ds, h => by
    have h1 := shown_le h.1
    have h2 := shownAll_le h.2
    simp only [PyData.shownAll, costs, piled_cons]
    omega
theorem shownKv_le : ∀ {ds : List (PyData × PyData)}, fineKv ds → piled (PyData.shownKv ds) ≤ costKv ds
  | [], _ => Nat.le_refl _
  | (k, v) :: ds, h => by
    have h1 := shown_le h.1
    have h2 := shown_le h.2.1
    have h3 := shownKv_le h.2.2
    have e : ((": " : String) : Str).length = 2 := rfl
    simp only [PyData.shownKv, costKv, piled_cons, strLen_append, e]
    omega
end
mutual
theorem Dp.keep {K : PySem.W.Frag} {H H' : Hp} (k : Keep [] H H') : ∀ {v : V} {d : PyData}, Dp K H v d → Dp K H' v d
  | _, _, .non => .non
  | _, _, .bl b => .bl b
  | _, _, .int i => .int i
  | _, _, .str x => .str x
  | _, _, .lst h q => .lst (sq_keep h k nin0) (DpAll.keep k q)
  | _, _, .tup h q => .tup (by
      rcases h with (h | ⟨o, h⟩) | h
      · exact .inl (.inl (k _ _ nin0 h))
      · exact .inl (.inr ⟨o, k _ _ nin0 h⟩)
      · exact .inr h) (DpAll.keep k q)
theorem DpAll.keep {K : PySem.W.Frag} {H H' : Hp} (k : Keep [] H H') : ∀ {vs : List V} {ds : List PyData}, DpAll K H vs ds → DpAll K H' vs ds
  | _, _, .nil => .nil
  | _, _, .cons h q => .cons (Dp.keep k h) (DpAll.keep k q)
end
/-- a thing that repr tells -/
inductive Th (K : PySem.W.Frag) (H : Hp) : V → PyData → Prop
  | dp {v : V} {d : PyData} : Dp K H v d → fine d → cost d ≤ 10000000 → d.depth ≤ 100 → Th K H v d
  | dic {a : Addr} {kvs : List (Key × V)} {ds : List PyData} : H a = some (.dK kvs) → DtAll K H (kvs.map (·.2)) ds → fine (.dict ((kvs.map fun p => keyD p.1).zip ds)) → cost (.dict ((kvs.map fun p => keyD p.1).zip ds)) ≤ 10000000 →
      (PyData.dict ((kvs.map fun p => keyD p.1).zip ds)).depth ≤ 100 → Th K H (.ref a) (.dict ((kvs.map fun p => keyD p.1).zip ds))
theorem line_big {n : Nat} (h : n ≤ 10000000) : n ≤ sizeLine := by
  rw [sizeLine_eq]
  omega
theorem g_rep {K : PySem.W.Frag} {H : Hp} {v : V} {d : PyData} {Q : VK} (h : Th K H v d) (q : Q (.str d.shown) H) : uRep K [v] H Q := by
  cases h with
  | dp h1 h2 h3 h4 => exact .inl ⟨v, d, rfl, h1, fine_show h2, h4, Nat.le_trans (shown_le h2) (line_big h3), q⟩
  | dic h1 h2 h3 h4 h5 => exact .inr ⟨_, _, _, rfl, h1, h2, fine_show h3, h5, Nat.le_trans (shown_le h3) (line_big h4), q⟩
theorem Th.keep {K : PySem.W.Frag} {H H' : Hp} (k : Keep [] H H') {v : V} {d : PyData} (h : Th K H v d) : Th K H' v d := by
  cases h with
  | dp h1 h2 h3 h4 => exact .dp (Dp.keep k h1) h2 h3 h4
  | dic h1 h2 h3 h4 h5 => exact .dic (k _ _ nin0 h1) (h2.keep k fun _ _ _ => nin0) h3 h4 h5
end Wg

/-! Wagon, part 7: loops and comprehensions by what holds ahead of each turn. -/
namespace Wg
open PySem PySem.Spec PyProof.Rows L2

/-- n turns, the i-th with the item it i -/
def Loop (n : Nat) (it : Nat → V) (g : TG) (tb : TS) (D : Ends) (σ : L2.St) (H : Hp) : Prop :=
  ∃ Pv : Nat → L2.St → Hp → Prop, Pv 0 σ H ∧ (∀ i σ H, i < n → Pv i σ H → g (it i) σ H fun σ2 H2 => tb { D with nx := Pv (i + 1), ct := Pv (i + 1), bk := D.nx } σ2 H2) ∧ ∀ σ H, Pv n σ H → D.nx σ H
/-- the same, told of the argument's end -/
theorem L_range1 {g : TG} {tb : TS} {D : Ends} {σ : L2.St} {H1 : Hp} {j : Int} (b1 : -(2 ^ 62) ≤ j) (b2 : j < 2 ^ 62) (h : Loop j.toNat (fun i => .int (i : Nat)) g tb D σ H1) :
    ∃ k : Int, [V.int j] = [V.int k] ∧ -(2 ^ 62) ≤ k ∧ k < 2 ^ 62 ∧ ∃ W : Nat → Nat → L2.St → Hp → Prop, (∃ m, W 0 m σ H1) ∧ ∀ i m σ H, W i m σ H →
      ((Itr 0 k.toNat).stop i H ∧ D.nx σ H) ∨ ((Itr 0 k.toNat).go i H ∧ ∃ N : L2.St → Hp → Prop, (∀ σ' H', N σ' H' → ∃ m', m' < m ∧ W (i + 1) m' σ' H') ∧ ∀ x H', (Itr 0 k.toNat).yld i H x H' → g x σ H' fun σ2 H2 => tb { D with nx := N, ct := N, bk := D.nx } σ2 H2) := by
  obtain ⟨Pv, p0, ps, pd⟩ := h
  refine ⟨j, rfl, b1, b2, for_range (lo := 0) (n := j.toNat) Pv p0 (fun i σ H hi p => ?_) pd⟩
  have q := ps i σ H hi p
  rw [Int.zero_add]
  exact q
/-- what a for over range asks, behind its argument -/
def FR1 (g : TG) (tb : TS) (D : Ends) (σ : L2.St) (vs : List V) (H1 : Hp) : Prop := ∃ j : Int, vs = [.int j] ∧ -(2 ^ 62) ≤ j ∧ j < 2 ^ 62 ∧ ∃ W : Nat → Nat → L2.St → Hp → Prop, (∃ m, W 0 m σ H1) ∧ ∀ i m σ H, W i m σ H →
  ((Itr 0 j.toNat).stop i H ∧ D.nx σ H) ∨ ((Itr 0 j.toNat).go i H ∧ ∃ N : L2.St → Hp → Prop, (∀ σ' H', N σ' H' → ∃ m', m' < m ∧ W (i + 1) m' σ' H') ∧ ∀ x H', (Itr 0 j.toNat).yld i H x H' → g x σ H' fun σ2 H2 => tb { D with nx := N, ct := N, bk := D.nx } σ2 H2)
theorem e_for1 {ta : TA} {g : TG} {tb : TS} {D : Ends} {σ : L2.St} {H : Hp} : tFor (iRng1 ta) g tb D σ H ↔ ta σ H (FR1 g tb D σ) := Iff.rfl
theorem g_FR1 {g : TG} {tb : TS} {D : Ends} {σ : L2.St} {H1 : Hp} {j : Int} (b1 : -(2 ^ 62) ≤ j) (b2 : j < 2 ^ 62) (h : Loop j.toNat (fun i => .int (i : Nat)) g tb D σ H1) : FR1 g tb D σ [.int j] H1 := L_range1 b1 b2 h
def FR2 (g : TG) (tb : TS) (D : Ends) (σ : L2.St) (vs : List V) (H1 : Hp) : Prop := ∃ i0 j : Int, vs = [.int i0, .int j] ∧ (-(2 ^ 62) ≤ i0 ∧ i0 < 2 ^ 62 ∧ -(2 ^ 62) ≤ j ∧ j < 2 ^ 62) ∧ ∃ W : Nat → Nat → L2.St → Hp → Prop, (∃ m, W 0 m σ H1) ∧ ∀ i m σ H, W i m σ H →
  ((Itr i0 (j - i0).toNat).stop i H ∧ D.nx σ H) ∨ ((Itr i0 (j - i0).toNat).go i H ∧ ∃ N : L2.St → Hp → Prop, (∀ σ' H', N σ' H' → ∃ m', m' < m ∧ W (i + 1) m' σ' H') ∧ ∀ x H', (Itr i0 (j - i0).toNat).yld i H x H' → g x σ H' fun σ2 H2 => tb { D with nx := N, ct := N, bk := D.nx } σ2 H2)
theorem e_for2 {ta : TA} {g : TG} {tb : TS} {D : Ends} {σ : L2.St} {H : Hp} : tFor (iRng2 ta) g tb D σ H ↔ ta σ H (FR2 g tb D σ) := Iff.rfl
/-- a for over a list, a tuple, a text, behind it -/
def FU (K : PySem.W.Frag) (g : TG) (tb : TS) (D : Ends) (σ : L2.St) (x : V) (H1 : Hp) : Prop := iU K (tC x) σ H1 fun J H1 => ∃ W : Nat → Nat → L2.St → Hp → Prop, (∃ m, W 0 m σ H1) ∧ ∀ i m σ H, W i m σ H →
  (J.stop i H ∧ D.nx σ H) ∨ (J.go i H ∧ ∃ N : L2.St → Hp → Prop, (∀ σ' H', N σ' H' → ∃ m', m' < m ∧ W (i + 1) m' σ' H') ∧ ∀ x H', J.yld i H x H' → g x σ H' fun σ2 H2 => tb { D with nx := N, ct := N, bk := D.nx } σ2 H2)
theorem e_forU {K : PySem.W.Frag} {tl : TE} {g : TG} {tb : TS} {D : Ends} {σ : L2.St} {H : Hp} : tFor (iU K tl) g tb D σ H ↔ tl σ H (FU K g tb D σ) := Iff.rfl
/-- over a list that stands still -/
theorem g_FL {K : PySem.W.Frag} {g : TG} {tb : TS} {D : Ends} {σ : L2.St} {H1 : Hp} {a : Addr} {xs : List V} (Pv : Nat → L2.St → Hp → Prop) (h : SqL K H1 a xs) (h0 : Pv 0 σ H1) (hl : ∀ i σ H, i ≤ xs.length → Pv i σ H → SqL K H a xs)
    (hs : ∀ i x σ H, xs[i]? = some x → Pv i σ H → g x σ H fun σ2 H2 => tb { D with nx := Pv (i + 1), ct := Pv (i + 1), bk := D.nx } σ2 H2) (hd : ∀ σ H, Pv xs.length σ H → D.nx σ H) : FU K g tb D σ (.ref a) H1 :=
  .inl ⟨a, xs, rfl, h, for_list Pv h0 hl hs hd⟩
theorem g_FT {K : PySem.W.Frag} {g : TG} {tb : TS} {D : Ends} {σ : L2.St} {H1 : Hp} {a : Addr} {xs : List V} (Pv : Nat → L2.St → Hp → Prop) (h : Tup H1 a xs) (h0 : Pv 0 σ H1) (hl : ∀ i σ H, i ≤ xs.length → Pv i σ H → Tup H a xs)
    (hs : ∀ i x σ H, xs[i]? = some x → Pv i σ H → g x σ H fun σ2 H2 => tb { D with nx := Pv (i + 1), ct := Pv (i + 1), bk := D.nx } σ2 H2) (hd : ∀ σ H, Pv xs.length σ H → D.nx σ H) : FU K g tb D σ (.ref a) H1 :=
  .inr (.inl ⟨a, xs, rfl, h.sq, for_tup Pv h0 (fun i σ H l p => (hl i σ H l p).sq) hs hd⟩)
/-- the script: locked, or an object of the module -/
def Scr (K : PySem.W.Frag) (H : Hp) (a : Addr) (xs : List V) : Prop :=
  (∃ o, H a = some (.frz o (.lst xs))) ∨ ∃ (o : Obj) (its : Array Value) (n : Nat), K.lookup a = some o ∧ o.cls = .type "list" ∧ o.dict = none ∧ o.data = .seq its n ∧ its.size ≤ sizeLine ∧ Vals xs its.toList
theorem Scr.sq {K : PySem.W.Frag} {H : Hp} {a : Addr} {xs : List V} (h : Scr K H a xs) : SqL K H a xs := h.elim (fun h => .inl (.inr h)) .inr
theorem Scr.keep {K : PySem.W.Frag} {S : List Addr} {H H' : Hp} {a : Addr} {xs : List V} (h : Scr K H a xs) (k : Keep S H H') (n : ∀ o, H a = some o → a ∉ S) : Scr K H' a xs :=
  h.elim (fun ⟨o, e⟩ => .inl ⟨o, k _ _ (n _ e) e⟩) .inr
theorem Scr.keep0 {K : PySem.W.Frag} {H H' : Hp} {a : Addr} {xs : List V} (h : Scr K H a xs) (k : Keep [] H H') : Scr K H' a xs := h.keep k fun _ _ => nin0
/-- a new object comes and is changed -/
theorem Scr.past {K : PySem.W.Frag} {H H1 H2 : Hp} {a p : Addr} {xs : List V} (h : Scr K H a xs) (n : H p = none) (k1 : Keep [] H H1) (k2 : Keep [p] H1 H2) : Scr K H2 a xs :=
  h.elim (fun ⟨o, e⟩ => .inl ⟨o, k2 _ _ (nin1 (ne_of_none e n)) (k1 _ _ nin0 e)⟩) .inr
theorem Scr.of {K : PySem.W.Frag} {H : Hp} {a : Addr} {xs : List V} (o : Only H) (h : SqL K H a xs) : Scr K H a xs := by
  rcases h with (h | h) | h
  · rcases o a with z | ⟨ob, ys, z⟩
    · exact nomatch z.symm.trans h
    · exact nomatch z.symm.trans h
  · exact .inl h
  · exact .inr h
theorem e_ten6 : (10 : Int) ^ (6 : Int).toNat = 1000000 := by decide
theorem e_ten18 : (10 : Int) ^ (18 : Int).toNat = 1000000000000000000 := by decide
theorem e_ten60 : (10 : Int) ^ (60 : Int).toNat = 10 ^ 60 := rfl
theorem len1 {α : Type} {a : α} : [a].length ≤ sizeLine := by show 1 ≤ sizeLine; decide
theorem len_le {n : Nat} (h : n ≤ 1000000) : n ≤ sizeLine := by
  rw [sizeLine_eq]
  omega
theorem len_lt {n : Nat} (h : n ≤ 1000000) : n < sizeLine := by
  rw [sizeLine_eq]
  omega
end Wg

/-! Wagon, part 8: comprehensions, places of texts in tuples, join, split. -/
namespace Wg
open PySem PySem.Spec PyProof.Rows L2

theorem Keep.past {S : List Addr} {H H1 H2 : Hp} {d : Addr} (k1 : Keep S H H1) (k2 : Keep [d] H1 H2) (n : H d = none) : Keep S H H2 := fun b o hb e =>
  k2 b o (nin1 (ne_of_none e n)) (k1 b o hb e)

/-! ### comprehensions -/
/-- n turns: acc is what is made so far, D the new list; R: what is wanted of an element, R0: of a turn without one -/
def CLoop (S : List Addr) (n : Nat) (it : Nat → V) (g : TG) (tt : TT) (te : TE) (vs : List Nat) (σ : L2.St) (H1 : Hp) (Q : VK) : Prop :=
  ∃ P : Nat → Hp → List V → Prop, (∀ D H2, H1 D = none → Keep [] H1 H2 → P 0 H2 []) ∧
    (∀ D i H acc (R : VK) (R0 : Hp → Prop), H1 D = none → i < n → Keep S H1 H → H D = some (.lst acc) → P i H acc →
      (∀ y H4, Keep S H H4 → acc.length < sizeLine → (∀ H5, Keep [D] H4 H5 → P (i + 1) H5 (acc ++ [y])) → R y H4) → (∀ H3, Keep S H H3 → P (i + 1) H3 acc → R0 H3) →
      g (it i) (wipe σ vs) H fun σ2 H2 => wipe σ2 vs = wipe σ vs ∧ tt σ2 H2 fun b H3 => if b = true then te σ2 H3 R else R0 H3) ∧
    ∀ D H acc, H1 D = none → Keep S H1 H → H D = some (.lst acc) → P n H acc → Q (.ref D) H
/-- what a comprehension asks behind its source's value -/
def CB (J : It) (g : TG) (tt : TT) (te : TE) (vs : List Nat) (σ : L2.St) (Q : VK) (H1 : Hp) : Prop := ∀ D, H1 D = none → ∃ W : Nat → Nat → Hp → Prop, (∃ m, W 0 m (upd H1 D (.lst []))) ∧ ∀ i m H, W i m H →
  (J.stop i H ∧ Q (.ref D) H) ∨ (J.go i H ∧ ∃ Nx : Hp → Prop, (∀ H', Nx H' → ∃ m', m' < m ∧ W (i + 1) m' H') ∧ ∀ x H', J.yld i H x H' → g x (wipe σ vs) H' fun σ2 H2 => wipe σ2 vs = wipe σ vs ∧ tt σ2 H2 fun b H3 =>
    if b = true then te σ2 H3 fun y H4 => ∃ acc, H4 D = some (.lst acc) ∧ acc.length < sizeLine ∧ Nx (upd H4 D (.lst (acc ++ [y]))) else Nx H3)
def CU (K : PySem.W.Frag) (g : TG) (tt : TT) (te : TE) (vs : List Nat) (σ : L2.St) (Q : VK) (x : V) (H1 : Hp) : Prop := iU K (tC x) σ H1 fun J H1 => CB J g tt te vs σ Q H1
theorem e_lcU {K : PySem.W.Frag} {tl : TE} {g : TG} {tt : TT} {te : TE} {vs : List Nat} {σ : L2.St} {H : Hp} {Q : VK} : tLc (iU K tl) g tt te vs σ H Q ↔ tl σ H (CU K g tt te vs σ Q) := Iff.rfl
def CR1 (g : TG) (tt : TT) (te : TE) (vs : List Nat) (σ : L2.St) (Q : VK) (xs : List V) (H1 : Hp) : Prop := ∃ j : Int, xs = [.int j] ∧ -(2 ^ 62) ≤ j ∧ j < 2 ^ 62 ∧ CB (Itr 0 j.toNat) g tt te vs σ Q H1
theorem e_lcR1 {ta : TA} {g : TG} {tt : TT} {te : TE} {vs : List Nat} {σ : L2.St} {H : Hp} {Q : VK} : tLc (iRng1 ta) g tt te vs σ H Q ↔ ta σ H (CR1 g tt te vs σ Q) := Iff.rfl
/-- from CLoop: J yields it i at turn i and stops at n, as long as what was there ahead is kept -/
theorem cb_of {S : List Addr} {n : Nat} {it : Nat → V} {J : It} {g : TG} {tt : TT} {te : TE} {vs : List Nat} {σ : L2.St} {H1 : Hp} {Q : VK} (hS : ∀ b ∈ S, ∃ o, H1 b = some o)
    (hgo : ∀ i H, i < n → Keep S H1 H → J.go i H) (hy : ∀ i H x H', i < n → Keep S H1 H → J.yld i H x H' → x = it i ∧ H' = H) (hst : ∀ H, Keep S H1 H → J.stop n H)
    (h : CLoop S n it g tt te vs σ H1 Q) : CB J g tt te vs σ Q H1 := by
  intro D hD
  obtain ⟨P, p0, ps, pd⟩ := h
  have nD : D ∉ S := fun z => by
    obtain ⟨o, e⟩ := hS D z
    exact nomatch hD.symm.trans e
  refine ⟨fun i m H => m = n - i ∧ i ≤ n ∧ Keep S H1 H ∧ ∃ acc, H D = some (.lst acc) ∧ P i H acc, ⟨n, by omega, by omega, (Keep.new hD).all, [], upd_same, p0 D _ hD (Keep.new hD)⟩, ?_⟩
  rintro i m H ⟨rfl, hi, k, acc, eD, p⟩
  by_cases hlt : i < n
  · refine .inr ⟨hgo i H hlt k, fun H' => i + 1 ≤ n ∧ Keep S H1 H' ∧ ∃ acc, H' D = some (.lst acc) ∧ P (i + 1) H' acc, fun H' q => ⟨n - (i + 1), by omega, rfl, q⟩, fun x H' y => ?_⟩
    obtain ⟨ex, eh⟩ := hy i H x H' hlt k y
    rw [ex, eh]
    exact ps D i H acc _ _ hD hlt k eD p (fun y H4 k4 z q => ⟨acc, k4 _ _ nD eD, z, hlt, (k.trans k4).past Keep.set hD, _, upd_same, q _ Keep.set⟩) fun H3 k3 q => ⟨hlt, k.trans k3, acc, k3 _ _ nD eD, q⟩
  · have e : i = n := by omega
    subst e
    exact .inl ⟨hst H k, pd D H acc hD k eD p⟩
theorem g_CR1 {S : List Addr} {g : TG} {tt : TT} {te : TE} {vs : List Nat} {σ : L2.St} {H1 : Hp} {Q : VK} {j : Int} (hS : ∀ b ∈ S, ∃ o, H1 b = some o) (b1 : -(2 ^ 62) ≤ j) (b2 : j < 2 ^ 62)
    (h : CLoop S j.toNat (fun i => .int (i : Nat)) g tt te vs σ H1 Q) : CR1 g tt te vs σ Q [.int j] H1 := by
  refine ⟨j, rfl, b1, b2, cb_of hS (fun i H hi _ => hi) (fun i H x H' hi _ y => ?_) (fun H _ => Nat.le_refl _) h⟩
  obtain ⟨e1, e2⟩ := y
  exact ⟨by rw [e2, Int.zero_add], e1⟩
theorem g_CL {S : List Addr} {K : PySem.W.Frag} {g : TG} {tt : TT} {te : TE} {vs : List Nat} {σ : L2.St} {H1 : Hp} {Q : VK} {a : Addr} {xs : List V} (hS : ∀ b ∈ S, ∃ o, H1 b = some o) (hx : H1 a = some (.lst xs)) (na : a ∉ S)
    (h : CLoop S xs.length (fun i => xs.getD i .non) g tt te vs σ H1 Q) : CU K g tt te vs σ Q (.ref a) H1 := by
  refine .inl ⟨a, xs, rfl, lst_sq hx, cb_of hS (fun i H hi k => ⟨xs, xs[i], lst_sq (k _ _ na hx), List.getElem?_eq_getElem hi⟩) (fun i H x H' hi k y => ?_) (fun H k => ⟨xs, lst_sq (k _ _ na hx), Nat.le_refl _⟩) h⟩
  obtain ⟨e1, e2⟩ := y
  have := e2 xs (lst_sq (k _ _ na hx))
  exact ⟨by rw [List.getD_eq_getElem?_getD, this]; rfl, e1⟩
theorem g_CT {S : List Addr} {K : PySem.W.Frag} {g : TG} {tt : TT} {te : TE} {vs : List Nat} {σ : L2.St} {H1 : Hp} {Q : VK} {a : Addr} {xs : List V} (hS : ∀ b ∈ S, ∃ o, H1 b = some o) (hx : Tup H1 a xs) (na : a ∉ S)
    (h : CLoop S xs.length (fun i => xs.getD i .non) g tt te vs σ H1 Q) : CU K g tt te vs σ Q (.ref a) H1 := by
  refine .inr (.inl ⟨a, xs, rfl, hx.sq, cb_of hS (fun i H hi k => ⟨xs, xs[i], (hx.keep k na).sq, List.getElem?_eq_getElem hi⟩) (fun i H x H' hi k y => ?_) (fun H k => ⟨xs, (hx.keep k na).sq, Nat.le_refl _⟩) h⟩)
  obtain ⟨e1, e2⟩ := y
  have := e2 xs (hx.keep k na).sq
  exact ⟨by rw [List.getD_eq_getElem?_getD, this]; rfl, e1⟩
theorem g_CS {S : List Addr} {K : PySem.W.Frag} {g : TG} {tt : TT} {te : TE} {vs : List Nat} {σ : L2.St} {H1 : Hp} {Q : VK} {z : Str} (hS : ∀ b ∈ S, ∃ o, H1 b = some o)
    (h : CLoop S z.cps.size (fun i => .str ⟨#[z.cps.getD i 0]⟩) g tt te vs σ H1 Q) : CU K g tt te vs σ Q (.str z) H1 := by
  refine .inr (.inr ⟨z, rfl, cb_of hS (fun i H hi k => hi) (fun i H x H' hi k y => ?_) (fun H k => Nat.le_refl _) h⟩)
  obtain ⟨e1, c, e2, e3⟩ := y
  refine ⟨?_, e1⟩
  rw [e3, Array.getD_eq_getD_getElem?, e2]
  rfl

/-! ### a text's place in a tuple of texts -/
section
variable {X : Cx} {o e : Expr} {to te : TE} {apos cpos : Pos}
def tIdx (K : PySem.W.Frag) (to : TE) (t : TA) : TE := fun σ H Q => to σ H fun x H1 => ∃ (a : Addr) (ys : List Str), x = .ref a ∧ Tup H1 a (ys.map V.str) ∧ t σ H1 fun vs H2 =>
  ∃ (z : Str) (j : Nat), vs = [.str z] ∧ Tup H2 a (ys.map V.str) ∧ ys[j]? = some z ∧ (∀ m, m < j → ys[m]? ≠ some z) ∧ Q (.int (j : Nat)) H2
theorem pe_idx {t : TA} (ho : PE X o to) (ha : PA X [e] t) (hbase : attributeBase o "index" X.env (eval o X.env) = eval o X.env := by rfl)
    (hfew : ((backTo cpos (starEach [e] X.env)).all (fun x => !x.1) && (backToKw cpos (keywordEach [] X.env)).all (fun x => x.1.isSome)
      && decide (([e] : List Expr).length + ([] : List Keyword).length + (if ([] : List Keyword).isEmpty then 0 else 1) < 30)) = true := by rfl)
    (hline : (apos.endLine == cpos.line) = true := by rfl) (hs : starEach [e] X.env = (false, eval e X.env) :: starEach [] X.env := by rfl) (hplain : (backTo cpos (starEach [] X.env)).any (·.1) = false := by rfl) :
    PE X (.Call (.Attribute o "index" apos) [e] [] cpos) (tIdx X.K to t) := by
  constructor
  intro pins s σ H Q I h
  have run := ho.run pins s σ H _ I h
  refine wpAny_Call_method_late hbase hfew hline rfl (thn run fun v s1 w => ?_)
  obtain ⟨x, H1, I1, r1, a, ys, rfl, tu, q1⟩ := w
  cases r1
  obtain ⟨its, n, rv, z, hob⟩ := tu.obj I1
  refine ⟨"tuple", "tuple.index", PySem.F.plainAttrs_tuple, PySem.F.slot_tuple_index, PySem.F.type_tuple_index, ⟨_, hob, rfl⟩, fun b e => ?_, ?_⟩
  · cases e
    exact ⟨_, hob, rfl⟩
  have args := ha.run cpos pins s1 σ H1 _ I1 q1
  rw [hs] at args ⊢
  refine Calls.callWith_builtin (by show (false || (backTo cpos (starEach [] X.env)).any (·.1)) = false; rw [hplain] <;> rfl) (Calls.evalArgs_plain ?_)
  refine thn args fun us s2 y => ?_
  obtain ⟨vs, H2, I2, r2, zz, j, rfl, t2, ej, em, q2⟩ := y
  exact mt_tup_index pins s2 σ H2 (.ref a) [.str zz] (.ref a) us Q I2 rfl r2 ⟨a, ys, zz, j, rfl, rfl, t2.sq, ej, em, q2⟩
end

/-! ### texts -/
section
variable {X : Cx} {o e : Expr} {to te : TE} {apos pos : Pos}
def uJoin (K : PySem.W.Frag) : V → List V → Hp → VK → Prop := fun x xs H Q => ∃ a p, ∃ ys : List Str, x = .str a ∧ xs = [.ref p] ∧ (SqL K H p (ys.map V.str) ∨ SqT K H p (ys.map V.str)) ∧ (ys.map (·.length)).sum + ys.length * a.length ≤ 16777216 ∧ Q (.str (Txt.join a ys)) H
theorem pe_uJoin (ho : PE X o to) (he : PE X e te) (hs : starEach [e] X.env = [(false, eval e X.env)] := by rfl) (hbase : attributeBase o "join" X.env (eval o X.env) = eval o X.env := by rfl) (hline : (apos.endLine == pos.line) = true := by rfl) :
    PE X (.Call (.Attribute o "join" apos) [e] [] pos) (tM1 (uJoin X.K) to te) := pe_join ho he hs hbase hline
def uSplit : V → List V → Hp → VK → Prop := fun x xs H Q => ∃ a b, x = .str a ∧ xs = [.str b] ∧ (b.length == 0) = false ∧ a.length + 2 ≤ sizeLine ∧ Mk H (.lst ((Txt.split a b).map V.str)) Q
theorem mt_uSplit : MtR X "str.split" uSplit := by
  intro pins s σ H x xs v us Q I rx rs h
  obtain ⟨a, b, e1, e2, h1, h2, q⟩ := h
  exact mt_split pins s σ H x xs v us Q I rx rs ⟨a, b, e1, e2, h1, h2, fun p n => q.at p n⟩
theorem pe_uSplit (ho : PE X o to) (he : PE X e te) (hs : starEach [e] X.env = [(false, eval e X.env)] := by rfl) (hbase : attributeBase o "split" X.env (eval o X.env) = eval o X.env := by rfl) (hline : (apos.endLine == pos.line) = true := by rfl) :
    PE X (.Call (.Attribute o "split" apos) [e] [] pos) (tM1 uSplit to te) := pe_m1 PySem.F.slot_str_split PySem.F.type_str_split mt_uSplit ho he hs hbase hline
end
end Wg

/-! Wagon, part 9: list(reversed(list)). -/
namespace Wg
open PySem PySem.Spec PyProof.Rows L2
section
variable {prog : Program} {w : World} {A : Around} {E : Value → Shared → Prop} {s : Shared}
/-- what a new list takes out of a list walked from behind -/
theorem takes_back {it l S : Addr} {items : Array Value} {R : Result → Shared → Prop} (hh : A.handled = none) (hit : s.heap.IsRevIter it l ((items.size : Int) - 1)) (hl : s.heap.IsList l items) (hne : l ≠ it) (hn : items.size ≤ sizeLine)
    (hSi : S ≠ it) (hSl : S ≠ l) (hS : s.heap.get? S = some { cls := .type "list", data := .seq #[] })
    (hR : ∀ (h' : Heap) (tk : Nat) (acc : Array Value) (c' : Nat), (∀ b o, b ≠ S → b ≠ it → s.heap.get? b = some o → h'.get? b = some o) → h'.get? S = some { cls := .type "list", dict := none, data := .seq acc c', slots := #[] } →
      ItemsOf (fun i v => items[items.size - 1 - i]? = some v) acc items.size → R (.ok (.ret .none)) { s with heap := h', toks := tk }) :
    wpAny (model prog w) A.in1 (Builtin.«list.__init__» ⟨[.ref S, .ref it], []⟩)
      (fun fin s' => match fin with | .done f => R (.ok f) s' | .again c' => c'.quiet = true ∧ codeAny (model prog w) A c' R s') (fun e s' => R (.error e) s') s := by
  have W := (Walks.listRev (prog := prog) (w := w) (A := A.in1) hh it l hne items).toS
  have hSf : S ∉ [it, l] := by simp only [List.mem_cons, List.not_mem_nil, or_false, not_or]; exact ⟨hSi, hSl⟩
  show wpAny _ A.in1 (do let old ← Builtin.List.listItems (.ref S); Builtin.List.listUpdate (.ref S) (fun _ => #[]); letGo old.toList.reverse; Builtin.List.listExtendWith (.ref S) (.ref it) .none) _ _ s
  refine wpAny_bind ?_
  unfold Builtin.List.listItems
  refine wpAny_bind (wpAny_seqItems hS rfl (wpAny_pure ?_))
  show wpAny _ A.in1 (updateSeq S (fun _ => #[]) >>= fun _ => letGo (#[] : Array Value).toList.reverse >>= fun _ => Builtin.List.listExtendWith (.ref S) (.ref it) .none) _ _ s
  refine wpAny_bind (wpAny_updateSeq hS rfl ?_)
  have hS₂ := Heap.get?_update_self (Obj.mapSeq (fun _ => (#[] : Array Value))) hS rfl
  have oth₂ : ∀ b o, b ≠ S → s.heap.get? b = some o → (s.heap.update S (Obj.mapSeq (fun _ => (#[] : Array Value)))).get? b = some o := fun b o hb e => (Heap.get?_update_other _ _ (Ne.symm hb)).trans e
  refine wpAny_bind (wpAny_letGo ?_)
  have hit2 := hit.at (h' := s.heap.update S (Obj.mapSeq (fun _ => (#[] : Array Value)))) fun o e => oth₂ it o (Ne.symm hSi) e
  have hl2 : (s.heap.update S (Obj.mapSeq (fun _ => (#[] : Array Value)))).IsList l items := hl.at fun o e => oth₂ l o (Ne.symm hSl) e
  have hT : ({ s with heap := s.heap.update S (Obj.mapSeq (fun _ => (#[] : Array Value))) } : Shared).TypeIs (.ref it) "list_reverseiterator" := Heap.IsRevIter.typeIs (s := { s with heap := s.heap.update S (Obj.mapSeq (fun _ => (#[] : Array Value))) }) hit2
  have h1 : Builtin.List.listSameRef (.ref S) (.ref it) = false := by simp [Builtin.List.listSameRef, hSi]
  unfold Builtin.List.listExtendWith
  refine wpAny_bind (wpAny_typeOf hT ?_)
  rw [if_neg (by rw [h1]; decide)]
  refine wpAny_bind (wpAny_pyIter_revIter (s := { s with heap := s.heap.update S (Obj.mapSeq (fun _ => (#[] : Array Value))) }) hit2 ?_)
  refine wpAny_bind (wpAny_holding ?_)
  unfold Builtin.List.listLengthHint
  refine wpAny_bind (wpAny_specialOf hT RT.nolen_lri ?_)
  show wpAny _ A.in1 (specialOf (Value.ref it) (Str.ofString "__length_hint__") >>= _) _ _ _
  refine wpAny_bind (wpAny_specialOf hT RT.hint_lri ?_)
  generalize hid : ("list_reverseiterator.__length_hint__" : String) = id0
  wp_delta
  rw [show splitId id0 = some ("list_reverseiterator", "__length_hint__") from by subst hid; decide +kernel]
  subst hid
  refine wpAny_bind (wpAny_isInstance (b := true) hT (by rw [isSubtype_type]; kernel_rfl) ?_)
  refine wpAny_pure ?_
  rw [if_neg (by decide)]
  have e0 : ((items.size : Nat) : Int) - 1 - ((0 : Nat) : Int) = (items.size : Int) - 1 := by omega
  refine wpAny_pure ⟨plainId_quiet F.plain_extend_loop _, codeAny_extend_loopS W hn _ hSf _ items.size 0 _ _ _ rfl (Nat.zero_le _) ⟨Nat.zero_le _, by rw [e0]; exact hit2, hl2⟩ hS₂ (ItemsOf.nil _) fun s' acc' c' hm hS' hacc => ?_⟩
  rw [Moved.eq_with hm]
  refine hR s'.heap s'.toks acc' c' (fun b o h1 h2 e => hm.heap b o (fun hmem => ?_) (oth₂ b o h1 e)) hS' hacc
  rcases List.mem_cons.mp hmem with e' | hmem
  · exact h1 e'
  · exact h2 (List.mem_singleton.mp hmem)
theorem call_list_back {it l : Addr} {items : Array Value} {Q : Value → Shared → Prop} (hh : A.handled = none) (hit : s.heap.IsRevIter it l ((items.size : Int) - 1)) (hl : s.heap.IsList l items) (hne : l ≠ it) (hn : items.size ≤ sizeLine)
    (hQ : ∀ (h' : Heap) (tk : Nat) (acc : Array Value) (c' : Nat), (∀ b o, b ≠ it → s.heap.get? b = some o → h'.get? b = some o) → h'.get? s.heap.objs.size = some { cls := .type "list", dict := none, data := .seq acc c', slots := #[] } →
      ItemsOf (fun i v => items[items.size - 1 - i]? = some v) acc items.size → Q (.ref s.heap.objs.size) { s with heap := h', toks := tk }) :
    wpAny (model prog w) A (call (.type "list") [.ref it]) Q E s := by
  obtain ⟨oi, hoi, _⟩ := id hit
  obtain ⟨ol, hol, _⟩ := id hl
  have hSi : s.heap.objs.size ≠ it := Nat.ne_of_gt (Heap.lt_size hoi)
  have hSl : s.heap.objs.size ≠ l := Nat.ne_of_gt (Heap.lt_size hol)
  refine callType_codes (Q₁ := fun obj s₁ => obj = .ref s.heap.objs.size ∧ s₁ = { s with heap := s.heap.push { cls := .type "list", data := .seq #[] } }) F.called_list (F.typeCall_list_1 _) F.entry_list_init
    (code_list_new _ ⟨rfl, rfl⟩) fun obj s₁ h₁ => ?_
  obtain ⟨rfl, rfl⟩ := h₁
  have hS : (s.heap.push { cls := .type "list", data := .seq #[] }).get? s.heap.objs.size = some { cls := .type "list", data := .seq #[] } := Heap.get?_push_size _ rfl
  refine ⟨⟨_, hS, rfl⟩, F.args_list_init_2 _ _, takes_back (s := { s with heap := s.heap.push { cls := .type "list", data := .seq #[] } }) (A := A.in1) hh (hit.at fun o e => Heap.get?_push_of_some _ e) (hl.push _) hne hn hSi hSl hS fun h' tk acc c' hk hS' hacc => ?_⟩
  refine ⟨rfl, hQ h' tk acc c' (fun b o hb e => hk b o (fun e' => absurd (Heap.lt_size e) (by rw [e']; exact Nat.lt_irrefl _)) hb (Heap.get?_push_of_some _ e)) hS' hacc⟩
end
def uLRev (K : PySem.W.Frag) (te : TE) : TE := fun σ H Q => te σ H fun x H1 => ∃ p ys, x = .ref p ∧ SqL K H1 p ys ∧ Mk H1 (.lst ys.reverse) Q
section
variable {X : Cx}
theorem pe_uLRev {e : Expr} {te : TE} {p p2 pos pos2 : Pos} (hc : X.calm = true) (hg : Gl X "list") (hm : X.mg "list" = none) (hg2 : Gl X "reversed") (hm2 : X.mg "reversed" = none) (he : PE X e te)
    (hs : starEach [e] X.env = (false, eval e X.env) :: starEach [] X.env := by rfl)
    (hs2 : starEach [.Call (.Name "reversed" p2) [e] [] pos2] X.env = (false, eval (.Call (.Name "reversed" p2) [e] [] pos2) X.env) :: starEach [] X.env := by rfl) :
    PE X (.Call (.Name "list" p) [.Call (.Name "reversed" p2) [e] [] pos2] [] pos) (uLRev X.K te) := by
  refine ⟨fun pins s σ H Q I h => ?_⟩
  refine Call_ (ld_blt I hg hm boot_list (PyProof.Rows.callWith_type1 (args_cons (Call_ (ld_blt I hg2 hm2 PyProof.Rows.boot_reversed (PyProof.Rows.callWith_type1 (args_cons (thn (he.run pins s σ H _ I h) fun u s1 ⟨v, H1, I1, r1, q1⟩ => args_nil ?_) hs) hs rfl))) hs2) hs2 rfl))
  obtain ⟨a, xs, ev, hq, q⟩ := q1
  subst ev
  obtain rfl : u = Value.ref a := r1
  obtain ⟨its, rv, p', hz⟩ := I1.list hq
  refine call_reversed_list p'.isList (args_nil ?_)
  have hl := p'.isList
  obtain ⟨ol, hol, _⟩ := id hl
  have hne : a ≠ s1.heap.objs.size := Nat.ne_of_lt (Heap.lt_size hol)
  have hn : its.toArray.size ≤ sizeLine := by rw [List.size_toArray, ← rv.length]; exact hz
  have hsz : (s1.heap.push (revObj a ((its.toArray.size : Int) - 1))).objs.size = s1.heap.objs.size + 1 := by simp [Heap.push]
  refine call_list_back (s := { s1 with heap := s1.heap.push (revObj a ((its.toArray.size : Int) - 1)) }) (I1.ok.hd hc) ⟨_, Heap.get?_push_size _ rfl, rfl, rfl⟩ (hl.push _) hne hn fun h' tk acc c' hk hS hi => ?_
  have k0 : ∀ b o, s1.heap.get? b = some o → h'.get? b = some o := fun b o e => hk b o (Nat.ne_of_lt (Heap.lt_size e)) (Heap.get?_push_of_some _ e)
  have le : s1.heap.objs.size ≤ (s1.heap.push (revObj a ((its.toArray.size : Int) - 1))).objs.size := by rw [hsz]; exact Nat.le_succ _
  refine ⟨.ref _, upd H1 _ (.lst xs.reverse), I1.laid (t' := tk) k0 le (show ObjOk X.prog X.w _ h' _ (.lst xs.reverse) from ⟨by rw [List.length_reverse]; exact hz, acc.toList, c', RT.vals_rev rv hi, ?_⟩), rfl, q.at _ (I1.hok.fresh le)⟩
  rw [Array.toArray_toList]
  exact hS
end
theorem g_lrev {K : PySem.W.Frag} {p : Addr} {ys : List V} {H : Hp} {Q : VK} (h : SqL K H p ys) (q : ∀ l H', H l = none → Keep [] H H' → H' l = some (.lst ys.reverse) → Q (.ref l) H') : ∃ p' ys', V.ref p = .ref p' ∧ SqL K H p' ys' ∧ Mk H (.lst ys'.reverse) Q := ⟨p, ys, rfl, h, q⟩
end Wg

/-! Wagon, part 10: {i: j}. -/
namespace Wg
open PySem PySem.Spec PyProof.Rows L2
section
variable {X : Cx} {pos : Pos}
def tDicI (i j : Int) : TE := fun _ H Q => Mk H (.dK [(.inl i, .int j)]) Q
theorem pe_dicI {k v : Expr} {i j : Int} (hk : PE X k (tC (.int i))) (hv : PE X v (tC (.int j))) : PE X (.Dict [some k] [v] pos) (tDicI i j) := by
  constructor
  intro pins s σ H Q I q
  refine (pe_disp (pps_cons hk hv pps_nil) rfl rfl (by simp) (by simp)).run pins s σ H Q I fun p n => ?_
  refine ⟨upd_same, [(.inl i, .int j)], rfl, by simp, ?_⟩
  rw [upd_upd]
  exact q.at p n
end
end Wg

/-! Wagon, part 11: enumerate(tuple), min of a list. -/
namespace Wg
open PySem PySem.Spec PyProof.Rows L2
theorem en_new (l : Addr) (items : Array Value) (n : Nat) (dct : Option Addr) (sl : Array (Option Value)) :
    Meets (Builtin.«enumerate.__new__» ⟨[.type "enumerate", .ref l], []⟩) (fun _ R s => s.heap.get? l = some { cls := .type "tuple", dict := dct, data := .seq items n, slots := sl } ∧
      R (.ok (.ret (.ref (s.heap.push { cls := .type "tuple_iterator", data := .fields #[.ref l, .int 0 0] }).objs.size)))
        { s with heap := (s.heap.push { cls := .type "tuple_iterator", data := .fields #[.ref l, .int 0 0] }).push { cls := .type "enumerate", data := .fields #[.none, .bool false, .ref s.heap.objs.size, rawInt 0, .none, .none] } }) :=
  .of_wp fun prog w A R s h => by
    obtain ⟨hp, g, d, tk, os⟩ := s
    obtain ⟨hl, h⟩ := h
    have hsub := sub_enumerate
    have hL : Heap.IsTuple (Shared.heap ⟨hp, g, d, tk, os⟩) l items := ⟨_, hl, rfl, n, rfl⟩
    wp_walk using AutoSeq1.wpAny_loadPart' hl
    refine wpAny_stack_any fun st => wpAny_pure ?_
    split
    · rename_i c _ _ _ _ _
      cases (c == Value.type "enumerate")
      · wp_walk using AutoSeq1.wpAny_loadPart' hl, wpAny_pyIter_tuple hL
        exact ⟨_, rfl, h⟩
      · wp_walk using AutoSeq1.wpAny_loadPart' hl, wpAny_pyIter_tuple hL
        exact ⟨_, rfl, h⟩
    · wp_walk using AutoSeq1.wpAny_loadPart' hl, wpAny_pyIter_tuple hL
      exact ⟨_, rfl, h⟩
section
variable {prog : Program} {w : World} {A : Around} {E : Value → Shared → Prop} {s : Shared}
theorem call_en {l : Addr} {items : Array Value} {Q : Value → Shared → Prop} (hL : s.heap.IsTuple l items)
    (h : ∀ h', IsEnum h' (s.heap.objs.size + 1) s.heap.objs.size 0 .none → h'.IsTupleIter s.heap.objs.size l 0 → h'.objs.size = s.heap.objs.size + 2 →
      (∀ b o, s.heap.get? b = some o → h'.get? b = some o) → Q (.ref (s.heap.objs.size + 1)) { s with heap := h' }) :
    wpAny (model prog w) A (call (.type "enumerate") [.ref l]) Q E s := by
  obtain ⟨⟨c, dct, dt, sl⟩, hl, hc, n, hd⟩ := hL
  replace hc : c = .type "tuple" := hc
  replace hd : dt = .seq items n := hd
  subst hc hd
  refine callType_new F.called_enumerate (by decide) (F.typeCall_enumerate_1 _) (F.newCall_enumerate_1 _) (fun obj => F.args_object_init_2 obj _) F.entry_enumerate_new
    (en_new l items n dct sl) ⟨hl, ?_⟩
  have hz : (s.heap.push { cls := .type "tuple_iterator", data := .fields #[.ref l, .int 0 0] }).objs.size = s.heap.objs.size + 1 := Heap.size_push ..
  show _ ∧ _
  rw [hz]
  have he : IsEnum ((s.heap.push { cls := .type "tuple_iterator", data := .fields #[.ref l, .int 0 0] }).push
      { cls := .type "enumerate", data := .fields #[.none, .bool false, .ref s.heap.objs.size, rawInt 0, .none, .none] }) (s.heap.objs.size + 1) s.heap.objs.size 0 .none := by
    have := Heap.get?_push_size (s.heap.push { cls := .type "tuple_iterator", data := .fields #[.ref l, .int 0 0] })
      (o := { cls := .type "enumerate", data := .fields #[.none, .bool false, .ref s.heap.objs.size, rawInt 0, .none, .none] }) rfl
    rw [hz] at this
    exact this
  exact ⟨⟨_, he, rfl⟩, h _ he ⟨_, Heap.get?_push_of_some _ (Heap.get?_push_size _ rfl), rfl, rfl⟩ (by rw [Heap.size_push, hz]) fun b o x => Heap.get?_push_of_some _ (Heap.get?_push_of_some _ x)⟩
end
/-- a tuple's items in new pairs -/
def Itn (a : Addr) (xs : List V) : It :=
  ⟨fun i H => i < xs.length ∧ Tup H a xs, fun i H v H' => ∃ T x, v = .ref T ∧ H T = none ∧ H' = upd H T (.tup [.int (i : Nat), x]) ∧ xs[i]? = some x, fun i H => i = xs.length ∧ Tup H a xs⟩
theorem turn_en {P : Program} {w : World} {K : PySem.W.Frag} {elts : List Expr} {kk : Nat} {tpos : Pos} (a e it : Addr) (xs : List V) :
    Turn P w K (.Tuple elts kk tpos) (Itn a xs) [e, it] e (fun i h => (∃ old, IsEnum h e it ((i : Nat) : Int) old) ∧ h.IsTupleIter it a i ∧ e ≠ it ∧ a ≠ it ∧ a ≠ e) where
  mem := by simp
  obj := fun i h st b hb => by
    obtain ⟨⟨old, he⟩, ⟨o, ho, hc, hd⟩, _⟩ := st
    have e' : b = e ∨ b = it := by simpa using hb
    rcases e' with z | z
    · rw [z]; exact ⟨_, he, fun v q => nomatch q⟩
    · rw [z]; exact ⟨o, ho, fun v q => by rw [hd] at q; cases q⟩
  keep := fun i h h' st k => let ⟨⟨old, he⟩, hi, hne⟩ := st; ⟨⟨old, k e (by simp) _ he⟩, hi.at fun o q => k it (by simp) o q, hne⟩
  item := by
    intro X hP hw hK hc i pins s σ H E I hf st hg
    subst hP hw hK
    obtain ⟨⟨old, he⟩, hit, hne, hai, hae⟩ := st
    obtain ⟨hin, tu⟩ := hg
    obtain ⟨its, rv, p, hz⟩ := I.tuple (tu.sq (K := X.K))
    have hl := rv.length
    have hel : e < s.heap.objs.size := Heap.lt_size he
    have hil : it < s.heap.objs.size := by obtain ⟨_, q, _⟩ := hit; exact Heap.lt_size q
    have D := Draws.tuple (prog := X.prog) (w := X.w) (A := X.A.in1) (I.ok.hd hc) it a hai its.toArray
    have hta : s.heap.IsTuple a its.toArray := p
    refine wpAny_pyNext_enum_itemD D he ⟨hit, hta⟩ (by simp; omega) hne (by simp [hne, Ne.symm hae]) fun x h' tk hP ho hs' hT hsz hk => ?_
    obtain ⟨hit', _⟩ := hs'
    refine ⟨_, rfl, wpAny_letOwnedTupleGo_enum (s := { s with heap := h', toks := tk + 1 }) ho fun h'' he' sb => ?_⟩
    have hT2 : h''.get? s.heap.objs.size = some { cls := .type "tuple", data := .seq #[.int i tk, x] } := (sb.2 _ (Nat.ne_of_gt hel)).trans hT
    have hxi : its[i]? = some x := by simpa using hP
    obtain ⟨u, hu, ru⟩ : ∃ u, xs[i]? = some u ∧ RelV u x := by
      obtain ⟨x', h1, h2⟩ := rv.get (List.getElem?_eq_getElem hin)
      rw [hxi] at h1
      cases h1
      exact ⟨_, List.getElem?_eq_getElem hin, h2⟩
    have new : ObjOk X.prog X.w (upd H s.heap.objs.size (.tup [.int (i : Nat), u])) h'' s.heap.objs.size (.tup [.int (i : Nat), u]) :=
      ⟨by show 2 ≤ sizeLine; decide, [.int i tk, x], .cons ⟨_, rfl⟩ (.cons ru .nil), ⟨_, hT2, rfl, _, rfl⟩⟩
    have I1 : Inv X pins σ (upd H s.heap.objs.size (.tup [.int (i : Nat), u])) { s with heap := h'', toks := tk + 1 } :=
      I.turnedNew (ch := [e, it]) (fun b ob hb q => (sb.2 b (fun z => hb (by simp [z]))).trans (hk b ob (fun z => hb (by simp [z])) (fun z => hb (by simp [z])) q)) hf (Nat.le_refl _) new
    refine ⟨.ref s.heap.objs.size, _, I1, rfl, ⟨_, u, rfl, I.hok.fresh (Nat.le_refl _), rfl, hu⟩, ⟨⟨x, ?_⟩, hit'.at fun o q => (sb.2 it (Ne.symm hne)).trans q, hne, hai, hae⟩, fun b hb => ?_⟩
    · have e1 : ((i + 1 : Nat) : Int) = (i : Int) + 1 := by omega
      rw [e1]
      exact he'
    · have hb' : b < s.heap.objs.size := by
        have e' : b = e ∨ b = it := by simpa using hb
        rcases e' with z | z
        · rw [z]; exact hel
        · rw [z]; exact hil
      rw [upd_ne (Nat.ne_of_lt hb')]
      exact (hf b hb).1
  done := by
    intro X hP hw hK hc i pins s σ H E I hf st hg
    subst hP hw hK
    obtain ⟨⟨old, he⟩, hit, hne, hai, hae⟩ := st
    obtain ⟨hin, tu⟩ := hg
    obtain ⟨its, rv, p, hz⟩ := I.tuple (tu.sq (K := X.K))
    have hl := rv.length
    have hta : s.heap.IsTuple a its.toArray := p
    obtain ⟨f0, f1, f2, f3, f4, f5⟩ := hf it (by simp)
    have D := Draws.tuple (prog := X.prog) (w := X.w) (A := X.A.in1) (I.ok.hd hc) it a hai its.toArray
    have hn : its.toArray.size = i := by simp; omega
    exact wpAny_pyNext_enum_endD D he (by rw [hn]; exact ⟨hit, hta⟩) fun h' eb => ⟨rfl, I.turned (t' := s.toks) (fun b o hb q => eb b o hb q) f0 f1 f3 f4 f5⟩
  self := fun A i s Q E st h => let ⟨⟨_, he⟩, _⟩ := st; wpAny_pyIter_enum he h
def iEnumU (K : PySem.W.Frag) (ta : TA) : TI := fun σ H R => ta σ H fun vs H1 => ∃ a xs, vs = [.ref a] ∧ Tup H1 a xs ∧ R (Itn a xs) H1
theorem pi_enumU {X : Cx} {e : Expr} {ta : TA} {p pos tpos : Pos} {elts : List Expr} {kk : Nat} (hg : Gl X "enumerate") (hm : X.mg "enumerate" = none) (ha : PA X [e] ta) (hs : starEach [e] X.env = [(false, eval e X.env)] := by rfl) :
    PI X (.Tuple elts kk tpos) (.Call (.Name "enumerate" p) [e] [] pos) (iEnumU X.K ta) := by
  refine ⟨fun pins s σ H R I h => ?_⟩
  refine Call_ (ld_blt I hg hm boot_enumerate (PyProof.Rows.callWith_type1 (thn (ha.run pos pins s σ H _ I h) fun us s1 ⟨vs, H1, I1, r1, q1⟩ => ?_) hs rfl))
  obtain ⟨a, xs, ex, tu, q⟩ := q1
  subst ex
  cases r1 with
  | cons r rr =>
    cases rr
    cases r
    obtain ⟨its, rv, p', hz⟩ := I1.tuple (tu.sq (K := X.K))
    have hta : s1.heap.IsTuple a its.toArray := p'
    have hal : a < s1.heap.objs.size := by obtain ⟨_, q, _⟩ := hta; exact Heap.lt_size q
    refine call_en hta fun h' he hit hsz hk => wpAny_pyIter_enum he ?_
    have I2 : Inv X pins σ H1 { s1 with heap := h' } := I1.kept (t' := s1.toks) hk
    refine ⟨s1.heap.objs.size + 1, [s1.heap.objs.size + 1, s1.heap.objs.size], _, _, H1, rfl, I2, turn_en a (s1.heap.objs.size + 1) s1.heap.objs.size xs, ⟨⟨.none, he⟩, hit, Nat.succ_ne_self _, Nat.ne_of_lt hal, Nat.ne_of_lt (Nat.lt_succ_of_lt hal)⟩, fun b hb => ?_, q⟩
    have e' : b = s1.heap.objs.size + 1 ∨ b = s1.heap.objs.size := by simpa using hb
    have hle : s1.heap.objs.size ≤ b := by
      rcases e' with z | z
      · rw [z]; exact Nat.le_add_right _ _
      · rw [z]; exact Nat.le_refl _
    exact I1.fpOk hle (I1.hok.fresh hle)
/-- a for over enumerate(tuple), behind its argument -/
def FE (g : TG) (tb : TS) (D : Ends) (σ : L2.St) (vs : List V) (H1 : Hp) : Prop := ∃ a xs, vs = [.ref a] ∧ Tup H1 a xs ∧ ∃ W : Nat → Nat → L2.St → Hp → Prop, (∃ m, W 0 m σ H1) ∧ ∀ i m σ H, W i m σ H →
  ((Itn a xs).stop i H ∧ D.nx σ H) ∨ ((Itn a xs).go i H ∧ ∃ N : L2.St → Hp → Prop, (∀ σ' H', N σ' H' → ∃ m', m' < m ∧ W (i + 1) m' σ' H') ∧ ∀ x H', (Itn a xs).yld i H x H' → g x σ H' fun σ2 H2 => tb { D with nx := N, ct := N, bk := D.nx } σ2 H2)
theorem e_forE {K : PySem.W.Frag} {ta : TA} {g : TG} {tb : TS} {D : Ends} {σ : L2.St} {H : Hp} : tFor (iEnumU K ta) g tb D σ H ↔ ta σ H (FE g tb D σ) := Iff.rfl
theorem g_FE {g : TG} {tb : TS} {D : Ends} {σ : L2.St} {H1 : Hp} {a : Addr} {xs : List V} (Pv : Nat → L2.St → Hp → Prop) (h : Tup H1 a xs) (h0 : Pv 0 σ H1) (hl : ∀ i σ H, i ≤ xs.length → Pv i σ H → Tup H a xs)
    (hs : ∀ i x σ H T H', xs[i]? = some x → Pv i σ H → H T = none → Keep [] H H' → H' T = some (.tup [.int (i : Nat), x]) → g (.ref T) σ H' fun σ2 H2 => tb { D with nx := Pv (i + 1), ct := Pv (i + 1), bk := D.nx } σ2 H2) (hd : ∀ σ H, Pv xs.length σ H → D.nx σ H) : FE g tb D σ [.ref a] H1 := by
  refine ⟨a, xs, rfl, h, fun i m σ H => m = xs.length - i ∧ i ≤ xs.length ∧ Pv i σ H, ⟨xs.length, by simp, Nat.zero_le _, h0⟩, ?_⟩
  rintro i m σ H ⟨rfl, hi, p⟩
  have tu := hl i σ H hi p
  by_cases hlt : i < xs.length
  · refine .inr ⟨⟨hlt, tu⟩, Pv (i + 1), fun σ' H' p' => ⟨xs.length - (i + 1), by omega, rfl, hlt, p'⟩, fun x H' y => ?_⟩
    obtain ⟨T, u, rfl, nT, rfl, hu⟩ := y
    exact hs i u σ H T _ hu p nT (Keep.new nT) upd_same
  · have e : i = xs.length := by omega
    subst e
    exact .inl ⟨⟨rfl, tu⟩, hd σ H p⟩
theorem g_pair {K : PySem.W.Frag} {p : Addr} {xs : List V} {n : Nat} {t : TGs} {σ : L2.St} {H : Hp} {Q : L2.St → Hp → Prop} (h : H p = some (.tup xs)) (l : xs.length = n) (q : t xs σ H Q) : gTup K n t (.ref p) σ H Q := ⟨p, xs, rfl, .inl (.inl h), l, q⟩
/-- l[::-1] -/
theorem g_revl {K : PySem.W.Frag} {p : Addr} {ys : List V} {H : Hp} {Q : VK} (h : SqL K H p ys) (q : ∀ l H', H l = none → Keep [] H H' → H' l = some (.lst ys.reverse) → Q (.ref l) H') : ∃ a xs, V.ref p = .ref a ∧ SqL K H a xs ∧ ∀ l, H l = none → Q (.ref l) (upd H l (.lst xs.reverse)) :=
  ⟨p, ys, rfl, h, fun l n => q l _ n (Keep.new n) upd_same⟩
/-- min(list of numbers) -/
theorem g_min {K : PySem.W.Frag} {a : Addr} {ns : List Int} {H : Hp} {Q : VK} (h : H a = some (.lst (ns.map V.int))) (l : 0 < ns.length) (q : ∀ m, m ∈ ns → (∀ y, y ∈ ns → m ≤ y) → Q (.int m) H) : rMin K [.ref a] H Q := ⟨a, ns, rfl, lst_sq h, l, q⟩
end Wg

/-! Wagon, part 12: pop, reverse, extend, zip of two tuples in a comprehension. -/
namespace Wg
open PySem PySem.Spec PyProof.Rows L2 RZ
section
variable {X : Cx}
def uPopAt : V → List V → Hp → VK → Prop := fun x vs H Q => ∃ l xs i k y, x = .ref l ∧ vs = [.int i] ∧ H l = some (.lst xs) ∧ -(2 ^ 63) ≤ i ∧ i < 2 ^ 63 ∧ seqIndex? i xs.length = some k ∧ xs[k]? = some y ∧ Ch H l (.lst (xs.eraseIdx k)) (Q y)
theorem mt_uPopAt : MtM X "list.pop" uPopAt := by
  intro pins s σ H x vs v us Q I rx rv h
  obtain ⟨l, xs, i, k, y, e1, e2, e3, e4, e5, e6, e7, q⟩ := h
  exact mt_popAt pins s σ H x vs v us Q I rx rv ⟨l, xs, i, k, y, e1, e2, e3, e4, e5, e6, e7, q.at⟩
def uReverse : V → List V → Hp → VK → Prop := fun x vs H Q => ∃ l xs, x = .ref l ∧ vs = [] ∧ H l = some (.lst xs) ∧ Ch H l (.lst xs.reverse) (Q .non)
theorem mt_uReverse : MtM X "list.reverse" uReverse := by
  intro pins s σ H x vs v us Q I rx rv h
  obtain ⟨l, xs, e1, e2, e3, q⟩ := h
  exact mt_reverse pins s σ H x vs v us Q I rx rv ⟨l, xs, e1, e2, e3, q.at⟩
def uExtend : V → List V → Hp → VK → Prop := fun x vs H Q => ∃ l b xs zs, x = .ref l ∧ vs = [.ref b] ∧ H l = some (.lst xs) ∧ H b = some (.lst zs) ∧ xs.length + zs.length ≤ sizeLine ∧ Ch H l (.lst (xs ++ zs)) (Q .non)
theorem mt_uExtend : MtM X "list.extend" uExtend := by
  intro pins s σ H x vs v us Q I rx rv h
  obtain ⟨l, b, xs, zs, e1, e2, e3, e4, e5, q⟩ := h
  exact mt_extend pins s σ H x vs v us Q I rx rv ⟨l, b, xs, zs, e1, e2, e3, e4, e5, q.at⟩
end
theorem g_popAt {l : Addr} {xs : List V} {i : Int} {k : Nat} {y : V} {H : Hp} {Q : VK} (h : H l = some (.lst xs)) (e : i = (k : Int)) (hk : k < xs.length) (hb : xs.length ≤ 1000) (hy : xs[k]? = some y) (q : ∀ H', Keep [l] H H' → H' l = some (.lst (xs.eraseIdx k)) → Q y H') : uPopAt (.ref l) [.int i] H Q := by
  refine ⟨l, xs, i, k, y, rfl, rfl, h, by omega, by omega, ?_, hy, q⟩
  subst e
  unfold seqIndex?
  have h0 : ¬ ((k : Int) < 0) := by omega
  simp only [h0, if_false]
  rw [if_pos (by simp; omega), Int.toNat_natCast]
theorem g_reverse {l : Addr} {xs : List V} {H : Hp} {Q : VK} (h : H l = some (.lst xs)) (q : ∀ H', Keep [l] H H' → H' l = some (.lst xs.reverse) → Q .non H') : uReverse (.ref l) [] H Q := ⟨l, xs, rfl, rfl, h, q⟩
/-- a comprehension over zip of two tuples, behind its arguments -/
def CZ (K : PySem.W.Frag) (g : TG) (tt : TT) (te : TE) (vs : List Nat) (σ : L2.St) (Q : VK) (xs : List V) (H1 : Hp) : Prop := ∃ a b us ws, xs = [.ref a, .ref b] ∧ ((SqL K H1 a us ∧ SqL K H1 b ws ∧ CB (Itz K a b) g tt te vs σ Q H1) ∨ (SqT K H1 a us ∧ SqT K H1 b ws ∧ CB (ItzT K a b) g tt te vs σ Q H1))
theorem e_lcZ {K : PySem.W.Frag} {ta : TA} {g : TG} {tt : TT} {te : TE} {vs : List Nat} {σ : L2.St} {H : Hp} {Q : VK} : tLc (iZipA K ta) g tt te vs σ H Q ↔ ta σ H (CZ K g tt te vs σ Q) := Iff.rfl
theorem g_CZ {K : PySem.W.Frag} {g : TG} {tt : TT} {te : TE} {vs : List Nat} {σ : L2.St} {Q : VK} {H1 : Hp} {a b : Addr} {us ws : List V} (ha : Tup H1 a us) (hb : Tup H1 b ws) (hl : us.length = ws.length) (P : Nat → Hp → List V → Prop)
    (p0 : ∀ D H2, H1 D = none → Keep [] H1 H2 → P 0 H2 [])
    (ps : ∀ D i x y H acc (R : VK) (R0 : Hp → Prop) T H', H1 D = none → us[i]? = some x → ws[i]? = some y → Keep [] H1 H' → H' D = some (.lst acc) → Keep [] H H' → P i H acc → H' T = some (.tup [x, y]) →
      (∀ z H4, Keep [] H' H4 → acc.length < sizeLine → (∀ H5, Keep [D] H4 H5 → P (i + 1) H5 (acc ++ [z])) → R z H4) → (∀ H3, Keep [] H' H3 → P (i + 1) H3 acc → R0 H3) →
      g (.ref T) (wipe σ vs) H' fun σ2 H2 => wipe σ2 vs = wipe σ vs ∧ tt σ2 H2 fun bb H3 => if bb = true then te σ2 H3 R else R0 H3)
    (pd : ∀ D H acc, H1 D = none → Keep [] H1 H → H D = some (.lst acc) → P us.length H acc → Q (.ref D) H) : CZ K g tt te vs σ Q [.ref a, .ref b] H1 := by
  refine ⟨a, b, us, ws, rfl, .inr ⟨ha.sq, hb.sq, fun D hD => ?_⟩⟩
  refine ⟨fun i m H => m = us.length - i ∧ i ≤ us.length ∧ Keep [] H1 H ∧ ∃ acc, H D = some (.lst acc) ∧ P i H acc, ⟨us.length, by omega, by omega, Keep.new hD, [], upd_same, p0 D _ hD (Keep.new hD)⟩, ?_⟩
  rintro i m H ⟨rfl, hi, k, acc, eD, p⟩
  have ta := (ha.keep k nin0).sq (K := K)
  have tb := (hb.keep k nin0).sq (K := K)
  by_cases hlt : i < us.length
  · have hx := List.getElem?_eq_getElem hlt
    have hy := List.getElem?_eq_getElem (show i < ws.length by omega)
    refine .inr ⟨⟨us, ws, _, _, ta, tb, hx, hy⟩, fun H' => i + 1 ≤ us.length ∧ Keep [] H1 H' ∧ ∃ acc, H' D = some (.lst acc) ∧ P (i + 1) H' acc, fun H' q => ⟨us.length - (i + 1), by omega, rfl, q⟩, fun v H' y => ?_⟩
    obtain ⟨T, x', y', rfl, hT, rfl, f1, f2⟩ := y
    have kn : Keep [] H (upd H T (.tup [x', y'])) := Keep.new hT
    refine ps D i x' y' H acc _ _ T _ hD (f1 us ta) (f2 ws tb) (k.trans kn) (kn _ _ nin0 eD) kn p upd_same (fun z H4 k4 hz q => ⟨acc, k4 _ _ nin0 (kn _ _ nin0 eD), hz, hlt, (k.trans (kn.trans k4)).past Keep.set hD, _, upd_same, q _ Keep.set⟩) fun H3 k3 q => ⟨hlt, k.trans (kn.trans k3), acc, k3 _ _ nin0 (kn _ _ nin0 eD), q⟩
  · have e : i = us.length := by omega
    subst e
    exact .inl ⟨⟨us, ws, ta, tb, .inl (Nat.le_refl _)⟩, pd D H acc hD k eD p⟩
/-! d[k], d[k] = v by values -/
def uDG (x y : V) (H : Hp) (Q : VK) : Prop := ∃ a v, x = .ref a ∧ DGet H a y (some v) ∧ Q v H
theorem e_dget {td ty : TE} {σ : L2.St} {H : Hp} {Q : VK} : tDGet td ty σ H Q ↔ td σ H fun x H1 => ty σ H1 fun y H2 => uDG x y H2 Q := Iff.rfl
def uDP (x y v : V) (H : Hp) (R : Hp → Prop) : Prop := ∃ a H4, x = .ref a ∧ DPut H a y v H4 ∧ R H4
theorem e_dput {td ty tv : TE} {D : Ends} {σ : L2.St} {H : Hp} : sDPut td ty tv D σ H ↔ tv σ H fun v H1 => td σ H1 fun x H2 => ty σ H2 fun y H3 => uDP x y v H3 (D.nx σ) := Iff.rfl
end Wg

/-! Wagon, part 13: sorted of alike data. -/
namespace Wg
open PySem PySem.Spec PyProof.Rows L2
theorem each_vals {α : Type} {RR : V → α → Prop} : ∀ {xs : List V} {us : List Value} {rs : List α}, Vals xs us → PySem.W.EachIs RR xs rs → PySem.W.EachIs (fun u r => ∃ x, RelV x u ∧ RR x r) us rs
  | _, _, _, .nil, .nil => .nil
  | _, _, _, .cons r q, .cons h t => .cons ⟨_, r, h⟩ (each_vals q t)
theorem vals_each {α : Type} {RR : V → α → Prop} : ∀ {us : List Value} {rs : List α}, PySem.W.EachIs (fun u r => ∃ x, RelV x u ∧ RR x r) us rs → ∃ xs, Vals xs us ∧ PySem.W.EachIs RR xs rs
  | _, _, .nil => ⟨[], .nil, .nil⟩
  | _, _, .cons ⟨x, h1, h2⟩ t => let ⟨xs, a, b⟩ := vals_each t; ⟨x :: xs, .cons h1 a, .cons h2 b⟩
/-- sorted(list of alike data): RR tells what the items are -/
def uSorted (K : PySem.W.Frag) : List V → Hp → VK → Prop := fun vs H Q => ∃ (α : Type) (RR : V → α → Prop) (enc : α → PyData) (a : Addr) (xs : List V) (rs : List α), vs = [.ref a] ∧ SqL K H a xs ∧ PySem.W.EachIs RR xs rs ∧
  (∀ x r, RR x r → Dp K H x (enc r)) ∧ PySem.W.AllAlike (rs.map enc) ∧ PySem.W.Sortable (rs.map enc) ∧ (∀ r ∈ rs, (enc r).depth ≤ 50) ∧
  ∀ ys, ys.length = xs.length → PySem.W.EachIs RR ys (rs.mergeSort (PySem.W.dataLe false enc)) → Mk H (.lst ys) Q
theorem call_uSorted {X : Cx} (hu : X.A.units + 64 < cLine) : CallR X (.builtin "sorted") (uSorted X.K) := by
  intro pins s σ H vs us Q I r h
  obtain ⟨α, RR, enc, a, xs, rs, rfl, hs, he, hd, ha, hk, hdp, q⟩ := h
  obtain ⟨its, rv, hl, hz⟩ := I.list hs
  obtain ⟨u, rfl, ru⟩ := vals1 r
  obtain rfl : u = Value.ref a := ru
  have er := each_vals rv he
  refine PySem.W.sorted_data (R := fun u r => ∃ x, RelV x u ∧ RR x r) hl.isList er (er.mono fun u r ⟨x, h1, h2⟩ => Dp.reads I _ _ _ (hd x r h2) h1) ha hk (by rw [← he.length]; exact hz) (fun b hb => by have := hdp b hb; omega) fun out ho eo => ?_
  obtain ⟨ys, v1, e1⟩ := vals_each eo
  obtain ⟨n, hn⟩ := sortedAll_at s.heap its (List.toArray out)
  have hly : ys.length = xs.length := by rw [v1.length, ho, he.length]
  refine ⟨.ref (s.heap.objs.size + 1), upd H (s.heap.objs.size + 1) (.lst ys), I.laid (t' := s.toks) (fun b o e => sortedAll_old e) (Nat.le_succ _) ⟨by rw [hly]; exact hz, out, n, v1, hn⟩, rfl, ?_⟩
  have nf := I.hok.fresh (Nat.le_succ s.heap.objs.size)
  exact q ys hly e1 _ _ nf (Keep.new nf) upd_same
end Wg

/-! Wagon, part 14: dict(pairs), list.clear. -/
namespace Wg
open PySem PySem.Spec PyProof.Rows L2
def uDictP (K : PySem.W.Frag) : List V → Hp → VK → Prop := fun xs H Q => ∃ (a : Addr) (ps : List Addr) (kvs : List (Key × V)), xs = [.ref a] ∧ SqL K H a (ps.map V.ref) ∧ Paired (fun p kv => SqT K H p [kV kv.1, kv.2]) ps kvs ∧ Mk H (.dK (mergeK [] kvs)) Q
theorem call_uDictP {X : Cx} (hc : X.calm = true) : CallR X (.type "dict") (uDictP X.K) := by
  intro pins s σ H xs us Q I r h
  obtain ⟨a, ps, kvs, e1, e2, e3, q⟩ := h
  exact call_dictP hc pins s σ H xs us Q I r ⟨a, ps, kvs, e1, e2, e3, fun p n => q.at p n⟩
def uClear : V → List V → Hp → VK → Prop := fun x vs H Q => ∃ l xs, x = .ref l ∧ vs = [] ∧ H l = some (.lst xs) ∧ Ch H l (.lst []) (Q .non)
theorem mt_uClear {X : Cx} : MtM X "list.clear" uClear := by
  intro pins s σ H x vs v us Q I rx rv h
  obtain ⟨l, xs, e1, e2, e3, q⟩ := h
  exact mt_clear pins s σ H x vs v us Q I rx rv ⟨l, xs, e1, e2, e3, q.at⟩
theorem g_clear {l : Addr} {xs : List V} {H : Hp} {Q : VK} (h : H l = some (.lst xs)) (q : ∀ H', Keep [l] H H' → H' l = some (.lst []) → Q .non H') : uClear (.ref l) [] H Q := ⟨l, xs, rfl, rfl, h, q⟩
theorem merge_nodup : ∀ (more acc : List (Key × V)), ((acc ++ more).map (·.1)).Nodup → mergeK acc more = acc ++ more
  | [], acc, _ => (List.append_nil acc).symm
  | (k, v) :: more, acc, h => by
    have e : acc ++ (k, v) :: more = (acc ++ [(k, v)]) ++ more := by simp
    have hk : (acc.any fun kv => decide (kv.1 = k)) = false := by
      rw [List.any_eq_false]
      intro x hx hq
      rw [List.map_append, List.nodup_append] at h
      exact h.2.2 x.1 (List.mem_map.mpr ⟨x, hx, rfl⟩) k (by simp) (of_decide_eq_true hq)
    have hp : putK acc k v = acc ++ [(k, v)] := by
      unfold putK
      rw [hk]
      rfl
    show mergeK (putK acc k v) more = _
    rw [hp, e]
    exact merge_nodup more _ (by rw [← e]; exact h)
end Wg
namespace Wg
open PySem PySem.Spec PyProof.Rows L2
def tTupRgM (te : L2.St → Hp → (Int → Int → Hp → Prop) → Prop) : TE := fun σ H Q => te σ H fun a b H1 => RgOk a b ∧ Mt H1 (rgV a b) Q
theorem pe_tupRgM {X : Cx} {e : Expr} {te : L2.St → Hp → (Int → Int → Hp → Prop) → Prop} {p pos : Pos} (hc : X.calm = true) (hg : Gl X "tuple") (hm : X.mg "tuple" = none) (he : PRg X e te) (na : starEach [e] X.env = (false, eval e X.env) :: starEach [] X.env := by rfl) : PE X (.Call (.Name "tuple" p) [e] [] pos) (tTupRgM te) := by
  refine ⟨fun pins s σ H Q I h => ?_⟩
  refine Call_ (ld_blt I hg hm boot_tuple (PyProof.Rows.callWith_type1 (args_cons (thn (he pins s σ H _ I h) fun x s1 ⟨r, a, b, t, u, v, H1, ex, hr, I1, ok, q⟩ => args_nil ?_) na) na))
  subst ex
  obtain ⟨b1, b2, b3, b4, b5⟩ := ok
  refine call_tuple_range (n := (b - a).toNat) (I1.ok.hd hc) hr (small_one b1 b2 b3 b4) (rangeSize_nat a b) b5 fun h' tk acc hk hi => ?_
  have I2 : Inv X pins σ H1 { s1 with heap := h', toks := tk } := I1.kept hk
  have := mt_end (t' := tk) I2 (vals_rg hi) (by rw [rgV_length, sizeLine_eq]; omega) q
  simpa using this
theorem rgV_ints (n : Nat) : rgV 0 (n : Int) = ((List.range n).map fun i => ((i : Nat) : Int)).map V.int := by
  unfold rgV
  rw [List.map_map]
  simp [Function.comp_def]
end Wg

/-! Wagon, part 15: < and min of alike data. -/
namespace Wg
open PySem PySem.Spec PyProof.Rows L2
def uLtD (K : PySem.W.Frag) : R2 := fun x y H Q => ∃ d e, Dp K H x d ∧ Dp K H y e ∧ PySem.W.alike d e = true ∧ d ≠ .none ∧ d.depth ≤ 50 ∧ Q (.bl (PySem.W.dataLt d e)) H
theorem op_uLtD {X : Cx} (hu : X.A.units + 64 < cLine) : OpR X (compareOp .Lt) (uLtD X.K) := by
  intro pins s σ H x y v u Q I rx ry h
  obtain ⟨d, e, h1, h2, h3, h4, h5, q⟩ := h
  obtain ⟨as, r1⟩ := Dp.reads I _ _ _ h1 rx
  obtain ⟨bs, r2⟩ := Dp.reads I _ _ _ h2 ry
  have := Nat.min_le_left d.depth e.depth
  exact PySem.W.lt_data r1 r2 h3 h4 (by omega) ⟨.bl _, H, I, rfl, q⟩
def uMinD (K : PySem.W.Frag) : List V → Hp → VK → Prop := fun vs H Q => ∃ (α : Type) (RR : V → α → Prop) (enc : α → PyData) (a : Addr) (xs : List V) (r : α) (rs : List α), vs = [.ref a] ∧ SqL K H a xs ∧ PySem.W.EachIs RR xs (r :: rs) ∧
  (∀ x r, RR x r → Dp K H x (enc r)) ∧ PySem.W.AlikeAll ((r :: rs).map enc) ∧ PyData.depthAll ((r :: rs).map enc) ≤ 50 ∧ ∀ x m, RR x m → enc m = PySem.W.minD (enc r) (rs.map enc) → Q x H
theorem each_reads {X : Cx} {pins : List (Addr × Obj)} {σ : L2.St} {H : Hp} {s : Shared} (I : Inv X pins σ H s) {α : Type} {RR : V → α → Prop} {enc : α → PyData} (hd : ∀ x r, RR x r → Dp X.K H x (enc r)) : ∀ {xs : List V} {us : List Value} {rs : List α}, Vals xs us → PySem.W.EachIs RR xs rs → ∃ as, ReadsAll s.heap us (rs.map enc) as
  | _, _, _, .nil, .nil => ⟨[], .nil⟩
  | _, _, _, .cons r q, .cons h t => by
    obtain ⟨as, h1⟩ := Dp.reads I _ _ _ (hd _ _ h) r
    obtain ⟨bs, h2⟩ := each_reads I hd q t
    exact ⟨as ++ bs, .cons h1 h2⟩
theorem call_uMinD {X : Cx} (hc : X.calm = true) (hu : X.A.units + 64 < cLine) : CallR X (.builtin "min") (uMinD X.K) := by
  intro pins s σ H vs us Q I r h
  obtain ⟨α, RR, enc, a, xs, r0, rs, rfl, hs, he, hd, ha, hdp, q⟩ := h
  obtain ⟨its, rv, hl, hz⟩ := I.list hs
  obtain ⟨u, rfl, ru⟩ := vals1 r
  obtain rfl : u = Value.ref a := ru
  obtain ⟨as, hr⟩ := each_reads I hd rv he
  refine PySem.W.min_list_data (I.ok.hd hc) hl.isList (x := enc r0) (xs := rs.map enc) (as := as) hr ha (by have e : PyData.depthAll (enc r0 :: rs.map enc) = PyData.depthAll ((r0 :: rs).map enc) := rfl; omega) fun i v h' tk bs hv rd hk => ?_
  have hv' : its[i]? = some v := by simpa using hv
  obtain ⟨b, hb, x, hx, hR⟩ := (each_vals rv he).left v (List.mem_of_getElem? hv')
  refine ⟨x, H, I.kept hk, hx, q x b hR ?_⟩
  obtain ⟨cs, r2⟩ := Dp.reads I _ _ _ (hd _ _ hR) hx
  exact (reads_det (fun b o e _ => hk b o e) r2 rd).1.symm
theorem minD_map {α : Type} (enc : α → PyData) (r : α) (rs : List α) : PySem.W.minD (enc r) (rs.map enc) = enc (rs.foldl (fun a y => if PySem.W.dataLt (enc y) (enc a) then y else a) r) := by
  unfold PySem.W.minD
  induction rs generalizing r with
  | nil => rfl
  | cons b rs ih =>
    rw [List.map_cons, List.foldl_cons, List.foldl_cons, ← ih]
    congr 1
    split <;> rfl
end Wg
namespace Wg
open PySem PySem.Spec PyProof.Rows L2
/-- a for over enumerate(list), behind its argument -/
def FEl (K : PySem.W.Frag) (g : TG) (tb : TS) (D : Ends) (σ : L2.St) (vs : List V) (H1 : Hp) : Prop := ∃ a xs, vs = [.ref a] ∧ SqL K H1 a xs ∧ ∃ W : Nat → Nat → L2.St → Hp → Prop, (∃ m, W 0 m σ H1) ∧ ∀ i m σ H, W i m σ H →
  ((Ite K a).stop i H ∧ D.nx σ H) ∨ ((Ite K a).go i H ∧ ∃ N : L2.St → Hp → Prop, (∀ σ' H', N σ' H' → ∃ m', m' < m ∧ W (i + 1) m' σ' H') ∧ ∀ x H', (Ite K a).yld i H x H' → g x σ H' fun σ2 H2 => tb { D with nx := N, ct := N, bk := D.nx } σ2 H2)
theorem e_forEl {K : PySem.W.Frag} {ta : TA} {g : TG} {tb : TS} {D : Ends} {σ : L2.St} {H : Hp} : tFor (iEnum K ta) g tb D σ H ↔ ta σ H (FEl K g tb D σ) := Iff.rfl
theorem g_FEl {K : PySem.W.Frag} {g : TG} {tb : TS} {D : Ends} {σ : L2.St} {H1 : Hp} {a : Addr} {xs : List V} (Pv : Nat → L2.St → Hp → Prop) (h : H1 a = some (.lst xs)) (h0 : Pv 0 σ H1) (hl : ∀ i σ H, i ≤ xs.length → Pv i σ H → H a = some (.lst xs))
    (hs : ∀ i x σ H T H', xs[i]? = some x → Pv i σ H → H T = none → Keep [] H H' → H' T = some (.tup [.int (i : Nat), x]) → g (.ref T) σ H' fun σ2 H2 => tb { D with nx := Pv (i + 1), ct := Pv (i + 1), bk := D.nx } σ2 H2) (hd : ∀ σ H, Pv xs.length σ H → D.nx σ H) : FEl K g tb D σ [.ref a] H1 := by
  refine ⟨a, xs, rfl, lst_sq h, fun i m σ H => m = xs.length - i ∧ i ≤ xs.length ∧ Pv i σ H, ⟨xs.length, by simp, Nat.zero_le _, h0⟩, ?_⟩
  rintro i m σ H ⟨rfl, hi, p⟩
  have tu := lst_sq (K := K) (hl i σ H hi p)
  by_cases hlt : i < xs.length
  · refine .inr ⟨⟨xs, _, tu, List.getElem?_eq_getElem hlt⟩, Pv (i + 1), fun σ' H' p' => ⟨xs.length - (i + 1), by omega, rfl, hlt, p'⟩, fun x H' y => ?_⟩
    obtain ⟨T, u, rfl, nT, rfl, hu⟩ := y
    exact hs i u σ H T _ (hu xs tu) p nT (Keep.new nT) upd_same
  · have e : i = xs.length := by omega
    subst e
    exact .inl ⟨⟨xs, tu, Nat.le_refl _⟩, hd σ H p⟩
theorem g_truL {K : PySem.W.Frag} {p : Addr} {xs : List V} {H : Hp} {k : Bool} (h : H p = some (.lst xs)) (e : k = !xs.isEmpty) : TruV K (.ref p) H k := .inl ⟨xs, lst_sq h, e⟩
end Wg

/-! Wagon, part 16: list.remove of data; whiles. -/
namespace Wg
open PySem PySem.Spec PyProof.Rows L2
def uRemD (K : PySem.W.Frag) : V → List V → Hp → VK → Prop := fun x vs H Q => ∃ (l : Addr) (xs : List V) (y : V) (d : PyData) (ds : List PyData) (j : Nat), x = .ref l ∧ vs = [y] ∧ H l = some (.lst xs) ∧ DpAll K H xs ds ∧ Dp K H y d ∧
  PyData.plainAll ds = true ∧ d.plain = true ∧ d.depth ≤ 50 ∧ PySem.SeqAt.dataPlace ds d = some j ∧ Ch H l (.lst (xs.eraseIdx j)) (Q .non)
theorem mt_uRemD {X : Cx} (hu : X.A.units + 64 < cLine) : MtM X "list.remove" (uRemD X.K) := by
  intro pins s σ H x vs v us Q I rx rv h
  obtain ⟨l, xs, y, d, ds, j, rfl, rfl, hH, hds, hd, p1, p2, hdp, hj, q⟩ := h
  cases rx
  obtain ⟨u, rfl, ru⟩ := rv.one
  obtain ⟨z, its, n, r, hl, e⟩ := I.lstM hH
  obtain ⟨as, rs⟩ := Dp.readsAll I _ _ _ hds r
  obtain ⟨bs, rd⟩ := Dp.reads I _ _ _ hd ru
  have := Nat.min_le_right (PyData.depthAll ds) d.depth
  refine PySem.SeqAt.remove_list_data (j := j) ⟨_, e, rfl, n, rfl⟩ (by simpa using rs) rd p1 p2 (by omega) hj (by rw [List.size_toArray]; omega) ?_
  refine ⟨.non, _, I.lset (its' := its.eraseIdx j) (ys := xs.eraseIdx j) (t' := s.toks) hH e ?_ (r.eraseIdx j) ?_, rfl, q.at⟩
  · show its.toArray.eraseIdxIfInBounds j = (its.eraseIdx j).toArray
    rw [List.eraseIdxIfInBounds_toArray]
  · have := List.length_eraseIdx_le xs j
    omega
end Wg

/-! Wagon, part 17: tuple + tuple wherever they stand. -/
namespace Wg
open PySem PySem.Spec PyProof.Rows L2
def uAddQ (K : PySem.W.Frag) : R2 := fun x y H Q => ∃ a b xs ys, x = .ref a ∧ y = .ref b ∧ SqT K H a xs ∧ SqT K H b ys ∧ xs ≠ [] ∧ ys ≠ [] ∧ xs.length + ys.length ≤ sizeLine ∧ Mt H (xs ++ ys) Q
theorem op_uAddQ {X : Cx} : OpR X (binaryOp .Add) (uAddQ X.K) := by
  intro pins s σ H x y v u Q I rx ry h
  obtain ⟨a, b, xs, ys, rfl, rfl, ha, hb, e1, e2, z, q⟩ := h
  cases rx
  cases ry
  obtain ⟨its, r1, p1, _⟩ := I.tuple ha
  obtain ⟨its2, r2, p2, _⟩ := I.tuple hb
  refine HT.cat_tup p1 p2 (fun c => e1 (r1.nil_iff.mp c)) (fun c => absurd (r2.nil_iff.mp c) e2) (fun c => ?_) (by rw [← r1.length, ← r2.length]; exact z)
  exact mt_end (t' := s.toks) I (r1.append r2) (by rw [List.length_append]; exact z) q
end Wg

/-! Wagon, part 18: a comprehension of two fors; list.extend by a list or tuple. -/
namespace Wg
open PySem PySem.Spec PyProof.Rows L2

def CU2 (K : PySem.W.Frag) (g : TG) (tt : TT) (wi1 : TI) (g1 : TG) (tt1 : TT) (te : TE) (vs vs1 : List Nat) (σ : L2.St) (Q : VK) (x : V) (H1 : Hp) : Prop := tLc2 (iU K (tC x)) g tt wi1 g1 tt1 te vs vs1 σ H1 Q
theorem e_lc2U {K : PySem.W.Frag} {tl : TE} {g : TG} {tt : TT} {wi1 : TI} {g1 : TG} {tt1 : TT} {te : TE} {vs vs1 : List Nat} {σ : L2.St} {H : Hp} {Q : VK} : tLc2 (iU K tl) g tt wi1 g1 tt1 te vs vs1 σ H Q ↔ tl σ H (CU2 K g tt wi1 g1 tt1 te vs vs1 σ Q) := Iff.rfl
/-- [y for z in zs for y in f(z)], of texts; f(z) a fresh list -/
theorem g_C2 {K : PySem.W.Frag} {tl1 : TE} {σ : L2.St} {H1 : Hp} {Q : VK} {a : Addr} {i j : Nat} {vs vs1 : List Nat} (zs : List Str) (f : Str → List Str) (hx : H1 a = some (.lst (zs.map V.str)) ∨ Tup H1 a (zs.map V.str))
    (hw : ∀ v, wipe ((wipe σ vs).set i v) vs = wipe σ vs) (hw1 : ∀ v u, wipe ((wipe ((wipe σ vs).set i v) vs1).set j u) vs1 = wipe ((wipe σ vs).set i v) vs1) (hw2 : ∀ v, wipe ((wipe σ vs).set i v) vs1 = (wipe σ vs).set i v)
    (hj : ∀ v u, ((wipe ((wipe σ vs).set i v) vs1).set j (some u))[j]? = some (some u))
    (hl : ∀ ws : List Str, (∀ z ∈ ws, z ∈ zs) → ws.length ≤ zs.length → (ws.flatMap f).length < 1000) (hl1 : ∀ z ∈ zs, (f z).length < 1000)
    (hc : ∀ z ∈ zs, ∀ H3 (Q1 : VK), Keep [] H1 H3 → (∀ l H4, H3 l = none → Keep [] H3 H4 → H4 l = some (.lst ((f z).map V.str)) → Q1 (.ref l) H4) → tl1 ((wipe σ vs).set i (some (.str z))) H3 Q1)
    (hd : ∀ D H, H1 D = none → Keep [] H1 H → H D = some (.lst ((zs.flatMap f).map V.str)) → Q (.ref D) H) : CU2 K (gName i) tYes (iU K tl1) (gName j) tYes (tVar j) vs vs1 σ Q (.ref a) H1 := by
  have core : ∀ J : It, (∀ n H, n < zs.length → Keep [] H1 H → J.go n H) → (∀ n H x H', n < zs.length → Keep [] H1 H → J.yld n H x H' → x = .str (zs.getD n "") ∧ H' = H) → (∀ H, Keep [] H1 H → J.stop zs.length H) →
      ∀ D, H1 D = none → ∃ W : Nat → Nat → Hp → Prop, (∃ m, W 0 m (upd H1 D (.lst []))) ∧ ∀ n m H, W n m H →
  (J.stop n H ∧ Q (.ref D) H) ∨ (J.go n H ∧ ∃ Nx : Hp → Prop, (∀ H', Nx H' → ∃ m', m' < m ∧ W (n + 1) m' H') ∧ ∀ x H', J.yld n H x H' → gName i x (wipe σ vs) H' fun σ2 H2 => wipe σ2 vs = wipe σ vs ∧ tYes σ2 H2 fun b H3 =>
    if b = true then iU K tl1 σ2 H3 fun J1 H4 => ∃ W1 : Nat → Nat → Hp → Prop, (∃ m, W1 0 m H4) ∧ ∀ jj k H, W1 jj k H →
      (J1.stop jj H ∧ Nx H) ∨ (J1.go jj H ∧ ∃ Nx1 : Hp → Prop, (∀ H', Nx1 H' → ∃ k', k' < k ∧ W1 (jj + 1) k' H') ∧ ∀ x H', J1.yld jj H x H' → gName j x (wipe σ2 vs1) H' fun σ3 H5 => wipe σ3 vs1 = wipe σ2 vs1 ∧ tYes σ3 H5 fun b H6 =>
        if b = true then tVar j σ3 H6 fun y H7 => ∃ acc, H7 D = some (.lst acc) ∧ acc.length < sizeLine ∧ Nx1 (upd H7 D (.lst (acc ++ [y]))) else Nx1 H6)
    else Nx H3) := by
    intro J hgo hy hst D hD
    refine ⟨fun n m H => m = zs.length - n ∧ n ≤ zs.length ∧ Keep [] H1 H ∧ H D = some (.lst (((zs.take n).flatMap f).map V.str)), ⟨zs.length, by omega, by omega, Keep.new hD, upd_same⟩, ?_⟩
    rintro n m H ⟨rfl, hn, k, eD⟩
    by_cases hlt : n < zs.length
    · refine .inr ⟨hgo n H hlt k, fun H' => Keep [] H1 H' ∧ H' D = some (.lst (((zs.take (n + 1)).flatMap f).map V.str)), fun H' q => ⟨zs.length - (n + 1), by omega, rfl, hlt, q⟩, fun x H' y => ?_⟩
      obtain ⟨ex, eh⟩ := hy n H x H' hlt k y
      have hz : zs[n]? = some (zs.getD n "") := by rw [List.getD_eq_getElem?_getD, List.getElem?_eq_getElem hlt]; rfl
      rw [ex, eh]
      generalize zs.getD n "" = z at hz
      have hzm := List.mem_of_getElem? hz
      have htk : (zs.take (n + 1)).flatMap f = (zs.take n).flatMap f ++ f z := by rw [List.take_succ, hz, List.flatMap_append]; simp
      refine ⟨hw _, ?_⟩
      unfold tYes
      show (if true = true then _ else _)
      rw [if_pos rfl]
      refine hc z hzm H _ k fun l H4 nl k4 e4 => .inl ⟨l, _, rfl, lst_sq e4, ?_⟩
      have nDl : D ≠ l := ne_of_none eD nl
      refine ⟨fun jj kk H' => kk = (f z).length - jj ∧ jj ≤ (f z).length ∧ Keep [D] H4 H' ∧ H' D = some (.lst (((zs.take n).flatMap f ++ (f z).take jj).map V.str)), ⟨(f z).length, by omega, by omega, Keep.refl _ _, by rw [List.take_zero, List.append_nil]; exact k4 _ _ nin0 eD⟩, ?_⟩
      rintro jj kk H5 ⟨rfl, hjj, k5, e5⟩
      have el5 := k5 _ _ (nin1 nDl.symm) e4
      by_cases hlt2 : jj < (f z).length
      · have hy2 : (f z)[jj]? = some (f z)[jj] := List.getElem?_eq_getElem hlt2
        have hym : ((f z).map V.str)[jj]? = some (.str (f z)[jj]) := by rw [List.getElem?_map, hy2]; rfl
        refine .inr ⟨⟨_, _, lst_sq el5, hym⟩, fun H' => Keep [D] H4 H' ∧ H' D = some (.lst (((zs.take n).flatMap f ++ (f z).take (jj + 1)).map V.str)), fun H' q => ⟨(f z).length - (jj + 1), by omega, rfl, hlt2, q⟩, fun x H' y => ?_⟩
        obtain ⟨e1, e2⟩ := y
        have e3 := e2 _ (lst_sq el5)
        rw [hym] at e3
        cases e3
        rw [e1]
        refine ⟨hw1 _ _, ?_⟩
        show (if true = true then _ else _)
        rw [if_pos rfl]
        refine ⟨_, hj _ _, _, e5, ?_, k5.trans Keep.set, ?_⟩
        · have h1 := hl (zs.take n) (fun w hw => List.mem_of_mem_take hw) (by rw [List.length_take]; omega)
          have h2 := hl1 z hzm
          rw [List.length_map, List.length_append, List.length_take]
          exact len_lt (by omega)
        · rw [upd_same, List.take_succ, hy2]
          simp only [List.map_append, Option.toList, List.map_cons, List.map_nil, List.append_assoc]
      · have e : jj = (f z).length := by omega
        subst e
        refine .inl ⟨⟨_, lst_sq el5, by rw [List.length_map]; exact Nat.le_refl _⟩, (k.trans k4).past k5 hD, ?_⟩
        rw [htk, e5, List.take_length]
    · have e : n = zs.length := by omega
      subst e
      rw [List.take_length] at eD
      exact .inl ⟨hst H k, hd D H hD k eD⟩
  have gt : ∀ {n : Nat}, n < zs.length → (zs.map V.str)[n]? = some (.str (zs.getD n "")) := fun h => by
    rw [List.getElem?_map, List.getD_eq_getElem?_getD, List.getElem?_eq_getElem h]; rfl
  rcases hx with hx | hx
  · refine .inl ⟨a, _, rfl, lst_sq hx, core (Itl K a) (fun n H h k => ⟨_, _, lst_sq (k _ _ nin0 hx), gt h⟩) (fun n H x H' h k y => ?_) fun H k => ⟨_, lst_sq (k _ _ nin0 hx), by rw [List.length_map]; exact Nat.le_refl _⟩⟩
    obtain ⟨e1, e2⟩ := y
    have := e2 _ (lst_sq (k _ _ nin0 hx))
    rw [gt h] at this
    cases this
    exact ⟨rfl, e1⟩
  · refine .inr (.inl ⟨a, _, rfl, hx.sq, core (Itt K a) (fun n H h k => ⟨_, _, (hx.keep k nin0).sq, gt h⟩) (fun n H x H' h k y => ?_) fun H k => ⟨_, (hx.keep k nin0).sq, by rw [List.length_map]; exact Nat.le_refl _⟩⟩)
    obtain ⟨e1, e2⟩ := y
    have := e2 _ (hx.keep k nin0).sq
    rw [gt h] at this
    cases this
    exact ⟨rfl, e1⟩
/-- a comprehension within a comprehension, that reads no name of what is around it but by cells that are there -/
theorem blkOk_any {N : List Str} {sc scope : Scope} {own : List (Str × Nat)} (h : blkC N { kind := .function, names := [], isGenerator := false, isCoroutine := false } scope own = true) : BlkOk N sc scope own := by
  have b := blkOk_by h
  exact ⟨b.kind, b.uniq, b.ix, fun y hy e => by rcases b.free y hy e with z | z <;> simp at z, b.own⟩
section
variable {X : Cx}
/-- a proper slice of a tuple wherever it stands -/
def uSlQ (K : PySem.W.Frag) : V → Option Int → Option Int → Hp → VK → Prop := fun x lo hi H Q => ∃ a xs, x = .ref a ∧ SqT K H a xs ∧ ¬ (HT.sIx xs.length 0 lo = 0 ∧ HT.sIx xs.length xs.length hi = xs.length) ∧ Mt H (cutV xs lo hi) Q
theorem sl_uQ : SlR X (uSlQ X.K) := by
  intro pins s σ H x v vl vu lo hi sl Q I rx hs pl pu h
  obtain ⟨a, xs, rfl, hx, c, q2⟩ := h
  cases rx
  obtain ⟨its, r, ht, hz⟩ := I.tuple hx
  have hlen : its.toArray.size = xs.length := by
    rw [List.size_toArray]
    exact r.length.symm
  refine ⟨"tuple", _, PyProof.Rows.slot_tuple_getitem.lookup, ht.typeIs, ?_⟩
  refine HT.getItem_tuple_cut ht hs pl pu (by rw [hlen]; exact c) ?_ (by rw [hlen]; exact hz)
  rw [hlen]
  exact mt_end (t' := s.toks) I ((r.drop (HT.sIx xs.length 0 lo)).take (HT.sIx xs.length xs.length hi - HT.sIx xs.length 0 lo)) (Nat.le_trans (cutV_length xs lo hi) hz) q2
def uExtT : V → List V → Hp → VK → Prop := fun x vs H Q => ∃ l b xs zs, x = .ref l ∧ vs = [.ref b] ∧ H l = some (.lst xs) ∧ (H b = some (.lst zs) ∨ Tup H b zs) ∧ xs.length + zs.length ≤ sizeLine ∧ Ch H l (.lst (xs ++ zs)) (Q .non)
theorem mt_uExtT : MtM X "list.extend" uExtT := by
  intro pins s σ H x vs v us Q I rx rv h
  obtain ⟨l, b, xs, zs, e1, e2, e3, e4, e5, q⟩ := h
  rcases e4 with e4 | e4
  · exact mt_extend pins s σ H x vs v us Q I rx rv ⟨l, b, xs, zs, e1, e2, e3, e4, e5, q.at⟩
  · subst e1 e2
    cases rx
    obtain ⟨u, rfl, ru⟩ := rv.one
    cases ru
    obtain ⟨z, its, n, r, hl, e⟩ := I.lstM e3
    obtain ⟨its2, n2, r2, hl2, e2⟩ := Tup.obj I e4
    have l2 := r2.length
    have hsz : its.toArray.size + its2.toArray.size ≤ sizeLine := by rw [List.size_toArray, List.size_toArray]; omega
    have hlong : ¬ (!its.toArray.isEmpty && Builtin.List.listTooLong (its.toArray.size + its2.toArray.size)) = true := by
      rw [notLongL hsz, Bool.and_false]
      exact Bool.false_ne_true
    refine call_meets F.slot_list_extend ⟨_, e, rfl⟩ F.entry_list_extend (F.args_list_extend_2 _ _)
      (AutoSeq1.list_extend_list_tuple_0 l its.toArray n b its2.toArray n2 hlong (by rw [List.size_toArray]; omega) (by omega)) ⟨e, e2, ?_⟩
    refine ⟨.non, _, I.lset (its' := its ++ its2) e3 e (by simp) (r.append r2) ?_, rfl, q.at⟩
    rw [List.length_append]
    omega
end
theorem g_extT {l b : Addr} {xs zs : List V} {H : Hp} {Q : VK} (h : H l = some (.lst xs)) (e : Tup H b zs) (z : xs.length + zs.length ≤ 1000) (q : ∀ H', Keep [l] H H' → H' l = some (.lst (xs ++ zs)) → Q .non H') : uExtT (.ref l) [.ref b] H Q := ⟨l, b, xs, zs, rfl, rfl, h, .inr e, len_le (by omega), q⟩
end Wg

/-! Wagon, part 19: xs[::k], k 1 or -1, of a list. -/
namespace Wg
open PySem PySem.Spec PyProof.Rows L2
theorem pick_one (items : Array Value) : slicePick items none none (some 1) = items := by
  have h : slicePick items none none (some 1) = slicePick items none none none := rfl
  rw [h, show items = items.toList.toArray by simp, slicePick_cut]
  simp [HT.sIx]
  rw [List.take_of_length_le (by simp)]
section
variable {X : Cx}
def tStepL (K : PySem.W.Frag) (te ts : TE) : TE := fun σ H Q => te σ H fun x H1 => tPart ts σ H1 fun o H2 => ∃ a xs v, x = .ref a ∧ SqL K H2 a xs ∧ o = some v ∧ (v = 1 ∨ v = -1) ∧ ∀ p, H2 p = none → Q (.ref p) (upd H2 p (.lst (if v = 1 then xs else xs.reverse)))
theorem pe_stepL {e es : Expr} {te ts : TE} {p3 pos : Pos} (he : PE X e te) (hs : PE X es ts) : PE X (.Subscript e (.Slice none none (some es) p3) pos) (tStepL X.K te ts) := by
  refine ⟨fun pins s σ H Q I h => ?_⟩
  refine Subscript_ (thn (he.run pins s σ H _ I h) fun v s1 ⟨x, H1, I1, r1, q1⟩ => ?_)
  have hst : PO X (some es) (tPart ts) := po_some hs
  refine wpAny_Slice (thn (po_none.run pins s1 σ H1 (fun o H2 => o = none ∧ H2 = H1) I1 ⟨rfl, rfl⟩) fun vl s2 ⟨l, H2, I2, pl, el, e2⟩ => ?_)
  subst el e2
  refine thn (po_none.run pins s2 σ H2 (fun o H3 => o = none ∧ H3 = H2) I2 ⟨rfl, rfl⟩) fun vu s3 ⟨u, H3, I3, pu, eu, e3⟩ => ?_
  subst eu e3
  refine thn (hst.run pins s3 σ H3 _ I3 q1) fun vs s4 ⟨o, H4, I4, ps, q4⟩ => ?_
  obtain ⟨a, xs, w, ex, hx, eo, hw, q⟩ := q4
  subst ex eo
  cases r1
  have I5 : Inv X pins σ H4 { s4 with heap := s4.heap.push { cls := .type "slice", data := .fields #[vl, vu, vs] } } := I4.kept (t' := s4.toks) fun b ob q => Heap.get?_push_of_some _ q
  obtain ⟨its, r, ht, hz⟩ := I5.list hx
  have hlen := r.length
  show wpAny (model X.prog X.w) X.A (subscriptTail e (.Slice none none (some es) p3) (.ref a) (.ref s4.heap.objs.size)) (EP X pins σ Q) X.xe { s4 with heap := s4.heap.push { cls := .type "slice", data := .fields #[vl, vu, vs] } }
  refine tail_any (ops := [.ref a, .ref s4.heap.objs.size]) ht.isList.typeIs (PySem.slot_list_getitem.lookup) ?_ (by with_unfolding_all rfl)
  refine wpAny_getItem_list_slice ht.isList (Heap.IsSliceOf.new _ vl vu vs) pl pu ps (by rcases hw with rfl | rfl <;> decide) ?_ (by rw [List.size_toArray]; omega)
  rcases hw with rfl | rfl
  · rw [pick_one]
    refine ⟨.ref _, _, I5.laid (t' := s4.toks) (o := .lst xs) (fun b ob q => Heap.get?_push_of_some _ q) (Nat.le_refl _) ?_, rfl, q _ (I5.hok.fresh (Nat.le_refl _))⟩
    exact ⟨hz, _, 0, r, Heap.get?_push_size _ rfl⟩
  · rw [PySem.W.krv_pick]
    refine ⟨.ref _, _, I5.laid (t' := s4.toks) (o := .lst xs.reverse) (fun b ob q => Heap.get?_push_of_some _ q) (Nat.le_refl _) ?_, rfl, q _ (I5.hok.fresh (Nat.le_refl _))⟩
    exact ⟨by rw [List.length_reverse]; exact hz, _, 0, r.reverse, Heap.get?_push_size _ rfl⟩
end
theorem e_stepL {K : PySem.W.Frag} {te ts : TE} {σ : L2.St} {H : Hp} {Q : VK} : tStepL K te ts σ H Q ↔ te σ H fun x H1 => ts σ H1 fun y H2 => ∃ i, y = .int i ∧ ∃ a xs v, x = .ref a ∧ SqL K H2 a xs ∧ some i = some v ∧ (v = 1 ∨ v = -1) ∧ ∀ p, H2 p = none → Q (.ref p) (upd H2 p (.lst (if v = 1 then xs else xs.reverse))) := Iff.rfl
end Wg

/-! Wagon, part 20: a for over zip of two tuples  -/
namespace Wg
open PySem PySem.Spec PyProof.Rows L2 RZ
def FZ (K : PySem.W.Frag) (g : TG) (tb : TS) (D : Ends) (σ : L2.St) (vs : List V) (H1 : Hp) : Prop := tFor (iZipA K (fun _ H Q => Q vs H)) g tb D σ H1
theorem e_forZ {K : PySem.W.Frag} {ta : TA} {g : TG} {tb : TS} {D : Ends} {σ : L2.St} {H : Hp} : tFor (iZipA K ta) g tb D σ H ↔ ta σ H (FZ K g tb D σ) := Iff.rfl
theorem g_FZ {K : PySem.W.Frag} {g : TG} {tb : TS} {D : Ends} {σ : L2.St} {H1 : Hp} {a b : Addr} {xs ys : List V} (Pv : Nat → L2.St → Hp → Prop) (ha : Tup H1 a xs) (hb : Tup H1 b ys) (hl2 : xs.length = ys.length) (h0 : Pv 0 σ H1) (hl : ∀ i σ H, i ≤ xs.length → Pv i σ H → Tup H a xs ∧ Tup H b ys)
    (hs : ∀ i x y σ H T H', xs[i]? = some x → ys[i]? = some y → Pv i σ H → H T = none → Keep [] H H' → H' T = some (.tup [x, y]) → g (.ref T) σ H' fun σ2 H2 => tb { D with nx := Pv (i + 1), ct := Pv (i + 1), bk := D.nx } σ2 H2) (hd : ∀ σ H, Pv xs.length σ H → D.nx σ H) : FZ K g tb D σ [.ref a, .ref b] H1 := by
  refine ⟨a, b, xs, ys, rfl, .inr ⟨ha.sq, hb.sq, fun i m σ H => m = xs.length - i ∧ i ≤ xs.length ∧ Pv i σ H, ⟨xs.length, by simp, Nat.zero_le _, h0⟩, ?_⟩⟩
  rintro i m σ H ⟨rfl, hi, p⟩
  obtain ⟨ta, tb'⟩ := hl i σ H hi p
  by_cases hlt : i < xs.length
  · have hx := List.getElem?_eq_getElem hlt
    have hy := List.getElem?_eq_getElem (show i < ys.length by omega)
    refine .inr ⟨⟨xs, ys, _, _, ta.sq, tb'.sq, hx, hy⟩, Pv (i + 1), fun σ' H' p' => ⟨xs.length - (i + 1), by omega, rfl, hlt, p'⟩, fun x H' y => ?_⟩
    obtain ⟨T, x', y', rfl, nT, rfl, f1, f2⟩ := y
    exact hs i x' y' σ H T _ (f1 xs ta.sq) (f2 ys tb'.sq) p nT (Keep.new nT) upd_same
  · have e : i = xs.length := by omega
    subst e
    exact .inl ⟨⟨xs, ys, ta.sq, tb'.sq, .inl (Nat.le_refl _)⟩, hd σ H p⟩
end Wg

/-! Wagon, part 21: xs[a:b] = ys. -/
namespace Wg
open PySem PySem.Spec PyProof.Rows L2
section
variable {X : Cx}
def gSli (to tl th : TE) : TG := fun v σ H R => to σ H fun x H1 => tl σ H1 fun i H2 => th σ H2 fun j H3 => ∃ l b xs ys a c, x = .ref l ∧ v = .ref b ∧ i = .int a ∧ j = .int c ∧ H3 l = some (.lst xs) ∧ H3 b = some (.lst ys) ∧ l ≠ b ∧ 0 ≤ a ∧ a ≤ c ∧ c ≤ xs.length ∧ xs.length + ys.length ≤ sizeLine ∧
  Ch H3 l (.lst (xs.take a.toNat ++ ys ++ xs.drop c.toNat)) (R σ)
theorem pg_sli {o lo hi : Expr} {to tl th : TE} {p2 pos : Pos} (ho : PE X o to) (hl : PE X lo tl) (hh : PE X hi th)
    (ha : ∀ v, assign (.Subscript o (.Slice (some lo) (some hi) none p2) pos) X.env v = (do
      let ov ← holding [v] (eval o X.env)
      let iv ← holding [v, ov] (eval (.Slice (some lo) (some hi) none p2) X.env)
      standAt pos
      holding [v, ov, iv] (setItem ov iv v)
      release [iv, v, ov] []) := by intro _; rfl) : PG X (.Subscript o (.Slice (some lo) (some hi) none p2) pos) (gSli to tl th) := by
  refine ⟨fun pins s σ H v u Q I r h => ?_⟩
  rw [ha]
  refine wpAny_bind (wpAny_holding (thn (ho.run pins s σ H _ I h) fun ov s1 ⟨x, H1, I1, r1, q1⟩ => ?_))
  refine wpAny_bind (wpAny_holding ?_)
  refine wpAny_Slice ?_
  rw [evalPart_some, evalPart_some, evalPart_none]
  refine thn (hl.run pins s1 σ H1 _ I1 q1) fun vl s2 ⟨i, H2, I2, r2, q2⟩ => thn (hh.run pins s2 σ H2 _ I2 q2) fun vu s3 ⟨j, H3, I3, r3, q3⟩ => ?_
  refine wpAny_pure ?_
  obtain ⟨l, b, xs, ys, a, c, rfl, rfl, rfl, rfl, e1, e2, ne, h0, hac, hc, hz, q⟩ := q3
  cases r1
  cases r
  have I4 : Inv X pins σ H3 { s3 with heap := s3.heap.push { cls := .type "slice", data := .fields #[vl, vu, .none] } } := I3.kept (t' := s3.toks) fun b ob q => Heap.get?_push_of_some _ q
  refine wpAny_bind (wpAny_standAt (wpAny_bind (wpAny_holding (set_slice I4 e1 e2 ne (Heap.IsSliceOf.new ..) r2 r3 h0 hac hc hz fun s' I5 => ?_))))
  exact wpAny_release ⟨σ, _, I5, q.at⟩
end
end Wg

/-! Wagon, part 22: min(xs, default=None) of a list of ints. -/
namespace Wg
open PySem PySem.Spec PyProof.Rows L2
section
variable {X : Cx}
def tMinN (K : PySem.W.Frag) (ta : TE) : TE := fun σ H Q => ta σ H fun x H1 => ∃ a ns, x = .ref a ∧ SqL K H1 a (ns.map V.int) ∧ (ns = [] → Q .non H1) ∧ ∀ m, m ∈ ns → (∀ y, y ∈ ns → m ≤ y) → Q (.int m) H1
theorem pe_minN {a : Expr} {ta : TE} {j : Nat} {p p2 p3 pos : Pos} (hc : X.calm = true) (hu : X.A.units + 64 < cLine) (hg : Gl X "min") (hm : X.mg "min" = none) (ha : PE X a ta)
    (he : backTo pos (starEach [a] X.env) = (false, eval a X.env) :: backTo pos (starEach [] X.env) := by rfl) :
    PE X (.Call (.Name "min" p) [a] [⟨some "default", .Constant .none j p2, p3⟩] pos) (tMinN X.K ta) := by
  refine ⟨fun pins s σ H Q I h => ?_⟩
  refine wpAny_Call_Name_kw (ld_blt I hg hm (show bootBuiltins "min" = some (.builtin "min") by decide +kernel) ?_)
  refine PyProof.Rows.callWith_kw ?_ he (by rw [he]; rfl)
  rw [he]
  refine Calls.spliced_cons (thn (ha.run pins s σ H _ I h) fun v s1 ⟨x, H1, I1, r1, q1⟩ => ?_)
  refine Calls.spliced_nil ?_
  obtain ⟨l, ns, rfl, hs, q0, q⟩ := q1
  cases r1
  obtain ⟨its, rv, hl, hz⟩ := I1.list hs
  refine PyProof.Rows.kws_cons (Constant_none (PyProof.Rows.kws_nil ?_))
  show wpAny _ _ (call (.builtin "min") [Value.ref l] [(Str.ofString "default", Value.none)]) _ _ _
  have dps : ∀ ns : List Int, DpAll X.K H1 (ns.map V.int) (ns.map .int) := fun ns => by
    induction ns with
    | nil => exact .nil
    | cons n ns ih => exact .cons (.int n) ih
  obtain ⟨as, hr⟩ := Dp.readsAll I1 _ _ _ (dps ns) rv
  have al : PySem.W.AlikeAll (ns.map .int) := by
    refine ⟨fun x hx y hy => ?_, fun x hx => ?_⟩
    · obtain ⟨i, _, rfl⟩ := List.mem_map.mp hx
      obtain ⟨j, _, rfl⟩ := List.mem_map.mp hy
      rfl
    · obtain ⟨i, _, rfl⟩ := List.mem_map.mp hx
      exact fun z => nomatch z
  have dp : PyData.depthAll (ns.map .int) = 0 := by
    clear hr al dps q0 q hs rv hz
    induction ns with
    | nil => simp [PyData.depthAll]
    | cons n ns ih => simp [PyData.depthAll, PyData.depth, ih]
  refine PySem.W.min_list_default (I1.ok.hd hc) hl.isList (as := as) hr al (by omega) (fun e h' tk hk => ?_) fun y ys i v h' tk bs e hv rd hk => ?_
  · exact ⟨.non, H1, I1.kept hk, rfl, q0 (List.map_eq_nil_iff.mp e)⟩
  · cases ns with
    | nil => cases e
    | cons n ns =>
      rw [List.map_cons] at e
      cases e
      rw [PySem.W.minD_ints] at rd
      obtain ⟨t, rfl⟩ : ∃ t, v = .int (ns.foldl min n) t := by
        cases rd
        exact ⟨_, rfl⟩
      have h1 : ∀ (ns : List Int) (n : Int), ns.foldl min n ∈ n :: ns ∧ ∀ y ∈ n :: ns, ns.foldl min n ≤ y := by
        intro ns
        induction ns with
        | nil => intro n; exact ⟨List.mem_singleton.mpr rfl, fun y hy => by rw [List.mem_singleton.mp hy]; exact Int.le_refl _⟩
        | cons m ns ih =>
          intro n
          obtain ⟨a, b⟩ := ih (min n m)
          rw [List.foldl_cons]
          have c := b (min n m) (List.mem_cons_self)
          refine ⟨?_, fun y hy => ?_⟩
          · rcases List.mem_cons.mp a with a | a
            · rw [a]
              by_cases hle : n ≤ m
              · rw [Int.min_eq_left hle]; simp
              · rw [Int.min_eq_right (by omega)]; simp
            · simp [a]
          · rcases List.mem_cons.mp hy with rfl | hy
            · exact Int.le_trans c (Int.min_le_left _ _)
            · rcases List.mem_cons.mp hy with rfl | hy
              · exact Int.le_trans c (Int.min_le_right _ _)
              · exact b y (List.mem_cons_of_mem _ hy)
      exact ⟨.int _, H1, I1.kept hk, ⟨t, rfl⟩, q _ (h1 ns n).1 (h1 ns n).2⟩
end
end Wg

/-! Wagon, part 23: a comprehension over enumerate(tuple); the order of tuples that begin with numbers. -/
namespace Wg
open PySem PySem.Spec PyProof.Rows L2
def CEn (g : TG) (tt : TT) (te : TE) (vs : List Nat) (σ : L2.St) (Q : VK) (ws : List V) (H1 : Hp) : Prop := ∃ a xs, ws = [.ref a] ∧ Tup H1 a xs ∧ CB (Itn a xs) g tt te vs σ Q H1
theorem e_lcEn {K : PySem.W.Frag} {ta : TA} {g : TG} {tt : TT} {te : TE} {vs : List Nat} {σ : L2.St} {H : Hp} {Q : VK} : tLc (iEnumU K ta) g tt te vs σ H Q ↔ ta σ H (CEn g tt te vs σ Q) := Iff.rfl
theorem g_CEn {K : PySem.W.Frag} {g : TG} {tt : TT} {te : TE} {vs : List Nat} {σ : L2.St} {Q : VK} {H1 : Hp} {a : Addr} {us : List V} (ha : Tup H1 a us) (P : Nat → Hp → List V → Prop)
    (p0 : ∀ D H2, H1 D = none → Keep [] H1 H2 → P 0 H2 [])
    (ps : ∀ D i x H acc (R : VK) (R0 : Hp → Prop) T H', H1 D = none → us[i]? = some x → Keep [] H1 H' → H' D = some (.lst acc) → Keep [] H H' → P i H acc → H' T = some (.tup [.int (i : Nat), x]) →
      (∀ z H4, Keep [] H' H4 → acc.length < sizeLine → (∀ H5, Keep [D] H4 H5 → P (i + 1) H5 (acc ++ [z])) → R z H4) → (∀ H3, Keep [] H' H3 → P (i + 1) H3 acc → R0 H3) →
      g (.ref T) (wipe σ vs) H' fun σ2 H2 => wipe σ2 vs = wipe σ vs ∧ tt σ2 H2 fun bb H3 => if bb = true then te σ2 H3 R else R0 H3)
    (pd : ∀ D H acc, H1 D = none → Keep [] H1 H → H D = some (.lst acc) → P us.length H acc → Q (.ref D) H) : CEn g tt te vs σ Q [.ref a] H1 := by
  refine ⟨a, us, rfl, ha, fun D hD => ?_⟩
  refine ⟨fun i m H => m = us.length - i ∧ i ≤ us.length ∧ Keep [] H1 H ∧ ∃ acc, H D = some (.lst acc) ∧ P i H acc, ⟨us.length, by omega, by omega, Keep.new hD, [], upd_same, p0 D _ hD (Keep.new hD)⟩, ?_⟩
  rintro i m H ⟨rfl, hi, k, acc, eD, p⟩
  have ta := ha.keep k nin0
  by_cases hlt : i < us.length
  · have hx := List.getElem?_eq_getElem hlt
    refine .inr ⟨⟨hlt, ta⟩, fun H' => i + 1 ≤ us.length ∧ Keep [] H1 H' ∧ ∃ acc, H' D = some (.lst acc) ∧ P (i + 1) H' acc, fun H' q => ⟨us.length - (i + 1), by omega, rfl, q⟩, fun v H' y => ?_⟩
    obtain ⟨T, x', rfl, hT, rfl, f1⟩ := y
    have kn : Keep [] H (upd H T (.tup [.int (i : Nat), x'])) := Keep.new hT
    refine ps D i x' H acc _ _ T _ hD f1 (k.trans kn) (kn _ _ nin0 eD) kn p upd_same (fun z H4 k4 hz q => ⟨acc, k4 _ _ nin0 (kn _ _ nin0 eD), hz, hlt, (k.trans (kn.trans k4)).past Keep.set hD, _, upd_same, q _ Keep.set⟩) fun H3 k3 q => ⟨hlt, k.trans (kn.trans k3), acc, k3 _ _ nin0 (kn _ _ nin0 eD), q⟩
  · have e : i = us.length := by omega
    subst e
    exact .inl ⟨⟨rfl, ta⟩, pd D H acc hD k eD p⟩
theorem lt_of_head {a b : Int} {r r' : List PyData} (h : a < b) : PySem.W.dataLt (.tuple (.int a :: r)) (.tuple (.int b :: r')) = true := by
  unfold PySem.W.dataLt
  simp only [PySem.W.keyToks, PySem.W.keyToksAll, List.cons_append, List.nil_append]
  simp [PyProof.Rows.lexLt, PyProof.Rows.itemOrd]
  refine .inr ⟨by decide, .inl ?_⟩
  simp [PyProof.Rows.itemLt, h]
theorem nlt_of_head {a b : Int} {r r' : List PyData} (h : b < a) : PySem.W.dataLt (.tuple (.int a :: r)) (.tuple (.int b :: r')) = false := by
  have h1 := lt_of_head (r := r') (r' := r) h
  cases e : PySem.W.dataLt (.tuple (.int a :: r)) (.tuple (.int b :: r')) with
  | false => rfl
  | true =>
    have h2 := (PyProof.Rows.listOrd PyProof.Rows.itemOrd).trans (PySem.W.keyToks (.tuple (.int b :: r'))) (PySem.W.keyToks (.tuple (.int a :: r))) (PySem.W.keyToks (.tuple (.int b :: r'))) h1 e
    have h3 := (PyProof.Rows.listOrd PyProof.Rows.itemOrd).irrefl (PySem.W.keyToks (.tuple (.int b :: r')))
    exact Bool.noConfusion (h3.symm.trans h2)
end Wg

/-! Wagon, part 24: len(set(xs)) of a list of texts, none told twice. -/
namespace Wg
open PySem PySem.Spec PyProof.Rows L2
section
variable {P : Program} {w : World} {A : Around} {R : Result → Shared → Prop} {it : Addr} {near own : List Addr} {G : Array GenState → Array GenState → Prop} {n : Nat} {Pv : Nat → Value → Prop} {St : Nat → Shared → Prop}
variable {K : Type} [DecidableEq K] [BEq K] [LawfulBEq K] {kd : KeyKind P w K}
theorem nodup_next {ks : List K} (nd : ks.Nodup) {i : Nat} (h : i < ks.length) : ks[i] ∉ ks.take i := fun hm => by
  obtain ⟨j, hj, e⟩ := List.getElem_of_mem hm
  rw [List.length_take] at hj
  rw [List.getElem_take] at e
  exact List.pairwise_iff_getElem.mp nd j i (by omega) h (by omega) e
/-- what set.update does over what walks through keys of one kind, none twice -/
theorem put_all (W : WalksS P w A.in1 it near own G n Pv St) {c : Addr} (hc : c ∉ near) {ks : List K} (hl : ks.length = n) (nd : ks.Nodup) (few : n + 1 < scanBound)
    (hv : ∀ i v, Pv i v → ∃ h : i < ks.length, kd.is ks[i] v = true ∧ v.scannable = true) :
    ∀ (m i : Nat), i + m = n → ∀ s : Shared, St i s → s.heap.SetOf kd c (fun k => decide (k ∈ ks.take i)) i →
      (∀ s', Moved (c :: own) G s s' → s'.heap.SetOf kd c (fun k => decide (k ∈ ks)) n → R (.ok (.ret .none)) s') →
      codeAny (model P w) A (.builtin "set.update.loop" ⟨[.ref c, .ref it], []⟩) R s := by
  have nc : c ∉ own := fun h => hc (W.sub c h)
  have up : ∀ {h h' : Heap} {S : K → Bool} {q : Nat}, h.SetOf kd c S q → (∀ o, h.get? c = some o → h'.get? c = some o) → h'.SetOf kd c S q := fun x k => by
    obtain ⟨o, es, ep, t, ho, x⟩ := x
    exact ⟨o, es, ep, t, k o ho, x⟩
  intro m
  induction m with
  | zero =>
    intro i e s st hS fin
    have e : i = n := e
    subst e
    refine codeAny_builtin PyProof.Rows.F.entry_set_update_loop ?_
    rw [Around.under_plainId PyProof.Rows.F.plain_set_update_loop]
    refine wpAny_bind (m := pyNext (.ref it)) (W.done s _ _ st fun s' mv => wpAny_pure (fin s' (mv.mono fun _ h => .tail _ h) ?_))
    have := up hS fun o ho => mv.heap c o nc ho
    have all : ks.take i = ks := by rw [← hl, List.take_length]
    simpa only [all] using this
  | succ m ih =>
    intro i e s st hS fin
    refine codeAny_builtin PyProof.Rows.F.entry_set_update_loop ?_
    rw [Around.under_plainId PyProof.Rows.F.plain_set_update_loop]
    refine wpAny_bind (m := pyNext (.ref it)) (W.item i s _ _ (by omega) st fun v s1 pv st1 mv => ?_)
    obtain ⟨hi, hk, sc⟩ := hv i v pv
    refine wpAny_bind (m := holding [v] (setAdd c v)) (wpAny_holding ?_)
    unfold setAdd
    refine wpAny_holding (wpAny_bind (kd.pyHash hk ?_))
    refine wpAny_setAddHashed_of (s := { s1 with toks := s1.toks + 1 }) hk sc (up hS fun o ho => mv.heap c o nc ho) (by omega) fun h2 same hS2 => ?_
    have no := nodup_next nd hi
    rw [if_neg (by rw [decide_eq_true_eq]; exact no)] at hS2
    have hS3 : h2.SetOf kd c (fun k => decide (k ∈ ks.take (i + 1))) (i + 1) := by
      refine PyProof.Rows.SetOf_congr hS2 (fun k => ?_) rfl
      rw [List.take_succ, List.getElem?_eq_getElem hi]
      simp only [Option.toList_some, List.mem_append, List.mem_singleton, Bool.decide_or]
    refine wpAny_pure ⟨plainId_quiet PyProof.Rows.F.plain_set_update_loop _, ih (i + 1) (by omega) _ (W.frame _ s1 _ _ st1 (Nat.le_succ _) fun b hb o ho => ?_) hS3 fun s2 mv2 hS4 => ?_⟩
    · rw [same.2 b fun x => hc (x ▸ hb)]
      exact ho
    · refine fin s2 (Moved.trans W.gtrans ((mv.mono fun _ h => .tail _ h).then_heap (Nat.le_succ _) fun b o hb ho => ?_) mv2) hS4
      rw [same.2 b fun x => hb (x ▸ .head _)]
      exact ho
end
section
variable {P : Program} {w : World} {A : Around} {E : Value → Shared → Prop} {s : Shared} {K : Type} [DecidableEq K] [BEq K] [LawfulBEq K] {kd : KeyKind P w K}
theorem set_of {l : Addr} {vs : Array Value} {ks : List K} {Q : Value → Shared → Prop} (hh : A.handled = none) (hl : s.heap.IsList l vs) (hn : ks.length = vs.size) (nd : ks.Nodup) (few : vs.size + 1 < scanBound)
    (hv : ∀ (i : Nat) (v : Value), vs[i]? = some v → ∃ h : i < ks.length, kd.is ks[i] v = true ∧ v.scannable = true)
    (q : ∀ (h : Heap) (t : Nat), h.SetOf kd s.heap.objs.size (fun k => decide (k ∈ ks)) vs.size → (∀ b o, b < s.heap.objs.size → s.heap.get? b = some o → h.get? b = some o) → Q (.ref s.heap.objs.size) { s with heap := h, toks := t }) :
    wpAny (model P w) A (call (.type "set") [.ref l]) Q E s := by
  obtain ⟨cl, rest, hmro⟩ := PySem.F.called_set.mro
  have f1 := PySem.F.called_set.made
  have f2 := PySem.F.called_set.sub
  have f3 := PySem.F.called_set.notType
  have f4 := PySem.F.called_set.canCreate
  have f5 := PySem.F.typeCall_set_1 (.ref l)
  have f6 := PySem.F.called_set.init.lookup
  have f7 := PySem.F.called_set.init.bind (.ref s.heap.objs.size)
  refine wpAny_call (codeAny_of_tree ?_)
  change wpAny _ _ (callAny (.type "set") _) _ _ _
  refine wpAny_pure ⟨Code.quiet_builtin _ (by decide +kernel), codeAny_builtin PySem.F.entry_type_call ?_⟩
  rw [Around.under_plain (weight_type_call_type "set" [.ref l] []) rfl]
  repeat (any_goals (first | assumption | wp_step))
  refine codeAny_mono (code_set_new_1 (.ref l) (E := E) (Q₁ := fun r s1 => ∃ b : Bool, r = .ref s.heap.objs.size ∧ s1 = { s with heap := s.heap.push { cls := .type "set", dict := none, data := .set #[] 0 (.fresh 0 0 b) } }) fun b => ⟨b, rfl, rfl⟩) fun r s1 hr => ?_
  rcases r with x | fl
  · exact hr
  cases fl with
  | ret r =>
    obtain ⟨b, rfl, rfl⟩ := hr
    have at0 : (s.heap.push { cls := .type "set", dict := none, data := .set #[] 0 (.fresh 0 0 b) }).get? s.heap.objs.size = some { cls := .type "set", dict := none, data := .set #[] 0 (.fresh 0 0 b) } := Heap.get?_push_size _ rfl
    have ty0 : Shared.TypeIs { s with heap := s.heap.push { cls := .type "set", dict := none, data := .set #[] 0 (.fresh 0 0 b) } } (.ref s.heap.objs.size) "set" := ⟨_, at0, rfl⟩
    repeat (any_goals (first | assumption | wp_step))
    refine codeAny_mono (codeAny_call_builtin (R := wants (fun r s2 => r = .none ∧ ∃ h t, s2 = { s with heap := h, toks := t } ∧ h.SetOf kd s.heap.objs.size (fun k => decide (k ∈ ks)) vs.size ∧
      ∀ b o, b < s.heap.objs.size → s.heap.get? b = some o → h.get? b = some o) E) PySem.F.called_set.init.plain PySem.F.entry_set_init (check_set_init_1 ty0 ?_)) fun r2 s2 hr2 => ?_
    · obtain ⟨⟨kc, kd1, kdat, ksl⟩, g1, g2, nl, g3⟩ := hl
      simp only at g2 g3
      subst g2 g3
      have t1 := PySem.F.sub_list_set
      have t2 := PySem.F.sub_list_frozenset
      have t3 : (Value.type "list" == Value.type "dict") = false := by decide
      have g4 := Heap.get?_push_of_some ({ cls := .type "set", dict := none, data := .set #[] 0 (.fresh 0 0 b) } : Obj) g1
      have here : (s.heap.push { cls := .type "set", dict := none, data := .set #[] 0 (.fresh 0 0 b) }).IsList l vs := ⟨_, g4, rfl, nl, rfl⟩
      have low : l < s.heap.objs.size := Heap.lt_size g1
      unfold Builtin.«set.__init__» noKeywords Builtin.Frozenset.updateFrom
      generalize hpy : pyIter = py
      wp_walk
      subst hpy
      refine wpAny_pyIter_list here (wpAny_bind (wpAny_runValue ?_))
      have sz : (s.heap.push { cls := .type "set", dict := none, data := .set #[] 0 (.fresh 0 0 b) }).objs.size = s.heap.objs.size + 1 := Heap.size_push _ _
      have apart : l ≠ s.heap.objs.size + 1 := Nat.ne_of_lt (Nat.lt_succ_of_lt low)
      have own : s.heap.objs.size ≠ s.heap.objs.size + 1 := Nat.ne_of_lt (Nat.lt_succ_self _)
      have quiet : A.in1.in1.in1.handled = none := by simp [hh]
      refine put_all (kd := kd) ((Walks.list quiet _ l (by rw [sz]; exact apart) vs).toS) (c := s.heap.objs.size) (by rw [sz]; simp only [List.mem_cons, List.not_mem_nil, or_false]; exact fun x => x.elim own (Nat.ne_of_gt low)) hn nd few hv vs.size 0 (by omega) _
        ⟨⟨_, Heap.get?_push_size _ rfl, rfl, rfl⟩, here.push _⟩ ?_ fun s2 mv hS => ?_
      · exact PyProof.Rows.SetOf_congr ((PyProof.Rows.setObjOf_fresh (knd := kd) b).setOf (Heap.get?_push_of_some _ at0) (by unfold scanBound; omega)) (fun k => by simp) rfl
      · obtain ⟨h2, gg, dd, tt, oo⟩ := s2
        obtain rfl : gg = s.gens := mv.gens
        obtain rfl : dd = s.drawn := mv.drawn
        obtain rfl : oo = s.os := mv.os
        refine wpAny_pure (wpAny_pure ⟨rfl, h2, tt, rfl, hS, fun a o ha ho => mv.heap a o ?_ (Heap.get?_push_of_some _ (Heap.get?_push_of_some _ ho))⟩)
        rw [sz]
        simp only [List.mem_cons, List.not_mem_nil, or_false]
        exact fun x => x.elim (Nat.ne_of_lt ha) (Nat.ne_of_lt (Nat.lt_succ_of_lt ha))
    · rcases r2 with x | f2
      · exact hr2
      cases f2 with
      | ret r =>
        obtain ⟨rfl, h, t, rfl, hS, old⟩ := hr2
        repeat (any_goals (first | assumption | wp_step))
        exact q _ _ hS old
      | _ => exact hr2.elim
  | _ => exact hr.elim
end
section
variable {X : Cx}
theorem text_at : ∀ {xs : List Str} {vs : List Value}, Vals (xs.map V.str) vs → ∀ (i : Nat) (v : Value), vs[i]? = some v → ∃ h : i < xs.length, (strKind X.prog X.w).is xs[i] v = true ∧ v.scannable = true
  | [], _, .nil, i, v, h => by simp at h
  | x :: xs, _, .cons r _, 0, v, h => by
    obtain ⟨t, rfl⟩ := r
    obtain rfl : Value.str x t = v := Option.some.inj h
    exact ⟨Nat.succ_pos _, strKind_is _ _ _ _, rfl⟩
  | x :: xs, _, .cons _ t, i + 1, v, h => by
    obtain ⟨g, q⟩ := text_at t i v h
    exact ⟨Nat.succ_lt_succ g, q⟩
def tLenTexts (K : PySem.W.Frag) (ta : TE) : TE := fun σ H Q => ta σ H fun x H1 => ∃ (l : Addr) (xs : List Str), x = V.ref l ∧ SqL K H1 l (xs.map V.str) ∧ xs.Nodup ∧ xs.length < 64 ∧ Q (.int xs.length) H1
theorem pe_lenTexts {a : Expr} {ta : TE} {p p2 q pos : Pos} (calm : X.calm = true) (g1 : Gl X "len") (m1 : X.mg "len" = none) (g2 : Gl X "set") (m2 : X.mg "set" = none) (pa : PE X a ta)
    (each : starEach [a] X.env = (false, eval a X.env) :: starEach [] X.env := by rfl) : PE X (.Call (.Name "len" p) [.Call (.Name "set" p2) [a] [] q] [] pos) (tLenTexts X.K ta) := by
  refine ⟨fun pins s σ H Q I h => Call_ (ld_blt I g1 m1 boot_len (PyProof.Rows.callWith_builtin1 (PyProof.Rows.args_cons ?_ rfl) rfl rfl))⟩
  refine Call_ (ld_blt I g2 m2 boot_set (PyProof.Rows.callWith_type1 (PyProof.Rows.args_cons (thn (pa.run pins s σ H _ I h) fun v s1 ⟨x, H1, J, r, hx⟩ => PyProof.Rows.args_nil ?_) each) each rfl))
  obtain ⟨l, xs, rfl, sq, nd, few, hx⟩ := hx
  cases r
  obtain ⟨vs, rv, lv, _⟩ := J.list sq
  have sz : xs.length = vs.toArray.size := by rw [List.size_toArray, ← rv.length, List.length_map]
  refine set_of (kd := strKind X.prog X.w) (J.ok.hd calm) lv.isList sz nd (by unfold scanBound; omega) (fun i v e => text_at rv i v (by simpa using e)) fun h2 t hS old => PyProof.Rows.args_nil ?_
  obtain ⟨o, es, ep, tb, ho, ex, hd, _, _, _, fit, hn⟩ := hS
  rw [← sz] at hn
  exact call_len_set ho ex hd fit (by rw [hn]; omega) ⟨.int xs.length, H1, (J.kept fun b o e => old b o (Heap.lt_size e) e).tok _, ⟨_, by rw [hn]⟩, hx⟩
end
section
/-- sorted(d) of a dict whose keys are texts -/
def uSortD : List V → Hp → VK → Prop := fun xs H Q => ∃ (a : Addr) (kvs : List (Key × V)) (ks : List Str), xs = [.ref a] ∧ H a = some (.dK kvs) ∧ kvs.map (·.1) = ks.map Sum.inr ∧ ks.length < 64 ∧
  ∀ ys, ys.Perm ks → sortedS ys = true → Mk H (.lst (ys.map V.str)) Q
theorem call_uSortD {X : Cx} (hc : X.calm = true) : CallR X (.builtin "sorted") uSortD := by
  intro pins s σ H xs us Q I r h
  obtain ⟨a, kvs, ks, e, ha, hk, hl, q⟩ := h
  exact call_sortedD hc pins s σ H xs us Q I r ⟨a, kvs, ks, e, .inl ha, hk, hl, fun ys p h1 h2 n => q ys h1 h2 p _ n (Keep.new n) upd_same⟩
theorem lt_tri {a b : Str} (h1 : ltCps a.cps.toList b.cps.toList = false) (h2 : ltCps b.cps.toList a.cps.toList = false) : a = b := by
  rw [ltCps_eq, decide_eq_false_iff_not] at h1 h2
  have e : a.cps.toList = b.cps.toList := List.le_antisymm (List.not_lt.mp h2) (List.not_lt.mp h1)
  obtain ⟨a⟩ := a
  obtain ⟨b⟩ := b
  have e2 : a.toList = b.toList := e
  rw [Array.toList_inj.mp e2]
theorem rising_pw : ∀ (l : List Str) (p : Str), risingS p l = true → (p :: l).Pairwise fun a b => ltCps b.cps.toList a.cps.toList = false
  | [], p, _ => List.pairwise_singleton _ _
  | x :: l, p, h => by
    have h' : (!ltCps x.cps.toList p.cps.toList && risingS x l) = true := h
    rw [Bool.and_eq_true, Bool.not_eq_true'] at h'
    have ih := rising_pw l x h'.2
    refine List.pairwise_cons.mpr ⟨fun y hy => ?_, ih⟩
    rcases List.mem_cons.mp hy with rfl | hy
    · exact h'.1
    · have h2 := (List.pairwise_cons.mp ih).1 y hy
      have h1 := h'.1
      rw [ltCps_eq, decide_eq_false_iff_not] at h1 h2 ⊢
      exact List.not_lt.mpr (List.le_trans (List.not_lt.mp h1) (List.not_lt.mp h2))
theorem sort_pw : ∀ {l : List Str}, sortedS l = true → l.Pairwise fun a b => ltCps b.cps.toList a.cps.toList = false
  | [], _ => .nil
  | x :: l, h => rising_pw l x h
theorem sort_one {xs ys : List Str} (h1 : xs.Pairwise fun a b => ltCps b.cps.toList a.cps.toList = false) (h2 : sortedS ys = true) (p : ys.Perm xs) : ys = xs :=
  List.Perm.eq_of_pairwise (fun a b _ _ x y => lt_tri y x) (sort_pw h2) h1 p
end
end Wg

/-! Wagon, part 26: own classes: C(e, ..), o.m(e, ..), by promises of the kind Keeps. -/
namespace Wg
open PySem PySem.Spec PyProof.Rows L2
section
variable {X : Cx} {CX : CXT} {k : Nat} {C f : Addr} {fd : FuncData} {ps : List Str} {sp : Sp} {E : XK} {x m : Str} {p pos apos : Pos} {o e : Expr} {es : List Expr} {ta : TE} {t : TA}
/-- what a call of a class asks: two new places, the instance and its dict -/
def MadeAt (sp : Sp) (E : XK) (C : Addr) (vs : List V) (H : Hp) (Q : VK) : Prop :=
  ∀ i d, H i = none → H d = none → d ≠ i → sp (.ref i :: vs) (upd (upd H d (.own i)) i (.ins C d [])) (fun v H' => v = .non ∧ Q (.ref i) H') E
theorem made_go {pins : List (Addr × Obj)} {σ : L2.St} {H : Hp} {s : Shared} {Q : VK} {us : List Value} {vs : List V}
    (M : L2.Mk X.K C f) (F : Keeps X.prog X.w X.K X.mg X.base CX k f fd ps sp) (hr : Rm (k + 1) X.A) (hb : Binds X.K fd ps []) (hx : Passes CX X E)
    (I : Inv X pins σ H s) (r : Vals vs us) (h : MadeAt sp E C vs H Q) : wpAny (model X.prog X.w) X.A (call (.ref C) us) (EP X pins σ Q) X.xe s := by
  let i : Addr := s.heap.objs.size + 1
  let d : Addr := s.heap.objs.size
  have g : sp (.ref i :: vs) _ _ _ := h i d (I.hok.fresh (Nat.le_succ _)) (I.hok.fresh (Nat.le_refl _)) (Nat.ne_of_lt (Nat.lt_succ_self _))
  have J := Inv.made (C := C) I
  have rr : Vals (V.ref i :: vs) (Value.ref i :: us) := .cons rfl r
  have len : ((Value.ref i :: us) ++ []).length = ps.length := by
    rw [List.append_nil, ← rr.length]
    exact F.len _ _ _ _ g
  have bd := hb _ (Value.ref i :: us) J.kIn len
  rw [List.append_nil] at bd
  have go := F.run _ X.stack _ _ ⟨Value.ref i :: us, []⟩ (Value.ref i :: us) _ _ E ⟨hr.rm.make C us [], hr.gd⟩ (J.env0.make C us []) bd rr g
  refine wpAny_call ?_
  refine make_map (f := f) I.kIn M.makes M.init (beq_iff_eq.mp M.fn) ?_
  refine codeAny_mono go fun res s' hq => ?_
  match res, hq with
  | .error u, hq => exact hx pins σ _ _ u s' J hq
  | .ok (.ret u), hq =>
    obtain ⟨v, H', J', rv, rfl, q⟩ := J.after hq
    exact ⟨rv, V.ref (s.heap.objs.size + 1), H', J', rfl, q⟩
  | .ok .next, hq => exact hq.elim
  | .ok .brk, hq => exact hq.elim
  | .ok .cont, hq => exact hq.elim
/-- C(e, ..), C an own class -/
def tNewC (sp : Sp) (E : XK) (C : Addr) (t : TA) : TE := fun σ H Q => t σ H fun vs H1 => MadeAt sp E C vs H1 Q
theorem pe_newC (M : L2.Mk X.K C f) (F : Keeps X.prog X.w X.K X.mg X.base CX k f fd ps sp) (hr : Rm (k + 1) X.A) (hg : Gl X x) (hm : X.mg x = some (.ref C)) (hb : Binds X.K fd ps []) (hx : Passes CX X E) (ha : PA X (e :: es) t)
    (hdb : (x == ("__debug__" : Str)) = false := by decide) (he : starEach (e :: es) X.env = (false, eval e X.env) :: starEach es X.env := by rfl) (hpl : (backTo pos (starEach es X.env)).any (·.1) = false := by rfl) :
    PE X (.Call (.Name x p) (e :: es) [] pos) (tNewC sp E C t) := by
  constructor
  intro pins s σ H Q I h
  have args := ha.run pos pins s σ H _ I h
  refine wpAny_Call_Name_kw (ld_glob I hg hm (PySem.W.callWith_K (h₀ := X.base) I.ok.mod.kin M.kp (thn args fun us s1 hh => ?_) he hpl) hdb)
  obtain ⟨vs, H1, J, r, q⟩ := hh
  exact ⟨J.kIn, made_go M F hr hb hx J r q⟩
/-- o.m(e, ..), m a method of an own class -/
def tMth (C : Addr) (m : Str) (sp : Sp) (E : XK) (ta : TE) (t : TA) : TE := fun σ H Q => ta σ H fun x H1 => ∃ a d fs, x = .ref a ∧ H1 a = some (.ins C d fs) ∧ fs.lookup m = none ∧ t σ H1 fun vs H2 => sp (x :: vs) H2 Q E
theorem pe_mth {pl : Sem Bool} (ho : PE X o ta) (c : Cls X.K C) (hm : Meth X.K C m f) (F : Keeps X.prog X.w X.K X.mg X.base CX k f fd ps sp) (hr : Rm k X.A) (hb : Binds X.K fd ps []) (hx : Passes CX X E) (ha : PA X (e :: es) t)
    (hst : starEach (e :: es) X.env = (false, eval e X.env) :: starEach es X.env := by rfl) (hpl : (backTo pos (starEach es X.env)).any (·.1) = false := by rfl)
    (ht : eval (.Call (.Attribute o m apos) (e :: es) [] pos) X.env = (do
      let ov ← eval o X.env
      standAt apos.atName
      let (f, first) ← holding [ov] (getMethod ov m pl)
      callWith pos f first (backTo pos (starEach (e :: es) X.env)) (backToKw pos (keywordEach [] X.env))) := by rfl) :
    PE X (.Call (.Attribute o m apos) (e :: es) [] pos) (tMth C m sp E ta t) := by
  constructor
  intro pins s σ H Q I h
  have self := ho.run pins s σ H _ I h
  refine PySem.W.methodCall_KW (pl := pl) (thn self fun u s1 hh => ?_) ht
  obtain ⟨y, H1, J, ry, a, d, fs, rfl, ea, l, q⟩ := hh
  cases ry
  have args := ha.run pos pins s1 σ H1 _ J q
  refine getmeth_ok J ea c hm l (PySem.W.callWith_K (first := [.ref a]) (h₀ := X.base) I.ok.mod.kin hm.kp (thn args fun us s2 hh => ?_) hst hpl)
  obtain ⟨vs, H2, J2, r, q2⟩ := hh
  exact ⟨J2.kIn, go_fn (us := .ref a :: us) (vs := .ref a :: vs) F hr hb hx J2 (.cons rfl r) q2⟩
end
end Wg

/-! Wagon, part 27: d.update(e) of two dicts; methods by qualified names. -/
namespace Wg
open PySem PySem.Spec PyProof.Rows L2
section
variable {X : Cx}
def uUpd : V → List V → Hp → VK → Prop := fun x vs H Q => ∃ a b kvs more, x = .ref a ∧ vs = [.ref b] ∧ a ≠ b ∧ H a = some (.dK kvs) ∧ H b = some (.dK more) ∧ kvs.length + more.length ≤ sizeLine ∧ Ch H a (.dK (mergeK kvs more)) (Q .non)
theorem mt_uUpd : MtR X "dict.update" uUpd := by
  intro pins s σ H x vs v us Q I rx rv h
  obtain ⟨a, b, kvs, more, rfl, rfl, ne, ha, hb, few, q⟩ := h
  cases rx
  obtain ⟨u, rfl, ru⟩ := vals1 rv
  obtain rfl : u = Value.ref b := ru
  obtain ⟨z1, y1, ws, r1, d1⟩ := dk_of I.hok ha
  obtain ⟨z2, y2, ms, r2, d2⟩ := dk_of I.hok hb
  refine call_meetsIn PySem.F.slot_dict_update d1.typeIs PySem.F.entry_dict_update (PySem.F.args_dict_update_2 _ _) (meets_dict_update (mixKind X.prog X.w) a b ne y2) ⟨ws, ms, d1, d2, by rw [← r1.length, ← r2.length]; exact few, fun h2 dd _ same => ?_⟩
  have fits : (mergeK kvs more).length ≤ sizeLine := Nat.le_trans (length_mergeK more kvs) few
  have there : ∃ o, h2.get? a = some o := let ⟨o, _, _, ho, _⟩ := dd; ⟨o, ho⟩
  exact ⟨.non, upd H a (.dK (mergeK kvs more)), d_write (t' := s.toks) I (by rw [ha]; trivial) same there (dk_new fits y1 (r2.merge r1) dd), rfl, q.at⟩
end
structure FnM (K : PySem.W.Frag) (x qual : Str) (st : Stmt) (f : Addr) (fd : FuncData) (ps : List Str) : Prop where
  fn : Fun K x qual st f fd
  b : Binds K fd ps []
end Wg

/-! Wagon, part 28: a comprehension within a comprehension that reads names of it. -/
namespace Wg
open PySem PySem.Spec PyProof.Rows L2
theorem rel_seen {f : NameKind → Str → NameKind} (hf : ∀ k x, k = .cell ∨ k = .free → f k x = .cell ∨ f k x = .free) : ∀ {l : List (Str × NameKind)} {x : Str}, l.lookup x = some .cell ∨ l.lookup x = some .free →
    (l.map fun p => (p.1, f p.2 p.1)).lookup x = some .cell ∨ (l.map fun p => (p.1, f p.2 p.1)).lookup x = some .free
  | [], _, h => by simp at h
  | (n, k) :: l, x, h => by
    rw [List.map_cons, List.lookup_cons]
    rw [List.lookup_cons] at h
    cases e : x == n with
    | true =>
      rw [e] at h
      simp only [Option.some.injEq] at h
      have := hf k n h
      simpa using this
    | false =>
      rw [e] at h
      exact rel_seen hf h
theorem blkOk_in {N : List Str} {sc scope : Scope} {env : Env} {own : List (Str × Nat)} (h : blkC N sc scope own = true) : BlkOk N (relabel sc env) scope own := by
  have b := blkOk_by h
  refine ⟨b.kind, b.uniq, b.ix, fun y hy e => ?_, b.own⟩
  have := rel_seen (f := fun k n => if (k == NameKind.free && env.scope.kind == .function && env.kindOf n == some .cell) then .cell else k) (fun k x h => by
    split
    · exact .inl rfl
    · exact h) (b.free y hy e)
  have eq : (relabel sc env).names = sc.names.map fun p => (p.1, if (p.2 == NameKind.free && env.scope.kind == .function && env.kindOf p.1 == some .cell) then NameKind.cell else p.2) := by
    unfold relabel
    refine List.map_congr_left fun p _ => ?_
    obtain ⟨n, k⟩ := p
    show (if _ then _ else _) = _
    split <;> rfl
  rw [eq]
  exact this
end Wg

/-! Wagon, part 29: displays with [*xs, y]: HandS.Star; in, not in over data: HandS.Deep. -/
namespace Wg
open PySem PySem.Spec PyProof.Rows L2
theorem un65 {k : Nat} {A : Around} (hr : Rm k A) : A.units + 65 < cLine := by
  have := hr.rm.un
  omega
theorem g_FR2 {g : TG} {tb : TS} {D : Ends} {σ : L2.St} {H1 : Hp} {i0 j : Int} (b1 : -(2 ^ 62) ≤ i0) (b2 : i0 < 2 ^ 62) (b3 : -(2 ^ 62) ≤ j) (b4 : j < 2 ^ 62) (h : Loop (j - i0).toNat (fun i => .int (i0 + (i : Nat))) g tb D σ H1) : FR2 g tb D σ [.int i0, .int j] H1 := by
  obtain ⟨Pv, p0, ps, pd⟩ := h
  exact ⟨i0, j, rfl, ⟨b1, b2, b3, b4⟩, for_range (lo := i0) (n := (j - i0).toNat) Pv p0 (fun i σ H hi p => ps i σ H hi p) pd⟩
end Wg

/-! Wagon, part 30: all and any of a generator expression whose element is any expression. -/
namespace Wg
open PySem PySem.Spec PyProof.Rows L2

/-- the context of a generator expression's frame: it began at s; fp: its iterator's objects -/
abbrev gx (X : Cx) (s : Shared) (H : Hp) (ce : Env) (A : Around) (fp : List Addr) : Cx :=
  { X with s_0 := s, H_0 := H, env := ce, outer := X.stack, stack := ce :: X.stack, A := A, ex := fp, fn := fun _ => false, pn := [], xe := fun _ _ => False }
/-- the scope of a generator expression -/
structure GenOk (N : List Str) (sc scope : Scope) (own : List (Str × Nat)) : Prop where
  b : BlkOk N sc scope own
  noc : ∀ y ∈ scope.names, y.2 ≠ .cell
  dot : scope.names.lookup (".0" : Str) = some NameKind.local
  co : scope.isCoroutine = false
abbrev gEnv (X : Cx) (scope : Scope) (C : Addr) (code : Value) : Env := genEnv scope (cloFrom X.env.cells scope.names []) C code builtinsNs X.env
section
variable {X : Cx} {pins : List (Addr × Obj)} {σ : L2.St} {H : Hp} {s : Shared}
theorem gen_free {scope : Scope} {own : List (Str × Nat)} (I : Inv X pins σ H s) (ok : GenOk X.N X.env.scope scope own) : ∀ y ∈ scope.names, y.2 = .free → ∃ c, X.env.cells.lookup y.1 = some c := fun y hy fr =>
  (ok.b.free y hy fr).elim (fun q => I.ok.has _ (.inl q)) fun q => I.ok.has _ (.inr q)
/-- the frame's beginning -/
theorem gen_start {scope : Scope} {own : List (Str × Nat)} {fp : List Addr} {code : Value} {A : Around} {m : Str → Option Value} {z : Shared} (I : Inv X pins σ H s) (ok : GenOk X.N X.env.scope scope own) (hN : X.N.Nodup)
    (hfp : ∀ b ∈ fp, FpOk X pins H b ∧ b < s.heap.objs.size) (hd : A.handled = none) (fr : A.frames = some (gEnv X scope s.heap.objs.size code :: X.stack)) (zo : z.os = s.os) (zb : AllBare z.gens) (zk : ∀ b o, s.heap.get? b = some o → z.heap.get? b = some o)
    (zc : z.heap.Ns s.heap.objs.size m) : Inv (gx X s H (gEnv X scope s.heap.objs.size code) A fp) [] (wipe σ (own.map (·.2))) H z := by
  have free := gen_free I ok
  have inClo : ∀ {y c}, (y, c) ∈ cloFrom X.env.cells scope.names [] → X.env.cells.lookup y = some c ∧ c < s.heap.objs.size := fun {y c} hm => by
    rcases cloFrom_mem hm with q | ⟨q, rfl⟩
    · cases q
    · obtain ⟨c, hc⟩ := free _ q rfl
      rw [hc]
      obtain ⟨w, x⟩ := I.cell _ _ hc
      exact ⟨rfl, x.lt⟩
  have inCl : ∀ {y c}, (cloFrom X.env.cells scope.names []).lookup y = some c → X.env.cells.lookup y = some c ∧ c < s.heap.objs.size := fun e => inClo (PySem.mem_of_lookup e)
  have find : ∀ {y}, scope.names.lookup y = some .free → ∃ c, (cloFrom X.env.cells scope.names []).lookup y = some c ∧ X.env.cells.lookup y = some c := fun {y} q => by
    obtain ⟨c, e⟩ := mem_lookup (cloFrom_has (cells := X.env.cells) (acc := []) (PySem.mem_of_lookup q))
    exact ⟨c, e, (inCl e).1⟩
  have noCell : ∀ {y}, scope.names.lookup y ≠ some .cell := fun q => ok.noc _ (PySem.mem_of_lookup q) rfl
  have OK : (gx X s H (gEnv X scope s.heap.objs.size code) A fp).Ok := by
    refine ⟨I.ok.mod, ok.b.kind, I.ok.glob, rfl, Nat.le_refl _, fun y u c e1 e2 => ?_, fun y hy => ?_, fun y c q => ?_, fun _ => hd, fr, .inr ⟨rfl, rfl⟩, fun b hb => ⟨?_, fun y c e q => ?_⟩, I.bs, Nat.le_trans I.ok.bsz I.sz, fun b o e hb => ?_, fun b hb q => ?_, I.stack, I.stkFree⟩
    · exact I.ok.inj y u c (inCl e1).1 (inCl e2).1
    · rcases hy with q | q
      · exact absurd q noCell
      · obtain ⟨c, e, _⟩ := find q
        exact ⟨c, e⟩
    · cases q
    · exact Nat.ne_of_lt (hfp b hb).2
    · exact (hfp b hb).1.2.2.2.2.1 y c (inCl e).1 q
    · rcases (hfp b hb).1.2.2.2.1 with q | q
      · exact I.ok.noex b o e q
      · exact absurd (Nat.lt_of_lt_of_le (Heap.lt_size e) (Nat.le_trans I.ok.bsz q)) (Nat.lt_irrefl _)
    · rcases List.mem_cons.mp (I.stkSub b q) with q | q
      · exact (hfp b hb).1.2.1 q
      · exact (hfp b hb).1.2.2.1 q
  refine ⟨OK, zo, zb, Un.kept zk, ⟨m, zc, fun i y v e1 e2 vis => ?_⟩, fun y c e => ?_, I.hok.fresh (Nat.le_refl _), fun y c e => I.freeC y c (inCl e).1, fun p hp => absurd (show p ∈ ([] : List (Addr × Obj)) ++ [] from hp) (by simp), I.hok.kept zk, by rw [wipe_length]; exact I.len⟩
  · obtain ⟨e2, hne⟩ := wipe_some e2
    have fr' : scope.names.lookup y = some .free := by
      have no : ∀ k, scope.names.lookup y = some k → (k = .local ∨ k = .cell) → False := fun k q h => by
        rcases ok.b.own _ (PySem.mem_of_lookup q) h with e | e
        · obtain ⟨p, hp, ep⟩ := List.mem_map.mp e
          have e3 := ok.b.ix p hp
          rw [show p.1 = y from ep] at e3
          exact hne (List.mem_map.mpr ⟨p, hp, nodup_ix hN e3 e1⟩)
        · exact e (List.mem_of_getElem? e1)
      rcases vis with q | q | q
      · exact (no _ q (.inl rfl)).elim
      · exact (no _ q (.inr rfl)).elim
      · exact q
    obtain ⟨m', hn, hl⟩ := I.loc
    have visX : Vis X.env.scope y := (ok.b.free _ (PySem.mem_of_lookup fr') rfl).elim (fun q => .inr (.inl q)) fun q => .inr (.inr q)
    obtain ⟨w, r, q⟩ := hl i y v e1 e2 visX
    obtain ⟨c, h1, h2⟩ := find fr'
    refine ⟨w, r, .inr ⟨.inr fr', ?_⟩⟩
    rcases q with ⟨k, _⟩ | ⟨_, c', e', x⟩
    · have k : X.env.scope.names.lookup y = some .local := k
      rcases ok.b.free _ (PySem.mem_of_lookup fr') rfl with k' | k' <;> rw [show X.env.scope.names.lookup y = _ from k'] at k <;> cases k
    · rw [h2] at e'
      cases e'
      exact ⟨c, h1, x.keeps zk⟩
  · obtain ⟨w, x⟩ := I.cell y c (inCl e).1
    exact ⟨w, x.keeps zk⟩
end

theorem over_gen {AS : Around} {elt tg iter : Expr} {ifs : List Expr} {scope : Scope} {pos : Pos} {x y : Value} {env : Env} : AS.over (.compLoop (.GeneratorExp elt [⟨tg, iter, ifs, 0⟩] scope pos) 0 x y env) [] = AS.deeper env := by
  first
    | rfl
    | (obtain ⟨hd, d, fr, gs, u⟩ := AS; simp [Around.over, Around.deeper, marksOver, frameCount, unitsOf, envsOf, guardsOf, pushEnvs, pushGuards, Code.envs, Code.env?, Code.isFrame, Code.guards, Code.weight, Code.frames, Code.isCreation, Code.isGuard, Code.isCaller, Code.cUnits]; cases fr <;> rfl)
theorem over_gen0 {AS : Around} {elt tg iter : Expr} {ifs : List Expr} {scope : Scope} {pos : Pos} {x y : Value} {env : Env} : AS.over (.compStart (.GeneratorExp elt [⟨tg, iter, ifs, 0⟩] scope pos) 0 x y env) [] = AS.deeper env := by
  first
    | rfl
    | (obtain ⟨hd, d, fr, gs, u⟩ := AS; simp [Around.over, Around.deeper, marksOver, frameCount, unitsOf, envsOf, guardsOf, pushEnvs, pushGuards, Code.envs, Code.env?, Code.isFrame, Code.guards, Code.weight, Code.frames, Code.isCreation, Code.isGuard, Code.isCaller, Code.cUnits]; cases fr <;> rfl)
/-- between two turns: what stood stands -/
structure Nap (s s' : Shared) : Prop where
  os : s'.os = s.os
  bare : AllBare s'.gens
  size : s.gens.size ≤ s'.gens.size
  keep : ∀ b o, s.heap.get? b = some o → s'.heap.get? b = some o
theorem inv_nap {X : Cx} {pins : List (Addr × Obj)} {σ : L2.St} {H : Hp} {s s' : Shared} (I : Inv X pins σ H s) (n : Nap s s') : Inv X pins σ H s' :=
  I.call' (ch := []) n.os (Un.kept n.keep) (I.hok.kept n.keep) n.bare fun b hb => absurd hb (by simp)
/-- what a turn begins with -/
structure AtTurn (G : Cx) (a : Addr) (ob : Obj) (g : Nat) (fp : List Addr) (tn : Nat → Heap → Prop) (σ : L2.St) (i : Nat) (H : Hp) (s : Shared) : Prop where
  inv : Inv G [(a, ob)] σ H s
  tn : tn i s.heap
  no : ∀ b ∈ fp, H b = none
  g : g < s.gens.size
/-- what a turn asks -/
def TurnW (J : It) (gg : TG) (tt : TT) (te : TE) (vs : List Nat) (σ : L2.St) (W : Nat → Nat → Hp → Prop) (Q : VK) (stop : Bool) : Prop := ∀ i m H, W i m H →
  (J.stop i H ∧ Q (.bl (!stop)) H) ∨ (J.go i H ∧ ∃ Nx : Hp → Prop, (∀ H', Nx H' → ∃ m', m' < m ∧ W (i + 1) m' H') ∧ ∀ x H', J.yld i H x H' → gg x (wipe σ vs) H' fun σ2 H2 => wipe σ2 vs = wipe σ vs ∧ tt σ2 H2 fun b H3 =>
    if b = true then te σ2 H3 fun y H4 => ∃ k, y = .bl k ∧ if k = stop then Q (.bl stop) H4 else Nx H4 else Nx H3)
/-- what is handed out, what is left at the end -/
def GnY (G : Cx) (a : Addr) (ob : Obj) (g : Nat) (fp : List Addr) (tn : Nat → Heap → Prop) (σ : L2.St) (W : Nat → Nat → Hp → Prop) (Q : VK) (stop : Bool) : Protocol := fun n _ v s kap =>
  (v = .bool stop ∧ ∃ σ' H', Inv G [(a, ob)] σ' H' s ∧ Q (.bl stop) H') ∨ (v = .bool (!stop) ∧ ∃ i m H', m < n ∧ AtTurn G a ob g fp tn σ i H' s ∧ W i m H' ∧ ∀ s', Nap s s' → kap (.send .none) s')
def GnR (G : Cx) (a : Addr) (ob : Obj) (σ : L2.St) (Q : VK) (stop : Bool) : GenEnd := fun _ _ r s => r = .ok .next ∧ ∃ H', Inv G [(a, ob)] σ H' s ∧ Q (.bl (!stop)) H'
theorem not_stop {k stop : Bool} (h : ¬ k = stop) : k = !stop := by
  cases k <;> cases stop <;> first | rfl | exact absurd rfl h
theorem gsz_thn {α : Type} {M : Model} {A : Around} {s : Shared} {t : Sem α} {Q Q' : α → Shared → Prop} {E : Value → Shared → Prop} {n : Nat} (hn : n ≤ s.gens.size) (h : wpAny M A t Q (fun _ _ => False) s) (k : ∀ a s', n ≤ s'.gens.size → Q a s' → Q' a s') : wpAny M A t Q' E s :=
  GenW.wpAny_gsz hn (wpAny_mono h (fun a s' q z => k a s' z q) fun _ _ z => False.elim z)
section
variable {G : Cx} {AS : Around} {elt tg iter : Expr} {ifs : List Expr} {scope : Scope} {pos : Pos} {it a : Addr} {ob : Obj} {g : Nat} {fp : List Addr} {tn : Nat → Heap → Prop} {J : It} {gg : TG} {tt : TT} {te : TE} {vs : List Nat} {σ : L2.St} {W : Nat → Nat → Hp → Prop} {Q : VK} {stop : Bool}
theorem seg_turns (ho : AS.deeper G.env = G.A) (hx : G.xe = fun _ _ => False) (hc : G.calm = true) (hpn : G.pn = []) (T : Turn G.prog G.w G.K tg J fp it tn) (hex : ∀ b ∈ fp, b ∈ G.ex) (hab : ∀ b ∈ fp, a ≠ b) (hco : G.env.scope.isCoroutine = false) (pg : PG G tg gg) (pt : PTs G ifs tt) (pe : PE G elt te)
    (turn : TurnW J gg tt te vs σ W Q stop) : ∀ (m n i : Nat) (H : Hp) (s₀ s : Shared), m < n → AtTurn G a ob g fp tn (wipe σ vs) i H s → W i m H →
      Seg (model G.prog G.w) AS (GnR G a ob (wipe σ vs) Q stop) (GnY G a ob g fp tn (wipe σ vs) W Q stop) n s₀ (.compLoop (.GeneratorExp elt [⟨tg, iter, ifs, 0⟩] scope pos) 0 (.ref it) .none G.env)
        ((model G.prog G.w).den (.compLoop (.GeneratorExp elt [⟨tg, iter, ifs, 0⟩] scope pos) 0 (.ref it) .none G.env)) [] s := by
  intro m
  induction m using Nat.strongRecOn with
  | ind m ih =>
    intro n i H s₀ s hmn at0 w
    have fpk : ∀ {σ' : L2.St} {H' : Hp} {s' : Shared}, Inv G [(a, ob)] σ' H' s' → (∀ b ∈ fp, H' b = none) → ∀ b ∈ fp, FpOk G [(a, ob)] H' b := fun {σ' H' s'} I' no b hb =>
      ⟨no b hb, (I'.ok.exf b (hex b hb)).1, I'.ok.exfs b (hex b hb), .inl (hex b hb), fun x c e => (I'.ok.exf b (hex b hb)).2 x c e, fun p hp => by
        rw [hpn] at hp
        rw [List.mem_singleton.mp (show p ∈ [(a, ob)] from hp)]
        exact hab b hb⟩
    show Seg _ AS _ _ _ s₀ _ ((compTurn (.GeneratorExp elt [⟨tg, iter, ifs, 0⟩] scope pos) 0 (.ref it) .none G.env).onRaise (leaving G.env)) [] s
    rw [compTurn_gen, Sem.onRaise_eq_wrap]
    refine seg_bind_wrap (wpAny_standAt ?_)
    rcases turn i m H w with ⟨st, q⟩ | ⟨go, Nx, hNx, step⟩
    · refine seg_bind_wrap ?_
      rw [over_gen, ho]
      have td := T.done G rfl rfl rfl hc i [(a, ob)] s (wipe σ vs) H (fun _ _ => False) at0.inv (fpk at0.inv at0.no) at0.tn st
      refine thnF td fun r s1 ⟨hr, I1⟩ => ?_
      subst hr
      exact seg_end (.ok .next) ⟨rfl, H, I1, q⟩
    · refine seg_bind_wrap ?_
      rw [over_gen, ho]
      have ti := T.item G rfl rfl rfl hc i [(a, ob)] s (wipe σ vs) H (fun _ _ => False) at0.inv (fpk at0.inv at0.no) at0.tn go
      refine gsz_thn (Nat.succ_le_of_lt at0.g) ti fun r s1 g1 ⟨u, hr, h1⟩ => ?_
      subst hr
      refine seg_bind_wrap ?_
      rw [over_gen, ho]
      refine gsz_thn g1 h1 fun _ s2 g2 ⟨x, H2, I2, r2, y2, t2, n2⟩ => ?_
      have I2' := I2.pinned (fpk I2 n2) (T.obj _ _ t2)
      refine seg_bind_wrap ?_
      rw [over_gen, ho]
      have pgr := pg.run _ s2 _ H2 x u _ I2' r2 (step x H2 y2)
      rw [hx] at pgr
      refine gsz_thn g2 pgr fun _ s3 g3 ⟨σ3, H3, I3, w3, q3⟩ => ?_
      refine seg_bind_wrap ?_
      rw [over_gen, ho]
      have ptr := pt.run _ s3 σ3 H3 _ I3 q3
      rw [hx] at ptr
      refine gsz_thn g3 ptr fun b s4 g4 ⟨H4, I4, q4⟩ => ?_
      -- the end of a turn that goes on
      have fin : ∀ {s' : Shared} {H' : Hp}, Inv G ([(a, ob)] ++ pinsAt fp s2.heap) σ3 H' s' → g + 1 ≤ s'.gens.size → AtTurn G a ob g fp tn (wipe σ vs) (i + 1) H' s' := fun {s' H'} I' gs => by
        have pin' : ∀ b ∈ fp, ∀ o, s2.heap.get? b = some o → s'.heap.get? b = some o ∧ H' b = none := fun b hb o e =>
          let z := I'.pin (b, o) (List.mem_append_right _ (List.mem_append_right _ (mem_pinsAt hb e)))
          ⟨z.1, z.2.1⟩
        have hl : (wipe σ vs).length = σ3.length := by rw [← w3, wipe_length]
        refine ⟨(I'.unpinned (pins := [(a, ob)])).weak hl (fun j v e => ?_), T.keep _ _ _ t2 fun b hb o e => (pin' b hb o e).1, fun b hb => ?_, gs⟩
        · rw [← w3] at e
          exact (wipe_some e).1
        · obtain ⟨o, e, _⟩ := T.obj _ _ t2 b hb
          exact (pin' b hb o e).2
      cases b with
      | false =>
        simp only [Bool.false_eq_true, if_false] at q4 ⊢
        obtain ⟨m', hm, w'⟩ := hNx _ q4
        exact seg_again rfl (ih m' hm n (i + 1) H4 s₀ s4 (by omega) (fin I4 g4) w')
      | true =>
        simp only [if_true] at q4 ⊢
        obtain ⟨n', rfl⟩ : ∃ n', n = n' + 1 := ⟨n - 1, by omega⟩
        have hy : ∀ v, yieldOut G.env v = yieldValue v := fun v => by simp only [yieldOut, hco, Bool.false_eq_true, if_false]
        simp only [hy]
        rw [Sem.bind_eq_wrap', Sem.bind_eq_wrap', Sem.wrap_wrap, Sem.wrap_wrap]
        refine seg_wrap ?_
        rw [over_gen, ho]
        have per := pe.run _ s4 σ3 H4 _ I4 q4
        rw [hx] at per
        refine gsz_thn g4 per fun v s5 g5 ⟨yv, H5, I5, r5, k, ek, q5⟩ => ?_
        subst ek
        obtain rfl : v = .bool k := r5
        refine seg_at (seg_yield rfl rfl rfl ?_)
        by_cases hk : k = stop
        · rw [if_pos hk] at q5
          exact .inl ⟨by rw [hk], σ3, H5, I5.unpinned (pins := [(a, ob)]), q5⟩
        · rw [if_neg hk] at q5
          obtain ⟨m', hm, w'⟩ := hNx _ q5
          refine .inr ⟨congrArg Value.bool (not_stop hk), i + 1, m', H5, by omega, fin I5 g5, w', fun s'' nap => ?_⟩
          have f5 := fin I5 g5
          exact seg_again rfl (ih m' hm n' (i + 1) H5 s'' s'' (by omega) ⟨inv_nap f5.inv nap, T.keep _ _ _ f5.tn fun b _ o e => nap.keep b o e, f5.no, Nat.lt_of_lt_of_le f5.g nap.size⟩ w')
end

section
variable {G : Cx} {AS : Around} {elt tg iter : Expr} {ifs : List Expr} {scope : Scope} {pos : Pos} {it a : Addr} {ob : Obj} {g : Nat} {fp : List Addr} {tn : Nat → Heap → Prop} {J : It} {gg : TG} {tt : TT} {te : TE} {vs : List Nat} {σ : L2.St} {W : Nat → Nat → Hp → Prop} {Q : VK} {stop : Bool}
theorem seg_begin (ho : AS.deeper G.env = G.A) (hx : G.xe = fun _ _ => False) (hc : G.calm = true) (hpn : G.pn = []) (T : Turn G.prog G.w G.K tg J fp it tn) (hex : ∀ b ∈ fp, b ∈ G.ex) (hab : ∀ b ∈ fp, a ≠ b) (hco : G.env.scope.isCoroutine = false) (pg : PG G tg gg) (pt : PTs G ifs tt) (pe : PE G elt te)
    (turn : TurnW J gg tt te vs σ W Q stop) (m n : Nat) (H : Hp) (s₀ s : Shared) (hmn : m < n) (at0 : AtTurn G a ob g fp tn (wipe σ vs) 0 H s) (w : W 0 m H) :
      Seg (model G.prog G.w) AS (GnR G a ob (wipe σ vs) Q stop) (GnY G a ob g fp tn (wipe σ vs) W Q stop) n s₀ (.compStart (.GeneratorExp elt [⟨tg, iter, ifs, 0⟩] scope pos) 0 (.ref it) .none G.env)
        ((model G.prog G.w).den (.compStart (.GeneratorExp elt [⟨tg, iter, ifs, 0⟩] scope pos) 0 (.ref it) .none G.env)) [] s := by
  have loop := seg_turns (iter := iter) (scope := scope) (pos := pos) ho hx hc hpn T hex hab hco pg pt pe turn m n 0 H s₀ s hmn at0 w
  show Seg _ AS _ _ _ s₀ _ ((compStart (.GeneratorExp elt [⟨tg, iter, ifs, 0⟩] scope pos) 0 (.ref it) .none G.env).onRaise (leaving G.env)) [] s
  unfold compStart
  rw [Sem.onRaise_eq_wrap]
  show Seg _ AS _ _ _ s₀ _ ((ask >>= _).wrap _ _ _ _) [] s
  refine seg_bind_wrap (wpAny_askSetting ?_)
  split
  · exact seg_again rfl loop
  · first
      | exact seg_bind_wrap (wpAny_rule (seg_bind_wrap (wpAny_standAt (seg_bind_wrap (T.self _ 0 s _ _ at0.tn (seg_again rfl loop))))))
      | (refine seg_bind_wrap (wpAny_rule ?_); show Seg _ AS _ _ _ s₀ _ ((standAt iter.pos >>= _).wrap _ _ _ _) [] s; exact seg_bind_wrap (wpAny_standAt (seg_bind_wrap (T.self _ 0 s _ _ at0.tn (seg_again rfl loop)))))
/-- the generator at a, to be asked at most n times more -/
structure Rdy (M : Model) (AS : Around) (R : GenEnd) (Y : Protocol) (a : Addr) (ob : Obj) (g n : Nat) (s : Shared) : Prop where
  at' : s.heap.get? a = some ob
  lim : s.heap.NoLimit
  st : ∃ gs, s.gens[g]? = some gs ∧ ∀ s', Nap s s' → gs.Goes M AS R Y n (.send .none) s'
theorem nap_trans {s s1 s2 : Shared} (x : Nap s s1) (y : Nap s1 s2) : Nap s s2 := ⟨y.os.trans x.os, y.bare, Nat.le_trans x.size y.size, fun b o e => y.keep b o (x.keep b o e)⟩
theorem nap_gen {s : Shared} {g : Nat} {gs : GenState} (hb : AllBare s.gens) (h : gs.bare = true) : Nap s (s.setGen g gs) := by
  refine ⟨rfl, ?_, by simp [Shared.setGen], fun b o e => e⟩
  intro y hy
  obtain ⟨i, hi, rfl⟩ := Array.mem_iff_getElem.mp hy
  have hi' : i < s.gens.size := by simpa [Shared.setGen] using hi
  by_cases e : g = i
  · subst e
    have : (s.setGen g gs).gens[g] = gs := by simp [Shared.setGen]
    rw [this]
    exact h
  · have q : (s.setGen g gs).gens[i]? = some s.gens[i] := by
      show (s.gens.setIfInBounds g gs)[i]? = _
      rw [Array.getElem?_setIfInBounds_ne e, Array.getElem?_eq_getElem hi']
    rw [Array.getElem?_eq_getElem hi] at q
    rw [Option.some.inj q]
    exact hb _ (Array.getElem_mem hi')
theorem set_self {s : Shared} {g : Nat} {gs : GenState} (h : g < s.gens.size) : (s.setGen g gs).gens[g]? = some gs := by
  simp [Shared.setGen, h]
/-- all( .. ): the walk over the generator -/
theorem all_turns {A : Around} {Rr : Result → Shared → Prop} (hh : A.handled = none) (hroom : A.depth < recursionLimit) (hg : ∀ h : Heap, h.get? a = some ob → h.IsGen a g)
    (fin : ∀ b s' σ' H', Inv G [(a, ob)] σ' H' s' → Q (.bl b) H' → Rr (.ok (.ret (.bool b))) s') : ∀ (n : Nat) (s : Shared), AllBare s.gens →
      Rdy (model G.prog G.w) A.in1.in1 (GnR G a ob (wipe σ vs) Q false) (GnY G a ob g fp tn (wipe σ vs) W Q false) a ob g n s → codeAny (model G.prog G.w) A (.builtin "all.loop" ⟨[.ref a], []⟩) Rr s := by
  intro n
  induction n with
  | zero =>
    intro s hb rdy
    obtain ⟨gs, hgs, hgo⟩ := rdy.st
    refine codeAny_builtin F.entry_all_loop ?_
    rw [Around.under_plainId F.plain_all_loop _]
    show wpAny _ A.in1 (pyNext (.ref a) >>= _) _ _ s
    refine wpAny_bind (wpAny_pyNext_genexpQ (A := A.in1) (P := fun _ _ s₁ => ∃ H', Inv G [(a, ob)] (wipe σ vs) H' s₁ ∧ Q (.bl (!false)) H') (Y := GnY G a ob g fp tn (wipe σ vs) W Q false) (n := 0) hh rdy.lim hroom (hg _ rdy.at') hgs (hgo _ (nap_gen hb rfl)) (fun v s₁ gs' hb' hv => ?_) fun s₁ hp h' hk => ?_)
    · rcases hv with ⟨rfl, σ', H', I', q'⟩ | ⟨_, i, m, H', hm, _⟩
      · refine wpAny_bind (wpAny_holding (wpAny_truthy_bool ?_))
        refine wpAny_bind (wpAny_letGo ?_)
        simp only [Bool.false_eq_true, if_false]
        refine wpAny_bind (wpAny_rule (wpAny_pure ?_))
        exact fin false _ σ' H' (inv_nap I' (nap_gen I'.bare hb')) q'
      · exact absurd hm (Nat.not_lt_zero _)
    · obtain ⟨H', I', q'⟩ := hp
      refine wpAny_bind (wpAny_rule (wpAny_pure ?_))
      exact fin true _ _ H' (inv_nap I' (nap_trans (nap_gen (gs := .finished) I'.bare rfl) ⟨rfl, (nap_gen (gs := .finished) I'.bare rfl).bare, Nat.le_refl _, hk⟩)) q'
  | succ n ih =>
    intro s hb rdy
    obtain ⟨gs, hgs, hgo⟩ := rdy.st
    refine codeAny_builtin F.entry_all_loop ?_
    rw [Around.under_plainId F.plain_all_loop _]
    show wpAny _ A.in1 (pyNext (.ref a) >>= _) _ _ s
    refine wpAny_bind (wpAny_pyNext_genexpQ (A := A.in1) (P := fun _ _ s₁ => ∃ H', Inv G [(a, ob)] (wipe σ vs) H' s₁ ∧ Q (.bl (!false)) H') (Y := GnY G a ob g fp tn (wipe σ vs) W Q false) (n := n + 1) hh rdy.lim hroom (hg _ rdy.at') hgs (hgo _ (nap_gen hb rfl)) (fun v s₁ gs' hb' hv => ?_) fun s₁ hp h' hk => ?_)
    · rcases hv with ⟨rfl, σ', H', I', q'⟩ | ⟨rfl, i, m, H', hm, at1, w1, kap⟩
      · refine wpAny_bind (wpAny_holding (wpAny_truthy_bool ?_))
        refine wpAny_bind (wpAny_letGo ?_)
        simp only [Bool.false_eq_true, if_false]
        refine wpAny_bind (wpAny_rule (wpAny_pure ?_))
        exact fin false _ σ' H' (inv_nap I' (nap_gen I'.bare hb')) q'
      · refine wpAny_bind (wpAny_holding (wpAny_truthy_bool ?_))
        refine wpAny_bind (wpAny_letGo ?_)
        simp only [Bool.not_false, if_true]
        have n1 := nap_gen (g := g) at1.inv.bare hb'
        have J1 := inv_nap at1.inv n1
        refine wpAny_pure ⟨plainId_quiet F.plain_all_loop _, ih _ n1.bare ⟨(J1.pin (a, ob) (List.mem_append_right _ List.mem_cons_self)).1, J1.nolimit, gs', set_self at1.g, fun s' nap => kap s' (nap_trans n1 nap)⟩⟩
    · obtain ⟨H', I', q'⟩ := hp
      refine wpAny_bind (wpAny_rule (wpAny_pure ?_))
      exact fin true _ _ H' (inv_nap I' (nap_trans (nap_gen (gs := .finished) I'.bare rfl) ⟨rfl, (nap_gen (gs := .finished) I'.bare rfl).bare, Nat.le_refl _, hk⟩)) q'
/-- any( .. ): the walk over the generator -/
theorem any_turns {A : Around} {Rr : Result → Shared → Prop} (hh : A.handled = none) (hroom : A.depth < recursionLimit) (hg : ∀ h : Heap, h.get? a = some ob → h.IsGen a g)
    (fin : ∀ b s' σ' H', Inv G [(a, ob)] σ' H' s' → Q (.bl b) H' → Rr (.ok (.ret (.bool b))) s') : ∀ (n : Nat) (s : Shared), AllBare s.gens →
      Rdy (model G.prog G.w) A.in1.in1 (GnR G a ob (wipe σ vs) Q true) (GnY G a ob g fp tn (wipe σ vs) W Q true) a ob g n s → codeAny (model G.prog G.w) A (.builtin "any.loop" ⟨[.ref a], []⟩) Rr s := by
  intro n
  induction n with
  | zero =>
    intro s hb rdy
    obtain ⟨gs, hgs, hgo⟩ := rdy.st
    refine codeAny_builtin F.entry_any_loop ?_
    rw [Around.under_plainId F.plain_any_loop _]
    show wpAny _ A.in1 (pyNext (.ref a) >>= _) _ _ s
    refine wpAny_bind (wpAny_pyNext_genexpQ (A := A.in1) (P := fun _ _ s₁ => ∃ H', Inv G [(a, ob)] (wipe σ vs) H' s₁ ∧ Q (.bl (!true)) H') (Y := GnY G a ob g fp tn (wipe σ vs) W Q true) (n := 0) hh rdy.lim hroom (hg _ rdy.at') hgs (hgo _ (nap_gen hb rfl)) (fun v s₁ gs' hb' hv => ?_) fun s₁ hp h' hk => ?_)
    · rcases hv with ⟨rfl, σ', H', I', q'⟩ | ⟨_, i, m, H', hm, _⟩
      · refine wpAny_bind (wpAny_holding (wpAny_truthy_bool ?_))
        refine wpAny_bind (wpAny_letGo ?_)
        simp only [if_true]
        refine wpAny_bind (wpAny_rule (wpAny_pure ?_))
        exact fin true _ σ' H' (inv_nap I' (nap_gen I'.bare hb')) q'
      · exact absurd hm (Nat.not_lt_zero _)
    · obtain ⟨H', I', q'⟩ := hp
      refine wpAny_bind (wpAny_rule (wpAny_pure ?_))
      exact fin false _ _ H' (inv_nap I' (nap_trans (nap_gen (gs := .finished) I'.bare rfl) ⟨rfl, (nap_gen (gs := .finished) I'.bare rfl).bare, Nat.le_refl _, hk⟩)) q'
  | succ n ih =>
    intro s hb rdy
    obtain ⟨gs, hgs, hgo⟩ := rdy.st
    refine codeAny_builtin F.entry_any_loop ?_
    rw [Around.under_plainId F.plain_any_loop _]
    show wpAny _ A.in1 (pyNext (.ref a) >>= _) _ _ s
    refine wpAny_bind (wpAny_pyNext_genexpQ (A := A.in1) (P := fun _ _ s₁ => ∃ H', Inv G [(a, ob)] (wipe σ vs) H' s₁ ∧ Q (.bl (!true)) H') (Y := GnY G a ob g fp tn (wipe σ vs) W Q true) (n := n + 1) hh rdy.lim hroom (hg _ rdy.at') hgs (hgo _ (nap_gen hb rfl)) (fun v s₁ gs' hb' hv => ?_) fun s₁ hp h' hk => ?_)
    · rcases hv with ⟨rfl, σ', H', I', q'⟩ | ⟨rfl, i, m, H', hm, at1, w1, kap⟩
      · refine wpAny_bind (wpAny_holding (wpAny_truthy_bool ?_))
        refine wpAny_bind (wpAny_letGo ?_)
        simp only [if_true]
        refine wpAny_bind (wpAny_rule (wpAny_pure ?_))
        exact fin true _ σ' H' (inv_nap I' (nap_gen I'.bare hb')) q'
      · refine wpAny_bind (wpAny_holding (wpAny_truthy_bool ?_))
        refine wpAny_bind (wpAny_letGo ?_)
        simp only [Bool.not_true, Bool.false_eq_true, if_false]
        have n1 := nap_gen (g := g) at1.inv.bare hb'
        have J1 := inv_nap at1.inv n1
        refine wpAny_pure ⟨plainId_quiet F.plain_any_loop _, ih _ n1.bare ⟨(J1.pin (a, ob) (List.mem_append_right _ List.mem_cons_self)).1, J1.nolimit, gs', set_self at1.g, fun s' nap => kap s' (nap_trans n1 nap)⟩⟩
    · obtain ⟨H', I', q'⟩ := hp
      refine wpAny_bind (wpAny_rule (wpAny_pure ?_))
      exact fin false _ _ H' (inv_nap I' (nap_trans (nap_gen (gs := .finished) I'.bare rfl) ⟨rfl, (nap_gen (gs := .finished) I'.bare rfl).bare, Nat.le_refl _, hk⟩)) q'
end

/-- all(elt for tg in iter if ..) (stop: false), any(..) (stop: true) -/
def tGen (P : Addr) (wi : TI) (gg : TG) (tt : TT) (te : TE) (vs : List Nat) (stop : Bool) : TE := fun σ H Q => wi σ H fun J H1 => GxR.TabG H1 P ∧ ∀ H2, GxR.Tabbed P H1 H2 → ∃ W : Nat → Nat → Hp → Prop, (∃ m, W 0 m H2) ∧ TurnW J gg tt te vs σ W Q stop
theorem rm_gen {k : Nat} {A : Around} {env : Env} (hr : Rm (k + 1) A) : Rm k (A.in1.in1.deeper env) :=
  ⟨⟨hr.rm.hd, by have := hr.rm.dp; show A.depth + 1 + 3 * k + 5 < _; omega, by have := hr.rm.un; show A.units + 1 + 1 + 3 + 16 * k + 200 < _; omega⟩, hr.gd⟩
theorem frames_gen {A : Around} {env : Env} {l : List Env} (h : A.frames = some l) : (A.in1.in1.deeper env).frames = some (env :: l) := by
  show Option.map _ A.frames = _
  rw [h]
  rfl
section
variable {X : Cx} {pins : List (Addr × Obj)} {σ : L2.St} {H : Hp} {s : Shared}
theorem gen_eval {c P : Addr} {elt tg iter : Expr} {ifs : List Expr} {gpos : Pos} {scope : Scope} {own : List (Str × Nat)} {wi : TI} {gg : TG} {tt : TT} {te : TE} {k : Nat} {stop : Bool} {Q : VK} {Q' : Value → Shared → Prop}
    (hr : Rm (k + 1) X.A) (TB : GxR.TabB X.base X.mg c P) (hcode : X.env.code = .ref c) (hc : X.calm = true) (hN : X.N.Nodup) (ok : GenOk X.N X.env.scope scope own) (hi : PI X tg iter wi)
    (hg : ∀ (s : Shared) (H : Hp) (C : Addr) (cd : Value) (A : Around) (fp : List Addr), Rm k A → PG (gx X s H (gEnv X scope C cd) A fp) tg gg)
    (ht : ∀ (s : Shared) (H : Hp) (C : Addr) (cd : Value) (A : Around) (fp : List Addr), Rm k A → PTs (gx X s H (gEnv X scope C cd) A fp) ifs tt)
    (he : ∀ (s : Shared) (H : Hp) (C : Addr) (cd : Value) (A : Around) (fp : List Addr), Rm k A → PE (gx X s H (gEnv X scope C cd) A fp) elt te)
    (hs : ∀ x, genFold iter X.env x = pure x) (I : Inv X pins σ H s) (h : tGen P wi gg tt te (own.map (·.2)) stop σ H Q)
    (hQ : ∀ (G : Cx) (a : Addr) (ob : Obj) (g n : Nat) (fp : List Addr) (tn : Nat → Heap → Prop) (W : Nat → Nat → Hp → Prop) (s5 : Shared), (∀ h : Heap, h.get? a = some ob → h.IsGen a g) → AllBare s5.gens →
      Rdy (model X.prog X.w) X.A.in1.in1 (GnR G a ob (wipe σ (own.map (·.2))) Q stop) (GnY G a ob g fp tn (wipe σ (own.map (·.2))) W Q stop) a ob g n s5 → G.prog = X.prog → G.w = X.w →
      (∀ σ' H' s', Inv G [(a, ob)] σ' H' s' → Inv X pins σ H' s') → Q' (.ref a) s5) :
    wpAny (model X.prog X.w) X.A (eval (.GeneratorExp elt [⟨tg, iter, ifs, 0⟩] scope gpos) X.env) Q' X.xe s := by
  refine wpAny_GeneratorExp_make ok.co (closure_ok (gen_free I ok)) ok.noc ok.dot ok.b.kind (by have := hr.rm.dp; omega) ?_ hs
  refine thn (hi.run pins s σ H _ I h) fun xv s1 h1 => thn h1 fun itv s2 h2 => ?_
  obtain ⟨it, fp, tn, J, H2, e, I2, T, st2, f2, ⟨ps, hP, tr⟩, q⟩ := h2
  subst e
  have hPs : s2.heap.get? P = some { cls := .none, data := .fields ps } := I2.hok P _ hP
  have cd2 : PySem.W.CodeHd s2.heap c P := TB.code.keeps fun b u e => I2.bk b u e
  have cont : ∀ (code : Value) (h3 : Heap) (tk : Nat) (more : Array Value), Heap.ExtBut P s2.heap h3 → s2.heap.objs.size ≤ h3.objs.size → h3.get? P = some { cls := .none, data := .fields (ps ++ more) } → TriplesOk (ps ++ more).toList →
      wpAny (model X.prog X.w) X.A (builtinsFor X.env.globals X.env.builtins) (fun bi s₄ => ∀ h', h'.Ns s₄.heap.objs.size (fun y => if y = ".0" then some (.ref it) else none) → Heap.SameBut s₄.heap.objs.size (s₄.heap.push { cls := .type "frame", data := .dict #[] }) h' →
          Q' (.ref h'.objs.size) { s₄ with
            gens := s₄.gens.push (.fresh (.compStart (.GeneratorExp elt [⟨tg, iter, ifs, 0⟩] scope gpos) 0 (.ref it) .none (genEnv scope (cloFrom X.env.cells scope.names []) s₄.heap.objs.size code bi X.env))),
            toks := s₄.toks + 1 + 1 + 1,
            heap := h'.push { cls := .type "generator", data := .fields #[.int s₄.gens.size 0, .str "<genexpr>" (s₄.toks + 1), .str (X.env.qual ++ "<genexpr>") (s₄.toks + 1 + 1)] } }) X.xe { s2 with heap := h3, toks := tk } := by
    intro code h3 tk more hx hsz hP3 tr3
    obtain ⟨bm, ob0, e1, e2, e3, e4, e5, e6, e7, e8⟩ := TB.bm
    have kp : ∀ b u, b ≠ P → s2.heap.get? b = some u → h3.get? b = some u := fun b u hb e => hx b u hb e
    refine wpAny_builtinsFor (m := X.mg) (by rw [I2.ok.glob]; exact (I2.mod.glob.keeps I2.bk).extBut hx TB.gP) e1 e2 (kp _ _ e4 (I2.bk _ _ e5)) e6 e7 e8 ?_
    intro h' hn' hs'
    have I3 : Inv X pins σ (upd H2 P (.tbl (ps ++ more))) { s2 with heap := h3, gens := s2.gens, drawn := s2.drawn, toks := tk } := GxR.inv_tab I2 hP kp hP3 I2.bare
    have hH3 : GxR.Tabbed P H2 (upd H2 P (.tbl (ps ++ more))) := ⟨⟨ps ++ more, upd_same, tr3⟩, fun b hb => upd_ne hb⟩
    obtain ⟨W, ⟨m0, w0⟩, turn⟩ := q _ hH3
    generalize upd H2 P (.tbl (ps ++ more)) = H3 at I3 hH3 w0
    have nP : ∀ b, H2 b = none → b ≠ P := fun b e z => by rw [z, hP] at e; cases e
    have f3 : ∀ b ∈ fp, FpOk X pins H3 b ∧ b < h3.objs.size := fun b hb => by
      obtain ⟨o, eo, _⟩ := T.obj _ _ st2 b hb
      refine ⟨⟨?_, (f2 b hb).2⟩, Nat.lt_of_lt_of_le (Heap.lt_size eo) hsz⟩
      rw [hH3.2 b (nP b (f2 b hb).1)]
      exact (f2 b hb).1
    have st3 : tn 0 h3 := T.keep _ _ _ st2 fun b hb o e => kp b o (nP b (f2 b hb).1) e
    show Q' (.ref h'.objs.size) _
    generalize hob : ({ cls := .type "generator", data := .fields #[.int s2.gens.size 0, .str "<genexpr>" (tk + 1), .str (X.env.qual ++ "<genexpr>") (tk + 1 + 1)] } : Obj) = ob
    have hsz' : h'.objs.size = h3.objs.size + 1 := by rw [hs'.1, Heap.size_push]
    have keep' : ∀ b o, h3.get? b = some o → h'.get? b = some o := fun b o e => hs'.extBut b o (Nat.ne_of_lt (Heap.lt_size e)) (Heap.get?_push_of_some _ e)
    have keep5 : ∀ b o, h3.get? b = some o → (h'.push ob).get? b = some o := fun b o e => Heap.get?_push_of_some _ (keep' b o e)
    generalize hcode5 : Code.compStart (.GeneratorExp elt [⟨tg, iter, ifs, 0⟩] scope gpos) 0 (.ref it) .none (gEnv X scope h3.objs.size code) = cs
    generalize hz : ({ s2 with heap := h'.push ob, gens := s2.gens.push (.fresh cs), toks := tk + 1 + 1 + 1 } : Shared) = z
    have zh : z.heap = h'.push ob := by rw [← hz]
    have zg : z.gens = s2.gens.push (.fresh cs) := by rw [← hz]
    have zo : z.os = s2.os := by rw [← hz]
    have zb : AllBare z.gens := by rw [zg]; exact I2.bare.push rfl
    have I4 := gen_start (code := code) (A := X.A.in1.in1.deeper (gEnv X scope h3.objs.size code)) (z := z) I3 ok hN f3 hr.rm.hd (frames_gen I3.ok.frames) zo zb (fun b o e => by rw [zh]; exact keep5 b o e) (by rw [zh]; exact hn'.push _)
    have ha : z.heap.get? h'.objs.size = some ob := by rw [zh]; exact Heap.get?_push_size _ (by rw [← hob]; rfl)
    have hna : H3 h'.objs.size = none := I3.hok.fresh (by show h3.objs.size ≤ _; omega)
    have I5 : Inv (gx X { s2 with heap := h3, gens := s2.gens, drawn := s2.drawn, toks := tk } H3 (gEnv X scope h3.objs.size code) (X.A.in1.in1.deeper (gEnv X scope h3.objs.size code)) fp) [(h'.objs.size, ob)] (wipe σ (own.map (·.2))) H3 z := I4.pins_of fun p hp => by
      rw [List.mem_singleton.mp hp]
      refine ⟨ha, hna, ?_, fun hf => ?_, fun v e => ?_⟩
      · show h'.objs.size ≠ h3.objs.size
        omega
      · rcases List.mem_cons.mp (I3.stkSub _ hf) with e | e
        · have := I3.lt
          have e : h'.objs.size = X.env.locals := e
          have this : X.env.locals < h3.objs.size := this
          have : h3.objs.size < h'.objs.size := by omega
          rw [e] at this
          exact absurd (Nat.lt_trans this ‹X.env.locals < h3.objs.size›) (Nat.lt_irrefl _)
        · exact I3.nofs (show h3.objs.size ≤ h'.objs.size by omega) e
      · rw [← hob] at e
        cases e
    have hgen : ∀ h : Heap, h.get? h'.objs.size = some ob → h.IsGen h'.objs.size s2.gens.size := fun h e => by
      subst hob
      exact ⟨_, _, _, e, rfl, rfl, rfl⟩
    have nsz : s2.gens.size < z.gens.size := by rw [zg, Array.size_push]; exact Nat.lt_succ_self _
    have back : ∀ (σ' : L2.St) (H' : Hp) (s' : Shared), Inv (gx X { s2 with heap := h3, gens := s2.gens, drawn := s2.drawn, toks := tk } H3 (gEnv X scope h3.objs.size code) (X.A.in1.in1.deeper (gEnv X scope h3.objs.size code)) fp) [(h'.objs.size, ob)] σ' H' s' → Inv X pins σ H' s' := fun σ' H' s' I' =>
      I3.call' (ch := fp) I'.os I'.base I'.hok I'.bare fun b hb => ⟨(f3 b hb).1.2.2.2.1, (f3 b hb).1.2.1, (f3 b hb).1.2.2.2.2.1, (f3 b hb).1.2.2.2.2.2⟩
    have pg := hg { s2 with heap := h3, gens := s2.gens, drawn := s2.drawn, toks := tk } H3 h3.objs.size code _ fp (rm_gen (env := gEnv X scope h3.objs.size code) hr)
    have pt := ht { s2 with heap := h3, gens := s2.gens, drawn := s2.drawn, toks := tk } H3 h3.objs.size code _ fp (rm_gen (env := gEnv X scope h3.objs.size code) hr)
    have pe := he { s2 with heap := h3, gens := s2.gens, drawn := s2.drawn, toks := tk } H3 h3.objs.size code _ fp (rm_gen (env := gEnv X scope h3.objs.size code) hr)
    have start : ∀ s', Nap z s' → (GenState.fresh cs).Goes (model X.prog X.w) X.A.in1.in1 (GnR (gx X { s2 with heap := h3, gens := s2.gens, drawn := s2.drawn, toks := tk } H3 (gEnv X scope h3.objs.size code) (X.A.in1.in1.deeper (gEnv X scope h3.objs.size code)) fp) h'.objs.size ob (wipe σ (own.map (·.2))) Q stop)
        (GnY (gx X { s2 with heap := h3, gens := s2.gens, drawn := s2.drawn, toks := tk } H3 (gEnv X scope h3.objs.size code) (X.A.in1.in1.deeper (gEnv X scope h3.objs.size code)) fp) h'.objs.size ob s2.gens.size fp tn (wipe σ (own.map (·.2))) W Q stop) (m0 + 1) (.send .none) s' := fun s' nap => by
      refine ⟨rfl, ?_⟩
      rw [← hcode5]
      exact seg_begin (G := gx X { s2 with heap := h3, gens := s2.gens, drawn := s2.drawn, toks := tk } H3 (gEnv X scope h3.objs.size code) (X.A.in1.in1.deeper (gEnv X scope h3.objs.size code)) fp) (AS := X.A.in1.in1) (iter := iter) (scope := scope) (pos := gpos) rfl rfl hc rfl T (fun b hb => hb) (fun b hb z => absurd (f3 b hb).2 (by rw [← z]; exact Nat.not_lt.mpr (by rw [hsz']; exact Nat.le_succ _))) ok.co pg pt pe turn m0 (m0 + 1) H3 s' s' (Nat.lt_succ_self _)
        ⟨inv_nap I5 nap, T.keep _ _ _ st3 fun b _ o e => nap.keep b o (by rw [zh]; exact keep5 b o e), fun b hb => (f3 b hb).1.1, Nat.lt_of_lt_of_le nsz nap.size⟩ w0
    exact hQ _ h'.objs.size ob s2.gens.size (m0 + 1) fp tn W z hgen zb ⟨ha, I5.nolimit, _, by rw [zg]; exact Array.getElem?_push_size .., start⟩ rfl rfl back
  refine ⟨I2.nolimit, ?_⟩
  cases hf : codeAmong gpos ps.toList with
  | none =>
    refine wpAny_genexprCodeX hcode (cd2.code hPs tr) (cd2.tab hPs) hf fun c' h' tk hx hge hlt hco' _ htab' _ => ?_
    obtain ⟨o1, vs', f1, tf, fl, tg', inF, tx, tt', op, _, _, _, _, _, _, _, _, _, htr, _⟩ := hco'
    exact cont _ h' tk _ hx (Nat.le_trans hge (Nat.le_of_lt hlt)) htab'.2 htr
  | some cv =>
    refine wpAny_genexprCode_hit hcode (cd2.code hPs tr) hf ?_
    exact cont cv s2.heap s2.toks #[] (Heap.ExtBut.refl _ _) (Nat.le_refl _) (by simpa using hPs) (by simpa using tr)
theorem pe_allG {c P : Addr} {elt tg iter : Expr} {ifs : List Expr} {p pos gpos : Pos} {scope : Scope} {own : List (Str × Nat)} {wi : TI} {gg : TG} {tt : TT} {te : TE} {k : Nat}
    (hr : Rm (k + 1) X.A) (TB : GxR.TabB X.base X.mg c P) (hcode : X.env.code = .ref c) (hc : X.calm = true) (hN : X.N.Nodup) (ok : GenOk X.N X.env.scope scope own) (hn : Gl X "all") (hm : X.mg "all" = none) (hi : PI X tg iter wi)
    (hg : ∀ (s : Shared) (H : Hp) (C : Addr) (cd : Value) (A : Around) (fp : List Addr), Rm k A → PG (gx X s H (gEnv X scope C cd) A fp) tg gg)
    (ht : ∀ (s : Shared) (H : Hp) (C : Addr) (cd : Value) (A : Around) (fp : List Addr), Rm k A → PTs (gx X s H (gEnv X scope C cd) A fp) ifs tt)
    (he : ∀ (s : Shared) (H : Hp) (C : Addr) (cd : Value) (A : Around) (fp : List Addr), Rm k A → PE (gx X s H (gEnv X scope C cd) A fp) elt te)
    (hs : ∀ x, genFold iter X.env x = pure x := by intro _; rfl) (hb : bootBuiltins "all" = some (.builtin "all") := by decide +kernel)
    (hst : starEach [.GeneratorExp elt [⟨tg, iter, ifs, 0⟩] scope gpos] X.env = (false, eval (.GeneratorExp elt [⟨tg, iter, ifs, 0⟩] scope gpos) X.env) :: starEach [] X.env := by rfl) :
    PE X (.Call (.Name "all" p) [.GeneratorExp elt [⟨tg, iter, ifs, 0⟩] scope gpos] [] pos) (tGen P wi gg tt te (own.map (·.2)) false) := by
  refine ⟨fun pins s σ H Q I h => ?_⟩
  refine wpAny_Call_Name_kw (ld_blt I hn hm hb ?_)
  refine PyProof.Rows.callWith_builtin1 ?_ hst (by rfl)
  rw [hst]
  show wpAny _ _ (spliced ((false, eval (.GeneratorExp elt [⟨tg, iter, ifs, 0⟩] scope gpos) X.env) :: backTo pos (starEach [] X.env))) _ _ s
  refine Calls.spliced_cons (gen_eval hr TB hcode hc hN ok hi hg ht he hs I h fun G a ob g n fp tn W s5 hgen hb5 rdy ep ew back => ?_)
  refine Calls.spliced_nil ?_
  refine call_function_tree F.kind_all F.plain_all F.entry_all (F.args_all1 _) ?_
  unfold Builtin.«all»
  refine wpAny_bind (m := oneArg "all" _) (wpAny_pure ?_)
  refine wpAny_bind (wpAny_pyIter_gen (hgen _ rdy.at') ?_)
  refine wpAny_pure ⟨plainId_quiet F.plain_all_loop _, ?_⟩
  rw [← ep, ← ew] at rdy ⊢
  exact all_turns hr.rm.hd (by have := hr.rm.dp; omega) hgen (fun b s' σ' H' I' q => ⟨.bl b, H', back σ' H' s' I', rfl, q⟩) n s5 hb5 rdy
theorem pe_anyG {c P : Addr} {elt tg iter : Expr} {ifs : List Expr} {p pos gpos : Pos} {scope : Scope} {own : List (Str × Nat)} {wi : TI} {gg : TG} {tt : TT} {te : TE} {k : Nat}
    (hr : Rm (k + 1) X.A) (TB : GxR.TabB X.base X.mg c P) (hcode : X.env.code = .ref c) (hc : X.calm = true) (hN : X.N.Nodup) (ok : GenOk X.N X.env.scope scope own) (hn : Gl X "any") (hm : X.mg "any" = none) (hi : PI X tg iter wi)
    (hg : ∀ (s : Shared) (H : Hp) (C : Addr) (cd : Value) (A : Around) (fp : List Addr), Rm k A → PG (gx X s H (gEnv X scope C cd) A fp) tg gg)
    (ht : ∀ (s : Shared) (H : Hp) (C : Addr) (cd : Value) (A : Around) (fp : List Addr), Rm k A → PTs (gx X s H (gEnv X scope C cd) A fp) ifs tt)
    (he : ∀ (s : Shared) (H : Hp) (C : Addr) (cd : Value) (A : Around) (fp : List Addr), Rm k A → PE (gx X s H (gEnv X scope C cd) A fp) elt te)
    (hs : ∀ x, genFold iter X.env x = pure x := by intro _; rfl) (hb : bootBuiltins "any" = some (.builtin "any") := by decide +kernel)
    (hst : starEach [.GeneratorExp elt [⟨tg, iter, ifs, 0⟩] scope gpos] X.env = (false, eval (.GeneratorExp elt [⟨tg, iter, ifs, 0⟩] scope gpos) X.env) :: starEach [] X.env := by rfl) :
    PE X (.Call (.Name "any" p) [.GeneratorExp elt [⟨tg, iter, ifs, 0⟩] scope gpos] [] pos) (tGen P wi gg tt te (own.map (·.2)) true) := by
  refine ⟨fun pins s σ H Q I h => ?_⟩
  refine wpAny_Call_Name_kw (ld_blt I hn hm hb ?_)
  refine PyProof.Rows.callWith_builtin1 ?_ hst (by rfl)
  rw [hst]
  show wpAny _ _ (spliced ((false, eval (.GeneratorExp elt [⟨tg, iter, ifs, 0⟩] scope gpos) X.env) :: backTo pos (starEach [] X.env))) _ _ s
  refine Calls.spliced_cons (gen_eval hr TB hcode hc hN ok hi hg ht he hs I h fun G a ob g n fp tn W s5 hgen hb5 rdy ep ew back => ?_)
  refine Calls.spliced_nil ?_
  refine call_function_tree F.kind_any F.plain_any F.entry_any (F.args_any1 _) ?_
  unfold Builtin.«any»
  refine wpAny_bind (m := oneArg "any" _) (wpAny_pure ?_)
  refine wpAny_bind (wpAny_pyIter_gen (hgen _ rdy.at') ?_)
  refine wpAny_pure ⟨plainId_quiet F.plain_any_loop _, ?_⟩
  rw [← ep, ← ew] at rdy ⊢
  exact any_turns hr.rm.hd (by have := hr.rm.dp; omega) hgen (fun b s' σ' H' I' q => ⟨.bl b, H', back σ' H' s' I', rfl, q⟩) n s5 hb5 rdy
end
end Wg

/-! Wagon, part 31: tables of code objects: what stays, how such readings go on, defs that hold a generator expression, the end. -/
namespace Wg
open PySem PySem.Spec PyProof.Rows L2

/-- the tables at L are tables -/
def Tabs (L : List Addr) (H : Hp) : Prop := ∀ p ∈ L, GxR.TabG H p
/-- all but the tables at L is kept, and these stay tables -/
structure KT (L : List Addr) (H H' : Hp) : Prop where
  k : Keep L H H'
  t : Tabs L H → Tabs L H'
theorem KT.refl (L : List Addr) (H : Hp) : KT L H H := ⟨Keep.refl _ _, id⟩
theorem KT.trans {L : List Addr} {H H1 H2 : Hp} (a : KT L H H1) (b : KT L H1 H2) : KT L H H2 := ⟨a.k.trans b.k, fun h => b.t (a.t h)⟩
theorem Tabs.keep0 {L : List Addr} {H H' : Hp} (h : Tabs L H) (k : Keep [] H H') : Tabs L H' := fun p hp => let ⟨ps, e, t⟩ := h p hp; ⟨ps, k _ _ nin0 e, t⟩
theorem KT.of0 {L : List Addr} {H H' : Hp} (k : Keep [] H H') : KT L H H' := ⟨k.all, fun h => h.keep0 k⟩
theorem Tabs.nin {L : List Addr} {H : Hp} (h : Tabs L H) {b : Addr} {o : HO} (e : H b = some o) (n : ∀ ps, o ≠ .tbl ps) : b ∉ L := fun z => by
  obtain ⟨ps, e', _⟩ := h b z
  rw [e] at e'
  exact n ps (Option.some.inj e')
theorem Tabs.ninN {L : List Addr} {H : Hp} (h : Tabs L H) {b : Addr} (e : H b = none) : b ∉ L := fun z => by
  obtain ⟨ps, e', _⟩ := h b z
  rw [e] at e'
  cases e'
theorem Tabs.noTup {L : List Addr} {H : Hp} (h : Tabs L H) : ∀ a xs, Tup H a xs → a ∉ L := fun a xs ⟨ob, e, _⟩ => h.nin e fun ps z => nomatch z
theorem Tabs.lst {L : List Addr} {H : Hp} (h : Tabs L H) {a : Addr} {xs : List V} (e : H a = some (.lst xs)) : a ∉ L := h.nin e fun ps z => nomatch z
theorem Tabs.dK {L : List Addr} {H : Hp} (h : Tabs L H) {a : Addr} {xs : List (Key × V)} (e : H a = some (.dK xs)) : a ∉ L := h.nin e fun ps z => nomatch z
/-- a new cell is changed -/
theorem KT.past {L : List Addr} {H H1 H2 : Hp} {d : Addr} (k1 : KT L H H1) (k2 : Keep [d] H1 H2) (n : H d = none) (ht : Tabs L H) : KT L H H2 := by
  have t1 := k1.t ht
  refine ⟨fun b o hb e => k2 b o (nin1 (ne_of_none e n)) (k1.k b o hb e), fun _ p hp => ?_⟩
  obtain ⟨ps, e, tr⟩ := t1 p hp
  refine ⟨ps, k2 _ _ (nin1 fun z => ?_) e, tr⟩
  rw [z] at hp
  exact ht.ninN n hp
theorem kt_tab {L : List Addr} {P : Addr} {H H' : Hp} (h : P ∈ L) (t : GxR.Tabbed P H H') : KT L H H' := by
  refine ⟨fun b o hb e => (t.2 b fun z => hb (z ▸ h)).trans e, fun ht p hp => ?_⟩
  by_cases z : p = P
  · rw [z]
    exact t.1
  · obtain ⟨ps, e, tr⟩ := ht p hp
    exact ⟨ps, (t.2 p z).trans e, tr⟩
theorem Tabs.sqT {K : PySem.W.Frag} {L : List Addr} {H H' : Hp} {a : Addr} {xs : List V} (ht : Tabs L H) (k : KT L H H') (h : SqT K H a xs) : SqT K H' a xs := by
  rcases h with (h | ⟨o, h⟩) | h
  · exact .inl (.inl (k.k _ _ (ht.nin h fun ps z => nomatch z) h))
  · exact .inl (.inr ⟨o, k.k _ _ (ht.nin h fun ps z => nomatch z) h⟩)
  · exact .inr h
theorem Tabs.sqL {K : PySem.W.Frag} {L : List Addr} {H H' : Hp} {a : Addr} {xs : List V} (ht : Tabs L H) (k : KT L H H') (h : SqL K H a xs) : SqL K H' a xs := by
  rcases h with (h | ⟨o, h⟩) | h
  · exact .inl (.inl (k.k _ _ (ht.nin h fun ps z => nomatch z) h))
  · exact .inl (.inr ⟨o, k.k _ _ (ht.nin h fun ps z => nomatch z) h⟩)
  · exact .inr h
mutual
theorem dp_kt {K : PySem.W.Frag} {L : List Addr} {H H' : Hp} (ht : Tabs L H) (k : KT L H H') : ∀ {v : V} {d : PyData}, Dp K H v d → Dp K H' v d
  | _, _, .non => .non
  | _, _, .bl b => .bl b
  | _, _, .int i => .int i
  | _, _, .str x => .str x
  | _, _, .lst h a => .lst (ht.sqL k h) (dps_kt ht k a)
  | _, _, .tup h a => .tup (ht.sqT k h) (dps_kt ht k a)
theorem dps_kt {K : PySem.W.Frag} {L : List Addr} {H H' : Hp} (ht : Tabs L H) (k : KT L H H') : ∀ {vs : List V} {ds : List PyData}, DpAll K H vs ds → DpAll K H' vs ds
  | _, _, .nil => .nil
  | _, _, .cons h r => .cons (dp_kt ht k h) (dps_kt ht k r)
end

/-! ### readings -/
def GU (K : PySem.W.Frag) (P : Addr) (g : TG) (tt : TT) (te : TE) (vs : List Nat) (stop : Bool) (σ : L2.St) (Q : VK) (x : V) (H1 : Hp) : Prop := iU K (tC x) σ H1 fun J H1 => GxR.TabG H1 P ∧ ∀ H2, GxR.Tabbed P H1 H2 → ∃ W : Nat → Nat → Hp → Prop, (∃ m, W 0 m H2) ∧ TurnW J g tt te vs σ W Q stop
theorem e_genU {K : PySem.W.Frag} {P : Addr} {tl : TE} {g : TG} {tt : TT} {te : TE} {vs : List Nat} {stop : Bool} {σ : L2.St} {H : Hp} {Q : VK} : tGen P (iU K tl) g tt te vs stop σ H Q ↔ tl σ H (GU K P g tt te vs stop σ Q) := Iff.rfl
/-- of the turns: n of them, turn i's truth f i -/
theorem gen_of {L : List Addr} {n : Nat} {it : Nat → V} {J : It} {g : TG} {tt : TT} {te : TE} {vs : List Nat} {σ : L2.St} {H2 : Hp} {Q : VK} {stop : Bool} (f : Nat → Bool)
    (hgo : ∀ i H, i < n → KT L H2 H → J.go i H) (hy : ∀ i H x H', i < n → KT L H2 H → J.yld i H x H' → x = it i ∧ H' = H) (hst : ∀ H, KT L H2 H → J.stop n H)
    (hs : ∀ i H (R : VK) (R0 : Hp → Prop), i < n → KT L H2 H → (∀ H4, KT L H H4 → R (.bl (f i)) H4) → g (it i) (wipe σ vs) H fun σ2 H3 => wipe σ2 vs = wipe σ vs ∧ tt σ2 H3 fun b H4 => if b = true then te σ2 H4 R else R0 H4)
    (q : ∀ H', KT L H2 H' → Q (.bl (if stop = true then (List.range n).any f else (List.range n).all f)) H') : ∃ W : Nat → Nat → Hp → Prop, (∃ m, W 0 m H2) ∧ TurnW J g tt te vs σ W Q stop := by
  refine ⟨fun i m H => m = n - i ∧ i ≤ n ∧ KT L H2 H ∧ ∀ j, j < i → f j = !stop, ⟨n, by omega, by omega, KT.refl _ _, fun _ h => by omega⟩, ?_⟩
  rintro i m H ⟨rfl, hi, k, hf⟩
  by_cases hlt : i < n
  · refine .inr ⟨hgo i H hlt k, fun H' => KT L H2 H' ∧ ∀ j, j < i + 1 → f j = !stop, fun H' h => ⟨n - (i + 1), by omega, rfl, hlt, h⟩, fun x H' y => ?_⟩
    obtain ⟨ex, eh⟩ := hy i H x H' hlt k y
    rw [ex, eh]
    refine hs i H _ _ hlt k fun H4 k4 => ⟨f i, rfl, ?_⟩
    by_cases e : f i = stop
    · rw [if_pos e]
      have q4 := q H4 (k.trans k4)
      cases stop with
      | true =>
        rw [if_pos rfl, List.any_eq_true.mpr ⟨i, List.mem_range.mpr hlt, e⟩] at q4
        exact q4
      | false =>
        rw [if_neg Bool.false_ne_true] at q4
        have : (List.range n).all f = false := by
          rw [List.all_eq_false]
          exact ⟨i, List.mem_range.mpr hlt, by rw [e]; decide⟩
        rw [this] at q4
        exact q4
    · rw [if_neg e]
      refine ⟨k.trans k4, fun j hj => ?_⟩
      rcases Nat.lt_succ_iff_lt_or_eq.mp hj with h | h
      · exact hf j h
      · rw [h]
        exact not_stop e
  · have e : i = n := by omega
    subst e
    refine .inl ⟨hst H k, ?_⟩
    have q4 := q H k
    cases stop with
    | true =>
      rw [if_pos rfl] at q4
      have : (List.range i).any f = false := by
        rw [List.any_eq_false]
        intro j hj
        rw [hf j (List.mem_range.mp hj)]
        decide
      rw [this] at q4
      exact q4
    | false =>
      rw [if_neg Bool.false_ne_true] at q4
      have : (List.range i).all f = true := by
        rw [List.all_eq_true]
        intro j hj
        rw [hf j (List.mem_range.mp hj)]
        rfl
      rw [this] at q4
      exact q4
theorem range_any {α : Type} {rs : List α} {f : α → Bool} {d : Bool} : (List.range rs.length).any (fun i => (rs[i]?.map f).getD d) = rs.any f := by
  rw [Bool.eq_iff_iff, List.any_eq_true, List.any_eq_true]
  constructor
  · rintro ⟨i, hi, e⟩
    have hi := List.mem_range.mp hi
    rw [List.getElem?_eq_getElem hi] at e
    exact ⟨_, List.getElem_mem hi, e⟩
  · rintro ⟨x, hx, e⟩
    obtain ⟨i, hi, rfl⟩ := List.getElem_of_mem hx
    exact ⟨i, List.mem_range.mpr hi, by rw [List.getElem?_eq_getElem hi]; exact e⟩
theorem range_all {α : Type} {rs : List α} {f : α → Bool} {d : Bool} : (List.range rs.length).all (fun i => (rs[i]?.map f).getD d) = rs.all f := by
  rw [Bool.eq_iff_iff, List.all_eq_true, List.all_eq_true]
  constructor
  · intro h x hx
    obtain ⟨i, hi, rfl⟩ := List.getElem_of_mem hx
    have := h i (List.mem_range.mpr hi)
    rw [List.getElem?_eq_getElem hi] at this
    exact this
  · intro h i hi
    have hi := List.mem_range.mp hi
    rw [List.getElem?_eq_getElem hi]
    exact h _ (List.getElem_mem hi)
theorem each_got {α β : Type} {R : α → β → Prop} : ∀ {vs : List α} {rs : List β} {i : Nat} {v : α}, PySem.W.EachIs R vs rs → vs[i]? = some v → ∃ r, rs[i]? = some r ∧ R v r
  | _, _, _, _, .nil, e => by simp at e
  | _, _, 0, _, .cons (b := q) h _, e => by
    simp at e
    subst e
    exact ⟨q, rfl, h⟩
  | _, _, i + 1, _, .cons _ t, e => by
    obtain ⟨q, h1, h2⟩ := each_got (i := i) t (by simpa using e)
    exact ⟨q, by simpa using h1, h2⟩
def aaB {α : Type} (stop : Bool) (f : α → Bool) (rs : List α) : Bool := if stop = true then rs.any f else rs.all f
/-- over a list or a tuple of things, wherever it stands -/
theorem g_GE {K : PySem.W.Frag} {L : List Addr} {P : Addr} {α : Type} {RR : Hp → V → α → Prop} {g : TG} {tt : TT} {te : TE} {vs : List Nat} {stop : Bool} {σ : L2.St} {H1 : Hp} {Q : VK} {a : Addr} {xs : List V} {rs : List α} (f : α → Bool) (hT : Tabs L H1) (hP : P ∈ L)
    (hx : SqL K H1 a xs ∨ SqT K H1 a xs) (he : PySem.W.EachIs (RR H1) xs rs) (hk : ∀ H' x r, RR H1 x r → KT L H1 H' → RR H' x r)
    (hs : ∀ (i : Nat) (x : V) (r : α) (H : Hp) (R : VK) (R0 : Hp → Prop), rs[i]? = some r → KT L H1 H → Tabs L H → RR H x r → (∀ H4, KT L H H4 → R (.bl (f r)) H4) → g x (wipe σ vs) H fun σ2 H3 => wipe σ2 vs = wipe σ vs ∧ tt σ2 H3 fun b H4 => if b = true then te σ2 H4 R else R0 H4)
    (q : ∀ H', KT L H1 H' → Q (.bl (aaB stop f rs)) H') : GU K P g tt te vs stop σ Q (.ref a) H1 := by
  have hl := he.length
  have tail : ∀ {J : It} {H2 : Hp}, GxR.Tabbed P H1 H2 → (∀ i H, i < xs.length → KT L H2 H → J.go i H) → (∀ i H x H', i < xs.length → KT L H2 H → J.yld i H x H' → x = xs.getD i .non ∧ H' = H) → (∀ H, KT L H2 H → J.stop xs.length H) →
      ∃ W : Nat → Nat → Hp → Prop, (∃ m, W 0 m H2) ∧ TurnW J g tt te vs σ W Q stop := fun {J H2} t h1 h2 h3 => by
    have k12 := kt_tab hP t
    refine gen_of (L := L) (n := xs.length) (it := fun i => xs.getD i .non) (fun i => (rs[i]?.map f).getD stop) h1 h2 h3 (fun i H R R0 hi k hR => ?_) fun H' k => ?_
    · obtain ⟨r, e1, e2⟩ := each_got he (List.getElem?_eq_getElem hi)
      have e3 : xs.getD i .non = xs[i] := by rw [List.getD_eq_getElem?_getD, List.getElem?_eq_getElem hi]; rfl
      show g (xs.getD i .non) _ _ _
      rw [e3]
      rw [e1] at hR
      exact hs i _ r H R R0 e1 (k12.trans k) ((k12.trans k).t hT) (hk _ _ _ e2 (k12.trans k)) hR
    · rw [hl, range_any, range_all]
      exact q H' (k12.trans k)
  have kk : ∀ {H2 H}, GxR.Tabbed P H1 H2 → KT L H2 H → KT L H1 H := fun t k => (kt_tab hP t).trans k
  rcases hx with hx | hx
  · exact .inl ⟨a, xs, rfl, hx, hT P hP, fun H2 t => tail t (fun i H hi k => ⟨xs, xs[i], hT.sqL (kk t k) hx, List.getElem?_eq_getElem hi⟩) (fun i H x H' hi k y => ⟨by rw [List.getD_eq_getElem?_getD, y.2 xs (hT.sqL (kk t k) hx)]; rfl, y.1⟩) fun H k => ⟨xs, hT.sqL (kk t k) hx, Nat.le_refl _⟩⟩
  · exact .inr (.inl ⟨a, xs, rfl, hx, hT P hP, fun H2 t => tail t (fun i H hi k => ⟨xs, xs[i], hT.sqT (kk t k) hx, List.getElem?_eq_getElem hi⟩) (fun i H x H' hi k y => ⟨by rw [List.getD_eq_getElem?_getD, y.2 xs (hT.sqT (kk t k) hx)]; rfl, y.1⟩) fun H k => ⟨xs, hT.sqT (kk t k) hx, Nat.le_refl _⟩⟩)
/-- over a text's signs -/
theorem g_GS {K : PySem.W.Frag} {L : List Addr} {P : Addr} {g : TG} {tt : TT} {te : TE} {vs : List Nat} {stop : Bool} {σ : L2.St} {H1 : Hp} {Q : VK} {z : Str} (f : Nat → Bool) (hT : Tabs L H1) (hP : P ∈ L)
    (hs : ∀ c H (R : VK) (R0 : Hp → Prop), c ∈ z.cps.toList → KT L H1 H → Tabs L H → (∀ H4, KT L H H4 → R (.bl (f c)) H4) → g (.str ⟨#[c]⟩) (wipe σ vs) H fun σ2 H3 => wipe σ2 vs = wipe σ vs ∧ tt σ2 H3 fun b H4 => if b = true then te σ2 H4 R else R0 H4)
    (q : ∀ H', KT L H1 H' → Q (.bl (aaB stop f z.cps.toList)) H') : GU K P g tt te vs stop σ Q (.str z) H1 := by
  refine .inr (.inr ⟨z, rfl, hT P hP, fun H2 t => ?_⟩)
  have k12 := kt_tab hP t
  have sz : z.cps.size = z.cps.toList.length := by simp
  refine gen_of (L := L) (n := z.cps.size) (it := fun i => .str ⟨#[z.cps.getD i 0]⟩) (fun i => (z.cps.toList[i]?.map f).getD stop) (fun i H hi k => hi) (fun i H x H' hi k y => ?_) (fun H k => Nat.le_refl _) (fun i H R R0 hi k hR => ?_) fun H' k => ?_
  · obtain ⟨e1, c, e2, e3⟩ := y
    refine ⟨?_, e1⟩
    rw [e3, Array.getD_eq_getD_getElem?, e2]
    rfl
  · have hi' : i < z.cps.toList.length := by rw [← sz]; exact hi
    have e : z.cps.getD i 0 = z.cps.toList[i] := by
      rw [Array.getD_eq_getD_getElem?, ← Array.getElem?_toList, List.getElem?_eq_getElem hi']
      rfl
    rw [List.getElem?_eq_getElem hi'] at hR
    show g (.str ⟨#[z.cps.getD i 0]⟩) _ _ _
    rw [e]
    exact hs _ H R R0 (List.getElem_mem hi') (k12.trans k) ((k12.trans k).t hT) hR
  · rw [sz, range_any, range_all]
    exact q H' (k12.trans k)

/-! ### defs that hold a generator expression -/
section
variable {P : Program} {w : World} {K : PySem.W.Frag} {mg : Str → Option Value} {b : Heap}
theorem keepsT {x qual : Str} {st : Stmt} {f c : Addr} {fd : FuncData} {N ps : List Str} {k : Nat} {sp : Sp} (F : Fun K x qual st f fd) (hc : fd.code = .ref c) (S : FnScope N ps (defScope st))
    (len : ∀ vs H Q E, sp vs H Q E → vs.length = ps.length)
    (body : ∀ (A : Around) (o : List Env) (s : Shared) (H : Hp) (vs : List V) (Q : VK) (E : XK), Rm k (A.deeper (envOfC qual (defScope st) s.heap.objs.size f (.ref c))) → sp vs H Q E →
      ∃ t, PSs (cxOf CX0 P w K mg b N qual (defScope st) f (.ref c) A o s H E).nox (defBody st) t ∧ t { nx := fun _ H' => Q .non H', rt := Q } (start N vs) H) :
    Keeps P w K mg b CX0 (k + 1) f fd ps sp := by
  obtain ⟨oc, od, kV, doc, pm, an, cdv, ct, osl, rfl, lk, hcd⟩ := F.ex
  obtain rfl : cdv = .ref c := hc
  refine ⟨len, fun A o s H g us vs Q E hr e0 hb r hsp => ?_⟩
  have hl := len _ _ _ _ hsp
  have up : ∀ {a : Addr} {ob : Obj}, b.get? a = some ob → s.heap.get? a = some ob := fun {a ob} q => (e0.bs a ob q).1
  have inK : K.In s.heap := e0.mod.kin.keeps fun _ _ q => up q
  have nolim : s.heap.NoLimit := e0.mod.nolimit.keeps fun _ _ q => up q
  have kinds : ∀ y ∈ ps.zip us, (defScope st).names.lookup y.1 = some .local ∨ ((defScope st).names.lookup y.1 = some .cell ∧ ((cellsFrom (s.heap.objs.size + 1) (defScope st).names []).lookup y.1).isSome = true) := by
    rintro ⟨n, v⟩ hy
    have hn := S.par n (List.of_mem_zip hy).1
    exact hn.imp id fun q => ⟨q, PySem.W.cellsFrom_some _ _ _ (.inl q)⟩
  have recd := PySem.W.codeRec_of inK hcd
  refine codeAny_call_function hr.rm.depth (inK _ _ lk) rfl S.co S.gen rfl recd (hb _ _ _ _ ?_)
  refine wpAny_newFunctionEnv_cells S.kind kinds ?_
  intro env he s1 y
  subst he
  refine ⟨nolim.keeps y.toInCall.keep, codeAny_func ?_⟩
  obtain ⟨t, ht, hq⟩ := body A o s H vs Q E (hr.deep _) hsp
  have I := inv_start (CX := CX0) (E := E) S hr.rm.hd e0 hl r y
  refine wpAny_mono (ht.nox.run [] s1 (start N vs) H _ I hq) ?_ fun _ _ q => q
  intro fl s' hs
  match fl, hs with
  | .ret u, hs =>
    obtain ⟨v, σ', H', J, rv, q⟩ := hs
    exact ⟨v, H', J.os, J.bare, J.base, J.hok, rv, q⟩
  | .next, hs =>
    obtain ⟨σ', H', J, q⟩ := hs
    exact ⟨.non, H', J.os, J.bare, J.base, J.hok, rfl, q⟩
  | .brk, hs => exact hs.elim fun _ z => z.elim fun _ y => y.2.elim
  | .cont, hs => exact hs.elim fun _ z => z.elim fun _ y => y.2.elim
end

/-! ### the end, with tables -/
/-- what may be tracked at the beginning: the script, locked, and the tables -/
def OnlyT (L : List Addr) (H : Hp) : Prop := ∀ b, H b = none ∨ (b ∈ L ∧ H b = some (.tbl #[])) ∨ ∃ o xs, H b = some (.frz o (.lst xs))
/-- the table of the code object at c, no object of the module's own -/
def tabIn (K : PySem.W.Frag) (c : Addr) : Option Addr := match K.lookup c with
  | some o => match o.data with
    | .fields vs => match vs[11]? with
      | some (Value.ref P) => if (K.lookup P).isNone then some P else none
      | _ => none
    | _ => none
  | none => none
theorem tabIn_ok {K : PySem.W.Frag} {h : Heap} {c P P' : Addr} (hK : K.In h) (e : tabIn K c = some P) (t : h.TableAt c P' #[]) : P' = P ∧ K.lookup P = none := by
  unfold tabIn at e
  split at e
  · rename_i o lk
    have ho := hK _ _ lk
    obtain ⟨⟨o', vs', e1, _, e3, e4⟩, _⟩ := t
    rw [ho] at e1
    cases e1
    rw [e3] at e
    dsimp only at e
    rw [e4] at e
    dsimp only at e
    split at e
    · rename_i hn
      cases e
      exact ⟨rfl, Option.isNone_iff_eq_none.mp hn⟩
    · cases e
  · cases e
theorem endT {P : Program} {w : World} {K : PySem.W.Frag} {mg mb : Str → Option Value} {k : Nat} {fa a : Addr} {fd : FuncData} {x : Str} {cs : List (Addr × Addr)} {sp : Sp} {s : Shared} {vs : List Value} {ns : List Int}
    (KX : K.In s.heap) (hns : s.heap.Ns mainGlobals mg) (hb : s.heap.Ns builtinsNs mb) (hbb : ∀ x : Str, x ≠ "__name__" → mb x = bootBuiltins x) (hlim : s.heap.NoLimit) (hg : s.gens = #[])
    (tab : ∀ p ∈ cs, s.heap.IsCode p.1 p.2 #[] ∧ s.heap.TableAt p.1 p.2 #[] ∧ K.lookup p.2 = none)
    (hbm : ∃ (bm : Addr) (ob : Obj), mg "__builtins__" = some (.ref bm) ∧ bm ≠ builtinsNs ∧ s.heap.get? bm = some ob ∧ ob.cls = .type "module" ∧ ob.dict = some builtinsNs ∧ ob.data = .plain)
    (ha : s.heap.get? a = some { cls := .type "list", data := .seq vs.toArray }) (hi : IntsAre vs ns) (hl : ns.length ≤ sizeLine) (hr : Rm k callerA)
    (F : ∀ b : Heap, K.In b → b.Ns mainGlobals mg → (∀ p ∈ cs, GxR.TabB b mg p.1 p.2) → Keeps P w K mg b CX0 k fa fd [x] sp) (hbind : ∀ (s : Shared) (u : Value), BindsTo s fd ⟨[u], []⟩ [(x, u)])
    (hsp : ∀ H : Hp, OnlyT (cs.map (·.2)) H → Tabs (cs.map (·.2)) H → SqL K H a (ns.map V.int) → sp [.ref a] H (fun v _ => v = .bl true) fun _ _ _ => False) :
    codeAny (model P w) callerA (.call (.ref fa) ⟨[.ref a], []⟩) (fun r s' => r = .ok (.ret (.bool true)) ∧ OldK s.heap s'.heap ∧ s'.os = s.os ∧ AllBare s'.gens) s := by
  have lenV := hi.length
  have rv := vals_ints hi
  have obT : ∀ b : Addr, b ∈ cs.map (·.2) → s.heap.get? b = some { cls := .none, data := .fields #[] } := fun b hm => by
    obtain ⟨p, hp, rfl⟩ := List.mem_map.mp hm
    exact (tab p hp).2.1.2
  have naT : a ∉ cs.map (·.2) := fun hm => by
    have q := obT a hm
    rw [ha] at q
    have q' := congrArg Obj.data (Option.some.inj q)
    cases q'
  let H0 : Hp := fun b => if b ∈ cs.map (·.2) then some (.tbl #[]) else if b = a ∧ K.lookup a = none then some (.frz { cls := .type "list", data := .seq vs.toArray } (.lst (ns.map V.int))) else none
  have atT : ∀ {b}, b ∈ cs.map (·.2) → H0 b = some (.tbl #[]) := fun hm => if_pos hm
  have only : OnlyT (cs.map (·.2)) H0 := fun b => by
    by_cases h1 : b ∈ cs.map (·.2)
    · exact .inr (.inl ⟨h1, if_pos h1⟩)
    · by_cases h2 : b = a ∧ K.lookup a = none
      · exact .inr (.inr ⟨_, _, (if_neg h1).trans (if_pos h2)⟩)
      · exact .inl ((if_neg h1).trans (if_neg h2))
  have where_ : ∀ b, H0 b ≠ none → b ∈ cs.map (·.2) ∨ (b = a ∧ K.lookup a = none) := fun b n => by
    by_cases h1 : b ∈ cs.map (·.2)
    · exact .inl h1
    · by_cases h2 : b = a ∧ K.lookup a = none
      · exact .inr h2
      · exact absurd ((if_neg h1).trans (if_neg h2)) n
  have tabs : Tabs (cs.map (·.2)) H0 := fun p hp => ⟨#[], atT hp, trivial⟩
  have sq : SqL K H0 a (ns.map V.int) := by
    cases q : K.lookup a with
    | none => exact .inl (.inr ⟨_, (if_neg naT).trans (if_pos ⟨rfl, q⟩)⟩)
    | some o =>
      have e := (KX a o q).symm.trans ha
      obtain rfl := Option.some.inj e
      exact .inr ⟨_, vs.toArray, _, q, rfl, rfl, rfl, by rw [List.size_toArray, lenV]; exact hl, by simpa using rv⟩
  have hok : HOk P w H0 s.heap := fun c u z => by
    rcases where_ c (by rw [z]; exact Option.some_ne_none u) with h | ⟨rfl, h⟩
    · rw [atT h] at z
      cases z
      exact obT c h
    · rw [show H0 c = _ from (if_neg naT).trans (if_pos ⟨rfl, h⟩)] at z
      cases z
      exact ⟨ha, by rw [List.length_map]; exact hl, vs, _, rv, ha⟩
  have stays : ∀ {c : Addr} {o : Obj}, s.heap.get? c = some o → (∀ u n, o.data ≠ .seq u n) → o.data ≠ .fields #[] → H0 c = none := fun {c o} e h1 h2 => by
    match q : H0 c with
    | none => rfl
    | some u =>
      rcases where_ c (by rw [q]; exact Option.some_ne_none u) with h | ⟨rfl, _⟩
      · rw [obT c h] at e
        cases e
        exact (h2 rfl).elim
      · rw [ha] at e
        cases e
        exact (h1 _ _ rfl).elim
  have dictOut : ∀ {c : Addr} {o : Obj} {es : Array DictEntry} {ep : Nat}, s.heap.get? c = some o → o.data = .dict es ep → H0 c = none := fun e d => stays e (fun u n z => by rw [d] at z; cases z) fun z => by rw [d] at z; cases z
  have ns' : ∀ {c : Addr} {m : Str → Option Value}, s.heap.Ns c m → (hidT s.heap H0).Ns c m := fun ⟨o, es, ep, e, d, r⟩ => ⟨o, es, ep, hidT_get e (dictOut e d), d, r⟩
  have kin : K.In (hidT s.heap H0) := fun c o e => by
    refine hidT_get (KX c o e) ?_
    match q : H0 c with
    | none => rfl
    | some u =>
      rcases where_ c (by rw [q]; exact Option.some_ne_none u) with h | ⟨rfl, h⟩
      · obtain ⟨p, hp, rfl⟩ := List.mem_map.mp h
        rw [(tab p hp).2.2] at e
        cases e
      · rw [h] at e
        cases e
  obtain ⟨mc, l1, l2⟩ := hlim
  have M : Mod K mg (hidT s.heap H0) := ⟨kin, ns' hns, ⟨mb, ns' hb, hbb⟩, ⟨mc, ns' l1, l2⟩⟩
  have nG : ∀ {p : Addr}, p ∈ cs.map (·.2) → mainGlobals ≠ p := fun hm z => by
    obtain ⟨o, es, ep, e, d, _⟩ := hns
    rw [z, obT _ hm] at e
    cases e
    cases d
  have TB : ∀ p ∈ cs, GxR.TabB (hidT s.heap H0) mg p.1 p.2 := fun p hp => by
    have hm : p.2 ∈ cs.map (·.2) := List.mem_map.mpr ⟨p, hp, rfl⟩
    refine ⟨?_, ?_, nG hm⟩
    · obtain ⟨o, us, file, tf, flags, tg, inF, text, tt, e1, r1, r2, r3, rest⟩ := PySem.W.CodeHd.of (tab p hp).1 (tab p hp).2.1
      refine ⟨o, us, file, tf, flags, tg, inF, text, tt, hidT_get e1 (stays e1 (fun u n z => ?_) fun z => ?_), r1, r2, r3, rest⟩
      · rw [r2] at z
        cases z
      · rw [r2] at z
        cases z
        simp at r3
    · obtain ⟨bm, ob, b1, b2, b3, b4, b5, b6⟩ := hbm
      refine ⟨bm, ob, b1, b2, fun z => ?_, fun z => ?_, hidT_get b3 (stays b3 (fun u n z => ?_) fun z => ?_), b4, b5, b6⟩
      · obtain ⟨o, es, ep, e, d, _⟩ := hns
        rw [z, e] at b3
        cases b3
        rw [d] at b6
        cases b6
      · rw [z, obT _ hm] at b3
        cases b3
        cases b6
      · rw [b6] at z
        cases z
      · rw [b6] at z
        cases z
  have e0 : Env0 P w K mg (hidT s.heap H0) callerA [] s H0 :=
    ⟨rfl, M, fun c o e => of_hidT e, Nat.le_of_eq (hidT_size _ _), trivial, fun c hc => (List.not_mem_nil hc).elim, hok, .of_eq hg⟩
  have run := (F _ kin (ns' hns) TB).run callerA [] s H0 ⟨[.ref a], []⟩ [.ref a] [.ref a] _ _ hr e0 (hbind s (.ref a)) (.cons rfl .nil) (hsp H0 only tabs sq)
  refine codeAny_mono run fun res s' hq => ?_
  match res, hq with
  | .error e, hq => exact hq.elim
  | .ok .next, hq => exact hq.elim
  | .ok .brk, hq => exact hq.elim
  | .ok .cont, hq => exact hq.elim
  | .ok (.ret u), hq =>
    obtain ⟨v, H', os, bare, un, hok', r', q⟩ := hq
    obtain rfl : v = .bl true := q
    obtain rfl : u = Value.bool true := r'
    have grown : ∀ p ∈ cs, ∃ more : Array Value, s'.heap.get? p.2 = some { cls := .none, data := .fields more } := fun p hp => by
      obtain ⟨more, z⟩ := un.tbls p.2 #[] (atT (List.mem_map.mpr ⟨p, hp, rfl⟩))
      exact ⟨_, hok' p.2 _ z⟩
    have rest : ∀ c o, c ∉ cs.map (·.2) → s.heap.get? c = some o → s'.heap.get? c = some o := fun c o hn e => by
      rcases only c with z | ⟨z, _⟩ | ⟨ob, xs, z⟩
      · exact un.keep c o e z List.not_mem_nil List.not_mem_nil
      · exact absurd z hn
      · have z1 := (hok c _ z).1
        have z2 := (hok' c _ (un.frzs c ob _ z)).1
        exact z2.trans (z1.symm.trans e)
    refine ⟨rfl, ⟨fun c o e => ?_, fun c o e => ?_⟩, os, bare⟩
    · by_cases hm : c ∈ cs.map (·.2)
      · obtain ⟨p, hp, rfl⟩ := List.mem_map.mp hm
        obtain ⟨more, g⟩ := grown p hp
        rw [obT _ hm] at e
        cases e
        exact .inr (.inl ⟨(tab p hp).2.1.isCodeTable, rfl, #[], more, rfl, by rw [Array.empty_append]; exact g⟩)
      · exact .inl (rest c o hm e)
    · by_cases hm : c ∈ cs.map (·.2)
      · obtain ⟨p, hp, rfl⟩ := List.mem_map.mp hm
        obtain ⟨more, g⟩ := grown p hp
        exact ⟨_, g⟩
      · exact ⟨o, rest c o hm e⟩
/-- a def of the text with its code object and that one's table -/
structure TabDef (q : Program) (K : PySem.W.Frag) (mg : Str → Option Value) (t : Str × Addr × Addr) : Prop where
  r : ((recsOf q).any fun e => e.name == t.1) = true
  f : ∃ (fa : Addr) (o : Obj) (fd : FuncData), mg t.1 = some (.ref fa) ∧ K.lookup fa = some o ∧ o.data = .func fd ∧ fd.code = .ref t.2.1
  t : tabIn K t.2.1 = some t.2.2
theorem walk_endT {l : PySem.W.OpenLaw} {n k : Nat} {q : Program} {loose : List Str} {XP : (Str → Option Value) → Heap → Prop} {YP : World → Heap → Prop} {d : DefRec} {K : Params → PySem.W.Frag} {sp : PySem.W.Frag → List Addr → Sp} {x : Str}
    (hn : l.most = some n) (hn2 : n ≤ sizeLine) (hdf : d.params.defaults = []) (hr : Rm k callerA) (hY : ∀ (w : World) (h : Heap), YP w h → (K w.params).In h)
    (F : ∀ (w : World) (mg : Str → Option Value) (fa : Addr) (h : Heap), (K w.params).In h → h.Ns mainGlobals mg → mg d.name = some (.ref fa) →
      ∃ (fd : FuncData) (ts : List (Str × Addr × Addr)), (∀ t ∈ ts, TabDef q (K w.params) mg t) ∧ (∀ (s : Shared) (u : Value), BindsTo s fd ⟨[u], []⟩ [(x, u)]) ∧
        ∀ b : Heap, (K w.params).In b → b.Ns mainGlobals mg → (∀ t ∈ ts, GxR.TabB b mg t.2.1 t.2.2) → Keeps l.prog w (K w.params) mg b CX0 k fa fd [x] (sp (K w.params) (ts.map fun t => t.2.2)))
    (hsp : ∀ (K : PySem.W.Frag) (L : List Addr) (H : Hp) (a : Addr) (ns : List Int), ns.length ≤ n → OnlyT L H → Tabs L H → SqL K H a (ns.map V.int) → sp K L [.ref a] H (fun v _ => v = .bl true) fun _ _ _ => False) :
    PySem.W.WalkO q loose XP YP l.row.toRowW d [] (fun f vs => PySem.call f vs) := by
  refine Att.attach_call hn hdf ?_
  intro w s₀ s₁ mg mb fa o pm cd doc a vs ns G Y ho hd hcd hmg hobj hints hlen hg
  have kin := hY w _ Y
  obtain ⟨fd, ts, hts, hb, hF⟩ := F w mg fa _ kin G.T.g hmg
  have em : (ts.map fun t => t.2).map (fun p => p.2) = ts.map fun t => t.2.2 := by rw [List.map_map]; rfl
  refine endT (cs := ts.map fun t => t.2) kin G.T.g G.T.b G.T.builtins G.T.nolimit hg (fun p hp => ?_) G.T.bmain hobj hints (Nat.le_trans hlen hn2) hr (fun b h1 h2 h3 => hF b h1 h2 fun t ht => h3 _ (List.mem_map.mpr ⟨t, ht, rfl⟩)) hb fun H hO hT hS => ?_
  · obtain ⟨t, ht, rfl⟩ := List.mem_map.mp hp
    obtain ⟨r, ⟨fa', o1, fd1, m1, k1, d1, c1⟩, tt⟩ := hts t ht
    obtain ⟨dL, hm, hnm⟩ := List.any_eq_true.mp r
    obtain ⟨a', o', fd', c', P', h1, h2, h3, h4, h5, h6⟩ := G.T.tab dL hm
    rw [show dL.name = t.1 from beq_iff_eq.mp hnm, m1] at h1
    cases h1
    have g1 := kin _ _ k1
    rw [g1] at h2
    cases h2
    rw [d1] at h3
    cases h3
    rw [c1] at h4
    cases h4
    obtain ⟨e1, e2⟩ := tabIn_ok kin tt h6
    subst e1
    exact ⟨h5, h6, e2⟩
  · rw [em] at hO hT
    exact hsp _ _ H a ns hlen hO hT hS
theorem Scr.ofT {K : PySem.W.Frag} {L : List Addr} {H : Hp} {a : Addr} {xs : List V} (o : OnlyT L H) (h : SqL K H a xs) : Scr K H a xs := by
  rcases h with (h | h) | h
  · rcases o a with z | ⟨_, z⟩ | ⟨ob, ys, z⟩
    · exact nomatch z.symm.trans h
    · exact nomatch z.symm.trans h
    · exact nomatch z.symm.trans h
  · exact .inl h
  · exact .inr h
theorem Scr.kt {K : PySem.W.Frag} {L : List Addr} {H H' : Hp} {a : Addr} {xs : List V} (h : Scr K H a xs) (ht : Tabs L H) (k : KT L H H') : Scr K H' a xs :=
  h.elim (fun ⟨o, e⟩ => .inl ⟨o, k.k _ _ (ht.nin e fun ps z => nomatch z) e⟩) .inr
theorem Tup.kt {L : List Addr} {H H' : Hp} {a : Addr} {xs : List V} (h : Tup H a xs) (ht : Tabs L H) (k : KT L H H') : Tup H' a xs := h.keep k.k (ht.noTup _ _ h)
end Wg

/-! Wagon, part 32: a text times a number, list of a text, upper; signs. -/
namespace Wg
open PySem PySem.Spec PyProof.Rows L2
section
variable {X : Cx}
/-- text * number -/
def uMulS : R2 := fun x y H Q => ∃ (z : Str) (n : Int), x = .str z ∧ y = .int n ∧ 2 ≤ n ∧ n ≤ 100000 ∧ z.length ≠ 0 ∧ z.length * n.toNat ≤ 1000000 ∧ Q (.str ⟨(List.replicate n.toNat z.cps).foldl (· ++ ·) #[]⟩) H
theorem op_uMulS : OpR X (binaryOp .Mult) uMulS := by
  intro pins s σ H x y v u Q I rx ry h
  obtain ⟨z, n, rfl, rfl, h1, h2, h3, h4, q⟩ := h
  obtain ⟨t, rfl⟩ := rx
  obtain ⟨t', rfl⟩ := ry
  have nn : ¬ n < 1 := by omega
  have n1 : (n == 1 || z.length == 0) = false := by
    rw [Bool.or_eq_false_iff]
    exact ⟨beq_false_of_ne (by omega), beq_false_of_ne h3⟩
  have tl : Builtin.Str.tooLong (z.length * n.toNat) = false := by
    unfold Builtin.Str.tooLong
    exact decide_eq_false (Nat.not_lt.mpr (len_le h4))
  refine PySem.P.mul_str ?_ (fun _ _ => ?_) (fun _ _ => tl) ?_
  · rw [decide_eq_false (by omega), decide_eq_false (by omega)]
    rfl
  · have : z.length ≤ 1000000 := Nat.le_trans (Nat.le_mul_of_pos_right _ (by omega)) h4
    have e : (92233720368547 : Int) ≤ (2 ^ 63 - 1) / n := by
      rw [Int.le_ediv_iff_mul_le (by omega)]
      omega
    omega
  · rw [if_neg nn, if_neg (by rw [n1]; exact Bool.false_ne_true)]
    refine ⟨?_, ⟨.str _, H, I.tok _, ⟨_, rfl⟩, q⟩⟩
    exact PySem.fits_reps tl
def uUpper : V → List V → Hp → VK → Prop := fun x xs H Q => ∃ a, x = .str a ∧ xs = [] ∧ a.length ≤ 5592405 ∧ Q (.str (Txt.upper a)) H
theorem pe_uUpper {o : Expr} {to : TE} {apos pos : Pos} (ho : PE X o to) (hbase : attributeBase o "upper" X.env (eval o X.env) = eval o X.env := by rfl) (hline : (apos.endLine == pos.line) = true := by rfl) :
    PE X (.Call (.Attribute o "upper" apos) [] [] pos) (tM0 uUpper to) := pe_upper ho hbase hline
/-- list(text) -/
def uListZ : List V → Hp → VK → Prop := fun xs H Q => ∃ z : Str, xs = [.str z] ∧ z.length ≤ 1000000 ∧ Mk H (.lst (z.cps.toList.map fun c => .str ⟨#[c]⟩)) Q
theorem call_uListZ (hc : X.calm = true) : CallR X (.type "list") uListZ := by
  intro pins s σ H xs us Q I r h
  obtain ⟨z, rfl, hz, q⟩ := h
  obtain ⟨u, rfl, rx⟩ := vals1 r
  obtain ⟨t, rfl⟩ := rx
  refine call_list_str (I.ok.hd hc) z t (fun h' tk acc c' hk e hi => ?_) (len_le hz)
  have hl : (z.cps.toList.map fun c => V.str ⟨#[c]⟩).length = acc.toList.length := by
    rw [List.length_map, Array.length_toList, Array.length_toList]
    exact hi.1.symm
  refine ⟨.ref s.heap.objs.size, upd H s.heap.objs.size (.lst (z.cps.toList.map fun c => .str ⟨#[c]⟩)), I.laid hk (Nat.le_refl _) ⟨by rw [List.length_map, Array.length_toList]; exact len_le hz, acc.toList, c', ?_, by rw [Array.toArray_toList]; exact e⟩, rfl, q.at _ (I.hok.fresh (Nat.le_refl _))⟩
  refine vals_of_idx _ _ hl.symm fun j u hj => ?_
  obtain ⟨c, t', hc, rfl⟩ := hi.2 j u (by rw [← Array.getElem?_toList]; exact hj)
  refine ⟨.str ⟨#[c]⟩, ?_, ⟨_, rfl⟩⟩
  rw [List.getElem?_map, Array.getElem?_toList, hc]
  rfl
end
end Wg

/-! Wagon, part 33: f-strings, partition, int(text), texts cut, == of texts. -/
namespace Wg
open PySem PySem.Spec PyProof.Rows L2 PySem.W
open Builtin Builtin.Str Builtin.Int
/-- a number below a hundred by two figures -/
def two (n : Nat) : Str := ⟨#[48 + n / 10, 48 + n % 10]⟩
section
variable {prog : Program} {w : World} {A : Around} {E : Value → Shared → Prop} {s : Shared}
theorem field_02 {n : Nat} (hn : n < 60) {t : Tok} {Q : Value → Shared → Prop} (h : ∀ t' k, Q (.str (two n) t') { s with toks := k }) : wpAny (model prog w) A (formatField (.int (n : Nat) t) "02d") Q E s := by
  have c : n = 0 ∨ n = 1 ∨ n = 2 ∨ n = 3 ∨ n = 4 ∨ n = 5 ∨ n = 6 ∨ n = 7 ∨ n = 8 ∨ n = 9 ∨ n = 10 ∨ n = 11 ∨ n = 12 ∨ n = 13 ∨ n = 14 ∨ n = 15 ∨ n = 16 ∨ n = 17 ∨ n = 18 ∨ n = 19 ∨ n = 20 ∨ n = 21 ∨ n = 22 ∨ n = 23 ∨ n = 24 ∨ n = 25 ∨ n = 26 ∨ n = 27 ∨ n = 28 ∨ n = 29 ∨ n = 30 ∨ n = 31 ∨ n = 32 ∨ n = 33 ∨ n = 34 ∨ n = 35 ∨ n = 36 ∨ n = 37 ∨ n = 38 ∨ n = 39 ∨ n = 40 ∨ n = 41 ∨ n = 42 ∨ n = 43 ∨ n = 44 ∨ n = 45 ∨ n = 46 ∨ n = 47 ∨ n = 48 ∨ n = 49 ∨ n = 50 ∨ n = 51 ∨ n = 52 ∨ n = 53 ∨ n = 54 ∨ n = 55 ∨ n = 56 ∨ n = 57 ∨ n = 58 ∨ n = 59 := by omega
  rcases c with rfl | rfl | rfl | rfl | rfl | rfl | rfl | rfl | rfl | rfl | rfl | rfl | rfl | rfl | rfl | rfl | rfl | rfl | rfl | rfl | rfl | rfl | rfl | rfl | rfl | rfl | rfl | rfl | rfl | rfl | rfl | rfl | rfl | rfl | rfl | rfl | rfl | rfl | rfl | rfl | rfl | rfl | rfl | rfl | rfl | rfl | rfl | rfl | rfl | rfl | rfl | rfl | rfl | rfl | rfl | rfl | rfl | rfl | rfl | rfl
  all_goals (refine KXf.field_int (spec' := "02d") rfl (by decide +kernel) (by decide +kernel) ?_ h; kxf_run_i)
end
section
variable {X : Cx}
/-- {x:02d} of a number below sixty -/
def tFmt02 (te : TE) : TE := fun σ H Q => te σ H fun x H1 => ∃ n : Nat, x = .int (n : Nat) ∧ n < 60 ∧ Q (.str (two n)) H1
theorem pe_fmt02 {e sp : Expr} {te : TE} {pos : Pos} (he : PE X e te) (hs : PE X sp (tC (.str "02d"))) : PE X (.FormattedValue e (-1) (some sp) pos) (tFmt02 te) := by
  refine ⟨fun pins s σ H Q I h => ?_⟩
  refine wpAny_FormattedValue_spec (thn (he.run pins s σ H _ I h) fun v s1 hv => ?_)
  obtain ⟨x, H1, I1, r1, n, rfl, hn, q⟩ := hv
  obtain ⟨t, rfl⟩ := r1
  refine thn (hs.run pins s1 σ H1 (fun x H2 => x = .str "02d" ∧ H2 = H1) I1 ⟨rfl, rfl⟩) fun r s2 hr => ?_
  obtain ⟨y, H2, I2, r2, rfl, rfl⟩ := hr
  obtain ⟨t2, rfl⟩ := r2
  exact ⟨_, _, rfl, field_02 hn fun t' k => ⟨.str (two n), H2, I2.tok _, ⟨_, rfl⟩, q⟩⟩
def tJoined (ts : List TE) : TE := fun σ H Q => tJs ts Str.empty σ H fun out H1 => Q (.str out) H1
theorem pe_joinedU {v1 v2 : Expr} {rest : List Expr} {ts : List TE} {pos : Pos} (h : PJ X (v1 :: v2 :: rest) ts) : PE X (.JoinedStr (v1 :: v2 :: rest) pos) (tJoined ts) := pe_joined h
/-- partition -/
def uPartition : V → List V → Hp → VK → Prop := fun x xs H Q => ∃ a b, x = .str a ∧ xs = [.str b] ∧ (b.length == 0) = false ∧ a.length ≤ sizeLine ∧
  ∀ p, H p = none → Q (.ref p) (upd H p (.tup [.str (Txt.partition a b).1, .str (Txt.partition a b).2.1, .str (Txt.partition a b).2.2]))
theorem pe_uPartition {o e : Expr} {to te : TE} {apos pos : Pos} (ho : PE X o to) (he : PE X e te) (hs : starEach [e] X.env = [(false, eval e X.env)] := by rfl) (hbase : attributeBase o "partition" X.env (eval o X.env) = eval o X.env := by rfl) (hline : (apos.endLine == pos.line) = true := by rfl) :
    PE X (.Call (.Attribute o "partition" apos) [e] [] pos) (tM1 uPartition to te) := pe_partition ho he hs hbase hline
/-- int(text) -/
def uIntS : List V → Hp → VK → Prop := fun xs H Q => ∃ a n, xs = [.str a] ∧ PySem.intText? a = some n ∧ a.length ≤ 640 ∧ Q (.int n) H
theorem call_uIntS : CallR X (.type "int") uIntS := call_int_str
end
end Wg

/-! Wagon, part 34: divmod. -/
namespace Wg
open PySem PySem.Spec PyProof.Rows L2
def uDivmod : List V → Hp → VK → Prop := fun xs H Q => ∃ i j, xs = [.int i, .int j] ∧ CDiv i j ∧ ∀ p, H p = none → Q (.ref p) (upd H p (.tup [.int (i / j), .int (i % j)]))
theorem call_uDivmod {X : Cx} : CallR X (.builtin "divmod") uDivmod := call_divmod
end Wg

/-! Wagon, part 35: < of texts. -/
namespace Wg
open PySem PySem.Spec PyProof.Rows L2
def uLtS : V → V → Hp → VK → Prop := fun x y H Q => ∃ i j, x = .str i ∧ y = .str j ∧ Q (.bl (decide (i.cps.toList < j.cps.toList))) H
theorem op_uLtS {X : Cx} : OpR X (compareOp .Lt) uLtS := op_lt_str
end Wg

/-! Wagon, part 36: repr of a tuple of data in which empty dicts may stand, at any depth. -/
namespace Wg
open PySem PySem.Spec PyProof.Rows L2
mutual
/-- data whose lists are the law's own, with empty dicts -/
inductive Dq (K : PySem.W.Frag) (H : Hp) : V → PyData → Prop
  | dp {v : V} {d : PyData} : Dp K H v d → Dq K H v d
  | lst {a : Addr} {xs : List V} {ds : List PyData} : H a = some (.lst xs) → DqAll K H xs ds → Dq K H (.ref a) (.list ds)
  | tup {a : Addr} {xs : List V} {ds : List PyData} : Tup H a xs → DqAll K H xs ds → Dq K H (.ref a) (.tuple ds)
  | dic {a : Addr} : H a = some (.dK []) → Dq K H (.ref a) (.dict [])
inductive DqAll (K : PySem.W.Frag) (H : Hp) : List V → List PyData → Prop
  | nil : DqAll K H [] []
  | cons {v : V} {vs : List V} {d : PyData} {ds : List PyData} : Dq K H v d → DqAll K H vs ds → DqAll K H (v :: vs) (d :: ds)
end
/-- what the heap tells of one value, of a row of them -/
structure Told (P : Program) (w : World) (h : Heap) (v : Value) (d : PyData) : Prop where
  r : ∃ as, Reads h v d as
  k : d.showable = true → d.shown.length ≤ sizeLine → ∃ bs, ReadAtMost h d.depth bs ∧ ReprK P w bs h d.depth v d.shown
structure ToldAll (P : Program) (w : World) (h : Heap) (vs : List Value) (ds : List PyData) : Prop where
  r : ∃ as, ReadsAll h vs ds as
  k : PyData.showableAll ds = true → (∀ t ∈ PyData.shownAll ds, t.length ≤ sizeLine) → ∃ bs, ReadAtMost h (PyData.depthAll ds) bs ∧ ReprAllK P w bs h (PyData.depthAll ds) vs (PyData.shownAll ds)
section
variable {P : Program} {w : World} {h : Heap}
theorem ToldAll.none : ToldAll P w h [] [] := ⟨⟨_, .nil⟩, fun _ _ => ⟨[], (fun _ z => nomatch z), by simp only [PyData.shownAll]; exact .nil⟩⟩
theorem ToldAll.more {v : Value} {vs : List Value} {d : PyData} {ds : List PyData} (a : Told P w h v d) (b : ToldAll P w h vs ds) : ToldAll P w h (v :: vs) (d :: ds) := by
  obtain ⟨as, ra⟩ := a.r
  obtain ⟨bs, rb⟩ := b.r
  refine ⟨⟨_, .cons ra rb⟩, fun hs hz => ?_⟩
  rw [show PyData.showableAll (d :: ds) = (d.showable && PyData.showableAll ds) by simp only [PyData.showableAll], Bool.and_eq_true] at hs
  have es : PyData.shownAll (d :: ds) = d.shown :: PyData.shownAll ds := by simp only [PyData.shownAll]
  have ed : PyData.depthAll (d :: ds) = max d.depth (PyData.depthAll ds) := by simp only [PyData.depthAll]
  rw [es] at hz ⊢
  rw [ed]
  obtain ⟨x, hx, kx⟩ := a.k hs.1 (hz _ List.mem_cons_self)
  obtain ⟨y, hy, ky⟩ := b.k hs.2 fun t ht => hz t (List.mem_cons_of_mem _ ht)
  exact ⟨x ++ y, (hx.mono (Nat.le_max_left _ _)).append (hy.mono (Nat.le_max_right _ _)), .cons ((kx.more fun b hb => List.mem_append_left _ hb).level_le (Nat.le_max_left _ _)) (ky.more_le (fun b hb => List.mem_append_right _ hb) (Nat.le_max_right _ _))⟩
theorem Told.list {a : Addr} {o : Obj} {n : Nat} {its : List Value} {ds : List PyData} (e : h.get? a = some o) (c : o.cls = .type "list") (dd : o.data = .seq its.toArray n) (t : ToldAll P w h its ds) : Told P w h (.ref a) (.list ds) := by
  obtain ⟨as, ra⟩ := t.r
  have r : Reads h (.ref a) (.list ds) (a :: as) := .list e c dd ra
  refine ⟨⟨_, r⟩, fun hs hz => ?_⟩
  have eD : (PyData.list ds).depth = PyData.depthAll ds + 1 := by simp only [PyData.depth]
  have eS : (PyData.list ds).shown = listText (PyData.shownAll ds) := by simp only [PyData.shown]
  rw [eS] at hz ⊢
  obtain ⟨bs, hb, hk⟩ := t.k (by simpa only [PyData.showable] using hs) fun x hx => Nat.le_trans (listText_mem_le hx) hz
  have hna : a ∉ bs := not_mem_of_deeper r (by rw [eD]; omega) hb
  refine ⟨a :: bs, ReadAtMost.cons r (by rw [eD]; omega) hb, ?_⟩
  rw [eD]
  cases its with
  | nil =>
    cases ra
    rw [show PyData.shownAll [] = [] by simp only [PyData.shownAll], listText_nil]
    exact ReprK.listEmpty e c dd
  | cons x l => exact ReprK.list e c dd hna (by simpa using hk.length_eq) fun i y q => hk.item i y (by simpa using q)
theorem Told.tuple {a : Addr} {o : Obj} {n : Nat} {its : List Value} {ds : List PyData} (e : h.get? a = some o) (c : o.cls = .type "tuple") (dd : o.data = .seq its.toArray n) (t : ToldAll P w h its ds) : Told P w h (.ref a) (.tuple ds) := by
  obtain ⟨as, ra⟩ := t.r
  have r : Reads h (.ref a) (.tuple ds) as := .tuple e c dd ra
  refine ⟨⟨_, r⟩, fun hs hz => ?_⟩
  have eD : (PyData.tuple ds).depth = PyData.depthAll ds + 1 := by simp only [PyData.depth]
  have eS : (PyData.tuple ds).shown = tupleText (PyData.shownAll ds) := by simp only [PyData.shown]
  rw [eS] at hz ⊢
  obtain ⟨bs, hb, hk⟩ := t.k (by simpa only [PyData.showable] using hs) fun x hx => Nat.le_trans (tupleText_mem_le hx) hz
  have hna : a ∉ bs := not_mem_of_deeper r (by rw [eD]; omega) hb
  refine ⟨a :: bs, ReadAtMost.cons r (by rw [eD]; omega) hb, ?_⟩
  rw [eD]
  exact ReprK.tuple e c dd hna hk
end
section
variable {X : Cx} {pins : List (Addr × Obj)} {σ : L2.St} {H : Hp} {s : Shared}
theorem told_dp (I : Inv X pins σ H s) {v : V} {d : PyData} {u : Value} (h : Dp X.K H v d) (r : RelV v u) : Told X.prog X.w s.heap u d := by
  obtain ⟨as, rd⟩ := Dp.reads I d v u h r
  exact ⟨⟨_, rd⟩, fun hs hz => ReprK.of_reads rd hs (PyData.noDict_hsm (dp_noDict h)) hz⟩
theorem told_dic (I : Inv X pins σ H s) {a : Addr} (h : H a = some (.dK [])) : Told X.prog X.w s.heap (.ref a) (.dict []) := by
  obtain ⟨z, hsy, ws, kv, o, es, ep, ho, ex, hdat, _, hp, _⟩ := I.hok a _ h
  obtain ⟨r1, r2⟩ := pairs_reads (K := X.K) I hp kv (ds := []) .nil
  have rd : Reads s.heap (.ref a) (PyData.dict []) (a :: [] ++ []) := .dict ho ex.1 hdat r1 r2
  refine ⟨⟨_, rd⟩, fun hs hz => ReprK.of_reads rd hs (fun _ hm => ?_) hz⟩
  have e : sysModules = a := by simpa using hm
  rw [e] at hsy
  simp at hsy
mutual
theorem Dq.told (I : Inv X pins σ H s) : ∀ (d : PyData) (v : V) (u : Value), Dq X.K H v d → RelV v u → Told X.prog X.w s.heap u d
  | .list ds, _, _, h, r => by
    cases h with
    | dp h => exact told_dp I h r
    | lst hs ha =>
      cases r
      obtain ⟨its, rv, ⟨o, n, ho, hc, _, hd⟩, _⟩ := I.list (lst_sq (K := X.K) hs)
      exact Told.list ho hc hd (DqAll.told I ds _ its ha rv)
  | .tuple ds, _, _, h, r => by
    cases h with
    | dp h => exact told_dp I h r
    | tup hs ha =>
      cases r
      obtain ⟨its, n, rv, _, ho⟩ := hs.obj I
      exact Told.tuple ho rfl rfl (DqAll.told I ds _ its ha rv)
  | .dict _, _, _, h, r => by
    cases h with
    | dp h => exact told_dp I h r
    | dic e => cases r; exact told_dic I e
  | .none, _, _, h, r => by cases h with | dp h => exact told_dp I h r
  | .bool _, _, _, h, r => by cases h with | dp h => exact told_dp I h r
  | .int _, _, _, h, r => by cases h with | dp h => exact told_dp I h r
  | .str _, _, _, h, r => by cases h with | dp h => exact told_dp I h r
theorem DqAll.told (I : Inv X pins σ H s) : ∀ (ds : List PyData) (vs : List V) (us : List Value), DqAll X.K H vs ds → Vals vs us → ToldAll X.prog X.w s.heap us ds
  | [], _, _, h, r => by
    cases h
    cases r
    exact ToldAll.none
  | d :: ds, _, _, h, r => by
    cases h with
    | cons h1 h2 =>
      cases r with
      | cons r1 r2 => exact ToldAll.more (Dq.told I d _ _ h1 r1) (DqAll.told I ds _ _ h2 r2)
end
end
/-- repr of a tuple of such data -/
def uReprQ (K : PySem.W.Frag) : List V → Hp → VK → Prop := fun xs H Q => ∃ (a : Addr) (vs : List V) (ds : List PyData), xs = [.ref a] ∧ Tup H a vs ∧ DqAll K H vs ds ∧ fine (.tuple ds) ∧ (PyData.tuple ds).depth ≤ 100 ∧ cost (.tuple ds) ≤ 10000000 ∧ Q (.str (PyData.tuple ds).shown) H
theorem call_uReprQ {X : Cx} (hr : Rm 1 X.A) : CallR X (.builtin "repr") (uReprQ X.K) := by
  intro pins s σ H xs us Q I r h
  obtain ⟨a, vs, ds, rfl, ht, hd, hf, hdep, hz, q⟩ := h
  obtain ⟨u, rfl, rx⟩ := vals1 r
  cases rx
  obtain ⟨its, n, rv, _, ho⟩ := ht.obj I
  have t := DqAll.told I ds _ its hd rv
  have hu : X.A.units + ((PyData.tuple ds).depth + 1) < cLine := by
    have := hr.rm.un
    omega
  have eS : (PyData.tuple ds).shown = tupleText (PyData.shownAll ds) := by simp only [PyData.shown]
  have eD : (PyData.tuple ds).depth = PyData.depthAll ds + 1 := by simp only [PyData.depth]
  have hs := fine_show hf
  have hz' : (PyData.tuple ds).shown.length ≤ sizeLine := Nat.le_trans (shown_le hf) (line_big hz)
  rw [eS] at hz'
  obtain ⟨as, ra⟩ := t.r
  obtain ⟨bs, hb, hk⟩ := t.k (by simpa only [PyData.showable] using hs) fun x hx => Nat.le_trans (tupleText_mem_le hx) hz'
  have rr : Reads s.heap (.ref a) (.tuple ds) as := .tuple ho rfl rfl ra
  have hna : a ∉ bs := not_mem_of_deeper rr (by rw [eD]; omega) hb
  refine call_repr_slot (T := "tuple") (idr := "tuple.__repr__") (by omega) ⟨_, ho, rfl⟩ F.slot_tuple_repr (call_tuple_reprK ho rfl rfl hna hk hr.gd (fun b _ => Clear.nil b) (by show X.A.units + 1 + _ < cLine; omega) (fun _ _ e => e) (fun h' u tk hkp => ⟨_, _, rfl, ?_⟩) hz')
  rw [← eS]
  exact ⟨.str _, H, I.kept (t' := tk) hkp, ⟨_, rfl⟩, q⟩
end Wg

/-! Wagon, part 37: list.insert. -/
namespace Wg
open PySem PySem.Spec PyProof.Rows L2
def uInsert : V → List V → Hp → VK → Prop := fun x vs H Q => ∃ (l : Addr) (xs : List V) (i : Int) (y : V), x = .ref l ∧ vs = [.int i, y] ∧ H l = some (.lst xs) ∧ xs.length < sizeLine ∧ 0 ≤ i ∧ i < 2 ^ 63 ∧
  Q .non (upd H l (.lst (xs.take i.toNat ++ [y] ++ xs.drop i.toNat)))
theorem mt_uInsert {X : Cx} : MtR X "list.insert" uInsert := mt_insert
theorem g_insert {l : Addr} {xs : List V} {i : Int} {y : V} {H : Hp} {Q : VK} (h : H l = some (.lst xs)) (z : xs.length < sizeLine) (h0 : 0 ≤ i) (h1 : i < 2 ^ 63) (q : ∀ H', Keep [l] H H' → H' l = some (.lst (xs.take i.toNat ++ [y] ++ xs.drop i.toNat)) → Q .non H') : uInsert (.ref l) [.int i, y] H Q := ⟨l, xs, i, y, rfl, rfl, h, z, h0, h1, q _ Keep.set upd_same⟩
end Wg

/-! Wagon, part 38: t[::-1] of a tuple. -/
namespace Wg
open PySem PySem.Spec PyProof.Rows L2
section
variable {prog : Program} {w : World} {A : Around} {E : Value → Shared → Prop} {s : Shared}
theorem applied_rev {sl : Addr} {vl vu vs : Value} {n : Nat} {Q : Int × Int × Nat → Shared → Prop} (hs : s.heap.IsSliceOf sl vl vu vs) (pl : IsPart vl none) (pu : IsPart vu none) (ps : IsPart vs (some (-1)))
    (h : Q ((n : Int) - 1, -1, n) s) : wpAny (model prog w) A (Builtin.Slice.sliceApplied (.ref sl) (pure (n : Int))) Q E s := by
  obtain ⟨os, hos, hcs, hds⟩ := id hs
  unfold Builtin.Slice.sliceApplied Builtin.Slice.sliceFields
  refine wpAny_bind (wpAny_bind (wpAny_field hos hds (x := vl) rfl (wpAny_bind (wpAny_field hos hds (x := vu) rfl (wpAny_bind (wpAny_field hos hds (x := vs) rfl (wpAny_pure ?_)))))))
  refine wpAny_bind (HT.slicePart_ ps ?_)
  show wpAny _ _ (if ((-1 : Int) == 0) = true then _ else _) _ _ s
  rw [if_neg (by decide)]
  refine wpAny_bind (HT.slicePart_ pl (wpAny_bind (HT.slicePart_ pu (wpAny_bind (wpAny_pure ?_)))))
  show wpAny _ _ (pure ((n : Int) - 1, (-1 : Int), Builtin.Slice.slicePlaces ((n : Int) - 1) (-1) (-1))) _ _ s
  have e : Builtin.Slice.slicePlaces ((n : Int) - 1) (-1) (-1) = n := by
    unfold Builtin.Slice.slicePlaces
    rw [if_neg (by decide)]
    by_cases hn : (n : Int) - 1 > -1
    · rw [if_pos hn, show (- -1 : Int) = 1 by decide, Int.ediv_one]
      omega
    · rw [if_neg hn]
      omega
  rw [e]
  exact wpAny_pure h
theorem pick_rev (xs : Array Value) : ((List.range xs.size).filterMap fun (m : Nat) => xs[((xs.size : Int) - 1 + (m : Int) * (-1)).toNat]?).toArray = xs.toList.reverse.toArray := by
  have e : (List.range xs.size).filterMap (fun (m : Nat) => xs[((xs.size : Int) - 1 + (m : Int) * (-1)).toNat]?) = ((List.range xs.size).map fun k => xs.size - 1 - k).filterMap (xs[·]?) := by
    rw [List.filterMap_map]
    refine congrArg (fun f => List.filterMap f _) ?_
    funext m
    show xs[_]? = xs[xs.size - 1 - m]?
    have : ((xs.size : Int) - 1 + (m : Int) * (-1)).toNat = xs.size - 1 - m := by omega
    rw [this]
  rw [e, PySem.W.krv_range, List.filterMap_reverse, PySem.W.krv_all]
theorem rev_tuple {t sl : Addr} {items : Array Value} {vl vu vs : Value} {Q : Value → Shared → Prop} (ht : IsTup s.heap t items) (hs : s.heap.IsSliceOf sl vl vu vs) (pl : IsPart vl none) (pu : IsPart vu none) (ps : IsPart vs (some (-1)))
    (h : Q (.ref s.heap.objs.size) { s with heap := s.heap.push { cls := .type "tuple", data := .seq items.toList.reverse.toArray } })
    (hsz : items.size ≤ sizeLine) : wpAny (model prog w) A (getItem (.ref t) (.ref sl)) Q E s := by
  have htake : sizeOk (.seq items.toList.reverse.toArray) := by
    show items.toList.reverse.toArray.size ≤ sizeLine
    rw [List.size_toArray, List.length_reverse, Array.length_toList]
    omega
  obtain ⟨os, hos, hcs, hds⟩ := id hs
  have hTs : s.TypeIs (.ref sl) "slice" := ⟨os, hos, hcs⟩
  unfold getItem
  try with_reducible refine wpAny_holding ?_
  first | refine wpAny_bind (wpAny_pure ?_) | skip
  refine wpAny_bind (wpAny_sequenceKey ht.typeIs (by decide) ?_)
  refine wpAny_bind (wpAny_callSpecial?_slot (name := Str.ofString "__getitem__") ht.typeIs PyProof.Rows.slot_tuple_getitem
    (wpAny_call_entry PyProof.Rows.slot_tuple_getitem ht.typeIs entry_tuple_getitem ?_ (args_tuple_getitem _ _)))
  show wpAny _ _ (Builtin.Tuple.tupleItemsOf (.ref t) >>= _) _ _ s
  refine wpAny_bind (tupleItemsOf_ ht ?_)
  refine wpAny_bind (wpAny_typeOf hTs ?_)
  rw [if_pos (by decide)]
  refine wpAny_bind (applied_rev (n := items.size) hs pl pu ps ?_)
  have hno : ¬ ((((items.size : Int) - 1) == 0 && (-1 : Int) == 1 && items.size == items.size) = true) := by
    rw [show ((-1 : Int) == 1) = false by decide, Bool.and_false, Bool.false_and]
    exact Bool.false_ne_true
  show wpAny _ _ (if (((items.size : Int) - 1) == 0 && (-1 : Int) == 1 && items.size == items.size) = true then _ else _) _ _ s
  rw [if_neg hno, pick_rev]
  first
    | exact wpAny_bind (m := Builtin.Tuple.tupleExact _) (wpAny_newObj_type (wpAny_pure ⟨_, rfl, wpAny_pure h⟩) htake)
    | exact wpAny_bind (m := Builtin.Tuple.tupleExact _) (wpAny_newObj_type (wpAny_bind (wpAny_pure (wpAny_pure ⟨_, rfl, wpAny_pure h⟩))) htake)
    | exact wpAny_bind (wpAny_bind (m := Builtin.Tuple.tupleExact _) (wpAny_newObj_type (wpAny_pure (wpAny_pure ⟨_, rfl, wpAny_pure h⟩)) htake))
    | exact wpAny_bind (wpAny_bind (m := Builtin.Tuple.tupleExact _) (wpAny_newObj_type (wpAny_pure ⟨_, rfl, wpAny_pure h⟩) htake))
end
section
variable {X : Cx}
/-- xs[::-1], of a list or a tuple -/
def tRevT (K : PySem.W.Frag) (te : TE) : TE := fun σ H Q => te σ H fun x H1 => ∃ a xs, x = .ref a ∧ Tup H1 a xs ∧ Mt H1 xs.reverse Q
theorem pe_revT {e : Expr} {te : TE} {k : Nat} {p1 p2 p3 pos : Pos} (he : PE X e te) : PE X (.Subscript e (.Slice none none (some (.UnaryOp .USub (.Constant (.int 1) k p1) p2)) p3) pos) (tRevT X.K te) := by
  refine ⟨fun pins s σ H Q I h => ?_⟩
  refine Subscript_ (thn (he.run pins s σ H _ I h) fun v s1 ⟨x, H1, I1, r1, q1⟩ => ?_)
  obtain ⟨a, xs, ex, hx, q⟩ := q1
  subst ex
  cases r1
  have hst : PO X (some (.UnaryOp .USub (.Constant (.int 1) k p1) p2)) (tPart (tUn (rU fun i => .int (-i)) (tC (.int 1)))) := po_some (pe_un un_neg pe_int)
  refine wpAny_Slice (thn (po_none.run pins s1 σ H1 (fun o H2 => o = none ∧ H2 = H1) I1 ⟨rfl, rfl⟩) fun vl s2 ⟨l, H2, I2, pl, el, e2⟩ => ?_)
  subst el e2
  refine thn (po_none.run pins s2 σ H2 (fun o H3 => o = none ∧ H3 = H2) I2 ⟨rfl, rfl⟩) fun vu s3 ⟨u, H3, I3, pu, eu, e3⟩ => ?_
  subst eu e3
  refine thn (hst.run pins s3 σ H3 (fun o H4 => o = some (-1) ∧ H4 = H3) I3 ⟨1, rfl, -1, rfl, rfl, rfl⟩) fun vs s4 ⟨o, H4, I4, ps, eo, e4⟩ => ?_
  subst eo e4
  have I5 : Inv X pins σ H4 { s4 with heap := s4.heap.push { cls := .type "slice", data := .fields #[vl, vu, vs] } } := I4.kept (t' := s4.toks) fun b ob q => Heap.get?_push_of_some _ q
  obtain ⟨its, r, ht, hz⟩ := I5.tuple hx.sq
  have hlen := r.length
  show wpAny (model X.prog X.w) X.A (subscriptTail e (.Slice none none (some (.UnaryOp .USub (.Constant (.int 1) k p1) p2)) p3) (.ref a) (.ref s4.heap.objs.size)) (EP X pins σ Q) X.xe { s4 with heap := s4.heap.push { cls := .type "slice", data := .fields #[vl, vu, vs] } }
  refine tail_any (ops := [.ref a, .ref s4.heap.objs.size]) ht.typeIs (PyProof.Rows.slot_tuple_getitem.lookup) ?_ (by with_unfolding_all rfl)
  refine rev_tuple ht (Heap.IsSliceOf.new _ vl vu vs) pl pu ps ?_ (by rw [List.size_toArray]; omega)
  exact mt_end (t' := s4.toks) I5 r.reverse (by rw [List.length_reverse]; exact hz) q
end
theorem g_revT {K : PySem.W.Frag} {te : TE} {σ : L2.St} {H : Hp} {Q : VK} : tRevT K te σ H Q ↔ te σ H fun x H1 => ∃ a xs, x = .ref a ∧ Tup H1 a xs ∧ Mt H1 xs.reverse Q := Iff.rfl
end Wg

/-! Wagon, part 39: len(set(t)) of a tuple of texts, some perhaps told twice. -/
namespace Wg
open PySem PySem.Spec PyProof.Rows L2
/-- how many unlike ones stand among the first i -/
def cntD {K : Type} [DecidableEq K] (ks : List K) : Nat → Nat
  | 0 => 0
  | i + 1 => match ks[i]? with
    | some k => if k ∈ ks.take i then cntD ks i else cntD ks i + 1
    | none => cntD ks i
theorem cntD_succ {K : Type} [DecidableEq K] {ks : List K} {i : Nat} {k : K} (e : ks[i]? = some k) : cntD ks (i + 1) = if k ∈ ks.take i then cntD ks i else cntD ks i + 1 := by
  show (match ks[i]? with | some k => if k ∈ ks.take i then cntD ks i else cntD ks i + 1 | none => cntD ks i) = _
  rw [e]
theorem cntD_le {K : Type} [DecidableEq K] (ks : List K) : ∀ i, cntD ks i ≤ i
  | 0 => Nat.le_refl _
  | i + 1 => by
    have := cntD_le ks i
    unfold cntD
    split
    · split <;> omega
    · omega
theorem cntD_full {K : Type} [DecidableEq K] (ks : List K) : ∀ i, i ≤ ks.length → (cntD ks i = i ↔ (ks.take i).Nodup)
  | 0, _ => by simp [cntD]
  | i + 1, h => by
    have ih := cntD_full ks i (by omega)
    have le := cntD_le ks i
    have e : ks[i]? = some ks[i] := List.getElem?_eq_getElem (by omega)
    have tk : ks.take (i + 1) = ks.take i ++ [ks[i]] := by rw [List.take_succ, e]; rfl
    rw [tk, List.nodup_append]
    unfold cntD
    rw [e]
    dsimp only
    split
    · rename_i hm
      constructor
      · intro z; omega
      · intro z; exact (z.2.2 _ hm _ (List.mem_singleton.mpr rfl) rfl).elim
    · rename_i hm
      constructor
      · intro z
        refine ⟨ih.mp (by omega), by simp, fun a ha b hb c => ?_⟩
        rw [List.mem_singleton.mp hb] at c
        exact hm (c ▸ ha)
      · intro z
        have := ih.mpr z.1
        omega
section
variable {P : Program} {w : World} {A : Around} {R : Result → Shared → Prop} {it : Addr} {near own : List Addr} {G : Array GenState → Array GenState → Prop} {n : Nat} {Pv : Nat → Value → Prop} {St : Nat → Shared → Prop}
variable {K : Type} [DecidableEq K] [BEq K] [LawfulBEq K] {kd : KeyKind P w K}
/-- what set.update does over what walks through keys of one kind -/
theorem put_any (W : WalksS P w A.in1 it near own G n Pv St) {c : Addr} (hc : c ∉ near) {ks : List K} (hl : ks.length = n) (few : n + 1 < scanBound)
    (hv : ∀ i v, Pv i v → ∃ h : i < ks.length, kd.is ks[i] v = true ∧ v.scannable = true) :
    ∀ (m i : Nat), i + m = n → ∀ s : Shared, St i s → s.heap.SetOf kd c (fun k => decide (k ∈ ks.take i)) (cntD ks i) →
      (∀ s', Moved (c :: own) G s s' → s'.heap.SetOf kd c (fun k => decide (k ∈ ks)) (cntD ks n) → R (.ok (.ret .none)) s') →
      codeAny (model P w) A (.builtin "set.update.loop" ⟨[.ref c, .ref it], []⟩) R s := by
  have nc : c ∉ own := fun h => hc (W.sub c h)
  have up : ∀ {h h' : Heap} {S : K → Bool} {q : Nat}, h.SetOf kd c S q → (∀ o, h.get? c = some o → h'.get? c = some o) → h'.SetOf kd c S q := fun x k => by
    obtain ⟨o, es, ep, t, ho, x⟩ := x
    exact ⟨o, es, ep, t, k o ho, x⟩
  intro m
  induction m with
  | zero =>
    intro i e s st hS fin
    have e : i = n := e
    subst e
    refine codeAny_builtin PyProof.Rows.F.entry_set_update_loop ?_
    rw [Around.under_plainId PyProof.Rows.F.plain_set_update_loop]
    refine wpAny_bind (m := pyNext (.ref it)) (W.done s _ _ st fun s' mv => wpAny_pure (fin s' (mv.mono fun _ h => .tail _ h) ?_))
    have := up hS fun o ho => mv.heap c o nc ho
    have all : ks.take i = ks := by rw [← hl, List.take_length]
    simpa only [all] using this
  | succ m ih =>
    intro i e s st hS fin
    refine codeAny_builtin PyProof.Rows.F.entry_set_update_loop ?_
    rw [Around.under_plainId PyProof.Rows.F.plain_set_update_loop]
    refine wpAny_bind (m := pyNext (.ref it)) (W.item i s _ _ (by omega) st fun v s1 pv st1 mv => ?_)
    obtain ⟨hi, hk, sc⟩ := hv i v pv
    refine wpAny_bind (m := holding [v] (setAdd c v)) (wpAny_holding ?_)
    unfold setAdd
    refine wpAny_holding (wpAny_bind (kd.pyHash hk ?_))
    have cl := cntD_le ks i
    refine wpAny_setAddHashed_of (s := { s1 with toks := s1.toks + 1 }) hk sc (up hS fun o ho => mv.heap c o nc ho) (by omega) fun h2 same hS2 => ?_
    have e : ks[i]? = some ks[i] := List.getElem?_eq_getElem hi
    have hS3 : h2.SetOf kd c (fun k => decide (k ∈ ks.take (i + 1))) (cntD ks (i + 1)) := by
      refine PyProof.Rows.SetOf_congr hS2 (fun k => ?_) ?_
      · rw [List.take_succ, List.getElem?_eq_getElem hi]
        simp only [Option.toList_some, List.mem_append, List.mem_singleton, Bool.decide_or]
      · show _ = cntD ks (i + 1)
        rw [cntD_succ e]
        by_cases hm : ks[i] ∈ ks.take i
        · rw [if_pos (decide_eq_true hm), if_pos hm]
        · rw [if_neg (by rw [decide_eq_true_eq]; exact hm), if_neg hm]
    refine wpAny_pure ⟨plainId_quiet PyProof.Rows.F.plain_set_update_loop _, ih (i + 1) (by omega) _ (W.frame _ s1 _ _ st1 (Nat.le_succ _) fun b hb o ho => ?_) hS3 fun s2 mv2 hS4 => ?_⟩
    · rw [same.2 b fun x => hc (x ▸ hb)]
      exact ho
    · refine fin s2 (Moved.trans W.gtrans ((mv.mono fun _ h => .tail _ h).then_heap (Nat.le_succ _) fun b o hb ho => ?_) mv2) hS4
      rw [same.2 b fun x => hb (x ▸ .head _)]
      exact ho
end
section
variable {P : Program} {w : World} {A : Around} {E : Value → Shared → Prop} {s : Shared} {K : Type} [DecidableEq K] [BEq K] [LawfulBEq K] {kd : KeyKind P w K}
theorem set_ofT {l : Addr} {vs : Array Value} {ks : List K} {Q : Value → Shared → Prop} (hh : A.handled = none) (hl : s.heap.IsTuple l vs) (hn : ks.length = vs.size) (few : vs.size + 1 < scanBound)
    (hv : ∀ (i : Nat) (v : Value), vs[i]? = some v → ∃ h : i < ks.length, kd.is ks[i] v = true ∧ v.scannable = true)
    (q : ∀ (h : Heap) (t : Nat), h.SetOf kd s.heap.objs.size (fun k => decide (k ∈ ks)) (cntD ks vs.size) → (∀ b o, b < s.heap.objs.size → s.heap.get? b = some o → h.get? b = some o) → Q (.ref s.heap.objs.size) { s with heap := h, toks := t }) :
    wpAny (model P w) A (call (.type "set") [.ref l]) Q E s := by
  obtain ⟨cl, rest, hmro⟩ := PySem.F.called_set.mro
  have f1 := PySem.F.called_set.made
  have f2 := PySem.F.called_set.sub
  have f3 := PySem.F.called_set.notType
  have f4 := PySem.F.called_set.canCreate
  have f5 := PySem.F.typeCall_set_1 (.ref l)
  have f6 := PySem.F.called_set.init.lookup
  have f7 := PySem.F.called_set.init.bind (.ref s.heap.objs.size)
  refine wpAny_call (codeAny_of_tree ?_)
  change wpAny _ _ (callAny (.type "set") _) _ _ _
  refine wpAny_pure ⟨Code.quiet_builtin _ (by decide +kernel), codeAny_builtin PySem.F.entry_type_call ?_⟩
  rw [Around.under_plain (weight_type_call_type "set" [.ref l] []) rfl]
  repeat (any_goals (first | assumption | wp_step))
  refine codeAny_mono (code_set_new_1 (.ref l) (E := E) (Q₁ := fun r s1 => ∃ b : Bool, r = .ref s.heap.objs.size ∧ s1 = { s with heap := s.heap.push { cls := .type "set", dict := none, data := .set #[] 0 (.fresh 0 0 b) } }) fun b => ⟨b, rfl, rfl⟩) fun r s1 hr => ?_
  rcases r with x | fl
  · exact hr
  cases fl with
  | ret r =>
    obtain ⟨b, rfl, rfl⟩ := hr
    have at0 : (s.heap.push { cls := .type "set", dict := none, data := .set #[] 0 (.fresh 0 0 b) }).get? s.heap.objs.size = some { cls := .type "set", dict := none, data := .set #[] 0 (.fresh 0 0 b) } := Heap.get?_push_size _ rfl
    have ty0 : Shared.TypeIs { s with heap := s.heap.push { cls := .type "set", dict := none, data := .set #[] 0 (.fresh 0 0 b) } } (.ref s.heap.objs.size) "set" := ⟨_, at0, rfl⟩
    repeat (any_goals (first | assumption | wp_step))
    refine codeAny_mono (codeAny_call_builtin (R := wants (fun r s2 => r = .none ∧ ∃ h t, s2 = { s with heap := h, toks := t } ∧ h.SetOf kd s.heap.objs.size (fun k => decide (k ∈ ks)) (cntD ks vs.size) ∧
      ∀ b o, b < s.heap.objs.size → s.heap.get? b = some o → h.get? b = some o) E) PySem.F.called_set.init.plain PySem.F.entry_set_init (check_set_init_1 ty0 ?_)) fun r2 s2 hr2 => ?_
    · obtain ⟨⟨kc, kd1, kdat, ksl⟩, g1, g2, nl, g3⟩ := hl
      simp only at g2 g3
      subst g2 g3
      have t1 := PySem.F.sub_tuple_set
      have t2 := PySem.F.sub_tuple_frozenset
      have t3 : (Value.type "tuple" == Value.type "dict") = false := by decide
      have g4 := Heap.get?_push_of_some ({ cls := .type "set", dict := none, data := .set #[] 0 (.fresh 0 0 b) } : Obj) g1
      have here : (s.heap.push { cls := .type "set", dict := none, data := .set #[] 0 (.fresh 0 0 b) }).IsTuple l vs := ⟨_, g4, rfl, nl, rfl⟩
      have low : l < s.heap.objs.size := Heap.lt_size g1
      unfold Builtin.«set.__init__» noKeywords Builtin.Frozenset.updateFrom
      generalize hpy : pyIter = py
      wp_walk
      subst hpy
      refine wpAny_pyIter_tuple here (wpAny_bind (wpAny_runValue ?_))
      have sz : (s.heap.push { cls := .type "set", dict := none, data := .set #[] 0 (.fresh 0 0 b) }).objs.size = s.heap.objs.size + 1 := Heap.size_push _ _
      have apart : l ≠ s.heap.objs.size + 1 := Nat.ne_of_lt (Nat.lt_succ_of_lt low)
      have own : s.heap.objs.size ≠ s.heap.objs.size + 1 := Nat.ne_of_lt (Nat.lt_succ_self _)
      have quiet : A.in1.in1.in1.handled = none := by simp [hh]
      refine put_any (kd := kd) ((Walks.tuple quiet _ l (by rw [sz]; exact apart) vs).toS) (c := s.heap.objs.size) (by rw [sz]; simp only [List.mem_cons, List.not_mem_nil, or_false]; exact fun x => x.elim own (Nat.ne_of_gt low)) hn few hv vs.size 0 (by omega) _
        ⟨⟨_, Heap.get?_push_size _ rfl, rfl, rfl⟩, here.push _⟩ ?_ fun s2 mv hS => ?_
      · exact PyProof.Rows.SetOf_congr ((PyProof.Rows.setObjOf_fresh (knd := kd) b).setOf (Heap.get?_push_of_some _ at0) (by unfold scanBound; omega)) (fun k => by simp) rfl
      · obtain ⟨h2, gg, dd, tt, oo⟩ := s2
        obtain rfl : gg = s.gens := mv.gens
        obtain rfl : dd = s.drawn := mv.drawn
        obtain rfl : oo = s.os := mv.os
        refine wpAny_pure (wpAny_pure ⟨rfl, h2, tt, rfl, hS, fun a o ha ho => mv.heap a o ?_ (Heap.get?_push_of_some _ (Heap.get?_push_of_some _ ho))⟩)
        rw [sz]
        simp only [List.mem_cons, List.not_mem_nil, or_false]
        exact fun x => x.elim (Nat.ne_of_lt ha) (Nat.ne_of_lt (Nat.lt_succ_of_lt ha))
    · rcases r2 with x | f2
      · exact hr2
      cases f2 with
      | ret r =>
        obtain ⟨rfl, h, t, rfl, hS, old⟩ := hr2
        repeat (any_goals (first | assumption | wp_step))
        exact q _ _ hS old
      | _ => exact hr2.elim
  | _ => exact hr.elim
end
section
variable {X : Cx}
/-- len(set(t)), t a tuple of texts -/
def tLenTextsT (K : PySem.W.Frag) (ta : TE) : TE := fun σ H Q => ta σ H fun x H1 => ∃ (l : Addr) (xs : List Str), x = V.ref l ∧ Tup H1 l (xs.map V.str) ∧ xs.length < 64 ∧ Q (.int (cntD xs xs.length : Nat)) H1
theorem pe_lenTextsT {a : Expr} {ta : TE} {p p2 q pos : Pos} (calm : X.calm = true) (g1 : Gl X "len") (m1 : X.mg "len" = none) (g2 : Gl X "set") (m2 : X.mg "set" = none) (pa : PE X a ta)
    (each : starEach [a] X.env = (false, eval a X.env) :: starEach [] X.env := by rfl) : PE X (.Call (.Name "len" p) [.Call (.Name "set" p2) [a] [] q] [] pos) (tLenTextsT X.K ta) := by
  refine ⟨fun pins s σ H Q I h => Call_ (ld_blt I g1 m1 boot_len (PyProof.Rows.callWith_builtin1 (PyProof.Rows.args_cons ?_ rfl) rfl rfl))⟩
  refine Call_ (ld_blt I g2 m2 boot_set (PyProof.Rows.callWith_type1 (PyProof.Rows.args_cons (thn (pa.run pins s σ H _ I h) fun v s1 ⟨x, H1, J, r, hx⟩ => PyProof.Rows.args_nil ?_) each) each rfl))
  obtain ⟨l, xs, rfl, tu, few, hx⟩ := hx
  cases r
  obtain ⟨vs, rv, lv, _⟩ := J.tuple (tu.sq (K := X.K))
  have sz : xs.length = vs.toArray.size := by rw [List.size_toArray, ← rv.length, List.length_map]
  have cl := cntD_le xs xs.length
  refine set_ofT (kd := strKind X.prog X.w) (J.ok.hd calm) (show s1.heap.IsTuple l vs.toArray from lv) sz (by unfold scanBound; omega) (fun i v e => text_at rv i v (by simpa using e)) fun h2 t hS old => PyProof.Rows.args_nil ?_
  obtain ⟨o, es, ep, tb, ho, ex, hd, _, _, _, fit, hn⟩ := hS
  rw [← sz] at hn
  exact call_len_set ho ex hd fit (by rw [hn]; omega) ⟨.int (cntD xs xs.length : Nat), H1, (J.kept fun b o e => old b o (Heap.lt_size e) e).tok _, ⟨_, by rw [hn]⟩, hx⟩
end
end Wg

/-! Wagon, part 40: exceptions of own classes: raised, let out by defs, caught, asked. -/
namespace Wg
open PySem PySem.Spec PyProof.Rows L2

/-! ### calls that may let an exception out -/
section
variable {X : Cx} {CX : CXT} {k : Nat} {f : Addr} {fd : FuncData} {ps : List Str} {sp : Sp} {E : L2.St → XK} {x : Str} {p pos : Pos} {e : Expr} {es : List Expr} {t : TA}
theorem go_fnS {pins : List (Addr × Obj)} {σ : L2.St} {H : Hp} {s : Shared} {Q : VK} {us : List Value} {vs : List V}
    (F : Keeps X.prog X.w X.K X.mg X.base CX k f fd ps sp) (hr : Rm k X.A) (hb : Binds X.K fd ps []) (hx : PassesAt CX X σ (E σ))
    (I : Inv X pins σ H s) (r : Vals vs us) (h : sp vs H Q (E σ)) : wpAny (model X.prog X.w) X.A (call (.ref f) us) (EP X pins σ Q) X.xe s := by
  have hl : (us ++ []).length = ps.length := by
    rw [List.append_nil, ← r.length]
    exact F.len _ _ _ _ h
  have hbs := hb s us I.kIn hl
  rw [List.append_nil] at hbs
  have run := F.run X.A X.stack s H ⟨us, []⟩ us vs Q (E σ) hr I.env0 hbs r h
  refine wpAny_call (codeAny_mono run fun res s' hq => ?_)
  match res, hq with
  | .error e, hq => exact hx pins H s e s' I hq
  | .ok (.ret u), hq => exact I.after hq
  | .ok .next, hq => exact hq.elim
  | .ok .brk, hq => exact hq.elim
  | .ok .cont, hq => exact hq.elim
def tGoS (sp : Sp) (E : L2.St → XK) (t : TA) : TE := fun σ H Q => t σ H fun vs H1 => sp vs H1 Q (E σ)
theorem pe_goS (F : Keeps X.prog X.w X.K X.mg X.base CX k f fd ps sp) (hr : Rm k X.A) (hg : Gl X x) (hm : X.mg x = some (.ref f)) (hk : PySem.W.keepIn X.K (.ref f) = true)
    (hb : Binds X.K fd ps []) (hx : ∀ σ, PassesAt CX X σ (E σ)) (ha : PA X (e :: es) t) (hdb : (x == ("__debug__" : Str)) = false := by decide)
    (he : starEach (e :: es) X.env = (false, eval e X.env) :: starEach es X.env := by rfl) (hpl : (backTo pos (starEach es X.env)).any (·.1) = false := by rfl) :
    PE X (.Call (.Name x p) (e :: es) [] pos) (tGoS sp E t) := by
  constructor
  intro pins s σ H Q I h
  refine wpAny_Call_Name_kw (ld_glob I hg hm ?_ hdb)
  have args := ha.run pos pins s σ H _ I h
  refine PySem.W.callWith_K (h₀ := X.base) I.ok.mod.kin hk (thn args fun us s1 hh => ?_) he hpl
  obtain ⟨vs, H1, I1, r, q⟩ := hh
  exact ⟨I1.kIn, go_fnS F hr hb (hx σ) I1 r q⟩
end

/-! ### defs that may raise -/
section
variable {P : Program} {w : World} {K : PySem.W.Frag} {mg : Str → Option Value} {b : Heap}
theorem keepsX {x qual : Str} {st : Stmt} {f : Addr} {fd : FuncData} {N ps : List Str} {k : Nat} {sp : Sp} (F : Fun K x qual st f fd) (S : FnScope N ps (defScope st))
    (len : ∀ vs H Q E, sp vs H Q E → vs.length = ps.length)
    (body : ∀ (cdv : Value) (A : Around) (o : List Env) (s : Shared) (H : Hp) (vs : List V) (Q : VK) (E : XK), Rm k (A.deeper (envOfC qual (defScope st) s.heap.objs.size f cdv)) → sp vs H Q E →
      ∃ t, PSs (cxOf (L2.CX P w) P w K mg b N qual (defScope st) f cdv A o s H E) (defBody st) t ∧ t { nx := fun _ H' => Q .non H', rt := Q } (start N vs) H) :
    Keeps P w K mg b (L2.CX P w) (k + 1) f fd ps sp := keeps_of F S len body
theorem keepsTX {x qual : Str} {st : Stmt} {f c : Addr} {fd : FuncData} {N ps : List Str} {k : Nat} {sp : Sp} (F : Fun K x qual st f fd) (hc : fd.code = .ref c) (S : FnScope N ps (defScope st))
    (len : ∀ vs H Q E, sp vs H Q E → vs.length = ps.length)
    (body : ∀ (A : Around) (o : List Env) (s : Shared) (H : Hp) (vs : List V) (Q : VK) (E : XK), Rm k (A.deeper (envOfC qual (defScope st) s.heap.objs.size f (.ref c))) → sp vs H Q E →
      ∃ t, PSs (cxOf (L2.CX P w) P w K mg b N qual (defScope st) f (.ref c) A o s H E) (defBody st) t ∧ t { nx := fun _ H' => Q .non H', rt := Q } (start N vs) H) :
    Keeps P w K mg b (L2.CX P w) (k + 1) f fd ps sp := by
  obtain ⟨oc, od, kV, doc, pm, an, cdv, ct, osl, rfl, lk, hcd⟩ := F.ex
  obtain rfl : cdv = .ref c := hc
  refine ⟨len, fun A o s H g us vs Q E hr e0 hb r hsp => ?_⟩
  have hl := len _ _ _ _ hsp
  have up : ∀ {a : Addr} {ob : Obj}, b.get? a = some ob → s.heap.get? a = some ob := fun {a ob} q => (e0.bs a ob q).1
  have inK : K.In s.heap := e0.mod.kin.keeps fun _ _ q => up q
  have nolim : s.heap.NoLimit := e0.mod.nolimit.keeps fun _ _ q => up q
  have kinds : ∀ y ∈ ps.zip us, (defScope st).names.lookup y.1 = some .local ∨ ((defScope st).names.lookup y.1 = some .cell ∧ ((cellsFrom (s.heap.objs.size + 1) (defScope st).names []).lookup y.1).isSome = true) := by
    rintro ⟨n, v⟩ hy
    have hn := S.par n (List.of_mem_zip hy).1
    exact hn.imp id fun q => ⟨q, PySem.W.cellsFrom_some _ _ _ (.inl q)⟩
  have recd := PySem.W.codeRec_of inK hcd
  refine codeAny_call_function hr.rm.depth (inK _ _ lk) rfl S.co S.gen rfl recd (hb _ _ _ _ ?_)
  refine wpAny_newFunctionEnv_cells S.kind kinds ?_
  intro env he s1 y
  subst he
  refine ⟨nolim.keeps y.toInCall.keep, codeAny_func ?_⟩
  obtain ⟨t, ht, hq⟩ := body A o s H vs Q E (hr.deep _) hsp
  have I := inv_start (CX := L2.CX P w) (E := E) S hr.rm.hd e0 hl r y
  refine wpAny_mono (ht.run [] s1 (start N vs) H _ I hq) ?_ fun _ _ q => q
  intro fl s' hs
  match fl, hs with
  | .ret u, hs =>
    obtain ⟨v, σ', H', J, rv, q⟩ := hs
    exact ⟨v, H', J.os, J.bare, J.base, J.hok, rv, q⟩
  | .next, hs =>
    obtain ⟨σ', H', J, q⟩ := hs
    exact ⟨.non, H', J.os, J.bare, J.base, J.hok, rfl, q⟩
  | .brk, hs => exact hs.elim fun _ z => z.elim fun _ y => y.2.elim
  | .cont, hs => exact hs.elim fun _ z => z.elim fun _ y => y.2.elim
end

/-! ### an own class's base, named: W.__init__(self, ..) where W has none of its own -/
structure BasW (K : PySem.W.Frag) (W : Addr) : Prop where
  ga : PySem.W.specialIn K (.ref W) "__getattribute__" = some (some (.builtin "type.__getattribute__"))
  rd : PySem.W.readsIn K W (.type "type") = true
  fi : PySem.W.findCls K (.ref W) (.type "type") "__init__" = some (.val (.builtin "ValueError.__init__"))
section
variable {X : Cx} {e : Expr} {es : List Expr} {ta : TA} {p1 p2 pos : Pos} {x : Str} {W : Addr}
theorem pe_winit {pl : Sem Bool} (B : BasW X.K W) (hg : Gl X x) (hm : X.mg x = some (.ref W)) (ha : PA X (e :: es) ta)
    (hc : eval (.Call (.Attribute (.Name x p1) "__init__" p2) (e :: es) [] pos) X.env = (do
      let ov ← eval (.Name x p1) X.env
      standAt p2.atName
      let (f, first) ← holding [ov] (getMethod ov "__init__" pl)
      callWith pos f first (backTo pos (starEach (e :: es) X.env)) (backToKw pos (keywordEach [] X.env))) := by rfl)
    (hdb : (x == ("__debug__" : Str)) = false := by decide)
    (he : starEach (e :: es) X.env = (false, eval e X.env) :: starEach es X.env := by rfl) (hpl : (backTo pos (starEach es X.env)).any (·.1) = false := by rfl) :
    PE X (.Call (.Attribute (.Name x p1) "__init__" p2) (e :: es) [] pos) (tVeI X.K ta) := by
  refine ⟨fun pins s σ H Q I h => ?_⟩
  refine PySem.W.methodCall_KW (ld_glob I hg hm ?_ hdb) hc
  refine PySem.W.method_cls I.kIn B.ga (PySem.W.cls_value I.kIn B.rd B.fi (by decide +kernel) ?_)
  show wpAny _ _ (callWith pos (Value.builtin "ValueError.__init__") [] (backTo pos (starEach (e :: es) X.env)) []) _ _ _
  refine PyProof.Rows.callWith_method1 (thn (ha.run pos pins _ σ H _ (I.tok _) h) fun us s1 ⟨vs, H1, I1, r1, a, C, ws, ev, hl, T, ea, q⟩ => ?_) he hpl
  subst ev
  cases r1 with
  | @cons _ u0 _ ur ra rw' =>
    obtain rfl : u0 = Value.ref a := ra
    have hlen : ur.length ≤ sizeLine := by
      rw [← Paired.length rw', sizeLine_eq]
      omega
    exact oinit_ok T I1 ea hlen fun s' J => ⟨.non, H1, J, rfl, q⟩
end

/-! ### raise -/
def tRaiseE (E : XK) (t : L2.St → Hp → XK → Prop) : TS := fun _ σ H => t σ H fun cls d H' => E cls d H'
/-- raise within a def that may let it out -/
theorem ps_raiseE {X : Cx} {E : XK} {e : Expr} {t : L2.St → Hp → XK → Prop} {pos : Pos} (hc : X.calm = true) (tk : Takes X (fun cls d _ H => E cls d H)) (he : PMk X e t) : PS X (.Raise (some e) none pos) (tRaiseE E t) := ps_raise hc tk he
theorem upd_fun {H1 H2 : Hp} {a d : Addr} {o : HO} (na : H1 a = none) (nd : d ≠ a) (h : ∀ b, b ≠ a → b ≠ d → H2 b = H1 b) : upd (del H2 a) d o = upd H1 d o := by
  funext b
  by_cases hd : b = d
  · rw [hd, upd_same, upd_same]
  · rw [upd_ne hd, upd_ne hd]
    by_cases ha : b = a
    · rw [ha, del_same, na]
    · rw [del_ne ha, h b ha hd]
/-- what an __init__ that keeps its arguments as fields promises -/
def spIni (K : PySem.W.Frag) (C : Addr) (fs : List Str) : Sp := fun vs H Q _ => ∃ (a : Addr) (ws : List V), vs = .ref a :: ws ∧ ws.length = fs.length ∧ H a = some (exo a C none) ∧
  ∀ d H', H d = none → d ≠ a → H' a = some (exo a C (some d)) → H' d = some (exd d (fs.zip ws).reverse) → (∀ b, b ≠ a → b ≠ d → H' b = H b) → Q .non H'
theorem g_mkO {C : Addr} {K : PySem.W.Frag} {fs : List Str} {ws : List V} {σ : L2.St} {H : Hp} {Q : XK} (l : ws.length = fs.length) (l2 : ws.length ≤ 1000) (q : ∀ d, H d = none → Q (.ref C) (some d) (upd H d (.xd (fs.zip ws).reverse))) :
    ws.length ≤ 1000 ∧ ∀ a, H a = none → spIni K C fs (.ref a :: (ws ++ [])) (upd H a (exo a C none))
      (fun v H2 => v = .non ∧ ∃ (d : Addr) (gs : List (Str × V)), H2 a = some (exo a C (some d)) ∧ H2 d = some (exd d gs) ∧ H d = none ∧ Q (.ref C) (some d) (upd (del H2 a) d (.xd gs))) (fun _ _ _ => False) := by
  refine ⟨l2, fun a na => ⟨a, ws, by rw [List.append_nil], l, upd_same, fun d H' nd ne ea ed same => ⟨rfl, d, _, ea, ed, ?_, ?_⟩⟩⟩
  · rw [upd_ne ne] at nd
    exact nd
  · rw [upd_ne ne] at nd
    rw [upd_fun na ne fun b h1 h2 => by rw [same b h1 h2, upd_ne h1]]
    exact q d nd

/-! ### asked in an except suite -/
structure ExA (K : PySem.W.Frag) (C : Addr) : Prop where
  cl : (PySem.W.clsIn K C).isSome = true
  ga : PySem.W.findIn K (.ref C) "__getattribute__" = some (some (.builtin "BaseException.__getattribute__"))
  gg : PySem.W.findIn K (.ref C) "__getattr__" = some none
  ex : PySem.W.subIn K (.ref C) (.type "BaseException") = some true
  hd : PySem.W.hasDictIn K C = true
  kl : PySem.W.findIn K (.ref C) "__class__" = some (some (.builtin "object.__class__"))
  kn : PySem.W.specialIn K (.builtin "object.__class__") "__get__" = some (some (.builtin "getset_descriptor.__get__"))
  kt : PySem.W.takesIn K (.builtin "object.__class__") = some true
  km : PySem.W.mroIn K C (.type "object") = some true
theorem ExA.xf {K : PySem.W.Frag} {C : Addr} (T : ExA K C) : XfC K C := ⟨T.ga, T.gg, T.ex, T.hd⟩
/-- the caught exception in the suite: its class, its fields -/
def Caught (K : PySem.W.Frag) (cls : Value) (d : Option Addr) (H : Hp) (C : Addr) (fs : List (Str × V)) : Prop := cls = .ref C ∧ ExA K C ∧ ∃ dd, d = some dd ∧ H dd = some (.xd fs)
theorem caught_at {X : Cx} {a C : Addr} {oe : Obj} {cls : Value} {d : Option Addr} {pn pins : List (Addr × Obj)} {σ : L2.St} {H : Hp} {s : Shared} {fs : List (Str × V)} (hz : Zc cls d oe) (hf : ∃ vs, oe.data = .fields vs)
    (I : Inv (X.suite a ((a, oe) :: pn)) pins σ H s) (h : Caught X.K cls d H C fs) : ∃ od, PySem.W.InstAt s.heap a oe C (some od) ∧ ∀ n v, fs.lookup n = some v → ∃ u, RelV v u ∧ PySem.W.lookIn n od = some (some u) := by
  obtain ⟨ec, T, dd, ed, ea⟩ := h
  subst ec
  subst ed
  obtain ⟨ha, _⟩ := I.pin (a, oe) (List.mem_append_left _ List.mem_cons_self)
  obtain ⟨vs, hd⟩ := hf
  have hx : ObjOk X.prog X.w H s.heap dd (.xd fs) := I.hok dd _ ea
  obtain ⟨mA, hns, hr⟩ := hx
  obtain ⟨od, ho, hl⟩ := lookIn_ns hns
  have J : PySem.W.InstAt s.heap a oe C (some od) := ⟨ha, hz.1, by unfold PySem.W.notCls; rw [hd] <;> rfl, by rw [hz.2]; exact ho⟩
  refine ⟨od, J, fun n v l => ?_⟩
  obtain ⟨u, hu, ru⟩ := RelO.some_of (v := v) (o := mA n) (by rw [← l]; exact hr n)
  exact ⟨u, ru, by rw [hl, hu]⟩
section
variable {X : Cx} {a : Addr} {oe : Obj} {cls : Value} {d : Option Addr} {pn : List (Addr × Obj)} {e : Expr} {te : TE} {pos : Pos} {n : Str}
/-- e.f -/
def tXfA (K : PySem.W.Frag) (a : Addr) (cls : Value) (d : Option Addr) (f : Str) (te : TE) : TE := fun σ H Q => te σ H fun x H1 => x = .ref a ∧ ∃ (C : Addr) (fs : List (Str × V)) (v : V), Caught K cls d H1 C fs ∧ PySem.W.findIn K (.ref C) f = some none ∧ fs.lookup f = some v ∧ Q v H1
theorem pe_xfA (hz : Zc cls d oe) (hf : ∃ vs, oe.data = .fields vs) (he : PE (X.suite a ((a, oe) :: pn)) e te) (hb : attributeBase e n X.env (eval e X.env) = eval e X.env := by rfl) :
    PE (X.suite a ((a, oe) :: pn)) (.Attribute e n pos) (tXfA X.K a cls d n te) := by
  refine ⟨fun pins s σ H Q I h => ?_⟩
  refine attr_of hb (thn (he.run pins s σ H _ I h) fun u s1 hh => ?_)
  obtain ⟨x, H1, I1, rx, ex, C, fs, v, c, hno, l, q⟩ := hh
  subst ex
  obtain rfl : u = Value.ref a := rx
  obtain ⟨od, J, hl⟩ := caught_at hz hf I1 c
  obtain ⟨u, ru, hu⟩ := hl n v l
  have T := c.2.1
  exact HandSPX.exc_get I1.kIn J T.ga T.gg T.ex (PySem.W.findObj_own T.hd hno rfl hu) (handed_of ru) ⟨v, H1, I1.tok _, ru, q⟩
/-- isinstance(e, c), isinstance(e, (c, ..)) -/
def rIsA (K : PySem.W.Frag) (a : Addr) (cls : Value) (d : Option Addr) : List V → Hp → VK → Prop := fun xs H Q => ∃ (C : Addr) (fs : List (Str × V)) (c : V), xs = [.ref a, c] ∧ Caught K cls d H C fs ∧
  ((∃ (cv : Value) (b : Bool), (∀ u, RelV c u → u = cv) ∧ PySem.W.kitOne K (.ref C) cv = some b ∧ Q (.bl b) H) ∨
    ∃ (t : Addr) (cs : List Addr) (b : Bool), c = .ref t ∧ Tup H t (cs.map V.ref) ∧ PySem.W.kitAny K (.ref C) (cs.map Value.ref) = some b ∧ Q (.bl b) H)
theorem vals_refs : ∀ {cs : List Addr} {us : List Value}, Vals (cs.map V.ref) us → us = cs.map Value.ref
  | [], _, r => by cases r; rfl
  | c :: cs, _, r => by
    cases r with
    | cons r1 r2 =>
      rw [vals_refs r2]
      cases r1
      rfl
theorem call_isA (hz : Zc cls d oe) (hf : ∃ vs, oe.data = .fields vs) : CallR (X.suite a ((a, oe) :: pn)) (.builtin "isinstance") (rIsA X.K a cls d) := by
  intro pins s σ H xs us Q I r h
  obtain ⟨C, fs, c, rfl, k, h⟩ := h
  obtain ⟨od, J, _⟩ := caught_at hz hf I k
  have T := k.2.1
  have Z : PySem.W.KitX X.K (.ref a) (.ref C) (fun h => PySem.W.InstAt h a oe C (some od)) := PySem.W.kitx_exc T.cl T.ga T.gg T.ex T.kl T.kn T.kt T.km
  cases r with
  | cons rx rr =>
    cases rr with
    | cons rt rr =>
      cases rr
      cases rx
      rcases h with ⟨cv, b, hcv, e, q⟩ | ⟨t, cs, b, rfl, tu, e, q⟩
      · have ec := hcv _ rt
        subst ec
        exact PySem.W.kia_one Z I.kIn J e (fun z => nomatch z) fun tk => ⟨.bl b, H, I.kept (t' := tk) fun _ _ z => z, rfl, q⟩
      · cases rt
        obtain ⟨its, n, rv, z, ho⟩ := tu.obj I
        rw [vals_refs rv] at ho
        exact PySem.W.kia_tup Z I.kIn J ho e (fun z => nomatch z) fun tk => ⟨.bl b, H, I.kept (t' := tk) fun _ _ z => z, rfl, q⟩
end
end Wg
namespace Wg
open PySem PySem.Spec PyProof.Rows L2
/-! ### the __init__ of an exception class, walked -/
theorem rd_ini1 {K : PySem.W.Frag} {C : Addr} {f1 m : Str} (T : OexC K C) (n1 : PySem.W.findIn K (.ref C) f1 = some none) {vs : List V} {H : Hp} {Q : VK} {E : XK} {x y : Str} (h : spIni K C [f1] vs H Q E) :
    tSeq (tDrop (tVeI K (tCons (tVar 0) (tCons (tC (.str m)) tNil)))) (tOst K f1 (tVar 0) (tVar 1)) { nx := fun _ H' => Q .non H', rt := Q } (L2.start [x, y] vs) H := by
  obtain ⟨a, ws, rfl, l, ea, q⟩ := h
  match ws, l with
  | [v1], _ =>
    show ∃ x, (some (some (V.ref a)) = some (some x)) ∧ _
    refine ⟨_, rfl, a, C, [.str m], rfl, by show 1 ≤ 1000; decide, T, ea, ?_⟩
    refine ⟨v1, rfl, .ref a, rfl, a, C, rfl, T, n1, .inl ⟨ea, fun d nd ne => ?_⟩⟩
    exact q d _ nd ne upd_same (by rw [upd_ne ne, upd_same]; rfl) fun b h1 h2 => by rw [upd_ne h1, upd_ne h2]
theorem rd_ini2 {K : PySem.W.Frag} {C : Addr} {f1 f2 m : Str} (T : OexC K C) (n1 : PySem.W.findIn K (.ref C) f1 = some none) (n2 : PySem.W.findIn K (.ref C) f2 = some none) {vs : List V} {H : Hp} {Q : VK} {E : XK} {x y z : Str} (h : spIni K C [f1, f2] vs H Q E) :
    tSeq (tDrop (tVeI K (tCons (tVar 0) (tCons (tC (.str m)) tNil)))) (tSeq (tOst K f1 (tVar 0) (tVar 1)) (tOst K f2 (tVar 0) (tVar 2))) { nx := fun _ H' => Q .non H', rt := Q } (L2.start [x, y, z] vs) H := by
  obtain ⟨a, ws, rfl, l, ea, q⟩ := h
  match ws, l with
  | [v1, v2], _ =>
    show ∃ x, (some (some (V.ref a)) = some (some x)) ∧ _
    refine ⟨_, rfl, a, C, [.str m], rfl, by show 1 ≤ 1000; decide, T, ea, ?_⟩
    refine ⟨v1, rfl, .ref a, rfl, a, C, rfl, T, n1, .inl ⟨ea, fun d nd ne => ?_⟩⟩
    refine ⟨v2, rfl, .ref a, rfl, a, C, rfl, T, n2, .inr ⟨d, _, upd_same, by rw [upd_ne ne, upd_same], by show 1 ≤ 900; decide, ?_⟩⟩
    refine q d _ nd ne (by rw [upd_ne (Ne.symm ne), upd_same]) upd_same fun b h1 h2 => by rw [upd_ne h2, upd_ne h1, upd_ne h2]
/-! ### try -/
def tTryAs (K : PySem.W.Frag) (C : Addr) (i : Nat) (tb : WX → TS) (ts : Addr → Value → Option Addr → TS) : TS := fun D σ H => tb (wAs K (.ref C) i ts (fun _ _ _ _ => False) D) D σ H
def tTryOnly (K : PySem.W.Frag) (C : Addr) (tb : WX → TS) (ts : Addr → Value → Option Addr → TS) : TS := fun D σ H => tb (wOnly K (.ref C) ts (fun _ _ _ _ => False) D) D σ H
end Wg

namespace Wg
open PySem PySem.Spec PyProof.Rows L2
/-! ### is True of a thing that may be an object -/
def rIsX : R2 := fun x y H Q => ∃ b : Bool, y = .bl b ∧ ((∃ a : Bool, x = .bl a ∧ Q (.bl (decide (a = b))) H) ∨ (∃ p, x = .ref p ∧ Q (.bl false) H))
def rNotX : R2 := fun x y H Q => ∃ b : Bool, y = .bl b ∧ ((∃ a : Bool, x = .bl a ∧ Q (.bl (!decide (a = b))) H) ∨ (∃ p, x = .ref p ∧ Q (.bl true) H))
section
variable {X : Cx}
theorem op_isX : OpR X (compareOp .Is) rIsX := by
  intro pins s σ H x y v u Q I rx ry h
  obtain ⟨b, rfl, ⟨a, rfl, q⟩ | ⟨p, rfl, q⟩⟩ := h
  · exact op_isBl _ _ _ _ _ _ _ _ _ I rx ry ⟨a, b, rfl, rfl, q⟩
  · cases (show v = Value.ref p from rx)
    cases (show u = Value.bool b from ry)
    exact wpAny_is_other rfl (fun z => nomatch z) ⟨.bl false, H, I, rfl, q⟩
theorem op_notX : OpR X (compareOp .IsNot) rNotX := by
  intro pins s σ H x y v u Q I rx ry h
  obtain ⟨b, rfl, ⟨a, rfl, q⟩ | ⟨p, rfl, q⟩⟩ := h
  · exact op_notBl _ _ _ _ _ _ _ _ _ I rx ry ⟨a, b, rfl, rfl, q⟩
  · cases (show v = Value.ref p from rx)
    cases (show u = Value.bool b from ry)
    exact wpAny_isNot_other rfl (fun z => nomatch z) ⟨.bl true, H, I, rfl, q⟩
end
/-! ### a comprehension over enumerate(list) -/
def CEl (K : PySem.W.Frag) (g : TG) (tt : TT) (te : TE) (vs : List Nat) (σ : L2.St) (Q : VK) (ws : List V) (H1 : Hp) : Prop := ∃ a xs, ws = [.ref a] ∧ SqL K H1 a xs ∧ CB (Ite K a) g tt te vs σ Q H1
theorem e_lcEl {K : PySem.W.Frag} {ta : TA} {g : TG} {tt : TT} {te : TE} {vs : List Nat} {σ : L2.St} {H : Hp} {Q : VK} : tLc (iEnum K ta) g tt te vs σ H Q ↔ ta σ H (CEl K g tt te vs σ Q) := Iff.rfl
theorem g_CEl {K : PySem.W.Frag} {g : TG} {tt : TT} {te : TE} {vs : List Nat} {σ : L2.St} {Q : VK} {H1 : Hp} {a : Addr} {us : List V} (ha : H1 a = some (.lst us)) (P : Nat → Hp → List V → Prop)
    (p0 : ∀ D H2, H1 D = none → Keep [] H1 H2 → P 0 H2 [])
    (ps : ∀ D i x H acc (R : VK) (R0 : Hp → Prop) T H', H1 D = none → us[i]? = some x → Keep [] H1 H' → H' D = some (.lst acc) → Keep [] H H' → P i H acc → H' T = some (.tup [.int (i : Nat), x]) →
      (∀ z H4, Keep [] H' H4 → acc.length < sizeLine → (∀ H5, Keep [D] H4 H5 → P (i + 1) H5 (acc ++ [z])) → R z H4) → (∀ H3, Keep [] H' H3 → P (i + 1) H3 acc → R0 H3) →
      g (.ref T) (wipe σ vs) H' fun σ2 H2 => wipe σ2 vs = wipe σ vs ∧ tt σ2 H2 fun bb H3 => if bb = true then te σ2 H3 R else R0 H3)
    (pd : ∀ D H acc, H1 D = none → Keep [] H1 H → H D = some (.lst acc) → P us.length H acc → Q (.ref D) H) : CEl K g tt te vs σ Q [.ref a] H1 := by
  refine ⟨a, us, rfl, lst_sq ha, fun D hD => ?_⟩
  refine ⟨fun i m H => m = us.length - i ∧ i ≤ us.length ∧ Keep [] H1 H ∧ ∃ acc, H D = some (.lst acc) ∧ P i H acc, ⟨us.length, by omega, by omega, Keep.new hD, [], upd_same, p0 D _ hD (Keep.new hD)⟩, ?_⟩
  rintro i m H ⟨rfl, hi, k, acc, eD, p⟩
  have ta := lst_sq (K := K) (k _ _ nin0 ha)
  by_cases hlt : i < us.length
  · have hx := List.getElem?_eq_getElem hlt
    refine .inr ⟨⟨us, _, ta, hx⟩, fun H' => i + 1 ≤ us.length ∧ Keep [] H1 H' ∧ ∃ acc, H' D = some (.lst acc) ∧ P (i + 1) H' acc, fun H' q => ⟨us.length - (i + 1), by omega, rfl, q⟩, fun v H' y => ?_⟩
    obtain ⟨T, x', rfl, hT, rfl, f1⟩ := y
    have kn : Keep [] H (upd H T (.tup [.int (i : Nat), x'])) := Keep.new hT
    refine ps D i x' H acc _ _ T _ hD (f1 us ta) (k.trans kn) (kn _ _ nin0 eD) kn p upd_same (fun z H4 k4 hz q => ⟨acc, k4 _ _ nin0 (kn _ _ nin0 eD), hz, hlt, (k.trans (kn.trans k4)).past Keep.set hD, _, upd_same, q _ Keep.set⟩) fun H3 k3 q => ⟨hlt, k.trans (kn.trans k3), acc, k3 _ _ nin0 (kn _ _ nin0 eD), q⟩
  · have e : i = us.length := by omega
    subst e
    exact .inl ⟨⟨us, ta, Nat.le_refl _⟩, pd D H acc hD k eD p⟩
end Wg

namespace Wg
open PySem PySem.Spec PyProof.Rows L2
/-! ### for over reversed(list) -/
def FRv (K : PySem.W.Frag) (g : TG) (tb : TS) (D : Ends) (σ : L2.St) (vs : List V) (H1 : Hp) : Prop := ∃ a xs, vs = [.ref a] ∧ SqL K H1 a xs ∧ ∃ W : Nat → Nat → L2.St → Hp → Prop, (∃ m, W 0 m σ H1) ∧ ∀ i m σ H, W i m σ H →
  ((Itv K a xs.length).stop i H ∧ D.nx σ H) ∨ ((Itv K a xs.length).go i H ∧ ∃ N : L2.St → Hp → Prop, (∀ σ' H', N σ' H' → ∃ m', m' < m ∧ W (i + 1) m' σ' H') ∧ ∀ x H', (Itv K a xs.length).yld i H x H' → g x σ H' fun σ2 H2 => tb { D with nx := N, ct := N, bk := D.nx } σ2 H2)
theorem e_forRv {K : PySem.W.Frag} {ta : TA} {g : TG} {tb : TS} {D : Ends} {σ : L2.St} {H : Hp} : tFor (iRev K ta) g tb D σ H ↔ ta σ H (FRv K g tb D σ) := Iff.rfl
theorem g_FRv {K : PySem.W.Frag} {g : TG} {tb : TS} {D : Ends} {σ : L2.St} {H1 : Hp} {a : Addr} {xs : List V} (Pv : Nat → L2.St → Hp → Prop) (h : H1 a = some (.lst xs)) (h0 : Pv 0 σ H1) (hl : ∀ i σ H, i ≤ xs.length → Pv i σ H → H a = some (.lst xs))
    (hs : ∀ i x σ H, i < xs.length → xs[xs.length - 1 - i]? = some x → Pv i σ H → g x σ H fun σ2 H2 => tb { D with nx := Pv (i + 1), ct := Pv (i + 1), bk := D.nx } σ2 H2) (hd : ∀ σ H, Pv xs.length σ H → D.nx σ H) : FRv K g tb D σ [.ref a] H1 := by
  refine ⟨a, xs, rfl, lst_sq h, fun i m σ H => m = xs.length - i ∧ i ≤ xs.length ∧ Pv i σ H, ⟨xs.length, by simp, Nat.zero_le _, h0⟩, ?_⟩
  rintro i m σ H ⟨rfl, hi, p⟩
  have tu := lst_sq (K := K) (hl i σ H hi p)
  by_cases hlt : i < xs.length
  · have hx := List.getElem?_eq_getElem (show xs.length - 1 - i < xs.length by omega)
    refine .inr ⟨⟨hlt, xs, _, tu, hx⟩, Pv (i + 1), fun σ' H' p' => ⟨xs.length - (i + 1), by omega, rfl, hlt, p'⟩, fun x H' y => ?_⟩
    obtain ⟨rfl, hu⟩ := y
    exact hs i x σ H' hlt (hu xs tu) p
  · have e : i = xs.length := by omega
    subst e
    exact .inl ⟨Nat.le_refl _, hd σ H p⟩
end Wg

namespace Wg
open PySem PySem.Spec PyProof.Rows L2
/-! ### startswith -/
section
variable {X : Cx} {o e : Expr} {to te : TE} {apos pos : Pos}
def uStarts : V → List V → Hp → VK → Prop := fun x xs H Q => ∃ a b : Str, x = .str a ∧ xs = [.str b] ∧ Q (.bl (Txt.startswith a b)) H
theorem pe_uStarts (ho : PE X o to) (he : PE X e te) (hs : starEach [e] X.env = [(false, eval e X.env)] := by rfl) (hbase : attributeBase o "startswith" X.env (eval o X.env) = eval o X.env := by rfl) (hline : (apos.endLine == pos.line) = true := by rfl) :
    PE X (.Call (.Attribute o "startswith" apos) [e] [] pos) (tM1 uStarts to te) := pe_m1 PySem.F.slot_str_startswith PySem.F.type_str_startswith mt_startswith ho he hs hbase hline
end
end Wg

/-! Wagon, part 44: exceptions as things: made without being raised, kept behind an except suite, asked for class and fields. -/
namespace Wg
open PySem PySem.Spec PyProof.Rows L2

/-- at a stands an exception of the class cls with the dict d -/
def ExV (cls : Value) (d : Option Addr) (a : Addr) : HO := .ext fun h => ∃ (ob : Obj) (fv : Array Value), h.get? a = some ob ∧ Zc cls d ob ∧ ob.data = .fields fv
theorem exv_ok {P : Program} {w : World} {H : Hp} {h : Heap} {a : Addr} {cls : Value} {d : Option Addr} {ob : Obj} {fv : Array Value} (e : h.get? a = some ob) (z : Zc cls d ob) (f : ob.data = .fields fv) : ObjOk P w H h a (ExV cls d a) :=
  ⟨⟨ob, fv, e, z, f⟩, ⟨ob, e⟩, fun _ _ ⟨o2, v2, q, r⟩ k => ⟨o2, v2, k o2 q, r⟩⟩
theorem exv_at {P : Program} {w : World} {H : Hp} {h : Heap} {a : Addr} {cls : Value} {d : Option Addr} (hok : HOk P w H h) (e : H a = some (ExV cls d a)) : ∃ (ob : Obj) (fv : Array Value), h.get? a = some ob ∧ Zc cls d ob ∧ ob.data = .fields fv := by
  have x : ObjOk P w H h a (.ext fun h => ∃ (ob : Obj) (fv : Array Value), h.get? a = some ob ∧ Zc cls d ob ∧ ob.data = .fields fv) := hok a _ e
  exact x.1
/-- an exception made, as a value -/
def tMkV (t : L2.St → Hp → XK → Prop) : TE := fun σ H Q => t σ H fun cls d H' => ∀ a, H' a = none → Q (.ref a) (upd H' a (ExV cls d a))
theorem pe_mkV {X : Cx} {e : Expr} {t : L2.St → Hp → XK → Prop} (mk : PMk X e t) : PE X e (tMkV t) := by
  refine ⟨fun pins s σ H Q I h => wpAny_mono (mk pins s σ H _ I h) (fun u s1 hu => ?_) fun _ _ z => z⟩
  obtain ⟨a, ob, fv, sI, H', cls, d, rfl, J, k, gone, there, hz, hd, _, na, os, ag, _, q⟩ := hu
  have new : ObjOk X.prog X.w (upd H' a (ExV cls d a)) s1.heap a (ExV cls d a) := exv_ok there hz hd
  exact ⟨.ref a, _, J.call' (ch := []) os (Un.laidN k gone na) (HOk.laidN J.hok k na new) ag (fun _ z => nomatch z), rfl, q a na⟩

/-! ### asked -/
/-- an exception of the class C with the fields fs -/
def ExcAt (K : PySem.W.Frag) (H : Hp) (a C : Addr) (fs : List (Str × V)) : Prop := ExA K C ∧ ∃ d, H a = some (ExV (.ref C) d a) ∧ ((d = none ∧ fs = []) ∨ ∃ dd, d = some dd ∧ H dd = some (.xd fs))
theorem excAt_inst {X : Cx} {pins : List (Addr × Obj)} {σ : L2.St} {H : Hp} {s : Shared} {a C : Addr} {fs : List (Str × V)} (I : Inv X pins σ H s) (h : ExcAt X.K H a C fs) :
    ∃ (ob : Obj) (od : Option Obj), PySem.W.InstAt s.heap a ob C od ∧ ∀ n v, fs.lookup n = some v → ∃ o u, od = some o ∧ RelV v u ∧ PySem.W.lookIn n o = some (some u) := by
  obtain ⟨_, d, ea, hd⟩ := h
  obtain ⟨ob, fv, e, hz, hf⟩ := exv_at I.hok ea
  rcases hd with ⟨rfl, rfl⟩ | ⟨dd, rfl, ed⟩
  · exact ⟨ob, none, ⟨e, hz.1, by unfold PySem.W.notCls; rw [hf] <;> rfl, by rw [hz.2]; trivial⟩, fun n v l => nomatch l⟩
  · have hx : ObjOk X.prog X.w H s.heap dd (.xd fs) := I.hok dd _ ed
    obtain ⟨mA, hns, hr⟩ := hx
    obtain ⟨o2, ho, hl⟩ := lookIn_ns hns
    refine ⟨ob, some o2, ⟨e, hz.1, by unfold PySem.W.notCls; rw [hf] <;> rfl, by rw [hz.2]; exact ho⟩, fun n v l => ?_⟩
    obtain ⟨u, hu, ru⟩ := RelO.some_of (v := v) (o := mA n) (by rw [← l]; exact hr n)
    exact ⟨o2, u, rfl, ru, by rw [hl, hu]⟩
section
variable {X : Cx} {e : Expr} {te : TE} {pos : Pos} {n : Str}
def tXfV (K : PySem.W.Frag) (f : Str) (te : TE) : TE := fun σ H Q => te σ H fun x H1 => ∃ (a C : Addr) (fs : List (Str × V)) (v : V), x = .ref a ∧ ExcAt K H1 a C fs ∧ PySem.W.findIn K (.ref C) f = some none ∧ fs.lookup f = some v ∧ Q v H1
theorem pe_xfV (he : PE X e te) (hb : attributeBase e n X.env (eval e X.env) = eval e X.env := by rfl) : PE X (.Attribute e n pos) (tXfV X.K n te) := by
  refine ⟨fun pins s σ H Q I h => attr_of hb (thn (he.run pins s σ H _ I h) fun u s1 hh => ?_)⟩
  obtain ⟨x, H1, I1, rx, a, C, fs, v, ex, c, hno, l, q⟩ := hh
  subst ex
  obtain rfl : u = Value.ref a := rx
  obtain ⟨ob, od, J, hl⟩ := excAt_inst I1 c
  obtain ⟨o, u, eo, ru, hu⟩ := hl n v l
  subst eo
  have T := c.1
  exact HandSPX.exc_get I1.kIn J T.ga T.gg T.ex (PySem.W.findObj_own T.hd hno rfl hu) (handed_of ru) ⟨v, H1, I1.tok _, ru, q⟩
def rIsV (K : PySem.W.Frag) : List V → Hp → VK → Prop := fun xs H Q => ∃ (a C : Addr) (fs : List (Str × V)) (c : V), xs = [.ref a, c] ∧ ExcAt K H a C fs ∧
  ((∃ (cv : Value) (b : Bool), (∀ u, RelV c u → u = cv) ∧ PySem.W.kitOne K (.ref C) cv = some b ∧ Q (.bl b) H) ∨
    ∃ (t : Addr) (cs : List Addr) (b : Bool), c = .ref t ∧ Tup H t (cs.map V.ref) ∧ PySem.W.kitAny K (.ref C) (cs.map Value.ref) = some b ∧ Q (.bl b) H)
theorem call_isV : CallR X (.builtin "isinstance") (rIsV X.K) := by
  intro pins s σ H xs us Q I r h
  obtain ⟨a, C, fs, c, rfl, k, h⟩ := h
  obtain ⟨ob, od, J, _⟩ := excAt_inst I k
  have T := k.1
  have Z : PySem.W.KitX X.K (.ref a) (.ref C) (fun h => PySem.W.InstAt h a ob C od) := PySem.W.kitx_exc T.cl T.ga T.gg T.ex T.kl T.kn T.kt T.km
  cases r with
  | cons rx rr =>
    cases rr with
    | cons rt rr =>
      cases rr
      cases rx
      rcases h with ⟨cv, b, hcv, e, q⟩ | ⟨t, cs, b, rfl, tu, e, q⟩
      · obtain rfl := hcv _ rt
        exact PySem.W.kia_one Z I.kIn J e (fun z => nomatch z) fun tk => ⟨.bl b, H, I.kept (t' := tk) fun _ _ z => z, rfl, q⟩
      · cases rt
        obtain ⟨its, m, rv, z, ho⟩ := tu.obj I
        rw [vals_refs rv] at ho
        exact PySem.W.kia_tup Z I.kIn J ho e (fun z => nomatch z) fun tk => ⟨.bl b, H, I.kept (t' := tk) fun _ _ z => z, rfl, q⟩
end

/-! ### kept behind the suite -/
def wKp (K : PySem.W.Frag) (c : Value) (i : Nat) (ts : Addr → Value → Option Addr → TS) (Wout : WX) (D : Ends) : WX := fun cls d σ H =>
  ∃ b, PySem.W.exmOne K cls c = some b ∧ (b = false → Wout cls d σ H) ∧ (b = true → ∀ a, H a = none →
    ts a cls d { nx := fun σ2 H2 => D.nx (σ2.set i none) (upd H2 a (ExV cls d a)), rt := fun v H2 => D.rt v (upd H2 a (ExV cls d a)), bk := fun σ2 H2 => D.bk (σ2.set i none) (upd H2 a (ExV cls d a)), ct := fun σ2 H2 => D.ct (σ2.set i none) (upd H2 a (ExV cls d a)) } (σ.set i (some (.ref a))) H)
theorem Inv.track {X : Cx} {pins : List (Addr × Obj)} {σ : L2.St} {H : Hp} {s : Shared} {a : Addr} {ob : Obj} {fv : Array Value} {cls : Value} {d : Option Addr} (I : Inv X pins σ H s) (na : H a = none) (old : X.s_0.heap.get? a = none)
    (there : s.heap.get? a = some ob) (hz : Zc cls d ob) (hf : ob.data = .fields fv) (nL : a ≠ X.env.locals) (np : ∀ p ∈ X.pn ++ pins, p.1 ≠ a) : Inv X pins σ (upd H a (ExV cls d a)) s := by
  have one : ∀ {b : Addr} {o : HO}, H b = some o → b ≠ a := fun {b o} q z => by rw [z, na] at q; cases q
  have out : ∀ {b : Addr} {o : Obj}, X.s_0.heap.get? b = some o → b ≠ a := fun {b o} q z => by rw [z, old] at q; cases q
  refine ⟨I.ok, I.os, I.bare, ⟨I.base.keep, I.base.slot, fun b o q n hx => ?_, I.base.there, fun b xs q => ?_, fun b o u q => ?_, fun b ps q => ?_⟩, I.loc, I.cell, ?_, fun x c hc => ?_, fun p hp => ?_, fun b u q => ?_, I.len⟩
  · rw [upd_ne (out q)]
    exact I.base.free b o q n hx
  · rw [upd_ne (one (I.base.tups b xs q))]
    exact I.base.tups b xs q
  · rw [upd_ne (one (I.base.frzs b o u q))]
    exact I.base.frzs b o u q
  · obtain ⟨m, z⟩ := I.base.tbls b ps q
    exact ⟨m, by rw [upd_ne (one z)]; exact z⟩
  · rw [upd_ne (Ne.symm nL)]
    exact I.free
  · have nc : c ≠ a := fun z => by
      obtain ⟨v, o, ho, hv⟩ := I.cell x c hc
      rw [z, there] at ho
      cases ho
      rw [hf] at hv
      cases hv
    rw [upd_ne nc]
    exact I.freeC x c hc
  · obtain ⟨q1, q2, q3⟩ := I.pin p hp
    exact ⟨q1, by rw [upd_ne (np p hp)]; exact q2, q3⟩
  · by_cases hb : b = a
    · subst hb
      rw [upd_same] at q
      cases q
      exact exv_ok there hz hf
    · rw [upd_ne hb] at q
      exact (I.hok b u q).stay (fun c v _ z => z) (fun c z => by rw [upd_ne (one z)]; exact z) fun c xs z => by rw [upd_ne (one z)]; exact z
section
variable {X : Cx} {x n : Str} {c : Value} {i : Nat} {body suite : List Stmt} {b₀ : Stmt} {np pos pos' : Pos} {tb : WX → TS} {ts : Addr → Value → Option Addr → TS} {Wout : WX}
theorem ps_try_kp (stk : X.stack = X.env :: X.outer) (fr : X.env.frame = some X.env.locals) (dup : X.N.Nodup) (slot : X.N[i]? = some n) (kd : X.env.kindOf n = some .local) (nm : Names X x c) (noex : X.ex = []) (tk : Takes X Wout)
    (bd : ∀ (W : WX) (pn : List (Addr × Obj)) (xe : Value → Shared → Prop), Takes (X.tr pn xe) W → PassesOwn (model X.prog X.w) X.A X.env xe → PSs (X.tr pn xe) body (tb W))
    (su : ∀ (a : Addr) (ob : Obj) (cls : Value) (d : Option Addr) (pn : List (Addr × Obj)), Zc cls d ob → (∃ vs, ob.data = .fields vs) → PSs (X.suite a ((a, ob) :: pn)) (b₀ :: suite) (ts a cls d)) :
    PS X (.Try body [.ExceptHandler (some (.Name x np)) (some n) (b₀ :: suite) pos'] [] [] pos) (fun D σ H => tb (wKp X.K c i ts Wout D) D σ H) := by
  refine ⟨fun pins s σ H D I h => ?_⟩
  have ok := I.ok
  have frs1 : X.A.frames = some (X.env :: X.outer) := by rw [ok.frames, stk]
  refine wpAny_Try_except ?_
  refine wpAny_mono ((bd (wKp X.K c i ts Wout D) (X.pn ++ pins) (fun ev z1 => wpAny (model X.prog X.w) X.A (noteFrame ev X.env) (fun _ z2 => wpAny (model X.prog X.w) X.A (setFlight ev none) (fun _ z3 =>
    wpAny (model X.prog X.w) X.A (handleBy ev X.env [.ExceptHandler (some (.Name x np)) (some n) (b₀ :: suite) pos']) (SP X pins D) X.xe z3) X.xe z2) X.xe z1) (fun u z xx => ?_) PassesOwn.looking).run [] s σ H D (I.toTry _) h) (fun f z1 hsp => ?_) (fun ev z1 he => he)
  · obtain ⟨a, B, sI, pins1, σ1, H1, cls, d, rfl, J1, nb, up, sky, na, os, ag, b, hb1, hno, hyes⟩ := xx
    have J : Inv X pins σ1 H1 sI := J1.ofTry ok
    have sky1 : Sky B (X.env :: X.outer) a (Zc cls d) X.env.locals z.heap := by rw [← stk]; exact sky
    show wpAny (model X.prog X.w) X.A (noteFrame (.ref a) X.env) _ _ _
    refine Sky.land Zc.steady frs1 fr sky1 fun h3 fl3 up3 => ?_
    have Ba : B.get? a = none := fl3.2.1
    have J3 : Inv X pins σ1 H1 { z with heap := h3 } := J.landed nb fl3.1 (up.trans up3) os ag
    obtain ⟨o3, f3, e3, z3, d3⟩ := fl3.there
    have off : a ∉ frs (X.env :: X.outer) := fun hm => by
      obtain ⟨_, o', e', hnf⟩ := fl3.2.2.1.mem hm
      rw [e3] at e'; cases e'
      exact hnf _ d3
    have nL : a ≠ X.env.locals := fun q => off (List.mem_filterMap.mpr ⟨X.env, List.mem_cons_self, by rw [fr, q]⟩)
    have nF : a ∉ X.fs := fun hm => by
      obtain ⟨ev, he, q⟩ := List.mem_filterMap.mp hm
      exact off (List.mem_filterMap.mpr ⟨ev, List.mem_cons_of_mem _ he, q⟩)
    have young : ∀ {b' : Addr} {o : Obj}, sI.heap.get? b' = some o → b' ≠ a := fun {b' o} q w => by
      have q' := nb b' o q (by rw [w, stk]; exact off)
      rw [w, Ba] at q'
      cases q'
    have old : X.s_0.heap.get? a = none := by
      cases q : X.s_0.heap.get? a with
      | none => rfl
      | some o =>
        obtain ⟨o', q'⟩ := J.base.there a o q (by rw [noex]; exact fun w => nomatch w)
        exact absurd rfl (young q')
    have apart : ∀ p ∈ X.pn ++ pins, p.1 ≠ a := fun p hp => young (J.pin p hp).1
    have S3 := J3.suite e3 d3 na nL nF
    refine wpAny_handleBy_cons (codeAny_handlers_test ?_) (by intro q; cases q)
    have LT : PySem.W.Looks (model X.prog X.w) h3 (typeOf (.ref a)) cls := fun A Q E s k q => wpAny_typeOf_ref (k _ _ e3) (by rw [z3.1]; exact q)
    have LM := PySem.W.exm_one (M := model X.prog X.w) (J3.kIn) LT hb1
    have named : ∀ {Q : Value → Shared → Prop} {E : Value → Shared → Prop}, Q c { z with heap := h3 } → wpAny (model X.prog X.w) (X.A.mark (some (.ref a))) (eval (.Name x np) X.env) Q E { z with heap := h3 } := fun {Q E} q => by
      obtain ⟨hg, hdbg, hm | ⟨hm, hv, hnn⟩⟩ := nm
      · exact ld_glob (X := X.suite a ((a, o3) :: (X.pn ++ pins))) S3 hg hm q hdbg
      · exact ld_blt (X := X.suite a ((a, o3) :: (X.pn ++ pins))) S3 hg hm hv q hnn hdbg
    refine named (LM.here ?_)
    cases b with
    | true =>
      refine codeAny_handlers_suite_as ?_
      refine HandSPX.lands_againZ fl3 fun h4 fl4 up4 => ?_
      have J4 : Inv X pins σ1 H1 { z with heap := h4 } := J.landed nb fl4.1 ((up.trans up3).trans up4) os ag
      obtain ⟨o4, f4, e4, z4, d4⟩ := fl4.there
      have S4 := J4.suite e4 d4 na nL nF
      refine store_ok (X := X.suite a ((a, o4) :: (X.pn ++ pins))) (v := .ref a) S4 dup slot (.inl kd) rfl (fun s5 S5 => ?_) (.inr kd)
      refine wpAny_mono ((su a o4 cls d (X.pn ++ pins) z4 ⟨_, d4⟩).run [] s5 _ H1 _ S5 (hyes rfl a na)) (fun f s6 hsp => ?_) (fun _ _ w => False.elim w)
      have fin : ∀ {σ6 : L2.St} {H6 : Hp} {Q : Shared → Prop}, Inv (X.suite a ((a, o4) :: (X.pn ++ pins))) [] σ6 H6 s6 → (∀ s7, Inv X pins (σ6.set i none) (upd H6 a (ExV cls d a)) s7 → Q s7) →
          wpAny (model X.prog X.w) X.A (do bindName X.env n .none; unbindBehindTheSuite X.env n pos') (fun _ s7 => Q s7) X.xe s6 := fun {σ6 H6 Q} S6 hq => by
        obtain ⟨p1, p2, _⟩ := S6.pin (a, o4) (List.mem_append_left _ List.mem_cons_self)
        exact gone_ok (Inv.track (S6.unsuite ok) p2 old p1 z4 d4 nL apart) dup slot kd hq
      cases f with
      | next =>
        obtain ⟨σ6, H6, S6, q6⟩ := hsp
        exact fin S6 fun s7 J7 => ⟨_, _, J7, q6⟩
      | brk =>
        obtain ⟨σ6, H6, S6, q6⟩ := hsp
        exact fin S6 fun s7 J7 => ⟨_, _, J7, q6⟩
      | cont =>
        obtain ⟨σ6, H6, S6, q6⟩ := hsp
        exact fin S6 fun s7 J7 => ⟨_, _, J7, q6⟩
      | ret u =>
        obtain ⟨v6, σ6, H6, S6, r6, q6⟩ := hsp
        exact fin S6 fun s7 J7 => ⟨_, _, _, J7, r6, q6⟩
    | false =>
      show wpAny _ X.A (handleBy (.ref a) X.env []) _ _ _
      refine wpAny_handleBy_nil ?_
      obtain ⟨k1, k2, k3, ob, fv, T, oT, tv, he, hz, hd, h1, hr⟩ := id fl3
      unfold PySem.passOn
      refine wpAny_bind (wpAny_field he hd h1 ?_)
      rw [if_neg (show ¬ ((Value.ref T == Value.none) = true) from by simp)]
      have on : wpAny (model X.prog X.w) X.A (setFlight (.ref a) X.env.frame) (fun _ s4 => wpAny (model X.prog X.w) X.A (throw (.ref a) : Sem Flow) (SP X pins D) X.xe s4) X.xe { z with heap := h3 } := by
        rw [fr]
        refine HandSPX.setFlight_upZ fl3 fun h4 hh4 up4 => wpAny_throw (tk _ _ ?_)
        exact ⟨a, B, sI, pins, σ1, H1, cls, d, rfl, J, nb, (up.trans up3).trans up4, .inr (.inr (by rw [stk]; exact hh4)), na, os, ag, hno rfl⟩
      first
        | exact wpAny_bind (wpAny_pure (wpAny_bind on))
        | exact wpAny_bind on
  · cases f with
    | next =>
      obtain ⟨σ', H', J', q⟩ := hsp
      exact wpAny_execs_nil ⟨σ', H', J'.ofTry ok, q⟩
    | brk =>
      obtain ⟨σ', H', J', q⟩ := hsp
      exact ⟨σ', H', J'.ofTry ok, q⟩
    | cont =>
      obtain ⟨σ', H', J', q⟩ := hsp
      exact ⟨σ', H', J'.ofTry ok, q⟩
    | ret u =>
      obtain ⟨v, σ', H', J', r, q⟩ := hsp
      exact ⟨v, σ', H', J'.ofTry ok, r, q⟩
def tTryKp (K : PySem.W.Frag) (C : Addr) (i : Nat) (tb : WX → TS) (ts : Addr → Value → Option Addr → TS) : TS := fun D σ H => tb (wKp K (.ref C) i ts (fun _ _ _ _ => False) D) D σ H
end
def tMkA (C : Addr) (t : TA) : L2.St → Hp → XK → Prop := fun σ H Q => t σ H fun vs H1 => vs.length ≤ sizeLine ∧ Q (.ref C) none H1
def tRaiseW (W : WX) (t : L2.St → Hp → XK → Prop) : TS := fun _ σ H => t σ H fun cls d H' => W cls d σ H'
end Wg

/-! Wagon, part 45: repr of data in which dicts may stand at any depth. -/
namespace Wg
open PySem PySem.Spec PyProof.Rows L2
mutual
inductive Dr (K : PySem.W.Frag) (H : Hp) : V → PyData → Prop
  | dp {v : V} {d : PyData} : Dp K H v d → Dr K H v d
  | lst {a : Addr} {xs : List V} {ds : List PyData} : H a = some (.lst xs) → DrAll K H xs ds → Dr K H (.ref a) (.list ds)
  | tup {a : Addr} {xs : List V} {ds : List PyData} : Tup H a xs → DrAll K H xs ds → Dr K H (.ref a) (.tuple ds)
  | dic {a : Addr} {kvs : List (Key × V)} {vs : List V} {ds : List PyData} : H a = some (.dK kvs) → vs = kvs.map (·.2) → DrAll K H vs ds → Dr K H (.ref a) (.dict ((kvs.map fun p => keyD p.1).zip ds))
inductive DrAll (K : PySem.W.Frag) (H : Hp) : List V → List PyData → Prop
  | nil : DrAll K H [] []
  | cons {v : V} {vs : List V} {d : PyData} {ds : List PyData} : Dr K H v d → DrAll K H vs ds → DrAll K H (v :: vs) (d :: ds)
end
theorem DrAll.len {K : PySem.W.Frag} {H : Hp} : ∀ {vs : List V} {ds : List PyData}, DrAll K H vs ds → vs.length = ds.length
  | _, _, .nil => rfl
  | _, _, .cons _ r => congrArg (· + 1) r.len
mutual
theorem Dr.keep {K : PySem.W.Frag} {H H' : Hp} (k : Keep [] H H') : ∀ {v : V} {d : PyData}, Dr K H v d → Dr K H' v d
  | _, _, .dp h => .dp (Dp.keep k h)
  | _, _, .lst h a => .lst (k _ _ nin0 h) (DrAll.keep k a)
  | _, _, .tup h a => .tup (h.keep k nin0) (DrAll.keep k a)
  | _, _, .dic h e a => .dic (k _ _ nin0 h) e (DrAll.keep k a)
theorem DrAll.keep {K : PySem.W.Frag} {H H' : Hp} (k : Keep [] H H') : ∀ {vs : List V} {ds : List PyData}, DrAll K H vs ds → DrAll K H' vs ds
  | _, _, .nil => .nil
  | _, _, .cons h r => .cons (Dr.keep k h) (DrAll.keep k r)
end
section
variable {X : Cx} {pins : List (Addr × Obj)} {σ : L2.St} {H : Hp} {s : Shared}
theorem pairs_keys {P : Program} {w : World} {h : Heap} : ∀ {es : List DictEntry} {kvs : List (Key × V)} {us : List (Key × Value)}, PySem.Pairs (mixKind P w) es us → KV kvs us →
    ReadsAll h (es.map (·.key)) (kvs.map fun p => keyD p.1) [] ∧ Vals (kvs.map (·.2)) (es.map (·.val))
  | _, _, _, .nil, .nil => ⟨.nil, .nil⟩
  | e :: es, (k, v) :: kvs, (k', u) :: us, .cons h1 h2 hr, .cons ⟨q1, q2⟩ qr => by
    obtain ⟨r1, r2⟩ := pairs_keys (h := h) hr qr
    have q1' : k = k' := q1
    have q2' : RelV v u := q2
    have hv : e.val = u := h2
    have hk : keyIs k' e.key = true := h1
    subst q1'
    refine ⟨.cons (as := []) (bs := []) ?_ r1, .cons (by show RelV v e.val; rw [hv]; exact q2') r2⟩
    show Reads h e.key (keyD k) []
    rcases keyIs_shape hk with ⟨i, t, rfl, e2⟩ | ⟨x, t, rfl, e2⟩
    · rw [e2]; exact .int i t
    · rw [e2]; exact .str x t
/-- the rows of a dict, told -/
structure ToldD (P : Program) (w : World) (h : Heap) (a : Addr) (o : Obj) (es : Array DictEntry) (n : Nat) (kvs : List (PyData × PyData)) : Prop where
  at_ : h.get? a = some o
  c : o.cls = .type "dict"
  d : o.data = .dict es n
  sy : (a == sysModules) = false
  r : ∃ as, Reads h (.ref a) (.dict kvs) as
  k : PyData.showableKv kvs = true → (dictText (PyData.shownKv kvs)).length ≤ sizeLine → ∃ bs ps, ReadAtMost h (PyData.depthKv kvs) bs ∧ a ∉ bs ∧ PyData.shownKv kvs = ps ∧ ReprEntriesK P w bs h (PyData.depthKv kvs) es.toList ps
theorem toldD (I : Inv X pins σ H s) {a : Addr} {kvs : List (Key × V)} {ds : List PyData} (h : H a = some (.dK kvs)) (l : (kvs.map (·.2)).length = ds.length) (t : ∀ us, Vals (kvs.map (·.2)) us → ToldAll X.prog X.w s.heap us ds) :
    ∃ o es n, ToldD X.prog X.w s.heap a o es n ((kvs.map fun p => keyD p.1).zip ds) := by
  obtain ⟨z, hsy, ws, kv, o, es, ep, ho, ex, hdat, _, hp, _⟩ := I.hok a _ h
  obtain ⟨r1, v2⟩ := pairs_keys (h := s.heap) hp kv
  have tv := t _ v2
  obtain ⟨av, rv⟩ := tv.r
  have lk : (kvs.map fun p => keyD p.1).length = ds.length := by rw [List.length_map, ← List.length_map (f := (·.2)), l]
  have ek : ((kvs.map fun p => keyD p.1).zip ds).map (·.1) = kvs.map fun p => keyD p.1 := List.map_fst_zip (Nat.le_of_eq lk)
  have ev : ((kvs.map fun p => keyD p.1).zip ds).map (·.2) = ds := List.map_snd_zip (Nat.le_of_eq lk.symm)
  have sy : (a == sysModules) = false := by
    refine beq_eq_false_iff_ne.mpr fun e => ?_
    rw [e] at hsy
    simp at hsy
  generalize hkv : (kvs.map fun p => keyD p.1).zip ds = kvd at *
  have rd : Reads s.heap (.ref a) (PyData.dict kvd) (a :: [] ++ av) := .dict ho ex.1 hdat (by rw [ek]; exact r1) (by rw [ev]; exact rv)
  refine ⟨o, es, _, ho, ex.1, hdat, sy, ⟨_, rd⟩, fun hs hz => ?_⟩
  obtain ⟨hs1, hs2⟩ := PyData.showableKv_split kvd hs
  obtain ⟨b1, hb1, k1⟩ := ReprAllK.of_readsAll (prog := X.prog) (w := X.w) (show ReadsAll s.heap (es.toList.map (·.key)) (kvd.map (·.1)) [] by rw [ek]; exact r1) hs1 (fun _ hm => nomatch hm) (fun t ht => let ⟨p, hp, hl⟩ := PyData.shownKv_key_le kvd t ht; Nat.le_trans hl (Nat.le_trans (dictText_mem_le hp) hz))
  obtain ⟨b2, hb2, k2⟩ := tv.k (by rw [← ev]; exact hs2) (fun t ht => let ⟨p, hp, hl⟩ := PyData.shownKv_val_le kvd t (by rw [ev]; exact ht); Nat.le_trans hl (Nat.le_trans (dictText_mem_le hp) hz))
  have hb2' : ReadAtMost s.heap (PyData.depthAll (kvd.map (·.2))) b2 := by rw [ev]; exact hb2
  have hb : ReadAtMost s.heap (PyData.depthKv kvd) (b1 ++ b2) := (hb1.mono (PyData.depthAll_keys_le kvd)).append (hb2'.mono (PyData.depthAll_vals_le kvd))
  have hna : a ∉ b1 ++ b2 := not_mem_of_deeper rd (by simp only [PyData.depth]; omega) hb
  have k2' : ReprAllK X.prog X.w b2 s.heap (PyData.depthAll (kvd.map (·.2))) (es.toList.map (·.val)) (PyData.shownAll (kvd.map (·.2))) := by rw [ev]; exact k2
  exact ⟨b1 ++ b2, _, hb, hna, PyData.shownKv_eq kvd, ReprEntriesK.of_two es.toList _ _ (k1.more_le (fun b hb => List.mem_append_left _ hb) (PyData.depthAll_keys_le kvd)) (k2'.more_le (fun b hb => List.mem_append_right _ hb) (PyData.depthAll_vals_le kvd))⟩
theorem ToldD.told {P : Program} {w : World} {h : Heap} {a : Addr} {o : Obj} {es : Array DictEntry} {n : Nat} {kvs : List (PyData × PyData)} (t : ToldD P w h a o es n kvs) : Told P w h (.ref a) (.dict kvs) := by
  obtain ⟨as, rd⟩ := t.r
  refine ⟨⟨as, rd⟩, fun hs hz => ?_⟩
  obtain ⟨bs, ps, hb, hna, e, k⟩ := t.k (by simpa only [PyData.showable] using hs) (by simpa only [PyData.shown] using hz)
  have eD : (PyData.dict kvs).depth = PyData.depthKv kvs + 1 := by simp only [PyData.depth]
  refine ⟨a :: bs, ReadAtMost.cons rd (by rw [eD]; omega) hb, ?_⟩
  simp only [PyData.depth, PyData.shown]
  rw [e]
  exact ReprK.dict t.at_ t.c t.d t.sy hna k
mutual
theorem Dr.told (I : Inv X pins σ H s) : ∀ {d : PyData} {v : V} {u : Value}, Dr X.K H v d → RelV v u → Told X.prog X.w s.heap u d
  | _, _, _, .dp h, r => told_dp I h r
  | _, _, _, .lst hs ha, r => by
    cases r
    obtain ⟨its, rv, ⟨o, n, ho, hc, _, hd⟩, _⟩ := I.list (lst_sq (K := X.K) hs)
    exact Told.list ho hc hd (DrAll.told I ha rv)
  | _, _, _, .tup hs ha, r => by
    cases r
    obtain ⟨its, n, rv, _, ho⟩ := hs.obj I
    exact Told.tuple ho rfl rfl (DrAll.told I ha rv)
  | _, _, _, .dic hs e ha, r => by
    cases r
    obtain ⟨o, es, n, t⟩ := toldD I hs (by rw [← e]; exact ha.len) fun us rv => DrAll.told I ha (by rw [e]; exact rv)
    exact t.told
theorem DrAll.told (I : Inv X pins σ H s) : ∀ {ds : List PyData} {vs : List V} {us : List Value}, DrAll X.K H vs ds → Vals vs us → ToldAll X.prog X.w s.heap us ds
  | _, _, _, .nil, r => by
    cases r
    exact ToldAll.none
  | _, _, _, .cons h1 h2, r => by
    cases r with
    | cons r1 r2 => exact ToldAll.more (Dr.told I h1 r1) (DrAll.told I h2 r2)
end
end
def uReprX (K : PySem.W.Frag) : List V → Hp → VK → Prop := fun xs H Q => ∃ (v : V) (d : PyData), xs = [v] ∧ Dr K H v d ∧ fine d ∧ d.depth ≤ 100 ∧ cost d ≤ 10000000 ∧ Q (.str d.shown) H
theorem call_uReprX {X : Cx} (hr : Rm 1 X.A) : CallR X (.builtin "repr") (uReprX X.K) := by
  intro pins s σ H xs us Q I r h
  obtain ⟨v, d, rfl, hd, hf, hdep, hz, q⟩ := h
  have hs := fine_show hf
  have hz' : d.shown.length ≤ sizeLine := Nat.le_trans (shown_le hf) (line_big hz)
  have hu : X.A.units + (d.depth + 1) < cLine := by
    have := hr.rm.un
    omega
  have dpc : ∀ {v : V} {d : PyData}, Dp X.K H v d → d.showable = true → d.depth ≤ 100 → d.shown.length ≤ sizeLine → Q (.str d.shown) H → Vals [v] us → wpAny (model X.prog X.w) X.A (call (.builtin "repr") us) (EP X pins σ Q) X.xe s :=
    fun {v d} h1 h2 h3 h4 q r => call_uRep hr pins s σ H _ us Q I r (.inl ⟨v, d, rfl, h1, h2, h3, h4, q⟩)
  cases hd with
  | dp h => exact dpc h hs hdep hz' q r
  | @lst a xs ds hl ha =>
    cases ha with
    | nil => exact dpc (.lst (lst_sq hl) .nil) hs hdep hz' q r
    | @cons v0 vs d0 ds h0 h1 =>
      obtain ⟨u, rfl, rx⟩ := vals1 r
      cases rx
      obtain ⟨its, rv, ⟨o, n, ho, hc, _, hdt⟩, _⟩ := I.list (lst_sq (K := X.K) hl)
      have t := DrAll.told I (.cons h0 h1) rv
      have eS : (PyData.list (d0 :: ds)).shown = listText (PyData.shownAll (d0 :: ds)) := by simp only [PyData.shown]
      have eD : (PyData.list (d0 :: ds)).depth = PyData.depthAll (d0 :: ds) + 1 := by simp only [PyData.depth]
      rw [eS] at hz'
      obtain ⟨as, ra⟩ := t.r
      obtain ⟨bs, hb, hk⟩ := t.k (by simpa only [PyData.showable] using hs) fun x hx => Nat.le_trans (listText_mem_le hx) hz'
      have rr : Reads s.heap (.ref a) (.list (d0 :: ds)) (a :: as) := .list ho hc hdt ra
      have hna : a ∉ bs := not_mem_of_deeper rr (by rw [eD]; omega) hb
      cases its with
      | nil => cases rv
      | cons x l =>
        refine call_repr_slot (T := "list") (idr := "list.__repr__") (by omega) ⟨_, ho, hc⟩ F.slot_list_repr.toG (call_list_reprK ho hc hdt hna (by simpa using hk.length_eq) (fun i y q => hk.item i y (by simpa using q)) hr.gd (fun b _ => Clear.nil b) (by show X.A.units + 1 + _ < cLine; omega) (fun _ _ e => e) (fun h' u tk hkp => ⟨_, _, rfl, ?_⟩) hz')
        rw [← eS]
        exact ⟨.str _, H, I.kept (t' := tk) hkp, ⟨_, rfl⟩, q⟩
  | @tup a xs ds ht ha =>
    obtain ⟨u, rfl, rx⟩ := vals1 r
    cases rx
    obtain ⟨its, n, rv, _, ho⟩ := ht.obj I
    have t := DrAll.told I ha rv
    have eS : (PyData.tuple ds).shown = tupleText (PyData.shownAll ds) := by simp only [PyData.shown]
    have eD : (PyData.tuple ds).depth = PyData.depthAll ds + 1 := by simp only [PyData.depth]
    rw [eS] at hz'
    obtain ⟨as, ra⟩ := t.r
    obtain ⟨bs, hb, hk⟩ := t.k (by simpa only [PyData.showable] using hs) fun x hx => Nat.le_trans (tupleText_mem_le hx) hz'
    have rr : Reads s.heap (.ref a) (.tuple ds) as := .tuple ho rfl rfl ra
    have hna : a ∉ bs := not_mem_of_deeper rr (by rw [eD]; omega) hb
    refine call_repr_slot (T := "tuple") (idr := "tuple.__repr__") (by omega) ⟨_, ho, rfl⟩ F.slot_tuple_repr (call_tuple_reprK ho rfl rfl hna hk hr.gd (fun b _ => Clear.nil b) (by show X.A.units + 1 + _ < cLine; omega) (fun _ _ e => e) (fun h' u tk hkp => ⟨_, _, rfl, ?_⟩) hz')
    rw [← eS]
    exact ⟨.str _, H, I.kept (t' := tk) hkp, ⟨_, rfl⟩, q⟩
  | @dic a kvs vs ds h e ha =>
    obtain ⟨u, rfl, rx⟩ := vals1 r
    cases rx
    obtain ⟨o, es, n, t⟩ := toldD I h (by rw [← e]; exact ha.len) fun us rv => DrAll.told I ha (by rw [e]; exact rv)
    generalize (kvs.map fun p => keyD p.1).zip ds = kvd at *
    have eS : (PyData.dict kvd).shown = dictText (PyData.shownKv kvd) := by simp only [PyData.shown]
    have eD : (PyData.dict kvd).depth = PyData.depthKv kvd + 1 := by simp only [PyData.depth]
    rw [eS] at hz'
    obtain ⟨bs, ps, hb, hna, ep, hk⟩ := t.k (by simpa only [PyData.showable] using hs) hz'
    rw [ep] at hz' eS
    refine call_repr_slot (T := "dict") (idr := "dict.__repr__") (by omega) ⟨_, t.at_, t.c⟩ F.slot_dict_repr (call_dict_reprK t.at_ t.c t.d t.sy hna hk hr.gd (fun b _ => Clear.nil b) (by show X.A.units + 1 + _ < cLine; omega) (fun _ _ e => e) (fun h' u tk hkp => ⟨_, _, rfl, ?_⟩) hz')
    rw [← eS]
    exact ⟨.str _, H, I.kept (t' := tk) hkp, ⟨_, rfl⟩, q⟩
theorem g_repX {K : PySem.W.Frag} {H : Hp} {v : V} {d : PyData} {Q : VK} (h : Dr K H v d) (f : fine d) (l : d.depth ≤ 100) (c : cost d ≤ 10000000) (q : Q (.str d.shown) H) : uReprX K [v] H Q := ⟨v, d, rfl, h, f, l, c, q⟩
end Wg

namespace Wg
open PySem PySem.Spec PyProof.Rows L2
/-! ### exceptions as things -/
def MkV (K : PySem.W.Frag) (C : Addr) (fs : List Str) (ws : List V) (H : Hp) (Q : VK) : Prop := ws.length ≤ 1000 ∧ ∀ a, H a = none → spIni K C fs (.ref a :: (ws ++ [])) (upd H a (exo a C none))
  (fun v H2 => v = .non ∧ ∃ (d : Addr) (gs : List (Str × V)), H2 a = some (exo a C (some d)) ∧ H2 d = some (exd d gs) ∧ H d = none ∧ ∀ a2, (upd (del H2 a) d (.xd gs)) a2 = none → Q (.ref a2) (upd (upd (del H2 a) d (.xd gs)) a2 (ExV (.ref C) (some d) a2))) (fun _ _ _ => False)
theorem e_mkV {K : PySem.W.Frag} {C : Addr} {fs : List Str} {ta : TA} {σ : L2.St} {H : Hp} {Q : VK} : tMkV (tMkO C (spIni K C fs) [] ta) σ H Q ↔ ta σ H (fun vs H1 => MkV K C fs vs H1 Q) := Iff.rfl
def MkA (C : Addr) (ws : List V) (H : Hp) (Q : VK) : Prop := ws.length ≤ sizeLine ∧ ∀ a, H a = none → Q (.ref a) (upd H a (ExV (.ref C) none a))
theorem e_mkA {C : Addr} {ta : TA} {σ : L2.St} {H : Hp} {Q : VK} : tMkV (tMkA C ta) σ H Q ↔ ta σ H (fun vs H1 => MkA C vs H1 Q) := Iff.rfl
def RaW (K : PySem.W.Frag) (W : WX) (C : Addr) (fs : List Str) (σ : L2.St) (ws : List V) (H : Hp) : Prop := ws.length ≤ 1000 ∧ ∀ a, H a = none → spIni K C fs (.ref a :: (ws ++ [])) (upd H a (exo a C none))
  (fun v H2 => v = .non ∧ ∃ (d : Addr) (gs : List (Str × V)), H2 a = some (exo a C (some d)) ∧ H2 d = some (exd d gs) ∧ H d = none ∧ W (.ref C) (some d) σ (upd (del H2 a) d (.xd gs))) (fun _ _ _ => False)
theorem e_raW {K : PySem.W.Frag} {W : WX} {C : Addr} {fs : List Str} {ta : TA} {D : Ends} {σ : L2.St} {H : Hp} : tRaiseW W (tMkO C (spIni K C fs) [] ta) D σ H ↔ ta σ H (fun vs H1 => RaW K W C fs σ vs H1) := Iff.rfl
/-- an exception of the class C with the fields fs, as it stands in the heap -/
def EAt (H : Hp) (a C : Addr) (fs : List (Str × V)) : Prop := ∃ d, H a = some (ExV (.ref C) d a) ∧ ((d = none ∧ fs = []) ∨ ∃ dd, d = some dd ∧ H dd = some (.xd fs))
theorem EAt.keep {H H' : Hp} {a C : Addr} {fs : List (Str × V)} (h : EAt H a C fs) (k : Keep [] H H') : EAt H' a C fs := by
  obtain ⟨d, e, h⟩ := h
  refine ⟨d, k _ _ nin0 e, ?_⟩
  rcases h with h | ⟨dd, ed, h⟩
  · exact .inl h
  · exact .inr ⟨dd, ed, k _ _ nin0 h⟩
theorem EAt.ea {K : PySem.W.Frag} {H : Hp} {a C : Addr} {fs : List (Str × V)} (h : EAt H a C fs) (T : ExA K C) : ExcAt K H a C fs := ⟨T, h⟩
theorem g_mkV {K : PySem.W.Frag} {C : Addr} {fs : List Str} {ws : List V} {H : Hp} {Q : VK} (l : ws.length = fs.length) (l2 : ws.length ≤ 1000) (q : ∀ a H', Keep [] H H' → EAt H' a C (fs.zip ws).reverse → Q (.ref a) H') : MkV K C fs ws H Q := by
  refine g_mkO (σ := []) (Q := fun cls d H' => ∀ a, H' a = none → Q (.ref a) (upd H' a (ExV cls d a))) l l2 fun d nd a na => ?_
  have ne : d ≠ a := fun z => by rw [← z, upd_same] at na; cases na
  refine q a _ ((Keep.new nd).trans (Keep.new na)) ⟨some d, upd_same, .inr ⟨d, rfl, ?_⟩⟩
  rw [upd_ne ne, upd_same]
theorem g_mkA {C : Addr} {ws : List V} {H : Hp} {Q : VK} (l : ws.length ≤ 1000) (q : ∀ a H', Keep [] H H' → EAt H' a C [] → Q (.ref a) H') : MkA C ws H Q :=
  ⟨len_le (by omega), fun a na => q a _ (Keep.new na) ⟨none, upd_same, .inl ⟨rfl, rfl⟩⟩⟩
theorem rel_refX {C : Addr} : ∀ u, RelV (.ref C) u → u = .ref C := fun u r => r
theorem rel_tyX {T : String} : ∀ u, RelV (.ty T) u → u = .type T := fun u r => r
theorem g_isV {K : PySem.W.Frag} {H : Hp} {a C c : Addr} {fs : List (Str × V)} {b : Bool} {Q : VK} (h : ExcAt K H a C fs) (k : PySem.W.kitOne K (.ref C) (.ref c) = some b) (q : Q (.bl b) H) : rIsV K [.ref a, .ref c] H Q :=
  ⟨a, C, fs, .ref c, rfl, h, .inl ⟨_, b, rel_refX, k, q⟩⟩
theorem g_isVT {K : PySem.W.Frag} {H : Hp} {a C : Addr} {T : String} {fs : List (Str × V)} {b : Bool} {Q : VK} (h : ExcAt K H a C fs) (k : PySem.W.kitOne K (.ref C) (.type T) = some b) (q : Q (.bl b) H) : rIsV K [.ref a, .ty T] H Q :=
  ⟨a, C, fs, .ty T, rfl, h, .inl ⟨_, b, rel_tyX, k, q⟩⟩
def XfV (K : PySem.W.Frag) (f : Str) (Q : VK) (x : V) (H1 : Hp) : Prop := ∃ (a C : Addr) (fs : List (Str × V)) (v : V), x = .ref a ∧ ExcAt K H1 a C fs ∧ PySem.W.findIn K (.ref C) f = some none ∧ fs.lookup f = some v ∧ Q v H1
theorem e_xfV {K : PySem.W.Frag} {f : Str} {te : TE} {σ : L2.St} {H : Hp} {Q : VK} : tXfV K f te σ H Q ↔ te σ H (XfV K f Q) := Iff.rfl
theorem g_xfV {K : PySem.W.Frag} {f : Str} {a C : Addr} {fs : List (Str × V)} {v : V} {H : Hp} {Q : VK} (h : ExcAt K H a C fs) (no : PySem.W.findIn K (.ref C) f = some none) (l : fs.lookup f = some v) (q : Q v H) : XfV K f Q (.ref a) H := ⟨a, C, fs, v, rfl, h, no, l, q⟩
end Wg

/-! Wagon, part 47: sorted of a tuple of alike data. -/
namespace Wg
open PySem PySem.Spec PyProof.Rows PySem.W
section
variable {prog : Program} {w : World} {A : Around} {E : Value → Shared → Prop} {s : Shared} {l : Addr} {vs : List Value} {ob : Obj} {n : Nat}
theorem collect_tupV {Q : List Value → Shared → Prop} (at_ : s.heap.get? l = some ob) (cl_ : ob.cls = .type "tuple") (dt : ob.data = .seq vs.toArray n) (few : vs.length ≤ sizeLine)
    (q : Q vs { s with heap := (s.heap.push (seqObj "list" #[] 0)).update s.heap.objs.size (Obj.mapSeq (· ++ vs.toArray)) }) : wpAny (model prog w) A (collect (.ref l)) Q E s := by
  unfold collect
  refine wpAny_bind (wpAny_runValue (codeAny_builtin entry_proto_collect' ?_))
  show wpAny _ _ (do again (.builtin "list.__iadd__" ⟨[← newList [], .ref l], []⟩)) _ _ s
  refine wpAny_bind (wpAny_newList (wpAny_pure ⟨Code.quiet_builtin _ (by decide +kernel), codeAny_builtin entry_list_iadd' ?_⟩))
  show wpAny _ _ (Builtin.List.listExtendWith (.ref s.heap.objs.size) (.ref l) (.ref s.heap.objs.size)) _ _ { s with heap := s.heap.push (seqObj "list" #[] 0) }
  unfold Builtin.List.listExtendWith
  have at2 : (s.heap.push (seqObj "list" #[] 0)).get? l = some ob := Heap.get?_push_of_some _ at_
  refine wpAny_bind (wpAny_typeOf (T := "tuple") ⟨ob, at2, cl_⟩ ?_)
  have same : (Value.type "tuple" == Value.type "tuple") = true := by rfl
  rw [if_pos (by rw [same]; simp)]
  refine wpAny_bind (listItems_at at2 dt ?_)
  refine wpAny_bind (listItems_at (xs := #[]) (n := 0) (Heap.get?_push_size _ rfl) rfl ?_)
  rw [if_neg (by simp)]
  refine wpAny_bind (listUpdate_at (xs := #[]) (n := 0) (Heap.get?_push_size _ rfl) rfl ?_ (Nat.zero_le _) (by show (#[] ++ vs.toArray).size ≤ sizeLine + 1; simp only [Array.size_append, List.size_toArray, List.length_nil]; omega))
  refine wpAny_pure ?_
  show wpAny (model prog w) A (do
      let o ← load s.heap.objs.size
      match o.data with
      | .seq xs _ => pure xs.toList
      | _ => unsupported "internal:collect") Q E { s with heap := (s.heap.push (seqObj "list" #[] 0)).update s.heap.objs.size (Obj.mapSeq (· ++ vs.toArray)) }
  refine wpAny_bind (wpAny_load (get?_update_seq (Heap.get?_push_size _ rfl) _) ?_)
  show wpAny _ _ (pure ((#[] : Array Value) ++ vs.toArray).toList) Q E _
  rw [show ((#[] : Array Value) ++ vs.toArray).toList = vs by simp]
  exact wpAny_pure q
theorem sortT_vals {κ : PyProof.Rows.KeyKind} {Q : Value → Shared → Prop} (at_ : s.heap.get? l = some ob) (cl_ : ob.cls = .type "tuple") (dt : ob.data = .seq vs.toArray n) (few : vs.length ≤ sizeLine)
    (S : SortsAt prog w A.in1.in1 { s with heap := sortingHeap (copyHeap s.heap vs) (s.heap.objs.size + 1) vs } κ vs)
    (q : Q (.ref (s.heap.objs.size + 1)) { s with heap := sortedAll s.heap vs (sortVals κ false vs vs).toArray }) : wpAny (model prog w) A (call (.builtin "sorted") [.ref l]) Q E s := by
  refine call_function_entry_kw kind_sorted plain_sorted entry_sorted (args_sorted1 _) ?_
  unfold Builtin.«sorted»
  refine wpAny_bind (m := checkCount "sorted" 1 1 _) (wpAny_pure ?_)
  refine wpAny_bind (collect_tupV at_ cl_ dt few ?_)
  refine wpAny_bind (wpAny_newList ?_ few)
  have sz : ((s.heap.push (seqObj "list" #[] 0)).update s.heap.objs.size (Obj.mapSeq (· ++ vs.toArray))).objs.size = s.heap.objs.size + 1 := by
    rw [Heap.size_update, size_push']
  show wpAny _ _ _ _ _ { s with heap := copyHeap s.heap vs }
  rw [sz]
  refine wpAny_bind (wpAny_holding (wpAny_call_entry_kw slot_list_sort ⟨_, copyHeap_at s.heap vs, rfl⟩ entry_list_sort ?_ (args_list_sort _)))
  show wpAny (model prog w) A.in1.in1 (Builtin.«list.sort» ⟨[.ref (s.heap.objs.size + 1)], []⟩) _ _ _
  refine wpAny_mono (list_sort_vals (s := { s with heap := copyHeap s.heap vs }) (P := fun f s' => f = .done (.ret .none) ∧ Q (.ref (s.heap.objs.size + 1)) s') (copyHeap_at s.heap vs) S few ⟨rfl, q⟩) (fun f s' hf => ?_) fun _ _ e => e
  obtain ⟨rfl, hq⟩ := hf
  exact ⟨_, rfl, wpAny_pure ⟨_, rfl, hq⟩⟩
theorem sortT_data {β : Type} {R : Value → β → Prop} {enc : β → PyData} {bs : List β} {Q : Value → Shared → Prop} (at_ : s.heap.get? l = some ob) (cl_ : ob.cls = .type "tuple") (dt : ob.data = .seq vs.toArray n) (e : EachIs R vs bs) (er : EachIs (fun v b => ∃ as, Reads s.heap v (enc b) as) vs bs)
    (hal : AllAlike (bs.map enc)) (hk : Sortable (bs.map enc)) (few : bs.length ≤ sizeLine) (hu : ∀ b, b ∈ bs → A.units + 2 + (enc b).depth < cLine)
    (q : ∀ out, out.length = bs.length → EachIs R out (bs.mergeSort (dataLe false enc)) → Q (.ref (s.heap.objs.size + 1)) { s with heap := sortedAll s.heap vs (List.toArray out) }) :
    wpAny (model prog w) A (call (.builtin "sorted") [.ref l]) Q E s := by
  have er2 : EachIs (fun v b => ∃ as, Reads (sortingHeap (copyHeap s.heap vs) (s.heap.objs.size + 1) vs) v (enc b) as) vs bs := er.mono fun _ _ ⟨as, r⟩ => ⟨as, PyProof.Rows.Reads.keeps (fun _ _ => sorting_copy_old) r⟩
  exact sortT_vals at_ cl_ dt (by rw [e.length]; exact few) (SortsAt.data (s := { s with heap := sortingHeap (copyHeap s.heap vs) (s.heap.objs.size + 1) vs }) (each_map (R := fun v d => ∃ as, Reads (sortingHeap (copyHeap s.heap vs) (s.heap.objs.size + 1) vs) v d as) enc er2) hal hk (bound_map hu))
    (q _ (by rw [sortVals_length false rfl]; exact e.length) (sortVals_data false e er2 hal))
end
end Wg
namespace Wg
open PySem PySem.Spec PyProof.Rows L2
/-- sorted(tuple of alike data) -/
def uSortedT (K : PySem.W.Frag) : List V → Hp → VK → Prop := fun vs H Q => ∃ (α : Type) (RR : V → α → Prop) (enc : α → PyData) (a : Addr) (xs : List V) (rs : List α), vs = [.ref a] ∧ Tup H a xs ∧ PySem.W.EachIs RR xs rs ∧ xs.length ≤ 1000 ∧
  (∀ x r, RR x r → Dp K H x (enc r)) ∧ PySem.W.AllAlike (rs.map enc) ∧ PySem.W.Sortable (rs.map enc) ∧ (∀ r ∈ rs, (enc r).depth ≤ 50) ∧
  ∀ ys, ys.length = xs.length → PySem.W.EachIs RR ys (rs.mergeSort (PySem.W.dataLe false enc)) → Mk H (.lst ys) Q
theorem call_uSortedT {X : Cx} (hu : X.A.units + 64 < cLine) : CallR X (.builtin "sorted") (uSortedT X.K) := by
  intro pins s σ H vs us Q I r h
  obtain ⟨α, RR, enc, a, xs, rs, rfl, ht, he, few, hd, ha, hk, hdp, q⟩ := h
  obtain ⟨its, n, rv, _, ho⟩ := ht.obj I
  obtain ⟨u, rfl, ru⟩ := vals1 r
  obtain rfl : u = Value.ref a := ru
  have er := each_vals rv he
  have lz : rs.length ≤ sizeLine := len_le (by rw [← he.length]; omega)
  refine sortT_data (R := fun u r => ∃ x, RelV x u ∧ RR x r) ho rfl rfl er (er.mono fun u r ⟨x, h1, h2⟩ => Dp.reads I _ _ _ (hd x r h2) h1) ha hk lz (fun b hb => by have := hdp b hb; omega) fun out lo eo => ?_
  obtain ⟨ys, v1, e1⟩ := vals_each eo
  obtain ⟨m, hm⟩ := sortedAll_at s.heap its (List.toArray out)
  have hly : ys.length = xs.length := by rw [v1.length, lo, he.length]
  refine ⟨.ref (s.heap.objs.size + 1), upd H (s.heap.objs.size + 1) (.lst ys), I.laid (t' := s.toks) (fun b o e => sortedAll_old e) (Nat.le_succ _) ⟨by rw [hly, he.length]; exact lz, out, m, v1, hm⟩, rfl, ?_⟩
  have nf := I.hok.fresh (Nat.le_succ s.heap.objs.size)
  exact q ys hly e1 _ _ nf (Keep.new nf) upd_same
end Wg

/-! Wagon, part 48: anything asked in a tuple of texts; any list held against the empty list. -/
namespace Wg
open PySem PySem.Spec PyProof.Rows L2
theorem str_eq_declines_dict (b : Str) (u : Tok) (a : Addr) (cls : Value) (dd : Option Addr) (es : Array DictEntry) (n : Nat) (sl : Array (Option Value)) : Meets (Builtin.«str.__eq__» { pos := [Value.str b u, Value.ref a] }) fun x R s =>
    s.heap.get? a = some ⟨cls, dd, .dict es n, sl⟩ ∧ R (Except.ok (Flow.ret Value.notImplemented)) s := by
  refine Meets.of_wp fun prog w A R s h => ?_
  obtain ⟨hp, g, d, tk, os⟩ := s
  obtain ⟨hl, h⟩ := h
  refine wpAny_bind (wpAny_bind ?_)
  unfold slotArgs
  refine wpAny_ite_false rfl (wpAny_ite_false rfl (wpAny_pure ?_))
  refine wpAny_bind ?_
  refine wpAny_pure ?_
  refine wpAny_pure ?_
  refine wpAny_bind ?_
  refine wpAny_bind ?_
  refine wpAny_load hl ?_
  refine wpAny_pure (wpAny_bind (wpAny_rule ?_))
  exact wpAny_pure ⟨_, rfl, h⟩
theorem dict_eq_declines_str (a : Addr) (o : Obj) (b : Str) (u : Tok) : Meets (Builtin.«dict.__eq__» { pos := [Value.ref a, Value.str b u] }) fun x R s =>
    s.heap.get? a = some o ∧ R (Except.ok (Flow.ret Value.notImplemented)) s := by
  refine Meets.of_wp fun prog w A R s h => ?_
  obtain ⟨ho, h⟩ := h
  have f1 := F.sub_str_dict
  refine wpAny_bind (wpAny_bind ?_)
  unfold Builtin.Dict.notOrdered
  refine wpAny_ite_false (by decide +kernel) (wpAny_pure (wpAny_bind ?_))
  unfold slotArgs
  refine wpAny_ite_false rfl (wpAny_ite_false rfl (wpAny_pure (wpAny_pure ?_)))
  refine wpAny_bind ?_
  refine wpAny_bind (wpAny_pure (wpAny_of_eq f1 ?_))
  refine wpAny_ite_true rfl (wpAny_bind (wpAny_rule ?_))
  exact wpAny_pure ⟨_, rfl, h⟩
theorem rc_str_dict {A : Around} {s : Shared} {a : Addr} {dd : Option Addr} {es : Array DictEntry} {n : Nat} {sl : Array (Option Value)} (b : Str) (u : Tok) (ho : s.heap.get? a = some ⟨.type "dict", dd, .dict es n, sl⟩) (hu : A.units < cLine) : SeqAt.RcAt A s (Value.str b u) (Value.ref a) false := fun prog w E Q h =>
  SeqAt.rc_eq_decline_or (typeIs_str s b u) ⟨_, ho, rfl⟩ (by decide) F.sub_dict_str F.slot_str_eq F.slot_dict_eq_refl
    (fun x hq => call_meets F.slot_str_eq (typeIs_str s b u) F.entry_str_eq (F.args_str_eq_2 _ _) (str_eq_declines_dict b u a _ dd es n sl) ⟨ho, hq⟩)
    (fun x hq => call_meets F.slot_dict_eq_refl ⟨_, ho, rfl⟩ F.entry_dict_eq (F.args_dict_eq_2 _ _) (dict_eq_declines_str a _ b u) ⟨ho, hq⟩)
    (fun x hq => wpAny_of_eq rfl hq) (.inr hu) h
theorem eq_str_dict {A : Around} {s : Shared} {a : Addr} {dd : Option Addr} {es : Array DictEntry} {n : Nat} {sl : Array (Option Value)} (b : Str) (u : Tok) (ho : s.heap.get? a = some ⟨.type "dict", dd, .dict es n, sl⟩) (hu : A.units < cLine) : SeqAt.EqAt A s (Value.str b u) (Value.ref a) false := fun prog w E Q h => by
  unfold eqBool
  exact wpAny_holding (wpAny_ite_split (fun hab => absurd (eq_of_beq hab) fun a => nomatch a) fun x => wpAny_bind (rc_str_dict b u ho hu prog w E _ (wpAny_truthy_bool h)))
/-- any data that lies in the heap -/
def AnyV (H : Hp) (x : V) : Prop := flatV x = true ∨ (∃ l xs, x = .ref l ∧ H l = some (.lst xs)) ∨ (∃ l xs, x = .ref l ∧ Tup H l xs) ∨ ∃ l kvs, x = .ref l ∧ H l = some (.dK kvs)
def inX (x : V) (ys : List Str) : Bool := match x with
  | .str z => decide (z ∈ ys)
  | _ => false
theorem flat_strsX (ys : List Str) : (ys.map V.str).all flatV = true := by
  rw [List.all_map]
  exact List.all_eq_true.mpr fun _ _ => rfl
theorem inV_inX {x : V} (ys : List Str) (f : flatV x = true) : inV x (ys.map V.str) = inX x ys := by
  induction ys with
  | nil => cases x <;> first | rfl | cases f
  | cons y ys ih =>
    have e : inV x ((y :: ys).map V.str) = (eqV (.str y) x || inV x (ys.map V.str)) := rfl
    rw [e, ih]
    cases x with
    | str z =>
      show (eqV (.str y) (.str z) || decide (z ∈ ys)) = decide (z ∈ y :: ys)
      by_cases h : z = y
      · subst h; simp [eqV]
      · have h' : ¬ y = z := fun q => h q.symm
        simp [eqV, h, h']
    | non => rfl
    | bl b => rfl
    | int i => rfl
    | _ => cases f
def uInX (K : PySem.W.Frag) (neg : Bool) : R2 := fun x y H Q => ∃ a ys, y = .ref a ∧ Tup H a (ys.map V.str) ∧ AnyV H x ∧ Q (.bl (if neg then !inX x ys else inX x ys)) H
section
variable {X : Cx}
theorem strs_vals : ∀ {ys : List Str} {its : List Value}, Vals (ys.map V.str) its → ∀ w ∈ its, ∃ z t, w = Value.str z t
  | [], _, .nil, w, h => (List.not_mem_nil h).elim
  | y :: ys, _, .cons r q, w, h => by
    rcases List.mem_cons.mp h with rfl | h
    · obtain ⟨t, e⟩ := r
      exact ⟨y, t, e⟩
    · exact strs_vals q w h
/-- each item differs from what is asked -/
theorem any_differs (hu : X.A.units + 65 < cLine) {pins : List (Addr × Obj)} {σ : L2.St} {H : Hp} {s : Shared} (I : L2.Inv X pins σ H s) {x : V} {v : Value} (rx : L2.RelV x v) (h : ¬ flatV x = true) (hx : AnyV H x) : inX x = (fun _ => false) ∧ ∀ (z : Str) (t : Tok), SeqAt.EqAt X.A.in1 s (Value.str z t) v false := by
  have hu1 : X.A.in1.units < cLine := by show X.A.units + 1 < cLine; omega
  rcases hx with f | ⟨l, xs, rfl, e⟩ | ⟨l, xs, rfl, e⟩ | ⟨l, kvs, rfl, e⟩
  · exact absurd f h
  · cases rx
    obtain ⟨its, _, pl, _⟩ := I.list (lst_sq (K := X.K) e)
    exact ⟨rfl, fun z t => SeqAt.EqAt.str_list z t pl.isList hu1⟩
  · cases rx
    obtain ⟨its, _, pl, _⟩ := I.tuple (e.sq (K := X.K))
    exact ⟨rfl, fun z t => SeqAt.EqAt.str_tuple z t pl hu1⟩
  · cases rx
    obtain ⟨z, hsy, ws, kv, o, es, ep, ho, ex, hdat, _⟩ := I.hok l _ e
    obtain ⟨cls, dd, data, sl⟩ := o
    have e1 : cls = .type "dict" := ex.1
    subst e1
    have e2 : data = .dict es _ := hdat
    subst e2
    exact ⟨rfl, fun z t => eq_str_dict z t ho hu1⟩
theorem op_uInX (hu : X.A.units + 65 < cLine) : OpR X (compareOp .In) (uInX X.K false) := by
  intro pins s σ H x y v u Q I rx ry ⟨a, ys, e, ht, hx, q⟩
  by_cases f : flatV x = true
  · exact op_uIn pins s σ H x y v u Q I rx ry (.inl ⟨a, _, e, .inr ht.sq, f, flat_strsX ys, by rw [if_neg (by decide), inV_inX ys f]; exact q⟩)
  · subst e
    cases ry
    obtain ⟨d1, d2⟩ := any_differs hu I rx f hx
    obtain ⟨its, rv, pl, _⟩ := I.tuple (ht.sq (K := X.K))
    refine SeqAt.in_tupleAt (fun _ => false) pl (fun w hw => ?_) ⟨.bl (its.toArray.any fun _ => false), H, I, rfl, ?_⟩
    · obtain ⟨z, t, rfl⟩ := strs_vals rv w (by simpa using hw)
      exact d2 z t
    · rw [d1] at q
      have : (its.toArray.any fun _ => false) = false := by simp
      rw [this]
      exact q
theorem op_uNotInX (hu : X.A.units + 65 < cLine) : OpR X (compareOp .NotIn) (uInX X.K true) := by
  intro pins s σ H x y v u Q I rx ry ⟨a, ys, e, ht, hx, q⟩
  by_cases f : flatV x = true
  · exact op_uNotIn pins s σ H x y v u Q I rx ry (.inl ⟨a, _, e, .inr ht.sq, f, flat_strsX ys, by rw [if_pos rfl, inV_inX ys f]; exact q⟩)
  · subst e
    cases ry
    obtain ⟨d1, d2⟩ := any_differs hu I rx f hx
    obtain ⟨its, rv, pl, _⟩ := I.tuple (ht.sq (K := X.K))
    refine SeqAt.notIn_tupleAt (fun _ => false) pl (fun w hw => ?_) ⟨.bl (!its.toArray.any fun _ => false), H, I, rfl, ?_⟩
    · obtain ⟨z, t, rfl⟩ := strs_vals rv w (by simpa using hw)
      exact d2 z t
    · rw [d1] at q
      have : (its.toArray.any fun _ => false) = false := by simp
      rw [this]
      exact q
/-- a list of anything held against the empty list -/
def uEqE : R2 := fun x y H Q => ∃ a b xs, x = .ref a ∧ y = .ref b ∧ H a = some (.lst xs) ∧ H b = some (.lst []) ∧ Q (.bl xs.isEmpty) H
theorem op_uEqE (hu : X.A.units + 65 < cLine) : OpR X (compareOp .Eq) uEqE := by
  intro pins s σ H x y v u Q I rx ry ⟨a, b, xs, e1, e2, ha, hb, q⟩
  subst e1 e2
  cases rx
  cases ry
  obtain ⟨its, rv, pl, _⟩ := I.list (lst_sq (K := X.K) ha)
  obtain ⟨its2, rv2, pl2, _⟩ := I.list (lst_sq (K := X.K) hb)
  cases rv2
  cases rv with
  | nil => exact SeqAt.eq_listAt (e := fun _ => true) pl.isList pl2.isList rfl (by omega) (fun j h1 h2 => absurd h1 (by simp)) ⟨.bl true, H, I, rfl, q⟩
  | cons r rs => exact SeqAt.eq_list_lengthsAt pl.isList pl2.isList (by simp) (by omega) ⟨.bl false, H, I, rfl, q⟩
end
theorem g_inX {K : PySem.W.Frag} {H : Hp} {x : V} {a : Addr} {ys : List Str} {Q : VK} (h : Tup H a (ys.map V.str)) (hx : AnyV H x) (q : Q (.bl (inX x ys)) H) : uInX K false x (.ref a) H Q := ⟨a, ys, rfl, h, hx, q⟩
theorem g_ninX {K : PySem.W.Frag} {H : Hp} {x : V} {a : Addr} {ys : List Str} {Q : VK} (h : Tup H a (ys.map V.str)) (hx : AnyV H x) (q : Q (.bl (!inX x ys)) H) : uInX K true x (.ref a) H Q := ⟨a, ys, rfl, h, hx, q⟩
theorem g_eqE {H : Hp} {a b : Addr} {xs : List V} {Q : VK} (h : H a = some (.lst xs)) (e : H b = some (.lst [])) (q : Q (.bl xs.isEmpty) H) : uEqE (.ref a) (.ref b) H Q := ⟨a, b, xs, rfl, rfl, h, e, q⟩
end Wg

/-! Wagon, part 49: True and False counted as numbers: + and - a number, str. -/
namespace Wg
open PySem PySem.Spec PyProof.Rows L2
def numOfV : V → Option Int
  | .int i => some i
  | .bl b => some (if b then 1 else 0)
  | _ => none
/-- number or bool beside a number -/
def rN0 (f : Int → Int → Int) : R2 := fun x y H Q => ∃ i j, numOfV x = some i ∧ y = .int j ∧ Q (.int (f i j)) H
section
variable {X : Cx}
theorem op_addN : OpR X (binaryOp .Add) (rN0 fun i j => i + j) := by
  intro pins s σ H x y v u Q I rx ry ⟨i, j, hx, hy, q⟩
  subst hy
  cases x with
  | int k =>
    obtain rfl : k = i := Option.some.inj hx
    exact op_add pins s σ H _ _ v u Q I rx ry ⟨k, j, rfl, rfl, q⟩
  | bl b =>
    have hx' : (if b then 1 else 0 : Int) = i := Option.some.inj hx
    obtain ⟨t, rfl⟩ := ry
    cases rx
    exact IntBool.add_bool_int ⟨.int (i + j), H, Inv.tok I _, ⟨_, by rw [hx']⟩, q⟩
  | _ => cases hx
theorem op_subN : OpR X (binaryOp .Sub) (rN0 fun i j => i - j) := by
  intro pins s σ H x y v u Q I rx ry ⟨i, j, hx, hy, q⟩
  subst hy
  cases x with
  | int k =>
    obtain rfl : k = i := Option.some.inj hx
    exact op_sub pins s σ H _ _ v u Q I rx ry ⟨k, j, rfl, rfl, q⟩
  | bl b =>
    have hx' : (if b then 1 else 0 : Int) = i := Option.some.inj hx
    obtain ⟨t, rfl⟩ := ry
    cases rx
    exact IntBool.sub_bool_int ⟨.int (i - j), H, Inv.tok I _, ⟨_, by rw [hx']⟩, q⟩
  | _ => cases hx
end
def numS : V → Str
  | .int i => Str.ofString (toString i)
  | .bl b => if b then Str.ofString "True" else Str.ofString "False"
  | _ => ""
def uStrN : List V → Hp → VK → Prop := fun xs H Q => ∃ x i, xs = [x] ∧ numOfV x = some i ∧ i.natAbs.log2 < 1920 ∧ Q (.str (numS x)) H
theorem call_uStrN {X : Cx} : CallR X (.type "str") uStrN := by
  intro pins s σ H xs us Q I r ⟨x, i, e, hx, hz, q⟩
  subst e
  cases x with
  | int k =>
    obtain rfl : k = i := Option.some.inj hx
    exact call_uStr pins s σ H _ us Q I r ⟨k, rfl, hz, q⟩
  | bl b =>
    obtain ⟨u, rfl, ru⟩ := vals1 r
    cases ru
    exact P.str_of_bool ⟨.str (numS (.bl b)), H, Inv.tok I _, ⟨_, rfl⟩, q⟩
  | _ => cases hx
end Wg

namespace Wg
open PySem PySem.Spec PyProof.Rows L2
def topS (i : Nat) : Stmt := PySem.Challenge.pw_wagoncalls_k06_towns_spoilt_anywhere.main.body.getD i (.Pass ⟨0, 0, 0, 0⟩)
/-! wagoncalls_k06_towns_spoilt_anywhere: the text and the derivations, written by gen.py -/
abbrev s_is_whole_ : Stmt := topS 4
abbrev N_is_whole : List Str := ["thing"]
theorem sc_is_whole : FnScope N_is_whole ["thing"] (defScope s_is_whole_) := ⟨rfl, rfl, rfl, by decide +kernel, rfl, by decide +kernel, by decide +kernel⟩
def t_is_whole (K : PySem.W.Frag) : TS :=
  tRet (tAndT K (tCB (rIsi K) (tCons (tVar 0) (tCons (tC (.ty "int")) (tNil)))) (tNotT K (tCB (rIsi K) (tCons (tVar 0) (tCons (tC (.ty "bool")) (tNil))))))
theorem dv_is_whole {P : Program} {w : World} {K : PySem.W.Frag} {mg : Str → Option Value} {b : Heap} {a : Addr} {d : FuncData} {sp : Sp} (F : Fn K mg "is_whole" s_is_whole_ a d ["thing"])
    (n_isinstance : mg "isinstance" = none)
    (n_int : mg "int" = none)
    (n_bool : mg "bool" = none)
    (len : ∀ vs H Q E, sp vs H Q E → vs.length = 1)
    (rd : ∀ vs H Q E, sp vs H Q E → run (t_is_whole K) (start N_is_whole vs) H Q) : Keeps P w K mg b CX0 2 a d ["thing"] sp := by
  refine keeps0 F.fn sc_is_whole len fun cdv A o s H vs Q E hr h => ⟨t_is_whole K, ?_, rd vs H Q E h⟩
  unfold t_is_whole 
  exact (pss_one (ps_ret (pe_andT (pe_callB call_isi (by rfl) n_isinstance (by decide +kernel) (pa_cons (pv 0) (pa_cons (pe_bltn (v := .ty "int") (by rfl) n_int (by decide +kernel) rfl) pa_nil))) (pe_one (pe_notT (pe_callB call_isi (by rfl) n_isinstance (by decide +kernel) (pa_cons (pv 0) (pa_cons (pe_bltn (v := .ty "bool") (by rfl) n_bool (by decide +kernel) rfl) pa_nil))))))))

abbrev s_is_within_ : Stmt := topS 5
abbrev N_is_within : List Str := ["thing", "least", "most"]
theorem sc_is_within : FnScope N_is_within ["thing", "least", "most"] (defScope s_is_within_) := ⟨rfl, rfl, rfl, by decide +kernel, rfl, by decide +kernel, by decide +kernel⟩
def t_is_within (K : PySem.W.Frag) (s_is_whole : Sp) : TS :=
  tRet (tAndT K (tGo s_is_whole E0 (tCons (tVar 0) (tNil))) (tChain (rI0 fun i j => .bl (decide (i ≤ j))) (rI0 fun i j => .bl (decide (i ≤ j))) (tVar 1) (tVar 0) (tVar 2)))
theorem dv_is_within {P : Program} {w : World} {K : PySem.W.Frag} {mg : Str → Option Value} {b : Heap} {a : Addr} {d : FuncData} {sp : Sp} (F : Fn K mg "is_within" s_is_within_ a d ["thing", "least", "most"])
    {a_is_whole : Addr} {d_is_whole : FuncData} {s_is_whole : Sp} (F_is_whole : Fn K mg "is_whole" s_is_whole_ a_is_whole d_is_whole ["thing"]) (k_is_whole : Keeps P w K mg b CX0 2 a_is_whole d_is_whole ["thing"] s_is_whole)
    (len : ∀ vs H Q E, sp vs H Q E → vs.length = 3)
    (rd : ∀ vs H Q E, sp vs H Q E → run (t_is_within K s_is_whole) (start N_is_within vs) H Q) : Keeps P w K mg b CX0 3 a d ["thing", "least", "most"] sp := by
  refine keeps0 F.fn sc_is_within len fun cdv A o s H vs Q E hr h => ⟨t_is_within K s_is_whole, ?_, rd vs H Q E h⟩
  unfold t_is_within 
  exact (pss_one (ps_ret (pe_andT (pe_go k_is_whole (hr.mono (by decide)) rfl F_is_whole.g F_is_whole.fn.kp F_is_whole.b pass0 (pa_cons (pv 0) pa_nil)) (pe_one (pe_chain op_le op_le (pv 1) (pv 0) (pv 2))))))

abbrev s_is_name_ : Stmt := topS 6
abbrev N_is_name : List Str := ["thing", "sign"]
theorem sc_is_name : FnScope N_is_name ["thing"] (defScope s_is_name_) := ⟨rfl, rfl, rfl, by decide +kernel, rfl, by decide +kernel, by decide +kernel⟩
def t_is_name_r1 (K : PySem.W.Frag) (P_is_name : Addr) : TS :=
  tRet (tAndT K (tOp (uIn K false) (tOp (uIx K) (tVar 0) (tC (.int 0))) (tC (.str "abcdefghijklmnopqrstuvwxyz"))) (tGen P_is_name (iU K (tVar 0)) (gName 1) (tYes) (tOp (uIn K false) (tVar 1) (tC (.str "abcdefghijklmnopqrstuvwxyz0123456789"))) [1] false))
def t_is_name (K : PySem.W.Frag) (P_is_name : Addr) : TS :=
  tSeq (tIfS (tOr (tNot (tTru K (tCB (rIsi K) (tCons (tVar 0) (tCons (tC (.ty "str")) (tNil)))))) (tNot (tTest (tChain (rI0 fun i j => .bl (decide (i ≤ j))) (rI0 fun i j => .bl (decide (i ≤ j))) (tC (.int 1)) (tCB (uLen K) (tCons (tVar 0) (tNil))) (tC (.int 8)))))) (tRet (tC (.bl false))) (tNext)) (t_is_name_r1 K P_is_name)
theorem dv_is_name {P : Program} {w : World} {K : PySem.W.Frag} {mg : Str → Option Value} {b : Heap} {a : Addr} {d : FuncData} {sp : Sp} (F : Fn K mg "is_name" s_is_name_ a d ["thing"])
    {tc_is_name P_is_name : Addr} (hcd : d.code = .ref tc_is_name) (TB : GxR.TabB b mg tc_is_name P_is_name)
    (n_isinstance : mg "isinstance" = none)
    (n_str : mg "str" = none)
    (n_len : mg "len" = none)
    {k_LONGEST_NAME : Tok} (c_LONGEST_NAME : mg "LONGEST_NAME" = some (.int 8 k_LONGEST_NAME))
    {k_LETTERS : Tok} (c_LETTERS : mg "LETTERS" = some (.str "abcdefghijklmnopqrstuvwxyz" k_LETTERS))
    (n_all : mg "all" = none)
    {k_NAME_SIGNS : Tok} (c_NAME_SIGNS : mg "NAME_SIGNS" = some (.str "abcdefghijklmnopqrstuvwxyz0123456789" k_NAME_SIGNS))
    (len : ∀ vs H Q E, sp vs H Q E → vs.length = 1)
    (rd : ∀ vs H Q E, sp vs H Q E → run (t_is_name K P_is_name) (start N_is_name vs) H Q) : Keeps P w K mg b CX0 3 a d ["thing"] sp := by
  refine keepsT F.fn hcd sc_is_name len fun A o s H vs Q E hr h => ⟨t_is_name K P_is_name, ?_, rd vs H Q E h⟩
  unfold t_is_name t_is_name_r1
  exact (pss_cons (ps_if (PW.pt (pw_or (pt_not (pt_tru (pe_callB call_isi (by rfl) n_isinstance (by decide +kernel) (pa_cons (pv 0) (pa_cons (pe_bltn (v := .ty "str") (by rfl) n_str (by decide +kernel) rfl) pa_nil))))) (pw_or1 (pt_not (pt_chain op_le op_le pe_int (pe_callB call_uLen (by rfl) n_len (by decide +kernel) (pa_cons (pv 0) pa_nil)) (pe_glob rfl c_LONGEST_NAME ⟨_, rfl⟩)))))) (pss_one (ps_ret pe_bl)) pss_nil)
  (pss_one (ps_ret (pe_andT (pe_cmpR op_uIn (pe_ix ix_u (pv 0) pe_int (fun _ _ => rfl)) (pe_glob rfl c_LETTERS ⟨_, rfl⟩) rfl) (pe_one (pe_allG (own := [("sign", 1)]) hr TB (by rfl) rfl sc_is_name.nd ⟨blkOk_by (own := [("sign", 1)]) (N := N_is_name) (sc := defScope s_is_name_) (by decide +kernel), by decide +kernel, by rfl, by rfl⟩ (by rfl) n_all (pi_u (pv 0)) (fun _ _ _ _ _ _ hr => (pg_name (i := 1) sc_is_name.nd rfl (.inl rfl))) (fun _ _ _ _ _ _ _ => pts_nil) (fun _ _ _ _ _ _ hr => (pe_cmpR op_uIn (pv 1) (pe_glob rfl c_NAME_SIGNS ⟨_, rfl⟩) rfl))))))))

abbrev s__are_unlike_ : Stmt := topS 19
abbrev N__are_unlike : List Str := ["names"]
theorem sc__are_unlike : FnScope N__are_unlike ["names"] (defScope s__are_unlike_) := ⟨rfl, rfl, rfl, by decide +kernel, rfl, by decide +kernel, by decide +kernel⟩
def t__are_unlike (K : PySem.W.Frag) : TS :=
  tRet (tOp (uEq K false) (tLenTextsT K (tVar 0)) (tCB (uLen K) (tCons (tVar 0) (tNil))))
theorem dv__are_unlike {P : Program} {w : World} {K : PySem.W.Frag} {mg : Str → Option Value} {b : Heap} {a : Addr} {d : FuncData} {sp : Sp} (F : Fn K mg "_are_unlike" s__are_unlike_ a d ["names"])
    (n_len : mg "len" = none)
    (n_set : mg "set" = none)
    (len : ∀ vs H Q E, sp vs H Q E → vs.length = 1)
    (rd : ∀ vs H Q E, sp vs H Q E → run (t__are_unlike K) (start N__are_unlike vs) H Q) : Keeps P w K mg b CX0 2 a d ["names"] sp := by
  refine keeps0 F.fn sc__are_unlike len fun cdv A o s H vs Q E hr h => ⟨t__are_unlike K, ?_, rd vs H Q E h⟩
  unfold t__are_unlike 
  exact (pss_one (ps_ret (pe_cmpR (op_uEq hr.rm.units) (pe_lenTextsT rfl (by rfl) n_len (by rfl) n_set (pv 0)) (pe_callB call_uLen (by rfl) n_len (by decide +kernel) (pa_cons (pv 0) pa_nil)) (nomark _))))

abbrev s__are_places_ : Stmt := topS 16
abbrev N__are_places : List Str := ["thing", "place"]
theorem sc__are_places : FnScope N__are_places ["thing"] (defScope s__are_places_) := ⟨rfl, rfl, rfl, by decide +kernel, rfl, by decide +kernel, by decide +kernel⟩
def t__are_places_r1 (K : PySem.W.Frag) (s_is_name : Sp) (s__are_unlike : Sp) (P__are_places : Addr) : TS :=
  tRet (tAndT K (tGen P__are_places (iU K (tVar 0)) (gName 1) (tYes) (tGo s_is_name E0 (tCons (tVar 1) (tNil))) [1] false) (tGo s__are_unlike E0 (tCons (tVar 0) (tNil))))
def t__are_places (K : PySem.W.Frag) (s_is_name : Sp) (s__are_unlike : Sp) (P__are_places : Addr) : TS :=
  tSeq (tIfS (tOr (tNot (tTru K (tCB (rIsi K) (tCons (tVar 0) (tCons (tC (.ty "tuple")) (tNil)))))) (tNot (tTest (tChain (rI0 fun i j => .bl (decide (i ≤ j))) (rI0 fun i j => .bl (decide (i ≤ j))) (tC (.int 1)) (tCB (uLen K) (tCons (tVar 0) (tNil))) (tC (.int 10)))))) (tRet (tC (.bl false))) (tNext)) (t__are_places_r1 K s_is_name s__are_unlike P__are_places)
theorem dv__are_places {P : Program} {w : World} {K : PySem.W.Frag} {mg : Str → Option Value} {b : Heap} {a : Addr} {d : FuncData} {sp : Sp} (F : Fn K mg "_are_places" s__are_places_ a d ["thing"])
    {tc__are_places P__are_places : Addr} (hcd : d.code = .ref tc__are_places) (TB : GxR.TabB b mg tc__are_places P__are_places)
    (n_isinstance : mg "isinstance" = none)
    (n_tuple : mg "tuple" = none)
    (n_len : mg "len" = none)
    {k_MOST_PLACES : Tok} (c_MOST_PLACES : mg "MOST_PLACES" = some (.int 10 k_MOST_PLACES))
    (n_all : mg "all" = none)
    {a_is_name : Addr} {d_is_name : FuncData} {s_is_name : Sp} (F_is_name : Fn K mg "is_name" s_is_name_ a_is_name d_is_name ["thing"]) (k_is_name : Keeps P w K mg b CX0 3 a_is_name d_is_name ["thing"] s_is_name)
    {a__are_unlike : Addr} {d__are_unlike : FuncData} {s__are_unlike : Sp} (F__are_unlike : Fn K mg "_are_unlike" s__are_unlike_ a__are_unlike d__are_unlike ["names"]) (k__are_unlike : Keeps P w K mg b CX0 2 a__are_unlike d__are_unlike ["names"] s__are_unlike)
    (len : ∀ vs H Q E, sp vs H Q E → vs.length = 1)
    (rd : ∀ vs H Q E, sp vs H Q E → run (t__are_places K s_is_name s__are_unlike P__are_places) (start N__are_places vs) H Q) : Keeps P w K mg b CX0 5 a d ["thing"] sp := by
  refine keepsT F.fn hcd sc__are_places len fun A o s H vs Q E hr h => ⟨t__are_places K s_is_name s__are_unlike P__are_places, ?_, rd vs H Q E h⟩
  unfold t__are_places t__are_places_r1
  exact (pss_cons (ps_if (PW.pt (pw_or (pt_not (pt_tru (pe_callB call_isi (by rfl) n_isinstance (by decide +kernel) (pa_cons (pv 0) (pa_cons (pe_bltn (v := .ty "tuple") (by rfl) n_tuple (by decide +kernel) rfl) pa_nil))))) (pw_or1 (pt_not (pt_chain op_le op_le pe_int (pe_callB call_uLen (by rfl) n_len (by decide +kernel) (pa_cons (pv 0) pa_nil)) (pe_glob rfl c_MOST_PLACES ⟨_, rfl⟩)))))) (pss_one (ps_ret pe_bl)) pss_nil)
  (pss_one (ps_ret (pe_andT (pe_allG (own := [("place", 1)]) hr TB (by rfl) rfl sc__are_places.nd ⟨blkOk_by (own := [("place", 1)]) (N := N__are_places) (sc := defScope s__are_places_) (by decide +kernel), by decide +kernel, by rfl, by rfl⟩ (by rfl) n_all (pi_u (pv 0)) (fun _ _ _ _ _ _ hr => (pg_name (i := 1) sc__are_places.nd rfl (.inl rfl))) (fun _ _ _ _ _ _ _ => pts_nil) (fun _ _ _ _ _ _ hr => (pe_go k_is_name (hr.mono (by decide)) rfl F_is_name.g F_is_name.fn.kp F_is_name.b pass0 (pa_cons (pv 1) pa_nil)))) (pe_one (pe_go k__are_unlike (hr.mono (by decide)) rfl F__are_unlike.g F__are_unlike.fn.kp F__are_unlike.b pass0 (pa_cons (pv 0) pa_nil)))))))

abbrev s__is_drive_ : Stmt := topS 15
abbrev N__is_drive : List Str := ["thing"]
theorem sc__is_drive : FnScope N__is_drive ["thing"] (defScope s__is_drive_) := ⟨rfl, rfl, rfl, by decide +kernel, rfl, by decide +kernel, by decide +kernel⟩
def t__is_drive (K : PySem.W.Frag) (s_is_within : Sp) : TS :=
  tRet (tOrT K (tOp rIsN (tVar 0) (tC .non)) (tGo s_is_within E0 (tCons (tVar 0) (tCons (tC (.int 1)) (tCons (tC (.int 60)) (tNil))))))
theorem dv__is_drive {P : Program} {w : World} {K : PySem.W.Frag} {mg : Str → Option Value} {b : Heap} {a : Addr} {d : FuncData} {sp : Sp} (F : Fn K mg "_is_drive" s__is_drive_ a d ["thing"])
    {a_is_within : Addr} {d_is_within : FuncData} {s_is_within : Sp} (F_is_within : Fn K mg "is_within" s_is_within_ a_is_within d_is_within ["thing", "least", "most"]) (k_is_within : Keeps P w K mg b CX0 3 a_is_within d_is_within ["thing", "least", "most"] s_is_within)
    {k_MOST_MINUTES : Tok} (c_MOST_MINUTES : mg "MOST_MINUTES" = some (.int 60 k_MOST_MINUTES))
    (len : ∀ vs H Q E, sp vs H Q E → vs.length = 1)
    (rd : ∀ vs H Q E, sp vs H Q E → run (t__is_drive K s_is_within) (start N__is_drive vs) H Q) : Keeps P w K mg b CX0 4 a d ["thing"] sp := by
  refine keeps0 F.fn sc__is_drive len fun cdv A o s H vs Q E hr h => ⟨t__is_drive K s_is_within, ?_, rd vs H Q E h⟩
  unfold t__is_drive 
  exact (pss_one (ps_ret (pe_orT (pe_cmpR op_isN (pv 0) pe_non (nomark _)) (pe_one (pe_go k_is_within (hr.mono (by decide)) rfl F_is_within.g F_is_within.fn.kp F_is_within.b pass0 (pa_cons (pv 0) (pa_cons pe_int (pa_cons (pe_glob rfl c_MOST_MINUTES ⟨_, rfl⟩) pa_nil))))))))

abbrev s_is_road_ : Stmt := topS 14
abbrev N_is_road : List Str := ["places", "thing", "one", "other", "there", "back"]
theorem sc_is_road : FnScope N_is_road ["places", "thing"] (defScope s_is_road_) := ⟨rfl, rfl, rfl, by decide +kernel, rfl, by decide +kernel, by decide +kernel⟩
def t_is_road_r1 (K : PySem.W.Frag) (s__is_drive : Sp) : TS :=
  tRet (tAndT K (tGo s__is_drive E0 (tCons (tVar 4) (tNil))) (tGo s__is_drive E0 (tCons (tVar 5) (tNil))))
def t_is_road_r2 (K : PySem.W.Frag) (s__is_drive : Sp) : TS :=
  tSeq (tIfS (tAnd (tTest (tOp rIsN (tVar 4) (tC .non))) (tTest (tOp rIsN (tVar 5) (tC .non)))) (tRet (tC (.bl false))) (tNext)) (t_is_road_r1 K s__is_drive)
def t_is_road_r3 (K : PySem.W.Frag) (s__is_drive : Sp) : TS :=
  tSeq (tAsg (tVar 1) (gTup K 4 (gCons (gName 2) (gCons (gName 3) (gCons (gName 4) (gCons (gName 5) (gNil))))))) (tSeq (tIfS (tOr (tTest (tOp (uInX K true) (tVar 2) (tVar 0))) (tOr (tTest (tOp (uInX K true) (tVar 3) (tVar 0))) (tTest (tOp (uEq K false) (tVar 2) (tVar 3))))) (tRet (tC (.bl false))) (tNext)) (t_is_road_r2 K s__is_drive))
def t_is_road (K : PySem.W.Frag) (s__is_drive : Sp) : TS :=
  tSeq (tIfS (tOr (tNot (tTru K (tCB (rIsi K) (tCons (tVar 1) (tCons (tC (.ty "tuple")) (tNil)))))) (tTest (tOp (uEq K true) (tCB (uLen K) (tCons (tVar 1) (tNil))) (tC (.int 4))))) (tRet (tC (.bl false))) (tNext)) (t_is_road_r3 K s__is_drive)
theorem dv_is_road {P : Program} {w : World} {K : PySem.W.Frag} {mg : Str → Option Value} {b : Heap} {a : Addr} {d : FuncData} {sp : Sp} (F : Fn K mg "is_road" s_is_road_ a d ["places", "thing"])
    (n_isinstance : mg "isinstance" = none)
    (n_tuple : mg "tuple" = none)
    (n_len : mg "len" = none)
    {a__is_drive : Addr} {d__is_drive : FuncData} {s__is_drive : Sp} (F__is_drive : Fn K mg "_is_drive" s__is_drive_ a__is_drive d__is_drive ["thing"]) (k__is_drive : Keeps P w K mg b CX0 4 a__is_drive d__is_drive ["thing"] s__is_drive)
    (len : ∀ vs H Q E, sp vs H Q E → vs.length = 2)
    (rd : ∀ vs H Q E, sp vs H Q E → run (t_is_road K s__is_drive) (start N_is_road vs) H Q) : Keeps P w K mg b CX0 5 a d ["places", "thing"] sp := by
  refine keeps0 F.fn sc_is_road len fun cdv A o s H vs Q E hr h => ⟨t_is_road K s__is_drive, ?_, rd vs H Q E h⟩
  unfold t_is_road t_is_road_r3 t_is_road_r2 t_is_road_r1
  exact (pss_cons (ps_if (PW.pt (pw_or (pt_not (pt_tru (pe_callB call_isi (by rfl) n_isinstance (by decide +kernel) (pa_cons (pv 1) (pa_cons (pe_bltn (v := .ty "tuple") (by rfl) n_tuple (by decide +kernel) rfl) pa_nil))))) (pw_or1 (pt_cmpR (op_uNe hr.rm.units) (pe_callB call_uLen (by rfl) n_len (by decide +kernel) (pa_cons (pv 1) pa_nil)) pe_int (nomark _))))) (pss_one (ps_ret pe_bl)) pss_nil)
  (pss_cons (ps_asg (pv 1) (pg_tup rfl (pgs_cons (pg_name (i := 2) sc_is_road.nd rfl (.inl rfl)) (pgs_cons (pg_name (i := 3) sc_is_road.nd rfl (.inl rfl)) (pgs_cons (pg_name (i := 4) sc_is_road.nd rfl (.inl rfl)) (pgs_cons (pg_name (i := 5) sc_is_road.nd rfl (.inl rfl)) pgs_nil))))))
  (pss_cons (ps_if (PW.pt (pw_or (pt_cmpR (op_uNotInX (un65 hr)) (pv 2) (pv 0) rfl) (pw_or (pt_cmpR (op_uNotInX (un65 hr)) (pv 3) (pv 0) rfl) (pw_or1 (pt_cmpR (op_uEq hr.rm.units) (pv 2) (pv 3) (nomark _)))))) (pss_one (ps_ret pe_bl)) pss_nil)
  (pss_cons (ps_if (PW.pt (pw_and (pt_cmpR op_isN (pv 4) pe_non (nomark _)) (pw_and1 (pt_cmpR op_isN (pv 5) pe_non (nomark _))))) (pss_one (ps_ret pe_bl)) pss_nil)
  (pss_one (ps_ret (pe_andT (pe_go k__is_drive (hr.mono (by decide)) rfl F__is_drive.g F__is_drive.fn.kp F__is_drive.b pass0 (pa_cons (pv 4) pa_nil)) (pe_one (pe_go k__is_drive (hr.mono (by decide)) rfl F__is_drive.g F__is_drive.fn.kp F__is_drive.b pass0 (pa_cons (pv 5) pa_nil))))))))))

abbrev s__are_roads_ : Stmt := topS 17
abbrev N__are_roads : List Str := ["places", "thing", "road"]
theorem sc__are_roads : FnScope N__are_roads ["places", "thing"] (defScope s__are_roads_) := ⟨rfl, rfl, rfl, by decide +kernel, rfl, by decide +kernel, by decide +kernel⟩
def t__are_roads_r1 (K : PySem.W.Frag) (s_is_road : Sp) (P__are_roads : Addr) : TS :=
  tRet (tGen P__are_roads (iU K (tVar 1)) (gName 2) (tYes) (tGo s_is_road E0 (tCons (tVar 0) (tCons (tVar 2) (tNil)))) [2] false)
def t__are_roads (K : PySem.W.Frag) (s_is_road : Sp) (P__are_roads : Addr) : TS :=
  tSeq (tIfS (tOr (tNot (tTru K (tCB (rIsi K) (tCons (tVar 1) (tCons (tC (.ty "tuple")) (tNil)))))) (tTest (tOp (rI0 fun i j => .bl (decide (j < i))) (tCB (uLen K) (tCons (tVar 1) (tNil))) (tC (.int 18))))) (tRet (tC (.bl false))) (tNext)) (t__are_roads_r1 K s_is_road P__are_roads)
theorem dv__are_roads {P : Program} {w : World} {K : PySem.W.Frag} {mg : Str → Option Value} {b : Heap} {a : Addr} {d : FuncData} {sp : Sp} (F : Fn K mg "_are_roads" s__are_roads_ a d ["places", "thing"])
    {tc__are_roads P__are_roads : Addr} (hcd : d.code = .ref tc__are_roads) (TB : GxR.TabB b mg tc__are_roads P__are_roads)
    (n_isinstance : mg "isinstance" = none)
    (n_tuple : mg "tuple" = none)
    (n_len : mg "len" = none)
    {k_MOST_ROADS : Tok} (c_MOST_ROADS : mg "MOST_ROADS" = some (.int 18 k_MOST_ROADS))
    (n_all : mg "all" = none)
    {a_is_road : Addr} {d_is_road : FuncData} {s_is_road : Sp} (F_is_road : Fn K mg "is_road" s_is_road_ a_is_road d_is_road ["places", "thing"]) (k_is_road : Keeps P w K mg b CX0 5 a_is_road d_is_road ["places", "thing"] s_is_road)
    (len : ∀ vs H Q E, sp vs H Q E → vs.length = 2)
    (rd : ∀ vs H Q E, sp vs H Q E → run (t__are_roads K s_is_road P__are_roads) (start N__are_roads vs) H Q) : Keeps P w K mg b CX0 7 a d ["places", "thing"] sp := by
  refine keepsT F.fn hcd sc__are_roads len fun A o s H vs Q E hr h => ⟨t__are_roads K s_is_road P__are_roads, ?_, rd vs H Q E h⟩
  unfold t__are_roads t__are_roads_r1
  exact (pss_cons (ps_if (PW.pt (pw_or (pt_not (pt_tru (pe_callB call_isi (by rfl) n_isinstance (by decide +kernel) (pa_cons (pv 1) (pa_cons (pe_bltn (v := .ty "tuple") (by rfl) n_tuple (by decide +kernel) rfl) pa_nil))))) (pw_or1 (pt_cmpR op_gt (pe_callB call_uLen (by rfl) n_len (by decide +kernel) (pa_cons (pv 1) pa_nil)) (pe_glob rfl c_MOST_ROADS ⟨_, rfl⟩) (nomark _))))) (pss_one (ps_ret pe_bl)) pss_nil)
  (pss_one (ps_ret (pe_allG (own := [("road", 2)]) hr TB (by rfl) rfl sc__are_roads.nd ⟨blkOk_by (own := [("road", 2)]) (N := N__are_roads) (sc := defScope s__are_roads_) (by decide +kernel), by decide +kernel, by rfl, by rfl⟩ (by rfl) n_all (pi_u (pv 1)) (fun _ _ _ _ _ _ hr => (pg_name (i := 2) sc__are_roads.nd rfl (.inl rfl))) (fun _ _ _ _ _ _ _ => pts_nil) (fun _ _ _ _ _ _ hr => (pe_go k_is_road (hr.mono (by decide)) rfl F_is_road.g F_is_road.fn.kp F_is_road.b pass0 (pa_cons (pv 0) (pa_cons (pv 2) pa_nil))))))))

abbrev s__are_stands_ : Stmt := topS 18
abbrev N__are_stands : List Str := ["places", "thing", "stand"]
theorem sc__are_stands : FnScope N__are_stands ["places", "thing"] (defScope s__are_stands_) := ⟨rfl, rfl, rfl, by decide +kernel, rfl, by decide +kernel, by decide +kernel⟩
def t__are_stands_r1 (K : PySem.W.Frag) (s__are_unlike : Sp) (P__are_stands : Addr) : TS :=
  tRet (tAndT K (tGen P__are_stands (iU K (tVar 1)) (gName 2) (tYes) (tOp (uInX K false) (tVar 2) (tVar 0)) [2] false) (tGo s__are_unlike E0 (tCons (tVar 1) (tNil))))
def t__are_stands (K : PySem.W.Frag) (s__are_unlike : Sp) (P__are_stands : Addr) : TS :=
  tSeq (tIfS (tOr (tNot (tTru K (tCB (rIsi K) (tCons (tVar 1) (tCons (tC (.ty "tuple")) (tNil)))))) (tNot (tTest (tChain (rI0 fun i j => .bl (decide (i ≤ j))) (rI0 fun i j => .bl (decide (i ≤ j))) (tC (.int 1)) (tCB (uLen K) (tCons (tVar 1) (tNil))) (tC (.int 5)))))) (tRet (tC (.bl false))) (tNext)) (t__are_stands_r1 K s__are_unlike P__are_stands)
theorem dv__are_stands {P : Program} {w : World} {K : PySem.W.Frag} {mg : Str → Option Value} {b : Heap} {a : Addr} {d : FuncData} {sp : Sp} (F : Fn K mg "_are_stands" s__are_stands_ a d ["places", "thing"])
    {tc__are_stands P__are_stands : Addr} (hcd : d.code = .ref tc__are_stands) (TB : GxR.TabB b mg tc__are_stands P__are_stands)
    (n_isinstance : mg "isinstance" = none)
    (n_tuple : mg "tuple" = none)
    (n_len : mg "len" = none)
    {k_MOST_STANDS : Tok} (c_MOST_STANDS : mg "MOST_STANDS" = some (.int 5 k_MOST_STANDS))
    (n_all : mg "all" = none)
    {a__are_unlike : Addr} {d__are_unlike : FuncData} {s__are_unlike : Sp} (F__are_unlike : Fn K mg "_are_unlike" s__are_unlike_ a__are_unlike d__are_unlike ["names"]) (k__are_unlike : Keeps P w K mg b CX0 2 a__are_unlike d__are_unlike ["names"] s__are_unlike)
    (len : ∀ vs H Q E, sp vs H Q E → vs.length = 2)
    (rd : ∀ vs H Q E, sp vs H Q E → run (t__are_stands K s__are_unlike P__are_stands) (start N__are_stands vs) H Q) : Keeps P w K mg b CX0 4 a d ["places", "thing"] sp := by
  refine keepsT F.fn hcd sc__are_stands len fun A o s H vs Q E hr h => ⟨t__are_stands K s__are_unlike P__are_stands, ?_, rd vs H Q E h⟩
  unfold t__are_stands t__are_stands_r1
  exact (pss_cons (ps_if (PW.pt (pw_or (pt_not (pt_tru (pe_callB call_isi (by rfl) n_isinstance (by decide +kernel) (pa_cons (pv 1) (pa_cons (pe_bltn (v := .ty "tuple") (by rfl) n_tuple (by decide +kernel) rfl) pa_nil))))) (pw_or1 (pt_not (pt_chain op_le op_le pe_int (pe_callB call_uLen (by rfl) n_len (by decide +kernel) (pa_cons (pv 1) pa_nil)) (pe_glob rfl c_MOST_STANDS ⟨_, rfl⟩)))))) (pss_one (ps_ret pe_bl)) pss_nil)
  (pss_one (ps_ret (pe_andT (pe_allG (own := [("stand", 2)]) hr TB (by rfl) rfl sc__are_stands.nd ⟨blkOk_by (own := [("stand", 2)]) (N := N__are_stands) (sc := defScope s__are_stands_) (by decide +kernel), by decide +kernel, by rfl, by rfl⟩ (by rfl) n_all (pi_u (pv 1)) (fun _ _ _ _ _ _ hr => (pg_name (i := 2) sc__are_stands.nd rfl (.inl rfl))) (fun _ _ _ _ _ _ _ => pts_nil) (fun _ _ _ _ _ _ hr => (pe_cmpR (op_uInX (un65 hr)) (pv 2) (pv 0) rfl))) (pe_one (pe_go k__are_unlike (hr.mono (by decide)) rfl F__are_unlike.g F__are_unlike.fn.kp F__are_unlike.b pass0 (pa_cons (pv 1) pa_nil)))))))

abbrev s_is_town_ : Stmt := topS 13
abbrev N_is_town : List Str := ["thing", "places", "roads", "stands", "reach"]
theorem sc_is_town : FnScope N_is_town ["thing"] (defScope s_is_town_) := ⟨rfl, rfl, rfl, by decide +kernel, rfl, by decide +kernel, by decide +kernel⟩
def t_is_town_r1 (K : PySem.W.Frag) (s__are_places : Sp) (s__are_roads : Sp) (s__are_stands : Sp) (s_is_within : Sp) : TS :=
  tSeq (tAsg (tVar 0) (gTup K 4 (gCons (gName 1) (gCons (gName 2) (gCons (gName 3) (gCons (gName 4) (gNil))))))) (tRet (tAndT K (tGo s__are_places E0 (tCons (tVar 1) (tNil))) (tAndT K (tGo s__are_roads E0 (tCons (tVar 1) (tCons (tVar 2) (tNil)))) (tAndT K (tGo s__are_stands E0 (tCons (tVar 1) (tCons (tVar 3) (tNil)))) (tGo s_is_within E0 (tCons (tVar 4) (tCons (tC (.int 0)) (tCons (tC (.int 120)) (tNil)))))))))
def t_is_town (K : PySem.W.Frag) (s__are_places : Sp) (s__are_roads : Sp) (s__are_stands : Sp) (s_is_within : Sp) : TS :=
  tSeq (tIfS (tOr (tNot (tTru K (tCB (rIsi K) (tCons (tVar 0) (tCons (tC (.ty "tuple")) (tNil)))))) (tTest (tOp (uEq K true) (tCB (uLen K) (tCons (tVar 0) (tNil))) (tC (.int 4))))) (tRet (tC (.bl false))) (tNext)) (t_is_town_r1 K s__are_places s__are_roads s__are_stands s_is_within)
theorem dv_is_town {P : Program} {w : World} {K : PySem.W.Frag} {mg : Str → Option Value} {b : Heap} {a : Addr} {d : FuncData} {sp : Sp} (F : Fn K mg "is_town" s_is_town_ a d ["thing"])
    (n_isinstance : mg "isinstance" = none)
    (n_tuple : mg "tuple" = none)
    (n_len : mg "len" = none)
    {a__are_places : Addr} {d__are_places : FuncData} {s__are_places : Sp} (F__are_places : Fn K mg "_are_places" s__are_places_ a__are_places d__are_places ["thing"]) (k__are_places : Keeps P w K mg b CX0 5 a__are_places d__are_places ["thing"] s__are_places)
    {a__are_roads : Addr} {d__are_roads : FuncData} {s__are_roads : Sp} (F__are_roads : Fn K mg "_are_roads" s__are_roads_ a__are_roads d__are_roads ["places", "thing"]) (k__are_roads : Keeps P w K mg b CX0 7 a__are_roads d__are_roads ["places", "thing"] s__are_roads)
    {a__are_stands : Addr} {d__are_stands : FuncData} {s__are_stands : Sp} (F__are_stands : Fn K mg "_are_stands" s__are_stands_ a__are_stands d__are_stands ["places", "thing"]) (k__are_stands : Keeps P w K mg b CX0 4 a__are_stands d__are_stands ["places", "thing"] s__are_stands)
    {a_is_within : Addr} {d_is_within : FuncData} {s_is_within : Sp} (F_is_within : Fn K mg "is_within" s_is_within_ a_is_within d_is_within ["thing", "least", "most"]) (k_is_within : Keeps P w K mg b CX0 3 a_is_within d_is_within ["thing", "least", "most"] s_is_within)
    {k_MOST_REACH : Tok} (c_MOST_REACH : mg "MOST_REACH" = some (.int 120 k_MOST_REACH))
    (len : ∀ vs H Q E, sp vs H Q E → vs.length = 1)
    (rd : ∀ vs H Q E, sp vs H Q E → run (t_is_town K s__are_places s__are_roads s__are_stands s_is_within) (start N_is_town vs) H Q) : Keeps P w K mg b CX0 8 a d ["thing"] sp := by
  refine keeps0 F.fn sc_is_town len fun cdv A o s H vs Q E hr h => ⟨t_is_town K s__are_places s__are_roads s__are_stands s_is_within, ?_, rd vs H Q E h⟩
  unfold t_is_town t_is_town_r1
  exact (pss_cons (ps_if (PW.pt (pw_or (pt_not (pt_tru (pe_callB call_isi (by rfl) n_isinstance (by decide +kernel) (pa_cons (pv 0) (pa_cons (pe_bltn (v := .ty "tuple") (by rfl) n_tuple (by decide +kernel) rfl) pa_nil))))) (pw_or1 (pt_cmpR (op_uNe hr.rm.units) (pe_callB call_uLen (by rfl) n_len (by decide +kernel) (pa_cons (pv 0) pa_nil)) pe_int (nomark _))))) (pss_one (ps_ret pe_bl)) pss_nil)
  (pss_cons (ps_asg (pv 0) (pg_tup rfl (pgs_cons (pg_name (i := 1) sc_is_town.nd rfl (.inl rfl)) (pgs_cons (pg_name (i := 2) sc_is_town.nd rfl (.inl rfl)) (pgs_cons (pg_name (i := 3) sc_is_town.nd rfl (.inl rfl)) (pgs_cons (pg_name (i := 4) sc_is_town.nd rfl (.inl rfl)) pgs_nil))))))
  (pss_one (ps_ret (pe_andT (pe_go k__are_places (hr.mono (by decide)) rfl F__are_places.g F__are_places.fn.kp F__are_places.b pass0 (pa_cons (pv 1) pa_nil)) (pe_andT (pe_go k__are_roads (hr.mono (by decide)) rfl F__are_roads.g F__are_roads.fn.kp F__are_roads.b pass0 (pa_cons (pv 1) (pa_cons (pv 2) pa_nil))) (pe_andT (pe_go k__are_stands (hr.mono (by decide)) rfl F__are_stands.g F__are_stands.fn.kp F__are_stands.b pass0 (pa_cons (pv 1) (pa_cons (pv 3) pa_nil))) (pe_one (pe_go k_is_within (hr.mono (by decide)) rfl F_is_within.g F_is_within.fn.kp F_is_within.b pass0 (pa_cons (pv 4) (pa_cons pe_int (pa_cons (pe_glob rfl c_MOST_REACH ⟨_, rfl⟩) pa_nil))))))))))))

abbrev s__law_pen_ : Stmt := topS 21
abbrev N__law_pen : List Str := ["script", "k", "cell", "digits"]
theorem sc__law_pen : FnScope N__law_pen ["script", "k"] (defScope s__law_pen_) := ⟨rfl, rfl, rfl, by decide +kernel, rfl, by decide +kernel, by decide +kernel⟩
def t__law_pen_r1 (K : PySem.W.Frag) : TS :=
  tRet (tLstU (tCons (tVar 3) (tCons (tOp (rI (fun _ j => 0 < j) fun i j => .int (i % j)) (tVar 2) (tC (.int 2147483629))) (tCons (tC (.int 0)) (tNil)))))
def t__law_pen_r2 (K : PySem.W.Frag) : TS :=
  tSeq (tAsg (tC (.int 0)) (gName 3)) (tSeq (tIfS (tTest (tOp (rI0 fun i j => .bl (decide (j ≤ i))) (tCB (uAbs) (tCons (tVar 2) (tNil))) (tOp (rI CPow fun i j => .int (i ^ j.toNat)) (tC (.int 10)) (tC (.int 18))))) (tAsg (tCB (uAbs) (tCons (tVar 2) (tNil))) (gName 3)) (tNext)) (t__law_pen_r1 K))
def t__law_pen (K : PySem.W.Frag) : TS :=
  tSeq (tAsg (tC (.int 0)) (gName 2)) (tSeq (tIfS (tTest (tOp (rI0 fun i j => .bl (decide (i < j))) (tVar 1) (tCB (uLen K) (tCons (tVar 0) (tNil))))) (tAsg (tOp (uIx K) (tVar 0) (tVar 1)) (gName 2)) (tNext)) (t__law_pen_r2 K))
theorem dv__law_pen {P : Program} {w : World} {K : PySem.W.Frag} {mg : Str → Option Value} {b : Heap} {a : Addr} {d : FuncData} {sp : Sp} (F : Fn K mg "_law_pen" s__law_pen_ a d ["script", "k"])
    (n_len : mg "len" = none)
    (n_abs : mg "abs" = none)
    (len : ∀ vs H Q E, sp vs H Q E → vs.length = 2)
    (rd : ∀ vs H Q E, sp vs H Q E → run (t__law_pen K) (start N__law_pen vs) H Q) : Keeps P w K mg b CX0 2 a d ["script", "k"] sp := by
  refine keeps0 F.fn sc__law_pen len fun cdv A o s H vs Q E hr h => ⟨t__law_pen K, ?_, rd vs H Q E h⟩
  unfold t__law_pen t__law_pen_r2 t__law_pen_r1
  exact (pss_cons (ps_set (i := 2) sc__law_pen.nd rfl (.inl rfl) pe_int)
  (pss_cons (ps_if (pt_cmpR op_lt (pv 1) (pe_callB call_uLen (by rfl) n_len (by decide +kernel) (pa_cons (pv 0) pa_nil)) (nomark _)) (pss_one (ps_set (i := 2) sc__law_pen.nd rfl (.inl rfl) (pe_ix ix_u (pv 0) (pv 1) (fun _ _ => rfl)))) pss_nil)
  (pss_cons (ps_set (i := 3) sc__law_pen.nd rfl (.inl rfl) pe_int)
  (pss_cons (ps_if (pt_cmpR op_ge (pe_callB call_uAbs (by rfl) n_abs (by decide +kernel) (pa_cons (pv 2) pa_nil)) (pe_op op_pow pe_int pe_int) (nomark _)) (pss_one (ps_set (i := 3) sc__law_pen.nd rfl (.inl rfl) (pe_callB call_uAbs (by rfl) n_abs (by decide +kernel) (pa_cons (pv 2) pa_nil)))) pss_nil)
  (pss_one (ps_ret (pe_lstU (pa_cons (pv 3) (pa_cons (pe_op op_mod (pv 2) pe_int) (pa_cons pe_int pa_nil))))))))))

abbrev s__law_draw_ : Stmt := topS 22
abbrev N__law_draw : List Str := ["pen", "base", "found", "many", "number"]
theorem sc__law_draw : FnScope N__law_draw ["pen", "base"] (defScope s__law_draw_) := ⟨rfl, rfl, rfl, by decide +kernel, rfl, by decide +kernel, by decide +kernel⟩
def t__law_draw_r1 (K : PySem.W.Frag) : TS :=
  tSeq (tAsg (tOp (uAdd K) (tOp (uIx K) (tVar 0) (tC (.int 2))) (tC (.int 1))) (gSub (tVar 0) (tC (.int 2)) uSetL)) (tSeq (tAsg (tOp (uIx K) (tVar 0) (tC (.int 2))) (gName 3)) (tSeq (tAsg (tOp (rI (fun _ j => 0 < j) fun i j => .int (i % j)) (tOp (uAdd K) (tOp (uAdd K) (tOp uMul (tOp (uIx K) (tVar 0) (tC (.int 1))) (tC (.int 40503))) (tOp uMul (tOp uMul (tC (.int 7919)) (tVar 3)) (tVar 3))) (tOp uMul (tC (.int 104729)) (tVar 3))) (tC (.int 2147483647))) (gName 4)) (tSeq (tAsg (tOp (rI (fun _ j => 0 < j) fun i j => .int (i % j)) (tOp uMul (tVar 4) (tOp (uAdd K) (tOp (rI (fun _ j => 0 < j) fun i j => .int (i % j)) (tVar 4) (tC (.int 65003))) (tC (.int 3)))) (tC (.int 2147483587))) (gName 4)) (tRet (tOp (rI (fun _ j => 0 < j) fun i j => .int (i % j)) (tOp (rI CDiv fun i j => .int (i / j)) (tOp (rI (fun _ j => 0 < j) fun i j => .int (i % j)) (tOp (uAdd K) (tOp uMul (tVar 4) (tC (.int 69621))) (tVar 3)) (tC (.int 2147483563))) (tC (.int 16))) (tVar 1))))))
def t__law_draw (K : PySem.W.Frag) : TS :=
  tSeq (tIfS (tTest (tOp (rI0 fun i j => .bl (decide (j < i))) (tOp (uIx K) (tVar 0) (tC (.int 0))) (tC (.int 0)))) (tSeq (tAsg (tOp (rI (fun _ j => 0 < j) fun i j => .int (i % j)) (tOp (uIx K) (tVar 0) (tC (.int 0))) (tVar 1)) (gName 2)) (tSeq (tAsg (tOp (rI CDiv fun i j => .int (i / j)) (tOp (uIx K) (tVar 0) (tC (.int 0))) (tVar 1)) (gSub (tVar 0) (tC (.int 0)) uSetL)) (tRet (tVar 2)))) (tNext)) (t__law_draw_r1 K)
theorem dv__law_draw {P : Program} {w : World} {K : PySem.W.Frag} {mg : Str → Option Value} {b : Heap} {a : Addr} {d : FuncData} {sp : Sp} (F : Fn K mg "_law_draw" s__law_draw_ a d ["pen", "base"])
    (len : ∀ vs H Q E, sp vs H Q E → vs.length = 2)
    (rd : ∀ vs H Q E, sp vs H Q E → run (t__law_draw K) (start N__law_draw vs) H Q) : Keeps P w K mg b CX0 2 a d ["pen", "base"] sp := by
  refine keeps0 F.fn sc__law_draw len fun cdv A o s H vs Q E hr h => ⟨t__law_draw K, ?_, rd vs H Q E h⟩
  unfold t__law_draw t__law_draw_r1
  exact (pss_cons (ps_if (pt_cmpR op_gt (pe_ix ix_u (pv 0) pe_int (fun _ _ => rfl)) pe_int (nomark _)) (pss_cons (ps_set (i := 2) sc__law_draw.nd rfl (.inl rfl) (pe_op op_mod (pe_ix ix_u (pv 0) pe_int (fun _ _ => rfl)) (pv 1)))
  (pss_cons (ps_asg (pe_op op_fdiv (pe_ix ix_u (pv 0) pe_int (fun _ _ => rfl)) (pv 1)) (pg_sub (pv 0) pe_int set_u))
  (pss_one (ps_ret (pv 2))))) pss_nil)
  (pss_cons (ps_asg (pe_op op_uAdd (pe_ix ix_u (pv 0) pe_int (fun _ _ => rfl)) pe_int) (pg_sub (pv 0) pe_int set_u))
  (pss_cons (ps_set (i := 3) sc__law_draw.nd rfl (.inl rfl) (pe_ix ix_u (pv 0) pe_int (fun _ _ => rfl)))
  (pss_cons (ps_set (i := 4) sc__law_draw.nd rfl (.inl rfl) (pe_op op_mod (pe_op op_uAdd (pe_op op_uAdd (pe_op op_uMul (pe_ix ix_u (pv 0) pe_int (fun _ _ => rfl)) pe_int) (pe_op op_uMul (pe_op op_uMul pe_int (pv 3)) (pv 3))) (pe_op op_uMul pe_int (pv 3))) pe_int))
  (pss_cons (ps_set (i := 4) sc__law_draw.nd rfl (.inl rfl) (pe_op op_mod (pe_op op_uMul (pv 4) (pe_op op_uAdd (pe_op op_mod (pv 4) pe_int) pe_int)) pe_int))
  (pss_one (ps_ret (pe_op op_mod (pe_op op_fdiv (pe_op op_mod (pe_op op_uAdd (pe_op op_uMul (pv 4) pe_int) (pv 3)) pe_int) pe_int) (pv 1)))))))))

abbrev s__law_signs_ : Stmt := topS 23
abbrev N__law_signs : List Str := ["found"]
theorem sc__law_signs : FnScope N__law_signs [] (defScope s__law_signs_) := ⟨rfl, rfl, rfl, by decide +kernel, rfl, by decide +kernel, by decide +kernel⟩
def t__law_signs (K : PySem.W.Frag) : TS :=
  tSeq (tAsg (tC (.str " !\"#$&'()*+,-./0123456789:;<=>?@ABCDEFGHIJKLMNOPQRSTUVWXYZ")) (gName 0)) (tRet (tOp (uAdd K) (tVar 0) (tC (.str "[\\]^_`abcdefghijklmnopqrstuvwxyz{|}~\n"))))
theorem dv__law_signs {P : Program} {w : World} {K : PySem.W.Frag} {mg : Str → Option Value} {b : Heap} {a : Addr} {d : FuncData} {sp : Sp} (F : Fn K mg "_law_signs" s__law_signs_ a d [])
    (len : ∀ vs H Q E, sp vs H Q E → vs.length = 0)
    (rd : ∀ vs H Q E, sp vs H Q E → run (t__law_signs K) (start N__law_signs vs) H Q) : Keeps P w K mg b CX0 2 a d [] sp := by
  refine keeps0 F.fn sc__law_signs len fun cdv A o s H vs Q E hr h => ⟨t__law_signs K, ?_, rd vs H Q E h⟩
  unfold t__law_signs 
  exact (pss_cons (ps_set (i := 0) sc__law_signs.nd rfl (.inl rfl) pe_str)
  (pss_one (ps_ret (pe_op op_uAdd (pv 0) pe_str))))

abbrev s__law_word_ : Stmt := topS 24
abbrev N__law_word : List Str := ["pen", "size", "letters", "word", "k"]
theorem sc__law_word : FnScope N__law_word ["pen", "size"] (defScope s__law_word_) := ⟨rfl, rfl, rfl, by decide +kernel, rfl, by decide +kernel, by decide +kernel⟩
def t__law_word_b1 (K : PySem.W.Frag) (s__law_draw : Sp) : TS :=
  tAsg (tOp (uAdd K) (tVar 3) (tOp (uIx K) (tOp (uAdd K) (tVar 2) (tC (.str "0123456789"))) (tGo s__law_draw E0 (tCons (tVar 0) (tCons (tC (.int 36)) (tNil)))))) (gName 3)
def t__law_word_r1 (K : PySem.W.Frag) (s__law_draw : Sp) : TS :=
  tRet (tVar 3)
def t__law_word (K : PySem.W.Frag) (s__law_draw : Sp) : TS :=
  tSeq (tAsg (tC (.str "abcdefghijklmnopqrstuvwxyz")) (gName 2)) (tSeq (tAsg (tOp (uIx K) (tVar 2) (tGo s__law_draw E0 (tCons (tVar 0) (tCons (tC (.int 26)) (tNil))))) (gName 3)) (tSeq (tFor (iRng1 (tCons (tOp (rI0 fun i j => .int (i - j)) (tVar 1) (tC (.int 1))) (tNil))) (gName 4) (t__law_word_b1 K s__law_draw)) (t__law_word_r1 K s__law_draw)))
theorem dv__law_word {P : Program} {w : World} {K : PySem.W.Frag} {mg : Str → Option Value} {b : Heap} {a : Addr} {d : FuncData} {sp : Sp} (F : Fn K mg "_law_word" s__law_word_ a d ["pen", "size"])
    {a__law_draw : Addr} {d__law_draw : FuncData} {s__law_draw : Sp} (F__law_draw : Fn K mg "_law_draw" s__law_draw_ a__law_draw d__law_draw ["pen", "base"]) (k__law_draw : Keeps P w K mg b CX0 2 a__law_draw d__law_draw ["pen", "base"] s__law_draw)
    (n_range : mg "range" = none)
    (len : ∀ vs H Q E, sp vs H Q E → vs.length = 2)
    (rd : ∀ vs H Q E, sp vs H Q E → run (t__law_word K s__law_draw) (start N__law_word vs) H Q) : Keeps P w K mg b CX0 3 a d ["pen", "size"] sp := by
  refine keeps0 F.fn sc__law_word len fun cdv A o s H vs Q E hr h => ⟨t__law_word K s__law_draw, ?_, rd vs H Q E h⟩
  unfold t__law_word t__law_word_r1 t__law_word_b1
  exact (pss_cons (ps_set (i := 2) sc__law_word.nd rfl (.inl rfl) pe_str)
  (pss_cons (ps_set (i := 3) sc__law_word.nd rfl (.inl rfl) (pe_ix ix_u (pv 2) (pe_go k__law_draw (hr.mono (by decide)) rfl F__law_draw.g F__law_draw.fn.kp F__law_draw.b pass0 (pa_cons (pv 0) (pa_cons pe_int pa_nil))) (fun _ _ => rfl)))
  (pss_cons (ps_for PassesOwn.never rfl (pi_range1 (by rfl) n_range (pa_cons (pe_op op_sub (pv 1) pe_int) pa_nil)) (pg_name (i := 4) sc__law_word.nd rfl (.inl rfl)) (pss_one (ps_set (i := 3) sc__law_word.nd rfl (.inl rfl) (pe_op op_uAdd (pv 3) (pe_ix ix_u (pe_op op_uAdd (pv 2) pe_str) (pe_go k__law_draw (hr.mono (by decide)) rfl F__law_draw.g F__law_draw.fn.kp F__law_draw.b pass0 (pa_cons (pv 0) (pa_cons pe_int pa_nil))) (fun _ _ => rfl))))))
  (pss_one (ps_ret (pv 3))))))

abbrev s__law_names_ : Stmt := topS 25
abbrev N__law_names : List Str := ["pen", "many", "letters", "pick", "size", "base", "at", "signs", "first", "found", "k", "sign", "word"]
theorem sc__law_names : FnScope N__law_names ["pen", "many"] (defScope s__law_names_) := ⟨rfl, rfl, rfl, by decide +kernel, rfl, by decide +kernel, by decide +kernel⟩
def t__law_names_r1 (K : PySem.W.Frag) (s__law_draw : Sp) (s__law_word : Sp) : TS :=
  tDrop (tBM K "list" uInsert (tVar 9) (tCons (tGo s__law_draw E0 (tCons (tVar 0) (tCons (tOp (uAdd K) (tCB (uLen K) (tCons (tVar 9) (tNil))) (tC (.int 1))) (tNil)))) (tCons (tVar 12) (tNil))))
def t__law_names_r2 (K : PySem.W.Frag) (s__law_draw : Sp) (s__law_word : Sp) : TS :=
  tSeq (tIfS (tTest (tOp (uEq K false) (tVar 3) (tC (.int 2)))) (tAsg (tSl (uSl K) (tOp uMulS (tOp (uIx K) (tVar 2) (tOp (rI (fun _ j => 0 < j) fun i j => .int (i % j)) (tOp (uAdd K) (tVar 8) (tOp (rI CDiv fun i j => .int (i / j)) (tVar 10) (tC (.int 8)))) (tC (.int 26)))) (tC (.int 8))) (tNoPart) (tPart (tOp (uAdd K) (tOp (rI (fun _ j => 0 < j) fun i j => .int (i % j)) (tVar 10) (tC (.int 8))) (tC (.int 1))))) (gName 12)) (tNext)) (t__law_names_r1 K s__law_draw s__law_word)
def t__law_names_b1 (K : PySem.W.Frag) (s__law_draw : Sp) (s__law_word : Sp) : TS :=
  tSeq (tAsg (tOp (uIx K) (tVar 7) (tOp (rI (fun _ j => 0 < j) fun i j => .int (i % j)) (tOp (uAdd K) (tVar 8) (tOp uMul (tC (.int 5)) (tVar 10))) (tCB (uLen K) (tCons (tVar 7) (tNil))))) (gName 11)) (tSeq (tAsg (tOp (uAdd K) (tOp (uAdd K) (tSl (uSl K) (tVar 5) (tNoPart) (tPart (tVar 6))) (tVar 11)) (tSl (uSl K) (tVar 5) (tPart (tOp (uAdd K) (tVar 6) (tC (.int 1)))) (tNoPart))) (gName 12)) (tSeq (tIfS (tTest (tOp (uEq K false) (tVar 3) (tC (.int 1)))) (tAsg (tOp (uAdd K) (tOp (uIx K) (tVar 2) (tOp (rI (fun _ j => 0 < j) fun i j => .int (i % j)) (tOp (uAdd K) (tVar 8) (tOp uMul (tC (.int 5)) (tVar 10))) (tC (.int 26)))) (tGo s__law_word E0 (tCons (tVar 0) (tCons (tOp (uAdd K) (tC (.int 1)) (tGo s__law_draw E0 (tCons (tVar 0) (tCons (tC (.int 7)) (tNil))))) (tNil))))) (gName 12)) (tNext)) (t__law_names_r2 K s__law_draw s__law_word)))
def t__law_names_r3 (K : PySem.W.Frag) (s__law_draw : Sp) (s__law_word : Sp) : TS :=
  tRet (tVar 9)
def t__law_names (K : PySem.W.Frag) (s__law_draw : Sp) (s__law_word : Sp) : TS :=
  tSeq (tAsg (tC (.str "abcdefghijklmnopqrstuvwxyz")) (gName 2)) (tSeq (tAsg (tGo s__law_draw E0 (tCons (tVar 0) (tCons (tC (.int 3)) (tNil)))) (gName 3)) (tSeq (tAsg (tOp (uAdd K) (tC (.int 1)) (tGo s__law_draw E0 (tCons (tVar 0) (tCons (tC (.int 8)) (tNil))))) (gName 4)) (tSeq (tAsg (tGo s__law_word E0 (tCons (tVar 0) (tCons (tVar 4) (tNil)))) (gName 5)) (tSeq (tAsg (tGo s__law_draw E0 (tCons (tVar 0) (tCons (tVar 4) (tNil)))) (gName 6)) (tSeq (tAsg (tOp (uIx K) (tLstU (tCons (tOp (uAdd K) (tVar 2) (tC (.str "0123456789"))) (tCons (tVar 2) (tNil)))) (tCB (uInt) (tCons (tOp (uEq K false) (tVar 6) (tC (.int 0))) (tNil)))) (gName 7)) (tSeq (tAsg (tGo s__law_draw E0 (tCons (tVar 0) (tCons (tCB (uLen K) (tCons (tVar 7) (tNil))) (tNil)))) (gName 8)) (tSeq (tAsg (tLstU (tNil)) (gName 9)) (tSeq (tFor (iRng1 (tCons (tVar 1) (tNil))) (gName 10) (t__law_names_b1 K s__law_draw s__law_word)) (t__law_names_r3 K s__law_draw s__law_word)))))))))
theorem dv__law_names {P : Program} {w : World} {K : PySem.W.Frag} {mg : Str → Option Value} {b : Heap} {a : Addr} {d : FuncData} {sp : Sp} (F : Fn K mg "_law_names" s__law_names_ a d ["pen", "many"])
    {a__law_draw : Addr} {d__law_draw : FuncData} {s__law_draw : Sp} (F__law_draw : Fn K mg "_law_draw" s__law_draw_ a__law_draw d__law_draw ["pen", "base"]) (k__law_draw : Keeps P w K mg b CX0 2 a__law_draw d__law_draw ["pen", "base"] s__law_draw)
    {a__law_word : Addr} {d__law_word : FuncData} {s__law_word : Sp} (F__law_word : Fn K mg "_law_word" s__law_word_ a__law_word d__law_word ["pen", "size"]) (k__law_word : Keeps P w K mg b CX0 3 a__law_word d__law_word ["pen", "size"] s__law_word)
    (n_int : mg "int" = none)
    (n_len : mg "len" = none)
    (n_range : mg "range" = none)
    (len : ∀ vs H Q E, sp vs H Q E → vs.length = 2)
    (rd : ∀ vs H Q E, sp vs H Q E → run (t__law_names K s__law_draw s__law_word) (start N__law_names vs) H Q) : Keeps P w K mg b CX0 4 a d ["pen", "many"] sp := by
  refine keeps0 F.fn sc__law_names len fun cdv A o s H vs Q E hr h => ⟨t__law_names K s__law_draw s__law_word, ?_, rd vs H Q E h⟩
  unfold t__law_names t__law_names_r3 t__law_names_b1 t__law_names_r2 t__law_names_r1
  exact (pss_cons (ps_set (i := 2) sc__law_names.nd rfl (.inl rfl) pe_str)
  (pss_cons (ps_set (i := 3) sc__law_names.nd rfl (.inl rfl) (pe_go k__law_draw (hr.mono (by decide)) rfl F__law_draw.g F__law_draw.fn.kp F__law_draw.b pass0 (pa_cons (pv 0) (pa_cons pe_int pa_nil))))
  (pss_cons (ps_set (i := 4) sc__law_names.nd rfl (.inl rfl) (pe_op op_uAdd pe_int (pe_go k__law_draw (hr.mono (by decide)) rfl F__law_draw.g F__law_draw.fn.kp F__law_draw.b pass0 (pa_cons (pv 0) (pa_cons pe_int pa_nil)))))
  (pss_cons (ps_set (i := 5) sc__law_names.nd rfl (.inl rfl) (pe_go k__law_word (hr.mono (by decide)) rfl F__law_word.g F__law_word.fn.kp F__law_word.b pass0 (pa_cons (pv 0) (pa_cons (pv 4) pa_nil))))
  (pss_cons (ps_set (i := 6) sc__law_names.nd rfl (.inl rfl) (pe_go k__law_draw (hr.mono (by decide)) rfl F__law_draw.g F__law_draw.fn.kp F__law_draw.b pass0 (pa_cons (pv 0) (pa_cons (pv 4) pa_nil))))
  (pss_cons (ps_set (i := 7) sc__law_names.nd rfl (.inl rfl) (pe_ix ix_u (pe_lstU (pa_cons (pe_op op_uAdd (pv 2) pe_str) (pa_cons (pv 2) pa_nil))) (pe_callTy call_uInt (by rfl) n_int (by decide +kernel) (pa_cons (pe_cmpR (op_uEq hr.rm.units) (pv 6) pe_int (nomark _)) pa_nil)) (fun _ _ => rfl)))
  (pss_cons (ps_set (i := 8) sc__law_names.nd rfl (.inl rfl) (pe_go k__law_draw (hr.mono (by decide)) rfl F__law_draw.g F__law_draw.fn.kp F__law_draw.b pass0 (pa_cons (pv 0) (pa_cons (pe_callB call_uLen (by rfl) n_len (by decide +kernel) (pa_cons (pv 7) pa_nil)) pa_nil))))
  (pss_cons (ps_set (i := 9) sc__law_names.nd rfl (.inl rfl) (pe_lstU pa_nil))
  (pss_cons (ps_for PassesOwn.never rfl (pi_range1 (by rfl) n_range (pa_cons (pv 1) pa_nil)) (pg_name (i := 10) sc__law_names.nd rfl (.inl rfl)) (pss_cons (ps_set (i := 11) sc__law_names.nd rfl (.inl rfl) (pe_ix ix_u (pv 7) (pe_op op_mod (pe_op op_uAdd (pv 8) (pe_op op_uMul pe_int (pv 10))) (pe_callB call_uLen (by rfl) n_len (by decide +kernel) (pa_cons (pv 7) pa_nil))) (fun _ _ => rfl)))
  (pss_cons (ps_set (i := 12) sc__law_names.nd rfl (.inl rfl) (pe_op op_uAdd (pe_op op_uAdd (pe_slice sl_u (pv 5) po_none (po_some (pv 6))) (pv 11)) (pe_slice sl_u (pv 5) (po_some (pe_op op_uAdd (pv 6) pe_int)) po_none)))
  (pss_cons (ps_if (pt_cmpR (op_uEq hr.rm.units) (pv 3) pe_int (nomark _)) (pss_one (ps_set (i := 12) sc__law_names.nd rfl (.inl rfl) (pe_op op_uAdd (pe_ix ix_u (pv 2) (pe_op op_mod (pe_op op_uAdd (pv 8) (pe_op op_uMul pe_int (pv 10))) pe_int) (fun _ _ => rfl)) (pe_go k__law_word (hr.mono (by decide)) rfl F__law_word.g F__law_word.fn.kp F__law_word.b pass0 (pa_cons (pv 0) (pa_cons (pe_op op_uAdd pe_int (pe_go k__law_draw (hr.mono (by decide)) rfl F__law_draw.g F__law_draw.fn.kp F__law_draw.b pass0 (pa_cons (pv 0) (pa_cons pe_int pa_nil)))) pa_nil)))))) pss_nil)
  (pss_cons (ps_if (pt_cmpR (op_uEq hr.rm.units) (pv 3) pe_int (nomark _)) (pss_one (ps_set (i := 12) sc__law_names.nd rfl (.inl rfl) (pe_slice sl_u (pe_op op_uMulS (pe_ix ix_u (pv 2) (pe_op op_mod (pe_op op_uAdd (pv 8) (pe_op op_fdiv (pv 10) pe_int)) pe_int) (fun _ _ => rfl)) pe_int) po_none (po_some (pe_op op_uAdd (pe_op op_mod (pv 10) pe_int) pe_int))))) pss_nil)
  (pss_one (ps_expr (pe_bm PySem.F.plainAttrs_list PySem.F.slot_list_insert PySem.F.type_list_insert mt_uInsert (pv 9) (pa_cons (pe_go k__law_draw (hr.mono (by decide)) rfl F__law_draw.g F__law_draw.fn.kp F__law_draw.b pass0 (pa_cons (pv 0) (pa_cons (pe_op op_uAdd (pe_callB call_uLen (by rfl) n_len (by decide +kernel) (pa_cons (pv 9) pa_nil)) pe_int) pa_nil))) (pa_cons (pv 12) pa_nil))))))))))
  (pss_one (ps_ret (pv 9))))))))))))

abbrev s__law_minutes_ : Stmt := topS 26
abbrev N__law_minutes : List Str := ["pen", "found", "k", "some"]
theorem sc__law_minutes : FnScope N__law_minutes ["pen"] (defScope s__law_minutes_) := ⟨rfl, rfl, rfl, by decide +kernel, rfl, by decide +kernel, by decide +kernel⟩
def t__law_minutes_b1 (K : PySem.W.Frag) (s__law_draw : Sp) : TS :=
  tSeq (tAsg (tOp (uAdd K) (tC (.int 1)) (tGo s__law_draw E0 (tCons (tVar 0) (tCons (tC (.int 60)) (tNil))))) (gName 3)) (tDrop (tBM K "list" uAppend (tVar 1) (tCons (tOp (uIx K) (tLstU (tCons (tC (.int 1)) (tCons (tC (.int 60)) (tCons (tVar 3) (tCons (tVar 3) (tCons (tC .non) (tNil))))))) (tGo s__law_draw E0 (tCons (tVar 0) (tCons (tC (.int 5)) (tNil))))) (tNil))))
def t__law_minutes_r1 (K : PySem.W.Frag) (s__law_draw : Sp) : TS :=
  tRet (tCB (uTuple K) (tCons (tVar 1) (tNil)))
def t__law_minutes_r2 (K : PySem.W.Frag) (s__law_draw : Sp) : TS :=
  tSeq (tIfS (tTest (tOp (uEq K false) (tVar 1) (tLstU (tCons (tC .non) (tCons (tC .non) (tNil)))))) (tAsg (tOp (uAdd K) (tC (.int 1)) (tGo s__law_draw E0 (tCons (tVar 0) (tCons (tC (.int 60)) (tNil))))) (gSub (tVar 1) (tGo s__law_draw E0 (tCons (tVar 0) (tCons (tC (.int 2)) (tNil)))) uSetL)) (tNext)) (t__law_minutes_r1 K s__law_draw)
def t__law_minutes (K : PySem.W.Frag) (s__law_draw : Sp) : TS :=
  tSeq (tAsg (tLstU (tNil)) (gName 1)) (tSeq (tFor (iRng1 (tCons (tC (.int 2)) (tNil))) (gName 2) (t__law_minutes_b1 K s__law_draw)) (t__law_minutes_r2 K s__law_draw))
theorem dv__law_minutes {P : Program} {w : World} {K : PySem.W.Frag} {mg : Str → Option Value} {b : Heap} {a : Addr} {d : FuncData} {sp : Sp} (F : Fn K mg "_law_minutes" s__law_minutes_ a d ["pen"])
    (n_range : mg "range" = none)
    {a__law_draw : Addr} {d__law_draw : FuncData} {s__law_draw : Sp} (F__law_draw : Fn K mg "_law_draw" s__law_draw_ a__law_draw d__law_draw ["pen", "base"]) (k__law_draw : Keeps P w K mg b CX0 2 a__law_draw d__law_draw ["pen", "base"] s__law_draw)
    (n_tuple : mg "tuple" = none)
    (len : ∀ vs H Q E, sp vs H Q E → vs.length = 1)
    (rd : ∀ vs H Q E, sp vs H Q E → run (t__law_minutes K s__law_draw) (start N__law_minutes vs) H Q) : Keeps P w K mg b CX0 3 a d ["pen"] sp := by
  refine keeps0 F.fn sc__law_minutes len fun cdv A o s H vs Q E hr h => ⟨t__law_minutes K s__law_draw, ?_, rd vs H Q E h⟩
  unfold t__law_minutes t__law_minutes_r2 t__law_minutes_r1 t__law_minutes_b1
  exact (pss_cons (ps_set (i := 1) sc__law_minutes.nd rfl (.inl rfl) (pe_lstU pa_nil))
  (pss_cons (ps_for PassesOwn.never rfl (pi_range1 (by rfl) n_range (pa_cons pe_int pa_nil)) (pg_name (i := 2) sc__law_minutes.nd rfl (.inl rfl)) (pss_cons (ps_set (i := 3) sc__law_minutes.nd rfl (.inl rfl) (pe_op op_uAdd pe_int (pe_go k__law_draw (hr.mono (by decide)) rfl F__law_draw.g F__law_draw.fn.kp F__law_draw.b pass0 (pa_cons (pv 0) (pa_cons pe_int pa_nil)))))
  (pss_one (ps_expr (pe_bm PySem.F.plainAttrs_list PySem.F.slot_list_append PySem.F.type_list_append mt_uAppend (pv 1) (pa_cons (pe_ix ix_u (pe_lstU (pa_cons pe_int (pa_cons pe_int (pa_cons (pv 3) (pa_cons (pv 3) (pa_cons pe_non pa_nil)))))) (pe_go k__law_draw (hr.mono (by decide)) rfl F__law_draw.g F__law_draw.fn.kp F__law_draw.b pass0 (pa_cons (pv 0) (pa_cons pe_int pa_nil))) (fun _ _ => rfl)) pa_nil))))))
  (pss_cons (ps_if (pt_cmpR (op_uEq hr.rm.units) (pv 1) (pe_lstU (pa_cons pe_non (pa_cons pe_non pa_nil))) (nomark _)) (pss_one (ps_asg (pe_op op_uAdd pe_int (pe_go k__law_draw (hr.mono (by decide)) rfl F__law_draw.g F__law_draw.fn.kp F__law_draw.b pass0 (pa_cons (pv 0) (pa_cons pe_int pa_nil)))) (pg_sub (pv 1) (pe_go k__law_draw (hr.mono (by decide)) rfl F__law_draw.g F__law_draw.fn.kp F__law_draw.b pass0 (pa_cons (pv 0) (pa_cons pe_int pa_nil))) set_u))) pss_nil)
  (pss_one (ps_ret (pe_callTy call_uTuple (by rfl) n_tuple (by decide +kernel) (pa_cons (pv 1) pa_nil)))))))

abbrev s__law_town_ : Stmt := topS 27
abbrev N__law_town : List Str := ["pen", "full", "many", "places", "roads", "k", "one", "other", "pool", "stands", "reach"]
theorem sc__law_town : FnScope N__law_town ["pen"] (defScope s__law_town_) := ⟨rfl, rfl, rfl, by decide +kernel, rfl, by decide +kernel, by decide +kernel⟩
def t__law_town_b1 (K : PySem.W.Frag) (s__law_draw : Sp) (s__law_names : Sp) (s__law_minutes : Sp) : TS :=
  tSeq (tAsg (tGo s__law_draw E0 (tCons (tVar 0) (tCons (tVar 2) (tNil)))) (gName 6)) (tSeq (tAsg (tOp (rI (fun _ j => 0 < j) fun i j => .int (i % j)) (tOp (uAdd K) (tOp (uAdd K) (tVar 6) (tC (.int 1))) (tGo s__law_draw E0 (tCons (tVar 0) (tCons (tOp (rI0 fun i j => .int (i - j)) (tVar 2) (tC (.int 1))) (tNil))))) (tVar 2)) (gName 7)) (tDrop (tBM K "list" uAppend (tVar 4) (tCons (tOp (uAdd K) (tTupU (tCons (tOp (uIx K) (tVar 3) (tVar 6)) (tCons (tOp (uIx K) (tVar 3) (tVar 7)) (tNil)))) (tGo s__law_minutes E0 (tCons (tVar 0) (tNil)))) (tNil)))))
def t__law_town_b2 (K : PySem.W.Frag) (s__law_draw : Sp) (s__law_names : Sp) (s__law_minutes : Sp) : TS :=
  tIfS (tTest (tOp (uEq K true) (tVar 8) (tLstU (tNil)))) (tDrop (tBM K "list" uAppend (tVar 9) (tCons (tBM K "list" uPopAt (tVar 8) (tCons (tGo s__law_draw E0 (tCons (tVar 0) (tCons (tCB (uLen K) (tCons (tVar 8) (tNil))) (tNil)))) (tNil))) (tNil)))) (tNext)
def t__law_town_r1 (K : PySem.W.Frag) (s__law_draw : Sp) (s__law_names : Sp) (s__law_minutes : Sp) : TS :=
  tSeq (tAsg (tOp (uIx K) (tLstU (tCons (tC (.int 0)) (tCons (tC (.int 120)) (tCons (tGo s__law_draw E0 (tCons (tVar 0) (tCons (tC (.int 121)) (tNil)))) (tNil))))) (tGo s__law_draw E0 (tCons (tVar 0) (tCons (tC (.int 3)) (tNil))))) (gName 10)) (tRet (tTupU (tCons (tCB (uTuple K) (tCons (tVar 3) (tNil))) (tCons (tCB (uTuple K) (tCons (tVar 4) (tNil))) (tCons (tCB (uTuple K) (tCons (tVar 9) (tNil))) (tCons (tVar 10) (tNil)))))))
def t__law_town_r2 (K : PySem.W.Frag) (s__law_draw : Sp) (s__law_names : Sp) (s__law_minutes : Sp) : TS :=
  tSeq (tAsg (tCB (uList K) (tCons (tVar 3) (tNil))) (gName 8)) (tSeq (tAsg (tLstU (tNil)) (gName 9)) (tSeq (tFor (iRng1 (tCons (tOp (uIx K) (tLstU (tCons (tOp (uAdd K) (tC (.int 1)) (tGo s__law_draw E0 (tCons (tVar 0) (tCons (tC (.int 5)) (tNil))))) (tCons (tC (.int 5)) (tNil)))) (tCB (uInt) (tCons (tVar 1) (tNil)))) (tNil))) (gName 5) (t__law_town_b2 K s__law_draw s__law_names s__law_minutes)) (t__law_town_r1 K s__law_draw s__law_names s__law_minutes)))
def t__law_town (K : PySem.W.Frag) (s__law_draw : Sp) (s__law_names : Sp) (s__law_minutes : Sp) : TS :=
  tSeq (tAsg (tOp (uEq K false) (tGo s__law_draw E0 (tCons (tVar 0) (tCons (tC (.int 3)) (tNil)))) (tC (.int 0))) (gName 1)) (tSeq (tAsg (tOp (uIx K) (tLstU (tCons (tOp (uAdd K) (tC (.int 1)) (tGo s__law_draw E0 (tCons (tVar 0) (tCons (tC (.int 10)) (tNil))))) (tCons (tC (.int 10)) (tNil)))) (tCB (uInt) (tCons (tVar 1) (tNil)))) (gName 2)) (tSeq (tAsg (tGo s__law_names E0 (tCons (tVar 0) (tCons (tVar 2) (tNil)))) (gName 3)) (tSeq (tAsg (tLstU (tNil)) (gName 4)) (tSeq (tFor (iRng1 (tCons (tOp uMul (tOp (uIx K) (tLstU (tCons (tGo s__law_draw E0 (tCons (tVar 0) (tCons (tC (.int 19)) (tNil)))) (tCons (tC (.int 18)) (tNil)))) (tCB (uInt) (tCons (tVar 1) (tNil)))) (tCB (uInt) (tCons (tOp (rI0 fun i j => .bl (decide (j < i))) (tVar 2) (tC (.int 1))) (tNil)))) (tNil))) (gName 5) (t__law_town_b1 K s__law_draw s__law_names s__law_minutes)) (t__law_town_r2 K s__law_draw s__law_names s__law_minutes)))))
theorem dv__law_town {P : Program} {w : World} {K : PySem.W.Frag} {mg : Str → Option Value} {b : Heap} {a : Addr} {d : FuncData} {sp : Sp} (F : Fn K mg "_law_town" s__law_town_ a d ["pen"])
    {a__law_draw : Addr} {d__law_draw : FuncData} {s__law_draw : Sp} (F__law_draw : Fn K mg "_law_draw" s__law_draw_ a__law_draw d__law_draw ["pen", "base"]) (k__law_draw : Keeps P w K mg b CX0 2 a__law_draw d__law_draw ["pen", "base"] s__law_draw)
    (n_int : mg "int" = none)
    {a__law_names : Addr} {d__law_names : FuncData} {s__law_names : Sp} (F__law_names : Fn K mg "_law_names" s__law_names_ a__law_names d__law_names ["pen", "many"]) (k__law_names : Keeps P w K mg b CX0 4 a__law_names d__law_names ["pen", "many"] s__law_names)
    (n_range : mg "range" = none)
    {a__law_minutes : Addr} {d__law_minutes : FuncData} {s__law_minutes : Sp} (F__law_minutes : Fn K mg "_law_minutes" s__law_minutes_ a__law_minutes d__law_minutes ["pen"]) (k__law_minutes : Keeps P w K mg b CX0 3 a__law_minutes d__law_minutes ["pen"] s__law_minutes)
    (n_list : mg "list" = none)
    (n_len : mg "len" = none)
    (n_tuple : mg "tuple" = none)
    (len : ∀ vs H Q E, sp vs H Q E → vs.length = 1)
    (rd : ∀ vs H Q E, sp vs H Q E → run (t__law_town K s__law_draw s__law_names s__law_minutes) (start N__law_town vs) H Q) : Keeps P w K mg b CX0 5 a d ["pen"] sp := by
  refine keeps0 F.fn sc__law_town len fun cdv A o s H vs Q E hr h => ⟨t__law_town K s__law_draw s__law_names s__law_minutes, ?_, rd vs H Q E h⟩
  unfold t__law_town t__law_town_r2 t__law_town_r1 t__law_town_b2 t__law_town_b1
  exact (pss_cons (ps_set (i := 1) sc__law_town.nd rfl (.inl rfl) (pe_cmpR (op_uEq hr.rm.units) (pe_go k__law_draw (hr.mono (by decide)) rfl F__law_draw.g F__law_draw.fn.kp F__law_draw.b pass0 (pa_cons (pv 0) (pa_cons pe_int pa_nil))) pe_int (nomark _)))
  (pss_cons (ps_set (i := 2) sc__law_town.nd rfl (.inl rfl) (pe_ix ix_u (pe_lstU (pa_cons (pe_op op_uAdd pe_int (pe_go k__law_draw (hr.mono (by decide)) rfl F__law_draw.g F__law_draw.fn.kp F__law_draw.b pass0 (pa_cons (pv 0) (pa_cons pe_int pa_nil)))) (pa_cons pe_int pa_nil))) (pe_callTy call_uInt (by rfl) n_int (by decide +kernel) (pa_cons (pv 1) pa_nil)) (fun _ _ => rfl)))
  (pss_cons (ps_set (i := 3) sc__law_town.nd rfl (.inl rfl) (pe_go k__law_names (hr.mono (by decide)) rfl F__law_names.g F__law_names.fn.kp F__law_names.b pass0 (pa_cons (pv 0) (pa_cons (pv 2) pa_nil))))
  (pss_cons (ps_set (i := 4) sc__law_town.nd rfl (.inl rfl) (pe_lstU pa_nil))
  (pss_cons (ps_for PassesOwn.never rfl (pi_range1 (by rfl) n_range (pa_cons (pe_op op_uMul (pe_ix ix_u (pe_lstU (pa_cons (pe_go k__law_draw (hr.mono (by decide)) rfl F__law_draw.g F__law_draw.fn.kp F__law_draw.b pass0 (pa_cons (pv 0) (pa_cons pe_int pa_nil))) (pa_cons pe_int pa_nil))) (pe_callTy call_uInt (by rfl) n_int (by decide +kernel) (pa_cons (pv 1) pa_nil)) (fun _ _ => rfl)) (pe_callTy call_uInt (by rfl) n_int (by decide +kernel) (pa_cons (pe_cmpR op_gt (pv 2) pe_int (nomark _)) pa_nil))) pa_nil)) (pg_name (i := 5) sc__law_town.nd rfl (.inl rfl)) (pss_cons (ps_set (i := 6) sc__law_town.nd rfl (.inl rfl) (pe_go k__law_draw (hr.mono (by decide)) rfl F__law_draw.g F__law_draw.fn.kp F__law_draw.b pass0 (pa_cons (pv 0) (pa_cons (pv 2) pa_nil))))
  (pss_cons (ps_set (i := 7) sc__law_town.nd rfl (.inl rfl) (pe_op op_mod (pe_op op_uAdd (pe_op op_uAdd (pv 6) pe_int) (pe_go k__law_draw (hr.mono (by decide)) rfl F__law_draw.g F__law_draw.fn.kp F__law_draw.b pass0 (pa_cons (pv 0) (pa_cons (pe_op op_sub (pv 2) pe_int) pa_nil)))) (pv 2)))
  (pss_one (ps_expr (pe_bm PySem.F.plainAttrs_list PySem.F.slot_list_append PySem.F.type_list_append mt_uAppend (pv 4) (pa_cons (pe_op op_uAdd (pe_tupU (pa_cons (pe_ix ix_u (pv 3) (pv 6) (fun _ _ => rfl)) (pa_cons (pe_ix ix_u (pv 3) (pv 7) (fun _ _ => rfl)) pa_nil))) (pe_go k__law_minutes (hr.mono (by decide)) rfl F__law_minutes.g F__law_minutes.fn.kp F__law_minutes.b pass0 (pa_cons (pv 0) pa_nil))) pa_nil)))))))
  (pss_cons (ps_set (i := 8) sc__law_town.nd rfl (.inl rfl) (pe_callTy call_uList (by rfl) n_list (by decide +kernel) (pa_cons (pv 3) pa_nil)))
  (pss_cons (ps_set (i := 9) sc__law_town.nd rfl (.inl rfl) (pe_lstU pa_nil))
  (pss_cons (ps_for PassesOwn.never rfl (pi_range1 (by rfl) n_range (pa_cons (pe_ix ix_u (pe_lstU (pa_cons (pe_op op_uAdd pe_int (pe_go k__law_draw (hr.mono (by decide)) rfl F__law_draw.g F__law_draw.fn.kp F__law_draw.b pass0 (pa_cons (pv 0) (pa_cons pe_int pa_nil)))) (pa_cons pe_int pa_nil))) (pe_callTy call_uInt (by rfl) n_int (by decide +kernel) (pa_cons (pv 1) pa_nil)) (fun _ _ => rfl)) pa_nil)) (pg_name (i := 5) sc__law_town.nd rfl (.inl rfl)) (pss_one (ps_if (pt_cmpR (op_uNe hr.rm.units) (pv 8) (pe_lstU pa_nil) (nomark _)) (pss_one (ps_expr (pe_bm PySem.F.plainAttrs_list PySem.F.slot_list_append PySem.F.type_list_append mt_uAppend (pv 9) (pa_cons (pe_bm PySem.F.plainAttrs_list PySem.F.slot_list_pop PySem.F.type_list_pop mt_uPopAt (pv 8) (pa_cons (pe_go k__law_draw (hr.mono (by decide)) rfl F__law_draw.g F__law_draw.fn.kp F__law_draw.b pass0 (pa_cons (pv 0) (pa_cons (pe_callB call_uLen (by rfl) n_len (by decide +kernel) (pa_cons (pv 8) pa_nil)) pa_nil))) pa_nil)) pa_nil)))) pss_nil)))
  (pss_cons (ps_set (i := 10) sc__law_town.nd rfl (.inl rfl) (pe_ix ix_u (pe_lstU (pa_cons pe_int (pa_cons pe_int (pa_cons (pe_go k__law_draw (hr.mono (by decide)) rfl F__law_draw.g F__law_draw.fn.kp F__law_draw.b pass0 (pa_cons (pv 0) (pa_cons pe_int pa_nil))) pa_nil)))) (pe_go k__law_draw (hr.mono (by decide)) rfl F__law_draw.g F__law_draw.fn.kp F__law_draw.b pass0 (pa_cons (pv 0) (pa_cons pe_int pa_nil))) (fun _ _ => rfl)))
  (pss_one (ps_ret (pe_tupU (pa_cons (pe_callTy call_uTuple (by rfl) n_tuple (by decide +kernel) (pa_cons (pv 3) pa_nil)) (pa_cons (pe_callTy call_uTuple (by rfl) n_tuple (by decide +kernel) (pa_cons (pv 4) pa_nil)) (pa_cons (pe_callTy call_uTuple (by rfl) n_tuple (by decide +kernel) (pa_cons (pv 9) pa_nil)) (pa_cons (pv 10) pa_nil))))))))))))))))

abbrev s__law_is_name_ : Stmt := topS 28
abbrev N__law_is_name : List Str := ["thing", "letters", "sign"]
theorem sc__law_is_name : FnScope N__law_is_name ["thing"] (defScope s__law_is_name_) := ⟨rfl, rfl, rfl, by decide +kernel, rfl, by decide +kernel, by decide +kernel⟩
def t__law_is_name_r1 (K : PySem.W.Frag) : TS :=
  tRet (tOp (uEq K false) (tLc (iU K (tVar 0)) (gName 2) (tTest (tOp (uIn K true) (tVar 2) (tOp (uAdd K) (tVar 1) (tC (.str "0123456789"))))) (tVar 2) [2]) (tLstU (tNil)))
def t__law_is_name (K : PySem.W.Frag) : TS :=
  tSeq (tAsg (tC (.str "abcdefghijklmnopqrstuvwxyz")) (gName 1)) (tSeq (tIfS (tOr (tNot (tTru K (tCB (rIsi K) (tCons (tVar 0) (tCons (tC (.ty "str")) (tNil)))))) (tOr (tNot (tTest (tChain (rI0 fun i j => .bl (decide (i ≤ j))) (rI0 fun i j => .bl (decide (i ≤ j))) (tC (.int 1)) (tCB (uLen K) (tCons (tVar 0) (tNil))) (tC (.int 8))))) (tTest (tOp (uIn K true) (tOp (uIx K) (tVar 0) (tC (.int 0))) (tVar 1))))) (tRet (tC (.bl false))) (tNext)) (t__law_is_name_r1 K))
theorem dv__law_is_name {P : Program} {w : World} {K : PySem.W.Frag} {mg : Str → Option Value} {b : Heap} {a : Addr} {d : FuncData} {sp : Sp} (F : Fn K mg "_law_is_name" s__law_is_name_ a d ["thing"])
    (n_isinstance : mg "isinstance" = none)
    (n_str : mg "str" = none)
    (n_len : mg "len" = none)
    (len : ∀ vs H Q E, sp vs H Q E → vs.length = 1)
    (rd : ∀ vs H Q E, sp vs H Q E → run (t__law_is_name K) (start N__law_is_name vs) H Q) : Keeps P w K mg b CX0 2 a d ["thing"] sp := by
  refine keeps0 F.fn sc__law_is_name len fun cdv A o s H vs Q E hr h => ⟨t__law_is_name K, ?_, rd vs H Q E h⟩
  unfold t__law_is_name t__law_is_name_r1
  exact (pss_cons (ps_set (i := 1) sc__law_is_name.nd rfl (.inr rfl) pe_str)
  (pss_cons (ps_if (PW.pt (pw_or (pt_not (pt_tru (pe_callB call_isi (by rfl) n_isinstance (by decide +kernel) (pa_cons (pv 0) (pa_cons (pe_bltn (v := .ty "str") (by rfl) n_str (by decide +kernel) rfl) pa_nil))))) (pw_or (pt_not (pt_chain op_le op_le pe_int (pe_callB call_uLen (by rfl) n_len (by decide +kernel) (pa_cons (pv 0) pa_nil)) pe_int)) (pw_or1 (pt_cmpR op_uNotIn (pe_ix ix_u (pv 0) pe_int (fun _ _ => rfl)) (pv 1) rfl))))) (pss_one (ps_ret pe_bl)) pss_nil)
  (pss_one (ps_ret (pe_cmpR (op_uEq hr.rm.units) (pe_lc (own := [("sign", 2)]) rfl sc__law_is_name.nd (pi_u (pv 0)) (blkOk_by (own := [("sign", 2)]) (N := N__law_is_name) (sc := defScope s__law_is_name_) (by decide +kernel)) (fun _ _ _ _ _ => (pg_name (i := 2) sc__law_is_name.nd rfl (.inl rfl))) (fun _ _ _ _ _ => (pts_one (pt_cmpR op_uNotIn (pv 2) (pe_op op_uAdd (pv 1) pe_str) rfl))) (fun _ _ _ _ _ => (pv 2))) (pe_lstU pa_nil) (nomark _))))))

abbrev s__law_whole_ : Stmt := topS 29
abbrev N__law_whole : List Str := ["thing", "least", "most"]
theorem sc__law_whole : FnScope N__law_whole ["thing", "least", "most"] (defScope s__law_whole_) := ⟨rfl, rfl, rfl, by decide +kernel, rfl, by decide +kernel, by decide +kernel⟩
def t__law_whole (K : PySem.W.Frag) : TS :=
  tRet (tAndT K (tCB (rIsi K) (tCons (tVar 0) (tCons (tC (.ty "int")) (tNil)))) (tAndT K (tNotT K (tCB (rIsi K) (tCons (tVar 0) (tCons (tC (.ty "bool")) (tNil))))) (tChain (rI0 fun i j => .bl (decide (i ≤ j))) (rI0 fun i j => .bl (decide (i ≤ j))) (tVar 1) (tVar 0) (tVar 2))))
theorem dv__law_whole {P : Program} {w : World} {K : PySem.W.Frag} {mg : Str → Option Value} {b : Heap} {a : Addr} {d : FuncData} {sp : Sp} (F : Fn K mg "_law_whole" s__law_whole_ a d ["thing", "least", "most"])
    (n_isinstance : mg "isinstance" = none)
    (n_int : mg "int" = none)
    (n_bool : mg "bool" = none)
    (len : ∀ vs H Q E, sp vs H Q E → vs.length = 3)
    (rd : ∀ vs H Q E, sp vs H Q E → run (t__law_whole K) (start N__law_whole vs) H Q) : Keeps P w K mg b CX0 2 a d ["thing", "least", "most"] sp := by
  refine keeps0 F.fn sc__law_whole len fun cdv A o s H vs Q E hr h => ⟨t__law_whole K, ?_, rd vs H Q E h⟩
  unfold t__law_whole 
  exact (pss_one (ps_ret (pe_andT (pe_callB call_isi (by rfl) n_isinstance (by decide +kernel) (pa_cons (pv 0) (pa_cons (pe_bltn (v := .ty "int") (by rfl) n_int (by decide +kernel) rfl) pa_nil))) (pe_andT (pe_notT (pe_callB call_isi (by rfl) n_isinstance (by decide +kernel) (pa_cons (pv 0) (pa_cons (pe_bltn (v := .ty "bool") (by rfl) n_bool (by decide +kernel) rfl) pa_nil)))) (pe_one (pe_chain op_le op_le (pv 1) (pv 0) (pv 2)))))))

abbrev s__law_is_way_ : Stmt := topS 30
abbrev N__law_is_way : List Str := ["thing"]
theorem sc__law_is_way : FnScope N__law_is_way ["thing"] (defScope s__law_is_way_) := ⟨rfl, rfl, rfl, by decide +kernel, rfl, by decide +kernel, by decide +kernel⟩
def t__law_is_way (K : PySem.W.Frag) (s__law_whole : Sp) : TS :=
  tRet (tOrT K (tOp rIsN (tVar 0) (tC .non)) (tGo s__law_whole E0 (tCons (tVar 0) (tCons (tC (.int 1)) (tCons (tC (.int 60)) (tNil))))))
theorem dv__law_is_way {P : Program} {w : World} {K : PySem.W.Frag} {mg : Str → Option Value} {b : Heap} {a : Addr} {d : FuncData} {sp : Sp} (F : Fn K mg "_law_is_way" s__law_is_way_ a d ["thing"])
    {a__law_whole : Addr} {d__law_whole : FuncData} {s__law_whole : Sp} (F__law_whole : Fn K mg "_law_whole" s__law_whole_ a__law_whole d__law_whole ["thing", "least", "most"]) (k__law_whole : Keeps P w K mg b CX0 2 a__law_whole d__law_whole ["thing", "least", "most"] s__law_whole)
    (len : ∀ vs H Q E, sp vs H Q E → vs.length = 1)
    (rd : ∀ vs H Q E, sp vs H Q E → run (t__law_is_way K s__law_whole) (start N__law_is_way vs) H Q) : Keeps P w K mg b CX0 3 a d ["thing"] sp := by
  refine keeps0 F.fn sc__law_is_way len fun cdv A o s H vs Q E hr h => ⟨t__law_is_way K s__law_whole, ?_, rd vs H Q E h⟩
  unfold t__law_is_way 
  exact (pss_one (ps_ret (pe_orT (pe_cmpR op_isN (pv 0) pe_non (nomark _)) (pe_one (pe_go k__law_whole (hr.mono (by decide)) rfl F__law_whole.g F__law_whole.fn.kp F__law_whole.b pass0 (pa_cons (pv 0) (pa_cons pe_int (pa_cons pe_int pa_nil))))))))

abbrev s__law_is_road_ : Stmt := topS 31
abbrev N__law_is_road : List Str := ["places", "thing"]
theorem sc__law_is_road : FnScope N__law_is_road ["places", "thing"] (defScope s__law_is_road_) := ⟨rfl, rfl, rfl, by decide +kernel, rfl, by decide +kernel, by decide +kernel⟩
def t__law_is_road_r1 (K : PySem.W.Frag) (s__law_is_name : Sp) (s__law_is_way : Sp) : TS :=
  tRet (tAndT K (tGo s__law_is_way E0 (tCons (tOp (uIx K) (tVar 1) (tC (.int 2))) (tNil))) (tGo s__law_is_way E0 (tCons (tOp (uIx K) (tVar 1) (tC (.int 3))) (tNil))))
def t__law_is_road_r2 (K : PySem.W.Frag) (s__law_is_name : Sp) (s__law_is_way : Sp) : TS :=
  tSeq (tIfS (tOr (tTest (tOp (uIn K true) (tOp (uIx K) (tVar 1) (tC (.int 0))) (tVar 0))) (tTest (tOp (uIn K true) (tOp (uIx K) (tVar 1) (tC (.int 1))) (tVar 0)))) (tRet (tC (.bl false))) (tNext)) (t__law_is_road_r1 K s__law_is_name s__law_is_way)
def t__law_is_road_r3 (K : PySem.W.Frag) (s__law_is_name : Sp) (s__law_is_way : Sp) : TS :=
  tSeq (tIfS (tOr (tNot (tTru K (tGo s__law_is_name E0 (tCons (tOp (uIx K) (tVar 1) (tC (.int 0))) (tNil))))) (tOr (tNot (tTru K (tGo s__law_is_name E0 (tCons (tOp (uIx K) (tVar 1) (tC (.int 1))) (tNil))))) (tTest (tOp (uEq K false) (tOp (uIx K) (tVar 1) (tC (.int 0))) (tOp (uIx K) (tVar 1) (tC (.int 1))))))) (tRet (tC (.bl false))) (tNext)) (t__law_is_road_r2 K s__law_is_name s__law_is_way)
def t__law_is_road (K : PySem.W.Frag) (s__law_is_name : Sp) (s__law_is_way : Sp) : TS :=
  tSeq (tIfS (tOr (tNot (tTru K (tCB (rIsi K) (tCons (tVar 1) (tCons (tC (.ty "tuple")) (tNil)))))) (tOr (tTest (tOp (uEq K true) (tCB (uLen K) (tCons (tVar 1) (tNil))) (tC (.int 4)))) (tAnd (tTest (tOp rIsN (tOp (uIx K) (tVar 1) (tC (.int 2))) (tC .non))) (tTest (tOp rIsN (tOp (uIx K) (tVar 1) (tC (.int 3))) (tC .non)))))) (tRet (tC (.bl false))) (tNext)) (t__law_is_road_r3 K s__law_is_name s__law_is_way)
theorem dv__law_is_road {P : Program} {w : World} {K : PySem.W.Frag} {mg : Str → Option Value} {b : Heap} {a : Addr} {d : FuncData} {sp : Sp} (F : Fn K mg "_law_is_road" s__law_is_road_ a d ["places", "thing"])
    (n_isinstance : mg "isinstance" = none)
    (n_tuple : mg "tuple" = none)
    (n_len : mg "len" = none)
    {a__law_is_name : Addr} {d__law_is_name : FuncData} {s__law_is_name : Sp} (F__law_is_name : Fn K mg "_law_is_name" s__law_is_name_ a__law_is_name d__law_is_name ["thing"]) (k__law_is_name : Keeps P w K mg b CX0 2 a__law_is_name d__law_is_name ["thing"] s__law_is_name)
    {a__law_is_way : Addr} {d__law_is_way : FuncData} {s__law_is_way : Sp} (F__law_is_way : Fn K mg "_law_is_way" s__law_is_way_ a__law_is_way d__law_is_way ["thing"]) (k__law_is_way : Keeps P w K mg b CX0 3 a__law_is_way d__law_is_way ["thing"] s__law_is_way)
    (len : ∀ vs H Q E, sp vs H Q E → vs.length = 2)
    (rd : ∀ vs H Q E, sp vs H Q E → run (t__law_is_road K s__law_is_name s__law_is_way) (start N__law_is_road vs) H Q) : Keeps P w K mg b CX0 4 a d ["places", "thing"] sp := by
  refine keeps0 F.fn sc__law_is_road len fun cdv A o s H vs Q E hr h => ⟨t__law_is_road K s__law_is_name s__law_is_way, ?_, rd vs H Q E h⟩
  unfold t__law_is_road t__law_is_road_r3 t__law_is_road_r2 t__law_is_road_r1
  exact (pss_cons (ps_if (PW.pt (pw_or (pt_not (pt_tru (pe_callB call_isi (by rfl) n_isinstance (by decide +kernel) (pa_cons (pv 1) (pa_cons (pe_bltn (v := .ty "tuple") (by rfl) n_tuple (by decide +kernel) rfl) pa_nil))))) (pw_or (pt_cmpR (op_uNe hr.rm.units) (pe_callB call_uLen (by rfl) n_len (by decide +kernel) (pa_cons (pv 1) pa_nil)) pe_int (nomark _)) (pw_or1 (PW.pt (pw_and (pt_cmpR op_isN (pe_ix ix_u (pv 1) pe_int (fun _ _ => rfl)) pe_non (nomark _)) (pw_and1 (pt_cmpR op_isN (pe_ix ix_u (pv 1) pe_int (fun _ _ => rfl)) pe_non (nomark _))))))))) (pss_one (ps_ret pe_bl)) pss_nil)
  (pss_cons (ps_if (PW.pt (pw_or (pt_not (pt_tru (pe_go k__law_is_name (hr.mono (by decide)) rfl F__law_is_name.g F__law_is_name.fn.kp F__law_is_name.b pass0 (pa_cons (pe_ix ix_u (pv 1) pe_int (fun _ _ => rfl)) pa_nil)))) (pw_or (pt_not (pt_tru (pe_go k__law_is_name (hr.mono (by decide)) rfl F__law_is_name.g F__law_is_name.fn.kp F__law_is_name.b pass0 (pa_cons (pe_ix ix_u (pv 1) pe_int (fun _ _ => rfl)) pa_nil)))) (pw_or1 (pt_cmpR (op_uEq hr.rm.units) (pe_ix ix_u (pv 1) pe_int (fun _ _ => rfl)) (pe_ix ix_u (pv 1) pe_int (fun _ _ => rfl)) (nomark _)))))) (pss_one (ps_ret pe_bl)) pss_nil)
  (pss_cons (ps_if (PW.pt (pw_or (pt_cmpR op_uNotIn (pe_ix ix_u (pv 1) pe_int (fun _ _ => rfl)) (pv 0) rfl) (pw_or1 (pt_cmpR op_uNotIn (pe_ix ix_u (pv 1) pe_int (fun _ _ => rfl)) (pv 0) rfl)))) (pss_one (ps_ret pe_bl)) pss_nil)
  (pss_one (ps_ret (pe_andT (pe_go k__law_is_way (hr.mono (by decide)) rfl F__law_is_way.g F__law_is_way.fn.kp F__law_is_way.b pass0 (pa_cons (pe_ix ix_u (pv 1) pe_int (fun _ _ => rfl)) pa_nil)) (pe_one (pe_go k__law_is_way (hr.mono (by decide)) rfl F__law_is_way.g F__law_is_way.fn.kp F__law_is_way.b pass0 (pa_cons (pe_ix ix_u (pv 1) pe_int (fun _ _ => rfl)) pa_nil)))))))))

abbrev s__law_is_town_ : Stmt := topS 32
abbrev N__law_is_town : List Str := ["thing", "places", "roads", "stands", "reach", "some", "most", "k", "name", "stand", "road"]
theorem sc__law_is_town : FnScope N__law_is_town ["thing"] (defScope s__law_is_town_) := ⟨rfl, rfl, rfl, by decide +kernel, rfl, by decide +kernel, by decide +kernel⟩
def t__law_is_town_b1 (K : PySem.W.Frag) (s__law_is_name : Sp) (s__law_whole : Sp) (s__law_is_road : Sp) : TS :=
  tIfS (tOr (tNot (tTru K (tGo s__law_is_name E0 (tCons (tVar 8) (tNil))))) (tTest (tOp (uIn K false) (tVar 8) (tSl (uSl K) (tVar 5) (tNoPart) (tPart (tVar 7)))))) (tRet (tC (.bl false))) (tNext)
def t__law_is_town_r1 (K : PySem.W.Frag) (s__law_is_name : Sp) (s__law_whole : Sp) (s__law_is_road : Sp) : TS :=
  tFor (iEnumU K (tCons (tVar 5) (tNil))) (gTup K 2 (gCons (gName 7) (gCons (gName 8) (gNil)))) (t__law_is_town_b1 K s__law_is_name s__law_whole s__law_is_road)
def t__law_is_town_b2 (K : PySem.W.Frag) (s__law_is_name : Sp) (s__law_whole : Sp) (s__law_is_road : Sp) : TS :=
  tSeq (tIfS (tOr (tNot (tTru K (tCB (rIsi K) (tCons (tVar 5) (tCons (tC (.ty "tuple")) (tNil)))))) (tNot (tTest (tChain (rI0 fun i j => .bl (decide (i ≤ j))) (rI0 fun i j => .bl (decide (i ≤ j))) (tC (.int 1)) (tCB (uLen K) (tCons (tVar 5) (tNil))) (tVar 6))))) (tRet (tC (.bl false))) (tNext)) (t__law_is_town_r1 K s__law_is_name s__law_whole s__law_is_road)
def t__law_is_town_r2 (K : PySem.W.Frag) (s__law_is_name : Sp) (s__law_whole : Sp) (s__law_is_road : Sp) : TS :=
  tRet (tOp uEqE (tLc (iU K (tVar 2)) (gName 10) (tNot (tTru K (tGo s__law_is_road E0 (tCons (tVar 1) (tCons (tVar 10) (tNil)))))) (tVar 10) [10]) (tLstU (tNil)))
def t__law_is_town_r3 (K : PySem.W.Frag) (s__law_is_name : Sp) (s__law_whole : Sp) (s__law_is_road : Sp) : TS :=
  tSeq (tIfS (tTest (tOp (uEq K true) (tLc (iU K (tVar 3)) (gName 9) (tTest (tOp (uIn K true) (tVar 9) (tVar 1))) (tVar 9) [9]) (tLstU (tNil)))) (tRet (tC (.bl false))) (tNext)) (t__law_is_town_r2 K s__law_is_name s__law_whole s__law_is_road)
def t__law_is_town_r4 (K : PySem.W.Frag) (s__law_is_name : Sp) (s__law_whole : Sp) (s__law_is_road : Sp) : TS :=
  tSeq (tIfS (tOr (tNot (tTru K (tCB (rIsi K) (tCons (tVar 2) (tCons (tC (.ty "tuple")) (tNil)))))) (tOr (tTest (tOp (rI0 fun i j => .bl (decide (j < i))) (tCB (uLen K) (tCons (tVar 2) (tNil))) (tC (.int 18)))) (tNot (tTru K (tGo s__law_whole E0 (tCons (tVar 4) (tCons (tC (.int 0)) (tCons (tC (.int 120)) (tNil))))))))) (tRet (tC (.bl false))) (tNext)) (t__law_is_town_r3 K s__law_is_name s__law_whole s__law_is_road)
def t__law_is_town_r5 (K : PySem.W.Frag) (s__law_is_name : Sp) (s__law_whole : Sp) (s__law_is_road : Sp) : TS :=
  tSeq (tAsg (tVar 0) (gTup K 4 (gCons (gName 1) (gCons (gName 2) (gCons (gName 3) (gCons (gName 4) (gNil))))))) (tSeq (tFor (iU K (tLstU (tCons (tTupU (tCons (tVar 1) (tCons (tC (.int 10)) (tNil)))) (tCons (tTupU (tCons (tVar 3) (tCons (tC (.int 5)) (tNil)))) (tNil))))) (gTup K 2 (gCons (gName 5) (gCons (gName 6) (gNil)))) (t__law_is_town_b2 K s__law_is_name s__law_whole s__law_is_road)) (t__law_is_town_r4 K s__law_is_name s__law_whole s__law_is_road))
def t__law_is_town (K : PySem.W.Frag) (s__law_is_name : Sp) (s__law_whole : Sp) (s__law_is_road : Sp) : TS :=
  tSeq (tIfS (tOr (tNot (tTru K (tCB (rIsi K) (tCons (tVar 0) (tCons (tC (.ty "tuple")) (tNil)))))) (tTest (tOp (uEq K true) (tCB (uLen K) (tCons (tVar 0) (tNil))) (tC (.int 4))))) (tRet (tC (.bl false))) (tNext)) (t__law_is_town_r5 K s__law_is_name s__law_whole s__law_is_road)
theorem dv__law_is_town {P : Program} {w : World} {K : PySem.W.Frag} {mg : Str → Option Value} {b : Heap} {a : Addr} {d : FuncData} {sp : Sp} (F : Fn K mg "_law_is_town" s__law_is_town_ a d ["thing"])
    (n_isinstance : mg "isinstance" = none)
    (n_tuple : mg "tuple" = none)
    (n_len : mg "len" = none)
    (n_enumerate : mg "enumerate" = none)
    {a__law_is_name : Addr} {d__law_is_name : FuncData} {s__law_is_name : Sp} (F__law_is_name : Fn K mg "_law_is_name" s__law_is_name_ a__law_is_name d__law_is_name ["thing"]) (k__law_is_name : Keeps P w K mg b CX0 2 a__law_is_name d__law_is_name ["thing"] s__law_is_name)
    {a__law_whole : Addr} {d__law_whole : FuncData} {s__law_whole : Sp} (F__law_whole : Fn K mg "_law_whole" s__law_whole_ a__law_whole d__law_whole ["thing", "least", "most"]) (k__law_whole : Keeps P w K mg b CX0 2 a__law_whole d__law_whole ["thing", "least", "most"] s__law_whole)
    {a__law_is_road : Addr} {d__law_is_road : FuncData} {s__law_is_road : Sp} (F__law_is_road : Fn K mg "_law_is_road" s__law_is_road_ a__law_is_road d__law_is_road ["places", "thing"]) (k__law_is_road : Keeps P w K mg b CX0 4 a__law_is_road d__law_is_road ["places", "thing"] s__law_is_road)
    (len : ∀ vs H Q E, sp vs H Q E → vs.length = 1)
    (rd : ∀ vs H Q E, sp vs H Q E → run (t__law_is_town K s__law_is_name s__law_whole s__law_is_road) (start N__law_is_town vs) H Q) : Keeps P w K mg b CX0 5 a d ["thing"] sp := by
  refine keeps0 F.fn sc__law_is_town len fun cdv A o s H vs Q E hr h => ⟨t__law_is_town K s__law_is_name s__law_whole s__law_is_road, ?_, rd vs H Q E h⟩
  unfold t__law_is_town t__law_is_town_r5 t__law_is_town_r4 t__law_is_town_r3 t__law_is_town_r2 t__law_is_town_b2 t__law_is_town_r1 t__law_is_town_b1
  exact (pss_cons (ps_if (PW.pt (pw_or (pt_not (pt_tru (pe_callB call_isi (by rfl) n_isinstance (by decide +kernel) (pa_cons (pv 0) (pa_cons (pe_bltn (v := .ty "tuple") (by rfl) n_tuple (by decide +kernel) rfl) pa_nil))))) (pw_or1 (pt_cmpR (op_uNe hr.rm.units) (pe_callB call_uLen (by rfl) n_len (by decide +kernel) (pa_cons (pv 0) pa_nil)) pe_int (nomark _))))) (pss_one (ps_ret pe_bl)) pss_nil)
  (pss_cons (ps_asg (pv 0) (pg_tup rfl (pgs_cons (pg_name (i := 1) sc__law_is_town.nd rfl (.inr rfl)) (pgs_cons (pg_name (i := 2) sc__law_is_town.nd rfl (.inl rfl)) (pgs_cons (pg_name (i := 3) sc__law_is_town.nd rfl (.inl rfl)) (pgs_cons (pg_name (i := 4) sc__law_is_town.nd rfl (.inl rfl)) pgs_nil))))))
  (pss_cons (ps_for PassesOwn.never rfl (pi_u (pe_lstU (pa_cons (pe_tupU (pa_cons (pv 1) (pa_cons pe_int pa_nil))) (pa_cons (pe_tupU (pa_cons (pv 3) (pa_cons pe_int pa_nil))) pa_nil)))) (pg_tup rfl (pgs_cons (pg_name (i := 5) sc__law_is_town.nd rfl (.inl rfl)) (pgs_cons (pg_name (i := 6) sc__law_is_town.nd rfl (.inl rfl)) pgs_nil))) (pss_cons (ps_if (PW.pt (pw_or (pt_not (pt_tru (pe_callB call_isi (by rfl) n_isinstance (by decide +kernel) (pa_cons (pv 5) (pa_cons (pe_bltn (v := .ty "tuple") (by rfl) n_tuple (by decide +kernel) rfl) pa_nil))))) (pw_or1 (pt_not (pt_chain op_le op_le pe_int (pe_callB call_uLen (by rfl) n_len (by decide +kernel) (pa_cons (pv 5) pa_nil)) (pv 6)))))) (pss_one (ps_ret pe_bl)) pss_nil)
  (pss_one (ps_for PassesOwn.never rfl (pi_enumU (by rfl) n_enumerate (pa_cons (pv 5) pa_nil)) (pg_tup rfl (pgs_cons (pg_name (i := 7) sc__law_is_town.nd rfl (.inl rfl)) (pgs_cons (pg_name (i := 8) sc__law_is_town.nd rfl (.inl rfl)) pgs_nil))) (pss_one (ps_if (PW.pt (pw_or (pt_not (pt_tru (pe_go k__law_is_name (hr.mono (by decide)) rfl F__law_is_name.g F__law_is_name.fn.kp F__law_is_name.b pass0 (pa_cons (pv 8) pa_nil)))) (pw_or1 (pt_cmpR op_uIn (pv 8) (pe_slice sl_u (pv 5) po_none (po_some (pv 7))) rfl)))) (pss_one (ps_ret pe_bl)) pss_nil))))))
  (pss_cons (ps_if (PW.pt (pw_or (pt_not (pt_tru (pe_callB call_isi (by rfl) n_isinstance (by decide +kernel) (pa_cons (pv 2) (pa_cons (pe_bltn (v := .ty "tuple") (by rfl) n_tuple (by decide +kernel) rfl) pa_nil))))) (pw_or (pt_cmpR op_gt (pe_callB call_uLen (by rfl) n_len (by decide +kernel) (pa_cons (pv 2) pa_nil)) pe_int (nomark _)) (pw_or1 (pt_not (pt_tru (pe_go k__law_whole (hr.mono (by decide)) rfl F__law_whole.g F__law_whole.fn.kp F__law_whole.b pass0 (pa_cons (pv 4) (pa_cons pe_int (pa_cons pe_int pa_nil)))))))))) (pss_one (ps_ret pe_bl)) pss_nil)
  (pss_cons (ps_if (pt_cmpR (op_uNe hr.rm.units) (pe_lc (own := [("stand", 9)]) rfl sc__law_is_town.nd (pi_u (pv 3)) (blkOk_by (own := [("stand", 9)]) (N := N__law_is_town) (sc := defScope s__law_is_town_) (by decide +kernel)) (fun _ _ _ _ _ => (pg_name (i := 9) sc__law_is_town.nd rfl (.inl rfl))) (fun _ _ _ _ _ => (pts_one (pt_cmpR op_uNotIn (pv 9) (pv 1) rfl))) (fun _ _ _ _ _ => (pv 9))) (pe_lstU pa_nil) (nomark _)) (pss_one (ps_ret pe_bl)) pss_nil)
  (pss_one (ps_ret (pe_cmpR (op_uEqE (un65 hr)) (pe_lc (own := [("road", 10)]) rfl sc__law_is_town.nd (pi_u (pv 2)) (blkOk_by (own := [("road", 10)]) (N := N__law_is_town) (sc := defScope s__law_is_town_) (by decide +kernel)) (fun _ _ _ _ _ => (pg_name (i := 10) sc__law_is_town.nd rfl (.inl rfl))) (fun _ _ _ _ _ => (pts_one (pt_not (pt_tru (pe_go k__law_is_road (hr.mono (by decide)) rfl F__law_is_road.g F__law_is_road.fn.kp F__law_is_road.b pass0 (pa_cons (pv 1) (pa_cons (pv 10) pa_nil))))))) (fun _ _ _ _ _ => (pv 10))) (pe_lstU pa_nil) (nomark _)))))))))

abbrev s__law_spots_ : Stmt := topS 33
abbrev N__law_spots : List Str := ["thing", "found", "k", "part", "spot"]
theorem sc__law_spots : FnScope N__law_spots ["thing"] (defScope s__law_spots_) := ⟨rfl, rfl, rfl, by decide +kernel, rfl, by decide +kernel, by decide +kernel⟩
def t__law_spots_b1 (K : PySem.W.Frag) (s__law_spots : Sp) : TS :=
  tDrop (tBM K "list" uExtend (tVar 1) (tCons (tLc (iU K (tGo s__law_spots E0 (tCons (tVar 3) (tNil)))) (gName 4) (tYes) (tOp (uAdd K) (tTupU (tCons (tVar 2) (tNil))) (tVar 4)) [4]) (tNil)))
def t__law_spots_r1 (K : PySem.W.Frag) (s__law_spots : Sp) : TS :=
  tRet (tVar 1)
def t__law_spots (K : PySem.W.Frag) (s__law_spots : Sp) : TS :=
  tSeq (tAsg (tLstU (tCons (tTupU (tNil)) (tNil))) (gName 1)) (tSeq (tIfS (tTru K (tCB (rIsi K) (tCons (tVar 0) (tCons (tC (.ty "tuple")) (tNil))))) (tFor (iEnumU K (tCons (tVar 0) (tNil))) (gTup K 2 (gCons (gName 2) (gCons (gName 3) (gNil)))) (t__law_spots_b1 K s__law_spots)) (tNext)) (t__law_spots_r1 K s__law_spots))
theorem dv__law_spots {P : Program} {w : World} {K : PySem.W.Frag} {mg : Str → Option Value} {b : Heap} {a : Addr} {d : FuncData} {sp : Sp} (F : Fn K mg "_law_spots" s__law_spots_ a d ["thing"])
    (n_isinstance : mg "isinstance" = none)
    (n_tuple : mg "tuple" = none)
    (n_enumerate : mg "enumerate" = none)
    {lv : Nat} (hlv : 1 ≤ lv) {a__law_spots : Addr} {d__law_spots : FuncData} {s__law_spots : Sp} (F__law_spots : Fn K mg "_law_spots" s__law_spots_ a__law_spots d__law_spots ["thing"]) (k__law_spots : Keeps P w K mg b CX0 lv a__law_spots d__law_spots ["thing"] s__law_spots)
    (len : ∀ vs H Q E, sp vs H Q E → vs.length = 1)
    (rd : ∀ vs H Q E, sp vs H Q E → run (t__law_spots K s__law_spots) (start N__law_spots vs) H Q) : Keeps P w K mg b CX0 (lv + 1) a d ["thing"] sp := by
  refine keeps0 F.fn sc__law_spots len fun cdv A o s H vs Q E hr h => ⟨t__law_spots K s__law_spots, ?_, rd vs H Q E h⟩
  unfold t__law_spots t__law_spots_r1 t__law_spots_b1
  exact (pss_cons (ps_set (i := 1) sc__law_spots.nd rfl (.inl rfl) (pe_lstU (pa_cons (pe_tupU pa_nil) pa_nil)))
  (pss_cons (ps_if (pt_tru (pe_callB call_isi (by rfl) n_isinstance (by decide +kernel) (pa_cons (pv 0) (pa_cons (pe_bltn (v := .ty "tuple") (by rfl) n_tuple (by decide +kernel) rfl) pa_nil)))) (pss_one (ps_for PassesOwn.never rfl (pi_enumU (by rfl) n_enumerate (pa_cons (pv 0) pa_nil)) (pg_tup rfl (pgs_cons (pg_name (i := 2) sc__law_spots.nd rfl (.inr rfl)) (pgs_cons (pg_name (i := 3) sc__law_spots.nd rfl (.inl rfl)) pgs_nil))) (pss_one (ps_expr (pe_bm PySem.F.plainAttrs_list PySem.F.slot_list_extend PySem.F.type_list_extend mt_uExtend (pv 1) (pa_cons (pe_lc (own := [("spot", 4)]) rfl sc__law_spots.nd (pi_u (pe_go k__law_spots (hr.mono (by omega)) rfl F__law_spots.g F__law_spots.fn.kp F__law_spots.b pass0 (pa_cons (pv 3) pa_nil))) (blkOk_by (own := [("spot", 4)]) (N := N__law_spots) (sc := defScope s__law_spots_) (by decide +kernel)) (fun _ _ _ _ _ => (pg_name (i := 4) sc__law_spots.nd rfl (.inl rfl))) (fun _ _ _ _ _ => pts_nil) (fun _ _ _ _ _ => (pe_op op_uAdd (pe_tupU (pa_cons (pv 2) pa_nil)) (pv 4)))) pa_nil)))))) pss_nil)
  (pss_one (ps_ret (pv 1)))))

abbrev s__law_put_ : Stmt := topS 34
abbrev N__law_put : List Str := ["thing", "spot", "part", "k"]
theorem sc__law_put : FnScope N__law_put ["thing", "spot", "part"] (defScope s__law_put_) := ⟨rfl, rfl, rfl, by decide +kernel, rfl, by decide +kernel, by decide +kernel⟩
def t__law_put_r1 (K : PySem.W.Frag) (s__law_put : Sp) : TS :=
  tSeq (tAsg (tOp (uIx K) (tVar 1) (tC (.int 0))) (gName 3)) (tRet (tOp (uAdd K) (tOp (uAdd K) (tSl (uSl K) (tVar 0) (tNoPart) (tPart (tVar 3))) (tTupU (tCons (tGo s__law_put E0 (tCons (tOp (uIx K) (tVar 0) (tVar 3)) (tCons (tSl (uSl K) (tVar 1) (tPart (tC (.int 1))) (tNoPart)) (tCons (tVar 2) (tNil))))) (tNil)))) (tSl (uSl K) (tVar 0) (tPart (tOp (uAdd K) (tVar 3) (tC (.int 1)))) (tNoPart))))
def t__law_put (K : PySem.W.Frag) (s__law_put : Sp) : TS :=
  tSeq (tIfS (tTest (tOp (uEq K false) (tVar 1) (tTupU (tNil)))) (tRet (tVar 2)) (tNext)) (t__law_put_r1 K s__law_put)
theorem dv__law_put {P : Program} {w : World} {K : PySem.W.Frag} {mg : Str → Option Value} {b : Heap} {a : Addr} {d : FuncData} {sp : Sp} (F : Fn K mg "_law_put" s__law_put_ a d ["thing", "spot", "part"])
    {lv : Nat} (hlv : 1 ≤ lv) {a__law_put : Addr} {d__law_put : FuncData} {s__law_put : Sp} (F__law_put : Fn K mg "_law_put" s__law_put_ a__law_put d__law_put ["thing", "spot", "part"]) (k__law_put : Keeps P w K mg b CX0 lv a__law_put d__law_put ["thing", "spot", "part"] s__law_put)
    (len : ∀ vs H Q E, sp vs H Q E → vs.length = 3)
    (rd : ∀ vs H Q E, sp vs H Q E → run (t__law_put K s__law_put) (start N__law_put vs) H Q) : Keeps P w K mg b CX0 (lv + 1) a d ["thing", "spot", "part"] sp := by
  refine keeps0 F.fn sc__law_put len fun cdv A o s H vs Q E hr h => ⟨t__law_put K s__law_put, ?_, rd vs H Q E h⟩
  unfold t__law_put t__law_put_r1
  exact (pss_cons (ps_if (pt_cmpR (op_uEq hr.rm.units) (pv 1) (pe_tupU pa_nil) (nomark _)) (pss_one (ps_ret (pv 2))) pss_nil)
  (pss_cons (ps_set (i := 3) sc__law_put.nd rfl (.inl rfl) (pe_ix ix_u (pv 1) pe_int (fun _ _ => rfl)))
  (pss_one (ps_ret (pe_op op_uAdd (pe_op op_uAdd (pe_slice sl_u (pv 0) po_none (po_some (pv 3))) (pe_tupU (pa_cons (pe_go k__law_put (hr.mono (by omega)) rfl F__law_put.g F__law_put.fn.kp F__law_put.b pass0 (pa_cons (pe_ix ix_u (pv 0) (pv 3) (fun _ _ => rfl)) (pa_cons (pe_slice sl_u (pv 1) (po_some pe_int) po_none) (pa_cons (pv 2) pa_nil)))) pa_nil))) (pe_slice sl_u (pv 0) (po_some (pe_op op_uAdd (pv 3) pe_int)) po_none))))))

abbrev s__law_odd_text_ : Stmt := topS 35
abbrev N__law_odd_text : List Str := ["pen", "part", "texts", "signs", "spot", "sign", "ahead", "rest", "some", "found"]
theorem sc__law_odd_text : FnScope N__law_odd_text ["pen", "part", "texts"] (defScope s__law_odd_text_) := ⟨rfl, rfl, rfl, by decide +kernel, rfl, by decide +kernel, by decide +kernel⟩
def t__law_odd_text (K : PySem.W.Frag) (s__law_signs : Sp) (s__law_draw : Sp) : TS :=
  tSeq (tAsg (tGo s__law_signs E0 tNil) (gName 3)) (tSeq (tAsg (tGo s__law_draw E0 (tCons (tVar 0) (tCons (tOp (uAdd K) (tCB (uLen K) (tCons (tVar 1) (tNil))) (tC (.int 1))) (tNil)))) (gName 4)) (tSeq (tAsg (tOp (uIx K) (tVar 3) (tGo s__law_draw E0 (tCons (tVar 0) (tCons (tCB (uLen K) (tCons (tVar 3) (tNil))) (tNil))))) (gName 5)) (tSeq (tAsg (tSl (uSl K) (tVar 1) (tNoPart) (tPart (tVar 4))) (gName 6)) (tSeq (tAsg (tSl (uSl K) (tVar 1) (tPart (tOp (uAdd K) (tVar 4) (tC (.int 1)))) (tNoPart)) (gName 7)) (tSeq (tAsg (tOp (uAdd K) (tVar 6) (tVar 5)) (gName 8)) (tSeq (tAsg (tLstU (tCons (tOp (uAdd K) (tVar 8) (tSl (uSl K) (tVar 1) (tPart (tVar 4)) (tNoPart))) (tCons (tOp (uAdd K) (tVar 8) (tVar 7)) (tCons (tOp (uAdd K) (tVar 6) (tVar 7)) (tNil))))) (gName 9)) (tSeq (tAsg (tOp (uAdd K) (tVar 9) (tLstU (tCons (tM0 uUpper (tVar 1)) (tCons (tOp (uIx K) (tVar 2) (tGo s__law_draw E0 (tCons (tVar 0) (tCons (tCB (uLen K) (tCons (tVar 2) (tNil))) (tNil))))) (tNil))))) (gName 9)) (tSeq (tAsg (tOp (uAdd K) (tVar 9) (tLstU (tCons (tLstU (tCons (tVar 1) (tNil))) (tCons (tTupU (tCons (tVar 1) (tNil))) (tCons (tDic1 1 1) (tNil)))))) (gName 9)) (tRet (tOp (uIx K) (tVar 9) (tGo s__law_draw E0 (tCons (tVar 0) (tCons (tC (.int 8)) (tNil))))))))))))))
theorem dv__law_odd_text {P : Program} {w : World} {K : PySem.W.Frag} {mg : Str → Option Value} {b : Heap} {a : Addr} {d : FuncData} {sp : Sp} (F : Fn K mg "_law_odd_text" s__law_odd_text_ a d ["pen", "part", "texts"])
    {a__law_signs : Addr} {d__law_signs : FuncData} {s__law_signs : Sp} (F__law_signs : Fn K mg "_law_signs" s__law_signs_ a__law_signs d__law_signs []) (k__law_signs : Keeps P w K mg b CX0 2 a__law_signs d__law_signs [] s__law_signs)
    {a__law_draw : Addr} {d__law_draw : FuncData} {s__law_draw : Sp} (F__law_draw : Fn K mg "_law_draw" s__law_draw_ a__law_draw d__law_draw ["pen", "base"]) (k__law_draw : Keeps P w K mg b CX0 2 a__law_draw d__law_draw ["pen", "base"] s__law_draw)
    (n_len : mg "len" = none)
    (len : ∀ vs H Q E, sp vs H Q E → vs.length = 3)
    (rd : ∀ vs H Q E, sp vs H Q E → run (t__law_odd_text K s__law_signs s__law_draw) (start N__law_odd_text vs) H Q) : Keeps P w K mg b CX0 3 a d ["pen", "part", "texts"] sp := by
  refine keeps0 F.fn sc__law_odd_text len fun cdv A o s H vs Q E hr h => ⟨t__law_odd_text K s__law_signs s__law_draw, ?_, rd vs H Q E h⟩
  unfold t__law_odd_text 
  exact (pss_cons (ps_set (i := 3) sc__law_odd_text.nd rfl (.inl rfl) (pe_go0 k__law_signs (hr.mono (by decide)) rfl F__law_signs.g F__law_signs.fn.kp F__law_signs.b pass0))
  (pss_cons (ps_set (i := 4) sc__law_odd_text.nd rfl (.inl rfl) (pe_go k__law_draw (hr.mono (by decide)) rfl F__law_draw.g F__law_draw.fn.kp F__law_draw.b pass0 (pa_cons (pv 0) (pa_cons (pe_op op_uAdd (pe_callB call_uLen (by rfl) n_len (by decide +kernel) (pa_cons (pv 1) pa_nil)) pe_int) pa_nil))))
  (pss_cons (ps_set (i := 5) sc__law_odd_text.nd rfl (.inl rfl) (pe_ix ix_u (pv 3) (pe_go k__law_draw (hr.mono (by decide)) rfl F__law_draw.g F__law_draw.fn.kp F__law_draw.b pass0 (pa_cons (pv 0) (pa_cons (pe_callB call_uLen (by rfl) n_len (by decide +kernel) (pa_cons (pv 3) pa_nil)) pa_nil))) (fun _ _ => rfl)))
  (pss_cons (ps_set (i := 6) sc__law_odd_text.nd rfl (.inl rfl) (pe_slice sl_u (pv 1) po_none (po_some (pv 4))))
  (pss_cons (ps_set (i := 7) sc__law_odd_text.nd rfl (.inl rfl) (pe_slice sl_u (pv 1) (po_some (pe_op op_uAdd (pv 4) pe_int)) po_none))
  (pss_cons (ps_set (i := 8) sc__law_odd_text.nd rfl (.inl rfl) (pe_op op_uAdd (pv 6) (pv 5)))
  (pss_cons (ps_set (i := 9) sc__law_odd_text.nd rfl (.inl rfl) (pe_lstU (pa_cons (pe_op op_uAdd (pv 8) (pe_slice sl_u (pv 1) (po_some (pv 4)) po_none)) (pa_cons (pe_op op_uAdd (pv 8) (pv 7)) (pa_cons (pe_op op_uAdd (pv 6) (pv 7)) pa_nil)))))
  (pss_cons (ps_set (i := 9) sc__law_odd_text.nd rfl (.inl rfl) (pe_op op_uAdd (pv 9) (pe_lstU (pa_cons (pe_uUpper (pv 1)) (pa_cons (pe_ix ix_u (pv 2) (pe_go k__law_draw (hr.mono (by decide)) rfl F__law_draw.g F__law_draw.fn.kp F__law_draw.b pass0 (pa_cons (pv 0) (pa_cons (pe_callB call_uLen (by rfl) n_len (by decide +kernel) (pa_cons (pv 2) pa_nil)) pa_nil))) (fun _ _ => rfl)) pa_nil)))))
  (pss_cons (ps_set (i := 9) sc__law_odd_text.nd rfl (.inl rfl) (pe_op op_uAdd (pv 9) (pe_lstU (pa_cons (pe_lstU (pa_cons (pv 1) pa_nil)) (pa_cons (pe_tupU (pa_cons (pv 1) pa_nil)) (pa_cons (pe_dic1 (pv 1) (pv 1)) pa_nil))))))
  (pss_one (ps_ret (pe_ix ix_u (pv 9) (pe_go k__law_draw (hr.mono (by decide)) rfl F__law_draw.g F__law_draw.fn.kp F__law_draw.b pass0 (pa_cons (pv 0) (pa_cons pe_int pa_nil))) (fun _ _ => rfl)))))))))))))

abbrev s__law_odd_row_ : Stmt := topS 36
abbrev N__law_odd_row : List Str := ["pen", "part", "k", "ahead", "rest", "found"]
theorem sc__law_odd_row : FnScope N__law_odd_row ["pen", "part"] (defScope s__law_odd_row_) := ⟨rfl, rfl, rfl, by decide +kernel, rfl, by decide +kernel, by decide +kernel⟩
def t__law_odd_row (K : PySem.W.Frag) (s__law_draw : Sp) : TS :=
  tSeq (tAsg (tGo s__law_draw E0 (tCons (tVar 0) (tCons (tOp (uAdd K) (tCB (uLen K) (tCons (tVar 1) (tNil))) (tC (.int 1))) (tNil)))) (gName 2)) (tSeq (tAsg (tSl (uSl K) (tVar 1) (tNoPart) (tPart (tVar 2))) (gName 3)) (tSeq (tAsg (tSl (uSl K) (tVar 1) (tPart (tVar 2)) (tNoPart)) (gName 4)) (tSeq (tAsg (tLstU (tCons (tCB (uList K) (tCons (tVar 1) (tNil))) (tCons (tOp (uAdd K) (tVar 3) (tSl (uSl K) (tVar 4) (tPart (tC (.int 1))) (tNoPart))) (tCons (tOp (uAdd K) (tOp (uAdd K) (tVar 3) (tSl (uSl K) (tVar 4) (tNoPart) (tPart (tC (.int 1))))) (tVar 4)) (tNil))))) (gName 5)) (tSeq (tAsg (tOp (uAdd K) (tVar 5) (tLstU (tCons (tRevT K (tVar 1)) (tCons (tTupU (tNil)) (tCons (tTupU (tCons (tVar 1) (tNil))) (tCons (tOp (uAdd K) (tVar 1) (tTupU (tCons (tC .non) (tNil)))) (tCons (tSl (uSl K) (tVar 1) (tPart (tC (.int 1))) (tNoPart)) (tNil)))))))) (gName 5)) (tRet (tOp (uIx K) (tVar 5) (tGo s__law_draw E0 (tCons (tVar 0) (tCons (tC (.int 8)) (tNil))))))))))
theorem dv__law_odd_row {P : Program} {w : World} {K : PySem.W.Frag} {mg : Str → Option Value} {b : Heap} {a : Addr} {d : FuncData} {sp : Sp} (F : Fn K mg "_law_odd_row" s__law_odd_row_ a d ["pen", "part"])
    {a__law_draw : Addr} {d__law_draw : FuncData} {s__law_draw : Sp} (F__law_draw : Fn K mg "_law_draw" s__law_draw_ a__law_draw d__law_draw ["pen", "base"]) (k__law_draw : Keeps P w K mg b CX0 2 a__law_draw d__law_draw ["pen", "base"] s__law_draw)
    (n_len : mg "len" = none)
    (n_list : mg "list" = none)
    (len : ∀ vs H Q E, sp vs H Q E → vs.length = 2)
    (rd : ∀ vs H Q E, sp vs H Q E → run (t__law_odd_row K s__law_draw) (start N__law_odd_row vs) H Q) : Keeps P w K mg b CX0 3 a d ["pen", "part"] sp := by
  refine keeps0 F.fn sc__law_odd_row len fun cdv A o s H vs Q E hr h => ⟨t__law_odd_row K s__law_draw, ?_, rd vs H Q E h⟩
  unfold t__law_odd_row 
  exact (pss_cons (ps_set (i := 2) sc__law_odd_row.nd rfl (.inl rfl) (pe_go k__law_draw (hr.mono (by decide)) rfl F__law_draw.g F__law_draw.fn.kp F__law_draw.b pass0 (pa_cons (pv 0) (pa_cons (pe_op op_uAdd (pe_callB call_uLen (by rfl) n_len (by decide +kernel) (pa_cons (pv 1) pa_nil)) pe_int) pa_nil))))
  (pss_cons (ps_set (i := 3) sc__law_odd_row.nd rfl (.inl rfl) (pe_slice sl_u (pv 1) po_none (po_some (pv 2))))
  (pss_cons (ps_set (i := 4) sc__law_odd_row.nd rfl (.inl rfl) (pe_slice sl_u (pv 1) (po_some (pv 2)) po_none))
  (pss_cons (ps_set (i := 5) sc__law_odd_row.nd rfl (.inl rfl) (pe_lstU (pa_cons (pe_callTy call_uList (by rfl) n_list (by decide +kernel) (pa_cons (pv 1) pa_nil)) (pa_cons (pe_op op_uAdd (pv 3) (pe_slice sl_u (pv 4) (po_some pe_int) po_none)) (pa_cons (pe_op op_uAdd (pe_op op_uAdd (pv 3) (pe_slice sl_u (pv 4) po_none (po_some pe_int))) (pv 4)) pa_nil)))))
  (pss_cons (ps_set (i := 5) sc__law_odd_row.nd rfl (.inl rfl) (pe_op op_uAdd (pv 5) (pe_lstU (pa_cons (pe_revT (pv 1)) (pa_cons (pe_tupU pa_nil) (pa_cons (pe_tupU (pa_cons (pv 1) pa_nil)) (pa_cons (pe_op op_uAdd (pv 1) (pe_tupU (pa_cons pe_non pa_nil))) (pa_cons (pe_slice sl_u (pv 1) (po_some pe_int) po_none) pa_nil))))))))
  (pss_one (ps_ret (pe_ix ix_u (pv 5) (pe_go k__law_draw (hr.mono (by decide)) rfl F__law_draw.g F__law_draw.fn.kp F__law_draw.b pass0 (pa_cons (pv 0) (pa_cons pe_int pa_nil))) (fun _ _ => rfl)))))))))

abbrev s__law_odd_ : Stmt := topS 37
abbrev N__law_odd : List Str := ["pen", "part", "texts", "number", "found"]
theorem sc__law_odd : FnScope N__law_odd ["pen", "part", "texts"] (defScope s__law_odd_) := ⟨rfl, rfl, rfl, by decide +kernel, rfl, by decide +kernel, by decide +kernel⟩
def t__law_odd_r1 (K : PySem.W.Frag) (s__law_draw : Sp) (s__law_odd_text : Sp) (s__law_odd_row : Sp) : TS :=
  tSeq (tAsg (tOp (uIx K) (tLstU (tCons (tC (.int 30)) (tCons (tVar 1) (tNil)))) (tCB (uInt) (tCons (tCB (rIsi K) (tCons (tVar 1) (tCons (tC (.ty "int")) (tNil)))) (tNil)))) (gName 3)) (tSeq (tAsg (tLstU (tCons (tOp (rN0 fun i j => i + j) (tVar 3) (tC (.int 1))) (tCons (tOp (rN0 fun i j => i - j) (tVar 3) (tC (.int 1))) (tCons (tC (.int 0)) (tCons (tC (.int 61)) (tCons (tC (.int 121)) (tCons (tC .non) (tCons (tCB (uStrN) (tCons (tVar 3) (tNil))) (tCons (tOp (uEq K false) (tVar 3) (tC (.int 1))) (tNil)))))))))) (gName 4)) (tRet (tOp (uIx K) (tVar 4) (tGo s__law_draw E0 (tCons (tVar 0) (tCons (tC (.int 8)) (tNil)))))))
def t__law_odd_r2 (K : PySem.W.Frag) (s__law_draw : Sp) (s__law_odd_text : Sp) (s__law_odd_row : Sp) : TS :=
  tSeq (tIfS (tTru K (tCB (rIsi K) (tCons (tVar 1) (tCons (tC (.ty "tuple")) (tNil))))) (tRet (tGo s__law_odd_row E0 (tCons (tVar 0) (tCons (tVar 1) (tNil))))) (tNext)) (t__law_odd_r1 K s__law_draw s__law_odd_text s__law_odd_row)
def t__law_odd_r3 (K : PySem.W.Frag) (s__law_draw : Sp) (s__law_odd_text : Sp) (s__law_odd_row : Sp) : TS :=
  tSeq (tIfS (tTru K (tCB (rIsi K) (tCons (tVar 1) (tCons (tC (.ty "str")) (tNil))))) (tRet (tGo s__law_odd_text E0 (tCons (tVar 0) (tCons (tVar 1) (tCons (tVar 2) (tNil)))))) (tNext)) (t__law_odd_r2 K s__law_draw s__law_odd_text s__law_odd_row)
def t__law_odd (K : PySem.W.Frag) (s__law_draw : Sp) (s__law_odd_text : Sp) (s__law_odd_row : Sp) : TS :=
  tSeq (tIfS (tTest (tOp (uEq K false) (tGo s__law_draw E0 (tCons (tVar 0) (tCons (tC (.int 4)) (tNil)))) (tC (.int 0)))) (tRet (tOp (uIx K) (tLstU (tCons (tC .non) (tCons (tC (.bl true)) (tCons (tC (.bl false)) (tCons (tOp (rI CPow fun i j => .int (i ^ j.toNat)) (tC (.int 10)) (tC (.int 59))) (tCons (tOp (rI0 fun i j => .int (i - j)) (tC (.int 1)) (tOp (rI CPow fun i j => .int (i ^ j.toNat)) (tC (.int 10)) (tC (.int 59)))) (tCons (tLstU (tNil)) (tCons (tDNewU) (tCons (tC (.str "-")) (tNil)))))))))) (tGo s__law_draw E0 (tCons (tVar 0) (tCons (tC (.int 8)) (tNil)))))) (tNext)) (t__law_odd_r3 K s__law_draw s__law_odd_text s__law_odd_row)
theorem dv__law_odd {P : Program} {w : World} {K : PySem.W.Frag} {mg : Str → Option Value} {b : Heap} {a : Addr} {d : FuncData} {sp : Sp} (F : Fn K mg "_law_odd" s__law_odd_ a d ["pen", "part", "texts"])
    {a__law_draw : Addr} {d__law_draw : FuncData} {s__law_draw : Sp} (F__law_draw : Fn K mg "_law_draw" s__law_draw_ a__law_draw d__law_draw ["pen", "base"]) (k__law_draw : Keeps P w K mg b CX0 2 a__law_draw d__law_draw ["pen", "base"] s__law_draw)
    (n_isinstance : mg "isinstance" = none)
    (n_str : mg "str" = none)
    {a__law_odd_text : Addr} {d__law_odd_text : FuncData} {s__law_odd_text : Sp} (F__law_odd_text : Fn K mg "_law_odd_text" s__law_odd_text_ a__law_odd_text d__law_odd_text ["pen", "part", "texts"]) (k__law_odd_text : Keeps P w K mg b CX0 3 a__law_odd_text d__law_odd_text ["pen", "part", "texts"] s__law_odd_text)
    (n_tuple : mg "tuple" = none)
    {a__law_odd_row : Addr} {d__law_odd_row : FuncData} {s__law_odd_row : Sp} (F__law_odd_row : Fn K mg "_law_odd_row" s__law_odd_row_ a__law_odd_row d__law_odd_row ["pen", "part"]) (k__law_odd_row : Keeps P w K mg b CX0 3 a__law_odd_row d__law_odd_row ["pen", "part"] s__law_odd_row)
    (n_int : mg "int" = none)
    (len : ∀ vs H Q E, sp vs H Q E → vs.length = 3)
    (rd : ∀ vs H Q E, sp vs H Q E → run (t__law_odd K s__law_draw s__law_odd_text s__law_odd_row) (start N__law_odd vs) H Q) : Keeps P w K mg b CX0 4 a d ["pen", "part", "texts"] sp := by
  refine keeps0 F.fn sc__law_odd len fun cdv A o s H vs Q E hr h => ⟨t__law_odd K s__law_draw s__law_odd_text s__law_odd_row, ?_, rd vs H Q E h⟩
  unfold t__law_odd t__law_odd_r3 t__law_odd_r2 t__law_odd_r1
  exact (pss_cons (ps_if (pt_cmpR (op_uEq hr.rm.units) (pe_go k__law_draw (hr.mono (by decide)) rfl F__law_draw.g F__law_draw.fn.kp F__law_draw.b pass0 (pa_cons (pv 0) (pa_cons pe_int pa_nil))) pe_int (nomark _)) (pss_one (ps_ret (pe_ix ix_u (pe_lstU (pa_cons pe_non (pa_cons pe_bl (pa_cons pe_bl (pa_cons (pe_op op_pow pe_int pe_int) (pa_cons (pe_op op_sub pe_int (pe_op op_pow pe_int pe_int)) (pa_cons (pe_lstU pa_nil) (pa_cons pe_dnewU (pa_cons pe_str pa_nil))))))))) (pe_go k__law_draw (hr.mono (by decide)) rfl F__law_draw.g F__law_draw.fn.kp F__law_draw.b pass0 (pa_cons (pv 0) (pa_cons pe_int pa_nil))) (fun _ _ => rfl)))) pss_nil)
  (pss_cons (ps_if (pt_tru (pe_callB call_isi (by rfl) n_isinstance (by decide +kernel) (pa_cons (pv 1) (pa_cons (pe_bltn (v := .ty "str") (by rfl) n_str (by decide +kernel) rfl) pa_nil)))) (pss_one (ps_ret (pe_go k__law_odd_text (hr.mono (by decide)) rfl F__law_odd_text.g F__law_odd_text.fn.kp F__law_odd_text.b pass0 (pa_cons (pv 0) (pa_cons (pv 1) (pa_cons (pv 2) pa_nil)))))) pss_nil)
  (pss_cons (ps_if (pt_tru (pe_callB call_isi (by rfl) n_isinstance (by decide +kernel) (pa_cons (pv 1) (pa_cons (pe_bltn (v := .ty "tuple") (by rfl) n_tuple (by decide +kernel) rfl) pa_nil)))) (pss_one (ps_ret (pe_go k__law_odd_row (hr.mono (by decide)) rfl F__law_odd_row.g F__law_odd_row.fn.kp F__law_odd_row.b pass0 (pa_cons (pv 0) (pa_cons (pv 1) pa_nil))))) pss_nil)
  (pss_cons (ps_set (i := 3) sc__law_odd.nd rfl (.inl rfl) (pe_ix ix_u (pe_lstU (pa_cons pe_int (pa_cons (pv 1) pa_nil))) (pe_callTy call_uInt (by rfl) n_int (by decide +kernel) (pa_cons (pe_callB call_isi (by rfl) n_isinstance (by decide +kernel) (pa_cons (pv 1) (pa_cons (pe_bltn (v := .ty "int") (by rfl) n_int (by decide +kernel) rfl) pa_nil))) pa_nil)) (fun _ _ => rfl)))
  (pss_cons (ps_set (i := 4) sc__law_odd.nd rfl (.inl rfl) (pe_lstU (pa_cons (pe_op op_addN (pv 3) pe_int) (pa_cons (pe_op op_subN (pv 3) pe_int) (pa_cons pe_int (pa_cons pe_int (pa_cons pe_int (pa_cons pe_non (pa_cons (pe_callTy call_uStrN (by rfl) n_str (by decide +kernel) (pa_cons (pv 3) pa_nil)) (pa_cons (pe_cmpR (op_uEq hr.rm.units) (pv 3) pe_int (nomark _)) pa_nil))))))))))
  (pss_one (ps_ret (pe_ix ix_u (pv 4) (pe_go k__law_draw (hr.mono (by decide)) rfl F__law_draw.g F__law_draw.fn.kp F__law_draw.b pass0 (pa_cons (pv 0) (pa_cons pe_int pa_nil))) (fun _ _ => rfl)))))))))

abbrev s__law_spoilt_ : Stmt := topS 38
abbrev N__law_spoilt : List Str := ["pen", "thing", "texts", "spots", "spot", "part", "k"]
theorem sc__law_spoilt : FnScope N__law_spoilt ["pen", "thing", "texts"] (defScope s__law_spoilt_) := ⟨rfl, rfl, rfl, by decide +kernel, rfl, by decide +kernel, by decide +kernel⟩
def t__law_spoilt_b1 (K : PySem.W.Frag) (s__law_spots : Sp) (s__law_draw : Sp) (s__law_put : Sp) (s__law_odd : Sp) : TS :=
  tAsg (tOp (uIx K) (tVar 5) (tVar 6)) (gName 5)
def t__law_spoilt_r1 (K : PySem.W.Frag) (s__law_spots : Sp) (s__law_draw : Sp) (s__law_put : Sp) (s__law_odd : Sp) : TS :=
  tRet (tGo s__law_put E0 (tCons (tVar 1) (tCons (tVar 4) (tCons (tGo s__law_odd E0 (tCons (tVar 0) (tCons (tVar 5) (tCons (tVar 2) (tNil))))) (tNil)))))
def t__law_spoilt (K : PySem.W.Frag) (s__law_spots : Sp) (s__law_draw : Sp) (s__law_put : Sp) (s__law_odd : Sp) : TS :=
  tSeq (tAsg (tGo s__law_spots E0 (tCons (tVar 1) (tNil))) (gName 3)) (tSeq (tAsg (tOp (uIx K) (tVar 3) (tGo s__law_draw E0 (tCons (tVar 0) (tCons (tCB (uLen K) (tCons (tVar 3) (tNil))) (tNil))))) (gName 4)) (tSeq (tAsg (tVar 1) (gName 5)) (tSeq (tFor (iU K (tVar 4)) (gName 6) (t__law_spoilt_b1 K s__law_spots s__law_draw s__law_put s__law_odd)) (t__law_spoilt_r1 K s__law_spots s__law_draw s__law_put s__law_odd))))
theorem dv__law_spoilt {P : Program} {w : World} {K : PySem.W.Frag} {mg : Str → Option Value} {b : Heap} {a : Addr} {d : FuncData} {sp : Sp} (F : Fn K mg "_law_spoilt" s__law_spoilt_ a d ["pen", "thing", "texts"])
    {a__law_spots : Addr} {d__law_spots : FuncData} {s__law_spots : Sp} (F__law_spots : Fn K mg "_law_spots" s__law_spots_ a__law_spots d__law_spots ["thing"]) (k__law_spots : Keeps P w K mg b CX0 8 a__law_spots d__law_spots ["thing"] s__law_spots)
    {a__law_draw : Addr} {d__law_draw : FuncData} {s__law_draw : Sp} (F__law_draw : Fn K mg "_law_draw" s__law_draw_ a__law_draw d__law_draw ["pen", "base"]) (k__law_draw : Keeps P w K mg b CX0 2 a__law_draw d__law_draw ["pen", "base"] s__law_draw)
    (n_len : mg "len" = none)
    {a__law_put : Addr} {d__law_put : FuncData} {s__law_put : Sp} (F__law_put : Fn K mg "_law_put" s__law_put_ a__law_put d__law_put ["thing", "spot", "part"]) (k__law_put : Keeps P w K mg b CX0 8 a__law_put d__law_put ["thing", "spot", "part"] s__law_put)
    {a__law_odd : Addr} {d__law_odd : FuncData} {s__law_odd : Sp} (F__law_odd : Fn K mg "_law_odd" s__law_odd_ a__law_odd d__law_odd ["pen", "part", "texts"]) (k__law_odd : Keeps P w K mg b CX0 4 a__law_odd d__law_odd ["pen", "part", "texts"] s__law_odd)
    (len : ∀ vs H Q E, sp vs H Q E → vs.length = 3)
    (rd : ∀ vs H Q E, sp vs H Q E → run (t__law_spoilt K s__law_spots s__law_draw s__law_put s__law_odd) (start N__law_spoilt vs) H Q) : Keeps P w K mg b CX0 9 a d ["pen", "thing", "texts"] sp := by
  refine keeps0 F.fn sc__law_spoilt len fun cdv A o s H vs Q E hr h => ⟨t__law_spoilt K s__law_spots s__law_draw s__law_put s__law_odd, ?_, rd vs H Q E h⟩
  unfold t__law_spoilt t__law_spoilt_r1 t__law_spoilt_b1
  exact (pss_cons (ps_set (i := 3) sc__law_spoilt.nd rfl (.inl rfl) (pe_go k__law_spots (hr.mono (by decide)) rfl F__law_spots.g F__law_spots.fn.kp F__law_spots.b pass0 (pa_cons (pv 1) pa_nil)))
  (pss_cons (ps_set (i := 4) sc__law_spoilt.nd rfl (.inl rfl) (pe_ix ix_u (pv 3) (pe_go k__law_draw (hr.mono (by decide)) rfl F__law_draw.g F__law_draw.fn.kp F__law_draw.b pass0 (pa_cons (pv 0) (pa_cons (pe_callB call_uLen (by rfl) n_len (by decide +kernel) (pa_cons (pv 3) pa_nil)) pa_nil))) (fun _ _ => rfl)))
  (pss_cons (ps_set (i := 5) sc__law_spoilt.nd rfl (.inl rfl) (pv 1))
  (pss_cons (ps_for PassesOwn.never rfl (pi_u (pv 4)) (pg_name (i := 6) sc__law_spoilt.nd rfl (.inl rfl)) (pss_one (ps_set (i := 5) sc__law_spoilt.nd rfl (.inl rfl) (pe_ix ix_u (pv 5) (pv 6) (fun _ _ => rfl)))))
  (pss_one (ps_ret (pe_go k__law_put (hr.mono (by decide)) rfl F__law_put.g F__law_put.fn.kp F__law_put.b pass0 (pa_cons (pv 1) (pa_cons (pv 4) (pa_cons (pe_go k__law_odd (hr.mono (by decide)) rfl F__law_odd.g F__law_odd.fn.kp F__law_odd.b pass0 (pa_cons (pv 0) (pa_cons (pv 5) (pa_cons (pv 2) pa_nil)))) pa_nil))))))))))

abbrev s__law_deep_ : Stmt := topS 39
abbrev N__law_deep : List Str := ["many", "found", "turn"]
theorem sc__law_deep : FnScope N__law_deep ["many"] (defScope s__law_deep_) := ⟨rfl, rfl, rfl, by decide +kernel, rfl, by decide +kernel, by decide +kernel⟩
def t__law_deep_b1 (K : PySem.W.Frag) : TS :=
  tAsg (tTupU (tCons (tVar 1) (tNil))) (gName 1)
def t__law_deep_r1 (K : PySem.W.Frag) : TS :=
  tRet (tVar 1)
def t__law_deep (K : PySem.W.Frag) : TS :=
  tSeq (tAsg (tTupU (tNil)) (gName 1)) (tSeq (tFor (iRng1 (tCons (tOp (rI0 fun i j => .int (i - j)) (tVar 0) (tC (.int 1))) (tNil))) (gName 2) (t__law_deep_b1 K)) (t__law_deep_r1 K))
theorem dv__law_deep {P : Program} {w : World} {K : PySem.W.Frag} {mg : Str → Option Value} {b : Heap} {a : Addr} {d : FuncData} {sp : Sp} (F : Fn K mg "_law_deep" s__law_deep_ a d ["many"])
    (n_range : mg "range" = none)
    (len : ∀ vs H Q E, sp vs H Q E → vs.length = 1)
    (rd : ∀ vs H Q E, sp vs H Q E → run (t__law_deep K) (start N__law_deep vs) H Q) : Keeps P w K mg b CX0 2 a d ["many"] sp := by
  refine keeps0 F.fn sc__law_deep len fun cdv A o s H vs Q E hr h => ⟨t__law_deep K, ?_, rd vs H Q E h⟩
  unfold t__law_deep t__law_deep_r1 t__law_deep_b1
  exact (pss_cons (ps_set (i := 1) sc__law_deep.nd rfl (.inl rfl) (pe_tupU pa_nil))
  (pss_cons (ps_for PassesOwn.never rfl (pi_range1 (by rfl) n_range (pa_cons (pe_op op_sub (pv 0) pe_int) pa_nil)) (pg_name (i := 2) sc__law_deep.nd rfl (.inl rfl)) (pss_one (ps_set (i := 1) sc__law_deep.nd rfl (.inl rfl) (pe_tupU (pa_cons (pv 1) pa_nil)))))
  (pss_one (ps_ret (pv 1)))))

abbrev s__law_things_ : Stmt := topS 40
abbrev N__law_things : List Str := ["pen", "town", "texts", "found", "turn", "thing", "lists", "road"]
theorem sc__law_things : FnScope N__law_things ["pen", "town"] (defScope s__law_things_) := ⟨rfl, rfl, rfl, by decide +kernel, rfl, by decide +kernel, by decide +kernel⟩
def t__law_things_r1 (K : PySem.W.Frag) (s__law_spoilt : Sp) (s__law_deep : Sp) : TS :=
  tDrop (tBM K "list" uAppend (tVar 3) (tCons (tVar 5) (tNil)))
def t__law_things_b1 (K : PySem.W.Frag) (s__law_spoilt : Sp) (s__law_deep : Sp) : TS :=
  tSeq (tAsg (tGo s__law_spoilt E0 (tCons (tVar 0) (tCons (tVar 1) (tCons (tVar 2) (tNil))))) (gName 5)) (tSeq (tIfS (tTest (tOp (uEq K false) (tOp (rI (fun _ j => 0 < j) fun i j => .int (i % j)) (tVar 4) (tC (.int 2))) (tC (.int 1)))) (tAsg (tGo s__law_spoilt E0 (tCons (tVar 0) (tCons (tVar 5) (tCons (tVar 2) (tNil))))) (gName 5)) (tNext)) (t__law_things_r1 K s__law_spoilt s__law_deep))
def t__law_things_r2 (K : PySem.W.Frag) (s__law_spoilt : Sp) (s__law_deep : Sp) : TS :=
  tSeq (tAsg (tOp (uAdd K) (tVar 3) (tLstU (tCons (tC .non) (tCons (tC (.bl true)) (tCons (tC (.int 0)) (tCons (tC (.str "")) (tCons (tTupU (tNil)) (tCons (tLstU (tNil)) (tCons (tDNewU) (tCons (tLstU (tCons (tVar 1) (tNil))) (tCons (tTupU (tCons (tVar 1) (tNil))) (tCons (tDisp [(tC (.int 0), tVar 1)]) (tNil))))))))))))) (gName 3)) (tSeq (tAsg (tOp (uAdd K) (tVar 3) (tLstU (tCons (tCB (uList K) (tCons (tVar 1) (tNil))) (tCons (tSl (uSl K) (tVar 1) (tNoPart) (tPart (tC (.int 3)))) (tCons (tOp (uAdd K) (tVar 1) (tTupU (tCons (tC (.int 0)) (tNil)))) (tCons (tRevT K (tVar 1)) (tNil))))))) (gName 3)) (tSeq (tDrop (tBM K "list" uAppend (tVar 3) (tCons (tOp (uAdd K) (tTupU (tCons (tCB (uList K) (tCons (tOp (uIx K) (tVar 1) (tC (.int 0))) (tNil))) (tNil))) (tSl (uSl K) (tVar 1) (tPart (tC (.int 1))) (tNoPart))) (tNil)))) (tSeq (tDrop (tBM K "list" uAppend (tVar 3) (tCons (tOp (uAdd K) (tOp (uAdd K) (tSl (uSl K) (tVar 1) (tNoPart) (tPart (tC (.int 1)))) (tTupU (tCons (tCB (uList K) (tCons (tOp (uIx K) (tVar 1) (tC (.int 1))) (tNil))) (tNil)))) (tSl (uSl K) (tVar 1) (tPart (tC (.int 2))) (tNoPart))) (tNil)))) (tSeq (tAsg (tCB (uTuple K) (tCons (tLc (iU K (tOp (uIx K) (tVar 1) (tC (.int 1)))) (gName 7) (tYes) (tCB (uList K) (tCons (tVar 7) (tNil))) [7]) (tNil))) (gName 6)) (tSeq (tDrop (tBM K "list" uAppend (tVar 3) (tCons (tOp (uAdd K) (tOp (uAdd K) (tSl (uSl K) (tVar 1) (tNoPart) (tPart (tC (.int 1)))) (tTupU (tCons (tVar 6) (tNil)))) (tSl (uSl K) (tVar 1) (tPart (tC (.int 2))) (tNoPart))) (tNil)))) (tSeq (tDrop (tBM K "list" uAppend (tVar 3) (tCons (tOp (uAdd K) (tSl (uSl K) (tVar 1) (tNoPart) (tPart (tC (.int 2)))) (tTupU (tCons (tCB (uList K) (tCons (tOp (uIx K) (tVar 1) (tC (.int 2))) (tNil))) (tCons (tOp (uIx K) (tVar 1) (tC (.int 3))) (tNil))))) (tNil)))) (tSeq (tAsg (tOp (uAdd K) (tVar 3) (tLstU (tCons (tGo s__law_deep E0 (tCons (tC (.int 30)) (tNil))) (tCons (tOp (uAdd K) (tSl (uSl K) (tVar 1) (tNoPart) (tPart (tC (.int 3)))) (tTupU (tCons (tGo s__law_deep E0 (tCons (tC (.int 28)) (tNil))) (tNil)))) (tNil))))) (gName 3)) (tRet (tOp (uAdd K) (tVar 3) (tLstU (tCons (tOp (uAdd K) (tSl (uSl K) (tVar 1) (tNoPart) (tPart (tC (.int 3)))) (tTupU (tCons (tOp (uEq K false) (tOp (uIx K) (tVar 1) (tC (.int 3))) (tC (.int 1))) (tNil)))) (tNil))))))))))))
def t__law_things (K : PySem.W.Frag) (s__law_spoilt : Sp) (s__law_deep : Sp) : TS :=
  tSeq (tAsg (tOp (uAdd K) (tCB (uList K) (tCons (tOp (uIx K) (tVar 1) (tC (.int 0))) (tNil))) (tLstU (tCons (tC (.str "")) (tCons (tC (.str "place")) (tCons (tC (.str "a")) (tNil)))))) (gName 2)) (tSeq (tAsg (tLstU (tNil)) (gName 3)) (tSeq (tFor (iRng1 (tCons (tC (.int 16)) (tNil))) (gName 4) (t__law_things_b1 K s__law_spoilt s__law_deep)) (t__law_things_r2 K s__law_spoilt s__law_deep)))
theorem dv__law_things {P : Program} {w : World} {K : PySem.W.Frag} {mg : Str → Option Value} {b : Heap} {a : Addr} {d : FuncData} {sp : Sp} (F : Fn K mg "_law_things" s__law_things_ a d ["pen", "town"])
    (n_list : mg "list" = none)
    (n_range : mg "range" = none)
    {a__law_spoilt : Addr} {d__law_spoilt : FuncData} {s__law_spoilt : Sp} (F__law_spoilt : Fn K mg "_law_spoilt" s__law_spoilt_ a__law_spoilt d__law_spoilt ["pen", "thing", "texts"]) (k__law_spoilt : Keeps P w K mg b CX0 9 a__law_spoilt d__law_spoilt ["pen", "thing", "texts"] s__law_spoilt)
    (n_tuple : mg "tuple" = none)
    {a__law_deep : Addr} {d__law_deep : FuncData} {s__law_deep : Sp} (F__law_deep : Fn K mg "_law_deep" s__law_deep_ a__law_deep d__law_deep ["many"]) (k__law_deep : Keeps P w K mg b CX0 2 a__law_deep d__law_deep ["many"] s__law_deep)
    (len : ∀ vs H Q E, sp vs H Q E → vs.length = 2)
    (rd : ∀ vs H Q E, sp vs H Q E → run (t__law_things K s__law_spoilt s__law_deep) (start N__law_things vs) H Q) : Keeps P w K mg b CX0 10 a d ["pen", "town"] sp := by
  refine keeps0 F.fn sc__law_things len fun cdv A o s H vs Q E hr h => ⟨t__law_things K s__law_spoilt s__law_deep, ?_, rd vs H Q E h⟩
  unfold t__law_things t__law_things_r2 t__law_things_b1 t__law_things_r1
  exact (pss_cons (ps_set (i := 2) sc__law_things.nd rfl (.inl rfl) (pe_op op_uAdd (pe_callTy call_uList (by rfl) n_list (by decide +kernel) (pa_cons (pe_ix ix_u (pv 1) pe_int (fun _ _ => rfl)) pa_nil)) (pe_lstU (pa_cons pe_str (pa_cons pe_str (pa_cons pe_str pa_nil))))))
  (pss_cons (ps_set (i := 3) sc__law_things.nd rfl (.inl rfl) (pe_lstU pa_nil))
  (pss_cons (ps_for PassesOwn.never rfl (pi_range1 (by rfl) n_range (pa_cons pe_int pa_nil)) (pg_name (i := 4) sc__law_things.nd rfl (.inl rfl)) (pss_cons (ps_set (i := 5) sc__law_things.nd rfl (.inl rfl) (pe_go k__law_spoilt (hr.mono (by decide)) rfl F__law_spoilt.g F__law_spoilt.fn.kp F__law_spoilt.b pass0 (pa_cons (pv 0) (pa_cons (pv 1) (pa_cons (pv 2) pa_nil)))))
  (pss_cons (ps_if (pt_cmpR (op_uEq hr.rm.units) (pe_op op_mod (pv 4) pe_int) pe_int (nomark _)) (pss_one (ps_set (i := 5) sc__law_things.nd rfl (.inl rfl) (pe_go k__law_spoilt (hr.mono (by decide)) rfl F__law_spoilt.g F__law_spoilt.fn.kp F__law_spoilt.b pass0 (pa_cons (pv 0) (pa_cons (pv 5) (pa_cons (pv 2) pa_nil)))))) pss_nil)
  (pss_one (ps_expr (pe_bm PySem.F.plainAttrs_list PySem.F.slot_list_append PySem.F.type_list_append mt_uAppend (pv 3) (pa_cons (pv 5) pa_nil)))))))
  (pss_cons (ps_set (i := 3) sc__law_things.nd rfl (.inl rfl) (pe_op op_uAdd (pv 3) (pe_lstU (pa_cons pe_non (pa_cons pe_bl (pa_cons pe_int (pa_cons pe_str (pa_cons (pe_tupU pa_nil) (pa_cons (pe_lstU pa_nil) (pa_cons pe_dnewU (pa_cons (pe_lstU (pa_cons (pv 1) pa_nil)) (pa_cons (pe_tupU (pa_cons (pv 1) pa_nil)) (pa_cons (pe_disp (pps_cons pe_int (pv 1) pps_nil) (by rfl) (by rfl) (fun z => by cases z) (by decide)) pa_nil)))))))))))))
  (pss_cons (ps_set (i := 3) sc__law_things.nd rfl (.inl rfl) (pe_op op_uAdd (pv 3) (pe_lstU (pa_cons (pe_callTy call_uList (by rfl) n_list (by decide +kernel) (pa_cons (pv 1) pa_nil)) (pa_cons (pe_slice sl_u (pv 1) po_none (po_some pe_int)) (pa_cons (pe_op op_uAdd (pv 1) (pe_tupU (pa_cons pe_int pa_nil))) (pa_cons (pe_revT (pv 1)) pa_nil)))))))
  (pss_cons (ps_expr (pe_bm PySem.F.plainAttrs_list PySem.F.slot_list_append PySem.F.type_list_append mt_uAppend (pv 3) (pa_cons (pe_op op_uAdd (pe_tupU (pa_cons (pe_callTy call_uList (by rfl) n_list (by decide +kernel) (pa_cons (pe_ix ix_u (pv 1) pe_int (fun _ _ => rfl)) pa_nil)) pa_nil)) (pe_slice sl_u (pv 1) (po_some pe_int) po_none)) pa_nil)))
  (pss_cons (ps_expr (pe_bm PySem.F.plainAttrs_list PySem.F.slot_list_append PySem.F.type_list_append mt_uAppend (pv 3) (pa_cons (pe_op op_uAdd (pe_op op_uAdd (pe_slice sl_u (pv 1) po_none (po_some pe_int)) (pe_tupU (pa_cons (pe_callTy call_uList (by rfl) n_list (by decide +kernel) (pa_cons (pe_ix ix_u (pv 1) pe_int (fun _ _ => rfl)) pa_nil)) pa_nil))) (pe_slice sl_u (pv 1) (po_some pe_int) po_none)) pa_nil)))
  (pss_cons (ps_set (i := 6) sc__law_things.nd rfl (.inl rfl) (pe_callTy call_uTuple (by rfl) n_tuple (by decide +kernel) (pa_cons (pe_lc (own := [("road", 7)]) rfl sc__law_things.nd (pi_u (pe_ix ix_u (pv 1) pe_int (fun _ _ => rfl))) (blkOk_by (own := [("road", 7)]) (N := N__law_things) (sc := defScope s__law_things_) (by decide +kernel)) (fun _ _ _ _ _ => (pg_name (i := 7) sc__law_things.nd rfl (.inl rfl))) (fun _ _ _ _ _ => pts_nil) (fun _ _ _ _ _ => (pe_callTy call_uList (by rfl) n_list (by decide +kernel) (pa_cons (pv 7) pa_nil)))) pa_nil)))
  (pss_cons (ps_expr (pe_bm PySem.F.plainAttrs_list PySem.F.slot_list_append PySem.F.type_list_append mt_uAppend (pv 3) (pa_cons (pe_op op_uAdd (pe_op op_uAdd (pe_slice sl_u (pv 1) po_none (po_some pe_int)) (pe_tupU (pa_cons (pv 6) pa_nil))) (pe_slice sl_u (pv 1) (po_some pe_int) po_none)) pa_nil)))
  (pss_cons (ps_expr (pe_bm PySem.F.plainAttrs_list PySem.F.slot_list_append PySem.F.type_list_append mt_uAppend (pv 3) (pa_cons (pe_op op_uAdd (pe_slice sl_u (pv 1) po_none (po_some pe_int)) (pe_tupU (pa_cons (pe_callTy call_uList (by rfl) n_list (by decide +kernel) (pa_cons (pe_ix ix_u (pv 1) pe_int (fun _ _ => rfl)) pa_nil)) (pa_cons (pe_ix ix_u (pv 1) pe_int (fun _ _ => rfl)) pa_nil)))) pa_nil)))
  (pss_cons (ps_set (i := 3) sc__law_things.nd rfl (.inl rfl) (pe_op op_uAdd (pv 3) (pe_lstU (pa_cons (pe_go k__law_deep (hr.mono (by decide)) rfl F__law_deep.g F__law_deep.fn.kp F__law_deep.b pass0 (pa_cons pe_int pa_nil)) (pa_cons (pe_op op_uAdd (pe_slice sl_u (pv 1) po_none (po_some pe_int)) (pe_tupU (pa_cons (pe_go k__law_deep (hr.mono (by decide)) rfl F__law_deep.g F__law_deep.fn.kp F__law_deep.b pass0 (pa_cons pe_int pa_nil)) pa_nil))) pa_nil)))))
  (pss_one (ps_ret (pe_op op_uAdd (pv 3) (pe_lstU (pa_cons (pe_op op_uAdd (pe_slice sl_u (pv 1) po_none (po_some pe_int)) (pe_tupU (pa_cons (pe_cmpR (op_uEq hr.rm.units) (pe_ix ix_u (pv 1) pe_int (fun _ _ => rfl)) pe_int (nomark _)) pa_nil))) pa_nil))))))))))))))))

abbrev s_law_ : Stmt := topS 41
abbrev N_law : List Str := ["script", "k", "pen", "town", "thing", "kept"]
theorem sc_law : FnScope N_law ["script"] (defScope s_law_) := ⟨rfl, rfl, rfl, by decide +kernel, rfl, by decide +kernel, by decide +kernel⟩
def t_law_b1 (K : PySem.W.Frag) (s__law_pen : Sp) (s__law_town : Sp) (s_is_town : Sp) (s__law_things : Sp) (s__law_is_town : Sp) : TS :=
  tSeq (tAsg (tCB (uReprX K) (tCons (tVar 4) (tNil))) (gName 5)) (tIfS (tOr (tTest (tOp (uEq K true) (tCB (uReprX K) (tCons (tGo s_is_town E0 (tCons (tVar 4) (tNil))) (tNil))) (tCB (uReprX K) (tCons (tGo s__law_is_town E0 (tCons (tVar 4) (tNil))) (tNil))))) (tTest (tOp (uEq K true) (tCB (uReprX K) (tCons (tVar 4) (tNil))) (tVar 5)))) (tRet (tC (.bl false))) (tNext))
def t_law_r1 (K : PySem.W.Frag) (s__law_pen : Sp) (s__law_town : Sp) (s_is_town : Sp) (s__law_things : Sp) (s__law_is_town : Sp) : TS :=
  tIfS (tOr (tTest (tOp rNotB (tGo s_is_town E0 (tCons (tVar 3) (tNil))) (tC (.bl true)))) (tNot (tTru K (tGo s__law_is_town E0 (tCons (tVar 3) (tNil)))))) (tRet (tC (.bl false))) (tNext)
def t_law_r2 (K : PySem.W.Frag) (s__law_pen : Sp) (s__law_town : Sp) (s_is_town : Sp) (s__law_things : Sp) (s__law_is_town : Sp) : TS :=
  tSeq (tFor (iU K (tGo s__law_things E0 (tCons (tVar 2) (tCons (tVar 3) (tNil))))) (gName 4) (t_law_b1 K s__law_pen s__law_town s_is_town s__law_things s__law_is_town)) (t_law_r1 K s__law_pen s__law_town s_is_town s__law_things s__law_is_town)
def t_law_b2 (K : PySem.W.Frag) (s__law_pen : Sp) (s__law_town : Sp) (s_is_town : Sp) (s__law_things : Sp) (s__law_is_town : Sp) : TS :=
  tSeq (tAsg (tGo s__law_pen E0 (tCons (tVar 0) (tCons (tVar 1) (tNil)))) (gName 2)) (tSeq (tAsg (tGo s__law_town E0 (tCons (tVar 2) (tNil))) (gName 3)) (tSeq (tIfS (tTest (tOp rNotB (tGo s_is_town E0 (tCons (tVar 3) (tNil))) (tC (.bl true)))) (tRet (tC (.bl false))) (tNext)) (t_law_r2 K s__law_pen s__law_town s_is_town s__law_things s__law_is_town)))
def t_law_r3 (K : PySem.W.Frag) (s__law_pen : Sp) (s__law_town : Sp) (s_is_town : Sp) (s__law_things : Sp) (s__law_is_town : Sp) : TS :=
  tRet (tC (.bl true))
def t_law (K : PySem.W.Frag) (s__law_pen : Sp) (s__law_town : Sp) (s_is_town : Sp) (s__law_things : Sp) (s__law_is_town : Sp) : TS :=
  tSeq (tFor (iRng1 (tCons (tCB uMax2 (tCons (tC (.int 1)) (tCons (tCB uMin2 (tCons (tC (.int 12)) (tCons (tCB (uLen K) (tCons (tVar 0) (tNil))) (tNil)))) (tNil)))) (tNil))) (gName 1) (t_law_b2 K s__law_pen s__law_town s_is_town s__law_things s__law_is_town)) (t_law_r3 K s__law_pen s__law_town s_is_town s__law_things s__law_is_town)
theorem dv_law {P : Program} {w : World} {K : PySem.W.Frag} {mg : Str → Option Value} {b : Heap} {a : Addr} {d : FuncData} {sp : Sp} (F : Fn K mg "law" s_law_ a d ["script"])
    (n_range : mg "range" = none)
    (n_max : mg "max" = none)
    (n_min : mg "min" = none)
    (n_len : mg "len" = none)
    {a__law_pen : Addr} {d__law_pen : FuncData} {s__law_pen : Sp} (F__law_pen : Fn K mg "_law_pen" s__law_pen_ a__law_pen d__law_pen ["script", "k"]) (k__law_pen : Keeps P w K mg b CX0 2 a__law_pen d__law_pen ["script", "k"] s__law_pen)
    {a__law_town : Addr} {d__law_town : FuncData} {s__law_town : Sp} (F__law_town : Fn K mg "_law_town" s__law_town_ a__law_town d__law_town ["pen"]) (k__law_town : Keeps P w K mg b CX0 5 a__law_town d__law_town ["pen"] s__law_town)
    {a_is_town : Addr} {d_is_town : FuncData} {s_is_town : Sp} (F_is_town : Fn K mg "is_town" s_is_town_ a_is_town d_is_town ["thing"]) (k_is_town : Keeps P w K mg b CX0 8 a_is_town d_is_town ["thing"] s_is_town)
    {a__law_things : Addr} {d__law_things : FuncData} {s__law_things : Sp} (F__law_things : Fn K mg "_law_things" s__law_things_ a__law_things d__law_things ["pen", "town"]) (k__law_things : Keeps P w K mg b CX0 10 a__law_things d__law_things ["pen", "town"] s__law_things)
    (n_repr : mg "repr" = none)
    {a__law_is_town : Addr} {d__law_is_town : FuncData} {s__law_is_town : Sp} (F__law_is_town : Fn K mg "_law_is_town" s__law_is_town_ a__law_is_town d__law_is_town ["thing"]) (k__law_is_town : Keeps P w K mg b CX0 5 a__law_is_town d__law_is_town ["thing"] s__law_is_town)
    (len : ∀ vs H Q E, sp vs H Q E → vs.length = 1)
    (rd : ∀ vs H Q E, sp vs H Q E → run (t_law K s__law_pen s__law_town s_is_town s__law_things s__law_is_town) (start N_law vs) H Q) : Keeps P w K mg b CX0 11 a d ["script"] sp := by
  refine keeps0 F.fn sc_law len fun cdv A o s H vs Q E hr h => ⟨t_law K s__law_pen s__law_town s_is_town s__law_things s__law_is_town, ?_, rd vs H Q E h⟩
  unfold t_law t_law_r3 t_law_b2 t_law_r2 t_law_r1 t_law_b1
  exact (pss_cons (ps_for PassesOwn.never rfl (pi_range1 (by rfl) n_range (pa_cons (pe_callB (call_uMax2 rfl) (by rfl) n_max (by decide +kernel) (pa_cons pe_int (pa_cons (pe_callB (call_uMin2 rfl) (by rfl) n_min (by decide +kernel) (pa_cons pe_int (pa_cons (pe_callB call_uLen (by rfl) n_len (by decide +kernel) (pa_cons (pv 0) pa_nil)) pa_nil))) pa_nil))) pa_nil)) (pg_name (i := 1) sc_law.nd rfl (.inl rfl)) (pss_cons (ps_set (i := 2) sc_law.nd rfl (.inl rfl) (pe_go k__law_pen (hr.mono (by decide)) rfl F__law_pen.g F__law_pen.fn.kp F__law_pen.b pass0 (pa_cons (pv 0) (pa_cons (pv 1) pa_nil))))
  (pss_cons (ps_set (i := 3) sc_law.nd rfl (.inl rfl) (pe_go k__law_town (hr.mono (by decide)) rfl F__law_town.g F__law_town.fn.kp F__law_town.b pass0 (pa_cons (pv 2) pa_nil)))
  (pss_cons (ps_if (pt_cmpR op_notBl (pe_go k_is_town (hr.mono (by decide)) rfl F_is_town.g F_is_town.fn.kp F_is_town.b pass0 (pa_cons (pv 3) pa_nil)) pe_bl (nomark _)) (pss_one (ps_ret pe_bl)) pss_nil)
  (pss_cons (ps_for PassesOwn.never rfl (pi_u (pe_go k__law_things (hr.mono (by decide)) rfl F__law_things.g F__law_things.fn.kp F__law_things.b pass0 (pa_cons (pv 2) (pa_cons (pv 3) pa_nil)))) (pg_name (i := 4) sc_law.nd rfl (.inl rfl)) (pss_cons (ps_set (i := 5) sc_law.nd rfl (.inl rfl) (pe_callB (call_uReprX (hr.mono (by decide))) (by rfl) n_repr (by decide +kernel) (pa_cons (pv 4) pa_nil)))
  (pss_one (ps_if (PW.pt (pw_or (pt_cmpR (op_uNe hr.rm.units) (pe_callB (call_uReprX (hr.mono (by decide))) (by rfl) n_repr (by decide +kernel) (pa_cons (pe_go k_is_town (hr.mono (by decide)) rfl F_is_town.g F_is_town.fn.kp F_is_town.b pass0 (pa_cons (pv 4) pa_nil)) pa_nil)) (pe_callB (call_uReprX (hr.mono (by decide))) (by rfl) n_repr (by decide +kernel) (pa_cons (pe_go k__law_is_town (hr.mono (by decide)) rfl F__law_is_town.g F__law_is_town.fn.kp F__law_is_town.b pass0 (pa_cons (pv 4) pa_nil)) pa_nil)) (nomark _)) (pw_or1 (pt_cmpR (op_uNe hr.rm.units) (pe_callB (call_uReprX (hr.mono (by decide))) (by rfl) n_repr (by decide +kernel) (pa_cons (pv 4) pa_nil)) (pv 5) (nomark _))))) (pss_one (ps_ret pe_bl)) pss_nil))))
  (pss_one (ps_if (PW.pt (pw_or (pt_cmpR op_notBl (pe_go k_is_town (hr.mono (by decide)) rfl F_is_town.g F_is_town.fn.kp F_is_town.b pass0 (pa_cons (pv 3) pa_nil)) pe_bl (nomark _)) (pw_or1 (pt_not (pt_tru (pe_go k__law_is_town (hr.mono (by decide)) rfl F__law_is_town.g F__law_is_town.fn.kp F__law_is_town.b pass0 (pa_cons (pv 3) pa_nil))))))) (pss_one (ps_ret pe_bl)) pss_nil)))))))
  (pss_one (ps_ret pe_bl)))


local macro_rules | `(tactic| walk_at "hp") => `(tactic| first | assumption | (refine Keep.at (by assumption) ?_ ?_ <;> first | exact nin0 | (refine nin1 ?_; walk_at "ne") | walk_at "hp"))
local macro_rules | `(tactic| walk_at "ne") => `(tactic| first | assumption | (refine Ne.symm ?_; assumption) | exact Tup.neL (by assumption) (by assumption) | exact ne_of_none (by assumption) (by assumption) | exact (ne_of_none (by assumption) (by assumption)).symm)
local macro_rules | `(tactic| walk_at "sx") => `(tactic| try simp only [run, tSeq, tAsg, tIfS, tTest, tOp, tUn, tVar, tC, tRet, tRetN, tDrop, gName, gSub, gCons, gNil, tNext, tCons, tNil, tGo, tCB, tAndT, tOrT, tNotT, tTru, tAnd, tOr, tNot, tChain, tIf, tLstU, tTupU, tSl, tPart, tNoPart, tPar, tBM, tBM0, tDNewU, tDic1,
  List.getElem?_cons_zero, List.getElem?_cons_succ, List.set_cons_zero, List.set_cons_succ, Option.some.injEq, exists_eq_left', exists_eq_left, V.int.injEq, V.bl.injEq, V.str.injEq, V.ref.injEq, true_and, and_true, e_rI, e_rI0, e_rU, e_addI, e_addS, e_mulI, e_abs, e_max2, e_min2, e_str, e_intI, e_intB, e_isN, e_notN, e_truB, e_truI, wipe, tYes, tDicI, tIdx, tM1, tM0, e_lcU, e_lcR1, e_ten6, e_ten18, e_ten60, e_mkV, e_mkA, e_raW, e_xfV, e_for1, e_for2, e_forU, e_forE, e_lcZ, e_dget, e_dput, e_forE, decide_eq_true_eq, if_true, if_false, ite_true, ite_false, Bool.false_eq_true, Bool.not_true, Bool.not_false, Bool.true_eq_false])
local macro_rules | `(tactic| walk_at "sz") => `(tactic| (first | refine len_le ?_ | refine len_lt ?_ | skip); simp only [List.length_cons, List.length_nil, List.length_append, List.length_map, List.length_replicate, List.length_set]; omega)
/-! ### the draws -/
/-- a pen that k draws may be taken of -/
def Pen (H : Hp) (p : Addr) (k : Nat) : Prop := ∃ d c n : Int, H p = some (.lst [.int d, .int c, .int n]) ∧ 0 ≤ d ∧ 0 ≤ c ∧ c < 2147483629 ∧ 0 ≤ n ∧ n + (k : Int) ≤ 1000000
theorem Pen.less {H : Hp} {p : Addr} {j k : Nat} (h : Pen H p k) (l : j ≤ k) : Pen H p j := by
  obtain ⟨d, c, n, e, h1, h2, h3, h4, h5⟩ := h
  exact ⟨d, c, n, e, h1, h2, h3, h4, by omega⟩
theorem Pen.keep {H H' : Hp} {p : Addr} {k : Nat} (h : Pen H p k) (q : Keep [] H H') : Pen H' p k := by
  obtain ⟨d, c, n, e, r⟩ := h
  exact ⟨d, c, n, q _ _ nin0 e, r⟩
theorem Pen.at {H : Hp} {p : Addr} {k : Nat} (h : Pen H p k) : ∃ xs, H p = some (.lst xs) := by
  obtain ⟨d, c, n, e, r⟩ := h
  exact ⟨_, e⟩
def spDraw : Sp := fun vs H Q _ => ∃ (p : Addr) (b : Int) (k : Nat), vs = [.ref p, .int b] ∧ 0 < b ∧ b < 1073741824 ∧ Pen H p (k + 1) ∧ ∀ r H', 0 ≤ r → r < b → Keep [p] H H' → Pen H' p k → Q (.int r) H'
theorem cmul_small {i j : Int} (h : -(2 ^ 64) < i ∧ i < 2 ^ 64) : CMul i j := .inl h
theorem cmul_right {i j : Int} (h : -(2 ^ 64) < j ∧ j < 2 ^ 64) : CMul i j := .inr h
theorem rd_draw (K : PySem.W.Frag) : ∀ vs H Q E, spDraw vs H Q E → run (t__law_draw K) (L2.start N__law_draw vs) H Q := by
  rintro _ H Q _ ⟨p, b, k, rfl, b0, b1, ⟨d, c, n, hp, d0, c0, c1, n0, nk⟩, q⟩
  show run (t__law_draw K) [some (.ref p), some (.int b), none, none, none] H Q
  unfold t__law_draw
  walk_at "sx"
  refine g_ixL hp (at_lit 0 rfl rfl) ?_
  walk_at "sx"
  by_cases h : 0 < d
  · rw [if_pos h]
    refine g_ixL hp (at_lit 0 rfl rfl) ?_
    walk_at "sx"
    refine ⟨b0, g_ixL hp (at_lit 0 rfl rfl) ?_⟩
    walk_at "sx"
    refine ⟨⟨b0, b1⟩, g_setL hp (k := 0) rfl fun H' k1 hp1 => ?_⟩
    refine q _ _ (Int.emod_nonneg _ (by omega)) (Int.emod_lt_of_pos _ b0) k1 ⟨_, c, n, hp1, Int.ediv_nonneg d0 (by omega), c0, c1, n0, by omega⟩
  · rw [if_neg h]
    unfold t__law_draw_r1
    walk_at "sx"
    refine g_ixL hp (at_lit 2 rfl rfl) ?_
    walk_at "sx"
    refine g_setL hp (k := 2) rfl fun H1 k1 hp1 => ?_
    have hp1' : H1 p = some (.lst [.int d, .int c, .int (n + 1)]) := hp1
    refine g_ixL hp1' (at_lit 2 rfl rfl) (g_ixL hp1' (at_lit 1 rfl rfl) ?_)
    walk_at "sx"
    refine ⟨cmul_right (by decide), cmul_small (by decide), cmul_right (by omega), cmul_small (by decide), by decide, by decide, cmul_right ?_, by decide, cmul_right (by decide), by decide, ⟨by decide, by decide⟩, b0, ?_⟩
    · generalize (c * 40503 + 7919 * (n + 1) * (n + 1) + 104729 * (n + 1)) % 2147483647 = x
      have h1 := Int.emod_nonneg x (show (65003 : Int) ≠ 0 by decide)
      have h2 := Int.emod_lt_of_pos x (show (0 : Int) < 65003 by decide)
      omega
    · refine q _ _ (Int.emod_nonneg _ (by omega)) (Int.emod_lt_of_pos _ b0) k1 ⟨d, c, n + 1, hp1', d0, c0, c1, by omega, by omega⟩
def spPen (K : PySem.W.Frag) : Sp := fun vs H Q _ => ∃ (a : Addr) (k : Int) (ns : List Int), vs = [.ref a, .int k] ∧ SqL K H a (ns.map V.int) ∧ 0 ≤ k ∧ ∀ p H', H p = none → Keep [] H H' → Pen H' p 1000000 → Q (.ref p) H'
theorem rd_pen (K : PySem.W.Frag) : ∀ vs H Q E, spPen K vs H Q E → run (t__law_pen K) (L2.start N__law_pen vs) H Q := by
  rintro _ H Q _ ⟨a, k, ns, rfl, hS, k0, q⟩
  show run (t__law_pen K) [some (.ref a), some (.int k), none, none] H Q
  have fin2 : ∀ cell dg : Int, 0 ≤ dg → t__law_pen_r1 K { nx := fun _ H' => Q .non H', rt := Q } [some (.ref a), some (.int k), some (.int cell), some (.int dg)] H := fun cell dg hd => by
    unfold t__law_pen_r1
    walk_at "sx"
    refine ⟨by decide, by walk_at "sz", fun p H' n kp hp => q p H' n kp ⟨_, _, 0, hp, hd, Int.emod_nonneg _ (by decide), Int.emod_lt_of_pos _ (by decide), by omega, by omega⟩⟩
  have fin : ∀ cell : Int, t__law_pen_r2 K { nx := fun _ H' => Q .non H', rt := Q } [some (.ref a), some (.int k), some (.int cell), none] H := fun cell => by
    unfold t__law_pen_r2
    walk_at "sx"
    refine ⟨⟨by decide, by decide, by decide⟩, ?_⟩
    by_cases h : 1000000000000000000 ≤ if cell < 0 then -cell else cell
    · rw [if_pos h]
      refine fin2 cell _ ?_
      split <;> omega
    · rw [if_neg h]
      exact fin2 cell 0 (by decide)
  unfold t__law_pen
  walk_at "sx"
  refine g_lenQ hS ?_
  walk_at "sx"
  rw [List.length_map]
  by_cases h : k < (ns.length : Int)
  · rw [if_pos h]
    have e : ((ns.map V.int))[k.toNat]? = some (.int ns[k.toNat]) := by
      rw [List.getElem?_map, List.getElem?_eq_getElem (show k.toNat < ns.length by omega)]
      rfl
    exact g_ixQ hS (at_lit k.toNat (by omega) e) (fin _)
  · rw [if_neg h]
    exact fin 0
/-! ### texts by their signs -/
def cl (z : Str) : List Nat := z.cps.toList
theorem cl_app (x y : Str) : cl (x ++ y) = cl x ++ cl y := PySem.W.KT.app_list x y
theorem cl_inj {x y : Str} (h : cl x = cl y) : x = y := by
  obtain ⟨a⟩ := x
  obtain ⟨b⟩ := y
  exact congrArg Str.mk (Array.ext' h)
theorem cl_len (z : Str) : z.length = (cl z).length := by
  show z.cps.size = z.cps.toList.length
  rw [Array.length_toList]
theorem cl_cut (z : Str) (lo hi : Option Int) : cl (cutS z lo hi) = ((cl z).drop (HT.sIx z.length 0 lo)).take (HT.sIx z.length z.length hi - HT.sIx z.length 0 lo) := by
  unfold cl cutS
  simp
theorem cl_one (c : Nat) : cl ⟨#[c]⟩ = [c] := rfl
theorem cl_join0 : ∀ ys : List Str, cl (Txt.join "" ys) = (ys.map cl).flatten := by
  intro ys
  have h := TL.tl_join "" ys
  rw [TL.join_eq]
  have e : ∀ l : List (List Nat), TL.joinL [] l = l.flatten := by
    intro l
    induction l with
    | nil => rfl
    | cons a r ih =>
      cases r with
      | nil => simp [TL.joinL]
      | cons b r => 
        simp only [TL.joinL, List.nil_append, List.flatten_cons]
        rw [ih]
        simp
  exact h.trans (e _)
def sgn (i : Nat) : Nat := if i < 26 then 97 + i else 48 + (i - 26)
theorem sgn_at : ∀ i, i < 36 → (cl "abcdefghijklmnopqrstuvwxyz0123456789")[i]? = some (sgn i) := by decide +kernel
theorem sgn_inj {i j : Nat} (hi : i < 36) (hj : j < 36) (h : sgn i = sgn j) : i = j := by
  unfold sgn at h
  split at h <;> split at h <;> omega
def isLt (c : Nat) : Prop := 97 ≤ c ∧ c ≤ 122
def isSg (c : Nat) : Prop := isLt c ∨ (48 ≤ c ∧ c ≤ 57)
theorem sgn_sg {i : Nat} (h : i < 36) : isSg (sgn i) := by
  unfold isSg isLt sgn
  split <;> omega
theorem sgn_lt {i : Nat} (h : i < 26) : isLt (sgn i) := by
  unfold isLt sgn
  rw [if_pos h]
  omega
/-- a name by its signs -/
def NameOk (l : List Nat) : Prop := 1 ≤ l.length ∧ l.length ≤ 8 ∧ (∀ c ∈ l, isSg c) ∧ ∀ c, l.head? = some c → isLt c
instance (c : Nat) : Decidable (isLt c) := by unfold isLt; infer_instance
instance (c : Nat) : Decidable (isSg c) := by unfold isSg; infer_instance
def nameB (l : List Nat) : Bool := decide (1 ≤ l.length) && decide (l.length ≤ 8) && l.all (fun c => decide (isSg c)) && (l.take 1).all (fun c => decide (isLt c))
theorem nameB_ok {l : List Nat} (h : nameB l = true) : NameOk l := by
  unfold nameB at h
  simp only [Bool.and_eq_true, decide_eq_true_eq, List.all_eq_true] at h
  obtain ⟨⟨⟨h1, h2⟩, h3⟩, h4⟩ := h
  refine ⟨h1, h2, h3, fun c hc => h4 c ?_⟩
  cases l with
  | nil => cases hc
  | cons a r => cases hc; simp
/-! ### names -/
/-- the word with the sign c at its place t -/
def putAt (w : List Nat) (t c : Nat) : List Nat := w.take t ++ [c] ++ w.drop (t + 1)
theorem putAt_len {w : List Nat} {t c : Nat} (h : t < w.length) : (putAt w t c).length = w.length := by
  unfold putAt
  simp
  omega
theorem putAt_get {w : List Nat} {t c : Nat} (h : t < w.length) : (putAt w t c)[t]? = some c := by
  unfold putAt
  rw [List.append_assoc, List.getElem?_append_right (by simp; omega)]
  simp
  have : t - min t w.length = 0 := by omega
  rw [this]
  rfl
theorem putAt_sg {w : List Nat} {t c : Nat} (h : ∀ x ∈ w, isSg x) (hc : isSg c) : ∀ x ∈ putAt w t c, isSg x := by
  intro x hx
  unfold putAt at hx
  simp only [List.mem_append, List.mem_singleton] at hx
  rcases hx with (hx | rfl) | hx
  · exact h x (List.mem_of_mem_take hx)
  · exact hc
  · exact h x (List.mem_of_mem_drop hx)
theorem putAt_head {w : List Nat} {t c : Nat} (hl : t < w.length) (h : ∀ x, w.head? = some x → isLt x) (hc : t = 0 → isLt c) : ∀ x, (putAt w t c).head? = some x → isLt x := by
  intro x hx
  unfold putAt at hx
  cases t with
  | zero =>
    simp at hx
    rw [← hx]
    exact hc rfl
  | succ t =>
    cases w with
    | nil => exact absurd hl (by simp)
    | cons a r =>
      simp at hx
      exact h x (by simp [hx])
theorem take_name {l : List Nat} {n : Nat} (h1 : 1 ≤ l.length) (h2 : l.length ≤ 8) (h3 : ∀ c ∈ l, isSg c) (h4 : ∀ c, l.head? = some c → isLt c) (hn : 1 ≤ n) : NameOk (l.take n) := by
  refine ⟨by rw [List.length_take]; omega, by rw [List.length_take]; omega, fun c hc => h3 c (List.mem_of_mem_take hc), fun c hc => h4 c ?_⟩
  cases l with
  | nil => simp at hc
  | cons a r =>
    obtain ⟨m, rfl⟩ : ∃ m, n = m + 1 := ⟨n - 1, by omega⟩
    simpa using hc
theorem words_special : Txt.split "free to at sent there cut done off call told passed on open shut grade bare held" " " = (["free", "to", "at", "sent", "there", "cut", "done", "off", "call", "told", "passed", "on", "open", "shut", "grade", "bare", "held"] : List String).map Str.ofString := by decide +kernel
def specials : List Str := (["free", "to", "at", "sent", "there", "cut", "done", "off", "call", "told", "passed", "on", "open", "shut", "grade", "bare", "held", "moved", "stands", "drives"] : List String).map Str.ofString
theorem specials_ok : ∀ z ∈ specials, NameOk (cl z) := by
  intro z hz
  have h : ∀ z ∈ specials, nameB (cl z) = true := by decide +kernel
  exact nameB_ok (h z hz)
/-! ### towns -/
def mV : Option Int → V
  | none => .non
  | some i => .int i
structure Rd where
  one : Str
  two : Str
  there : Option Int
  back : Option Int
structure Tn where
  places : List Str
  roads : List Rd
  stands : List Str
  reach : Int
def minOk (t : Option Int) : Prop := ∀ i, t = some i → 1 ≤ i ∧ i ≤ 60
structure RdOk (ys : List Str) (r : Rd) : Prop where
  one : r.one ∈ ys
  two : r.two ∈ ys
  ne : r.one ≠ r.two
  there : minOk r.there
  back : minOk r.back
  some : r.there ≠ none ∨ r.back ≠ none
structure TnOk (T : Tn) : Prop where
  p1 : 1 ≤ T.places.length
  p10 : T.places.length ≤ 10
  nd : T.places.Nodup
  nm : ∀ y ∈ T.places, NameOk (cl y)
  r18 : T.roads.length ≤ 18
  rd : ∀ r ∈ T.roads, RdOk T.places r
  s1 : 1 ≤ T.stands.length
  s5 : T.stands.length ≤ 5
  sn : T.stands.Nodup
  sp : ∀ y ∈ T.stands, y ∈ T.places
  re0 : 0 ≤ T.reach
  re1 : T.reach ≤ 120
def RdAt (H : Hp) (p : Addr) (r : Rd) : Prop := Tup H p [.str r.one, .str r.two, mV r.there, mV r.back]
/-- the roads' tuples, one by one -/
inductive RdsAt (H : Hp) : List V → List Rd → Prop
  | nil : RdsAt H [] []
  | cons {p : Addr} {r : Rd} {vs : List V} {rs : List Rd} : RdAt H p r → RdsAt H vs rs → RdsAt H (.ref p :: vs) (r :: rs)
def TnAt (H : Hp) (a : Addr) (T : Tn) : Prop := ∃ ap ar as vs, Tup H a [.ref ap, .ref ar, .ref as, .int T.reach] ∧ Tup H ap (T.places.map V.str) ∧ Tup H ar vs ∧ RdsAt H vs T.roads ∧ Tup H as (T.stands.map V.str)
/-- what is changed is no tuple -/
def NoTup (S : List Addr) (H : Hp) : Prop := ∀ a xs, Tup H a xs → a ∉ S
theorem noTup0 {H : Hp} : NoTup [] H := fun _ _ _ => nin0
theorem noTup1 {H : Hp} {l : Addr} {xs : List V} (h : H l = some (.lst xs)) : NoTup [l] H := fun _ _ t => nin1 (t.neL h)
theorem noTupNew {H : Hp} {l : Addr} (h : H l = none) : NoTup [l] H := fun a _ t => nin1 fun z => by
  obtain ⟨o, e⟩ := t.there
  rw [z, h] at e
  cases e
theorem RdAt.keep {S : List Addr} {H H' : Hp} {p : Addr} {r : Rd} (h : RdAt H p r) (k : Keep S H H') (n : NoTup S H) : RdAt H' p r := Tup.keep h k (n _ _ h)
theorem RdsAt.keep {S : List Addr} {H H' : Hp} (k : Keep S H H') (n : NoTup S H) : ∀ {vs : List V} {rs : List Rd}, RdsAt H vs rs → RdsAt H' vs rs
  | _, _, .nil => .nil
  | _, _, .cons h q => .cons (h.keep k n) (RdsAt.keep k n q)
theorem TnAt.keep {S : List Addr} {H H' : Hp} {a : Addr} {T : Tn} (h : TnAt H a T) (k : Keep S H H') (n : NoTup S H) : TnAt H' a T := by
  obtain ⟨ap, ar, as, vs, h1, h2, h3, h4, h5⟩ := h
  exact ⟨ap, ar, as, vs, h1.keep k (n _ _ h1), h2.keep k (n _ _ h2), h3.keep k (n _ _ h3), h4.keep k n, h5.keep k (n _ _ h5)⟩
theorem RdsAt.len {H : Hp} : ∀ {vs : List V} {rs : List Rd}, RdsAt H vs rs → vs.length = rs.length
  | _, _, .nil => rfl
  | _, _, .cons _ q => congrArg (· + 1) q.len
theorem RdsAt.snoc {H : Hp} {p : Addr} {r : Rd} (h : RdAt H p r) : ∀ {vs : List V} {rs : List Rd}, RdsAt H vs rs → RdsAt H (vs ++ [.ref p]) (rs ++ [r])
  | _, _, .nil => .cons h .nil
  | _, _, .cons h' q => .cons h' (RdsAt.snoc h q)
theorem RdsAt.get {H : Hp} : ∀ {vs : List V} {rs : List Rd} {i : Nat} {r : Rd}, RdsAt H vs rs → rs[i]? = some r → ∃ p, vs[i]? = some (.ref p) ∧ RdAt H p r
  | _, _, _, _, .nil, e => by simp at e
  | _, _, 0, _, .cons (p := p) h _, e => by
    simp at e
    subst e
    exact ⟨p, rfl, h⟩
  | _, _, i + 1, _, .cons _ q, e => by
    obtain ⟨p, h1, h2⟩ := RdsAt.get (i := i) q (by simpa using e)
    exact ⟨p, by simpa using h1, h2⟩
theorem turned_sub {ys : List Str} {a k : Nat} (ha : a ≤ ys.length) (hk : k ≤ ys.length) : (((ys ++ ys).drop a).take k).Sublist (ys.drop a ++ ys.take a) := by
  rw [List.drop_append_of_le_length ha, List.take_append]
  refine List.Sublist.append (List.take_sublist _ _) ?_
  have : k - (ys.drop a).length ≤ a := by rw [List.length_drop]; omega
  exact List.IsPrefix.sublist (List.take_prefix_take_left this)
theorem turned_nodup {ys : List Str} {a k : Nat} (h : ys.Nodup) (ha : a ≤ ys.length) (hk : k ≤ ys.length) : (((ys ++ ys).drop a).take k).Nodup := by
  have e : (ys.drop a ++ ys.take a).Nodup := by
    have h2 := h
    rw [← List.take_append_drop a ys, List.nodup_append] at h2
    rw [List.nodup_append]
    exact ⟨h2.2.1, h2.1, fun x hx y hy e => h2.2.2 y hy x hx e.symm⟩
  exact e.sublist (turned_sub ha hk)
theorem turned_mem {ys : List Str} {a k : Nat} : ∀ y ∈ ((ys ++ ys).drop a).take k, y ∈ ys := fun y hy => by
  have := List.mem_of_mem_drop (List.mem_of_mem_take hy)
  simpa using this
/-! rows of any kind -/
inductive Rws {α : Type} (f : α → List V) (H : Hp) : List V → List α → Prop
  | nil : Rws f H [] []
  | cons {p : Addr} {r : α} {vs : List V} {rs : List α} : Tup H p (f r) → Rws f H vs rs → Rws f H (.ref p :: vs) (r :: rs)
section
variable {α : Type} {f : α → List V} {H H' : Hp}
theorem Rws.keep {S : List Addr} (k : Keep S H H') (n : NoTup S H) : ∀ {vs : List V} {rs : List α}, Rws f H vs rs → Rws f H' vs rs
  | _, _, .nil => .nil
  | _, _, .cons h q => .cons (h.keep k (n _ _ h)) (Rws.keep k n q)
theorem Rws.len : ∀ {vs : List V} {rs : List α}, Rws f H vs rs → vs.length = rs.length
  | _, _, .nil => rfl
  | _, _, .cons _ q => congrArg (· + 1) q.len
theorem Rws.snoc {p : Addr} {r : α} (h : Tup H p (f r)) : ∀ {vs : List V} {rs : List α}, Rws f H vs rs → Rws f H (vs ++ [.ref p]) (rs ++ [r])
  | _, _, .nil => .cons h .nil
  | _, _, .cons h' q => .cons h' (Rws.snoc h q)
theorem Rws.get : ∀ {vs : List V} {rs : List α} {i : Nat} {r : α}, Rws f H vs rs → rs[i]? = some r → ∃ p, vs[i]? = some (.ref p) ∧ Tup H p (f r)
  | _, _, _, _, .nil, e => by simp at e
  | _, _, 0, _, .cons (p := p) h _, e => by
    simp at e
    subst e
    exact ⟨p, rfl, h⟩
  | _, _, i + 1, _, .cons _ q, e => by
    obtain ⟨p, h1, h2⟩ := Rws.get (i := i) q (by simpa using e)
    exact ⟨p, by simpa using h1, h2⟩
end
/-! ### things in a row -/
abbrev EI {α β : Type} (R : α → β → Prop) (vs : List α) (rs : List β) : Prop := PySem.W.EachIs R vs rs
theorem ei_snoc {α β : Type} {R : α → β → Prop} {v : α} {r : β} (h : R v r) : ∀ {vs : List α} {rs : List β}, EI R vs rs → EI R (vs ++ [v]) (rs ++ [r])
  | _, _, .nil => .cons h .nil
  | _, _, .cons h' q => .cons h' (ei_snoc h q)
theorem ei_get {α β : Type} {R : α → β → Prop} : ∀ {vs : List α} {rs : List β} {i : Nat} {r : β}, EI R vs rs → rs[i]? = some r → ∃ v, vs[i]? = some v ∧ R v r
  | _, _, _, _, .nil, e => by simp at e
  | _, _, 0, _, .cons (a := p) h _, e => by
    simp at e
    subst e
    exact ⟨p, rfl, h⟩
  | _, _, i + 1, _, .cons _ q, e => by
    obtain ⟨p, h1, h2⟩ := ei_get (i := i) q (by simpa using e)
    exact ⟨p, by simpa using h1, h2⟩
theorem ei_got {α β : Type} {R : α → β → Prop} {vs : List α} {rs : List β} {i : Nat} {v : α} (h : EI R vs rs) (e : vs[i]? = some v) : ∃ r, rs[i]? = some r ∧ R v r := by
  have hi : i < rs.length := by rw [← h.length]; exact (List.getElem?_eq_some_iff.mp e).1
  obtain ⟨v', h1, h2⟩ := ei_get h (List.getElem?_eq_getElem hi)
  rw [e] at h1
  cases h1
  exact ⟨_, List.getElem?_eq_getElem hi, h2⟩
def NoT (S : List Addr) (H : Hp) : Prop := ∀ a ∈ S, H a = none ∨ ∃ xs, H a = some (.lst xs)
theorem sqt_keep {K : PySem.W.Frag} {S : List Addr} {H H' : Hp} {a : Addr} {xs : List V} (h : SqT K H a xs) (k : Keep S H H') (n : NoT S H) : SqT K H' a xs := by
  have na : ∀ {o : HO}, H a = some o → (∀ ys, o ≠ .lst ys) → a ∉ S := fun e ne hm => by
    rcases n a hm with z | ⟨ys, z⟩
    · rw [e] at z; cases z
    · rw [e] at z; cases z; exact ne _ rfl
  rcases h with (h | ⟨o, h⟩) | h
  · exact .inl (.inl (k _ _ (na h fun ys z => nomatch z) h))
  · exact .inl (.inr ⟨o, k _ _ (na h fun ys z => nomatch z) h⟩)
  · exact .inr h
theorem noT0 {H : Hp} : NoT [] H := fun _ h => (List.not_mem_nil h).elim
theorem noT1 {H : Hp} {l : Addr} {xs : List V} (h : H l = some (.lst xs)) : NoT [l] H := fun a ha => .inr ⟨xs, by rw [List.mem_singleton.mp ha]; exact h⟩
theorem noTn {H : Hp} {l : Addr} (h : H l = none) : NoT [l] H := fun a ha => .inl (by rw [List.mem_singleton.mp ha]; exact h)
theorem NoT.tup {S : List Addr} {H : Hp} (n : NoT S H) : NoTup S H := fun a xs t ha => by
  rcases n a ha with z | ⟨ys, z⟩
  · obtain ⟨o, e⟩ := t.there
    rw [e] at z; cases z
  · exact t.neL z rfl
/-- a list or a tuple that stands still -/
def Sq (H : Hp) (a : Addr) (xs : List V) : Prop := H a = some (.lst xs) ∨ Tup H a xs
theorem Sq.keep {S : List Addr} {H H' : Hp} {a : Addr} {xs : List V} (h : Sq H a xs) (k : Keep S H H') (n : a ∉ S) : Sq H' a xs := h.elim (fun h => .inl (k _ _ n h)) fun h => .inr (h.keep k n)
theorem Sq.there {H : Hp} {a : Addr} {xs : List V} (h : Sq H a xs) : ∃ o, H a = some o := h.elim (fun h => ⟨_, h⟩) fun h => h.there
/-- a comprehension over a list or tuple of things -/
theorem g_CE {K : PySem.W.Frag} {α : Type} {RR : Hp → V → α → Prop} {g : TG} {tt : TT} {te : TE} {vs : List Nat} {σ : L2.St} {H1 : Hp} {Q : VK} {a : Addr} {xs : List V} {rs : List α} (hx : Sq H1 a xs) (he : EI (RR H1) xs rs)
    (hk : ∀ H H' x r, RR H x r → Keep [] H H' → RR H' x r) (P : Nat → Hp → List V → Prop) (p0 : ∀ D H2, H1 D = none → Keep [] H1 H2 → P 0 H2 [])
    (ps : ∀ D i x r H acc (R : VK) (R0 : Hp → Prop), H1 D = none → rs[i]? = some r → Keep [] H1 H → H D = some (.lst acc) → RR H x r → P i H acc →
      (∀ y H4, Keep [] H H4 → acc.length < sizeLine → (∀ H5, Keep [D] H4 H5 → P (i + 1) H5 (acc ++ [y])) → R y H4) → (∀ H3, Keep [] H H3 → P (i + 1) H3 acc → R0 H3) →
      g x (wipe σ vs) H fun σ2 H2 => wipe σ2 vs = wipe σ vs ∧ tt σ2 H2 fun b H3 => if b = true then te σ2 H3 R else R0 H3)
    (pd : ∀ D H acc, H1 D = none → Keep [] H1 H → H D = some (.lst acc) → P rs.length H acc → Q (.ref D) H) : CU K g tt te vs σ Q (.ref a) H1 := by
  have L : CLoop [] xs.length (fun i => xs.getD i .non) g tt te vs σ H1 Q := by
    refine ⟨P, p0, fun D i H acc R R0 nD hi k e p hR hR0 => ?_, fun D H acc n k e p => pd D H acc n k e (by rw [← he.length]; exact p)⟩
    obtain ⟨r, e1, e2⟩ := ei_got he (List.getElem?_eq_getElem hi)
    have e3 : xs.getD i .non = xs[i] := by rw [List.getD_eq_getElem?_getD, List.getElem?_eq_getElem hi]; rfl
    show g (xs.getD i .non) _ _ _
    rw [e3]
    exact ps D i _ r H acc R R0 nD e1 k e (hk _ _ _ _ e2 k) p hR hR0
  exact hx.elim (fun h => g_CL (S := []) (fun _ h => (List.not_mem_nil h).elim) h nin0 L) fun h => g_CT (S := []) (fun _ h => (List.not_mem_nil h).elim) h nin0 L
/-- a for over a list or tuple of things -/
theorem g_FEs {K : PySem.W.Frag} {α : Type} {RR : Hp → V → α → Prop} {g : TG} {tb : TS} {D : Ends} {σ : L2.St} {H1 : Hp} {a : Addr} {xs : List V} {rs : List α} (S : List Addr) (hx : Sq H1 a xs) (na : a ∉ S) (he : EI (RR H1) xs rs)
    (hk : ∀ H' x r, RR H1 x r → Keep S H1 H' → RR H' x r) (Pv : Nat → L2.St → Hp → Prop) (h0 : Pv 0 σ H1)
    (hs : ∀ i x r σ H, rs[i]? = some r → Keep S H1 H → RR H x r → Pv i σ H → g x σ H fun σ2 H2 => tb { D with nx := fun σ' H' => Keep S H1 H' ∧ Pv (i + 1) σ' H', ct := fun σ' H' => Keep S H1 H' ∧ Pv (i + 1) σ' H', bk := D.nx } σ2 H2)
    (hd : ∀ σ H, Keep S H1 H → Pv rs.length σ H → D.nx σ H) : FU K g tb D σ (.ref a) H1 := by
  have hl := he.length
  have st : ∀ (i : Nat) (x : V) (σ : L2.St) (H : Hp), xs[i]? = some x → (Keep S H1 H ∧ Pv i σ H) → g x σ H fun σ2 H2 => tb { D with nx := fun σ' H' => Keep S H1 H' ∧ Pv (i + 1) σ' H', ct := fun σ' H' => Keep S H1 H' ∧ Pv (i + 1) σ' H', bk := D.nx } σ2 H2 := fun i x σ H ex ⟨k, p⟩ => by
    obtain ⟨r, e1, e2⟩ := ei_got he ex
    exact hs i x r σ H e1 k (hk _ _ _ e2 k) p
  rcases hx with h | h
  · exact g_FL (fun i σ H => Keep S H1 H ∧ Pv i σ H) (lst_sq h) ⟨Keep.refl _ _, h0⟩ (fun i σ H _ p => lst_sq (p.1 _ _ na h)) (fun i x σ H ex p => st i x σ H ex p) fun σ H p => hd σ H p.1 (by rw [← hl]; exact p.2)
  · exact g_FT (fun i σ H => Keep S H1 H ∧ Pv i σ H) h ⟨Keep.refl _ _, h0⟩ (fun i σ H _ p => h.keep p.1 na) (fun i x σ H ex p => st i x σ H ex p) fun σ H p => hd σ H p.1 (by rw [← hl]; exact p.2)



/-! ### words and minutes of the pen -/
theorem let_at : ∀ i, i < 26 → (cl "abcdefghijklmnopqrstuvwxyz")[i]? = some (sgn i) := by decide +kernel
theorem let_nsg : ("abcdefghijklmnopqrstuvwxyz" ++ "0123456789" : Str) = "abcdefghijklmnopqrstuvwxyz0123456789" := by decide +kernel
theorem g_let {K : PySem.W.Frag} {H : Hp} {Q : VK} {r : Int} (h0 : 0 ≤ r) (h1 : r < 26) (q : Q (.str ⟨#[sgn r.toNat]⟩) H) : uIx K (.str "abcdefghijklmnopqrstuvwxyz") (.int r) H Q :=
  g_ixS (by decide +kernel) (at_lit r.toNat (by omega) (let_at r.toNat (by omega))) q
theorem g_sgn {K : PySem.W.Frag} {H : Hp} {Q : VK} {r : Int} (h0 : 0 ≤ r) (h1 : r < 36) (q : Q (.str ⟨#[sgn r.toNat]⟩) H) : uIx K (.str "abcdefghijklmnopqrstuvwxyz0123456789") (.int r) H Q :=
  g_ixS (by decide +kernel) (at_lit r.toNat (by omega) (sgn_at r.toNat (by omega))) q
theorem head_app {l m : List Nat} (h : 1 ≤ l.length) : (l ++ m).head? = l.head? := by
  cases l with
  | nil => simp at h
  | cons a r => rfl
def spWordP : Sp := fun vs H Q _ => ∃ (p : Addr) (n k : Nat), vs = [.ref p, .int (n : Nat)] ∧ 1 ≤ n ∧ n ≤ 8 ∧ Pen H p (k + 8) ∧ ∀ (z : Str) H', NameOk (cl z) → z.length = n → Keep [p] H H' → Pen H' p k → Q (.str z) H'
theorem rd_wordP (K : PySem.W.Frag) : ∀ vs H Q E, spWordP vs H Q E → run (t__law_word K spDraw) (L2.start N__law_word vs) H Q := by
  rintro _ H Q _ ⟨p, n, k, rfl, n1, n8, hp, q⟩
  show run (t__law_word K spDraw) [some (.ref p), some (.int (n : Nat)), none, none, none] H Q
  unfold t__law_word
  walk_at "sx"
  refine ⟨p, 26, k + 7, rfl, by decide, by decide, hp, fun r H1 r0 r1 k1 hp1 => g_let r0 r1 ?_⟩
  walk_at "sx"
  refine g_FR1 (by omega) (by omega) ⟨fun i σ H' => ∃ (z : Str) (y : Option V), σ = [some (.ref p), some (.int (n : Nat)), some (.str "abcdefghijklmnopqrstuvwxyz"), some (.str z), y] ∧ (cl z).length = i + 1 ∧ (∀ c ∈ cl z, isSg c) ∧ (∀ c, (cl z).head? = some c → isLt c) ∧ Keep [p] H H' ∧ Pen H' p (k + 7 - i), ⟨⟨#[sgn r.toNat]⟩, _, rfl, rfl, fun c hc => by rw [List.mem_singleton.mp (show c ∈ [sgn r.toNat] from hc)]; exact .inl (sgn_lt (by omega)), fun c hc => by
      have : some (sgn r.toNat) = some c := hc
      rw [← Option.some.inj this]; exact sgn_lt (by omega), k1, hp1⟩, ?_, ?_⟩
  · rintro i σ H2 hi ⟨z, y, rfl, ln, sg', hd, k2, hp2⟩
    unfold t__law_word_b1
    walk_at "sx"
    rw [let_nsg]
    refine ⟨by decide +kernel, p, 36, k + 7 - (i + 1), rfl, by decide, by decide, hp2.less (by omega), fun r H3 r0 r1 k3 hp3 => g_sgn r0 r1 ?_⟩
    walk_at "sx"
    have lz : z.length = i + 1 := by rw [cl_len]; exact ln
    refine ⟨by show z.length + 1 ≤ _; exact len_le (by omega), _, _, rfl, ?_, ?_, ?_, k2.trans k3, hp3⟩
    · rw [cl_app, List.length_append, ln]; rfl
    · intro c hc
      rw [cl_app] at hc
      rcases List.mem_append.mp hc with hc | hc
      · exact sg' c hc
      · rw [List.mem_singleton.mp (show c ∈ [sgn r.toNat] from hc)]
        exact sgn_sg (by omega)
    · intro c hc
      rw [cl_app, head_app (by omega)] at hc
      exact hd c hc
  · rintro σ H2 ⟨z, y, rfl, ln, sg', hd, k2, hp2⟩
    unfold t__law_word_r1
    walk_at "sx"
    exact q z H2 ⟨by omega, by omega, sg', hd⟩ (by rw [cl_len]; omega) k2 (hp2.less (by omega))
def mDp : Option Int → PyData
  | none => .none
  | some i => .int i
theorem dp_mVp {K : PySem.W.Frag} {H : Hp} (o : Option Int) : Dp K H (mV o) (mDp o) := by
  cases o with
  | none => exact .non
  | some i => exact .int i
/-- two minutes, not both missing -/
def spMinP : Sp := fun vs H Q _ => ∃ (p : Addr) (k : Nat), vs = [.ref p] ∧ Pen H p (k + 6) ∧ ∀ (m1 m2 : Option Int) t H', minOk m1 → minOk m2 → (m1 ≠ none ∨ m2 ≠ none) → Keep [p] H H' → Pen H' p k → Tup H' t [mV m1, mV m2] → Q (.ref t) H'
theorem rd_minP (K : PySem.W.Frag) : ∀ vs H Q E, spMinP vs H Q E → run (t__law_minutes K spDraw) (L2.start N__law_minutes vs) H Q := by
  rintro _ H Q _ ⟨p, k, rfl, hp, q⟩
  show run (t__law_minutes K spDraw) [some (.ref p), none, none, none] H Q
  unfold t__law_minutes
  walk_at "sx"
  refine ⟨by walk_at "sz", fun fl H1 n1 k1 e1 => ?_⟩
  walk_at "sx"
  have nfp : fl ≠ p := fun z => by
    obtain ⟨xs, hx⟩ := hp.at
    rw [z] at n1
    rw [n1] at hx
    exact nomatch hx
  refine g_FR1 (by omega) (by omega) ⟨fun i σ H' => ∃ (y2 y3 : Option V) (ms : List (Option Int)), σ = [some (.ref p), some (.ref fl), y2, y3] ∧ H' fl = some (.lst (ms.map mV)) ∧ ms.length = i ∧ (∀ m ∈ ms, minOk m) ∧ Pen H' p (k + 6 - 2 * i) ∧ (∀ b o, b ∉ [p] → H b = some o → H' b = some o), ⟨_, _, [], rfl, e1, rfl, fun _ h => (List.not_mem_nil h).elim, hp.keep k1, fun b o _ h => k1 b o nin0 h⟩, ?_, ?_⟩
  · rintro i σ H2 hi ⟨y2, y3, ms, rfl, ef, lm, om, hp2, kk⟩
    have hi2 : i < 2 := hi
    unfold t__law_minutes_b1
    walk_at "sx"
    refine ⟨p, 60, k + 6 - 2 * i - 1, rfl, by decide, by decide, hp2.less (by omega), fun r H3 r0 r1 k3 hp3 => ?_⟩
    walk_at "sx"
    have ef3 := k3 _ _ (nin1 nfp) ef
    refine ⟨.inl ⟨rfl, _, .inl (.inl ef3)⟩, by walk_at "sz", fun l H4 n4 k4 e4 => ⟨p, 5, k + 6 - 2 * i - 2, rfl, by decide, by decide, (hp3.keep k4).less (by omega), fun v H5 v0 v1 k5 hp5 => ?_⟩⟩
    have nlp : l ≠ p := fun z => by
      obtain ⟨xs, hx⟩ := hp3.at
      rw [z] at n4
      rw [n4] at hx
      exact nomatch hx
    obtain ⟨m, hm, mo⟩ : ∃ m, atI [V.int 1, V.int 60, V.int (1 + r), V.int (1 + r), V.non] v = some (mV m) ∧ minOk m := by
      have : v = 0 ∨ v = 1 ∨ v = 2 ∨ v = 3 ∨ v = 4 := by omega
      rcases this with rfl | rfl | rfl | rfl | rfl
      · exact ⟨some 1, rfl, fun i h => by cases h; omega⟩
      · exact ⟨some 60, rfl, fun i h => by cases h; omega⟩
      · exact ⟨some (1 + r), rfl, fun i h => by cases h; omega⟩
      · exact ⟨some (1 + r), rfl, fun i h => by cases h; omega⟩
      · exact ⟨none, rfl, fun i h => by cases h⟩
    refine g_ixL (k5 _ _ (nin1 nlp) e4) hm (g_append (k5 _ _ (nin1 nfp) (k4 _ _ nin0 ef3)) (by rw [List.length_map]; exact len_lt (by omega)) fun H6 k6 e6 => ?_)
    refine ⟨_, _, ms ++ [m], rfl, by rw [List.map_append]; exact e6, by rw [List.length_append, lm]; rfl, fun x hx => ?_, ?_, fun b o hb h => ?_⟩
    · rcases List.mem_append.mp hx with hx | hx
      · exact om x hx
      · rw [List.mem_singleton.mp hx]; exact mo
    · obtain ⟨d, c, n, h1, h2⟩ := hp5
      exact ⟨d, c, n, k6 _ _ (nin1 nfp.symm) h1, h2.1, h2.2.1, h2.2.2.1, h2.2.2.2.1, by omega⟩
    · have nb : b ≠ fl := fun z => by rw [z, n1] at h; cases h
      exact k6 _ _ (nin1 nb) (k5 _ _ hb (k4 _ _ nin0 (k3 _ _ hb (kk b o hb h))))
  · rintro σ H2 ⟨y2, y3, ms, rfl, ef, lm, om, hp2, kk⟩
    unfold t__law_minutes_r2
    walk_at "sx"
    obtain ⟨m1, m2, rfl⟩ : ∃ m1 m2, ms = [m1, m2] := by
      rcases ms with _ | ⟨u, _ | ⟨v, _ | ⟨z, r⟩⟩⟩
      · exact nomatch lm
      · simp at lm
      · exact ⟨u, v, rfl⟩
      · simp at lm
    have o1 := om m1 (by simp)
    have o2 := om m2 (by simp)
    have fin : ∀ (a b : Option Int) H', H' fl = some (.lst [mV a, mV b]) → minOk a → minOk b → (a ≠ none ∨ b ≠ none) → (∀ c o, c ∉ [p] → H c = some o → H' c = some o) → Pen H' p k → t__law_minutes_r1 K spDraw { nx := fun x H' => Q V.non H', rt := Q } [some (V.ref p), some (V.ref fl), y2, y3] H' := fun a b H' e oa ob nn kk' hp' => by
      unfold t__law_minutes_r1
      walk_at "sx"
      exact g_tupleL e fun t H'' nt kt tt => q a b t H'' oa ob nn (fun c o hc h => kt _ _ nin0 (kk' c o hc h)) (hp'.keep kt) tt
    refine ⟨by walk_at "sz", fun e0 H3 n3 k3 e3 => ?_⟩
    have ef3 := k3 _ _ nin0 ef
    have kk3 : ∀ c o, c ∉ [p] → H c = some o → H3 c = some o := fun c o hc h => k3 _ _ nin0 (kk c o hc h)
    refine .inr ⟨_, _, .lst (lst_sq ef3) (.cons (dp_mVp m1) (.cons (dp_mVp m2) .nil)), .lst (lst_sq e3) (.cons .non (.cons .non .nil)), ?_, by decide +kernel, ?_⟩
    · cases m1 <;> cases m2 <;> rfl
    rw [if_neg (by decide)]
    have ee : PyData.eqv (.list [mDp m1, mDp m2]) (.list [.none, .none]) = (m1.isNone && m2.isNone) := by
      cases m1 <;> cases m2 <;> rfl
    rw [ee]
    refine ⟨_, rfl, ?_⟩
    cases hb : (m1.isNone && m2.isNone) with
    | false =>
      rw [if_neg (by decide)]
      exact fin m1 m2 H3 ef3 o1 o2 (by cases m1 <;> cases m2 <;> simp at hb ⊢) kk3 ((hp2.keep k3).less (by omega))
    | true =>
      rw [if_pos rfl]
      obtain ⟨rfl, rfl⟩ : m1 = none ∧ m2 = none := by cases m1 <;> cases m2 <;> simp at hb ⊢
      refine ⟨p, 60, k + 1, rfl, by decide, by decide, hp2.keep k3, fun r H4 r0 r1 k4 hp4 => ?_⟩
      walk_at "sx"
      refine ⟨p, 2, k, rfl, by decide, by decide, hp4, fun v H5 v0 v1 k5 hp5 => ?_⟩
      have ef5 := k5 _ _ (nin1 nfp) (k4 _ _ (nin1 nfp) ef3)
      have kk5 : ∀ c o, c ∉ [p] → H c = some o → H5 c = some o := fun c o hc h => k5 _ _ hc (k4 _ _ hc (kk3 c o hc h))
      have done : ∀ (a b : Option Int) H6, minOk a → minOk b → (a ≠ none ∨ b ≠ none) → Keep [fl] H5 H6 → H6 fl = some (.lst [mV a, mV b]) → t__law_minutes_r1 K spDraw { nx := fun x H' => Q V.non H', rt := Q } [some (V.ref p), some (V.ref fl), y2, y3] H6 := fun a b H6 oa ob nn k6 e6 => by
        refine fin a b H6 e6 oa ob nn (fun c o hc h => k6 _ _ (nin1 fun z => ?_) (kk5 c o hc h)) ?_
        · rw [z, n1] at h; cases h
        · obtain ⟨dd, cc, nn', h1, h2⟩ := hp5
          exact ⟨dd, cc, nn', k6 _ _ (nin1 nfp.symm) h1, h2⟩
      have om' : minOk (some (1 + r)) := fun i h => by cases h; omega
      have ov : v = 0 ∨ v = 1 := by omega
      rcases ov with rfl | rfl
      · exact g_setL ef5 (k := 0) rfl fun H6 k6 e6 => done (some (1 + r)) none H6 om' o1 (.inl fun z => nomatch z) k6 e6
      · exact g_setL ef5 (k := 1) rfl fun H6 k6 e6 => done none (some (1 + r)) H6 o1 om' (.inr fun z => nomatch z) k6 e6


/-! ### names of the pen -/
def kindN (pick at' L F k : Nat) (y : Str) : Prop :=
  (pick = 0 ∧ (cl y)[at']? = some (sgn ((F + 5 * k) % L))) ∨ (pick = 1 ∧ (cl y)[0]? = some (sgn ((F + 5 * k) % 26))) ∨ (pick = 2 ∧ cl y = List.replicate (k % 8 + 1) (sgn ((F + k / 8) % 26)))
theorem kind_apart {pick at' L F a b : Nat} {y : Str} (hL : L = 26 ∨ L = 36) (hab : a < b) (hb : b < 10) (h1 : kindN pick at' L F a y) (h2 : kindN pick at' L F b y) : False := by
  have m26 : ∀ x : Nat, x % 26 < 36 := fun x => by omega
  rcases h1 with ⟨p1, e1⟩ | ⟨p1, e1⟩ | ⟨p1, e1⟩ <;> rcases h2 with ⟨p2, e2⟩ | ⟨p2, e2⟩ | ⟨p2, e2⟩ <;> first | omega | skip
  · rw [e1] at e2
    have := sgn_inj (by rcases hL with rfl | rfl <;> omega) (by rcases hL with rfl | rfl <;> omega) (Option.some.inj e2)
    rcases hL with rfl | rfl <;> omega
  · rw [e1] at e2
    have := sgn_inj (m26 _) (m26 _) (Option.some.inj e2)
    omega
  · rw [e1] at e2
    have hl := congrArg List.length e2
    rw [List.length_replicate, List.length_replicate] at hl
    have hh := congrArg List.head? e2
    rw [List.head?_replicate, List.head?_replicate, if_neg (by omega), if_neg (by omega)] at hh
    have := sgn_inj (m26 _) (m26 _) (Option.some.inj hh)
    omega
theorem ins_perm {α : Type} (ys : List α) (i : Nat) (z : α) : (ys.take i ++ [z] ++ ys.drop i).Perm (z :: ys) := by
  rw [List.append_assoc]
  refine (List.perm_middle (l₁ := ys.take i) (l₂ := ys.drop i) (a := z)).trans ?_
  rw [List.take_append_drop]
theorem map_ins (ys : List Str) (i : Nat) (z : Str) : (ys.map V.str).take i ++ [V.str z] ++ (ys.map V.str).drop i = (ys.take i ++ [z] ++ ys.drop i).map V.str := by
  rw [List.map_append, List.map_append, List.map_take, List.map_drop]
  rfl
theorem cl_rep (c n : Nat) : cl ⟨(List.replicate n (#[c] : Array Nat)).foldl (· ++ ·) #[]⟩ = List.replicate n c := by
  have key : ∀ (n : Nat) (acc : Array Nat), ((List.replicate n (#[c] : Array Nat)).foldl (· ++ ·) acc).toList = acc.toList ++ List.replicate n c := by
    intro n
    induction n with
    | zero => intro acc; simp
    | succ n ih =>
      intro acc
      rw [List.replicate_succ, List.foldl_cons, ih]
      simp [List.replicate_succ]
  show ((List.replicate n (#[c] : Array Nat)).foldl (· ++ ·) #[]).toList = _
  rw [key]
  simp
theorem name_rep {c n : Nat} (h : isLt c) (h1 : 1 ≤ n) (h8 : n ≤ 8) : NameOk (List.replicate n c) := by
  refine ⟨by rw [List.length_replicate]; exact h1, by rw [List.length_replicate]; exact h8, fun x hx => by rw [(List.mem_replicate.mp hx).2]; exact .inl h, fun x hx => ?_⟩
  rw [List.head?_replicate, if_neg (by omega)] at hx
  rw [← Option.some.inj hx]; exact h
theorem cut_pre (z : Str) (n : Nat) : cl (cutS z none (some (n : Int))) = (cl z).take n := by
  rw [cl_cut, HT.sIx_none, HT.sIx_nat, List.drop_zero, Nat.sub_zero, cl_len]
  by_cases h : n ≤ (cl z).length
  · rw [Nat.min_eq_left h]
  · rw [Nat.min_eq_right (by omega), List.take_of_length_le (Nat.le_refl _), List.take_of_length_le (by omega)]
theorem cut_suf (z : Str) (n : Nat) : cl (cutS z (some (n : Int)) none) = (cl z).drop n := by
  rw [cl_cut, HT.sIx_none, HT.sIx_nat, cl_len]
  by_cases h : n ≤ (cl z).length
  · rw [Nat.min_eq_left h, List.take_of_length_le (by rw [List.length_drop]; omega)]
  · rw [Nat.min_eq_right (by omega), Nat.sub_self, List.take_zero, List.drop_eq_nil_of_le (by omega)]
structure Sgs (z : Str) (L : Nat) : Prop where
  l : z.length = L
  a : ∀ i, i < L → (cl z)[i]? = some (sgn i)
theorem sgs36 : Sgs "abcdefghijklmnopqrstuvwxyz0123456789" 36 := ⟨by decide +kernel, sgn_at⟩
theorem sgs26 : Sgs "abcdefghijklmnopqrstuvwxyz" 26 := ⟨by decide +kernel, let_at⟩
def spNamesP : Sp := fun vs H Q _ => ∃ (p : Addr) (m k : Nat), vs = [.ref p, .int (m : Nat)] ∧ 1 ≤ m ∧ m ≤ 10 ∧ Pen H p (k + 200) ∧ ∀ l H' (ys : List Str), H l = none → Keep [p] H H' → Pen H' p k → H' l = some (.lst (ys.map V.str)) → ys.length = m → (∀ y ∈ ys, NameOk (cl y)) → ys.Nodup → Q (.ref l) H'
theorem pen_ne {H : Hp} {p l : Addr} {k : Nat} (h : Pen H p k) (n : H l = none) : l ≠ p := fun z => by
  obtain ⟨xs, hx⟩ := h.at
  rw [z] at n
  rw [n] at hx
  exact nomatch hx
theorem Pen.keepL {H H' : Hp} {p l : Addr} {k : Nat} (h : Pen H p k) (kk : Keep [l] H H') (n : l ≠ p) : Pen H' p k := by
  obtain ⟨d, c, nn, h1, h2⟩ := h
  exact ⟨d, c, nn, kk _ _ (nin1 n.symm) h1, h2⟩
theorem rd_namesP (K : PySem.W.Frag) : ∀ vs H Q E, spNamesP vs H Q E → run (t__law_names K spDraw spWordP) (L2.start N__law_names vs) H Q := by
  rintro _ H Q _ ⟨p, m, k, rfl, m1, m10, hp, q⟩
  show run (t__law_names K spDraw spWordP) [some (.ref p), some (.int (m : Nat)), none, none, none, none, none, none, none, none, none, none, none] H Q
  unfold t__law_names
  walk_at "sx"
  refine ⟨p, 3, k + 199, rfl, by decide, by decide, hp, fun pk H1 pk0 pk1 k1 hp1 => ?_⟩
  walk_at "sx"
  refine ⟨p, 8, k + 198, rfl, by decide, by decide, hp1, fun s H2 s0 s1 k2 hp2 => ?_⟩
  walk_at "sx"
  obtain ⟨size, hs⟩ : ∃ n : Nat, 1 + s = (n : Int) := ⟨(1 + s).toNat, by omega⟩
  rw [hs]
  refine ⟨p, size, k + 190, rfl, by omega, by omega, hp2, fun base H3 nb lb k3 hp3 => ?_⟩
  walk_at "sx"
  refine ⟨p, _, k + 189, rfl, by omega, by omega, hp3, fun at0 H4 a0 a1 k4 hp4 => ?_⟩
  walk_at "sx"
  rw [let_nsg]
  refine ⟨by decide +kernel, by walk_at "sz", fun sl H5 n5 k5 e5 => g_eq rfl ?_⟩
  walk_at "sx"
  obtain ⟨z, L, hz, hS, hL, h0⟩ : ∃ (z : Str) (L : Nat), atI [V.str "abcdefghijklmnopqrstuvwxyz0123456789", V.str "abcdefghijklmnopqrstuvwxyz"] (if at0 = 0 then 1 else 0) = some (.str z) ∧ Sgs z L ∧ (L = 26 ∨ L = 36) ∧ (at0 = 0 → L = 26) := by
    by_cases h : at0 = 0
    · rw [if_pos h]; exact ⟨_, 26, rfl, sgs26, .inl rfl, fun _ => rfl⟩
    · rw [if_neg h]; exact ⟨_, 36, rfl, sgs36, .inr rfl, fun c => (h c).elim⟩
  refine g_ixL e5 hz (g_lenS (by rw [hS.l]; exact len_le (by omega)) ?_)
  rw [hS.l]
  refine ⟨p, _, k + 188, rfl, by omega, by omega, hp4.keep k5, fun F0 H6 f0 f1 k6 hp6 => ?_⟩
  refine ⟨by walk_at "sz", fun fl H7 n7 k7 e7 => ?_⟩
  obtain ⟨F, rfl⟩ : ∃ F : Nat, F0 = (F : Int) := ⟨F0.toNat, by omega⟩
  obtain ⟨pick, rfl⟩ : ∃ n : Nat, pk = (n : Int) := ⟨pk.toNat, by omega⟩
  obtain ⟨at', rfl⟩ : ∃ n : Nat, at0 = (n : Int) := ⟨at0.toNat, by omega⟩
  have nfp := pen_ne hp6 n7
  have k07 : Keep [p] H H7 := k1.trans (k2.trans (k3.trans (k4.trans (k5.all.trans (k6.trans k7.all)))))
  have nfl : H fl = none := (k1.trans (k2.trans (k3.trans (k4.trans (k5.all.trans k6))))).free (nin1 nfp) n7
  have lbase : (cl base).length = size := by rw [← cl_len]; exact lb
  refine g_FR1 (by omega) (by omega) ⟨fun i σ H' => ∃ (y10 y11 y12 : Option V) (ys : List Str), σ = [some (.ref p), some (.int (m : Nat)), some (.str "abcdefghijklmnopqrstuvwxyz"), some (.int (pick : Nat)), some (.int (size : Nat)), some (.str base), some (.int (at' : Nat)), some (.str z), some (.int (F : Nat)), some (.ref fl), y10, y11, y12] ∧ H' fl = some (.lst (ys.map V.str)) ∧ ys.length = i ∧ (∀ y ∈ ys, NameOk (cl y)) ∧ ys.Nodup ∧ (∀ y ∈ ys, ∃ j, j < i ∧ kindN pick at' L F j y) ∧ Pen H' p (k + 188 - 10 * i) ∧ (∀ b o, b ∉ [p] → H b = some o → H' b = some o),
    ⟨_, _, _, [], rfl, e7, rfl, fun _ h => (List.not_mem_nil h).elim, List.nodup_nil, fun _ h => (List.not_mem_nil h).elim, hp6.keep k7, fun b o hb h => k07 b o hb h⟩, ?_, ?_⟩
  · rintro i σ H8 hi ⟨y10, y11, y12, ys, rfl, ef, ly, oy, ndy, ky, hp8, kk⟩
    have hi10 : i < 10 := by omega
    have fin : ∀ (B C : L2.St → Hp → Prop) (w : Str) H9 y11, NameOk (cl w) → kindN pick at' L F i w → Keep [p] H8 H9 → Pen H9 p (k + 188 - 10 * i - 9) → t__law_names_r1 K spDraw spWordP { nx := fun σ' H' => ∃ (y10 y11 y12 : Option V) (ys : List Str), σ' = [some (.ref p), some (.int (m : Nat)), some (.str "abcdefghijklmnopqrstuvwxyz"), some (.int (pick : Nat)), some (.int (size : Nat)), some (.str base), some (.int (at' : Nat)), some (.str z), some (.int (F : Nat)), some (.ref fl), y10, y11, y12] ∧ H' fl = some (.lst (ys.map V.str)) ∧ ys.length = i + 1 ∧ (∀ y ∈ ys, NameOk (cl y)) ∧ ys.Nodup ∧ (∀ y ∈ ys, ∃ j, j < i + 1 ∧ kindN pick at' L F j y) ∧ Pen H' p (k + 188 - 10 * (i + 1)) ∧ (∀ b o, b ∉ [p] → H b = some o → H' b = some o), rt := Q, bk := B, ct := C } [some (.ref p), some (.int (m : Nat)), some (.str "abcdefghijklmnopqrstuvwxyz"), some (.int (pick : Nat)), some (.int (size : Nat)), some (.str base), some (.int (at' : Nat)), some (.str z), some (.int (F : Nat)), some (.ref fl), some (.int (i : Nat)), y11, some (.str w)] H9 := fun B C w H9 y11 ow kw k9 hp9 => by
      unfold t__law_names_r1
      walk_at "sx"
      have ef9 := k9 _ _ (nin1 nfp) ef
      refine ⟨.inl ⟨rfl, _, .inl (.inl ef9)⟩, g_lenL ef9 ?_⟩
      rw [List.length_map, ly]
      walk_at "sx"
      refine ⟨p, _, k + 188 - 10 * i - 10, rfl, by omega, by omega, hp9.less (by omega), fun v HA v0 v1 kA hpA => ?_⟩
      refine g_insert (kA _ _ (nin1 nfp) ef9) (by rw [List.length_map]; exact len_lt (by omega)) v0 (by omega) fun HB kB eB => ?_
      rw [map_ins] at eB
      have hpm := ins_perm ys v.toNat w
      have nw : w ∉ ys := fun h => by
        obtain ⟨j, hj, kj⟩ := ky w h
        exact kind_apart hL hj hi10 kj kw
      refine ⟨_, _, _, _, rfl, eB, ?_, fun y hy => ?_, ?_, fun y hy => ?_, (hpA.keepL kB nfp).less (by omega), fun b o hb h => ?_⟩
      · rw [hpm.length_eq, List.length_cons, ly]
      · rcases List.mem_cons.mp (hpm.mem_iff.mp hy) with rfl | hy
        · exact ow
        · exact oy y hy
      · exact hpm.nodup_iff.mpr (List.nodup_cons.mpr ⟨nw, ndy⟩)
      · rcases List.mem_cons.mp (hpm.mem_iff.mp hy) with rfl | hy
        · exact ⟨i, by omega, kw⟩
        · obtain ⟨j, hj, kj⟩ := ky y hy
          exact ⟨j, by omega, kj⟩
      · have nb : b ≠ fl := fun zz => by rw [zz, nfl] at h; cases h
        exact kB _ _ (nin1 nb) (kA _ _ hb (k9 _ _ hb (kk b o hb h)))
    have two : ∀ (B C : L2.St → Hp → Prop) (w : Str) H9 y11, (pick ≠ 2 → NameOk (cl w) ∧ kindN pick at' L F i w) → Keep [p] H8 H9 → Pen H9 p (k + 188 - 10 * i - 9) → t__law_names_r2 K spDraw spWordP { nx := fun σ' H' => ∃ (y10 y11 y12 : Option V) (ys : List Str), σ' = [some (.ref p), some (.int (m : Nat)), some (.str "abcdefghijklmnopqrstuvwxyz"), some (.int (pick : Nat)), some (.int (size : Nat)), some (.str base), some (.int (at' : Nat)), some (.str z), some (.int (F : Nat)), some (.ref fl), y10, y11, y12] ∧ H' fl = some (.lst (ys.map V.str)) ∧ ys.length = i + 1 ∧ (∀ y ∈ ys, NameOk (cl y)) ∧ ys.Nodup ∧ (∀ y ∈ ys, ∃ j, j < i + 1 ∧ kindN pick at' L F j y) ∧ Pen H' p (k + 188 - 10 * (i + 1)) ∧ (∀ b o, b ∉ [p] → H b = some o → H' b = some o), rt := Q, bk := B, ct := C } [some (.ref p), some (.int (m : Nat)), some (.str "abcdefghijklmnopqrstuvwxyz"), some (.int (pick : Nat)), some (.int (size : Nat)), some (.str base), some (.int (at' : Nat)), some (.str z), some (.int (F : Nat)), some (.ref fl), some (.int (i : Nat)), y11, some (.str w)] H9 := fun B C w H9 y11 ow k9 hp9 => by
      unfold t__law_names_r2
      walk_at "sx"
      refine g_eq rfl ⟨_, rfl, ?_⟩
      by_cases h2 : pick = 2
      · rw [decide_eq_true (by rw [h2]; rfl), if_pos rfl]
        have f1 : (((F : Int) + (i : Int) / 8) % 26).toNat = (F + i / 8) % 26 := by omega
        refine ⟨⟨by decide, by decide⟩, by decide, g_let (by omega) (by omega) ?_⟩
        rw [f1]
        have hc : isLt (sgn ((F + i / 8) % 26)) := sgn_lt (by omega)
        have c8 : cl ⟨(List.replicate 8 (#[sgn ((F + i / 8) % 26)] : Array Nat)).foldl (· ++ ·) #[]⟩ = List.replicate 8 (sgn ((F + i / 8) % 26)) := cl_rep _ 8
        refine ⟨_, 8, rfl, rfl, by decide, by decide, by show 1 ≠ 0; decide, by show 1 * 8 ≤ 1000000; decide, ⟨by decide, ?_⟩⟩
        have ei : (i : Int) % 8 + 1 = ((i % 8 + 1 : Nat) : Int) := by omega
        rw [ei]
        show uSl K (V.str ⟨(List.replicate 8 (#[sgn ((F + i / 8) % 26)] : Array Nat)).foldl (· ++ ·) #[]⟩) none _ H9 _
        generalize (⟨(List.replicate 8 (#[sgn ((F + i / 8) % 26)] : Array Nat)).foldl (· ++ ·) #[]⟩ : Str) = z8 at c8
        have l8 : z8.length = 8 := by rw [cl_len, c8, List.length_replicate]
        have cw : cl (cutS z8 none (some ((i % 8 + 1 : Nat) : Int))) = List.replicate (i % 8 + 1) (sgn ((F + i / 8) % 26)) := by
          rw [cut_pre, c8, List.take_replicate, Nat.min_eq_left (by omega)]
        refine g_slS (by rw [l8]; exact len_le (by decide)) ?_
        refine fin B C _ H9 y11 (by rw [cw]; exact name_rep hc (by omega) (by omega)) (.inr (.inr ⟨h2, cw⟩)) k9 hp9
      · rw [decide_eq_false (fun c => h2 (by injection c with c; omega)), if_neg (by decide)]
        obtain ⟨o1, o2⟩ := ow h2
        exact fin B C w H9 y11 o1 o2 k9 hp9
    unfold t__law_names_b1
    walk_at "sx"
    refine ⟨cmul_small (by decide), g_lenS (by rw [hS.l]; exact len_le (by omega)) ?_⟩
    rw [hS.l]
    walk_at "sx"
    have fL : (((F : Int) + 5 * (i : Int)) % (L : Int)).toNat = (F + 5 * i) % L := by rcases hL with rfl | rfl <;> omega
    have fL2 : (F + 5 * i) % L < L := Nat.mod_lt _ (by omega)
    have fL3 : 0 ≤ ((F : Int) + 5 * (i : Int)) % (L : Int) := Int.emod_nonneg _ (by omega)
    refine ⟨by omega, g_ixS (by rw [hS.l]; exact len_le (by omega)) (at_lit ((F + 5 * i) % L) (by omega) (hS.a _ fL2)) ?_⟩
    have bL : base.length ≤ sizeLine := len_le (by omega)
    refine g_slS bL ?_
    walk_at "sx"
    have l1 := congrArg List.length (cut_pre base at')
    rw [← cl_len, List.length_take] at l1
    have l2 := congrArg List.length (cut_suf base (at' + 1))
    rw [← cl_len, List.length_drop] at l2
    have one : (⟨#[sgn ((F + 5 * i) % L)]⟩ : Str).length = 1 := rfl
    have e1 : ((at' : Int) + 1) = ((at' + 1 : Nat) : Int) := by omega
    rw [e1]
    refine ⟨by rw [one]; exact len_le (by omega), g_slS bL ?_⟩
    refine e_addS.mpr ⟨by rw [strLen_append, one]; exact len_le (by omega), ?_⟩
    have cw : cl ((cutS base none (some (at' : Int)) ++ (⟨#[sgn ((F + 5 * i) % L)]⟩ : Str)) ++ cutS base (some ((at' + 1 : Nat) : Int)) none) = putAt (cl base) at' (sgn ((F + 5 * i) % L)) := by
      rw [cl_app, cl_app, cut_pre, cut_suf]
      rfl
    generalize (cutS base none (some (at' : Int)) ++ (⟨#[sgn ((F + 5 * i) % L)]⟩ : Str)) ++ cutS base (some ((at' + 1 : Nat) : Int)) none = w0 at cw
    obtain ⟨b1, b2, b3, b4⟩ := nb
    have hat : at' < (cl base).length := by omega
    have ok0 : NameOk (cl w0) := by
      rw [cw]
      refine ⟨by rw [putAt_len hat]; exact b1, by rw [putAt_len hat]; exact b2, putAt_sg b3 (sgn_sg (by rcases hL with rfl | rfl <;> omega)), putAt_head hat b4 fun hz => sgn_lt ?_⟩
      have := h0 (by omega)
      omega
    refine g_eq rfl ⟨_, rfl, ?_⟩
    by_cases hp1 : pick = 1
    · rw [decide_eq_true (by rw [hp1]; rfl), if_pos rfl]
      have f26 : (((F : Int) + 5 * (i : Int)) % 26).toNat = (F + 5 * i) % 26 := by omega
      refine ⟨cmul_small (by decide), by decide, g_let (by omega) (by omega) ?_⟩
      rw [f26]
      refine ⟨p, 7, k + 188 - 10 * i - 1, rfl, by decide, by decide, hp8.less (by omega), fun s' H9 s0' s1' k9 hp9 => ?_⟩
      walk_at "sx"
      obtain ⟨n', hn'⟩ : ∃ n : Nat, 1 + s' = (n : Int) := ⟨(1 + s').toNat, by omega⟩
      rw [hn']
      refine ⟨p, n', k + 188 - 10 * i - 9, rfl, by omega, by omega, hp9.less (by omega), fun w1 HA ow1 lw1 kA hpA => ?_⟩
      refine e_addS.mpr ⟨by show 1 + w1.length ≤ _; exact len_le (by omega), ?_⟩
      have cw1 : cl ((⟨#[sgn ((F + 5 * i) % 26)]⟩ : Str) ++ w1) = sgn ((F + 5 * i) % 26) :: cl w1 := by rw [cl_app]; rfl
      have hc : isLt (sgn ((F + 5 * i) % 26)) := sgn_lt (by omega)
      obtain ⟨u1, u2, u3, u4⟩ := ow1
      have lcw : (cl w1).length = n' := by rw [← cl_len]; exact lw1
      refine two _ _ _ HA _ (fun _ => ⟨?_, .inr (.inl ⟨hp1, by rw [cw1]; rfl⟩)⟩) (k9.trans kA) hpA
      rw [cw1]
      exact ⟨by simp, by rw [List.length_cons]; omega, fun x hx => (List.mem_cons.mp hx).elim (fun e => by rw [e]; exact .inl hc) (u3 x), fun x hx => by
        have : some (sgn ((F + 5 * i) % 26)) = some x := hx
        rw [← Option.some.inj this]; exact hc⟩
    · rw [decide_eq_false (fun c => hp1 (by injection c with c; omega)), if_neg (by decide)]
      refine two _ _ _ H8 _ (fun h2 => ⟨ok0, .inl ⟨by omega, by rw [cw]; exact putAt_get hat⟩⟩) (Keep.refl _ _) (hp8.less (by omega))
  · rintro σ H8 ⟨y10, y11, y12, ys, rfl, ef, ly, oy, ndy, ky, hp8, kk⟩
    unfold t__law_names_r3
    walk_at "sx"
    exact q fl H8 ys nfl kk (hp8.less (by omega)) ef (by simpa using ly) oy ndy


/-! ### towns of the pen -/
theorem names_ne {ys : List Str} (nd : ys.Nodup) {a b : Nat} (ha : a < ys.length) (hb : b < ys.length) (h : a ≠ b) : ys[a] ≠ ys[b] := fun e => h ((List.getElem_inj nd).mp e)
theorem name_ok {y : Str} (h : NameOk (cl y)) : PyData.strOk y = true := by
  unfold PyData.strOk
  rw [← Array.all_toList, List.all_eq_true]
  intro ch hc
  have := h.2.2.1 ch hc
  unfold isSg isLt at this
  exact decide_eq_true (by omega)
theorem dp_strsX {K : PySem.W.Frag} {H : Hp} : ∀ ys : List Str, DpAll K H (ys.map V.str) (ys.map .str)
  | [] => .nil
  | y :: ys => .cons (.str y) (dp_strsX ys)
theorem lay_strsX : ∀ {ys : List Str}, (∀ y ∈ ys, NameOk (cl y)) → PyData.canLayAll0 (ys.map .str) = true ∧ PyData.depthAll (ys.map .str) = 0
  | [], _ => by simp [PyData.canLayAll0, PyData.depthAll]
  | y :: ys, h => by
    obtain ⟨a, b⟩ := lay_strsX fun z hz => h z (.tail _ hz)
    have := name_ok (h y (.head _))
    simp [PyData.canLayAll0, PyData.depthAll, PyData.canLay0, PyData.depth, a, b, this]
theorem ne_nilX {K : PySem.W.Frag} {H : Hp} {a b : Addr} {ys : List Str} {Q : VK} (nm : ∀ y ∈ ys, NameOk (cl y)) (h : H a = some (.lst (ys.map V.str))) (e : H b = some (.lst [])) (q : Q (.bl (!ys.isEmpty)) H) : uEq K true (.ref a) (.ref b) H Q := by
  obtain ⟨h1, h2⟩ := lay_strsX nm
  refine .inr ⟨_, _, .lst (lst_sq h) (dp_strsX ys), .lst (lst_sq e) .nil, ?_, by decide +kernel, ?_⟩
  · unfold SeqAt.shaped
    rw [Bool.and_eq_true_iff]
    exact ⟨by simp [PyData.canLay0, h1], decide_eq_true (by simp [PyData.depth, h2])⟩
  · rw [if_pos rfl]
    cases ys with
    | nil => exact q
    | cons y ys => exact q
theorem erase_perm {ys : List Str} {i : Nat} (h : i < ys.length) : (ys[i] :: ys.eraseIdx i).Perm ys := by
  rw [List.eraseIdx_eq_take_drop_succ]
  have e : ys = ys.take i ++ ys[i] :: ys.drop (i + 1) := by
    rw [← List.drop_eq_getElem_cons h, List.take_append_drop]
  refine List.perm_middle.symm.trans ?_
  rw [← e]
def spTownP : Sp := fun vs H Q _ => ∃ (p : Addr) (k : Nat), vs = [.ref p] ∧ Pen H p (k + 500) ∧ ∀ t H' T, Keep [p] H H' → Pen H' p k → TnAt H' t T → TnOk T → Q (.ref t) H'
theorem rd_townP (K : PySem.W.Frag) : ∀ vs H Q E, spTownP vs H Q E → run (t__law_town K spDraw spNamesP spMinP) (L2.start N__law_town vs) H Q := by
  rintro _ H Q _ ⟨p, k, rfl, hp, q⟩
  show run (t__law_town K spDraw spNamesP spMinP) [some (.ref p), none, none, none, none, none, none, none, none, none, none] H Q
  unfold t__law_town
  walk_at "sx"
  refine ⟨p, 3, k + 499, rfl, by decide, by decide, hp, fun f H1 f0 f1 k1 hp1 => g_eq rfl ?_⟩
  walk_at "sx"
  refine ⟨p, 10, k + 498, rfl, by decide, by decide, hp1, fun v H2 v0 v1 k2 hp2 => ?_⟩
  walk_at "sx"
  refine ⟨by walk_at "sz", fun l3 H3 n3 k3 e3 => ?_⟩
  obtain ⟨m, hm, m1, m10⟩ : ∃ m : Nat, atI [V.int (1 + v), V.int 10] (if f = 0 then 1 else 0) = some (.int (m : Nat)) ∧ 1 ≤ m ∧ m ≤ 10 := by
    by_cases h : f = 0
    · rw [if_pos h]; exact ⟨10, rfl, by decide, by decide⟩
    · rw [if_neg h]
      refine ⟨(1 + v).toNat, ?_, by omega, by omega⟩
      rw [Int.toNat_of_nonneg (by omega)]
      rfl
  refine g_ixL e3 hm ⟨p, m, k + 298, rfl, m1, m10, hp2.keep k3, fun pl H4 ys n4 k4 hp4 e4 ly oy ndy => ?_⟩
  have npp := pen_ne (hp2.keep k3) n4
  refine ⟨by walk_at "sz", fun rl H5 n5 k5 e5 => ?_⟩
  have hp5 := hp4.keep k5
  have nrp := pen_ne hp4 n5
  have npr : pl ≠ rl := ne_of_none e4 n5
  refine ⟨p, 19, k + 297, rfl, by decide, by decide, hp5, fun x H6 x0 x1 k6 hp6 => ⟨by walk_at "sz", fun l7 H7 n7 k7 e7 => ?_⟩⟩
  obtain ⟨w, hw, w18⟩ : ∃ w : Nat, atI [V.int x, V.int 18] (if f = 0 then 1 else 0) = some (.int (w : Nat)) ∧ w ≤ 18 := by
    by_cases h : f = 0
    · rw [if_pos h]; exact ⟨18, rfl, by decide⟩
    · rw [if_neg h]
      refine ⟨x.toNat, ?_, by omega⟩
      rw [Int.toNat_of_nonneg (by omega)]
      rfl
  refine g_ixL e7 hw ?_
  walk_at "sx"
  have hp7 := hp6.keep k7
  obtain ⟨rn, hrn, rn18, rn1⟩ : ∃ rn : Nat, (w : Int) * (if 1 < (m : Int) then 1 else 0) = (rn : Int) ∧ rn ≤ 18 ∧ (1 ≤ rn → 2 ≤ m) := by
    by_cases h : 1 < (m : Int)
    · rw [if_pos h]; exact ⟨w, by omega, w18, fun _ => by omega⟩
    · rw [if_neg h]; exact ⟨0, by omega, by decide, fun c => by omega⟩
  rw [hrn]
  have kH : Keep [p] H H7 := k1.trans (k2.trans (k3.all.trans (k4.trans (k5.all.trans (k6.trans k7.all)))))
  have e4' : H7 pl = some (.lst (ys.map V.str)) := k7 _ _ nin0 (k6 _ _ (nin1 npp) (k5 _ _ nin0 e4))
  have e5' : H7 rl = some (.lst []) := k7 _ _ nin0 (k6 _ _ (nin1 nrp) e5)
  have nrl : H rl = none := (k1.trans (k2.trans (k3.all.trans k4))).free (nin1 nrp) n5
  have npl : H pl = none := (k1.trans (k2.trans k3.all)).free (nin1 npp) n4
  have S7 : NoTup [p, rl] H7 := fun a xs ta hh => by
    rcases List.mem_cons.mp hh with rfl | hh
    · obtain ⟨zs, hz⟩ := hp7.at
      exact ta.neL hz rfl
    · rw [List.mem_singleton.mp hh] at ta
      exact ta.neL e5' rfl
  have nPen : ∀ {H' : Hp} {j : Nat}, Pen H' p j → NoTup [p] H' := fun h a xs ta => nin1 fun z => by
    obtain ⟨zs, hz⟩ := h.at
    exact (z ▸ ta).neL hz rfl
  refine ⟨by first | exact cmul_right (by split <;> decide) | skip, g_FR1 (by omega) (by omega) ⟨fun i σ H' => ∃ (y5 y6 y7 : Option V) (vs : List V) (rs : List Rd), σ = [some (.ref p), some (.bl (decide (f = 0))), some (.int (m : Nat)), some (.ref pl), some (.ref rl), y5, y6, y7, none, none, none] ∧ Keep [p, rl] H7 H' ∧ Pen H' p (k + 290 - 12 * i) ∧ H' rl = some (.lst vs) ∧ RdsAt H' vs rs ∧ rs.length = i ∧ ∀ r ∈ rs, RdOk ys r,
    ⟨_, _, _, [], [], rfl, Keep.refl _ _, hp7.less (by omega), e5', .nil, rfl, fun _ h => (List.not_mem_nil h).elim⟩, ?_, ?_⟩⟩
  · rintro i σ H8 hi ⟨y5, y6, y7, vs, rs, rfl, k8, hp8, f8, d8, l8, o8⟩
    have hi' : i < 18 := by omega
    have m2 : 2 ≤ m := rn1 (by omega)
    have e8 : H8 pl = some (.lst (ys.map V.str)) := k8 _ _ (by simp [npp, npr]) e4'
    unfold t__law_town_b1
    walk_at "sx"
    refine ⟨p, _, k + 290 - 12 * i - 1, rfl, by omega, by omega, hp8.less (by omega), fun a H9 a0 a1 k9 hp9 => ?_⟩
    walk_at "sx"
    refine ⟨p, _, k + 290 - 12 * i - 2, rfl, by omega, by omega, hp9.less (by omega), fun b HA b0 b1 kA hpA => ?_⟩
    walk_at "sx"
    have t0 := Int.emod_nonneg (a + 1 + b) (show (m : Int) ≠ 0 by omega)
    have t1 := Int.emod_lt_of_pos (a + 1 + b) (show (0 : Int) < m by omega)
    have tne : (a + 1 + b) % (m : Int) ≠ a := by
      intro e
      by_cases hlt : a + 1 + b < m
      · rw [Int.emod_eq_of_lt (by omega) hlt] at e; omega
      · have : (a + 1 + b) % (m : Int) = a + 1 + b - m := by
          rw [← Int.sub_emod_right, Int.emod_eq_of_lt (by omega) (by omega)]
        omega
    generalize (a + 1 + b) % (m : Int) = t at t0 t1 tne
    have k8A : Keep [p] H8 HA := k9.trans kA
    have f8A := k8A _ _ (nin1 nrp) f8
    have e8A := k8A _ _ (nin1 npp) e8
    have ha : a.toNat < ys.length := by omega
    have ht : t.toNat < ys.length := by omega
    refine ⟨by omega, .inl ⟨rfl, _, .inl (.inl f8A)⟩, g_ixL e8A (at_lit (v := .str ys[a.toNat]) a.toNat (by omega) (by rw [List.getElem?_map, List.getElem?_eq_getElem ha]; rfl)) (g_ixL e8A (at_lit (v := .str ys[t.toNat]) t.toNat (by omega) (by rw [List.getElem?_map, List.getElem?_eq_getElem ht]; rfl)) ⟨by walk_at "sz", fun tp HB nB kB tB => ?_⟩)⟩
    refine ⟨p, k + 290 - 12 * i - 8, rfl, (hpA.keep kB).less (by omega), fun ma mb u HC oa ob nn kC hpC tC => ?_⟩
    have ntB := nPen (hpA.keep kB)
    refine g_addT (tB.keep kC (ntB _ _ tB)) tC (by simp only [List.length_cons, List.length_nil]; exact len_le (by decide)) fun z HD kD tD => ?_
    have kAD : Keep [p] HA HD := kB.all.trans (kC.trans kD.all)
    have fD := kAD _ _ (nin1 nrp) f8A
    have d8D := (d8.keep k8A (nPen hp8)).keep kAD (nPen hpA)
    refine g_append fD (by rw [d8.len]; exact len_lt (by omega)) fun HE kE fE => ?_
    refine ⟨_, _, _, _, rs ++ [⟨ys[a.toNat], ys[t.toNat], ma, mb⟩], rfl, k8.trans (((k8A.trans kAD).wide (by simp)).trans (kE.wide (by simp))), ?_, fE, (d8D.keep kE (noTup1 fD)).snoc (r := ⟨ys[a.toNat], ys[t.toNat], ma, mb⟩) (tD.keep kE (noTup1 fD _ _ tD)), by rw [List.length_append, l8]; rfl, fun r hr => ?_⟩
    · exact ((hpC.keep kD).keepL kE nrp).less (by omega)
    · rcases List.mem_append.mp hr with hr | hr
      · exact o8 r hr
      · rw [List.mem_singleton.mp hr]
        exact ⟨List.getElem_mem ha, List.getElem_mem ht, names_ne ndy ha ht (by omega), oa, ob, nn⟩
  · rintro σ H8 ⟨y5, y6, y7, vs, rs, rfl, k8, hp8, f8, d8, l8, o8⟩
    have e8 : H8 pl = some (.lst (ys.map V.str)) := k8 _ _ (by simp [npp, npr]) e4'
    unfold t__law_town_r2
    walk_at "sx"
    have l18 : rs.length ≤ 18 := by rw [l8]; simpa using rn18
    have hp8' : Pen H8 p (k + 74) := hp8.less (by omega)
    have kH8 : ∀ b o, b ∉ [p] → H b = some o → H8 b = some o := fun b o hb h => k8 _ _ (by
      simp only [List.mem_cons, List.not_mem_nil, or_false, not_or]
      exact ⟨fun z => hb (List.mem_singleton.mpr z), fun z => by rw [z, nrl] at h; cases h⟩) (kH _ _ hb h)
    refine g_listL e8 fun pool H9 n9 k9 e9 => ⟨by walk_at "sz", fun sl HA nA kA eA => ?_⟩
    have npoolp := pen_ne hp8' n9
    have nslp := pen_ne (hp8'.keep k9) nA
    have nps : pool ≠ sl := ne_of_none e9 nA
    have hpA := (hp8'.keep k9).keep kA
    refine ⟨p, 5, k + 73, rfl, by decide, by decide, hpA, fun c HB c0 c1 kB hpB => ?_⟩
    walk_at "sx"
    refine ⟨by walk_at "sz", fun lC HC nC kC eC => ?_⟩
    obtain ⟨sn, hsn, sn1, sn5⟩ : ∃ sn : Nat, atI [V.int (1 + c), V.int 5] (if f = 0 then 1 else 0) = some (.int (sn : Nat)) ∧ 1 ≤ sn ∧ sn ≤ 5 := by
      by_cases h : f = 0
      · rw [if_pos h]; exact ⟨5, rfl, by decide, by decide⟩
      · rw [if_neg h]
        refine ⟨(1 + c).toNat, ?_, by omega, by omega⟩
        rw [Int.toNat_of_nonneg (by omega)]
        rfl
    refine g_ixL eC hsn ?_
    have k8C : Keep [p] H8 HC := k9.all.trans (kA.all.trans (kB.trans kC.all))
    have ePC : HC pool = some (.lst (ys.map V.str)) := kC _ _ nin0 (kB _ _ (nin1 npoolp) (kA _ _ nin0 e9))
    have eSC : HC sl = some (.lst []) := kC _ _ nin0 (kB _ _ (nin1 nslp) eA)
    refine g_FR1 (by omega) (by omega) ⟨fun i σ H' => ∃ (y5 : Option V) (zs ss : List Str), σ = [some (.ref p), some (.bl (decide (f = 0))), some (.int (m : Nat)), some (.ref pl), some (.ref rl), y5, y6, y7, some (.ref pool), some (.ref sl), none] ∧ Keep [p, pool, sl] HC H' ∧ Pen H' p (k + 72 - i) ∧ H' pool = some (.lst (zs.map V.str)) ∧ H' sl = some (.lst (ss.map V.str)) ∧ (ss ++ zs).Perm ys ∧ ss.length ≤ i ∧ (1 ≤ i → 1 ≤ ss.length),
      ⟨_, ys, [], rfl, Keep.refl _ _, (hpB.keep kC).less (by omega), ePC, eSC, List.Perm.refl _, Nat.le_refl _, fun c => by omega⟩, ?_, ?_⟩
    · rintro i σ HD hi ⟨y5, zs, ss, rfl, kD, hpD, eP, eS, pm, ls, l1⟩
      unfold t__law_town_b2
      walk_at "sx"
      have inz : ∀ z ∈ zs, z ∈ ys := fun z hz => pm.mem_iff.mp (List.mem_append_right _ hz)
      refine ⟨by walk_at "sz", fun e0 HE nE kE eE => ne_nilX (fun z hz => oy z (inz z hz)) (kE _ _ nin0 eP) eE ⟨_, rfl, ?_⟩⟩
      have lpm := pm.length_eq
      rw [List.length_append] at lpm
      cases hz : zs with
      | nil =>
        change if false = true then _ else _
        rw [if_neg (by decide)]
        rw [hz] at lpm
        simp only [List.length_nil, Nat.add_zero] at lpm
        exact ⟨_, [], ss, rfl, kD.trans kE.all, (hpD.keep kE).less (by omega), by rw [← hz]; exact kE _ _ nin0 eP, kE _ _ nin0 eS, by rw [← hz]; exact pm, by omega, fun _ => by omega⟩
      | cons z0 zs0 =>
        change if true = true then _ else _
        rw [if_pos rfl]
        have lz1 : 1 ≤ zs.length := by rw [hz]; simp
        have eP2 := kE _ _ nin0 eP
        have eS2 := kE _ _ nin0 eS
        refine ⟨.inl ⟨rfl, _, .inl (.inl eS2)⟩, .inl ⟨rfl, _, .inl (.inl eP2)⟩, g_lenL eP2 ?_⟩
        rw [List.length_map]
        refine ⟨p, _, k + 72 - i - 1, rfl, by omega, by omega, (hpD.keep kE).less (by omega), fun v HF v0 v1 kF hpF => ?_⟩
        have hv : v.toNat < zs.length := by omega
        have eP3 := kF _ _ (nin1 npoolp) eP2
        have eS3 := kF _ _ (nin1 nslp) eS2
        refine g_popAt eP3 (Int.toNat_of_nonneg v0).symm (by rw [List.length_map]; exact hv) (by rw [List.length_map]; omega) (y := .str zs[v.toNat]) (by rw [List.getElem?_map, List.getElem?_eq_getElem hv]; rfl) fun HG kG eG => ?_
        have eS4 := kG _ _ (nin1 nps.symm) eS3
        refine g_append eS4 (by rw [List.length_map]; exact len_lt (by omega)) fun HI kI eI => ?_
        refine ⟨_, zs.eraseIdx v.toNat, ss ++ [zs[v.toNat]], rfl, kD.trans (kE.all.trans ((kF.wide (by simp)).trans ((kG.wide (by simp)).trans (kI.wide (by simp))))), ((hpF.keepL kG npoolp).keepL kI nslp).less (by omega), ?_, by rw [List.map_append]; exact eI, ?_, by rw [List.length_append]; simp only [List.length_cons, List.length_nil]; omega, fun _ => by rw [List.length_append]; simp⟩
        · rw [kI _ _ (nin1 nps) eG]
          rw [List.eraseIdx_eq_take_drop_succ, List.eraseIdx_eq_take_drop_succ, List.map_append, List.map_take, List.map_drop]
        · rw [List.append_assoc]
          exact ((erase_perm hv).append_left ss).trans pm
    · rintro σ HD ⟨y5, zs, ss, rfl, kD, hpD, eP, eS, pm, ls, l1⟩
      unfold t__law_town_r1
      walk_at "sx"
      have hpD' : Pen HD p (k + 67) := hpD.less (by omega)
      have npp2 : pl ≠ pool := ne_of_none e8 n9
      have nps2 : pl ≠ sl := ne_of_none (k9 _ _ nin0 e8) nA
      have nrp2 : rl ≠ pool := ne_of_none f8 n9
      have nrs2 : rl ≠ sl := ne_of_none (k9 _ _ nin0 f8) nA
      have ePL : HD pl = some (.lst (ys.map V.str)) := kD _ _ (by simp [npp, npp2, nps2]) (k8C _ _ (nin1 npp) e8)
      have eRL : HD rl = some (.lst vs) := kD _ _ (by simp [nrp, nrp2, nrs2]) (k8C _ _ (nin1 nrp) f8)
      have ntC : NoTup [p, pool, sl] HC := fun a xs ta hh => by
        simp only [List.mem_cons, List.not_mem_nil, or_false] at hh
        rcases hh with rfl | rfl | rfl
        · exact nPen (hpB.keep kC) _ _ ta (List.mem_singleton.mpr rfl)
        · exact ta.neL ePC rfl
        · exact ta.neL eSC rfl
      have dD := (d8.keep k8C (nPen hp8')).keep kD ntC
      have kHD : Keep [p] H HD := fun b o hb h => by
        have h8 := kH8 b o hb h
        have hbp : b ≠ p := fun z => hb (List.mem_singleton.mpr z)
        exact kD _ _ (by simp [hbp, ne_of_none h8 n9, ne_of_none (k9 _ _ nin0 h8) nA]) (k8C _ _ hb h8)
      refine ⟨p, 121, k + 66, rfl, by decide, by decide, hpD', fun r1 HE r10 r11 kE hpE => ⟨by walk_at "sz", fun lF HF nF kF eF => ?_⟩⟩
      have nFp := pen_ne hpE nF
      refine ⟨p, 3, k + 65, rfl, by decide, by decide, hpE.keep kF, fun r2 HG r20 r21 kG hpG => ?_⟩
      obtain ⟨re, hre, re0, re1⟩ : ∃ re : Int, atI [V.int 0, V.int 120, V.int r1] r2 = some (.int re) ∧ 0 ≤ re ∧ re ≤ 120 := by
        have : r2 = 0 ∨ r2 = 1 ∨ r2 = 2 := by omega
        rcases this with rfl | rfl | rfl
        · exact ⟨_, rfl, by decide, by decide⟩
        · exact ⟨_, rfl, by decide, by decide⟩
        · exact ⟨_, rfl, by omega, by omega⟩
      refine g_ixL (kG _ _ (nin1 nFp) eF) hre ?_
      have kDG : Keep [p] HD HG := kE.trans (kF.all.trans kG)
      have dG := dD.keep kDG (nPen hpD')
      refine g_tupleL (kDG _ _ (nin1 npp) ePL) fun t1 HI nI kI tI => g_tupleL (kI _ _ nin0 (kDG _ _ (nin1 nrp) eRL)) fun t2 HJ nJ kJ tJ => g_tupleL ((kI.trans kJ) _ _ nin0 (kDG _ _ (nin1 nslp) eS)) fun t3 HK nK kK tK => ⟨by walk_at "sz", fun tp HL nL kL tL => ?_⟩
      have kGL := kI.trans (kJ.trans (kK.trans kL))
      have ndss : (ss ++ zs).Nodup := pm.nodup_iff.mpr ndy
      rw [List.nodup_append] at ndss
      refine q tp HL ⟨ys, rs, ss, re⟩ (kHD.trans (kDG.trans kGL.all)) ((hpG.keep kGL).less (by omega)) ⟨t1, t2, t3, vs, tL, tI.keep (kJ.trans (kK.trans kL)) nin0, tJ.keep (kK.trans kL) nin0, dG.keep kGL noTup0, tK.keep kL nin0⟩ ?_
      have ls5 : ss.length ≤ 5 := by simp only [Int.toNat_natCast] at ls; omega
      have ls1 : 1 ≤ ss.length := by simp only [Int.toNat_natCast] at l1; exact l1 sn1
      exact ⟨by show 1 ≤ ys.length; omega, by show ys.length ≤ 10; omega, ndy, oy, l18, o8, ls1, ls5, ndss.1, fun y hy => pm.mem_iff.mp (List.mem_append_left _ hy), re0, re1⟩


theorem g_tup {K : PySem.W.Frag} {p : Addr} {xs : List V} {n : Nat} {t : TGs} {σ : L2.St} {H : Hp} {Q : L2.St → Hp → Prop} (h : Tup H p xs) (l : xs.length = n) (q : t xs σ H Q) : gTup K n t (.ref p) σ H Q := ⟨p, xs, rfl, h.sq, l, q⟩
theorem log_small {i : Int} (h0 : 0 ≤ i) (h1 : i ≤ 1000000) : i.natAbs.log2 < 1920 := by
  have : i.natAbs < 2 ^ 20 := by omega
  by_cases h : i.natAbs = 0
  · rw [h]; decide
  · exact Nat.lt_trans ((Nat.log2_lt h).mpr this) (by decide)
/-! is_road -/
theorem kit_tuple_tuple : kitB "tuple" "tuple" = some true := by decide +kernel
def isDrv : V → Bool
  | .non => true
  | .int i => decide (1 ≤ i) && decide (i ≤ 60)
  | _ => false
def spWholeI : Sp := fun vs H Q _ => ∃ i : Int, vs = [.int i] ∧ Q (.bl true) H
theorem rd_wholeI (K : PySem.W.Frag) : ∀ vs H Q E, spWholeI vs H Q E → run (t_is_whole K) (L2.start N_is_whole vs) H Q := by
  rintro _ H Q _ ⟨i, rfl, q⟩
  show run (t_is_whole K) [some (.int i)] H Q
  unfold t_is_whole
  walk_at "sx"
  refine g_isi (.base (.int i)) kit_int_int ⟨true, rfl, ?_⟩
  rw [if_pos rfl]
  exact g_isi (.base (.int i)) kit_int_bool ⟨false, rfl, q⟩
def spWithinI : Sp := fun vs H Q _ => ∃ i lo hi : Int, vs = [.int i, .int lo, .int hi] ∧ Q (.bl (decide (lo ≤ i) && decide (i ≤ hi))) H
theorem rd_withinI (K : PySem.W.Frag) : ∀ vs H Q E, spWithinI vs H Q E → run (t_is_within K spWholeI) (L2.start N_is_within vs) H Q := by
  rintro _ H Q _ ⟨i, lo, hi, rfl, q⟩
  show run (t_is_within K spWholeI) [some (.int i), some (.int lo), some (.int hi)] H Q
  unfold t_is_within
  walk_at "sx"
  refine ⟨i, rfl, true, rfl, ?_⟩
  rw [if_pos rfl]
  walk_at "sx"
  by_cases h : lo ≤ i <;> simpa [h, e_rI0] using q
def spDrv : Sp := fun vs H Q _ => ∃ m : Option Int, vs = [mV m] ∧ Q (.bl (isDrv (mV m))) H
theorem rd_isDrive (K : PySem.W.Frag) : ∀ vs H Q E, spDrv vs H Q E → run (t__is_drive K spWithinI) (L2.start N__is_drive vs) H Q := by
  rintro _ H Q _ ⟨m, rfl, q⟩
  show run (t__is_drive K spWithinI) [some (mV m)] H Q
  unfold t__is_drive
  walk_at "sx"
  cases m with
  | none =>
    rw [if_pos (show mV none = V.non from rfl)]
    exact q
  | some i =>
    rw [if_neg (fun z => nomatch z)]
    exact ⟨i, 1, 60, rfl, q⟩
theorem inV_str {y : Str} (zs : List Str) : inV (.str y) (zs.map V.str) = decide (y ∈ zs) := by
  unfold inV
  induction zs with
  | nil => rfl
  | cons a r ih =>
    rw [List.map_cons, List.any_cons, ih]
    show ((a == y) || _) = _
    rw [Bool.eq_iff_iff]
    simp only [Bool.or_eq_true, beq_iff_eq, decide_eq_true_eq, List.mem_cons]
    exact ⟨fun h => h.elim (fun e => .inl e.symm) .inr, fun h => h.elim (fun e => .inl e.symm) .inr⟩
theorem ei_strs : ∀ ys : List Str, EI (fun v y => v = V.str y) (ys.map V.str) ys
  | [] => .nil
  | y :: r => .cons rfl (ei_strs r)
theorem ei_rds {H : Hp} : ∀ {vs : List V} {rs : List Rd}, RdsAt H vs rs → EI (fun v r => ∃ p, v = .ref p ∧ RdAt H p r) vs rs
  | _, _, .nil => .nil
  | _, _, .cons h q => .cons ⟨_, rfl, h⟩ (ei_rds q)
theorem take_one {α : Type} {rs : List α} {i : Nat} {r : α} (e : rs[i]? = some r) : rs.take (i + 1) = rs.take i ++ [r] := by
  rw [List.take_succ, e]; rfl
/-- a thing of a kind that isinstance knows -/
inductive Kd (K : PySem.W.Frag) (H : Hp) : V → Prop
  | non : Kd K H .non
  | bl (b : Bool) : Kd K H (.bl b)
  | int (i : Int) : Kd K H (.int i)
  | str (x : Str) : Kd K H (.str x)
  | lst {a : Addr} {xs : List V} : H a = some (.lst xs) → Kd K H (.ref a)
  | tup {a : Addr} {xs : List V} : Tup H a xs → Kd K H (.ref a)
  | dic {a : Addr} {xs : List (Key × V)} : H a = some (.dK xs) → Kd K H (.ref a)
theorem Kd.keep {K : PySem.W.Frag} {H H' : Hp} {v : V} (h : Kd K H v) (k : Keep [] H H') : Kd K H' v := by
  cases h with
  | non => exact .non
  | bl b => exact .bl b
  | int i => exact .int i
  | str x => exact .str x
  | lst e => exact .lst (k _ _ nin0 e)
  | tup e => exact .tup (e.keep k nin0)
  | dic e => exact .dic (k _ _ nin0 e)
/-! ### texts, names -/
abbrev sg (z : Str) : List Nat := z.cps.toList
abbrev s1 (c : Nat) : Str := ⟨#[c]⟩
abbrev LET : Str := "abcdefghijklmnopqrstuvwxyz"
abbrev NSG : Str := "abcdefghijklmnopqrstuvwxyz0123456789"
theorem kit_int_str : kitB "int" "str" = some false := by decide +kernel
theorem kit_bool_str : kitB "bool" "str" = some false := by decide +kernel
theorem kit_str_str' : kitB "str" "str" = some true := by decide +kernel
theorem kit_none_str : kitB "NoneType" "str" = some false := by decide +kernel
theorem kit_list_str : kitB "list" "str" = some false := by decide +kernel
theorem kit_tuple_str : kitB "tuple" "str" = some false := by decide +kernel
theorem kit_dict_str : kitB "dict" "str" = some false := by decide +kernel
def isStrB : V → Bool
  | .str _ => true
  | _ => false
theorem g_isStr {K : PySem.W.Frag} {H : Hp} {v : V} {Q : VK} (h : Kd K H v) (q : Q (.bl (isStrB v)) H) : rIsi K [v, .ty "str"] H Q := by
  cases h with
  | int i => exact g_isi (.base (.int i)) kit_int_str q
  | bl b => exact g_isi (.base (.bl b)) kit_bool_str q
  | non => exact g_isi (.base .non) kit_none_str q
  | str x => exact g_isi (.base (.str x)) kit_str_str' q
  | lst e => exact g_isi (.base (.lst e)) kit_list_str q
  | tup e => exact g_isi (ty_tup e) kit_tuple_str q
  | dic e => exact g_isi (.base (.dK e)) kit_dict_str q
theorem g_inC {K : PySem.W.Frag} {H : Hp} {Q : VK} {c : Nat} {z : Str} (q : Q (.bl (decide (c ∈ sg z))) H) : uIn K false (.str (s1 c)) (.str z) H Q :=
  .inr ⟨s1 c, z, rfl, rfl, by rw [if_neg Bool.false_ne_true, PySem.StrLaws.found_one z c]; exact q⟩
theorem g_ninC {K : PySem.W.Frag} {H : Hp} {Q : VK} {c : Nat} {z : Str} (q : Q (.bl (!decide (c ∈ sg z))) H) : uIn K true (.str (s1 c)) (.str z) H Q :=
  .inr ⟨s1 c, z, rfl, rfl, by rw [if_pos rfl, PySem.StrLaws.found_one z c]; exact q⟩
theorem sg_len (z : Str) : (sg z).length = z.length := by simp [Str.length]
theorem g_first {K : PySem.W.Frag} {H : Hp} {Q : VK} {z : Str} (h1 : 1 ≤ z.length) (h8 : z.length ≤ 8) (q : Q (.str (s1 ((sg z).getD 0 0))) H) : uIx K (.str z) (.int 0) H Q := by
  have hl := sg_len z
  refine g_ixS (len_le (by omega)) (at_lit 0 rfl ?_) q
  show (sg z)[0]? = _
  rw [List.getD_eq_getElem?_getD, List.getElem?_eq_getElem (show 0 < (sg z).length by omega)]
  rfl
/-! ### moments as texts -/
abbrev nt (h : Nat) : Str := Str.ofString (toString ((h : Nat) : Int))
abbrev FIG : Str := "0123456789"
theorem sg_nt (h : Nat) : sg (nt h) = TL.numL h := TL.tl_num h
theorem fig_of {c : Nat} (h0 : 48 ≤ c) (h1 : c ≤ 57) : c ∈ sg FIG := by
  have : c = 48 ∨ c = 49 ∨ c = 50 ∨ c = 51 ∨ c = 52 ∨ c = 53 ∨ c = 54 ∨ c = 55 ∨ c = 56 ∨ c = 57 := by omega
  rcases this with rfl | rfl | rfl | rfl | rfl | rfl | rfl | rfl | rfl | rfl <;> decide +kernel
theorem num_head : ∀ h : Nat, 1 ≤ h → ∃ c r, TL.numL h = c :: r ∧ 49 ≤ c := by
  intro h
  induction h using Nat.strongRecOn with
  | ind h ih =>
    intro h1
    by_cases h2 : h < 10
    · exact ⟨48 + h, [], TL.numL_lt h2, by omega⟩
    · obtain ⟨c, r, e, hc⟩ := ih (h / 10) (by omega) (by omega)
      exact ⟨c, r ++ [48 + h % 10], by rw [TL.numL_step (by omega), e]; rfl, hc⟩
theorem nt_len {h k : Nat} (hk : 0 < k) (hh : h < 10 ^ k) : (nt h).length ≤ k := by
  rw [← sg_len, sg_nt]
  exact TL.numL_len hk hh
theorem nt_pos (h : Nat) : 1 ≤ (nt h).length := by
  rw [← sg_len, sg_nt]
  exact List.length_pos_iff.mpr (TL.numL_ne h)
def letB (c : Nat) : Bool := decide (c ∈ sg LET)
def nsgB (c : Nat) : Bool := decide (c ∈ sg NSG)
def nameV : V → Bool
  | .str z => if 1 ≤ z.length ∧ z.length ≤ 8 then letB ((sg z).getD 0 0) && (sg z).all nsgB else false
  | _ => false
def spIsName (K : PySem.W.Frag) (L : List Addr) (P : Addr) : Sp := fun vs H Q _ => ∃ v, vs = [v] ∧ Kd K H v ∧ (∀ z, v = .str z → z.length ≤ 1000000) ∧ Tabs L H ∧ P ∈ L ∧ ∀ H', KT L H H' → Q (.bl (nameV v)) H'
theorem rd_isname (K : PySem.W.Frag) {L : List Addr} {P : Addr} : ∀ vs H Q E, spIsName K L P vs H Q E → run (t_is_name K P) (L2.start N_is_name vs) H Q := by
  rintro _ H Q _ ⟨v, rfl, hv, hz, ht, hP, q⟩
  show run (t_is_name K P) [some v, none] H Q
  unfold t_is_name
  walk_at "sx"
  have no : nameV v = false → Q (.bl false) H := fun e => by rw [← e]; exact q H (KT.refl _ _)
  cases v with
  | str z =>
    refine g_isStr hv ⟨true, rfl, ?_⟩
    have lz := hz z rfl
    rw [if_neg (by decide)]
    refine g_lenS (len_le lz) ?_
    refine e_rI0.mpr ⟨_, rfl, ?_⟩
    by_cases h1 : 1 ≤ z.length
    · rw [if_pos (decide_eq_true (show (1 : Int) ≤ (z.length : Nat) by omega))]
      refine e_rI0.mpr ⟨_, rfl, ?_⟩
      by_cases h8 : z.length ≤ 8
      · rw [decide_eq_true (show ((z.length : Nat) : Int) ≤ 8 by omega), if_neg (by decide)]
        unfold t_is_name_r1
        walk_at "sx"
        have en : nameV (.str z) = (letB ((sg z).getD 0 0) && (sg z).all nsgB) := if_pos ⟨h1, h8⟩
        refine g_first h1 h8 (g_inC ⟨letB ((sg z).getD 0 0), rfl, ?_⟩)
        cases hb : letB ((sg z).getD 0 0) with
        | false =>
          rw [if_neg Bool.false_ne_true]
          have hb' : decide ((sg z).getD 0 0 ∈ sg LET) = false := hb
          have := no (by rw [en, hb]; rfl)
          rw [← hb'] at this
          exact this
        | true =>
          rw [if_pos rfl]
          refine e_genU.mpr ?_
          walk_at "sx"
          refine g_GS nsgB ht hP (fun c H1 R R0 hc k1 t1 hR => ?_) fun H' k => ?_
          · walk_at "sx"
            exact g_inC (hR H1 (KT.refl _ _))
          · have e : aaB false nsgB (sg z) = nameV (.str z) := by rw [en, hb]; rfl
            rw [e]
            exact q H' k
      · rw [decide_eq_false (show ¬ ((z.length : Nat) : Int) ≤ 8 by omega), if_pos (by decide)]
        exact no (if_neg fun h => h8 h.2)
    · rw [decide_eq_false (show ¬ (1 : Int) ≤ (z.length : Nat) by omega), if_neg (by decide)]
      exact no (if_neg fun h => h1 h.1)
  | _ => exact g_isStr hv ⟨false, rfl, no rfl⟩

theorem let_in {c : Nat} (h : isLt c) : letB c = true := by
  unfold isLt at h
  have key : ∀ i, i < 26 → decide (97 + i ∈ sg LET) = true := by decide +kernel
  have := key (c - 97) (by omega)
  rwa [show 97 + (c - 97) = c by omega] at this
theorem nsg_in {c : Nat} (h : isSg c) : nsgB c = true := by
  unfold isSg isLt at h
  have k1 : ∀ i, i < 26 → decide (97 + i ∈ sg NSG) = true := by decide +kernel
  have k2 : ∀ i, i < 10 → decide (48 + i ∈ sg NSG) = true := by decide +kernel
  rcases h with h | h
  · have := k1 (c - 97) (by omega)
    rwa [show 97 + (c - 97) = c by omega] at this
  · have := k2 (c - 48) (by omega)
    rwa [show 48 + (c - 48) = c by omega] at this
theorem nameV_ok {y : Str} (h : NameOk (cl y)) : nameV (.str y) = true := by
  obtain ⟨h1, h2, h3, h4⟩ := h
  have e : (cl y).length = y.length := (cl_len y).symm
  have hv : nameV (.str y) = (letB ((sg y).getD 0 0) && (sg y).all nsgB) := if_pos ⟨by omega, by omega⟩
  rw [hv, Bool.and_eq_true]
  constructor
  · have e2 : sg y = cl y := rfl
    rw [e2]
    cases hc : cl y with
    | nil => rw [hc] at h1; simp at h1
    | cons c r => exact let_in (h4 c (by rw [hc]; rfl))
  · exact List.all_eq_true.mpr fun c hc => nsg_in (h3 c hc)
/-! ### the law's names -/
def Lo (z : Str) : Prop := ∀ c ∈ sg z, c < 128
theorem sg_app (a b : Str) : sg (a ++ b) = sg a ++ sg b := by
  show (a ++ b).cps.toList = _
  rw [PySem.Str.cps_append, Array.toList_append]
theorem lay_s1 : ∀ {cs : List Nat}, (∀ c ∈ cs, c < 128) → PyData.canLayAll0 (cs.map fun c => .str (s1 c)) = true ∧ PyData.depthAll (cs.map fun c => .str (s1 c)) = 0
  | [], _ => ⟨rfl, by simp [PyData.depthAll]⟩
  | c :: cs, h => by
    obtain ⟨h1, h2⟩ := lay_s1 fun z hz => h z (List.mem_cons_of_mem _ hz)
    have hc : PyData.strOk (s1 c) = true := by
      have := h c List.mem_cons_self
      simp [PyData.strOk, s1]
      omega
    exact ⟨by simp [PyData.canLayAll0, PyData.canLay0, h1, hc], by simp [PyData.depthAll, PyData.depth, h2]⟩
theorem dp_s1 {K : PySem.W.Frag} {H : Hp} : ∀ cs : List Nat, DpAll K H (cs.map fun c => V.str (s1 c)) (cs.map fun c => .str (s1 c))
  | [] => .nil
  | c :: cs => .cons (.str _) (dp_s1 cs)
theorem g_eqS1 {K : PySem.W.Frag} {H : Hp} {Q : VK} {a b : Addr} {cs : List Nat} (h : H a = some (.lst (cs.map fun c => V.str (s1 c)))) (e : H b = some (.lst [])) (lo : ∀ c ∈ cs, c < 128) (q : Q (.bl cs.isEmpty) H) : uEq K false (.ref a) (.ref b) H Q := by
  obtain ⟨h1, h2⟩ := lay_s1 lo
  refine .inr ⟨_, _, .lst (lst_sq h) (dp_s1 cs), .lst (lst_sq e) .nil, ?_, by decide +kernel, ?_⟩
  · unfold SeqAt.shaped
    rw [Bool.and_eq_true_iff]
    exact ⟨by simp [PyData.canLay0, h1], decide_eq_true (by simp [PyData.depth, h2])⟩
  · rw [if_neg Bool.false_ne_true]
    cases cs with
    | nil => exact q
    | cons c cs => exact q
theorem all_empty {α : Type} {f : α → Bool} : ∀ xs : List α, (xs.filter fun x => !f x).isEmpty = xs.all f
  | [] => rfl
  | x :: xs => by
    rw [List.filter_cons, List.all_cons]
    cases f x with
    | true => rw [Bool.true_and, if_neg (by decide)]; exact all_empty xs
    | false => rfl
def spIsL (K : PySem.W.Frag) : Sp := fun vs H Q _ => ∃ v, vs = [v] ∧ Kd K H v ∧ (∀ z, v = .str z → z.length ≤ 1000000 ∧ Lo z) ∧ ∀ H', Keep [] H H' → Q (.bl (nameV v)) H'
theorem rd_isL (K : PySem.W.Frag) : ∀ vs H Q E, spIsL K vs H Q E → run (t__law_is_name K) (L2.start N__law_is_name vs) H Q := by
  rintro _ H Q _ ⟨v, rfl, hv, hz, q⟩
  show run (t__law_is_name K) [some v, none, none] H Q
  unfold t__law_is_name
  walk_at "sx"
  have no : nameV v = false → Q (.bl false) H := fun e => by rw [← e]; exact q H (Keep.refl _ _)
  cases v with
  | str z =>
    refine g_isStr hv ⟨true, rfl, ?_⟩
    obtain ⟨lz, loz⟩ := hz z rfl
    rw [if_neg (by decide)]
    refine g_lenS (len_le lz) ?_
    refine e_rI0.mpr ⟨_, rfl, ?_⟩
    by_cases h1 : 1 ≤ z.length
    · rw [if_pos (decide_eq_true (show (1 : Int) ≤ (z.length : Nat) by omega))]
      refine e_rI0.mpr ⟨_, rfl, ?_⟩
      by_cases h8 : z.length ≤ 8
      · rw [decide_eq_true (show ((z.length : Nat) : Int) ≤ 8 by omega), if_neg (by decide)]
        have en : nameV (.str z) = (letB ((sg z).getD 0 0) && (sg z).all nsgB) := if_pos ⟨h1, h8⟩
        refine g_first h1 h8 (g_ninC ⟨_, rfl, ?_⟩)
        cases hb : letB ((sg z).getD 0 0) with
        | false =>
          have hb' : decide ((sg z).getD 0 0 ∈ sg LET) = false := hb
          rw [if_pos (by rw [hb']; rfl)]
          exact no (by rw [en, hb]; rfl)
        | true =>
          have hb' : decide ((sg z).getD 0 0 ∈ sg LET) = true := hb
          rw [if_neg (by rw [hb']; decide)]
          unfold t__law_is_name_r1
          walk_at "sx"
          have sz : z.cps.size = (sg z).length := by simp
          refine g_CS (S := []) (fun _ h => (List.not_mem_nil h).elim) ⟨fun i H' acc => acc = (((sg z).take i).filter fun c => !nsgB c).map fun c => V.str (s1 c), fun _ _ _ _ => rfl, ?_, ?_⟩
          · rintro D i H1 acc R R0 nD hi k1 eD rfl hR hR0
            have hi' : i < (sg z).length := by rw [← sz]; exact hi
            have hg : (sg z)[i]? = some (sg z)[i] := List.getElem?_eq_getElem hi'
            have e : z.cps.getD i 0 = (sg z)[i] := by
              rw [Array.getD_eq_getD_getElem?, ← Array.getElem?_toList]
              show ((sg z)[i]?).getD 0 = _
              rw [hg]
              rfl
            have tk : ((sg z).take (i + 1)).filter (fun c => !nsgB c) = ((sg z).take i).filter (fun c => !nsgB c) ++ (if nsgB (sg z)[i] = false then [(sg z)[i]] else []) := by
              rw [List.take_succ, hg, List.filter_append]
              congr 1
              show [(sg z)[i]].filter _ = _
              generalize (sg z)[i] = c
              cases h : nsgB c <;> simp [h]
            have ln : (((sg z).take i).filter fun c => !nsgB c).length ≤ 8 := Nat.le_trans (List.length_filter_le _ _) (by rw [List.length_take]; have := sg_len z; omega)
            show gName 2 (.str ⟨#[z.cps.getD i 0]⟩) _ _ _
            rw [e]
            generalize (sg z)[i] = c at tk
            walk_at "sx"
            rw [let_nsg]
            refine ⟨by decide +kernel, g_ninC ⟨_, rfl, ?_⟩⟩
            cases hc : nsgB c with
            | true =>
              have hc' : decide (c ∈ sg NSG) = true := hc
              rw [hc', if_neg (by decide)]
              refine hR0 _ (Keep.refl _ _) ?_
              dsimp only
              rw [tk, hc, if_neg (by decide), List.append_nil]
            | false =>
              have hc' : decide (c ∈ sg NSG) = false := hc
              rw [hc', if_pos (by decide)]
              refine hR _ _ (Keep.refl _ _) (by rw [List.length_map]; exact len_lt (by omega)) fun H5 _ => ?_
              dsimp only
              rw [tk, hc, if_pos rfl, List.map_append]
              rfl
          · rintro D H1 acc nD k1 eD rfl
            rw [sz, List.take_length] at eD
            refine ⟨by walk_at "sz", fun e0 H2 n2 k2 f2 => g_eqS1 (k2 _ _ nin0 eD) f2 (fun c hc => loz c (List.mem_filter.mp hc).1) ?_⟩
            have e : ((sg z).filter fun c => !nsgB c).isEmpty = nameV (.str z) := by rw [en, hb, all_empty]; rfl
            rw [e]
            exact q H2 (k1.trans k2)
      · rw [decide_eq_false (show ¬ ((z.length : Nat) : Int) ≤ 8 by omega), if_pos (by decide)]
        exact no (if_neg fun h => h8 h.2)
    · rw [decide_eq_false (show ¬ (1 : Int) ≤ (z.length : Nat) by omega), if_neg (by decide)]
      exact no (if_neg fun h => h1 h.1)
  | _ => exact g_isStr hv ⟨false, rfl, no rfl⟩

/-! ### data of any kind that lies beside a pen -/
theorem nin2 {a b c : Addr} (h1 : a ≠ b) (h2 : a ≠ c) : a ∉ [b, c] := fun h => by
  rcases List.mem_cons.mp h with h | h
  · exact h1 h
  · exact h2 (List.mem_singleton.mp h)
mutual
inductive Da (p : List Addr) (H : Hp) : V → PyData → Prop
  | non : Da p H .non .none
  | bl (b : Bool) : Da p H (.bl b) (.bool b)
  | int (i : Int) : Da p H (.int i) (.int i)
  | str (z : Str) : Da p H (.str z) (.str z)
  | lst {a : Addr} {xs : List V} {ds : List PyData} : H a = some (.lst xs) → a ∉ p → DaL p H xs ds → Da p H (.ref a) (.list ds)
  | tup {a : Addr} {xs : List V} {ds : List PyData} : Tup H a xs → DaL p H xs ds → Da p H (.ref a) (.tuple ds)
  | dic {a : Addr} {kvs : List (Key × V)} {vs : List V} {ds : List PyData} : H a = some (.dK kvs) → vs = kvs.map (·.2) → DaL p H vs ds → Da p H (.ref a) (.dict ((kvs.map fun p => keyD p.1).zip ds))
inductive DaL (p : List Addr) (H : Hp) : List V → List PyData → Prop
  | nil : DaL p H [] []
  | cons {v : V} {vs : List V} {d : PyData} {ds : List PyData} : Da p H v d → DaL p H vs ds → DaL p H (v :: vs) (d :: ds)
end
mutual
theorem Da.dr {K : PySem.W.Frag} {p : List Addr} {H : Hp} : ∀ {v : V} {d : PyData}, Da p H v d → Dr K H v d
  | _, _, .non => .dp .non
  | _, _, .bl b => .dp (.bl b)
  | _, _, .int i => .dp (.int i)
  | _, _, .str z => .dp (.str z)
  | _, _, .lst h _ r => .lst h (DaL.dr r)
  | _, _, .tup h r => .tup h (DaL.dr r)
  | _, _, .dic h e r => .dic h e (DaL.dr r)
theorem DaL.dr {K : PySem.W.Frag} {p : List Addr} {H : Hp} : ∀ {vs : List V} {ds : List PyData}, DaL p H vs ds → DrAll K H vs ds
  | _, _, .nil => .nil
  | _, _, .cons h r => .cons (Da.dr h) (DaL.dr r)
end
/-- what holds all data but the pen -/
structure KD (p : List Addr) (H H' : Hp) : Prop where
  l : ∀ a xs, H a = some (.lst xs) → a ∉ p → H' a = some (.lst xs)
  t : ∀ a xs, Tup H a xs → Tup H' a xs
  d : ∀ a kvs, H a = some (.dK kvs) → H' a = some (.dK kvs)
theorem KD.refl (p : List Addr) (H : Hp) : KD p H H := ⟨fun _ _ h _ => h, fun _ _ h => h, fun _ _ h => h⟩
theorem KD.trans {p : List Addr} {H H1 H2 : Hp} (a : KD p H H1) (b : KD p H1 H2) : KD p H H2 := ⟨fun c xs h n => b.l c xs (a.l c xs h n) n, fun c xs h => b.t c xs (a.t c xs h), fun c xs h => b.d c xs (a.d c xs h)⟩
theorem KD.of0 {p : List Addr} {H H' : Hp} (k : Keep [] H H') : KD p H H' := ⟨fun _ _ h _ => k _ _ nin0 h, fun _ _ h => h.keep k nin0, fun _ _ h => k _ _ nin0 h⟩
theorem KD.ofT {p : List Addr} {L : List Addr} {H H' : Hp} (ht : Tabs L H) (k : KT L H H') : KD p H H' := ⟨fun _ _ h _ => k.k _ _ (ht.lst h) h, fun a xs h => h.keep k.k (ht.noTup a xs h), fun _ _ h => k.k _ _ (ht.dK h) h⟩
theorem KD.ofP {p : List Addr} {q : Addr} {H H' : Hp} {j : Nat} (hq : q ∈ p) (hp : Pen H q j) (k : Keep [q] H H') : KD p H H' := by
  refine ⟨fun _ _ h n => k _ _ (nin1 fun z => n (z ▸ hq)) h, fun a xs h => h.keep k (nin1 fun z => ?_), fun a kvs h => k _ _ (nin1 fun z => ?_) h⟩
  · obtain ⟨d, c, n, e, r⟩ := hp
    obtain ⟨ob, e2, _⟩ := h
    rw [z, e] at e2
    cases e2
  obtain ⟨d, c, n, e, r⟩ := hp
  rw [z, e] at h
  cases h
/-- a list that no data holds is changed -/
theorem KD.ofA {p : List Addr} {f : Addr} {H H' : Hp} {fx : List V} (hq : f ∈ p) (hf : H f = some (.lst fx)) (k : Keep [f] H H') : KD p H H' := by
  refine ⟨fun _ _ h n => k _ _ (nin1 fun z => n (z ▸ hq)) h, fun a xs h => h.keep k (nin1 fun z => ?_), fun a kvs h => k _ _ (nin1 fun z => ?_) h⟩
  · obtain ⟨ob, e2, _⟩ := h
    rw [z, hf] at e2
    cases e2
  rw [z, hf] at h
  cases h
mutual
theorem Da.keep {p : List Addr} {H H' : Hp} (k : KD p H H') : ∀ {v : V} {d : PyData}, Da p H v d → Da p H' v d
  | _, _, .non => .non
  | _, _, .bl b => .bl b
  | _, _, .int i => .int i
  | _, _, .str z => .str z
  | _, _, .lst h n r => .lst (k.l _ _ h n) n (DaL.keep k r)
  | _, _, .tup h r => .tup (k.t _ _ h) (DaL.keep k r)
  | _, _, .dic h e r => .dic (k.d _ _ h) e (DaL.keep k r)
theorem DaL.keep {p : List Addr} {H H' : Hp} (k : KD p H H') : ∀ {vs : List V} {ds : List PyData}, DaL p H vs ds → DaL p H' vs ds
  | _, _, .nil => .nil
  | _, _, .cons h r => .cons (Da.keep k h) (DaL.keep k r)
end
theorem DaL.len {p : List Addr} {H : Hp} : ∀ {vs : List V} {ds : List PyData}, DaL p H vs ds → vs.length = ds.length
  | _, _, .nil => rfl
  | _, _, .cons _ r => congrArg (· + 1) r.len
theorem DaL.ei {p : List Addr} {H : Hp} : ∀ {vs : List V} {ds : List PyData}, DaL p H vs ds → EI (fun v d => Da p H v d) vs ds
  | _, _, .nil => .nil
  | _, _, .cons h r => .cons h r.ei
theorem DaL.of {p : List Addr} {H : Hp} : ∀ {vs : List V} {ds : List PyData}, EI (fun v d => Da p H v d) vs ds → DaL p H vs ds
  | _, _, .nil => .nil
  | _, _, .cons h r => .cons h (DaL.of r)
theorem DaL.app {p : List Addr} {H : Hp} : ∀ {vs us : List V} {ds es : List PyData}, DaL p H vs ds → DaL p H us es → DaL p H (vs ++ us) (ds ++ es)
  | _, _, _, _, .nil, r => r
  | _, _, _, _, .cons h q, r => .cons h (q.app r)
theorem DaL.take {p : List Addr} {H : Hp} : ∀ {vs : List V} {ds : List PyData} (n : Nat), DaL p H vs ds → DaL p H (vs.take n) (ds.take n)
  | _, _, 0, _ => .nil
  | _, _, n + 1, .nil => .nil
  | _, _, n + 1, .cons h r => .cons h (r.take n)
theorem DaL.drop {p : List Addr} {H : Hp} : ∀ {vs : List V} {ds : List PyData} (n : Nat), DaL p H vs ds → DaL p H (vs.drop n) (ds.drop n)
  | _, _, 0, h => h
  | _, _, n + 1, .nil => .nil
  | _, _, n + 1, .cons h r => r.drop n
theorem DaL.get {p : List Addr} {H : Hp} : ∀ {vs : List V} {ds : List PyData} {i : Nat} {d : PyData}, DaL p H vs ds → ds[i]? = some d → ∃ v, vs[i]? = some v ∧ Da p H v d
  | _, _, i, d, .nil, h => by simp at h
  | _, _, 0, d, .cons h r, e => ⟨_, rfl, by
    have e' := Option.some.inj e
    rw [← e']; exact h⟩
  | _, _, i + 1, d, .cons h r, e => r.get e
theorem Da.kd {K : PySem.W.Frag} {p : List Addr} {H : Hp} {v : V} {d : PyData} (h : Da p H v d) : Kd K H v := by
  cases h with
  | non => exact .non
  | bl b => exact .bl b
  | int i => exact .int i
  | str z => exact .str z
  | lst e _ _ => exact .lst e
  | tup e _ => exact .tup e
  | dic e _ _ => exact .dic e
theorem Da.any {p : List Addr} {H : Hp} {v : V} {d : PyData} (h : Da p H v d) : AnyV H v := by
  cases h with
  | non => exact .inl rfl
  | bl b => exact .inl rfl
  | int i => exact .inl rfl
  | str z => exact .inl rfl
  | lst e _ _ => exact .inr (.inl ⟨_, _, rfl, e⟩)
  | tup e _ => exact .inr (.inr (.inl ⟨_, _, rfl, e⟩))
  | dic e _ _ => exact .inr (.inr (.inr ⟨_, _, rfl, e⟩))
theorem kit_list_tuple' : kitB "list" "tuple" = some false := by decide +kernel
theorem kit_dict_tuple' : kitB "dict" "tuple" = some false := by decide +kernel
theorem kit_int_tuple' : kitB "int" "tuple" = some false := by decide +kernel
theorem kit_bool_tuple' : kitB "bool" "tuple" = some false := by decide +kernel
theorem kit_str_tuple' : kitB "str" "tuple" = some false := by decide +kernel
theorem kit_none_tuple' : kitB "NoneType" "tuple" = some false := by decide +kernel
theorem kit_list_int' : kitB "list" "int" = some false := by decide +kernel
theorem kit_dict_int' : kitB "dict" "int" = some false := by decide +kernel
theorem kit_tuple_int' : kitB "tuple" "int" = some false := by decide +kernel
def isTP : PyData → Bool
  | .tuple _ => true
  | _ => false
def isSP : PyData → Bool
  | .str _ => true
  | _ => false
def isIP : PyData → Bool
  | .int _ => true
  | .bool _ => true
  | _ => false
theorem g_isT {K : PySem.W.Frag} {p : List Addr} {H : Hp} {v : V} {d : PyData} {Q : VK} (h : Da p H v d) (q : Q (.bl (isTP d)) H) : rIsi K [v, .ty "tuple"] H Q := by
  cases h with
  | non => exact g_isi (.base .non) kit_none_tuple' q
  | bl b => exact g_isi (.base (.bl b)) kit_bool_tuple' q
  | int i => exact g_isi (.base (.int i)) kit_int_tuple' q
  | str z => exact g_isi (.base (.str z)) kit_str_tuple' q
  | lst e _ _ => exact g_isi (.base (.lst e)) kit_list_tuple' q
  | tup e _ => exact g_isi (ty_tup e) kit_tuple_tuple q
  | dic e _ _ => exact g_isi (.base (.dK e)) kit_dict_tuple' q
theorem g_isS {K : PySem.W.Frag} {p : List Addr} {H : Hp} {v : V} {d : PyData} {Q : VK} (h : Da p H v d) (q : Q (.bl (isSP d)) H) : rIsi K [v, .ty "str"] H Q := by
  refine g_isStr h.kd ?_
  cases h <;> exact q
theorem g_isI {K : PySem.W.Frag} {p : List Addr} {H : Hp} {v : V} {d : PyData} {Q : VK} (h : Da p H v d) (q : Q (.bl (isIP d)) H) : rIsi K [v, .ty "int"] H Q := by
  cases h with
  | non => exact g_isi (.base .non) kit_none_int q
  | bl b => exact g_isi (.base (.bl b)) kit_bool_int q
  | int i => exact g_isi (.base (.int i)) kit_int_int q
  | str z => exact g_isi (.base (.str z)) kit_str_int q
  | lst e _ _ => exact g_isi (.base (.lst e)) kit_list_int' q
  | tup e _ => exact g_isi (ty_tup e) kit_tuple_int' q
  | dic e _ _ => exact g_isi (.base (.dK e)) kit_dict_int' q


/-! ### what is_town tells of any data -/
def wholeP (lo hi : Int) : PyData → Bool
  | .int i => decide (lo ≤ i) && decide (i ≤ hi)
  | _ => false
def isNumP : PyData → Bool
  | .int _ => true
  | _ => false
def isNoP : PyData → Bool
  | .none => true
  | _ => false
def driveP (d : PyData) : Bool := isNoP d || wholeP 1 60 d
theorem Da.non_iff {p : List Addr} {H : Hp} {v : V} {d : PyData} (h : Da p H v d) : decide (v = V.non) = isNoP d := by cases h <;> first | rfl | exact decide_eq_false (fun z => nomatch z)
def spWholeX : Sp := fun vs H Q _ => ∃ (p : List Addr) (v : V) (d : PyData), vs = [v] ∧ Da p H v d ∧ Q (.bl (isNumP d)) H
theorem rd_wholeX (K : PySem.W.Frag) : ∀ vs H Q E, spWholeX vs H Q E → run (t_is_whole K) (L2.start N_is_whole vs) H Q := by
  rintro _ H Q _ ⟨p, v, d, rfl, h, q⟩
  show run (t_is_whole K) [some v] H Q
  unfold t_is_whole
  walk_at "sx"
  refine g_isI h ⟨_, rfl, ?_⟩
  cases h with
  | int i =>
    rw [if_pos (show isIP (.int i) = true from rfl)]
    exact g_isi (.base (.int i)) kit_int_bool ⟨false, rfl, q⟩
  | bl b =>
    rw [if_pos (show isIP (.bool b) = true from rfl)]
    exact g_isi (.base (.bl b)) kit_bool_bool ⟨true, rfl, q⟩
  | _ => exact q
def spWithinX : Sp := fun vs H Q _ => ∃ (p : List Addr) (v : V) (d : PyData) (lo hi : Int), vs = [v, .int lo, .int hi] ∧ Da p H v d ∧ Q (.bl (wholeP lo hi d)) H
theorem rd_withinX (K : PySem.W.Frag) : ∀ vs H Q E, spWithinX vs H Q E → run (t_is_within K spWholeX) (L2.start N_is_within vs) H Q := by
  rintro _ H Q _ ⟨p, v, d, lo, hi, rfl, h, q⟩
  show run (t_is_within K spWholeX) [some v, some (.int lo), some (.int hi)] H Q
  unfold t_is_within
  walk_at "sx"
  refine ⟨p, v, d, rfl, h, _, rfl, ?_⟩
  cases h with
  | int i =>
    rw [if_pos (show isNumP (.int i) = true from rfl)]
    by_cases h : lo ≤ i <;> simpa [wholeP, h, e_rI0] using q
  | _ => exact q
def spDriveX : Sp := fun vs H Q _ => ∃ (p : List Addr) (v : V) (d : PyData), vs = [v] ∧ Da p H v d ∧ Q (.bl (driveP d)) H
theorem rd_driveX (K : PySem.W.Frag) : ∀ vs H Q E, spDriveX vs H Q E → run (t__is_drive K spWithinX) (L2.start N__is_drive vs) H Q := by
  rintro _ H Q _ ⟨p, v, d, rfl, h, q⟩
  show run (t__is_drive K spWithinX) [some v] H Q
  unfold t__is_drive
  walk_at "sx"
  have e := h.non_iff
  by_cases hv : v = V.non
  · rw [if_pos hv]
    rw [decide_eq_true hv] at e ⊢
    unfold driveP at q
    rw [← e] at q
    exact q
  · rw [if_neg hv]
    rw [decide_eq_false hv] at e
    unfold driveP at q
    rw [← e] at q
    exact ⟨p, v, d, 1, 60, rfl, h, q⟩
theorem str_neX {a b : Str} : decide (V.str a = V.str b) = decide (a = b) := decide_eq_decide.mpr ⟨fun e => by injection e, fun e => by rw [e]⟩
/-- one of the texts -/
def inP (d : PyData) (ys : List Str) : Bool := match d with
  | .str z => decide (z ∈ ys)
  | _ => false
theorem Da.inP {p : List Addr} {H : Hp} {v : V} {d : PyData} (h : Da p H v d) (ys : List Str) : inX v ys = Wg.inP d ys := by cases h <;> rfl
def sameP : PyData → PyData → Bool
  | .str a, .str b => decide (a = b)
  | _, _ => false
def roadX (ys : List Str) : PyData → Bool
  | .tuple [a, b, m, n] => Wg.inP a ys && (Wg.inP b ys && (!sameP a b && (!(isNoP m && isNoP n) && (driveP m && driveP n))))
  | _ => false
def spRoadX : Sp := fun vs H Q _ => ∃ (p : List Addr) (pl : Addr) (ys : List Str) (v : V) (d : PyData), vs = [.ref pl, v] ∧ Tup H pl (ys.map V.str) ∧ Da p H v d ∧ Q (.bl (roadX ys d)) H
theorem rd_roadX (K : PySem.W.Frag) : ∀ vs H Q E, spRoadX vs H Q E → run (t_is_road K spDriveX) (L2.start N_is_road vs) H Q := by
  rintro _ H Q _ ⟨p, pl, ys, v, d, rfl, hl, h, q⟩
  show run (t_is_road K spDriveX) [some (.ref pl), some v, none, none, none, none] H Q
  unfold t_is_road
  walk_at "sx"
  refine g_isT h ⟨_, rfl, ?_⟩
  cases h with
  | tup ht hd =>
    rename_i a xs ds
    rw [if_neg (show ¬ (!isTP (.tuple ds)) = true from fun z => nomatch z)]
    refine g_lenT ht (g_ne rfl ⟨_, rfl, ?_⟩)
    by_cases l4 : xs.length = 4
    · rw [if_neg (by rw [l4]; decide)]
      have ld := hd.len
      match ds, hd, ld with
      | [a, b, m, n], .cons (v := va) h1 (.cons (v := vb) h2 (.cons (v := vm) h3 (.cons (v := vn) h4 .nil))), _ =>
        unfold t_is_road_r3
        walk_at "sx"
        refine g_tup ht rfl ?_
        walk_at "sx"
        refine ⟨_, _, rfl, _, _, rfl, _, _, rfl, _, _, rfl, rfl, ?_⟩
        walk_at "sx"
        have q' : Q (.bl (Wg.inP a ys && (Wg.inP b ys && (!sameP a b && (!(isNoP m && isNoP n) && (driveP m && driveP n)))))) H := q
        refine g_ninX hl h1.any ⟨_, rfl, ?_⟩
        rw [h1.inP]
        cases e1 : Wg.inP a ys with
        | false =>
          rw [e1] at q'
          exact q'
        | true =>
          rw [e1] at q'
          rw [if_neg (by decide)]
          refine g_ninX hl h2.any ⟨_, rfl, ?_⟩
          rw [h2.inP]
          cases e2 : Wg.inP b ys with
          | false =>
            rw [e2] at q'
            exact q'
          | true =>
            rw [e2] at q'
            rw [if_neg (by decide)]
            cases h1 with
            | str za =>
              cases h2 with
              | str zb =>
                refine g_eq rfl ⟨_, rfl, ?_⟩
                rw [str_neX]
                by_cases e3 : za = zb
                · rw [if_pos (decide_eq_true e3)]
                  have : sameP (.str za) (.str zb) = true := decide_eq_true e3
                  rw [this] at q'
                  exact q'
                · rw [if_neg (by simpa using e3)]
                  have : sameP (.str za) (.str zb) = false := decide_eq_false e3
                  rw [this] at q'
                  have n3 := h3.non_iff
                  have n4 := h4.non_iff
                  unfold t_is_road_r2
                  walk_at "sx"
                  have last : (isNoP m && isNoP n) = false → t_is_road_r1 K spDriveX { nx := fun x H' => Q V.non H', rt := Q } [some (V.ref pl), some (V.ref a), some (V.str za), some (V.str zb), some vm, some vn] H := fun e0 => by
                    rw [e0] at q'
                    unfold t_is_road_r1
                    walk_at "sx"
                    refine ⟨p, vm, m, rfl, h3, _, rfl, ?_⟩
                    have q2 : Q (.bl (driveP m && driveP n)) H := q'
                    cases hm : driveP m with
                    | false =>
                      rw [hm] at q2
                      exact q2
                    | true =>
                      rw [hm] at q2
                      rw [if_pos rfl]
                      exact ⟨p, vn, n, rfl, h4, q2⟩
                  by_cases i3 : vm = V.non
                  · rw [if_pos i3]
                    rw [decide_eq_true i3] at n3
                    by_cases i4 : vn = V.non
                    · rw [if_pos i4]
                      rw [decide_eq_true i4] at n4
                      rw [← n3, ← n4] at q'
                      exact q'
                    · rw [if_neg i4]
                      rw [decide_eq_false i4] at n4
                      exact last (by rw [← n3, ← n4]; rfl)
                  · rw [if_neg i3]
                    rw [decide_eq_false i3] at n3
                    exact last (by rw [← n3]; rfl)
              | _ => cases e2
            | _ => cases e1
      | [], hd, ld => exact absurd ld (by rw [l4]; decide)
      | [_], hd, ld => exact absurd ld (by rw [l4]; simp)
      | [_, _], hd, ld => exact absurd ld (by rw [l4]; simp)
      | [_, _, _], hd, ld => exact absurd ld (by rw [l4]; simp)
      | _ :: _ :: _ :: _ :: _ :: _, hd, ld => exact absurd ld (by rw [l4]; simp)
    · rw [if_pos (by simpa using fun z => l4 (by exact_mod_cast z))]
      have e : roadX ys (.tuple ds) = false := by
        have ld := hd.len
        match ds, ld with
        | [_, _, _, _], ld => exact absurd ld l4
        | [], _ => rfl
        | [_], _ => rfl
        | [_, _], _ => rfl
        | [_, _, _], _ => rfl
        | _ :: _ :: _ :: _ :: _ :: _, _ => rfl
      rw [e] at q
      exact q
  | _ => exact q


/-! ### rows of names, any data told to be a town -/
def nameP : PyData → Bool
  | .str z => nameV (.str z)
  | _ => false
theorem Da.nameP {p : List Addr} {H : Hp} {v : V} {d : PyData} (h : Da p H v d) : nameV v = Wg.nameP d := by cases h <;> rfl
def strsP : List PyData → List Str
  | [] => []
  | .str z :: r => z :: strsP r
  | _ :: r => strsP r
theorem nameP_str {d : PyData} (h : Wg.nameP d = true) : isSP d = true := by cases d <;> first | rfl | cases h
theorem inP_str {d : PyData} {ys : List Str} (h : Wg.inP d ys = true) : isSP d = true := by cases d <;> first | rfl | cases h
theorem strs_all : ∀ {ds : List PyData}, ds.all isSP = true → ds = (strsP ds).map .str
  | [], _ => rfl
  | d :: ds, h => by
    simp only [List.all_cons, Bool.and_eq_true] at h
    cases d <;> first | (cases h.1; done) | (show _ = PyData.str _ :: (strsP ds).map .str; rw [← strs_all h.2])
theorem DaL.strs {p : List Addr} {H : Hp} : ∀ {vs : List V} {ys : List Str}, DaL p H vs (ys.map .str) → vs = ys.map V.str
  | [], [], _ => rfl
  | _, [], h => by cases h; rfl
  | _, y :: ys, h => by
    cases h with
    | cons h r =>
      cases h
      rw [r.strs]
      rfl
theorem cost_mem : ∀ {ds : List PyData} {d : PyData}, d ∈ ds → cost d + 2 ≤ costs ds
  | d' :: ds, d, h => by
    simp only [costs]
    rcases List.mem_cons.mp h with rfl | h
    · omega
    · have := cost_mem h
      omega
theorem all_imp {α : Type} {f g : α → Bool} (h : ∀ x, f x = true → g x = true) {xs : List α} (e : xs.all f = true) : xs.all g = true := List.all_eq_true.mpr fun x hx => h x (List.all_eq_true.mp e x hx)
def placesP (m : Nat) : PyData → Bool
  | .tuple ds => (decide (1 ≤ ds.length) && decide (ds.length ≤ m)) && (ds.all Wg.nameP && decide (strsP ds).Nodup)
  | _ => false
def namesOf : PyData → List Str
  | .tuple ds => strsP ds
  | _ => []
def roadsP (ys : List Str) : PyData → Bool
  | .tuple ds => decide (ds.length ≤ 18) && ds.all (roadX ys)
  | _ => false
def standsP (ys : List Str) : PyData → Bool
  | .tuple ds => (decide (1 ≤ ds.length) && decide (ds.length ≤ 5)) && (ds.all (fun d => Wg.inP d ys) && decide (strsP ds).Nodup)
  | _ => false
def townP : PyData → Bool
  | .tuple [a, b, c, h] => placesP 10 a && (roadsP (namesOf a) b && (standsP (namesOf a) c && wholeP 0 120 h))
  | _ => false
theorem placesP_t {m : Nat} {ds : List PyData} : placesP m (.tuple ds) = ((decide (1 ≤ ds.length) && decide (ds.length ≤ m)) && (ds.all Wg.nameP && decide (strsP ds).Nodup)) := rfl
theorem roadsP_t {ys : List Str} {ds : List PyData} : roadsP ys (.tuple ds) = (decide (ds.length ≤ 18) && ds.all (roadX ys)) := rfl
theorem standsP_t {ys : List Str} {ds : List PyData} : standsP ys (.tuple ds) = ((decide (1 ≤ ds.length) && decide (ds.length ≤ 5)) && (ds.all (fun d => Wg.inP d ys) && decide (strsP ds).Nodup)) := rfl
def spUnlikeX : Sp := fun vs H Q _ => ∃ (a : Addr) (ys : List Str), vs = [.ref a] ∧ Tup H a (ys.map V.str) ∧ ys.length < 64 ∧ Q (.bl (decide ys.Nodup)) H
theorem rd_unlikeX (K : PySem.W.Frag) : ∀ vs H Q E, spUnlikeX vs H Q E → run (t__are_unlike K) (L2.start N__are_unlike vs) H Q := by
  rintro _ H Q _ ⟨a, ys, rfl, ha, l, q⟩
  show run (t__are_unlike K) [some (.ref a)] H Q
  unfold t__are_unlike
  walk_at "sx"
  refine ⟨.ref a, rfl, a, ys, rfl, ha, l, g_lenT ha (g_eq rfl ?_)⟩
  have e : decide (V.int ((cntD ys ys.length : Nat) : Int) = V.int (((ys.map V.str).length : Nat) : Int)) = decide ys.Nodup := by
    have := cntD_full ys ys.length (Nat.le_refl _)
    rw [List.take_length] at this
    rw [decide_eq_decide, ← this, List.length_map]
    constructor
    · intro z; injection z with z; omega
    · intro z; rw [z]
  rw [e]
  exact q
def spArePlX (L : List Addr) (P : Addr) : Sp := fun vs H Q _ => ∃ (p : List Addr) (v : V) (d : PyData), vs = [v] ∧ Da p H v d ∧ cost d ≤ 5000000 ∧ Tabs L H ∧ P ∈ L ∧ ∀ H', KT L H H' → Q (.bl (placesP 10 d)) H'
theorem rd_arePlX (K : PySem.W.Frag) {L : List Addr} {P P0 : Addr} (hP0 : P0 ∈ L) : ∀ vs H Q E, spArePlX L P vs H Q E → run (t__are_places K (spIsName K L P0) spUnlikeX P) (L2.start N__are_places vs) H Q := by
  rintro _ H Q _ ⟨p, v, d, rfl, h, hc, ht, hP, q⟩
  show run (t__are_places K (spIsName K L P0) spUnlikeX P) [some v, none] H Q
  unfold t__are_places
  walk_at "sx"
  refine g_isT h ⟨_, rfl, ?_⟩
  cases h with
  | tup ha hd =>
    rename_i a xs ds
    rw [if_neg (show ¬ (!isTP (.tuple ds)) = true from fun z => nomatch z)]
    refine g_lenT ha (e_rI0.mpr ⟨_, rfl, ?_⟩)
    have ld := hd.len
    rw [ld]
    have no : placesP 10 (.tuple ds) = false → Q (.bl false) H := fun e => by rw [← e]; exact q H (KT.refl _ _)
    by_cases h1' : ¬ (1 ≤ ds.length)
    · have h1 := h1'
      rw [if_neg (by rw [decide_eq_false (by omega)]; decide)]
      exact no (by rw [placesP_t, decide_eq_false h1]; rfl)
    have h1 := Decidable.not_not.mp h1'
    rw [if_pos (decide_eq_true (by omega))]
    refine e_rI0.mpr ⟨_, rfl, ?_⟩
    by_cases h2' : ¬ (ds.length ≤ 10)
    · have h2 := h2'
      rw [if_pos (by rw [decide_eq_false (by omega)]; rfl)]
      exact no (by rw [placesP_t, decide_eq_true h1, decide_eq_false h2]; rfl)
    have h2 := Decidable.not_not.mp h2'
    rw [if_neg (by rw [decide_eq_true (by omega)]; decide)]
    have e : placesP 10 (.tuple ds) = (ds.all Wg.nameP && decide (strsP ds).Nodup) := by
      rw [placesP_t, decide_eq_true h1, decide_eq_true h2]; rfl
    rw [e] at q
    unfold t__are_places_r1
    walk_at "sx"
    refine e_genU.mpr ?_
    walk_at "sx"
    refine g_GE (RR := fun H v d => Da p H v d) Wg.nameP ht hP (.inr ha.sq) hd.ei (fun H' x r h k => h.keep (KD.ofT ht k)) (fun i x d H1 R R0 e k1 t1 hx hR => ?_) fun H1 k1 => ?_
    · walk_at "sx"
      refine ⟨x, rfl, hx.kd, fun z ez => ?_, t1, hP0, fun H2 k2 => by rw [hx.nameP]; exact hR H2 k2⟩
      subst ez
      cases hx
      have cm := cost_mem (List.mem_of_getElem? e)
      have ct : cost (.tuple ds) = costs ds + 3 := rfl
      have cz : cost (.str z) = 10 * z.length + 2 := rfl
      omega
    have e2 : aaB false Wg.nameP ds = ds.all Wg.nameP := rfl
    rw [e2]
    refine ⟨_, rfl, ?_⟩
    cases ha' : ds.all Wg.nameP with
    | false =>
      rw [ha'] at q
      rw [if_neg (by decide)]
      exact q H1 k1
    | true =>
      rw [ha'] at q
      rw [if_pos rfl]
      have es := strs_all (all_imp (fun _ => nameP_str) ha')
      have ha1 := ha.kt ht k1
      have l1 : (strsP ds).length = ds.length := by
        have := congrArg List.length es
        rw [List.length_map] at this
        exact this.symm
      rw [es] at hd
      rw [hd.strs] at ha1
      exact ⟨a, _, rfl, ha1, by omega, q H1 k1⟩
  | _ => exact q H (KT.refl _ _)
def spAreRdX (L : List Addr) (P : Addr) : Sp := fun vs H Q _ => ∃ (p : List Addr) (pl : Addr) (ys : List Str) (v : V) (d : PyData), vs = [.ref pl, v] ∧ Tup H pl (ys.map V.str) ∧ Da p H v d ∧ Tabs L H ∧ P ∈ L ∧ ∀ H', KT L H H' → Q (.bl (roadsP ys d)) H'
theorem rd_areRdX (K : PySem.W.Frag) {L : List Addr} {P : Addr} : ∀ vs H Q E, spAreRdX L P vs H Q E → run (t__are_roads K spRoadX P) (L2.start N__are_roads vs) H Q := by
  rintro _ H Q _ ⟨p, pl, ys, v, d, rfl, hpl, h, ht, hP, q⟩
  show run (t__are_roads K spRoadX P) [some (.ref pl), some v, none] H Q
  unfold t__are_roads
  walk_at "sx"
  refine g_isT h ⟨_, rfl, ?_⟩
  cases h with
  | tup ha hd =>
    rename_i a xs ds
    rw [if_neg (show ¬ (!isTP (.tuple ds)) = true from fun z => nomatch z)]
    refine g_lenT ha (e_rI0.mpr ⟨_, rfl, ?_⟩)
    have ld := hd.len
    rw [ld]
    have no : roadsP ys (.tuple ds) = false → Q (.bl false) H := fun e => by rw [← e]; exact q H (KT.refl _ _)
    by_cases h1' : ¬ (ds.length ≤ 18)
    · have h1 := h1'
      rw [if_pos (decide_eq_true (by omega))]
      exact no (by rw [roadsP_t, decide_eq_false h1]; rfl)
    have h1 := Decidable.not_not.mp h1'
    rw [if_neg (by rw [decide_eq_false (by omega)]; decide)]
    have e : roadsP ys (.tuple ds) = ds.all (roadX ys) := by rw [roadsP_t, decide_eq_true h1]; rfl
    rw [e] at q
    unfold t__are_roads_r1
    walk_at "sx"
    refine e_genU.mpr ?_
    walk_at "sx"
    exact g_GE (RR := fun H v d => Da p H v d) (roadX ys) ht hP (.inr ha.sq) hd.ei (fun H' x r h k => h.keep (KD.ofT ht k)) (fun i x d H1 R R0 e k1 t1 hx hR => by
      walk_at "sx"
      exact ⟨p, pl, ys, x, d, rfl, hpl.kt ht k1, hx, hR H1 (KT.refl _ _)⟩) q
  | _ => exact q H (KT.refl _ _)
def spAreStX (L : List Addr) (P : Addr) : Sp := fun vs H Q _ => ∃ (p : List Addr) (pl : Addr) (ys : List Str) (v : V) (d : PyData), vs = [.ref pl, v] ∧ Tup H pl (ys.map V.str) ∧ Da p H v d ∧ Tabs L H ∧ P ∈ L ∧ ∀ H', KT L H H' → Q (.bl (standsP ys d)) H'
theorem rd_areStX (K : PySem.W.Frag) {L : List Addr} {P : Addr} : ∀ vs H Q E, spAreStX L P vs H Q E → run (t__are_stands K spUnlikeX P) (L2.start N__are_stands vs) H Q := by
  rintro _ H Q _ ⟨p, pl, ys, v, d, rfl, hpl, h, ht, hP, q⟩
  show run (t__are_stands K spUnlikeX P) [some (.ref pl), some v, none] H Q
  unfold t__are_stands
  walk_at "sx"
  refine g_isT h ⟨_, rfl, ?_⟩
  cases h with
  | tup ha hd =>
    rename_i a xs ds
    rw [if_neg (show ¬ (!isTP (.tuple ds)) = true from fun z => nomatch z)]
    refine g_lenT ha (e_rI0.mpr ⟨_, rfl, ?_⟩)
    have ld := hd.len
    rw [ld]
    have no : standsP ys (.tuple ds) = false → Q (.bl false) H := fun e => by rw [← e]; exact q H (KT.refl _ _)
    by_cases h1' : ¬ (1 ≤ ds.length)
    · have h1 := h1'
      rw [if_neg (by rw [decide_eq_false (by omega)]; decide)]
      exact no (by rw [standsP_t, decide_eq_false h1]; rfl)
    have h1 := Decidable.not_not.mp h1'
    rw [if_pos (decide_eq_true (by omega))]
    refine e_rI0.mpr ⟨_, rfl, ?_⟩
    by_cases h2' : ¬ (ds.length ≤ 5)
    · have h2 := h2'
      rw [if_pos (by rw [decide_eq_false (by omega)]; rfl)]
      exact no (by rw [standsP_t, decide_eq_true h1, decide_eq_false h2]; rfl)
    have h2 := Decidable.not_not.mp h2'
    rw [if_neg (by rw [decide_eq_true (by omega)]; decide)]
    have e : standsP ys (.tuple ds) = (ds.all (fun d => Wg.inP d ys) && decide (strsP ds).Nodup) := by
      rw [standsP_t, decide_eq_true h1, decide_eq_true h2]; rfl
    rw [e] at q
    unfold t__are_stands_r1
    walk_at "sx"
    refine e_genU.mpr ?_
    walk_at "sx"
    refine g_GE (RR := fun H v d => Da p H v d) (fun d => Wg.inP d ys) ht hP (.inr ha.sq) hd.ei (fun H' x r h k => h.keep (KD.ofT ht k)) (fun i x d H1 R R0 e k1 t1 hx hR => ?_) fun H1 k1 => ?_
    · walk_at "sx"
      exact g_inX (hpl.kt ht k1) hx.any (by rw [hx.inP]; exact hR H1 (KT.refl _ _))
    have e2 : aaB false (fun d => Wg.inP d ys) ds = ds.all (fun d => Wg.inP d ys) := rfl
    rw [e2]
    refine ⟨_, rfl, ?_⟩
    cases ha' : ds.all (fun d => Wg.inP d ys) with
    | false =>
      rw [ha'] at q
      rw [if_neg (by decide)]
      exact q H1 k1
    | true =>
      rw [ha'] at q
      rw [if_pos rfl]
      have es := strs_all (all_imp (fun _ => inP_str) ha')
      have ha1 := ha.kt ht k1
      have l1 : (strsP ds).length = ds.length := by
        have := congrArg List.length es
        rw [List.length_map] at this
        exact this.symm
      rw [es] at hd
      rw [hd.strs] at ha1
      exact ⟨a, _, rfl, ha1, by omega, q H1 k1⟩
  | _ => exact q H (KT.refl _ _)

theorem DaL.four {p : List Addr} {H : Hp} {xs : List V} {ds : List PyData} (h : DaL p H xs ds) (l : xs.length = 4) : ∃ va vb vc vd a b c d, xs = [va, vb, vc, vd] ∧ ds = [a, b, c, d] ∧ Da p H va a ∧ Da p H vb b ∧ Da p H vc c ∧ Da p H vd d := by
  match xs, ds, h, l with
  | _, _, .cons h1 (.cons h2 (.cons h3 (.cons h4 .nil))), _ => exact ⟨_, _, _, _, _, _, _, _, rfl, rfl, h1, h2, h3, h4⟩
theorem townP_len {ds : List PyData} (h : ds.length ≠ 4) : townP (.tuple ds) = false := by
  match ds with
  | [_, _, _, _] => exact absurd rfl h
  | [] => rfl
  | [_] => rfl
  | [_, _] => rfl
  | [_, _, _] => rfl
  | _ :: _ :: _ :: _ :: _ :: _ => rfl
def spIsTownX (L : List Addr) : Sp := fun vs H Q _ => ∃ (p : List Addr) (v : V) (d : PyData), vs = [v] ∧ Da p H v d ∧ cost d ≤ 5000000 ∧ Tabs L H ∧ ∀ H', KT L H H' → Q (.bl (townP d)) H'
theorem rd_isTownX (K : PySem.W.Frag) {L : List Addr} {P1 P2 P3 : Addr} (h1 : P1 ∈ L) (h2 : P2 ∈ L) (h3 : P3 ∈ L) : ∀ vs H Q E, spIsTownX L vs H Q E → run (t_is_town K (spArePlX L P1) (spAreRdX L P2) (spAreStX L P3) spWithinX) (L2.start N_is_town vs) H Q := by
  rintro _ H Q _ ⟨p, v, d, rfl, h, hc, ht, q⟩
  show run (t_is_town K (spArePlX L P1) (spAreRdX L P2) (spAreStX L P3) spWithinX) [some v, none, none, none, none] H Q
  unfold t_is_town
  walk_at "sx"
  refine g_isT h ⟨_, rfl, ?_⟩
  cases h with
  | tup ha hd =>
    rename_i a xs ds
    rw [if_neg (show ¬ (!isTP (.tuple ds)) = true from fun z => nomatch z)]
    refine g_lenT ha (g_ne rfl ⟨_, rfl, ?_⟩)
    by_cases l4 : xs.length = 4
    · rw [if_neg (by rw [l4]; decide)]
      obtain ⟨va, vb, vc, vd, da, db, dc, dd, rfl, rfl, e1, e2, e3, e4⟩ := hd.four l4
      unfold t_is_town_r1
      walk_at "sx"
      refine g_tup ha rfl ?_
      walk_at "sx"
      refine ⟨_, _, rfl, _, _, rfl, _, _, rfl, _, _, rfl, rfl, ?_⟩
      walk_at "sx"
      have q' : ∀ H', KT L H H' → Q (.bl (placesP 10 da && (roadsP (namesOf da) db && (standsP (namesOf da) dc && wholeP 0 120 dd)))) H' := q
      have ca : cost da ≤ 5000000 := by
        have := cost_mem (ds := [da, db, dc, dd]) (d := da) (by simp)
        have ct : cost (.tuple [da, db, dc, dd]) = costs [da, db, dc, dd] + 3 := rfl
        omega
      refine ⟨p, va, da, rfl, e1, ca, ht, h1, fun H1 k1 => ⟨_, rfl, ?_⟩⟩
      cases r1 : placesP 10 da with
      | false =>
        rw [r1] at q'
        exact q' H1 k1
      | true =>
        rw [r1] at q'
        rw [if_pos rfl]
        have t1 := k1.t ht
        cases e1 with
        | tup hpa hda =>
          rename_i pa ws ps
          have es : ps = (strsP ps).map .str := by
            rw [placesP_t, Bool.and_eq_true] at r1
            have r1' := r1.2
            rw [Bool.and_eq_true] at r1'
            exact strs_all (all_imp (fun _ => nameP_str) r1'.1)
          have hpa' : Tup H pa ((strsP ps).map V.str) := by
            rw [es] at hda
            rw [hda.strs] at hpa
            exact hpa
          refine ⟨p, pa, strsP ps, vb, db, rfl, hpa'.kt ht k1, e2.keep (KD.ofT ht k1), t1, h2, fun H2 k2 => ⟨_, rfl, ?_⟩⟩
          have k02 := k1.trans k2
          have q2 : ∀ H', KT L H H' → Q (.bl (roadsP (strsP ps) db && (standsP (strsP ps) dc && wholeP 0 120 dd))) H' := q'
          cases r2 : roadsP (strsP ps) db with
          | false =>
            rw [r2] at q2
            exact q2 H2 k02
          | true =>
            rw [r2] at q2
            rw [if_pos rfl]
            refine ⟨p, pa, strsP ps, vc, dc, rfl, hpa'.kt ht k02, e3.keep (KD.ofT ht k02), k02.t ht, h3, fun H3 k3 => ⟨_, rfl, ?_⟩⟩
            have k03 := k02.trans k3
            have q3 : ∀ H', KT L H H' → Q (.bl (standsP (strsP ps) dc && wholeP 0 120 dd)) H' := q2
            cases r3 : standsP (strsP ps) dc with
            | false =>
              rw [r3] at q3
              exact q3 H3 k03
            | true =>
              rw [r3] at q3
              rw [if_pos rfl]
              exact ⟨p, vd, dd, 0, 120, rfl, e4.keep (KD.ofT ht k03), q3 H3 k03⟩
        | _ => cases r1
    · rw [if_pos (by simpa using fun z => l4 (by exact_mod_cast z))]
      rw [townP_len (by rw [← hd.len]; exact l4)] at q
      exact q H (KT.refl _ _)
  | _ => exact q H (KT.refl _ _)


/-! ### the law's own check, of any data: names, numbers, roads -/
mutual
def loD : PyData → Prop
  | .str z => Lo z
  | .list xs => loDs xs
  | .tuple xs => loDs xs
  | .dict kvs => loKv kvs
  | _ => True
def loDs : List PyData → Prop
  | [] => True
  | d :: ds => loD d ∧ loDs ds
def loKv : List (PyData × PyData) → Prop
  | [] => True
  | (k, v) :: r => loD k ∧ loD v ∧ loKv r
end
theorem loDs_mem : ∀ {ds : List PyData}, loDs ds → ∀ d ∈ ds, loD d
  | d' :: ds, h, d, hd => by
    rcases List.mem_cons.mp hd with rfl | hd
    · exact h.1
    · exact loDs_mem h.2 d hd
theorem loDs_of : ∀ {ds : List PyData}, (∀ d ∈ ds, loD d) → loDs ds
  | [], _ => trivial
  | d :: ds, h => ⟨h d (by simp), loDs_of fun e he => h e (by simp [he])⟩
theorem lo_signs {z : Str} (h : Lo z) : signsOk z := fun c hc => Nat.lt_trans (h c hc) (by decide)
mutual
def itD (B : Nat) : PyData → Prop
  | .int i => i.natAbs ≤ B
  | .list xs => itDs B xs
  | .tuple xs => itDs B xs
  | .dict kvs => itKv B kvs
  | _ => True
def itDs (B : Nat) : List PyData → Prop
  | [] => True
  | d :: ds => itD B d ∧ itDs B ds
def itKv (B : Nat) : List (PyData × PyData) → Prop
  | [] => True
  | (k, v) :: r => itD B k ∧ itD B v ∧ itKv B r
end
theorem itDs_mem {B : Nat} : ∀ {ds : List PyData}, itDs B ds → ∀ d ∈ ds, itD B d
  | d' :: ds, h, d, hd => by
    rcases List.mem_cons.mp hd with rfl | hd
    · exact h.1
    · exact itDs_mem h.2 d hd
theorem itDs_of {B : Nat} : ∀ {ds : List PyData}, (∀ d ∈ ds, itD B d) → itDs B ds
  | [], _ => trivial
  | d :: ds, h => ⟨h d (by simp), itDs_of fun e he => h e (by simp [he])⟩
theorem big_log {B : Nat} (hB : B ≤ 2 ^ 1000) {i : Int} (h : i.natAbs ≤ B) : i.natAbs.log2 < 1920 := by
  by_cases z : i.natAbs = 0
  · rw [z]; decide
  · rw [Nat.log2_lt z]
    exact Nat.lt_of_le_of_lt (Nat.le_trans h hB) (by decide)
mutual
theorem loD_fine {B : Nat} (hB : B ≤ 2 ^ 1000) : ∀ {d : PyData}, loD d → itD B d → fine d
  | .none, _, _ => trivial
  | .bool _, _, _ => trivial
  | .int _, _, h => big_log hB h
  | .str _, h, _ => lo_signs h
  | .list _, h, g => loDs_fine hB h g
  | .tuple _, h, g => loDs_fine hB h g
  | .dict _, h, g => loKv_fine hB h g
theorem loDs_fine {B : Nat} (hB : B ≤ 2 ^ 1000) : ∀ {ds : List PyData}, loDs ds → itDs B ds → fines ds
  | [], _, _ => trivial
  | _ :: _, h, g => ⟨loD_fine hB h.1 g.1, loDs_fine hB h.2 g.2⟩
theorem loKv_fine {B : Nat} (hB : B ≤ 2 ^ 1000) : ∀ {kvs : List (PyData × PyData)}, loKv kvs → itKv B kvs → fineKv kvs
  | [], _, _ => trivial
  | (_, _) :: _, h, g => ⟨loD_fine hB h.1 g.1, loD_fine hB h.2.1 g.2.1, loKv_fine hB h.2.2 g.2.2⟩
end
theorem rd_wholeLX (K : PySem.W.Frag) : ∀ vs H Q E, spWithinX vs H Q E → run (t__law_whole K) (L2.start N__law_whole vs) H Q := by
  rintro _ H Q _ ⟨p, v, d, lo, hi, rfl, h, q⟩
  show run (t__law_whole K) [some v, some (.int lo), some (.int hi)] H Q
  unfold t__law_whole
  walk_at "sx"
  refine g_isI h ⟨_, rfl, ?_⟩
  cases h with
  | int i =>
    rw [if_pos (show isIP (.int i) = true from rfl)]
    refine g_isi (.base (.int i)) kit_int_bool ⟨false, rfl, ?_⟩
    walk_at "sx"
    by_cases h : lo ≤ i <;> simpa [wholeP, h, e_rI0, e_truB] using q
  | bl b =>
    rw [if_pos (show isIP (.bool b) = true from rfl)]
    refine g_isi (.base (.bl b)) kit_bool_bool ⟨true, rfl, ?_⟩
    walk_at "sx"
    have q' : Q (.bl false) H := q
    simpa [e_truB] using q'
  | _ => exact q
theorem rd_wayLX (K : PySem.W.Frag) : ∀ vs H Q E, spDriveX vs H Q E → run (t__law_is_way K spWithinX) (L2.start N__law_is_way vs) H Q := by
  rintro _ H Q _ ⟨p, v, d, rfl, h, q⟩
  show run (t__law_is_way K spWithinX) [some v] H Q
  unfold t__law_is_way
  walk_at "sx"
  have e := h.non_iff
  by_cases hv : v = V.non
  · rw [if_pos hv]
    rw [decide_eq_true hv] at e ⊢
    unfold driveP at q
    rw [← e] at q
    exact q
  · rw [if_neg hv]
    rw [decide_eq_false hv] at e
    unfold driveP at q
    rw [← e] at q
    exact ⟨p, v, d, 1, 60, rfl, h, q⟩
theorem in_name {ys : List Str} (nm : ∀ y ∈ ys, nameV (.str y) = true) {d : PyData} (h : Wg.inP d ys = true) : Wg.nameP d = true := by
  cases d with
  | str z => exact nm z (of_decide_eq_true h)
  | _ => cases h
theorem out_name {ys : List Str} (nm : ∀ y ∈ ys, nameV (.str y) = true) {d : PyData} (h : Wg.nameP d = false) : Wg.inP d ys = false := by
  cases e : Wg.inP d ys with
  | false => rfl
  | true => rw [in_name nm e] at h; cases h
theorem roadX_len {ys : List Str} {ds : List PyData} (h : ds.length ≠ 4) : roadX ys (.tuple ds) = false := by
  match ds with
  | [_, _, _, _] => exact absurd rfl h
  | [] => rfl
  | [_] => rfl
  | [_, _] => rfl
  | [_, _, _] => rfl
  | _ :: _ :: _ :: _ :: _ :: _ => rfl
theorem roadX_t {ys : List Str} {a b m n : PyData} : roadX ys (.tuple [a, b, m, n]) = (Wg.inP a ys && (Wg.inP b ys && (!sameP a b && (!(isNoP m && isNoP n) && (driveP m && driveP n))))) := rfl
def spRoadLX : Sp := fun vs H Q _ => ∃ (p : List Addr) (pl : Addr) (ys : List Str) (v : V) (d : PyData), vs = [.ref pl, v] ∧ Tup H pl (ys.map V.str) ∧ (∀ y ∈ ys, nameV (.str y) = true) ∧ Da p H v d ∧ cost d ≤ 5000000 ∧ loD d ∧ ∀ H', Keep [] H H' → Q (.bl (roadX ys d)) H'
theorem kdz {p : List Addr} {H : Hp} {v : V} {d : PyData} (h : Da p H v d) (c : cost d ≤ 5000000) (l : loD d) : ∀ z, v = .str z → z.length ≤ 1000000 ∧ Lo z := fun z e => by
  subst e
  cases h
  have cz : cost (.str z) = 10 * z.length + 2 := rfl
  exact ⟨by omega, l⟩
theorem rd_roadLX (K : PySem.W.Frag) : ∀ vs H Q E, spRoadLX vs H Q E → run (t__law_is_road K (spIsL K) spDriveX) (L2.start N__law_is_road vs) H Q := by
  rintro _ H Q _ ⟨p, pl, ys, v, d, rfl, hl, nm, h, hc, lo, q⟩
  show run (t__law_is_road K (spIsL K) spDriveX) [some (.ref pl), some v] H Q
  unfold t__law_is_road
  walk_at "sx"
  have no : roadX ys d = false → ∀ H', Keep [] H H' → Q (.bl false) H' := fun e H' k => by rw [← e]; exact q H' k
  refine g_isT h ⟨_, rfl, ?_⟩
  cases h with
  | tup hr hd =>
    rename_i rp xs ds
    rw [if_neg (show ¬ (!isTP (.tuple ds)) = true from fun z => nomatch z)]
    refine g_lenT hr (g_ne rfl ⟨_, rfl, ?_⟩)
    by_cases l4 : xs.length = 4
    · rw [if_neg (by rw [l4]; decide)]
      obtain ⟨va, vb, vm, vn, a, b, m, n, rfl, rfl, e1, e2, e3, e4⟩ := hd.four l4
      have c0 : cost (.tuple [a, b, m, n]) = costs [a, b, m, n] + 3 := rfl
      have ca : cost a ≤ 5000000 := by have := cost_mem (ds := [a, b, m, n]) (d := a) (by simp); omega
      have cb : cost b ≤ 5000000 := by have := cost_mem (ds := [a, b, m, n]) (d := b) (by simp); omega
      have la : loD a := lo.1
      have lb : loD b := lo.2.1
      rw [roadX_t] at no q
      have n3 := e3.non_iff
      have n4 := e4.non_iff
      have c3 : (isNoP m && isNoP n) = false → t__law_is_road_r3 K (spIsL K) spDriveX { nx := fun x H' => Q V.non H', rt := Q } [some (.ref pl), some (.ref rp)] H := fun hn => by
        unfold t__law_is_road_r3
        walk_at "sx"
        refine g_ixT hr (at_lit 0 rfl rfl) ⟨va, rfl, e1.kd, kdz e1 ca la, fun H1 k1 => ⟨_, rfl, ?_⟩⟩
        rw [e1.nameP]
        cases h1 : Wg.nameP a with
        | false =>
          rw [if_pos (by decide)]
          exact no (by rw [out_name nm h1]; rfl) H1 k1
        | true =>
        rw [if_neg (by decide)]
        have hr1 := hr.keep k1 nin0
        have f2 := e2.keep (KD.of0 k1)
        refine g_ixT hr1 (at_lit 1 rfl rfl) ⟨vb, rfl, f2.kd, kdz f2 cb lb, fun H2 k2 => ⟨_, rfl, ?_⟩⟩
        rw [f2.nameP]
        have k02 := k1.trans k2
        cases h2 : Wg.nameP b with
        | false =>
          rw [if_pos (by decide)]
          exact no (by rw [out_name nm h2]; simp) H2 k02
        | true =>
        rw [if_neg (by decide)]
        have hr2 := hr.keep k02 nin0
        have hl2 := hl.keep k02 nin0
        cases e1 with
        | str za =>
          cases e2 with
          | str zb =>
            refine g_ixT hr2 (at_lit 0 rfl rfl) (g_ixT hr2 (at_lit 1 rfl rfl) (g_eq rfl ⟨_, rfl, ?_⟩))
            rw [str_neX]
            by_cases h3 : za = zb
            · rw [if_pos (decide_eq_true h3)]
              exact no (by rw [show sameP (.str za) (.str zb) = true from decide_eq_true h3]; simp) H2 k02
            rw [if_neg (by rw [decide_eq_false h3]; decide)]
            have s3 : sameP (.str za) (.str zb) = false := decide_eq_false h3
            unfold t__law_is_road_r2
            walk_at "sx"
            have nin : ∀ (z : Str) {R : VK}, R (.bl (!decide (z ∈ ys))) H2 → uIn K true (.str z) (.ref pl) H2 R := fun z R r =>
              .inl ⟨pl, _, rfl, .inr hl2.sq, rfl, flat_strsX ys, by rw [if_pos rfl, inV_str]; exact r⟩
            refine g_ixT hr2 (at_lit 0 rfl rfl) (nin za ⟨_, rfl, ?_⟩)
            by_cases h4' : ¬ (za ∈ ys)
            · rw [if_pos (by rw [decide_eq_false h4']; rfl)]
              exact no (by rw [show Wg.inP (.str za) ys = false from decide_eq_false h4']; rfl) H2 k02
            have h4 := Decidable.not_not.mp h4'
            rw [if_neg (by rw [decide_eq_true h4]; decide)]
            refine g_ixT hr2 (at_lit 1 rfl rfl) (nin zb ⟨_, rfl, ?_⟩)
            by_cases h5' : ¬ (zb ∈ ys)
            · rw [if_pos (by rw [decide_eq_false h5']; rfl)]
              exact no (by rw [show Wg.inP (.str zb) ys = false from decide_eq_false h5']; simp) H2 k02
            have h5 := Decidable.not_not.mp h5'
            rw [if_neg (by rw [decide_eq_true h5]; decide)]
            have q2 := q H2 k02
            rw [show Wg.inP (.str za) ys = true from decide_eq_true h4, show Wg.inP (.str zb) ys = true from decide_eq_true h5, s3, hn] at q2
            unfold t__law_is_road_r1
            walk_at "sx"
            refine g_ixT hr2 (at_lit 2 rfl rfl) ⟨p, vm, m, rfl, e3.keep (KD.of0 k02), _, rfl, ?_⟩
            have q3 : Q (.bl (driveP m && driveP n)) H2 := q2
            cases hm : driveP m with
            | false =>
              rw [hm] at q3
              rw [if_neg (by decide)]
              exact q3
            | true =>
              rw [hm] at q3
              rw [if_pos rfl]
              exact g_ixT hr2 (at_lit 3 rfl rfl) ⟨p, vn, n, rfl, e4.keep (KD.of0 k02), q3⟩
          | _ => cases h2
        | _ => cases h1
      refine g_ixT hr (at_lit 2 rfl rfl) ?_
      walk_at "sx"
      split
      · rename_i h1
        rw [decide_eq_true h1] at n3
        refine g_ixT hr (at_lit 3 rfl rfl) ?_
        walk_at "sx"
        split
        · rename_i h2
          rw [decide_eq_true h2] at n4
          exact no (by rw [← n3, ← n4]; simp) H (Keep.refl _ _)
        · rename_i h2
          rw [decide_eq_false h2] at n4
          exact c3 (by rw [← n3, ← n4]; rfl)
      · rename_i h1
        rw [decide_eq_false h1] at n3
        exact c3 (by rw [← n3]; rfl)
    · rw [if_pos (by simpa using fun z => l4 (by exact_mod_cast z))]
      exact no (roadX_len (by rw [← hd.len]; exact l4)) H (Keep.refl _ _)
  | _ => exact no rfl H (Keep.refl _ _)


theorem cut_from {xs : List V} (n : Nat) : cutV xs (some (n : Int)) none = xs.drop n := by
  unfold cutV
  rw [HT.sIx_none, HT.sIx_nat, ← List.length_drop, List.take_length]
  by_cases h : n ≤ xs.length
  · rw [Nat.min_eq_left h]
  · rw [Nat.min_eq_right (by omega), List.drop_length, List.drop_eq_nil_of_le (by omega)]
theorem cut_upto {xs : List V} (n : Nat) : cutV xs none (some (n : Int)) = xs.take n := by
  unfold cutV
  rw [HT.sIx_none, HT.sIx_nat, List.drop_zero, Nat.sub_zero]
  by_cases h : n ≤ xs.length
  · rw [Nat.min_eq_left h]
  · rw [Nat.min_eq_right (by omega), List.take_length, List.take_of_length_le (by omega)]
/-! ### what the law's own check tells -/
theorem dpAll_len {K : PySem.W.Frag} {H : Hp} : ∀ {vs : List V} {ds : List PyData}, DpAll K H vs ds → vs.length = ds.length
  | _, _, .nil => rfl
  | _, _, .cons _ r => congrArg (· + 1) (dpAll_len r)
theorem g_emptyL {K : PySem.W.Frag} {neg : Bool} {H : Hp} {a b : Addr} {vs : List V} {ds : List PyData} {Q : VK} (h : H a = some (.lst vs)) (d : DpAll K H vs ds) (c : PyData.canLayAll0 ds = true) (dp : PyData.depthAll ds ≤ 60) (e : H b = some (.lst [])) (q : Q (.bl (if neg then !vs.isEmpty else vs.isEmpty)) H) : uEq K neg (.ref a) (.ref b) H Q := by
  refine .inr ⟨_, _, .lst (lst_sq h) d, .lst (lst_sq e) .nil, ?_, by decide +kernel, ?_⟩
  · unfold SeqAt.shaped
    rw [Bool.and_eq_true_iff]
    exact ⟨by simp [PyData.canLay0, c], decide_eq_true (by simp only [PyData.depth]; omega)⟩
  · have l := dpAll_len d
    have e1 : PyData.eqv (.list ds) (.list []) = vs.isEmpty := by
      cases ds with
      | nil => rw [List.eq_nil_of_length_eq_zero l]; rfl
      | cons x xs => cases vs with
        | nil => simp at l
        | cons y ys => rfl
    rw [e1]
    exact q
theorem strOk_lo {y : Str} (h : Lo y) : PyData.strOk y = true := by
  unfold PyData.strOk
  rw [Array.all_eq_true]
  intro i hi
  have := h y.cps[i] (by rw [Array.mem_toList_iff]; exact Array.getElem_mem hi)
  exact decide_eq_true (by omega)
theorem lay_strsT : ∀ {ys : List Str}, (∀ y ∈ ys, Lo y) → PyData.canLayAll0 (ys.map .str) = true ∧ PyData.depthAll (ys.map .str) = 0
  | [], _ => by simp [PyData.canLayAll0, PyData.depthAll]
  | y :: ys, h => by
    obtain ⟨a, b⟩ := lay_strsT fun z hz => h z (.tail _ hz)
    simp [PyData.canLayAll0, PyData.depthAll, PyData.canLay0, PyData.depth, a, b, strOk_lo (h y (.head _))]
theorem dp_rdsP {K : PySem.W.Frag} {H : Hp} : ∀ {vs : List V} {rs : List Rd}, EI (fun v r => ∃ p, v = .ref p ∧ RdAt H p r) vs rs → DpAll K H vs (rs.map fun r => .tuple [.str r.one, .str r.two, mDp r.there, mDp r.back])
  | _, _, .nil => .nil
  | _, _, .cons ⟨_, e, h⟩ q => by subst e; exact .cons (.tup (Tup.sq h) (.cons (.str _) (.cons (.str _) (.cons (dp_mVp _) (.cons (dp_mVp _) .nil))))) (dp_rdsP q)
theorem lay_mDp (o : Option Int) : (mDp o).canLay0 = true ∧ (mDp o).depth = 0 := by cases o <;> simp [mDp, PyData.canLay0, PyData.depth]
theorem lay_rdsT : ∀ {rs : List Rd}, (∀ r ∈ rs, Lo r.one ∧ Lo r.two) → PyData.canLayAll0 (rs.map fun r => .tuple [.str r.one, .str r.two, mDp r.there, mDp r.back]) = true ∧ PyData.depthAll (rs.map fun r => .tuple [.str r.one, .str r.two, mDp r.there, mDp r.back]) ≤ 1
  | [], _ => by simp [PyData.canLayAll0, PyData.depthAll]
  | r :: rs, h => by
    obtain ⟨a, b⟩ := lay_rdsT fun z hz => h z (.tail _ hz)
    obtain ⟨o1, o2⟩ := h r (.head _)
    obtain ⟨x1, x2⟩ := lay_mDp r.there
    obtain ⟨y1, y2⟩ := lay_mDp r.back
    constructor
    · simp [PyData.canLayAll0, PyData.canLay0, a, strOk_lo o1, strOk_lo o2, x1, y1]
    · simp only [List.map_cons, PyData.depthAll, PyData.depth, x2, y2]
      omega
/-! ### the law's own check, of any data: towns -/
theorem ei_mono {α β : Type} {R S : α → β → Prop} (f : ∀ v r, R v r → S v r) : ∀ {vs : List α} {rs : List β}, EI R vs rs → EI S vs rs
  | _, _, .nil => .nil
  | _, _, .cons h q => .cons (f _ _ h) (ei_mono f q)
theorem filt_one {α : Type} {rs : List α} {f : α → Bool} {i : Nat} {r : α} (e : rs[i]? = some r) : (rs.take (i + 1)).filter f = (rs.take i).filter f ++ (if f r = true then [r] else []) := by
  rw [take_one e, List.filter_append]
  congr 1
  cases h : f r <;> simp [h]
theorem names_nm {m : Nat} {ds : List PyData} (h : placesP m (.tuple ds) = true) : ds = (strsP ds).map .str ∧ (∀ y ∈ strsP ds, nameV (.str y) = true) ∧ (strsP ds).length = ds.length := by
  rw [placesP_t, Bool.and_eq_true] at h
  have h2 := h.2
  rw [Bool.and_eq_true] at h2
  have es := strs_all (all_imp (fun _ => nameP_str) h2.1)
  refine ⟨es, fun y hy => ?_, ?_⟩
  · have := List.all_eq_true.mp h2.1 (.str y) (by rw [es]; exact List.mem_map.mpr ⟨y, hy, rfl⟩)
    exact this
  · have := congrArg List.length es
    rw [List.length_map] at this
    exact this.symm
theorem strs_map (ys : List Str) : strsP (ys.map .str) = ys := by
  induction ys with
  | nil => rfl
  | cons y ys ih =>
    show y :: strsP (ys.map .str) = y :: ys
    rw [ih]
theorem stands_bad {ys : List Str} (nm : ∀ y ∈ ys, nameV (.str y) = true) {c : PyData} (h : placesP 5 c = false) : standsP ys c = false := by
  cases c with
  | tuple ds =>
    cases e : standsP ys (.tuple ds) with
    | false => rfl
    | true =>
      rw [standsP_t, Bool.and_eq_true] at e
      obtain ⟨e1, e2⟩ := e
      rw [Bool.and_eq_true] at e2
      have : placesP 5 (.tuple ds) = true := by
        rw [placesP_t, e1, e2.2, all_imp (fun d hd => in_name nm hd) e2.1]
        rfl
      rw [this] at h
      cases h
  | _ => rfl
theorem stands_good {ys : List Str} {ds : List PyData} (h : placesP 5 (.tuple ds) = true) : standsP ys (.tuple ds) = (strsP ds).all fun y => decide (y ∈ ys) := by
  obtain ⟨es, _, l⟩ := names_nm h
  rw [placesP_t, Bool.and_eq_true] at h
  obtain ⟨e1, e2⟩ := h
  rw [Bool.and_eq_true] at e2
  rw [standsP_t, e1, e2.2, Bool.and_true, Bool.true_and]
  have : ds.all (fun d => Wg.inP d ys) = ((strsP ds).map PyData.str).all (fun d => Wg.inP d ys) := by rw [← es]
  rw [this, List.all_map]
  rfl
theorem townP_t {a b c h : PyData} : townP (.tuple [a, b, c, h]) = (placesP 10 a && (roadsP (namesOf a) b && (standsP (namesOf a) c && wholeP 0 120 h))) := rfl
def spIsTownLX : Sp := fun vs H Q _ => ∃ (p : List Addr) (v : V) (d : PyData), vs = [v] ∧ Da p H v d ∧ cost d ≤ 5000000 ∧ loD d ∧ ∀ H', Keep [] H H' → Q (.bl (townP d)) H'
theorem rd_isTownLX (K : PySem.W.Frag) : ∀ vs H Q E, spIsTownLX vs H Q E → run (t__law_is_town K (spIsL K) spWithinX spRoadLX) (L2.start N__law_is_town vs) H Q := by
  rintro _ H Q _ ⟨p, v, d, rfl, h, hc, lo, q⟩
  show run (t__law_is_town K (spIsL K) spWithinX spRoadLX) [some v, none, none, none, none, none, none, none, none, none, none] H Q
  have no : townP d = false → ∀ H', Keep [] H H' → Q (.bl false) H' := fun e H' k => by rw [← e]; exact q H' k
  unfold t__law_is_town
  walk_at "sx"
  refine g_isT h ⟨_, rfl, ?_⟩
  cases h with
  | tup t1 hd =>
    rename_i t xs ds
    rw [if_neg (show ¬ (!isTP (.tuple ds)) = true from fun z => nomatch z)]
    refine g_lenT t1 (g_ne rfl ⟨_, rfl, ?_⟩)
    by_cases l4 : xs.length = 4
    · rw [if_neg (by rw [l4]; decide)]
      obtain ⟨va, vb, vc, vd, da, db, dc, dd, rfl, rfl, e1, e2, e3, e4⟩ := hd.four l4
      rw [townP_t] at no q
      have c0 : cost (.tuple [da, db, dc, dd]) = costs [da, db, dc, dd] + 3 := rfl
      have ca : cost da ≤ 5000000 := by have := cost_mem (ds := [da, db, dc, dd]) (d := da) (by simp); omega
      have cb : cost db ≤ 5000000 := by have := cost_mem (ds := [da, db, dc, dd]) (d := db) (by simp); omega
      have cc : cost dc ≤ 5000000 := by have := cost_mem (ds := [da, db, dc, dd]) (d := dc) (by simp); omega
      obtain ⟨la, lb, lc, _, _⟩ : loD da ∧ loD db ∧ loD dc ∧ loD dd ∧ True := lo
      unfold t__law_is_town_r5
      walk_at "sx"
      refine g_tup t1 rfl ?_
      walk_at "sx"
      refine ⟨_, _, rfl, _, _, rfl, _, _, rfl, _, _, rfl, rfl, ?_⟩
      walk_at "sx"
      refine ⟨by walk_at "sz", fun q1 H1 n1 k1 u1 => ⟨by walk_at "sz", fun q2 H2 n2 k2 u2 => ⟨by walk_at "sz", fun pl H3 n3 k3 e3' => ?_⟩⟩⟩
      have k03 : Keep [] H H3 := k1.trans (k2.trans k3)
      refine g_FL (fun j σ H' => ∃ y5 y6 y7 y8, σ = [some (.ref t), some va, some vb, some vc, some vd, y5, y6, y7, y8, none, none] ∧ Keep [] H3 H' ∧ (1 ≤ j → placesP 10 da = true) ∧ (2 ≤ j → placesP 5 dc = true)) (lst_sq e3') ⟨_, _, _, _, rfl, Keep.refl _ _, fun z => by omega, fun z => by omega⟩ ?_ ?_ ?_
      · rintro j σ H' _ ⟨_, _, _, _, rfl, k, _⟩
        exact lst_sq (k _ _ nin0 e3')
      · rintro j x σ H4 hx ⟨y5, y6, y7, y8, rfl, k4, b1, b2⟩
        have k04 := k03.trans k4
        have hm : ∃ (qa : Addr) (w : V) (e : PyData) (m : Nat), x = .ref qa ∧ Tup H4 qa [w, .int (m : Nat)] ∧ Da p H w e ∧ cost e ≤ 5000000 ∧ loD e ∧ m ≤ 10 ∧ (placesP m e = false → (placesP 10 da && (roadsP (namesOf da) db && (standsP (namesOf da) dc && wholeP 0 120 dd))) = false) ∧ (placesP m e = true → (1 ≤ j + 1 → placesP 10 da = true) ∧ (2 ≤ j + 1 → placesP 5 dc = true)) := by
          match j, hx with
          | 0, hx =>
            obtain rfl : V.ref q1 = x := by simpa using hx
            exact ⟨q1, va, da, 10, rfl, ((u1.keep k2 nin0).keep k3 nin0).keep k4 nin0, e1, ca, la, by decide, fun e => by rw [e]; rfl, fun e => ⟨fun _ => e, fun z => by omega⟩⟩
          | 1, hx =>
            obtain rfl : V.ref q2 = x := by simpa using hx
            refine ⟨q2, vc, dc, 5, rfl, (u2.keep k3 nin0).keep k4 nin0, e3, cc, lc, by decide, fun e => ?_, fun e => ⟨fun _ => b1 (by omega), fun _ => e⟩⟩
            have pa := b1 (by omega)
            cases da with
            | tuple ps =>
              rw [stands_bad (ys := namesOf (.tuple ps)) (names_nm pa).2.1 e]
              simp
            | _ => cases pa
          | j + 2, hx => simp at hx
        obtain ⟨qa, w, e, m, rfl, hq, hw, hcw, low, m10, bad, good⟩ := hm
        refine g_tup hq rfl ?_
        walk_at "sx"
        refine ⟨_, _, rfl, _, _, rfl, rfl, ?_⟩
        unfold t__law_is_town_b2
        walk_at "sx"
        have hw4 := hw.keep (KD.of0 k04)
        refine g_isT hw4 ⟨_, rfl, ?_⟩
        cases hw4 with
        | tup ha4 hd4 =>
          rename_i a ws ps
          rw [if_neg (show ¬ (!isTP (.tuple ps)) = true from fun z => nomatch z)]
          refine g_lenT ha4 (e_rI0.mpr ⟨_, rfl, ?_⟩)
          have lw := hd4.len
          rw [lw]
          by_cases h1' : ¬ (1 ≤ ps.length)
          · rw [if_neg (by rw [decide_eq_false (by omega)]; decide)]
            exact no (bad (by rw [placesP_t, decide_eq_false h1']; rfl)) H4 k04
          have h1 := Decidable.not_not.mp h1'
          rw [if_pos (decide_eq_true (by omega))]
          refine e_rI0.mpr ⟨_, rfl, ?_⟩
          by_cases h2' : ¬ (ps.length ≤ m)
          · rw [if_pos (by rw [decide_eq_false (by omega)]; rfl)]
            exact no (bad (by rw [placesP_t, decide_eq_true h1, decide_eq_false h2']; rfl)) H4 k04
          have h2 := Decidable.not_not.mp h2'
          rw [if_neg (by rw [decide_eq_true (by omega)]; decide)]
          have e5 : placesP m (.tuple ps) = (ps.all Wg.nameP && decide (strsP ps).Nodup) := by rw [placesP_t, decide_eq_true h1, decide_eq_true h2]; rfl
          unfold t__law_is_town_r1
          walk_at "sx"
          refine g_FE (fun i σ H' => ∃ y7 y8, σ = [some (.ref t), some va, some vb, some vc, some vd, some (.ref a), some (.int (m : Nat)), y7, y8, none, none] ∧ Keep [] H4 H' ∧ ∃ ys : List Str, ps.take i = ys.map .str ∧ (∀ y ∈ ys, nameV (.str y) = true) ∧ ys.Nodup) ha4 ⟨_, _, rfl, Keep.refl _ _, [], by simp, fun _ h => (List.not_mem_nil h).elim, by simp⟩
            (fun i σ H' _ ⟨_, _, _, k, _⟩ => ha4.keep k nin0) ?_ ?_
          · rintro i x σ H5 tp H6 hx ⟨y7, y8, rfl, k5, ys, ey, nmy, nd⟩ ntp ktp etp
            have hi : i < ps.length := by rw [← lw]; exact (List.getElem?_eq_some_iff.mp hx).1
            obtain ⟨dx, hdx⟩ : ∃ dx, ps[i]? = some dx := ⟨_, List.getElem?_eq_getElem hi⟩
            obtain ⟨x', hx', hda⟩ := hd4.get hdx
            obtain rfl : x = x' := Option.some.inj (hx.symm.trans hx')
            have hm := List.mem_of_getElem? hdx
            have k46 := k5.trans ktp
            have cx : cost dx ≤ 5000000 := by
              have := cost_mem hm
              have ct : cost (.tuple ps) = costs ps + 3 := rfl
              omega
            have lx : loD dx := loDs_mem low dx hm
            have hda6 := hda.keep (KD.of0 k46)
            refine g_pair etp rfl ?_
            walk_at "sx"
            refine ⟨_, _, rfl, _, _, rfl, rfl, ?_⟩
            unfold t__law_is_town_b1
            walk_at "sx"
            refine ⟨x, rfl, hda6.kd, kdz hda6 cx lx, fun H7 k7 => ⟨_, rfl, ?_⟩⟩
            rw [hda6.nameP]
            have k47 := k46.trans k7
            have bad' : placesP m (.tuple ps) = false → Q (.bl false) H7 := fun e => no (bad e) H7 (k04.trans k47)
            cases hb : Wg.nameP dx with
            | false =>
              rw [if_pos (by decide)]
              refine bad' ?_
              rw [e5, Bool.and_eq_false_iff]
              refine .inl ?_
              rw [List.all_eq_false]
              exact ⟨dx, hm, by rw [hb]; decide⟩
            | true =>
              rw [if_neg (by decide)]
              refine g_slT (ha4.keep k47 nin0) fun z H8 k8 e8 => ?_
              rw [cut_upto] at e8
              have dt := hd4.take i
              rw [ey] at dt
              rw [dt.strs] at e8
              cases hda with
              | str y =>
                have inn : ∀ {R : VK}, R (.bl (decide (y ∈ ys))) H8 → uIn K false (.str y) (.ref z) H8 R := fun r => .inl ⟨z, _, rfl, .inr e8.sq, rfl, flat_strsX ys, by rw [if_neg (by decide), inV_str]; exact r⟩
                refine inn ⟨_, rfl, ?_⟩
                by_cases hin : y ∈ ys
                · rw [if_pos (decide_eq_true hin)]
                  refine no (bad ?_) H8 (k04.trans (k47.trans k8))
                  rw [e5, Bool.and_eq_false_iff]
                  by_cases hall : ps.all Wg.nameP = true
                  · refine .inr (decide_eq_false fun nd' => ?_)
                    have es := strs_all (all_imp (fun _ => nameP_str) hall)
                    have et : (strsP ps).take i = ys := by
                      have : ((strsP ps).map PyData.str).take i = ys.map .str := by rw [← es]; exact ey
                      rw [← List.map_take] at this
                      have := congrArg strsP this
                      rw [strs_map, strs_map] at this
                      exact this
                    have eg : (strsP ps)[i]? = some y := by
                      have : ((strsP ps).map PyData.str)[i]? = some (.str y) := by rw [← es]; exact hdx
                      rw [List.getElem?_map] at this
                      obtain ⟨y', h1, h2⟩ := Option.map_eq_some_iff.mp this
                      injection h2 with h2
                      rw [h1, h2]
                    have sp : strsP ps = (strsP ps).take i ++ (strsP ps).drop i := (List.take_append_drop i _).symm
                    rw [sp, List.nodup_append] at nd'
                    have hi' := (List.getElem?_eq_some_iff.mp eg).1
                    have : (strsP ps).drop i = y :: (strsP ps).drop (i + 1) := by
                      rw [List.drop_eq_getElem_cons hi']
                      congr 1
                      exact (List.getElem?_eq_some_iff.mp eg).2
                    exact nd'.2.2 y (by rw [et]; exact hin) y (by rw [this]; exact List.mem_cons_self ..) rfl
                  · exact .inl (by simpa using hall)
                · rw [if_neg (by rw [decide_eq_false hin]; decide)]
                  refine ⟨_, _, rfl, k47.trans k8, ys ++ [y], ?_, ?_, ?_⟩
                  · rw [take_one hdx, ey]
                    simp
                  · intro u hu
                    rcases List.mem_append.mp hu with hu | hu
                    · exact nmy u hu
                    · rw [List.mem_singleton.mp hu]; exact hb
                  · rw [List.nodup_append]
                    exact ⟨nd, by simp, fun u hu v hv c => by rw [List.mem_singleton.mp hv] at c; exact hin (c ▸ hu)⟩
              | _ => cases hb
          · rintro σ H5 ⟨y7, y8, rfl, k5, ys, ey, nmy, nd⟩
            rw [lw, List.take_length] at ey
            have ok : placesP m (.tuple ps) = true := by
              rw [e5, ey, strs_map, decide_eq_true nd, Bool.and_true, List.all_map]
              exact List.all_eq_true.mpr fun y hy => nmy y hy
            exact ⟨_, _, _, _, rfl, k4.trans k5, (good ok).1, (good ok).2⟩
        | _ => exact no (bad rfl) H4 k04
      · rintro σ H4 ⟨y5, y6, y7, y8, rfl, k4, b1, b2⟩
        have k04 := k03.trans k4
        have pb := b1 (show 1 ≤ 2 by decide)
        have sb := b2 (show 2 ≤ 2 by decide)
        cases e1 with
        | tup hpa hda =>
          rename_i pa was ps
          cases e3 with
          | tup hpc hdc =>
            rename_i pcA wcs cs
            obtain ⟨es, nm, lp⟩ := names_nm pb
            obtain ⟨cs', nmc, lcs⟩ := names_nm sb
            have u2' : Tup H pa ((strsP ps).map V.str) := by
              rw [es] at hda
              rw [hda.strs] at hpa
              exact hpa
            have u5' : Tup H pcA ((strsP cs).map V.str) := by
              rw [cs'] at hdc
              rw [hdc.strs] at hpc
              exact hpc
            rw [pb, show namesOf (.tuple ps) = strsP ps from rfl, stands_good sb] at no q
            unfold t__law_is_town_r4
            walk_at "sx"
            have f2 := e2.keep (KD.of0 k04)
            refine g_isT f2 ⟨_, rfl, ?_⟩
            cases f2 with
            | tup u3 hd3 =>
              rename_i ar wrs rs
              rw [if_neg (show ¬ (!isTP (.tuple rs)) = true from fun z => nomatch z)]
              refine g_lenT u3 (e_rI0.mpr ⟨_, rfl, ?_⟩)
              have l3 := hd3.len
              rw [l3]
              rw [roadsP_t] at no q
              by_cases h1' : ¬ (rs.length ≤ 18)
              · rw [if_pos (decide_eq_true (by omega))]
                exact no (by rw [decide_eq_false h1']; rfl) H4 k04
              have h1 := Decidable.not_not.mp h1'
              rw [decide_eq_true h1] at no q
              rw [if_neg (by rw [decide_eq_false (by omega)]; decide)]
              refine ⟨p, vd, dd, 0, 120, rfl, e4.keep (KD.of0 k04), _, rfl, ?_⟩
              cases hre : wholeP 0 120 dd with
              | false =>
                rw [if_pos (by decide)]
                exact no (by rw [hre]; simp) H4 k04
              | true =>
              rw [if_neg (by decide)]
              rw [hre] at no q
              unfold t__law_is_town_r3
              walk_at "sx"
              have u5 := u5'.keep k04 nin0
              refine g_CE (RR := fun _ v y => v = V.str y) (.inr u5) (ei_strs (strsP cs)) (fun H H' x r h _ => h) (fun i H' acc => acc = (((strsP cs).take i).filter fun y => !decide (y ∈ strsP ps)).map V.str) (fun D H2 _ _ => rfl) ?_ ?_
              · rintro D i _ y H5 acc R R0 nD e k5 eD rfl hacc hR hR0
                have hi := (List.getElem?_eq_some_iff.mp e).1
                walk_at "sx"
                have tu := (u2'.keep k04 nin0).keep k5 nin0
                have nin : ∀ {R : VK}, R (.bl (!decide (y ∈ strsP ps))) H5 → uIn K true (.str y) (.ref pa) H5 R := fun r => .inl ⟨pa, _, rfl, .inr tu.sq, rfl, flat_strsX _, by rw [if_pos rfl, inV_str]; exact r⟩
                refine nin ⟨_, rfl, ?_⟩
                by_cases hin : y ∈ strsP ps
                · rw [if_neg (by rw [decide_eq_true hin]; decide)]
                  exact hR0 H5 (Keep.refl _ _) (by rw [hacc, filt_one e, decide_eq_true hin]; simp)
                · rw [if_pos (by rw [decide_eq_false hin]; rfl)]
                  refine hR _ H5 (Keep.refl _ _) ?_ fun H6 k6 => by rw [hacc, filt_one e, decide_eq_false hin]; simp
                  rw [hacc, List.length_map]
                  have l5 : (strsP cs).length ≤ 5 := by
                    rw [placesP_t, Bool.and_eq_true] at sb
                    have s1 := sb.1
                    rw [Bool.and_eq_true] at s1
                    have := of_decide_eq_true s1.2
                    omega
                  exact len_lt (Nat.le_trans (List.length_filter_le _ _) (by rw [List.length_take]; omega))
              rintro D H5 acc nD k5 eD hacc
              rw [List.take_length] at hacc
              subst hacc
              have k05 := k04.trans k5
              refine ⟨by walk_at "sz", fun e0 H6 n6 k6 e6 => ?_⟩
              have los : ∀ y ∈ strsP cs, Lo y := fun y hy => loDs_mem (ds := cs) lc (.str y) (by rw [cs']; exact List.mem_map.mpr ⟨y, hy, rfl⟩)
              obtain ⟨c1, c2⟩ := lay_strsT (ys := (strsP cs).filter fun y => !decide (y ∈ strsP ps)) fun y hy => los y (List.mem_filter.mp hy).1
              refine g_emptyL (k6 _ _ nin0 eD) (dp_strsX _) c1 (by omega) e6 ⟨_, rfl, ?_⟩
              have em : (((strsP cs).filter fun y => !decide (y ∈ strsP ps)).map V.str).isEmpty = (strsP cs).all fun y => decide (y ∈ strsP ps) := by
                rw [List.isEmpty_map]
                exact all_empty (strsP cs)
              rw [em, if_pos rfl]
              have k06 := k05.trans k6
              cases hst : (strsP cs).all fun y => decide (y ∈ strsP ps) with
              | false =>
                rw [if_pos (by decide)]
                exact no (by rw [hst]; simp) H6 k06
              | true =>
              rw [if_neg (by decide)]
              rw [hst] at no q
              unfold t__law_is_town_r2
              walk_at "sx"
              have k46 : Keep [] H4 H6 := k5.trans k6
              have w3 := u3.keep k46 nin0
              have w4 := hd3.keep (KD.of0 (p := p) k46)
              have cr : ∀ dx ∈ rs, cost dx ≤ 5000000 := fun dx hdx => by
                have := cost_mem hdx
                have ct : cost (.tuple rs) = costs rs + 3 := rfl
                omega
              refine g_CE (RR := fun H v r => Da p H v r) (.inr w3) w4.ei (fun H H' x r h k => h.keep (KD.of0 k)) (fun i H' acc => acc.length = ((rs.take i).filter fun r => !roadX (strsP ps) r).length) (fun D H2 _ _ => rfl) ?_ ?_
              · rintro D i v r H7 acc R R0 nD e k7 eD hr hacc hR hR0
                have hm := List.mem_of_getElem? e
                walk_at "sx"
                refine ⟨p, pa, _, v, r, rfl, (u2'.keep k06 nin0).keep k7 nin0, nm, hr, cr r hm, loDs_mem lb r hm, fun H8 k8 => ⟨_, rfl, ?_⟩⟩
                cases hb : roadX (strsP ps) r with
                | true =>
                  rw [if_neg (by decide)]
                  refine hR0 H8 k8 ?_
                  rw [filt_one e, hb]
                  simpa using hacc
                | false =>
                  rw [if_pos (by decide)]
                  refine hR _ H8 k8 ?_ fun H9 k9 => ?_
                  · rw [hacc]
                    exact len_lt (Nat.le_trans (List.length_filter_le _ _) (by rw [List.length_take]; omega))
                  · rw [filt_one e, hb]
                    simp [hacc]
              rintro D H7 acc nD k7 eD hacc
              rw [List.take_length] at hacc
              refine ⟨by walk_at "sz", fun e1 H8 n8 k8 e8 => ?_⟩
              refine g_eqE (k8 _ _ nin0 eD) e8 ?_
              have em : acc.isEmpty = rs.all (roadX (strsP ps)) := by
                rw [← all_empty rs]
                generalize (rs.filter fun r => !roadX (strsP ps) r) = fs at hacc
                cases acc <;> cases fs <;> simp at hacc ⊢
              rw [em]
              have q2 := q H8 (k06.trans (k7.trans k8))
              simpa using q2
            | _ => exact no (by simp [roadsP]) H4 k04
          | _ => cases sb
        | _ => cases pb
    · rw [if_pos (by simpa using fun z => l4 (by exact_mod_cast z))]
      exact no (townP_len (by rw [← hd.len]; exact l4)) H (Keep.refl _ _)
  | _ => exact no rfl H (Keep.refl _ _)


/-! ### places within data, data put anew -/
mutual
def tdep : PyData → Nat
  | .tuple xs => tdeps xs + 1
  | _ => 0
def tdeps : List PyData → Nat
  | [] => 0
  | d :: ds => max (tdep d) (tdeps ds)
end
theorem ei_app {α β : Type} {R : α → β → Prop} : ∀ {vs ws : List α} {rs ss : List β}, EI R vs rs → EI R ws ss → EI R (vs ++ ws) (rs ++ ss)
  | _, _, _, _, .nil, h => h
  | _, _, _, _, .cons r e, h => .cons r (ei_app e h)
theorem tdeps_mem : ∀ {ds : List PyData} {d : PyData}, d ∈ ds → tdep d ≤ tdeps ds
  | d' :: ds, d, h => by
    simp only [tdeps]
    rcases List.mem_cons.mp h with rfl | h
    · omega
    · have := tdeps_mem h
      omega
def spotOk : List Nat → PyData → Prop
  | [], _ => True
  | k :: s, .tuple ds => ∃ e, ds[k]? = some e ∧ spotOk s e
  | _ :: _, _ => False
def spotV (s : List Nat) : List V := s.map fun k => V.int (k : Nat)
def SpAt (H : Hp) (v : V) (s : List Nat) : Prop := ∃ q, v = .ref q ∧ Tup H q (spotV s)
theorem SpAt.keep {H H' : Hp} {v : V} {s : List Nat} (h : SpAt H v s) (k : Keep [] H H') : SpAt H' v s := let ⟨q, e, t⟩ := h; ⟨q, e, t.keep k nin0⟩
theorem SpAt.keepN {H H' : Hp} {v : V} {s : List Nat} {D : Addr} {xs : List V} (h : SpAt H v s) (k : Keep [D] H H') (e : H D = some (.lst xs)) : SpAt H' v s := let ⟨q, e1, t⟩ := h; ⟨q, e1, t.keep k (nin1 fun z => by
  obtain ⟨ob, e2, _⟩ := t
  rw [z, e] at e2
  cases e2)⟩
def spSpots (K : PySem.W.Frag) : Nat → Sp
  | 0 => fun _ _ _ _ => False
  | m + 1 => fun vs H Q _ => ∃ (p : List Addr) (v : V) (d : PyData), vs = [v] ∧ Da p H v d ∧ tdep d ≤ m ∧ m ≤ 20 ∧ cost d ≤ 1000000 ∧ ∀ a H' us ss, Keep [] H H' → H' a = some (.lst us) → EI (SpAt H') us ss → (∀ s ∈ ss, spotOk s d ∧ s.length ≤ m) → 1 ≤ ss.length → ss.length ≤ cost d → Q (.ref a) H'
theorem cost_pos (d : PyData) : 2 ≤ cost d := by
  cases d <;> simp [cost]
theorem rd_spots (K : PySem.W.Frag) (m : Nat) : ∀ vs H Q E, spSpots K (m + 1) vs H Q E → run (t__law_spots K (spSpots K m)) (L2.start N__law_spots vs) H Q := by
  rintro _ H Q _ ⟨p, v, d, rfl, h, hd, m20, hc, q⟩
  show run (t__law_spots K (spSpots K m)) [some v, none, none, none, none] H Q
  unfold t__law_spots
  walk_at "sx"
  refine ⟨by walk_at "sz", fun z H1 n1 k1 t1 => ⟨by walk_at "sz", fun f H2 n2 k2 e2 => ?_⟩⟩
  have k02 := k1.trans k2
  have h2 := h.keep (KD.of0 k02)
  have z2 : SpAt H2 (.ref z) [] := ⟨z, rfl, t1.keep k2 nin0⟩
  walk_at "sx"
  refine g_isT h2 ⟨_, rfl, ?_⟩
  have fin : ∀ (H3 : Hp) us ss (x2 x3 x4 : Option V), Keep [] H H3 → H3 f = some (.lst us) → EI (SpAt H3) us ss → (∀ s ∈ ss, spotOk s d ∧ s.length ≤ m) → 1 ≤ ss.length → ss.length ≤ cost d → t__law_spots_r1 K (spSpots K m) { nx := fun x H' => Q V.non H', rt := Q } [some v, some (.ref f), x2, x3, x4] H3 := fun H3 us ss x2 x3 x4 k3 e3 hi ho l1 l2 => by
    unfold t__law_spots_r1
    walk_at "sx"
    exact q f H3 us ss k3 e3 hi ho l1 l2
  cases h with
  | tup ht0 hd2 =>
    rename_i a xs ds
    have ht := ht0.keep k02 nin0
    rw [if_pos (show isTP (.tuple ds) = true from rfl)]
    have ld := hd2.len
    have ct : cost (.tuple ds) = costs ds + 3 := rfl
    have td : tdep (.tuple ds) = tdeps ds + 1 := by simp [tdep]
    refine g_FE (fun i σ H' => ∃ x2 x3 x4 us ss, σ = [some (.ref a), some (.ref f), x2, x3, x4] ∧ Keep [f] H2 H' ∧ H' f = some (.lst us) ∧ EI (SpAt H') us ss ∧ (∀ s ∈ ss, spotOk s (.tuple ds) ∧ s.length ≤ m) ∧ 1 ≤ ss.length ∧ ss.length ≤ 1 + costs (ds.take i)) ht
      ⟨_, _, _, _, [[]], rfl, Keep.refl _ _, e2, .cons z2 .nil, fun s hs => by rw [List.mem_singleton.mp hs]; exact ⟨trivial, Nat.zero_le _⟩, by decide, by simp⟩ (fun i σ H' _ ⟨_, _, _, _, _, _, k, _⟩ => ht.keep k (nin1 fun z => by
        obtain ⟨ob, e3, _⟩ := ht
        rw [z, e2] at e3
        cases e3)) ?_ ?_
    · rintro i x σ H3 tp H4 hx ⟨x2, x3, x4, us, ss, rfl, k3, e3, hi, ho, l1, l2⟩ ntp ktp etp
      have hil : i < ds.length := by rw [← ld]; exact (List.getElem?_eq_some_iff.mp hx).1
      obtain ⟨dx, hdx⟩ : ∃ dx, ds[i]? = some dx := ⟨_, List.getElem?_eq_getElem hil⟩
      obtain ⟨x', hx', hda⟩ := hd2.get hdx
      obtain rfl : x = x' := Option.some.inj (hx.symm.trans hx')
      have hm := List.mem_of_getElem? hdx
      refine g_pair etp rfl ?_
      walk_at "sx"
      refine ⟨_, _, rfl, _, _, rfl, rfl, ?_⟩
      unfold t__law_spots_b1
      walk_at "sx"
      have e4 := ktp _ _ nin0 e3
      refine ⟨.inl ⟨rfl, _, .inl (.inl e4)⟩, ?_⟩
      obtain ⟨m', rfl⟩ : ∃ m', m = m' + 1 := ⟨m - 1, by omega⟩
      have k04 : Keep [] H H4 := (k02.past k3 (k1.free nin0 n2)).trans ktp
      have cm := cost_mem hm
      have tm := tdeps_mem hm
      refine ⟨p, x, dx, rfl, hda.keep (KD.of0 k04), by omega, by omega, by omega, fun a1 H5 us1 ss1 k5 e5 hi1 ho1 l11 l12 => ?_⟩
      have c12 : ss1.length ≤ 1000000 := by omega
      refine g_CE (RR := SpAt) (.inl e5) hi1 (fun H H' x r h k => h.keep k) (fun j H' acc => EI (SpAt H') acc ((ss1.take j).map fun s => i :: s)) (fun D H2 _ _ => .nil) ?_ ?_
      · rintro D j w s H6 acc R R0 nD es k6 eD hw hacc hR hR0
        have ls := (ho1 s (List.mem_of_getElem? es)).2
        walk_at "sx"
        refine ⟨by walk_at "sz", fun z1 H7 n7 k7 t7 => ?_⟩
        obtain ⟨q1, rfl, t6⟩ := hw
        refine g_addT t7 (t6.keep k7 nin0) ?_ fun q2 H8 k8 t8 => ?_
        · rw [show (spotV s).length = s.length by simp [spotV]]
          exact len_le (by show 1 + s.length ≤ 1000000; omega)
        have ha8 := ei_mono (fun v s (h : SpAt H6 v s) => h.keep (k7.trans k8)) hacc
        have eD8 := k8 _ _ nin0 (k7 _ _ nin0 eD)
        refine hR _ H8 (k7.trans k8) ?_ fun H9 k9 => ?_
        · rw [hacc.length, List.length_map, List.length_take]
          exact len_lt (by have := (List.getElem?_eq_some_iff.mp es).1; omega)
        · rw [take_one es, List.map_append]
          exact ei_snoc (SpAt.keepN ⟨q2, rfl, t8⟩ k9 eD8) (ei_mono (fun v s (h : SpAt H8 v s) => h.keepN k9 eD8) ha8)
      · rintro D H6 acc nD k6 eD hacc
        rw [List.take_length] at hacc
        have k46 := k5.trans k6
        have e6 := k46 _ _ nin0 e4
        have la : acc.length = ss1.length := by rw [hacc.length, List.length_map]
        have lu : us.length = ss.length := hi.length
        have lt : costs (ds.take i) + (cost dx + 2) ≤ costs ds := by
          have : ∀ (es : List PyData) (j : Nat) (e : PyData), es[j]? = some e → costs (es.take j) + (cost e + 2) ≤ costs es := by
            intro es
            induction es with
            | nil => intro j e h; simp at h
            | cons x xs ih =>
              intro j e h
              cases j with
              | zero =>
                have h' := Option.some.inj h
                simp only [List.take_zero, costs, h']
                omega
              | succ j =>
                have := ih j e h
                simp only [List.take_succ_cons, costs]
                omega
          exact this ds i dx hdx
        refine ⟨f, D, us, acc, rfl, rfl, e6, eD, len_le (by omega), fun H7 k7 e7 => ?_⟩
        have nf : ∀ {v : V} {s : List Nat}, SpAt H6 v s → SpAt H7 v s := fun h => h.keepN k7 e6
        have t1e : costs (ds.take (i + 1)) = costs (ds.take i) + (cost dx + 2) := by
          rw [take_one hdx]
          have : ∀ (es : List PyData) (e : PyData), costs (es ++ [e]) = costs es + (cost e + 2) := by
            intro es e
            induction es with
            | nil => simp [costs]
            | cons x xs ih =>
              simp only [List.cons_append, costs, ih]
              omega
          exact this _ _
        refine ⟨_, _, _, us ++ acc, ss ++ ss1.map (fun s => i :: s), rfl, (k3.trans (ktp.trans k46).all).trans k7, e7, ?_, ?_, ?_, ?_⟩
        · exact ei_app (ei_mono (fun v s h => nf (h.keep (ktp.trans k46))) hi) (ei_mono (fun v s h => nf h) hacc)
        · intro s hs
          rcases List.mem_append.mp hs with hs | hs
          · exact ho s hs
          · obtain ⟨s1, hs1, rfl⟩ := List.mem_map.mp hs
            obtain ⟨o1, o2⟩ := ho1 s1 hs1
            exact ⟨⟨dx, hdx, o1⟩, by simp; omega⟩
        · rw [List.length_append]; omega
        · rw [List.length_append, List.length_map]
          omega
    · rintro σ H3 ⟨x2, x3, x4, us, ss, rfl, k3, e3, hi, ho, l1, l2⟩
      rw [ld, List.take_length] at l2
      exact fin H3 us ss _ _ _ (k02.past k3 (k1.free nin0 n2)) e3 hi ho l1 (by omega)
  | _ => exact fin H2 _ [[]] _ _ _ k02 e2 (.cons z2 .nil) (fun s hs => by rw [List.mem_singleton.mp hs]; exact ⟨trivial, Nat.zero_le _⟩) (by decide) (Nat.le_trans (by decide) (cost_pos _))

/-- the part at a place; data put there -/
def getD (d : PyData) : List Nat → PyData
  | [] => d
  | k :: s => match d with
    | .tuple ds => getD (ds.getD k .none) s
    | _ => d
def putD : PyData → List Nat → PyData → PyData
  | _, [], e => e
  | .tuple ds, k :: s, e => .tuple (ds.take k ++ [putD (ds.getD k .none) s e] ++ ds.drop (k + 1))
  | d, _, _ => d
theorem spotV_lay (s : List Nat) : PyData.canLayAll0 (s.map fun k => PyData.int (k : Nat)) = true ∧ PyData.depthAll (s.map fun k => PyData.int (k : Nat)) = 0 := by
  induction s with
  | nil => simp [PyData.canLayAll0, PyData.depthAll]
  | cons k s ih => simp [PyData.canLayAll0, PyData.depthAll, PyData.canLay0, PyData.depth, ih.1, ih.2]
theorem dp_spot {K : PySem.W.Frag} {H : Hp} (s : List Nat) : DpAll K H (spotV s) (s.map fun k => PyData.int (k : Nat)) := by
  induction s with
  | nil => exact .nil
  | cons k s ih => exact .cons (.int _) ih
theorem g_eqSpot {K : PySem.W.Frag} {H : Hp} {a b : Addr} {s : List Nat} {Q : VK} (h : Tup H a (spotV s)) (e : Tup H b []) (q : Q (.bl s.isEmpty) H) : uEq K false (.ref a) (.ref b) H Q := by
  refine .inr ⟨_, _, .tup h.sq (dp_spot s), .tup e.sq .nil, ?_, by decide +kernel, ?_⟩
  · unfold SeqAt.shaped
    rw [Bool.and_eq_true_iff]
    exact ⟨by simp [PyData.canLay0, (spotV_lay s).1], decide_eq_true (by simp only [PyData.depth, (spotV_lay s).2]; omega)⟩
  · cases s <;> exact q
theorem len_costs : ∀ ds : List PyData, ds.length ≤ costs ds
  | [] => Nat.zero_le _
  | d :: ds => by
    have := len_costs ds
    simp only [costs, List.length_cons]
    omega
def spPut (K : PySem.W.Frag) : Nat → Sp
  | 0 => fun _ _ _ _ => False
  | m + 1 => fun vs H Q _ => ∃ (p : List Addr) (v w x : V) (d e : PyData) (s : List Nat), vs = [v, w, x] ∧ Da p H v d ∧ SpAt H w s ∧ spotOk s d ∧ Da p H x e ∧ s.length ≤ m ∧ cost d ≤ 1000000 ∧ ∀ y H', Keep [] H H' → Da p H' y (putD d s e) → Q y H'
theorem rd_put (K : PySem.W.Frag) (m : Nat) : ∀ vs H Q E, spPut K (m + 1) vs H Q E → run (t__law_put K (spPut K m)) (L2.start N__law_put vs) H Q := by
  rintro _ H Q _ ⟨p, v, w, x, d, e, s, rfl, hd, hw, so, he, lm, hc, q⟩
  show run (t__law_put K (spPut K m)) [some v, some w, some x, none] H Q
  obtain ⟨qs, rfl, tq⟩ := hw
  unfold t__law_put
  walk_at "sx"
  refine ⟨by walk_at "sz", fun z H1 n1 k1 t1 => g_eqSpot (tq.keep k1 nin0) t1 ⟨_, rfl, ?_⟩⟩
  cases s with
  | nil =>
    rw [if_pos (show ([] : List Nat).isEmpty = true from rfl)]
    refine q x H1 k1 ?_
    have : putD d [] e = e := by cases d <;> rfl
    rw [this]
    exact he.keep (KD.of0 k1)
  | cons k s =>
    rw [if_neg (show ¬ (k :: s).isEmpty = true from fun z => nomatch z)]
    cases hd with
    | tup ht0 hdl =>
      rename_i a xs ds
      obtain ⟨dk, hdk, so2⟩ := so
      obtain ⟨vk, hvk, hda⟩ := hdl.get hdk
      have kl := (List.getElem?_eq_some_iff.mp hdk).1
      have ld := hdl.len
      have gk : ds.getD k .none = dk := by rw [List.getD_eq_getElem?_getD, hdk]; rfl
      have ht := ht0.keep k1 nin0
      have tq1 := tq.keep k1 nin0
      obtain ⟨m', rfl⟩ : ∃ m', m = m' + 1 := ⟨m - 1, by simp at lm; omega⟩
      unfold t__law_put_r1
      walk_at "sx"
      refine g_ixT tq1 (at_lit 0 rfl rfl) ?_
      walk_at "sx"
      refine g_slT ht fun a1 H2 k2 t2 => ?_
      rw [cut_upto] at t2
      refine g_ixT (ht.keep k2 nin0) (at_lit k rfl hvk) (g_slT (tq1.keep k2 nin0) fun a2 H3 k3 t3 => ?_)
      have e3 : cutV (spotV (k :: s)) (some 1) none = spotV s := cut_from (xs := spotV (k :: s)) 1
      rw [e3] at t3
      have k03 := k1.trans (k2.trans k3)
      have cm := cost_mem (List.mem_of_getElem? hdk)
      have ct : cost (.tuple ds) = costs ds + 3 := rfl
      have ll : ds.length ≤ costs ds := len_costs ds
      refine ⟨p, vk, .ref a2, x, dk, e, s, rfl, hda.keep (KD.of0 k03), ⟨a2, rfl, t3⟩, so2, he.keep (KD.of0 k03), by simp at lm; omega, by omega, fun y H4 k4 hy => ?_⟩
      walk_at "sx"
      refine ⟨by walk_at "sz", fun a3 H5 n5 k5 t5 => ?_⟩
      have k25 := k3.trans (k4.trans k5)
      refine g_addT (t2.keep k25 nin0) t5 (len_le (by rw [List.length_take]; show min k xs.length + 1 ≤ 1000000; omega)) fun a4 H6 k6 t6 => ?_
      have k16 := k2.trans (k25.trans k6)
      refine g_slT (ht.keep k16 nin0) fun a5 H7 k7 t7 => ?_
      have e7 : cutV xs (some ((k : Int) + 1)) none = xs.drop (k + 1) := cut_from (xs := xs) (k + 1)
      rw [e7] at t7
      refine g_addT (t6.keep k7 nin0) t7 (len_le (by rw [List.length_append, List.length_take, List.length_drop]; show min k xs.length + 1 + (xs.length - (k + 1)) ≤ 1000000; omega)) fun a6 H8 k8 t8 => ?_
      have k18 := k16.trans (k7.trans k8)
      have k08 := k1.trans k18
      refine q _ H8 k08 ?_
      have ep : putD (.tuple ds) (k :: s) e = .tuple (ds.take k ++ [putD dk s e] ++ ds.drop (k + 1)) := by rw [← gk]; rfl
      rw [ep]
      have hd8 := hdl.keep (KD.of0 (p := p) k08)
      exact .tup t8 (((hd8.take k).app (.cons (hy.keep (KD.of0 (k5.trans (k6.trans (k7.trans k8))))) .nil)).app (hd8.drop (k + 1)))
    | _ => exact so.elim


/-! ### texts in capitals, texts of numbers: low signs -/
theorem Lo.app {a b : Str} (h : Lo a) (h' : Lo b) : Lo (a ++ b) := fun c hc => by
  rw [sg_app] at hc
  exact (List.mem_append.mp hc).elim (h c) (h' c)
theorem Lo.cut {z : Str} {lo hi : Option Int} (h : Lo z) : Lo (cutS z lo hi) := fun c hc => by
  have hc : c ∈ ((z.cps.toList.drop (HT.sIx z.length 0 lo)).take (HT.sIx z.length z.length hi - HT.sIx z.length 0 lo)) := by simpa [cutS] using hc
  exact h c (List.mem_of_mem_drop (List.mem_of_mem_take hc))
theorem cut_len (z : Str) (lo hi : Option Int) : (cutS z lo hi).length ≤ z.length := by
  have : (cutS z lo hi).length = ((z.cps.toList.drop (HT.sIx z.length 0 lo)).take (HT.sIx z.length z.length hi - HT.sIx z.length 0 lo)).length := by simp [cutS, Str.length]
  rw [this]
  refine Nat.le_trans (List.length_take_le' _ _) ?_
  rw [List.length_drop]
  have : z.cps.toList.length = z.length := sg_len z
  omega
theorem Lo.one {z : Str} {c : Nat} (h : Lo z) (hc : c ∈ sg z) : Lo (s1 c) := fun x hx => by
  have : x = c := by simpa using hx
  rw [this]
  exact h c hc
theorem s1_len (c : Nat) : (s1 c).length = 1 := rfl
theorem g_pick {K : PySem.W.Frag} {H : Hp} {Q : VK} {z : Str} {r : Int} (h0 : 0 ≤ r) (h1 : r < z.length) (hz : z.length ≤ 1000000) (q : ∀ c, c ∈ sg z → Q (.str (s1 c)) H) : uIx K (.str z) (.int r) H Q := by
  have hl := sg_len z
  have hr : r.toNat < (sg z).length := by omega
  exact g_ixS (len_le hz) (at_lit r.toNat (by omega) (List.getElem?_eq_getElem hr)) (q _ (List.getElem_mem hr))
theorem lo_s1 {c : Nat} (h : c < 128) : Lo (s1 c) := fun x hx => by
  have e : x = c := by simpa using hx
  rw [e]
  exact h
theorem lo_upper : ∀ (cs : List Nat), (∀ c ∈ cs, c < 128) → Lo (Txt.upper ⟨cs.toArray⟩) ∧ (Txt.upper ⟨cs.toArray⟩).length = cs.length
  | [], _ => by
    have e : Txt.upper ⟨#[]⟩ = "" := by decide +kernel
    rw [show (⟨([] : List Nat).toArray⟩ : Str) = ⟨#[]⟩ from rfl, e]
    exact ⟨(fun x hx => by cases hx), by decide⟩
  | c :: cs, h => by
    obtain ⟨h1, h2⟩ := lo_upper cs fun x hx => h x (List.mem_cons_of_mem _ hx)
    have hc := h c List.mem_cons_self
    have e : (⟨(c :: cs).toArray⟩ : Str) = s1 c ++ ⟨cs.toArray⟩ := by
      refine PySem.Str.ext' ?_
      rw [PySem.Str.cps_append]
      simp [s1]
    rw [e, PySem.W.KOpn.upper_app, PySem.W.KOpn.upper_one hc]
    refine ⟨Lo.app (fun x hx => ?_) h1, by rw [strLen_append, h2]; show 1 + _ = _; rw [List.length_cons]; omega⟩
    have hx' : x = if 97 ≤ c ∧ c ≤ 122 then c - 32 else c := by simpa using hx
    rw [hx']
    split <;> omega
theorem upper_lo {z : Str} (h : Lo z) : Lo (Txt.upper z) ∧ (Txt.upper z).length = z.length := by
  have e : (⟨(sg z).toArray⟩ : Str) = z := PySem.Str.ext' (by simp)
  have := lo_upper (sg z) h
  rw [e, sg_len] at this
  exact this
theorem lo_str (i : Int) : Lo (toString i : String) := fun c hc => by
  have hc : c ∈ (Str.ofString (toString i)).cps.toList := hc
  rw [PyProof.Rows.signs_ofString] at hc
  obtain ⟨ch, hm, rfl⟩ := List.mem_map.mp hc
  exact PySem.int_ascii i ch hm
/-! ### odd things in place of a part -/
mutual
theorem itD_mono {B B' : Nat} (h : B ≤ B') : ∀ {d : PyData}, itD B d → itD B' d
  | .none, _ => trivial
  | .bool _, _ => trivial
  | .int _, g => Nat.le_trans g h
  | .str _, _ => trivial
  | .list _, g => itDs_mono h g
  | .tuple _, g => itDs_mono h g
  | .dict _, g => itKv_mono h g
theorem itDs_mono {B B' : Nat} (h : B ≤ B') : ∀ {ds : List PyData}, itDs B ds → itDs B' ds
  | [], _ => trivial
  | _ :: _, g => ⟨itD_mono h g.1, itDs_mono h g.2⟩
theorem itKv_mono {B B' : Nat} (h : B ≤ B') : ∀ {kvs : List (PyData × PyData)}, itKv B kvs → itKv B' kvs
  | [], _ => trivial
  | (_, _) :: _, g => ⟨itD_mono h g.1, itD_mono h g.2.1, itKv_mono h g.2.2⟩
end
structure OddOk (B : Nat) (d e : PyData) : Prop where
  lo : loD e
  it : itD (B + 1) e
  c : cost e ≤ 2 * cost d + 20000
  t : tdep e ≤ tdep d + 1
  d : e.depth ≤ d.depth + 1
def spSigns6 : Sp := fun vs H Q _ => ∃ _u : Unit, vs = [] ∧ ∀ z : Str, 1 ≤ z.length → z.length ≤ 100 → Lo z → Q (.str z) H
theorem lo_of {z : Str} (h : (sg z).all (fun c => decide (c < 128)) = true) : Lo z := fun c hc => of_decide_eq_true (List.all_eq_true.mp h c hc)
theorem rd_signs6 (K : PySem.W.Frag) : ∀ vs H Q E, spSigns6 vs H Q E → run (t__law_signs K) (L2.start N__law_signs vs) H Q := by
  rintro _ H Q _ ⟨_, rfl, q⟩
  show run (t__law_signs K) [none] H Q
  unfold t__law_signs
  walk_at "sx"
  exact ⟨by decide +kernel, q _ (by decide +kernel) (by decide +kernel) (lo_of (by decide +kernel))⟩
/-- one of eight -/
theorem g_one8 {K : PySem.W.Frag} {H : Hp} {p l : Addr} {S : List Addr} {xs : List V} {es : List PyData} {B : Nat} {d : PyData} {k : Nat} {Q : VK} (h : H l = some (.lst xs)) (lp : l ≠ p) (hS : p ∈ S) (hx : DaL S H xs es) (l8 : es.length = 8) (ok : ∀ e ∈ es, OddOk B d e) (hp : Pen H p (k + 1))
    (q : ∀ y H' e, Keep [p] H H' → Pen H' p k → Da S H' y e → OddOk B d e → Q y H') {E : XK} : spDraw [.ref p, .int 8] H (fun x H1 => uIx K (.ref l) x H1 Q) E := by
  refine ⟨p, 8, k, rfl, by decide, by decide, hp, fun v H1 v0 v1 k1 p1 => ?_⟩
  obtain ⟨e, he⟩ : ∃ e, es[v.toNat]? = some e := ⟨_, List.getElem?_eq_getElem (by omega)⟩
  obtain ⟨y, hy, hda⟩ := hx.get he
  exact g_ixL (k1 _ _ (nin1 lp) h) (at_lit v.toNat (by omega) hy) (q y H1 e k1 p1 (hda.keep (KD.ofP hS hp k1)) (ok e (List.mem_of_getElem? he)))
theorem odd_non {B : Nat} {d : PyData} : OddOk B d .none := ⟨trivial, trivial, by simp [cost], by simp [tdep], by simp [PyData.depth]⟩
theorem odd_bl {B : Nat} {d : PyData} (b : Bool) : OddOk B d (.bool b) := ⟨trivial, trivial, by simp [cost], by simp [tdep], by simp [PyData.depth]⟩
theorem odd_int {B : Nat} {d : PyData} {i : Int} (h : i.natAbs ≤ B + 1) : OddOk B d (.int i) := ⟨trivial, h, by simp [cost], by simp [tdep], by simp [PyData.depth]⟩
theorem odd_str {B : Nat} {d : PyData} {z : Str} (h : Lo z) (l : 10 * z.length + 2 ≤ 2 * cost d + 20000) : OddOk B d (.str z) := ⟨h, trivial, by simp only [cost]; exact l, by simp [tdep], by simp [PyData.depth]⟩
theorem odd_list {B : Nat} {d : PyData} {es : List PyData} (h : ∀ e ∈ es, loD e ∧ itD B e) (hc : costs es ≤ 2 * cost d + 19990) (hd : PyData.depthAll es ≤ d.depth) : OddOk B d (.list es) := ⟨loDs_of fun e he => (h e he).1, itDs_of fun e he => itD_mono (Nat.le_succ B) (h e he).2, by simp only [cost]; omega, by simp [tdep], by simp only [PyData.depth]; omega⟩
theorem odd_tup {B : Nat} {d : PyData} {es : List PyData} (h : ∀ e ∈ es, loD e ∧ itD B e) (hc : costs es ≤ 2 * cost d + 19990) (hd : PyData.depthAll es ≤ d.depth) (ht : tdeps es ≤ tdep d) : OddOk B d (.tuple es) := ⟨loDs_of fun e he => (h e he).1, itDs_of fun e he => itD_mono (Nat.le_succ B) (h e he).2, by simp only [cost]; omega, by simp only [tdep]; omega, by simp only [PyData.depth]; omega⟩
structure TxAt (H : Hp) (p tx : Addr) (ts : List Str) : Prop where
  h : H tx = some (.lst (ts.map V.str))
  n : tx ≠ p
  ne : 1 ≤ ts.length
  l : ts.length ≤ 100
  t : ∀ z ∈ ts, Lo z ∧ z.length ≤ 20
def spOddText : Sp := fun vs H Q _ => ∃ (p tx f : Addr) (fx : List V) (z : Str) (ts : List Str) (B k : Nat), vs = [.ref p, .str z, .ref tx] ∧ Pen H p (k + 4) ∧ TxAt H p tx ts ∧ Lo z ∧ z.length ≤ 100000 ∧ H f = some (.lst fx) ∧ f ≠ p ∧ ∀ y H' e, Keep [p] H H' → Pen H' p k → Da [p, f] H' y e → OddOk B (.str z) e → Q y H'
theorem str_len2 (a b : Str) : (a ++ b).length = a.length + b.length := strLen_append a b
theorem rd_oddText (K : PySem.W.Frag) : ∀ vs H Q E, spOddText vs H Q E → run (t__law_odd_text K spSigns6 spDraw) (L2.start N__law_odd_text vs) H Q := by
  rintro _ H Q _ ⟨p, tx, f, fx, z, ts, B, k, rfl, hp, ht, lo, lz, hf, fp, q⟩
  show run (t__law_odd_text K spSigns6 spDraw) [some (.ref p), some (.str z), some (.ref tx), none, none, none, none, none, none, none] H Q
  unfold t__law_odd_text
  walk_at "sx"
  refine ⟨(), rfl, fun sgn s1' s100 slo => g_lenS (len_le (by omega)) ?_⟩
  walk_at "sx"
  refine ⟨p, _, k + 3, rfl, by omega, by omega, hp, fun at0 H1 a0 a1 k1 p1 => g_lenS (len_le (by omega)) ⟨p, _, k + 2, rfl, by omega, by omega, p1, fun c0 H2 c1 c2 k2 p2 => g_pick c1 (by omega) (by omega) fun c hc => ?_⟩⟩
  walk_at "sx"
  refine g_slS (len_le (by omega)) ?_
  walk_at "sx"
  refine g_slS (len_le (by omega)) ?_
  walk_at "sx"
  have la := cut_len z none (some at0)
  have lr := cut_len z (some (at0 + 1)) none
  have lt := cut_len z (some at0) none
  refine ⟨len_le (by show _ + 1 ≤ 1000000; omega), ?_⟩
  refine g_slS (len_le (by omega)) ?_
  refine e_addS.mpr ⟨len_le (by rw [str_len2, s1_len]; omega), ?_⟩
  refine ⟨len_le (by rw [str_len2, s1_len]; omega), len_le (by omega), by walk_at "sz", fun l1 H3 n3 k3 e3 => ⟨⟨_, rfl⟩, ⟨z, rfl, rfl, by omega, ?_⟩⟩⟩
  have tx2 := k2 _ _ (nin1 ht.n) (k1 _ _ (nin1 ht.n) ht.h)
  have tx3 := k3 _ _ nin0 tx2
  have hl := ht.l
  have hne := ht.ne
  refine g_lenL tx3 ⟨p, _, k + 1, rfl, by rw [List.length_map]; omega, by rw [List.length_map]; omega, p2.keep k3, fun u0 H4 u1 u2 k4 p4 => ?_⟩
  rw [List.length_map] at u2
  obtain ⟨w, hw⟩ : ∃ w, ts[u0.toNat]? = some w := ⟨_, List.getElem?_eq_getElem (by omega)⟩
  obtain ⟨wlo, wl⟩ := ht.t w (List.mem_of_getElem? hw)
  refine g_ixL (k4 _ _ (nin1 ht.n) tx3) (at_lit u0.toNat (by omega) (by rw [List.getElem?_map, hw]; rfl)) ⟨by walk_at "sz", fun l2 H5 n5 k5 e5 => ?_⟩
  have l1p := pen_ne p2 n3
  refine g_addL (k5 _ _ nin0 (k4 _ _ (nin1 l1p) e3)) e5 (by walk_at "sz") fun l3 H6 n6 k6 e6 => ⟨by walk_at "sz", fun m1 H7 n7 k7 e7 => ⟨by walk_at "sz", fun m2 H8 n8 k8 t8 => ⟨.inr z, rfl, fun m3 H9 n9 k9 e9 => ⟨by walk_at "sz", fun l4 H10 n10 k10 e10 => ?_⟩⟩⟩⟩
  have p5 := p4.keep k5
  have p6 := p5.keep k6
  have p7 := p6.keep k7
  have p8 := p7.keep k8
  have p9 := p8.keep k9
  have p10 := p9.keep k10
  refine g_addL (k10 _ _ nin0 (k9 _ _ nin0 (k8 _ _ nin0 (k7 _ _ nin0 e6)))) e10 (by walk_at "sz") fun l5 H11 n11 k11 e11 => ?_
  have m1p := pen_ne p6 n7
  have l5p := pen_ne p10 n11
  have f6 : H6 f = some (.lst fx) := (k4.trans (k5.trans k6).all) _ _ (nin1 fp) (k3 _ _ nin0 (k2 _ _ (nin1 fp) (k1 _ _ (nin1 fp) hf)))
  have m1f := ne_of_none f6 n7
  have h7 : Da [p, f] H11 (.ref m1) (.list [.str z]) := .lst (k11 _ _ nin0 (k10 _ _ nin0 (k9 _ _ nin0 (k8 _ _ nin0 e7)))) (nin2 m1p m1f.symm) (.cons (.str z) .nil)
  have h8 : Da [p, f] H11 (.ref m2) (.tuple [.str z]) := .tup (((t8.keep k9 nin0).keep k10 nin0).keep k11 nin0) (.cons (.str z) .nil)
  have h9 : Da [p, f] H11 (.ref m3) (.dict [(.str z, .str z)]) := .dic (kvs := [(.inr z, .str z)]) (k11 _ _ nin0 (k10 _ _ nin0 e9)) rfl (.cons (.str z) .nil)
  have cs : ∀ x : Str, cost (.str x) = 10 * x.length + 2 := fun x => by simp only [cost]
  have slc : Lo (s1 c) := slo.one hc
  obtain ⟨ul, un⟩ := upper_lo lo
  have lp1 : ∀ {e}, e ∈ [PyData.str z] → loD e ∧ itD B e := fun h => by rw [List.mem_singleton.mp h]; exact ⟨lo, trivial⟩
  have kk : Keep [p] H H11 := k1.trans (k2.trans (k3.all.trans (k4.trans ((k5.trans (k6.trans (k7.trans (k8.trans (k9.trans (k10.trans k11)))))).all))))
  refine g_one8 (B := B) (d := .str z) e11 l5p (by simp) (.cons (.str _) (.cons (.str _) (.cons (.str _) (.cons (.str _) (.cons (.str _) (.cons h7 (.cons h8 (.cons h9 .nil)))))))) rfl ?_ (p10.keep k11) fun y H' e kq pq hy ho => q y H' e (kk.trans kq) pq hy ho
  intro e he
  simp only [List.mem_cons, List.not_mem_nil, or_false] at he
  rcases he with rfl | rfl | rfl | rfl | rfl | rfl | rfl | rfl
  · exact odd_str ((lo.cut.app slc).app lo.cut) (by rw [cs, str_len2, str_len2, s1_len]; omega)
  · exact odd_str ((lo.cut.app slc).app lo.cut) (by rw [cs, str_len2, str_len2, s1_len]; omega)
  · exact odd_str (lo.cut.app lo.cut) (by rw [cs, str_len2]; omega)
  · exact odd_str ul (by rw [cs, un]; omega)
  · exact odd_str wlo (by rw [cs]; omega)
  · exact odd_list (fun e h => lp1 h) (by simp only [costs, cost]; omega) (by simp [PyData.depthAll, PyData.depth])
  · exact odd_tup (fun e h => lp1 h) (by simp only [costs, cost]; omega) (by simp [PyData.depthAll, PyData.depth]) (by simp [tdeps, tdep])
  · exact ⟨⟨lo, lo, trivial⟩, ⟨trivial, trivial, trivial⟩, by simp only [cost, costKv]; omega, by simp [tdep], by simp [PyData.depth, PyData.depthKv]⟩


/-! ### odd rows, odd things -/
theorem costs_app : ∀ (a b : List PyData), costs (a ++ b) = costs a + costs b
  | [], b => by simp [costs]
  | x :: a, b => by
    simp only [List.cons_append, costs, costs_app a b]
    omega
theorem costs_take (n : Nat) (a : List PyData) : costs (a.take n) + costs (a.drop n) = costs a := by
  rw [← costs_app, List.take_append_drop]
theorem costs_rev : ∀ a : List PyData, costs a.reverse = costs a
  | [] => rfl
  | x :: a => by
    rw [List.reverse_cons, costs_app, costs_rev a]
    simp only [costs]
    omega
theorem depth_mem : ∀ {ds : List PyData} {d : PyData}, d ∈ ds → d.depth ≤ PyData.depthAll ds
  | d' :: ds, d, h => by
    simp only [PyData.depthAll]
    rcases List.mem_cons.mp h with rfl | h
    · omega
    · have := depth_mem h
      omega
theorem depthAll_le {m : Nat} : ∀ {es : List PyData}, (∀ e ∈ es, e.depth ≤ m) → PyData.depthAll es ≤ m
  | [], _ => by simp [PyData.depthAll]
  | e :: es, h => by
    have h1 := h e (by simp)
    have h2 := depthAll_le (es := es) fun x hx => h x (by simp [hx])
    simp only [PyData.depthAll]
    omega
theorem tdeps_le {m : Nat} : ∀ {es : List PyData}, (∀ e ∈ es, tdep e ≤ m) → tdeps es ≤ m
  | [], _ => by simp [tdeps]
  | e :: es, h => by
    have h1 := h e (by simp)
    have h2 := tdeps_le (es := es) fun x hx => h x (by simp [hx])
    simp only [tdeps]
    omega
theorem odd_row {B : Nat} {ds es : List PyData} (lo : loDs ds) (it : itDs B ds) (h : ∀ e ∈ es, e ∈ ds ∨ e = .none) (c : costs es ≤ 2 * costs ds + 19990) : OddOk B (.tuple ds) (.tuple es) ∧ OddOk B (.tuple ds) (.list es) := by
  have h1 : ∀ e ∈ es, loD e ∧ itD B e := fun e he => (h e he).elim (fun h => ⟨loDs_mem lo e h, itDs_mem it e h⟩) fun h => by rw [h]; exact ⟨trivial, trivial⟩
  have h2 : PyData.depthAll es ≤ PyData.depthAll ds := depthAll_le fun e he => (h e he).elim depth_mem fun h => by rw [h]; simp [PyData.depth]
  have h3 : tdeps es ≤ tdeps ds := tdeps_le fun e he => (h e he).elim tdeps_mem fun h => by rw [h]; simp [tdep]
  exact ⟨odd_tup h1 (by simp only [cost]; omega) (by simp only [PyData.depth]; omega) (by simp only [tdep]; omega), odd_list h1 (by simp only [cost]; omega) (by simp only [PyData.depth]; omega)⟩
theorem DaL.rev {p : List Addr} {H : Hp} : ∀ {vs : List V} {ds : List PyData}, DaL p H vs ds → DaL p H vs.reverse ds.reverse
  | _, _, .nil => .nil
  | _, _, .cons h r => by
    rw [List.reverse_cons, List.reverse_cons]
    exact r.rev.app (.cons h .nil)
def spOddRow : Sp := fun vs H Q _ => ∃ (p a f : Addr) (fx : List V) (xs : List V) (ds : List PyData) (B k : Nat), vs = [.ref p, .ref a] ∧ Pen H p (k + 2) ∧ Tup H a xs ∧ DaL [p, f] H xs ds ∧ H f = some (.lst fx) ∧ f ≠ p ∧ loDs ds ∧ itDs B ds ∧ costs ds ≤ 400000 ∧ ∀ y H' e, Keep [p] H H' → Pen H' p k → Da [p, f] H' y e → OddOk B (.tuple ds) e → Q y H'
theorem rd_oddRow (K : PySem.W.Frag) : ∀ vs H Q E, spOddRow vs H Q E → run (t__law_odd_row K spDraw) (L2.start N__law_odd_row vs) H Q := by
  rintro _ H Q _ ⟨p, a, f, fx, xs, ds, B, k, rfl, hp, ht, hd, hf, fp, lo, it, hc, q⟩
  show run (t__law_odd_row K spDraw) [some (.ref p), some (.ref a), none, none, none, none] H Q
  have ld := hd.len
  have ll := len_costs ds
  unfold t__law_odd_row
  walk_at "sx"
  refine g_lenT ht ?_
  walk_at "sx"
  refine ⟨p, _, k + 1, rfl, by omega, by omega, hp, fun v H1 v0 v1 k1 p1 => ?_⟩
  obtain ⟨n, rfl⟩ : ∃ n : Nat, v = n := ⟨v.toNat, by omega⟩
  have kd1 : KD [p, f] H H1 := KD.ofP (by simp) hp k1
  have ht1 := kd1.t _ _ ht
  have hd1 := hd.keep kd1
  refine ⟨_, rfl, g_slT ht1 fun a1 H2 k2 t2 => ?_⟩
  rw [cut_upto] at t2
  refine ⟨_, rfl, g_slT (ht1.keep k2 nin0) fun a2 H3 k3 t3 => ?_⟩
  rw [cut_from] at t3
  walk_at "sx"
  have ht3 := (ht1.keep k2 nin0).keep k3 nin0
  refine g_listT ht3 fun l1 H4 n4 k4 e4 => g_slT (t3.keep k4 nin0) fun a3 H5 k5 t5 => ?_
  have t35 := (t3.keep k4 nin0).keep k5 nin0
  have t25 := (((t2.keep k3 nin0).keep k4 nin0).keep k5 nin0)
  have c5 : cutV (xs.drop n) (some 1) none = (xs.drop n).drop 1 := cut_from (xs := xs.drop n) 1
  rw [c5] at t5
  have lx : xs.length ≤ 400000 := by omega
  refine g_addT t25 t5 (len_le (by simp only [List.length_take, List.length_drop]; omega)) fun a4 H6 k6 t6 => g_slT (t35.keep k6 nin0) fun a5 H7 k7 t7 => ?_
  have c7 : cutV (xs.drop n) none (some 1) = (xs.drop n).take 1 := cut_upto (xs := xs.drop n) 1
  rw [c7] at t7
  have k57 := k6.trans k7
  refine g_addT (t25.keep k57 nin0) t7 (len_le (by simp only [List.length_take, List.length_drop]; omega)) fun a6 H8 k8 t8 => g_addT t8 (t35.keep (k57.trans k8) nin0) (len_le (by simp only [List.length_append, List.length_take, List.length_drop]; omega)) fun a7 H9 k9 t9 => ⟨by walk_at "sz", fun l2 H10 n10 k10 e10 => ?_⟩
  have k310 : Keep [] H3 H10 := k4.trans (k5.trans (k57.trans (k8.trans (k9.trans k10))))
  have p10 := ((p1.keep k2).keep k3).keep k310
  refine g_revT.mpr ?_
  walk_at "sx"
  have ht10 := ht3.keep k310 nin0
  refine ⟨a, xs, rfl, ht10, fun r1 H11 n11 k11 t11 => ⟨by walk_at "sz", fun r2 H12 n12 k12 t12 => ⟨by walk_at "sz", fun r3 H13 n13 k13 t13 => ⟨by walk_at "sz", fun r4 H14 n14 k14 t14 => ?_⟩⟩⟩⟩
  have k1014 : Keep [] H10 H14 := k11.trans (k12.trans (k13.trans k14))
  refine g_addT (ht10.keep k1014 nin0) t14 (len_le (by show xs.length + 1 ≤ 1000000; omega)) fun r5 H15 k15 t15 => g_slT ((ht10.keep k1014 nin0).keep k15 nin0) fun r6 H16 k16 t16 => ⟨by walk_at "sz", fun l3 H17 n17 k17 e17 => ?_⟩
  have c16 : cutV xs (some 1) none = xs.drop 1 := cut_from (xs := xs) 1
  rw [c16] at t16
  have k1017 : Keep [] H10 H17 := k1014.trans (k15.trans (k16.trans k17))
  refine g_addL (k1017 _ _ nin0 e10) e17 (by walk_at "sz") fun l5 H18 n18 k18 e18 => ?_
  have k418 : Keep [] H4 H18 := k5.trans (k57.trans (k8.trans (k9.trans (k10.trans (k1017.trans k18)))))
  have l1p := pen_ne ((p1.keep k2).keep k3) n4
  have l5p := pen_ne (p10.keep k1017) n18
  have hd4 := hd1.keep (KD.of0 (p := [p, f]) (k2.trans (k3.trans k4)))
  have hd18 := hd4.keep (KD.of0 (p := [p, f]) k418)
  have f1 : Da [p, f] H18 (.ref l1) (.list ds) := .lst (k418 _ _ nin0 e4) (nin2 l1p (ne_of_none (k3 _ _ nin0 (k2 _ _ nin0 (k1 _ _ (nin1 fp) hf))) n4).symm) hd18
  have k618 : Keep [] H6 H18 := k7.trans (k8.trans (k9.trans (k10.trans (k1017.trans k18))))
  have k918 : Keep [] H9 H18 := k10.trans (k1017.trans k18)
  have f2 : Da [p, f] H18 (.ref a4) (.tuple (ds.take n ++ (ds.drop n).drop 1)) := .tup (t6.keep k618 nin0) ((hd18.take n).app ((hd18.drop n).drop 1))
  have f3 : Da [p, f] H18 (.ref a7) (.tuple (ds.take n ++ (ds.drop n).take 1 ++ ds.drop n)) := .tup (t9.keep k918 nin0) (((hd18.take n).app ((hd18.drop n).take 1)).app (hd18.drop n))
  have f4 : Da [p, f] H18 (.ref r1) (.tuple ds.reverse) := .tup (t11.keep (k12.trans (k13.trans (k14.trans (k15.trans (k16.trans (k17.trans k18)))))) nin0) hd18.rev
  have f5 : Da [p, f] H18 (.ref r2) (.tuple []) := .tup (t12.keep (k13.trans (k14.trans (k15.trans (k16.trans (k17.trans k18))))) nin0) .nil
  have fa : Da [p, f] H18 (.ref a) (.tuple ds) := .tup (ht10.keep (k1017.trans k18) nin0) hd18
  have f6 : Da [p, f] H18 (.ref r3) (.tuple [.tuple ds]) := .tup (t13.keep (k14.trans (k15.trans (k16.trans (k17.trans k18)))) nin0) (.cons fa .nil)
  have f7 : Da [p, f] H18 (.ref r5) (.tuple (ds ++ [.none])) := .tup (t15.keep (k16.trans (k17.trans k18)) nin0) (hd18.app (.cons .non .nil))
  have f8 : Da [p, f] H18 (.ref r6) (.tuple (ds.drop 1)) := .tup (t16.keep (k17.trans k18) nin0) (hd18.drop 1)
  have c1 := costs_take n ds
  have c2 := costs_take 1 (ds.drop n)
  have c3 := costs_take 1 ds
  have cn : costs [PyData.none] = 6 := by simp [costs, cost]
  have kk : Keep [p] H H18 := k1.trans (k2.trans (k3.trans (k4.trans k418))).all
  refine g_one8 (B := B) (d := .tuple ds) e18 l5p (by simp) (.cons f1 (.cons f2 (.cons f3 (.cons f4 (.cons f5 (.cons f6 (.cons f7 (.cons f8 .nil)))))))) rfl ?_ ((p10.keep k1017).keep k18) fun y H' e kq pq hy ho => q y H' e (kk.trans kq) pq hy ho
  have mt : ∀ {e}, e ∈ ds.take n → e ∈ ds := List.mem_of_mem_take
  have md : ∀ {e}, e ∈ ds.drop n → e ∈ ds := List.mem_of_mem_drop
  intro e he
  simp only [List.mem_cons, List.not_mem_nil, or_false] at he
  rcases he with rfl | rfl | rfl | rfl | rfl | rfl | rfl | rfl
  · exact (odd_row lo it (fun e he => .inl he) (by omega)).2
  · exact (odd_row lo it (fun e he => .inl ((List.mem_append.mp he).elim mt fun h => md (List.mem_of_mem_drop h))) (by rw [costs_app]; omega)).1
  · exact (odd_row lo it (fun e he => .inl ((List.mem_append.mp he).elim (fun h => (List.mem_append.mp h).elim mt fun h => md (List.mem_of_mem_take h)) md)) (by rw [costs_app, costs_app]; omega)).1
  · exact (odd_row lo it (fun e he => .inl (List.mem_reverse.mp he)) (by rw [costs_rev]; omega)).1
  · exact (odd_row lo it (fun e he => (List.not_mem_nil he).elim) (by simp [costs])).1
  · exact odd_tup (fun e he => by rw [List.mem_singleton.mp he]; exact ⟨lo, it⟩) (by simp only [costs, cost]; omega) (by simp only [PyData.depthAll]; omega) (by simp only [tdeps]; omega)
  · exact (odd_row lo it (fun e he => (List.mem_append.mp he).imp id List.mem_singleton.mp) (by rw [costs_app, cn]; omega)).1
  · exact (odd_row lo it (fun e he => .inl (List.mem_of_mem_drop he)) (by omega)).1
theorem pow59 : CPow 10 59 := ⟨by decide, by decide, by decide⟩
theorem ten59 : ((10 : Int) ^ (59 : Int).toNat) = 10 ^ 59 := rfl
def spOdd : Sp := fun vs H Q _ => ∃ (p tx f : Addr) (fx : List V) (v : V) (d : PyData) (ts : List Str) (B k : Nat), vs = [.ref p, v, .ref tx] ∧ Pen H p (k + 10) ∧ TxAt H p tx ts ∧ Da [p, f] H v d ∧ H f = some (.lst fx) ∧ f ≠ p ∧ loD d ∧ itD B d ∧ cost d ≤ 400000 ∧ 10 ^ 59 ≤ B ∧ B ≤ 10 ^ 59 + 10 ∧ ∀ y H' e, Keep [p] H H' → Pen H' p k → Da [p, f] H' y e → OddOk B d e → Q y H'
theorem rd_odd (K : PySem.W.Frag) : ∀ vs H Q E, spOdd vs H Q E → run (t__law_odd K spDraw spOddText spOddRow) (L2.start N__law_odd vs) H Q := by
  rintro _ H Q _ ⟨p, tx, f, fx, v, d, ts, B, k, rfl, hp, ht, hd, hf, fp, lo, it, hc, hB, hB', q⟩
  show run (t__law_odd K spDraw spOddText spOddRow) [some (.ref p), some v, some (.ref tx), none, none] H Q
  unfold t__law_odd
  walk_at "sx"
  refine ⟨p, 4, k + 9, rfl, by decide, by decide, hp, fun u H1 u0 u1 k1 p1 => g_eq rfl ⟨_, rfl, ?_⟩⟩
  have kd1 : KD [p, f] H H1 := KD.ofP (by simp) hp k1
  have hd1 := hd.keep kd1
  by_cases hu : (V.int u = V.int 0)
  · rw [if_pos (decide_eq_true hu)]
    refine ⟨pow59, pow59, by walk_at "sz", fun a1 H2 n2 k2 e2 => fun a2 H3 n3 k3 e3 => ⟨by walk_at "sz", fun l H4 n4 k4 e4 => ?_⟩⟩
    have a1p := pen_ne p1 n2
    have lp := pen_ne ((p1.keep k2).keep k3) n4
    have f1 : Da [p, f] H4 (.ref a1) (.list []) := .lst (k4 _ _ nin0 (k3 _ _ nin0 e2)) (nin2 a1p (ne_of_none (k1 _ _ (nin1 fp) hf) n2).symm) .nil
    have f2 : Da [p, f] H4 (.ref a2) (.dict []) := .dic (kvs := []) (k4 _ _ nin0 e3) rfl .nil
    refine g_one8 (B := B) (d := d) e4 lp (by simp) (.cons .non (.cons (.bl true) (.cons (.bl false) (.cons (.int _) (.cons (.int _) (.cons f1 (.cons f2 (.cons (.str _) .nil)))))))) rfl ?_ ((((p1.keep k2).keep k3).keep k4).less (by omega)) fun y H' e kq pq hy ho => q y H' e ((k1.trans (k2.trans (k3.trans k4)).all).trans kq) pq hy ho
    have n59 : ((10 : Int) ^ 59).natAbs = 10 ^ 59 := by decide +kernel
    have m59 : ((1 : Int) - 10 ^ 59).natAbs ≤ 10 ^ 59 := by decide +kernel
    intro e he
    simp only [List.mem_cons, List.not_mem_nil, or_false] at he
    rcases he with rfl | rfl | rfl | rfl | rfl | rfl | rfl | rfl
    · exact odd_non
    · exact odd_bl _
    · exact odd_bl _
    · exact odd_int (by rw [ten59, n59]; omega)
    · exact odd_int (by rw [ten59]; exact Nat.le_trans m59 (by omega))
    · exact ⟨trivial, trivial, by simp [cost, costs], by simp [tdep], by simp [PyData.depth, PyData.depthAll]⟩
    · exact ⟨trivial, trivial, by simp [cost, costKv], by simp [tdep], by simp [PyData.depth, PyData.depthKv]⟩
    · exact odd_str (lo_of (by decide +kernel)) (by rw [show (Str.ofString "-").length = 1 by decide +kernel]; omega)
  · rw [if_neg (by simpa using hu)]
    unfold t__law_odd_r3
    walk_at "sx"
    refine g_isS hd1 ⟨_, rfl, ?_⟩
    have num : ∀ (x : V) (i : Int), numOfV x = some i → i.natAbs ≤ B → ∀ H2, Keep [p] H H2 → Pen H2 p (k + 9) → rN0 (fun i j => i + j) x (.int 1) H2 fun x1 H3 => rN0 (fun i j => i - j) x (.int 1) H3 fun x2 H4 => uStrN [x] H4 fun x3 H5 => uEq K false x (.int 1) H5 fun x4 H6 => [x1, x2, V.int 0, V.int 61, V.int 121, V.non, x3, x4].length ≤ sizeLine ∧ Mk H6 (.lst [x1, x2, V.int 0, V.int 61, V.int 121, V.non, x3, x4]) fun l H7 => spDraw [.ref p, .int 8] H7 (fun y H8 => uIx K l y H8 Q) E0 := by
      intro x i hx hi H2 k2 p2
      refine ⟨i, 1, hx, rfl, i, 1, hx, rfl, x, i, rfl, hx, big_log (Nat.le_trans hB' (by decide +kernel)) hi, ?_⟩
      have eqn : ∀ {R : VK}, (∀ b, R (.bl b) H2) → uEq K false x (.int 1) H2 R := fun {R} r => by
        cases x with
        | int k => exact g_eq rfl (r _)
        | bl b => exact .inr ⟨_, _, .bl b, .int 1, by cases b <;> decide, by decide, r _⟩
        | _ => cases hx
      refine eqn fun b => ⟨by walk_at "sz", fun l H3 n3 k3 e3 => ?_⟩
      have lp := pen_ne p2 n3
      have ls : (numS x).length ≤ 1921 ∧ Lo (numS x) := by
        cases x with
        | int k =>
          obtain rfl : k = i := Option.some.inj hx
          exact ⟨shown_le (d := .int k) (big_log (Nat.le_trans hB' (by decide +kernel)) hi), lo_str k⟩
        | bl b => cases b <;> exact ⟨by decide +kernel, lo_of (by decide +kernel)⟩
        | _ => cases hx
      refine g_one8 (B := B) (d := d) e3 lp (by simp) (.cons (.int _) (.cons (.int _) (.cons (.int _) (.cons (.int _) (.cons (.int _) (.cons .non (.cons (.str _) (.cons (.bl _) .nil)))))))) rfl ?_ ((p2.keep k3).less (by omega)) fun y H' e kq pq hy ho => q y H' e ((k2.trans k3.all).trans kq) pq hy ho
      intro e he
      simp only [List.mem_cons, List.not_mem_nil, or_false] at he
      rcases he with rfl | rfl | rfl | rfl | rfl | rfl | rfl | rfl
      · exact odd_int (by omega)
      · exact odd_int (by omega)
      · exact odd_int (Nat.zero_le _)
      · exact odd_int (by show 61 ≤ B + 1; have : (61 : Nat) ≤ 10 ^ 59 := by decide +kernel
                          omega)
      · exact odd_int (by show 121 ≤ B + 1; have : (121 : Nat) ≤ 10 ^ 59 := by decide +kernel
                          omega)
      · exact odd_non
      · exact odd_str ls.2 (by omega)
      · exact odd_bl _
    have other : isSP d = false → isTP d = false → t__law_odd_r1 K spDraw spOddText spOddRow { nx := fun x H' => Q V.non H', rt := Q } [some (.ref p), some v, some (.ref tx), none, none] H1 := fun e1 e2 => by
      unfold t__law_odd_r1
      walk_at "sx"
      refine ⟨by walk_at "sz", fun l H2 n2 k2 e2' => g_isI (hd1.keep (KD.of0 k2)) (e_intB.mpr ?_)⟩
      have kk := k1.trans k2.all
      have p2 := p1.keep k2
      cases hd1 with
      | non =>
        refine g_ixL e2' (at_lit 0 rfl rfl) ?_
        exact (num (.int 30) 30 rfl (by show 30 ≤ B; have : (30 : Nat) ≤ 10 ^ 59 := (by decide +kernel); omega) H2 kk p2)
      | bl b => exact g_ixL e2' (at_lit 1 rfl rfl) (num (.bl b) _ rfl (by have : (1 : Nat) ≤ 10 ^ 59 := (by decide +kernel); cases b <;> simp <;> omega) H2 kk p2)
      | int i => exact g_ixL e2' (at_lit 1 rfl rfl) (num (.int i) i rfl it H2 kk p2)
      | lst _ _ _ => exact g_ixL e2' (at_lit 0 rfl rfl) (num (.int 30) 30 rfl (by show 30 ≤ B; have : (30 : Nat) ≤ 10 ^ 59 := (by decide +kernel); omega) H2 kk p2)
      | dic _ _ _ => exact g_ixL e2' (at_lit 0 rfl rfl) (num (.int 30) 30 rfl (by show 30 ≤ B; have : (30 : Nat) ≤ 10 ^ 59 := (by decide +kernel); omega) H2 kk p2)
      | str _ => cases e1
      | tup _ _ => cases e2
    have notS : isSP d = false → (if isSP d = true then spOddText [.ref p, v, .ref tx] H1 Q E0 else t__law_odd_r2 K spDraw spOddText spOddRow { nx := fun x H' => Q V.non H', rt := Q } [some (.ref p), some v, some (.ref tx), none, none] H1) := fun e1 => by
      rw [if_neg (by rw [e1]; decide)]
      unfold t__law_odd_r2
      walk_at "sx"
      refine g_isT hd1 ⟨_, rfl, ?_⟩
      cases hd1 with
      | tup h1 h2 =>
        rename_i a xs ds
        rw [if_pos (show isTP (.tuple ds) = true from rfl)]
        exact ⟨p, a, f, fx, xs, ds, B, k, rfl, p1.less (by omega), h1, h2, k1 _ _ (nin1 fp) hf, fp, lo, it, by simp only [cost] at hc; omega, fun y H' e kq pq hy ho => q y H' e (k1.trans kq) pq hy ho⟩
      | _ => exact other e1 rfl
    cases hd1 with
    | str z =>
      rw [if_pos (show isSP (.str z) = true from rfl)]
      exact ⟨p, tx, f, fx, z, ts, B, k, rfl, p1.less (by omega), ⟨k1 _ _ (nin1 ht.n) ht.h, ht.n, ht.ne, ht.l, ht.t⟩, lo, by simp only [cost] at hc; omega, k1 _ _ (nin1 fp) hf, fp, fun y H' e kq pq hy ho => q y H' e (k1.trans kq) pq hy ho⟩
    | _ => exact notS rfl


/-! ### things spoilt, deep things -/
theorem ei_getX {α β : Type} {R : α → β → Prop} : ∀ {xs : List α} {ys : List β}, EI R xs ys → ∀ {i : Nat} {x : α}, xs[i]? = some x → ∃ y, ys[i]? = some y ∧ R x y
  | _, _, .nil, i, x, h => by simp at h
  | _, _, .cons r e, 0, x, h => ⟨_, rfl, by
    have h' := Option.some.inj h
    rw [← h']; exact r⟩
  | _, _, .cons r e, i + 1, x, h => ei_getX e h
structure SpOk (B : Nat) (d e : PyData) : Prop where
  lo : loD e
  it : itD (B + 1) e
  c : cost e ≤ 3 * cost d + 20000
  t : tdep e ≤ tdep d + 1
  d : e.depth ≤ d.depth + 1
theorem getD_cost : ∀ (s : List Nat) (d : PyData), spotOk s d → cost (getD d s) ≤ cost d
  | [], d, _ => by cases d <;> exact Nat.le_refl _
  | k :: s, .tuple ds, ⟨dk, h1, h2⟩ => by
    have gk : ds.getD k .none = dk := by rw [List.getD_eq_getElem?_getD, h1]; rfl
    have e : getD (.tuple ds) (k :: s) = getD dk s := by rw [← gk]; rfl
    rw [e]
    have i := getD_cost s dk h2
    have c := cost_mem (List.mem_of_getElem? h1)
    have ct : cost (.tuple ds) = costs ds + 3 := rfl
    omega
theorem getD_lo {B : Nat} : ∀ (s : List Nat) (d : PyData), spotOk s d → loD d → itD B d → loD (getD d s) ∧ itD B (getD d s)
  | [], d, _, h1, h2 => by cases d <;> exact ⟨h1, h2⟩
  | k :: s, .tuple ds, ⟨dk, h1, h2⟩, h3, h4 => by
    have gk : ds.getD k .none = dk := by rw [List.getD_eq_getElem?_getD, h1]; rfl
    have e : getD (.tuple ds) (k :: s) = getD dk s := by rw [← gk]; rfl
    rw [e]
    have hm := List.mem_of_getElem? h1
    exact getD_lo s dk h2 (loDs_mem h3 dk hm) (itDs_mem h4 dk hm)
theorem putD_ok {B : Nat} {e : PyData} : ∀ (s : List Nat) (d : PyData), spotOk s d → loD d → itD B d → loD e → itD (B + 1) e → tdep e ≤ tdep (getD d s) + 1 → e.depth ≤ (getD d s).depth + 1 →
    loD (putD d s e) ∧ itD (B + 1) (putD d s e) ∧ cost (putD d s e) ≤ cost d + cost e ∧ tdep (putD d s e) ≤ tdep d + 1 ∧ (putD d s e).depth ≤ d.depth + 1
  | [], d, _, _, _, h3, h4, h5, h6 => by
    have e1 : putD d [] e = e := by cases d <;> rfl
    have e2 : getD d [] = d := by cases d <;> rfl
    rw [e1]
    rw [e2] at h5 h6
    exact ⟨h3, h4, by omega, h5, h6⟩
  | k :: s, .tuple ds, ⟨dk, h1, h2⟩, h3, h4, h5, h6, h7, h8 => by
    have gk : ds.getD k .none = dk := by rw [List.getD_eq_getElem?_getD, h1]; rfl
    have e1 : getD (.tuple ds) (k :: s) = getD dk s := by rw [← gk]; rfl
    have e2 : putD (.tuple ds) (k :: s) e = .tuple (ds.take k ++ [putD dk s e] ++ ds.drop (k + 1)) := by rw [← gk]; rfl
    rw [e1] at h7 h8
    rw [e2]
    have hm := List.mem_of_getElem? h1
    obtain ⟨i1, i2, i3, i4, i5⟩ := putD_ok s dk h2 (loDs_mem h3 dk hm) (itDs_mem h4 dk hm) h5 h6 h7 h8
    generalize putD dk s e = x at i1 i2 i3 i4 i5
    have mem : ∀ y ∈ ds.take k ++ [x] ++ ds.drop (k + 1), y ∈ ds ∨ y = x := fun y hy => by
      rcases List.mem_append.mp hy with hy | hy
      · rcases List.mem_append.mp hy with hy | hy
        · exact .inl (List.mem_of_mem_take hy)
        · exact .inr (List.mem_singleton.mp hy)
      · exact .inl (List.mem_of_mem_drop hy)
    refine ⟨loDs_of fun y hy => (mem y hy).elim (loDs_mem h3 y) fun z => by rw [z]; exact i1, itDs_of fun y hy => (mem y hy).elim (fun z => itD_mono (Nat.le_succ B) (itDs_mem h4 y z)) fun z => by rw [z]; exact i2, ?_, ?_, ?_⟩
    · have sp : costs ds = costs (ds.take k) + (cost dk + 2 + costs (ds.drop (k + 1))) := by
        have hl := (List.getElem?_eq_some_iff.mp h1).1
        have := costs_take k ds
        rw [List.drop_eq_getElem_cons hl, (List.getElem?_eq_some_iff.mp h1).2] at this
        simp only [costs] at this
        omega
      have ct : ∀ xs, cost (.tuple xs) = costs xs + 3 := fun _ => rfl
      rw [ct, ct, costs_app, costs_app, sp]
      simp only [costs]
      omega
    · have td : ∀ xs, tdep (.tuple xs) = tdeps xs + 1 := fun xs => by simp only [tdep]
      rw [td, td]
      have tm := tdeps_mem hm
      have := tdeps_le (m := tdeps ds + 1) (es := ds.take k ++ [x] ++ ds.drop (k + 1)) fun y hy => (mem y hy).elim (fun z => Nat.le_succ_of_le (tdeps_mem z)) fun z => by rw [z]; omega
      omega
    · have td : ∀ xs, (PyData.tuple xs).depth = PyData.depthAll xs + 1 := fun xs => by simp only [PyData.depth]
      rw [td, td]
      have tm := depth_mem hm
      have := depthAll_le (m := PyData.depthAll ds + 1) (es := ds.take k ++ [x] ++ ds.drop (k + 1)) fun y hy => (mem y hy).elim (fun z => Nat.le_succ_of_le (depth_mem z)) fun z => by rw [z]; omega
      omega
def spSpoilt : Sp := fun vs H Q _ => ∃ (p tx f : Addr) (fx : List V) (v : V) (d : PyData) (ts : List Str) (B k : Nat), vs = [.ref p, v, .ref tx] ∧ Pen H p (k + 11) ∧ TxAt H p tx ts ∧ Da [p, f] H v d ∧ H f = some (.lst fx) ∧ f ≠ p ∧ loD d ∧ itD B d ∧ cost d ≤ 400000 ∧ tdep d ≤ 5 ∧ 10 ^ 59 ≤ B ∧ B ≤ 10 ^ 59 + 10 ∧ ∀ y H' e, Keep [p] H H' → Pen H' p k → Da [p, f] H' y e → SpOk B d e → Q y H'
theorem TxAt.keep {H H' : Hp} {p tx : Addr} {ts : List Str} (h : TxAt H p tx ts) (k : Keep [p] H H') : TxAt H' p tx ts := ⟨k _ _ (nin1 h.n) h.h, h.n, h.ne, h.l, h.t⟩
theorem rd_spoilt (K : PySem.W.Frag) : ∀ vs H Q E, spSpoilt vs H Q E → run (t__law_spoilt K (spSpots K 7) spDraw (spPut K 7) spOdd) (L2.start N__law_spoilt vs) H Q := by
  rintro _ H Q _ ⟨p, tx, f, fx, v, d, ts, B, k, rfl, hp, ht, hd, hf, fp, lo, it, hc, htd, hB, hB', q⟩
  show run (t__law_spoilt K (spSpots K 7) spDraw (spPut K 7) spOdd) [some (.ref p), some v, some (.ref tx), none, none, none, none] H Q
  unfold t__law_spoilt
  walk_at "sx"
  refine ⟨[p, f], v, d, rfl, hd, Nat.le_trans htd (by decide), by decide, by omega, fun a H1 us ss k1 e1 hi ho l1 l2 => ?_⟩
  walk_at "sx"
  have lu := hi.length
  have p1 := hp.keep k1
  have ap : a ≠ p := fun z => by
    obtain ⟨d0, c0, n0, e0, _⟩ := p1
    rw [z, e0] at e1
    cases hi with
    | nil => cases e1
    | cons r _ =>
      obtain ⟨q0, rfl, _⟩ := r
      cases e1
  refine g_lenL e1 ⟨p, _, k + 10, rfl, by omega, by omega, p1, fun u H2 u0 u1 k2 p2 => ?_⟩
  obtain ⟨s, hs⟩ : ∃ s, ss[u.toNat]? = some s := ⟨_, List.getElem?_eq_getElem (by omega)⟩
  obtain ⟨w, hw⟩ : ∃ w, us[u.toNat]? = some w := ⟨_, List.getElem?_eq_getElem (by omega)⟩
  have hws : SpAt H1 w s := by
    obtain ⟨s', h1, h2⟩ := ei_getX hi hw
    rw [hs] at h1
    rw [Option.some.inj h1]
    exact h2
  obtain ⟨so, sl⟩ := ho s (List.mem_of_getElem? hs)
  refine g_ixL (k2 _ _ (nin1 ap) e1) (at_lit u.toNat (by omega) hw) ?_
  obtain ⟨sq, rfl, ts1⟩ := hws
  have kd2 : KD [p, f] H1 H2 := KD.ofP (by simp) p1 k2
  have kd02 : KD [p, f] H H2 := (KD.of0 k1).trans kd2
  have ts2 := kd2.t _ _ ts1
  have hd2 := hd.keep kd02
  walk_at "sx"
  refine e_forU.mpr ?_
  walk_at "sx"
  refine g_FT (fun i σ H' => ∃ (v' : V) (d' : PyData) (y6 : Option V), σ = [some (.ref p), some v, some (.ref tx), some (.ref a), some (.ref sq), some v', y6] ∧ H' = H2 ∧ Da [p, f] H2 v' d' ∧ spotOk (s.drop i) d' ∧ getD d' (s.drop i) = getD d s) ts2 ⟨v, d, _, rfl, rfl, hd2, so, rfl⟩ (fun i σ H' _ ⟨_, _, _, _, h, _⟩ => by rw [h]; exact ts2) ?_ ?_
  · rintro i x σ H' hx ⟨v', d', y6, rfl, rfl, hv', so', ge⟩
    unfold spotV at hx
    rw [List.getElem?_map] at hx
    obtain ⟨n, hn, rfl⟩ := Option.map_eq_some_iff.mp hx
    have hil := (List.getElem?_eq_some_iff.mp hn).1
    have dr : s.drop i = n :: s.drop (i + 1) := by rw [List.drop_eq_getElem_cons hil, (List.getElem?_eq_some_iff.mp hn).2]
    rw [dr] at so' ge
    cases hv' with
    | tup h1 h2 =>
      rename_i va ws ds
      obtain ⟨dk, hk, so2⟩ := so'
      obtain ⟨vk, hvk, hdk⟩ := h2.get hk
      have gk : ds.getD n .none = dk := by rw [List.getD_eq_getElem?_getD, hk]; rfl
      walk_at "sx"
      unfold t__law_spoilt_b1
      walk_at "sx"
      refine g_ixT h1 (at_lit n rfl hvk) ?_
      exact ⟨vk, dk, _, rfl, rfl, hdk, so2, by rw [← ge, ← gk]; rfl⟩
    | _ => exact so'.elim
  · rintro σ H' ⟨v', d', y6, rfl, rfl, hv', so', ge⟩
    have ls : (spotV s).length = s.length := by simp [spotV]
    rw [ls, List.drop_length] at so' ge
    have ed : d' = getD d s := by rw [← ge]; cases d' <;> rfl
    subst ed
    have gc := getD_cost s d so
    obtain ⟨gl, gi⟩ := getD_lo s d so lo it
    unfold t__law_spoilt_r1
    walk_at "sx"
    have k02 : Keep [p] H H' := k1.all.trans k2
    refine ⟨p, tx, f, fx, v', _, ts, B, k, rfl, p2, ht.keep k02, hv', k02 _ _ (nin1 fp) hf, fp, gl, gi, by omega, hB, hB', fun y H3 e k3 p3 hy ok => ?_⟩
    have kd3 : KD [p, f] H' H3 := KD.ofP (by simp) p2 k3
    refine ⟨[p, f], v, .ref sq, y, d, e, s, rfl, hd2.keep kd3, ⟨sq, rfl, kd3.t _ _ ts2⟩, so, hy, sl, by omega, fun z H4 k4 hz => ?_⟩
    obtain ⟨r1, r2, r3, r4, r5⟩ := putD_ok s d so lo it ok.lo ok.it ok.t ok.d
    have oc := ok.c
    exact q z H4 _ ((k02.trans k3).trans k4.all) (p3.keep k4) hz ⟨r1, r2, by omega, r4, r5⟩
def deepD : Nat → PyData
  | 0 => .tuple []
  | n + 1 => .tuple [deepD n]
def spDeep : Sp := fun vs H Q _ => ∃ (n : Nat), vs = [.int (n : Nat)] ∧ 1 ≤ n ∧ n ≤ 40 ∧ ∀ y H', Keep [] H H' → (∀ p, Da p H' y (deepD (n - 1))) → Q y H'
theorem rd_deep (K : PySem.W.Frag) : ∀ vs H Q E, spDeep vs H Q E → run (t__law_deep K) (L2.start N__law_deep vs) H Q := by
  rintro _ H Q _ ⟨n, rfl, n1, n40, q⟩
  show run (t__law_deep K) [some (.int (n : Nat)), none, none] H Q
  unfold t__law_deep
  walk_at "sx"
  refine ⟨by walk_at "sz", fun z H1 m1 k1 t1 => ?_⟩
  walk_at "sx"
  refine g_FR1 (by omega) (by omega) ⟨fun i σ H' => ∃ (y : V) (x2 : Option V), σ = [some (.int (n : Nat)), some y, x2] ∧ Keep [] H H' ∧ ∀ p, Da p H' y (deepD i), ⟨_, _, rfl, k1, fun p => .tup t1 .nil⟩, ?_, ?_⟩
  · rintro i σ H2 hi ⟨y, x2, rfl, k2, hy⟩
    walk_at "sx"
    unfold t__law_deep_b1
    walk_at "sx"
    exact ⟨by walk_at "sz", fun t H3 n3 k3 t3 => ⟨_, _, rfl, k2.trans k3, fun p => .tup t3 (.cons ((hy p).keep (KD.of0 k3)) .nil)⟩⟩
  · rintro σ H2 ⟨y, x2, rfl, k2, hy⟩
    unfold t__law_deep_r1
    walk_at "sx"
    have e : ((n : Int) - 1).toNat = n - 1 := by omega
    rw [e] at hy
    exact q y H2 k2 hy


/-! ### towns of the pen as data -/
theorem dp_mapP {K : PySem.W.Frag} {H : Hp} {α : Type} (f : α → V) (g : α → PyData) : ∀ (xs : List α), (∀ x ∈ xs, Dp K H (f x) (g x)) → DpAll K H (xs.map f) (xs.map g)
  | [], _ => .nil
  | x :: xs, h => .cons (h x List.mem_cons_self) (dp_mapP f g xs fun y hy => h y (List.mem_cons_of_mem _ hy))
def rdD (r : Rd) : PyData := .tuple [.str r.one, .str r.two, mDp r.there, mDp r.back]
theorem dp_rds {K : PySem.W.Frag} {H : Hp} : ∀ {vs : List V} {rs : List Rd}, RdsAt H vs rs → DpAll K H vs (rs.map rdD)
  | _, _, .nil => .nil
  | _, _, .cons h q => .cons (.tup (Tup.sq h) (.cons (.str _) (.cons (.str _) (.cons (dp_mVp _) (.cons (dp_mVp _) .nil))))) (dp_rds q)
def tnD (T : Tn) : PyData := .tuple [.tuple (T.places.map .str), .tuple (T.roads.map rdD), .tuple (T.stands.map .str), .int T.reach]
theorem dp_tn {K : PySem.W.Frag} {H : Hp} {t : Addr} {T : Tn} (h : TnAt H t T) : Dp K H (.ref t) (tnD T) := by
  obtain ⟨ap, ar, as, vs, h1, h2, h3, h4, h5⟩ := h
  exact .tup h1.sq (.cons (.tup h2.sq (dp_mapP _ _ _ fun x _ => .str x)) (.cons (.tup h3.sq (dp_rds h4)) (.cons (.tup h5.sq (dp_mapP _ _ _ fun x _ => .str x)) (.cons (.int _) .nil))))
theorem fines_mapP {α : Type} (g : α → PyData) : ∀ (xs : List α), (∀ x ∈ xs, fine (g x)) → fines (xs.map g)
  | [], _ => trivial
  | x :: xs, h => ⟨h x List.mem_cons_self, fines_mapP g xs fun y hy => h y (List.mem_cons_of_mem _ hy)⟩
theorem costs_mapP {α : Type} (g : α → PyData) (b : Nat) : ∀ (xs : List α), (∀ x ∈ xs, cost (g x) ≤ b) → costs (xs.map g) ≤ xs.length * (b + 2)
  | [], _ => by simp [costs]
  | x :: xs, h => by
    have h1 := h x List.mem_cons_self
    have h2 := costs_mapP g b xs fun y hy => h y (List.mem_cons_of_mem _ hy)
    simp only [List.map_cons, costs, List.length_cons, Nat.add_mul]
    omega
theorem depth_mapP {α : Type} (g : α → PyData) (b : Nat) : ∀ (xs : List α), (∀ x ∈ xs, (g x).depth ≤ b) → PyData.depthAll (xs.map g) ≤ b
  | [], _ => by simp [PyData.depthAll]
  | x :: xs, h => by
    have h1 := h x List.mem_cons_self
    have h2 := depth_mapP g b xs fun y hy => h y (List.mem_cons_of_mem _ hy)
    simp only [List.map_cons, PyData.depthAll]
    omega
/-- small data: fine, of few signs, of few levels -/
structure Sm (c k : Nat) (d : PyData) : Prop where
  f : fine d
  c : cost d ≤ c
  d : d.depth ≤ k
theorem Sm.mono {c c' k k' : Nat} {d : PyData} (h : Sm c k d) (l : c ≤ c') (m : k ≤ k') : Sm c' k' d := ⟨h.f, Nat.le_trans h.c l, Nat.le_trans h.d m⟩
theorem sm_name {y : Str} (h : NameOk (cl y)) : Sm 82 0 (.str y) := ⟨fun c hc => by
    have := h.2.2.1 c hc
    unfold isSg isLt at this
    have : c ≤ 122 := by omega
    exact Nat.lt_of_le_of_lt this (by decide), by show 10 * y.length + 2 ≤ 82; have := h.2.1; rw [← cl_len] at this; omega, by simp [PyData.depth]⟩
theorem sm_mDp {o : Option Int} (h : minOk o) : Sm 1921 0 (mDp o) := by
  cases o with
  | none => exact ⟨trivial, by decide, by simp [mDp, PyData.depth]⟩
  | some i => exact ⟨log_small (by have := h i rfl; omega) (by have := h i rfl; omega), Nat.le_refl _, by simp [mDp, PyData.depth]⟩
theorem sm_tup {α : Type} {c k : Nat} (g : α → PyData) (xs : List α) (h : ∀ x ∈ xs, Sm c k (g x)) : Sm (xs.length * (c + 2) + 3) (k + 1) (.tuple (xs.map g)) :=
  ⟨fines_mapP g xs fun x hx => (h x hx).f, Nat.add_le_add_right (costs_mapP g c xs fun x hx => (h x hx).c) 3, by
    have := depth_mapP g k xs fun x hx => (h x hx).d
    simp only [PyData.depth]
    omega⟩
theorem sm_rd {T : Tn} (ok : TnOk T) : ∀ r ∈ T.roads, Sm 5000 1 (rdD r) := fun r hr => by
  have o := ok.rd r hr
  have a := sm_name (ok.nm _ o.one)
  have b := sm_name (ok.nm _ o.two)
  have c := sm_mDp o.there
  have d := sm_mDp o.back
  have ac := a.c
  have bc := b.c
  have cc := c.c
  have dc := d.c
  have ad := a.d
  have bd := b.d
  have cd := c.d
  have dd := d.d
  refine ⟨⟨a.f, b.f, c.f, d.f, trivial⟩, ?_, ?_⟩
  · show cost (.str r.one) + 2 + (cost (.str r.two) + 2 + (cost (mDp r.there) + 2 + (cost (mDp r.back) + 2 + 0))) + 3 ≤ 5000
    omega
  · unfold rdD
    simp only [PyData.depth, PyData.depthAll] at *
    omega
theorem sm_tn {T : Tn} (ok : TnOk T) : Sm 120000 3 (tnD T) := by
  have a := sm_tup (α := Str) (c := 82) (k := 0) PyData.str T.places fun y hy => sm_name (ok.nm y hy)
  have b := sm_tup rdD T.roads (sm_rd ok)
  have c := sm_tup (α := Str) (c := 82) (k := 0) PyData.str T.stands fun y hy => sm_name (ok.nm y (ok.sp y hy))
  have ac := a.c
  have bc := b.c
  have cc := c.c
  have ad := a.d
  have bd := b.d
  have cd := c.d
  have p10 := ok.p10
  have r18 := ok.r18
  have s5 := ok.s5
  have r0 := ok.re0
  have r1 := ok.re1
  refine ⟨⟨a.f, b.f, c.f, log_small (i := T.reach) r0 (by omega), trivial⟩, ?_, ?_⟩
  · show cost (.tuple (T.places.map .str)) + 2 + (cost (.tuple (T.roads.map rdD)) + 2 + (cost (.tuple (T.stands.map .str)) + 2 + (1921 + 2 + 0))) + 3 ≤ 120000
    omega
  · unfold tnD
    simp only [PyData.depth, PyData.depthAll] at *
    omega
theorem th_tn {K : PySem.W.Frag} {H : Hp} {t : Addr} {T : Tn} (h : TnAt H t T) (ok : TnOk T) : Th K H (.ref t) (tnD T) := by
  have s := sm_tn ok
  exact .dp (dp_tn h) s.f (Nat.le_trans s.c (by decide)) (Nat.le_trans s.d (by decide))
/-! ### the law's things -/
structure ThOk (e : PyData) : Prop where
  lo : loD e
  it : itD (10 ^ 59 + 2) e
  c : cost e ≤ 5000000
  d : e.depth ≤ 60
def ThL (p : List Addr) (H : Hp) (xs : List V) : Prop := ∃ es, DaL p H xs es ∧ ∀ e ∈ es, ThOk e
theorem ThL.keep {p : List Addr} {H H' : Hp} {xs : List V} (h : ThL p H xs) (k : KD p H H') : ThL p H' xs := let ⟨es, a, b⟩ := h; ⟨es, a.keep k, b⟩
theorem ThL.app {p : List Addr} {H : Hp} {xs ys : List V} (h : ThL p H xs) (h' : ThL p H ys) : ThL p H (xs ++ ys) := let ⟨es, a, b⟩ := h; let ⟨fs, c, d⟩ := h'; ⟨es ++ fs, a.app c, fun e he => (List.mem_append.mp he).elim (b e) (d e)⟩
theorem ThL.nil {p : List Addr} {H : Hp} : ThL p H [] := ⟨[], .nil, fun _ h => (List.not_mem_nil h).elim⟩
theorem ThL.cons {p : List Addr} {H : Hp} {v : V} {e : PyData} {xs : List V} (h : Da p H v e) (o : ThOk e) (r : ThL p H xs) : ThL p H (v :: xs) := let ⟨es, a, b⟩ := r; ⟨e :: es, .cons h a, fun x hx => by
  rcases List.mem_cons.mp hx with rfl | hx
  · exact o
  · exact b x hx⟩
theorem nm_loX {y : Str} (h : NameOk (cl y)) : Lo y := fun c hc => by
  have := h.2.2.1 c hc
  unfold isSg isLt at this
  omega
theorem da_strs {p : List Addr} {H : Hp} : ∀ ys : List Str, DaL p H (ys.map V.str) (ys.map .str)
  | [] => .nil
  | _ :: ys => .cons (.str _) (da_strs ys)
theorem da_m {p : List Addr} {H : Hp} (m : Option Int) : Da p H (mV m) (mDp m) := by
  cases m with
  | none => exact .non
  | some i => exact .int i
theorem da_rds {p : List Addr} {H : Hp} : ∀ {vs : List V} {rs : List Rd}, RdsAt H vs rs → DaL p H vs (rs.map rdD)
  | _, _, .nil => .nil
  | _, _, .cons h q => .cons (.tup h (.cons (.str _) (.cons (.str _) (.cons (da_m _) (.cons (da_m _) .nil))))) (da_rds q)
theorem da_town {p : List Addr} {H : Hp} {t : Addr} {T : Tn} (h : TnAt H t T) : ∃ ap ar av vs, Tup H t [.ref ap, .ref ar, .ref av, .int T.reach] ∧ Tup H ap (T.places.map V.str) ∧ Tup H ar vs ∧ RdsAt H vs T.roads ∧ Tup H av (T.stands.map V.str) ∧ Da p H (.ref t) (tnD T) := by
  obtain ⟨ap, ar, av, vs, h1, h2, h3, h4, h5⟩ := h
  exact ⟨ap, ar, av, vs, h1, h2, h3, h4, h5, .tup h1 (.cons (.tup h2 (da_strs _)) (.cons (.tup h3 (da_rds h4)) (.cons (.tup h5 (da_strs _)) (.cons (.int _) .nil))))⟩
theorem lo_strsD {ys : List Str} (h : ∀ y ∈ ys, Lo y) : loDs (ys.map .str) := loDs_of fun d hd => by
  obtain ⟨y, hy, rfl⟩ := List.mem_map.mp hd
  exact h y hy
theorem it_strsD {B : Nat} {ys : List Str} : itDs B (ys.map .str) := itDs_of fun d hd => by
  obtain ⟨y, hy, rfl⟩ := List.mem_map.mp hd
  trivial
theorem lo_m (m : Option Int) : loD (mDp m) := by cases m <;> trivial
theorem it_m {m : Option Int} (h : minOk m) : itD (10 ^ 59) (mDp m) := by
  cases m with
  | none => trivial
  | some i =>
    have := h i rfl
    show i.natAbs ≤ 10 ^ 59
    have : (60 : Nat) ≤ 10 ^ 59 := by decide +kernel
    omega
theorem town_lo {T : Tn} (ok : TnOk T) : loD (tnD T) ∧ itD (10 ^ 59) (tnD T) ∧ tdep (tnD T) ≤ 3 := by
  have r0 := ok.re0
  have r1 := ok.re1
  have big : (120 : Nat) ≤ 10 ^ 59 := by decide +kernel
  refine ⟨⟨lo_strsD fun y hy => nm_loX (ok.nm y hy), loDs_of fun d hd => ?_, lo_strsD fun y hy => nm_loX (ok.nm y (ok.sp y hy)), trivial, trivial⟩, ⟨it_strsD, itDs_of fun d hd => ?_, it_strsD, ?_, trivial⟩, ?_⟩
  · obtain ⟨r, hr, rfl⟩ := List.mem_map.mp hd
    have o := ok.rd r hr
    exact ⟨nm_loX (ok.nm _ o.one), nm_loX (ok.nm _ o.two), lo_m _, lo_m _, trivial⟩
  · obtain ⟨r, hr, rfl⟩ := List.mem_map.mp hd
    have o := ok.rd r hr
    exact ⟨trivial, trivial, it_m o.there, it_m o.back, trivial⟩
  · show T.reach.natAbs ≤ 10 ^ 59
    omega
  · have t0 : ∀ ys : List Str, tdeps (ys.map .str) ≤ 0 := fun ys => tdeps_le fun e he => by
      obtain ⟨y, _, rfl⟩ := List.mem_map.mp he
      simp [tdep]
    have m0 : ∀ m : Option Int, tdep (mDp m) = 0 := fun m => by cases m <;> simp [mDp, tdep]
    have tr : tdeps (T.roads.map rdD) ≤ 1 := tdeps_le fun e he => by
      obtain ⟨r, _, rfl⟩ := List.mem_map.mp he
      unfold rdD
      simp [tdep, tdeps, m0]
    have a := t0 T.places
    have b := t0 T.stands
    unfold tnD
    simp only [tdep, tdeps]
    omega


/-! ### the law's things, made -/
theorem g_CED {K : PySem.W.Frag} {α : Type} {RR : Hp → V → α → Prop} {g : TG} {te : TE} {vs : List Nat} {σ : L2.St} {H1 : Hp} {Q : VK} {a : Addr} {xs : List V} {rs : List α} (hx : Sq H1 a xs) (he : EI (RR H1) xs rs)
    (hk : ∀ H H' x r, RR H x r → Keep [] H H' → RR H' x r) (P : Addr → Nat → Hp → List V → Prop) (p0 : ∀ D H2, H1 D = none → Keep [] H1 H2 → P D 0 H2 [])
    (ps : ∀ D i x r H acc (R : VK), H1 D = none → rs[i]? = some r → Keep [] H1 H → H D = some (.lst acc) → RR H x r → P D i H acc →
      (∀ y H4, Keep [] H H4 → acc.length < sizeLine → (∀ H5, Keep [D] H4 H5 → P D (i + 1) H5 (acc ++ [y])) → R y H4) → g x (wipe σ vs) H fun σ2 H2 => wipe σ2 vs = wipe σ vs ∧ te σ2 H2 R)
    (pd : ∀ D H acc, H1 D = none → Keep [] H1 H → H D = some (.lst acc) → P D rs.length H acc → Q (.ref D) H) : CU K g tYes te vs σ Q (.ref a) H1 := by
  have main : ∀ J : It, (∀ i H, i < xs.length → Keep [] H1 H → J.go i H) → (∀ i H x H', i < xs.length → Keep [] H1 H → J.yld i H x H' → xs[i]? = some x ∧ H' = H) → (∀ H, Keep [] H1 H → J.stop xs.length H) → CB J g tYes te vs σ Q H1 := by
    intro J go yl st D hD
    refine ⟨fun i m H => m = xs.length - i ∧ i ≤ xs.length ∧ Keep [] H1 H ∧ ∃ acc, H D = some (.lst acc) ∧ P D i H acc, ⟨xs.length, by omega, by omega, Keep.new hD, [], upd_same, p0 D _ hD (Keep.new hD)⟩, ?_⟩
    rintro i m H ⟨rfl, hi, k, acc, eD, p⟩
    by_cases hlt : i < xs.length
    · refine .inr ⟨go i H hlt k, fun H' => i + 1 ≤ xs.length ∧ Keep [] H1 H' ∧ ∃ acc, H' D = some (.lst acc) ∧ P D (i + 1) H' acc, fun H' q => ⟨xs.length - (i + 1), by omega, rfl, q⟩, fun x H' y => ?_⟩
      obtain ⟨ex, rfl⟩ := yl i H x H' hlt k y
      obtain ⟨r, e1, e2⟩ := ei_got he ex
      exact ps D i x r H' acc _ hD e1 k eD (hk _ _ _ _ e2 k) p fun y H4 k4 z q => ⟨acc, k4 _ _ nin0 eD, z, hlt, (k.trans k4).past Keep.set hD, _, upd_same, q _ Keep.set⟩
    · have e : i = xs.length := by omega
      subst e
      exact .inl ⟨st H k, pd D H acc hD k eD (by rw [← he.length]; exact p)⟩
  rcases hx with h | h
  · exact .inl ⟨a, xs, rfl, lst_sq h, main _ (fun i H hi k => ⟨xs, xs[i], lst_sq (k _ _ nin0 h), List.getElem?_eq_getElem hi⟩) (fun i H x H' hi k y => ⟨y.2 xs (lst_sq (k _ _ nin0 h)), y.1⟩) fun H k => ⟨xs, lst_sq (k _ _ nin0 h), Nat.le_refl _⟩⟩
  · exact .inr (.inl ⟨a, xs, rfl, h.sq, main _ (fun i H hi k => ⟨xs, xs[i], (h.keep k nin0).sq, List.getElem?_eq_getElem hi⟩) (fun i H x H' hi k y => ⟨y.2 xs (h.keep k nin0).sq, y.1⟩) fun H k => ⟨xs, (h.keep k nin0).sq, Nat.le_refl _⟩⟩)
/-- roads as lists -/
def rdLD (r : Rd) : PyData := .list [.str r.one, .str r.two, mDp r.there, mDp r.back]
def RlAt (S : List Addr) (D : Addr) (H : Hp) (v : V) (r : Rd) : Prop := ∃ q, v = .ref q ∧ H q = some (.lst [.str r.one, .str r.two, mV r.there, mV r.back]) ∧ q ∉ S ∧ q ≠ D
theorem rl_da {S : List Addr} {D : Addr} {H : Hp} : ∀ {vs : List V} {rs : List Rd}, EI (RlAt S D H) vs rs → DaL S H vs (rs.map rdLD)
  | _, _, .nil => .nil
  | _, _, .cons ⟨q, e, h, n, _⟩ r => by
    subst e
    exact .cons (.lst h n (.cons (.str _) (.cons (.str _) (.cons (da_m _) (.cons (da_m _) .nil))))) (rl_da r)
def odds3 : List Str := [Str.ofString "", Str.ofString "place", Str.ofString "a"]
theorem g_disp0 {σ : L2.St} {H : Hp} {Q : VK} {i : Nat} {x : V} (h : σ[i]? = some (some x)) (q : Mk H (.dK [(.inl 0, x)]) Q) : tDisp [(tC (.int 0), tVar i)] σ H Q := by
  intro p n
  refine ⟨x, h, upd_same, [(.inl 0, x)], rfl, (by show 1 ≤ 15; decide), ?_⟩
  refine q p _ n (fun b o _ e => ?_) upd_same
  have ne : b ≠ p := fun z => by rw [z, n] at e; cases e
  rw [upd_ne ne, upd_ne ne]
  exact e
/-- another new cell that no data holds -/
theorem Da.ne_of {p f b : Addr} {H : Hp} (hb : H b = none) {a : Addr} {xs : List V} (h : H a = some (.lst xs)) (n : a ∉ [p, f]) : a ∉ [p, b] := nin2 (fun z => n (z ▸ List.mem_cons_self)) (fun z => by rw [z, hb] at h; cases h)
mutual
theorem Da.swap {p f b : Addr} {H : Hp} (hb : H b = none) : ∀ {v : V} {d : PyData}, Da [p, f] H v d → Da [p, b] H v d
  | _, _, .non => .non
  | _, _, .bl b => .bl b
  | _, _, .int i => .int i
  | _, _, .str z => .str z
  | _, _, .lst h n r => .lst h (Da.ne_of hb h n) (DaL.swap hb r)
  | _, _, .tup h r => .tup h (DaL.swap hb r)
  | _, _, .dic h e r => .dic h e (DaL.swap hb r)
theorem DaL.swap {p f b : Addr} {H : Hp} (hb : H b = none) : ∀ {vs : List V} {ds : List PyData}, DaL [p, f] H vs ds → DaL [p, b] H vs ds
  | _, _, .nil => .nil
  | _, _, .cons h r => .cons (Da.swap hb h) (DaL.swap hb r)
end
theorem ThL.swap {p f b : Addr} {H : Hp} {xs : List V} (hb : H b = none) (h : ThL [p, f] H xs) : ThL [p, b] H xs := let ⟨es, a, c⟩ := h; ⟨es, a.swap hb, c⟩
/-- parts of the law's own towns -/
structure Pt (e : PyData) : Prop where
  lo : loD e
  it : itD (10 ^ 59 + 2) e
  c : cost e ≤ 200000
  d : e.depth ≤ 50
theorem costs_le {c : Nat} : ∀ {es : List PyData}, (∀ e ∈ es, cost e ≤ c) → costs es ≤ es.length * (c + 2)
  | [], _ => by simp [costs]
  | e :: es, h => by
    have h1 := h e (by simp)
    have h2 := costs_le (es := es) fun x hx => h x (by simp [hx])
    simp only [costs, List.length_cons, Nat.add_mul]
    omega
theorem th_pts {es : List PyData} (h : ∀ e ∈ es, Pt e) (l : es.length ≤ 10) : ThOk (.tuple es) ∧ ThOk (.list es) := by
  have c := costs_le (c := 200000) fun e he => (h e he).c
  have c' : es.length * (200000 + 2) ≤ 10 * (200000 + 2) := Nat.mul_le_mul_right _ l
  have d := depthAll_le (m := 50) fun e he => (h e he).d
  exact ⟨⟨loDs_of fun e he => (h e he).lo, itDs_of fun e he => (h e he).it, by simp only [cost]; omega, by simp only [PyData.depth]; omega⟩, ⟨loDs_of fun e he => (h e he).lo, itDs_of fun e he => (h e he).it, by simp only [cost]; omega, by simp only [PyData.depth]; omega⟩⟩
theorem pt_deep : ∀ n : Nat, loD (deepD n) ∧ itD (10 ^ 59 + 2) (deepD n) ∧ cost (deepD n) = 3 + 5 * n ∧ (deepD n).depth = n + 1
  | 0 => ⟨trivial, trivial, by simp [deepD, cost, costs], by simp [deepD, PyData.depth, PyData.depthAll]⟩
  | n + 1 => by
    obtain ⟨a, b, c, d⟩ := pt_deep n
    exact ⟨⟨a, trivial⟩, ⟨b, trivial⟩, by simp only [deepD, cost, costs, c]; omega, by simp only [deepD, PyData.depth, PyData.depthAll, d]; omega⟩
theorem pt_rl {T : Tn} (ok : TnOk T) : Pt (.tuple (T.roads.map rdLD)) := by
  have c5 : ∀ r ∈ T.roads, cost (rdLD r) ≤ 5000 := fun r hr => by
    have := (sm_rd ok r hr).c
    have e : cost (rdD r) = cost (rdLD r) + 1 := by unfold rdD rdLD; simp only [cost]
    omega
  have d1 : ∀ r ∈ T.roads, (rdLD r).depth ≤ 1 := fun r hr => by
    have := (sm_rd ok r hr).d
    unfold rdD at this
    unfold rdLD
    simp only [PyData.depth] at this ⊢
    omega
  obtain ⟨tlo, tit, _⟩ := town_lo ok
  have lm : ∀ r ∈ T.roads, loD (rdLD r) ∧ itD (10 ^ 59 + 2) (rdLD r) := fun r hr => by
    have a := loDs_mem (ds := T.roads.map rdD) tlo.2.1 (rdD r) (List.mem_map.mpr ⟨r, hr, rfl⟩)
    have b := itDs_mem (ds := T.roads.map rdD) tit.2.1 (rdD r) (List.mem_map.mpr ⟨r, hr, rfl⟩)
    exact ⟨a, itD_mono (d := rdLD r) (B := 10 ^ 59) (by omega) b⟩
  have cc := costs_le (c := 5000) (es := T.roads.map rdLD) fun e he => by
    obtain ⟨r, hr, rfl⟩ := List.mem_map.mp he
    exact c5 r hr
  have dd := depthAll_le (m := 1) (es := T.roads.map rdLD) fun e he => by
    obtain ⟨r, hr, rfl⟩ := List.mem_map.mp he
    exact d1 r hr
  have r18 := ok.r18
  rw [List.length_map] at cc
  have c18 : T.roads.length * (5000 + 2) ≤ 18 * (5000 + 2) := Nat.mul_le_mul_right _ r18
  refine ⟨loDs_of fun e he => ?_, itDs_of fun e he => ?_, by simp only [cost]; omega, by simp only [PyData.depth]; omega⟩
  · obtain ⟨r, hr, rfl⟩ := List.mem_map.mp he
    exact (lm r hr).1
  · obtain ⟨r, hr, rfl⟩ := List.mem_map.mp he
    exact (lm r hr).2
theorem sp_th {d e : PyData} {B : Nat} (hB : B + 1 ≤ 10 ^ 59 + 2) (h : SpOk B d e) (hc : 3 * cost d + 20000 ≤ 5000000) (hd : d.depth + 1 ≤ 60) : ThOk e := ⟨h.lo, itD_mono hB h.it, Nat.le_trans h.c hc, Nat.le_trans h.d hd⟩
def spThings : Sp := fun vs H Q _ => ∃ (p t : Addr) (T : Tn) (k : Nat), vs = [.ref p, .ref t] ∧ Pen H p (k + 1000) ∧ TnAt H t T ∧ TnOk T ∧
  ∀ a f H' xs, Keep [p] H H' → Pen H' p k → H' a = some (.lst xs) → xs.length ≤ 100 → ThL [p, f] H' xs → Q (.ref a) H'
theorem rd_things (K : PySem.W.Frag) : ∀ vs H Q E, spThings vs H Q E → run (t__law_things K spSpoilt spDeep) (L2.start N__law_things vs) H Q := by
  rintro _ H Q _ ⟨p, t, T, k, rfl, hp, hT, ok, q⟩
  show run (t__law_things K spSpoilt spDeep) [some (.ref p), some (.ref t), none, none, none, none, none, none] H Q
  obtain ⟨ap, ar, av, vs, t1, t2, t3, t4, t5, _⟩ := da_town (p := [p]) hT
  obtain ⟨tlo, tit, tdp⟩ := town_lo ok
  have sm := sm_tn ok
  have scc := sm.c
  have scd := sm.d
  have p10 := ok.p10
  unfold t__law_things
  walk_at "sx"
  refine g_ixT t1 (at_lit 0 rfl rfl) (g_listT t2 fun l1 H1 n1 k1 e1 => ⟨by walk_at "sz", fun l2 H2 n2 k2 e2 => g_addL (k2 _ _ nin0 e1) e2 (by walk_at "sz") fun tx H3 n3 k3 e3 => ?_⟩)
  have k03 : Keep [] H H3 := k1.trans (k2.trans k3)
  have p3 := hp.keep k03
  have e3' : H3 tx = some (.lst ((T.places ++ odds3).map V.str)) := by rw [e3, List.map_append]; rfl
  have htx : TxAt H3 p tx (T.places ++ odds3) := ⟨e3', pen_ne ((hp.keep k1).keep k2) n3, by rw [List.length_append]; show 1 ≤ _ + 3; omega, by rw [List.length_append]; show _ + 3 ≤ 100; omega, fun z hz => by
    rcases List.mem_append.mp hz with hz | hz
    · have hn := ok.nm z hz
      exact ⟨nm_loX hn, by have := hn.2.1; rw [← cl_len] at this; omega⟩
    · simp only [odds3, List.mem_cons, List.not_mem_nil, or_false] at hz
      rcases hz with rfl | rfl | rfl <;> exact ⟨lo_of (by decide +kernel), by decide +kernel⟩⟩
  walk_at "sx"
  refine ⟨by walk_at "sz", fun fl H4 n4 k4 e4 => ?_⟩
  walk_at "sx"
  have k04 := k03.trans k4
  have fp : fl ≠ p := pen_ne p3 n4
  have ft : fl ≠ tx := (ne_of_none e3 n4).symm
  have fl0 : H fl = none := k03.free nin0 n4
  have kt : ∀ {H'}, Keep [p] H H' → TnAt H' t T := fun {H'} k => hT.keep k fun a xs ta => nin1 fun z => by
    obtain ⟨d, c, n, e, r⟩ := hp
    obtain ⟨ob, e2, _⟩ := ta
    rw [z, e] at e2
    cases e2
  refine g_FR1 (by decide) (by decide) ⟨fun i σ H' => ∃ (y4 y5 : Option V) (xs : List V), σ = [some (.ref p), some (.ref t), some (.ref tx), some (.ref fl), y4, y5, none, none] ∧ Keep [p] H H' ∧ Pen H' p (k + 1000 - 40 * i) ∧ TxAt H' p tx (T.places ++ odds3) ∧ H' fl = some (.lst xs) ∧ xs.length = i ∧ ThL [p, fl] H' xs,
    ⟨_, _, [], rfl, k04.all, p3.keep k4, htx.keep k4.all, e4, rfl, ThL.nil⟩, ?_, ?_⟩
  · rintro i σ HA hi ⟨y4, y5, xs, rfl, kA, pA, txA, eA, lA, thA⟩
    have hi16 : i < 16 := hi
    walk_at "sx"
    unfold t__law_things_b1
    walk_at "sx"
    obtain ⟨_, _, _, _, _, _, _, _, _, dT⟩ := da_town (p := [p, fl]) (kt kA)
    refine ⟨p, tx, fl, xs, .ref t, tnD T, _, 10 ^ 59, k + 1000 - 40 * i - 11, rfl, pA.less (by omega), txA, dT, eA, fp, tlo, tit, by omega, by omega, Nat.le_refl _, by omega, fun y HB e kB pB hy so => ?_⟩
    have eB := kB _ _ (nin1 fp) eA
    have thB := thA.keep (KD.ofP (p := [p, fl]) (by simp) pA kB)
    have sc := so.c
    have sd := so.d
    have st := so.t
    have last : ∀ (y : V) (e : PyData) (HC : Hp), Keep [p] HB HC → Pen HC p (k + 1000 - 40 * (i + 1)) → Da [p, fl] HC y e → ThOk e → t__law_things_r1 K spSpoilt spDeep
        { nx := fun σ H' => ∃ (y4 y5 : Option V) (xs : List V), σ = [some (.ref p), some (.ref t), some (.ref tx), some (.ref fl), y4, y5, none, none] ∧ Keep [p] H H' ∧ Pen H' p (k + 1000 - 40 * (i + 1)) ∧ TxAt H' p tx (T.places ++ odds3) ∧ H' fl = some (.lst xs) ∧ xs.length = i + 1 ∧ ThL [p, fl] H' xs, rt := Q,
          bk := fun σ H' => t__law_things_r2 K spSpoilt spDeep { nx := fun x H' => Q V.non H', rt := Q } σ H', ct := fun σ H' => ∃ (y4 y5 : Option V) (xs : List V), σ = [some (.ref p), some (.ref t), some (.ref tx), some (.ref fl), y4, y5, none, none] ∧ Keep [p] H H' ∧ Pen H' p (k + 1000 - 40 * (i + 1)) ∧ TxAt H' p tx (T.places ++ odds3) ∧ H' fl = some (.lst xs) ∧ xs.length = i + 1 ∧ ThL [p, fl] H' xs }
        [some (.ref p), some (.ref t), some (.ref tx), some (.ref fl), some (.int (i : Nat)), some y, none, none] HC := fun y e HC kC pC hy th => by
      unfold t__law_things_r1
      walk_at "sx"
      have eC := kC _ _ (nin1 fp) eB
      refine ⟨.inl ⟨rfl, _, .inl (.inl eC)⟩, g_append eC (by exact len_lt (by omega)) fun HD kD eD => ?_⟩
      have thC := thB.keep (KD.ofP (p := [p, fl]) (by simp) pB kC)
      have kd : KD [p, fl] HC HD := KD.ofA (by simp) eC kD
      exact ⟨_, _, xs ++ [y], rfl, ((kA.trans kB).trans kC).past kD fl0, pC.keepL kD fp, ⟨kD _ _ (nin1 ft.symm) (kC _ _ (nin1 htx.n) (kB _ _ (nin1 htx.n) txA.h)), txA.n, txA.ne, txA.l, txA.t⟩, eD, by simp [lA], (thC.keep kd).app (ThL.cons (hy.keep kd) th ThL.nil)⟩
    walk_at "sx"
    refine ⟨by omega, g_eq rfl ⟨_, rfl, ?_⟩⟩
    by_cases hm : V.int ((i : Int) % 2) = V.int 1
    · rw [if_pos (decide_eq_true hm)]
      have txB := txA.keep kB
      refine ⟨p, tx, fl, xs, y, e, _, 10 ^ 59 + 1, k + 1000 - 40 * i - 22, rfl, pB.less (by omega), txB, hy, eB, fp, so.lo, so.it, by omega, by omega, by omega, by omega, fun y2 HC e2 kC pC hy2 so2 => ?_⟩
      exact last y2 e2 HC kC (pC.less (by omega)) hy2 (sp_th (by omega) so2 (by omega) (by omega))
    · rw [if_neg (by simpa using hm)]
      exact last y e HB (Keep.refl _ _) (pB.less (by omega)) hy (sp_th (by omega) so (by omega) (by omega))
  · rintro σ HA ⟨y4, y5, xs, rfl, kA, pA, txA, eA, lA, thA⟩
    obtain ⟨ap, ar, av, vs, u1, u2, u3, u4, u5, dT⟩ := da_town (p := [p, fl]) (kt kA)
    have thT : ThOk (tnD T) := ⟨tlo, itD_mono (by omega) tit, by omega, by omega⟩
    have nw : ∀ {H1 : Hp} {a : Addr}, Keep [] HA H1 → H1 a = none → a ∉ [p, fl] := fun {H1 a} k n => nin2 (pen_ne (pA.keep k) n) (ne_of_none (k _ _ nin0 eA) n).symm
    unfold t__law_things_r2
    walk_at "sx"
    refine ⟨by walk_at "sz", fun a1 B1 m1 j1 f1 => ⟨by walk_at "sz", fun a2 B2 m2 j2 f2 => fun a3 B3 m3 j3 f3 => ⟨by walk_at "sz", fun a4 B4 m4 j4 f4 => ⟨by walk_at "sz", fun a5 B5 m5 j5 f5 => g_disp0 rfl fun a6 B6 m6 j6 f6 => ⟨by walk_at "sz", fun a7 B7 m7 j7 f7 => ?_⟩⟩⟩⟩⟩
    have h7 : Keep [] HA B7 := j1.trans (j2.trans (j3.trans (j4.trans (j5.trans (j6.trans j7)))))
    refine g_addL (h7 _ _ nin0 eA) f7 (by rw [lA]; exact len_le (by show 16 + 10 ≤ 1000000; decide)) fun a8 B8 m8 j8 f8 => ?_
    have h8 := h7.trans j8
    have dT8 := dT.keep (KD.of0 (p := [p, fl]) h8)
    have big : (0 : Nat) ≤ 10 ^ 59 + 2 := Nat.zero_le _
    have th8 : ThL [p, fl] B8 (xs ++ [V.non, V.bl true, V.int 0, V.str (Str.ofString ""), V.ref a1, V.ref a2, V.ref a3, V.ref a4, V.ref a5, V.ref a6]) := by
      refine (thA.keep (KD.of0 h8)).app ?_
      refine ThL.cons .non ⟨trivial, trivial, by simp [cost], by simp [PyData.depth]⟩ ?_
      refine ThL.cons (.bl true) ⟨trivial, trivial, by simp [cost], by simp [PyData.depth]⟩ ?_
      refine ThL.cons (.int 0) ⟨trivial, big, by simp [cost], by simp [PyData.depth]⟩ ?_
      refine ThL.cons (.str _) ⟨lo_of (by decide +kernel), trivial, by simp only [cost]; decide +kernel, by simp [PyData.depth]⟩ ?_
      refine ThL.cons (.tup (f1.keep (j2.trans (j3.trans (j4.trans (j5.trans (j6.trans (j7.trans j8)))))) nin0) .nil) ⟨trivial, trivial, by simp [cost, costs], by simp [PyData.depth, PyData.depthAll]⟩ ?_
      refine ThL.cons (.lst ((j3.trans (j4.trans (j5.trans (j6.trans (j7.trans j8))))) _ _ nin0 f2) (nw j1 m2) .nil) ⟨trivial, trivial, by simp [cost, costs], by simp [PyData.depth, PyData.depthAll]⟩ ?_
      refine ThL.cons (.dic (kvs := []) ((j4.trans (j5.trans (j6.trans (j7.trans j8)))) _ _ nin0 f3) rfl .nil) ⟨trivial, trivial, by simp [cost, costKv], by simp [PyData.depth, PyData.depthKv]⟩ ?_
      refine ThL.cons (.lst ((j5.trans (j6.trans (j7.trans j8))) _ _ nin0 f4) (nw (j1.trans (j2.trans j3)) m4) (.cons dT8 .nil)) ⟨⟨tlo, trivial⟩, ⟨thT.it, trivial⟩, by simp only [cost, costs]; omega, by simp only [PyData.depth, PyData.depthAll]; omega⟩ ?_
      refine ThL.cons (.tup (f5.keep (j6.trans (j7.trans j8)) nin0) (.cons dT8 .nil)) ⟨⟨tlo, trivial⟩, ⟨thT.it, trivial⟩, by simp only [cost, costs]; omega, by simp only [PyData.depth, PyData.depthAll]; omega⟩ ?_
      exact ThL.cons (.dic (kvs := [(.inl 0, .ref t)]) ((j7.trans j8) _ _ nin0 f6) rfl (.cons dT8 .nil)) ⟨⟨trivial, tlo, trivial⟩, ⟨big, thT.it, trivial⟩, by simp only [List.map_cons, List.map_nil, List.zip_cons_cons, List.zip_nil_left, keyD, cost, costKv]; omega, by simp only [List.map_cons, List.map_nil, List.zip_cons_cons, List.zip_nil_left, keyD, PyData.depth, PyData.depthKv]; omega⟩ ThL.nil
    have l8 : (xs ++ [V.non, V.bl true, V.int 0, V.str (Str.ofString ""), V.ref a1, V.ref a2, V.ref a3, V.ref a4, V.ref a5, V.ref a6]).length = 26 := by rw [List.length_append, lA]; rfl
    generalize (xs ++ [V.non, V.bl true, V.int 0, V.str (Str.ofString ""), V.ref a1, V.ref a2, V.ref a3, V.ref a4, V.ref a5, V.ref a6]) = ys at f8 th8 l8
    have pP : Pt (.tuple (T.places.map .str)) := ⟨tlo.1, itD_mono (by omega) tit.1, by have := sm_tup (α := Str) (c := 82) (k := 0) PyData.str T.places fun y hy => sm_name (ok.nm y hy); have := this.c; omega, by have := sm_tup (α := Str) (c := 82) (k := 0) PyData.str T.places fun y hy => sm_name (ok.nm y hy); have := this.d; omega⟩
    have pR : Pt (.tuple (T.roads.map rdD)) := ⟨tlo.2.1, itD_mono (by omega) tit.2.1, by have := sm_tup rdD T.roads (sm_rd ok); have := this.c; have := ok.r18; omega, by have := sm_tup rdD T.roads (sm_rd ok); have := this.d; omega⟩
    have pZ : Pt (.tuple (T.stands.map .str)) := ⟨tlo.2.2.1, itD_mono (by omega) tit.2.2.1, by have := sm_tup (α := Str) (c := 82) (k := 0) PyData.str T.stands fun y hy => sm_name (ok.nm y (ok.sp y hy)); have := this.c; have := ok.s5; omega, by have := sm_tup (α := Str) (c := 82) (k := 0) PyData.str T.stands fun y hy => sm_name (ok.nm y (ok.sp y hy)); have := this.d; omega⟩
    have pN : Pt (.int T.reach) := ⟨trivial, itD_mono (by omega) tit.2.2.2.1, by simp [cost], by simp [PyData.depth]⟩
    have p0 : Pt (.int 0) := ⟨trivial, big, by simp [cost], by simp [PyData.depth]⟩
    have dP : ∀ {S : List Addr} {H1 : Hp}, KD S HA H1 → Da S H1 (.ref _) (.tuple (T.places.map .str)) := fun k => .tup (k.t _ _ u2) (da_strs _)
    have dZ : ∀ {S : List Addr} {H1 : Hp}, KD S HA H1 → Da S H1 (.ref _) (.tuple (T.stands.map .str)) := fun k => .tup (k.t _ _ u5) (da_strs _)
    have dR : ∀ {S : List Addr} {H1 : Hp}, KD S HA H1 → Da S H1 (.ref _) (.tuple (T.roads.map rdD)) := fun {S H1} k => (Da.tup u3 (da_rds (p := S) u4)).keep k
    refine g_listT (u1.keep h8 nin0) fun b1 C1 n1' g1 x1 => g_slT ((u1.keep h8 nin0).keep g1 nin0) fun b2 C2 g2 x2 => ⟨by walk_at "sz", fun b3 C3 n3' g3 x3 => ?_⟩
    have h11 : Keep [] HA C3 := h8.trans (g1.trans (g2.trans g3))
    refine g_addT (u1.keep h11 nin0) x3 (by walk_at "sz") fun b4 C4 g4 x4 => g_revT.mpr ?_
    walk_at "sx"
    refine ⟨t, _, rfl, (u1.keep h11 nin0).keep g4 nin0, fun b5 C5 n5' g5 x5 => ⟨by walk_at "sz", fun b6 C6 n6' g6 x6 => ?_⟩⟩
    have g86 : Keep [] B8 C6 := g1.trans (g2.trans (g3.trans (g4.trans (g5.trans g6))))
    refine g_addL (g86 _ _ nin0 f8) x6 (by rw [l8]; exact len_le (by show 26 + 4 ≤ 1000000; decide)) fun fo C8 n8' g8 x8 => ?_
    have h18 : Keep [] HA C6 := h8.trans g86
    have h19 := h18.trans g8
    have fo0 : fo ∉ [p, fl] := nw h18 n8'
    have kD6 : KD [p, fl] HA C6 := KD.of0 h18
    have c2 : cutV [V.ref ap, .ref ar, .ref av, .int T.reach] none (some 3) = [V.ref ap, .ref ar, .ref av] := cut_upto (xs := [V.ref ap, .ref ar, .ref av, .int T.reach]) 3
    have fop : fo ≠ p := fun z => fo0 (z ▸ List.mem_cons_self)
    have th6 : ThL [p, fl] C6 (ys ++ [V.ref b1, V.ref b2, V.ref b4, V.ref b5]) := by
      refine (th8.keep (KD.of0 g86)).app ?_
      refine ThL.cons (.lst ((g2.trans (g3.trans (g4.trans (g5.trans g6)))) _ _ nin0 x1) (nw h8 n1') (.cons (dP kD6) (.cons (dR kD6) (.cons (dZ kD6) (.cons (.int _) .nil))))) (th_pts (es := [_, _, _, _]) (by simp only [List.mem_cons, List.not_mem_nil, or_false]; rintro e (rfl | rfl | rfl | rfl) <;> assumption) (by simp)).2 ?_
      refine ThL.cons (.tup (by rw [← c2]; exact x2.keep (g3.trans (g4.trans (g5.trans g6))) nin0) (.cons (dP kD6) (.cons (dR kD6) (.cons (dZ kD6) .nil)))) (th_pts (es := [_, _, _]) (by simp only [List.mem_cons, List.not_mem_nil, or_false]; rintro e (rfl | rfl | rfl) <;> assumption) (by simp)).1 ?_
      refine ThL.cons (.tup (x4.keep (g5.trans g6) nin0) (.cons (dP kD6) (.cons (dR kD6) (.cons (dZ kD6) (.cons (.int _) (.cons (.int 0) .nil)))))) (th_pts (es := [_, _, _, _, _]) (by simp only [List.mem_cons, List.not_mem_nil, or_false]; rintro e (rfl | rfl | rfl | rfl | rfl) <;> assumption) (by simp)).1 ?_
      exact ThL.cons (.tup (x5.keep g6 nin0) (.cons (.int _) (.cons (dZ kD6) (.cons (dR kD6) (.cons (dP kD6) .nil))))) (th_pts (es := [_, _, _, _]) (by simp only [List.mem_cons, List.not_mem_nil, or_false]; rintro e (rfl | rfl | rfl | rfl) <;> assumption) (by simp)).1 ThL.nil
    have th9 : ThL [p, fo] C8 (ys ++ [V.ref b1, V.ref b2, V.ref b4, V.ref b5]) := (th6.swap n8').keep (KD.of0 g8)
    have l9 : (ys ++ [V.ref b1, V.ref b2, V.ref b4, V.ref b5]).length = 30 := by rw [List.length_append, l8]; rfl
    generalize (ys ++ [V.ref b1, V.ref b2, V.ref b4, V.ref b5]) = zs at x8 th9 l9
    have p6 : Pen C6 p (k + 1000 - 40 * (16 : Int).toNat) := pA.keep h18
    have pen : ∀ {D : Hp}, Keep [fo] C6 D → Pen D p (k + 300) := fun kf => (p6.keepL kf fop).less (by show k + 300 ≤ k + 1000 - 40 * 16; omega)
    have nwS : ∀ {D D' : Hp} {a : Addr} {ws : List V}, Keep [fo] C6 D → Keep [] D D' → D fo = some (.lst ws) → D' a = none → a ∉ [p, fo] := fun kf k' e n => nin2 (pen_ne ((pen kf).keep k') n) (ne_of_none (k' _ _ nin0 e) n).symm
    have app : ∀ (D : Hp) (ws : List V) (y : V) (e : PyData) (R : VK), KD [p, fo] HA D → D fo = some (.lst ws) → ws.length ≤ 90 → ThL [p, fo] D ws → Da [p, fo] D y e → ThOk e → Keep [fo] C6 D → (∀ D', KD [p, fo] HA D' → D' fo = some (.lst (ws ++ [y])) → ThL [p, fo] D' (ws ++ [y]) → Keep [fo] C6 D' → R .non D') → uAppend (.ref fo) [y] D R := fun D ws y e R kd ef l th hy ho kf r => by
      refine g_append ef (len_lt (by omega)) fun D' k' e' => ?_
      have kd' : KD [p, fo] D D' := KD.ofA (by simp) ef k'
      exact r D' (kd.trans kd') e' ((th.keep kd').app (ThL.cons (hy.keep kd') ho ThL.nil)) (kf.trans k')
    have kd8 : KD [p, fo] HA C8 := KD.of0 h19
    refine ⟨.inl ⟨rfl, _, .inl (.inl x8)⟩, g_ixT (kd8.t _ _ u1) (at_lit 0 rfl rfl) (g_listT (kd8.t _ _ u2) fun q1 D1 w1 v1 z1 => ⟨by walk_at "sz", fun q2 D2 w2 v2 z2 => g_slT (((kd8.t _ _ u1).keep v1 nin0).keep v2 nin0) fun q3 D3 v3 z3 => ?_⟩)⟩
    have d1 : cutV [V.ref ap, .ref ar, .ref av, .int T.reach] (some 1) none = [.ref ar, .ref av, .int T.reach] := cut_from (xs := [V.ref ap, .ref ar, .ref av, .int T.reach]) 1
    rw [d1] at z3
    refine g_addT (z2.keep v3 nin0) z3 (by walk_at "sz") fun q4 D4 v4 z4 => ?_
    have s14 : Keep [] C8 D4 := v1.trans (v2.trans (v3.trans v4))
    have kd4 : KD [p, fo] HA D4 := kd8.trans (KD.of0 s14)
    have kf8 : Keep [fo] C6 C8 := g8.all
    have pPl : ThOk (.tuple [.list (T.places.map .str), .tuple (T.roads.map rdD), .tuple (T.stands.map .str), .int T.reach]) := (th_pts (es := [_, _, _, _]) (by
      have pL : Pt (.list (T.places.map .str)) := ⟨pP.lo, pP.it, by have := pP.c; simp only [cost] at this ⊢; omega, by have := pP.d; simp only [PyData.depth] at this ⊢; omega⟩
      simp only [List.mem_cons, List.not_mem_nil, or_false]; rintro e (rfl | rfl | rfl | rfl) <;> assumption) (by simp)).1
    refine app D4 zs _ _ _ kd4 (s14 _ _ nin0 x8) (by omega) (th9.keep (KD.of0 s14)) (.tup z4 (.cons (.lst ((v2.trans (v3.trans v4)) _ _ nin0 z1) (nwS kf8 (Keep.refl _ _) x8 w1) (da_strs _)) (.cons (dR kd4) (.cons (dZ kd4) (.cons (.int _) .nil))))) pPl (kf8.trans s14.all) fun E1 ke1 fe1 te1 kfe1 => ?_
    have le1 : (zs ++ [V.ref q4]).length = 31 := by rw [List.length_append, l9]; rfl
    generalize (zs ++ [V.ref q4]) = zs1 at fe1 te1 le1
    have d2 : cutV [V.ref ap, .ref ar, .ref av, .int T.reach] none (some 1) = [.ref ap] := cut_upto (xs := [V.ref ap, .ref ar, .ref av, .int T.reach]) 1
    have d3 : cutV [V.ref ap, .ref ar, .ref av, .int T.reach] (some 2) none = [.ref av, .int T.reach] := cut_from (xs := [V.ref ap, .ref ar, .ref av, .int T.reach]) 2
    refine ⟨.inl ⟨rfl, _, .inl (.inl fe1)⟩, g_slT (ke1.t _ _ u1) fun r1 F1 a1' b1' => ?_⟩
    rw [d2] at b1'
    refine g_ixT ((ke1.t _ _ u1).keep a1' nin0) (at_lit 1 rfl rfl) (g_listT ((ke1.t _ _ u3).keep a1' nin0) fun r2 F2 w2' a2' b2' => ⟨by walk_at "sz", fun r3 F3 w3' a3' b3' => g_addT ((b1'.keep a2' nin0).keep a3' nin0) b3' (by walk_at "sz") fun r4 F4 a4' b4' => ?_⟩)
    have s24 : Keep [] E1 F4 := a1'.trans (a2'.trans (a3'.trans a4'))
    refine g_slT ((ke1.t _ _ u1).keep s24 nin0) fun r5 F5 a5' b5' => ?_
    rw [d3] at b5'
    refine g_addT (b4'.keep a5' nin0) b5' (by walk_at "sz") fun r6 F6 a6' b6' => ?_
    have s26 : Keep [] E1 F6 := s24.trans (a5'.trans a6')
    have kd6 : KD [p, fo] HA F6 := ke1.trans (KD.of0 s26)
    have pL2 : Pt (.list (T.roads.map rdD)) := ⟨pR.lo, pR.it, by have := pR.c; simp only [cost] at this ⊢; omega, by have := pR.d; simp only [PyData.depth] at this ⊢; omega⟩
    have dRL : ∀ {S : List Addr} {H1 : Hp}, KD S HA H1 → DaL S H1 vs (T.roads.map rdD) := fun {S H1} k => (da_rds (p := S) u4).keep k
    refine app F6 zs1 _ _ _ kd6 (s26 _ _ nin0 fe1) (by omega) (te1.keep (KD.of0 s26)) (.tup b6' (.cons (dP kd6) (.cons (.lst ((a3'.trans (a4'.trans (a5'.trans a6'))) _ _ nin0 b2') (nwS kfe1 a1' fe1 w2') (dRL kd6)) (.cons (dZ kd6) (.cons (.int _) .nil))))) (th_pts (es := [_, _, _, _]) (by simp only [List.mem_cons, List.not_mem_nil, or_false]; rintro e (rfl | rfl | rfl | rfl) <;> assumption) (by simp)).1 (kfe1.trans s26.all) fun E2 ke2 fe2 te2 kfe2 => ?_
    have le2 : (zs1 ++ [V.ref r6]).length = 32 := by rw [List.length_append, le1]; rfl
    generalize (zs1 ++ [V.ref r6]) = zs2 at fe2 te2 le2
    refine g_ixT (ke2.t _ _ u1) (at_lit 1 rfl rfl) ?_
    have hrv : RdsAt E2 vs T.roads := by
      have : ∀ {vs : List V} {rs : List Rd}, RdsAt HA vs rs → RdsAt E2 vs rs := by
        intro vs rs h
        induction h with
        | nil => exact .nil
        | cons h _ ih => exact .cons (ke2.t _ _ h) ih
      exact this u4
    refine g_CED (RR := fun H v r => ∃ q, v = .ref q ∧ RdAt H q r) (.inr (ke2.t _ _ u3)) (ei_rds hrv) (fun H H' x r ⟨q, e, h⟩ k => ⟨q, e, h.keep k noTup0⟩) (fun D i H' acc => EI (RlAt [p, fo] D H') acc (T.roads.take i)) (fun D H2 _ _ => .nil) ?_ ?_
    · rintro D i x r J1 acc R nD er kJ eD ⟨rq, rfl, hrq⟩ hacc hR
      walk_at "sx"
      refine g_listT hrq fun nl J2 nn kk ee => hR _ J2 kk ?_ fun J3 k3' => ?_
      · have := hacc.length
        rw [this, List.length_take]
        have := ok.r18
        exact len_lt (by omega)
      · rw [take_one er]
        have nlD : nl ≠ D := fun z => by rw [z, eD] at nn; cases nn
        refine ei_snoc ⟨nl, rfl, k3' _ _ (nin1 nlD) ee, nwS kfe2 kJ fe2 nn, nlD⟩ (ei_mono (fun v r ⟨q, e, h, n, nd⟩ => ⟨q, e, k3' _ _ (nin1 nd) (kk _ _ nin0 h), n, nd⟩) hacc)
    rintro D J1 acc nD kJ eD hacc
    rw [List.take_length] at hacc
    have lls := rl_da hacc
    refine g_tupleL eD fun ltp J2 nlt kj2 tlt => ?_
    have kdJ : KD [p, fo] HA J2 := ke2.trans (KD.of0 (kJ.trans kj2))
    have dLL : Da [p, fo] J2 (.ref ltp) (.tuple (T.roads.map rdLD)) := .tup tlt (lls.keep (KD.of0 kj2))
    have feJ := kj2 _ _ nin0 (kJ _ _ nin0 fe2)
    have kfJ : Keep [fo] C6 J2 := kfe2.trans (kJ.trans kj2).all
    have teJ := te2.keep (KD.of0 (p := [p, fo]) (kJ.trans kj2))
    walk_at "sx"
    refine ⟨.inl ⟨rfl, _, .inl (.inl feJ)⟩, g_slT (kdJ.t _ _ u1) fun r1 F1 a1' b1' => ?_⟩
    rw [d2] at b1'
    refine ⟨by walk_at "sz", fun r3 F3 w3' a3' b3' => g_addT (b1'.keep a3' nin0) b3' (by walk_at "sz") fun r4 F4 a4' b4' => ?_⟩
    have s24 : Keep [] J2 F4 := a1'.trans (a3'.trans a4')
    refine g_slT ((kdJ.t _ _ u1).keep s24 nin0) fun r5 F5 a5' b5' => ?_
    rw [d3] at b5'
    refine g_addT (b4'.keep a5' nin0) b5' (by walk_at "sz") fun r6 F6 a6' b6' => ?_
    have s26 : Keep [] J2 F6 := s24.trans (a5'.trans a6')
    have kd6 : KD [p, fo] HA F6 := kdJ.trans (KD.of0 s26)
    have pRL := pt_rl ok
    refine app F6 zs2 _ _ _ kd6 (s26 _ _ nin0 feJ) (by omega) (teJ.keep (KD.of0 s26)) (.tup b6' (.cons (dP kd6) (.cons (dLL.keep (KD.of0 s26)) (.cons (dZ kd6) (.cons (.int _) .nil))))) (th_pts (es := [_, _, _, _]) (by simp only [List.mem_cons, List.not_mem_nil, or_false]; rintro e (rfl | rfl | rfl | rfl) <;> assumption) (by simp)).1 (kfJ.trans s26.all) fun E3 ke3 fe3 te3 kfe3 => ?_
    have le3 : (zs2 ++ [V.ref r6]).length = 33 := by rw [List.length_append, le2]; rfl
    generalize (zs2 ++ [V.ref r6]) = zs3 at fe3 te3 le3
    clear b6' kd6 s26 s24 a6' b5' a5' b4' a4' b3' a3' b1' a1'
    have d4 : cutV [V.ref ap, .ref ar, .ref av, .int T.reach] none (some 2) = [.ref ap, .ref ar] := cut_upto (xs := [V.ref ap, .ref ar, .ref av, .int T.reach]) 2
    refine ⟨.inl ⟨rfl, _, .inl (.inl fe3)⟩, g_slT (ke3.t _ _ u1) fun r1 F1 a1' b1' => ?_⟩
    rw [d4] at b1'
    refine g_ixT ((ke3.t _ _ u1).keep a1' nin0) (at_lit 2 rfl rfl) (g_listT ((ke3.t _ _ u5).keep a1' nin0) fun r2 F2 w2' a2' b2' => g_ixT (((ke3.t _ _ u1).keep a1' nin0).keep a2' nin0) (at_lit 3 rfl rfl) ⟨by walk_at "sz", fun r3 F3 w3' a3' b3' => g_addT ((b1'.keep a2' nin0).keep a3' nin0) b3' (by walk_at "sz") fun r4 F4 a4' b4' => ?_⟩)
    have s24 : Keep [] E3 F4 := a1'.trans (a2'.trans (a3'.trans a4'))
    have kd6 : KD [p, fo] HA F4 := ke3.trans (KD.of0 s24)
    have pZL : Pt (.list (T.stands.map .str)) := ⟨pZ.lo, pZ.it, by have := pZ.c; simp only [cost] at this ⊢; omega, by have := pZ.d; simp only [PyData.depth] at this ⊢; omega⟩
    refine app F4 zs3 _ _ _ kd6 (s24 _ _ nin0 fe3) (by omega) (te3.keep (KD.of0 s24)) (.tup b4' (.cons (dP kd6) (.cons (dR kd6) (.cons (.lst ((a3'.trans a4') _ _ nin0 b2') (nwS kfe3 a1' fe3 w2') (da_strs _)) (.cons (.int _) .nil))))) (th_pts (es := [_, _, _, _]) (by simp only [List.mem_cons, List.not_mem_nil, or_false]; rintro e (rfl | rfl | rfl | rfl) <;> assumption) (by simp)).1 (kfe3.trans s24.all) fun E4 ke4 fe4 te4 kfe4 => ?_
    have le4 : (zs3 ++ [V.ref r4]).length = 34 := by rw [List.length_append, le3]; rfl
    generalize (zs3 ++ [V.ref r4]) = zs4 at fe4 te4 le4
    clear b4' kd6 s24 a4' b3' a3' b2' a2' b1' a1'
    refine ⟨30, rfl, by decide, by decide, fun y1 F1 a1' dy1 => ?_⟩
    walk_at "sx"
    refine g_slT ((ke4.t _ _ u1).keep a1' nin0) fun r2 F2 a2' b2' => ?_
    rw [c2] at b2'
    refine ⟨28, rfl, by decide, by decide, fun y2 F3 a3' dy2 => ⟨by walk_at "sz", fun r4 F4 w4' a4' b4' => g_addT ((b2'.keep a3' nin0).keep a4' nin0) b4' (by walk_at "sz") fun r5 F5 a5' b5' => ⟨by walk_at "sz", fun r6 F6 w6' a6' b6' => ?_⟩⟩⟩
    have s16 : Keep [] E4 F6 := a1'.trans (a2'.trans (a3'.trans (a4'.trans (a5'.trans a6'))))
    refine g_addL (s16 _ _ nin0 fe4) b6' (by rw [le4]; exact len_le (by show 34 + 2 ≤ 1000000; decide)) fun r7 F7 w7' a7' b7' => ?_
    have s17 := s16.trans a7'
    have kd7 : KD [p, fo] HA F7 := ke4.trans (KD.of0 s17)
    obtain ⟨q1a, q1b, q1c, q1d⟩ := pt_deep 29
    obtain ⟨q2a, q2b, q2c, q2d⟩ := pt_deep 27
    have pd : Pt (deepD 27) := ⟨q2a, q2b, by omega, by omega⟩
    have th7 : ThL [p, fo] F7 (zs4 ++ [y1, V.ref r5]) := by
      refine (te4.keep (KD.of0 s17)).app (ThL.cons ((dy1 _).keep (KD.of0 (a2'.trans (a3'.trans (a4'.trans (a5'.trans (a6'.trans a7'))))))) ⟨q1a, q1b, by show cost (deepD 29) ≤ _; omega, by show (deepD 29).depth ≤ _; omega⟩ ?_)
      exact ThL.cons (.tup ((b5'.keep a6' nin0).keep a7' nin0) (.cons (dP kd7) (.cons (dR kd7) (.cons (dZ kd7) (.cons ((dy2 _).keep (KD.of0 (a4'.trans (a5'.trans (a6'.trans a7'))))) .nil))))) (th_pts (es := [_, _, _, _]) (by simp only [List.mem_cons, List.not_mem_nil, or_false]; rintro e (rfl | rfl | rfl | rfl) <;> assumption) (by simp)).1 ThL.nil
    have le7 : (zs4 ++ [y1, V.ref r5]).length = 36 := by rw [List.length_append, le4]; rfl
    generalize (zs4 ++ [y1, V.ref r5]) = zs7 at b7' th7 le7
    walk_at "sx"
    refine g_slT (kd7.t _ _ u1) fun m2 G2 c2' e2' => ?_
    rw [c2] at e2'
    refine g_ixT ((kd7.t _ _ u1).keep c2' nin0) (at_lit 3 rfl rfl) (g_eq rfl ⟨by walk_at "sz", fun m3 G3 w3' c3' e3' => g_addT (e2'.keep c3' nin0) e3' (by walk_at "sz") fun m4 G4 c4' e4' => ⟨by walk_at "sz", fun m5 G5 w5' c5' e5' => ?_⟩⟩)
    have t15 : Keep [] F7 G5 := c2'.trans (c3'.trans (c4'.trans c5'))
    refine g_addL (t15 _ _ nin0 b7') e5' (by rw [le7]; exact len_le (by show 36 + 1 ≤ 1000000; decide)) fun m6 G6 w6' c6' e6' => ?_
    have t16 := t15.trans c6'
    have kd9 : KD [p, fo] HA G6 := kd7.trans (KD.of0 t16)
    have kfG : Keep [fo] C6 G6 := kfe4.trans (s17.trans t16).all
    have pb : ∀ b : Bool, Pt (.bool b) := fun b => ⟨trivial, trivial, by simp [cost], by simp [PyData.depth]⟩
    refine q m6 fo G6 _ ((kA.trans h18.all).past kfG ((kA.trans h18.all).free (nin1 fop) n8')) ((pen kfG).less (by omega)) e6' (by rw [List.length_append, le7]; show 36 + 1 ≤ 100; decide) ?_
    exact (th7.keep (KD.of0 t16)).app (ThL.cons (.tup ((e4'.keep c5' nin0).keep c6' nin0) (.cons (dP kd9) (.cons (dR kd9) (.cons (dZ kd9) (.cons (.bl _) .nil))))) (th_pts (es := [_, _, _, _]) (by
      simp only [List.mem_cons, List.not_mem_nil, or_false]
      rintro e (rfl | rfl | rfl | rfl)
      · assumption
      · assumption
      · assumption
      · exact pb _) (by simp)).1 ThL.nil)


/-! ### the law -/
theorem Pen.kt {L : List Addr} {H H' : Hp} {p : Addr} {k : Nat} (h : Pen H p k) (ht : Tabs L H) (kk : KT L H H') : Pen H' p k := by
  obtain ⟨d, c, n, e, r⟩ := h
  exact ⟨d, c, n, kk.k _ _ (ht.lst e) e, r⟩
theorem TnAt.ktX {L : List Addr} {H H' : Hp} {a : Addr} {T : Tn} (h : TnAt H a T) (ht : Tabs L H) (k : KT L H H') : TnAt H' a T := h.keep k.k ht.noTup
theorem Pen.ninT {L : List Addr} {H : Hp} {p : Addr} {k : Nat} (h : Pen H p k) (ht : Tabs L H) : p ∉ L := by
  obtain ⟨d, c, n, e, r⟩ := h
  exact ht.lst e
theorem Tabs.keepPX {L : List Addr} {H H' : Hp} {p : Addr} (h : Tabs L H) (k : Keep [p] H H') (n : p ∉ L) : Tabs L H' := fun b hb => by
  obtain ⟨ps, e, t⟩ := h b hb
  exact ⟨ps, k _ _ (nin1 fun z => n (z ▸ hb)) e, t⟩
theorem Scr.keepP {K : PySem.W.Frag} {H H' : Hp} {a p : Addr} {xs : List V} {k : Nat} (h : Scr K H a xs) (hp : Pen H p k) (kk : Keep [p] H H') : Scr K H' a xs := by
  obtain ⟨d, c, n, e, _⟩ := hp
  refine h.elim (fun ⟨o, e2⟩ => .inl ⟨o, kk _ _ (nin1 fun z => ?_) e2⟩) .inr
  rw [z, e] at e2
  cases e2

theorem nodup_true {ys : List Str} (h : ys.Nodup) : decide (strsP (ys.map .str)).Nodup = true := by
  rw [strs_map]
  exact decide_eq_true h
theorem town_true {T : Tn} (ok : TnOk T) : townP (tnD T) = true := by
  have pl : placesP 10 (.tuple (T.places.map .str)) = true := by
    rw [placesP_t, List.length_map, decide_eq_true ok.p1, decide_eq_true ok.p10, nodup_true ok.nd, Bool.and_true, Bool.and_true, Bool.true_and, List.all_map]
    exact List.all_eq_true.mpr fun y hy => nameV_ok (ok.nm y hy)
  have st : standsP T.places (.tuple (T.stands.map .str)) = true := by
    rw [standsP_t, List.length_map, decide_eq_true ok.s1, decide_eq_true ok.s5, nodup_true ok.sn, Bool.and_true, Bool.and_true, Bool.true_and, List.all_map]
    exact List.all_eq_true.mpr fun y hy => decide_eq_true (ok.sp y hy)
  have dr : ∀ m : Option Int, minOk m → driveP (mDp m) = true := fun m h => by
    cases m with
    | none => rfl
    | some i =>
      have := h i rfl
      show (false || (decide (1 ≤ i) && decide (i ≤ 60))) = true
      simp [this.1, this.2]
  have rd : roadsP T.places (.tuple (T.roads.map rdD)) = true := by
    rw [roadsP_t, List.length_map, decide_eq_true ok.r18, Bool.true_and, List.all_map]
    refine List.all_eq_true.mpr fun r hr => ?_
    have o := ok.rd r hr
    show roadX T.places (rdD r) = true
    unfold rdD
    rw [roadX_t, dr _ o.there, dr _ o.back, show Wg.inP (.str r.one) T.places = true from decide_eq_true o.one, show Wg.inP (.str r.two) T.places = true from decide_eq_true o.two, show sameP (.str r.one) (.str r.two) = false from decide_eq_false o.ne]
    have no : (isNoP (mDp r.there) && isNoP (mDp r.back)) = false := by
      cases h1 : r.there with
      | some _ => rfl
      | none =>
        cases h2 : r.back with
        | some _ => rfl
        | none => exact absurd o.some (by rw [h1, h2]; simp)
    rw [no]
    rfl
  have re : wholeP 0 120 (.int T.reach) = true := by
    show (decide (0 ≤ T.reach) && decide (T.reach ≤ 120)) = true
    simp [ok.re0, ok.re1]
  unfold tnD
  rw [townP_t, pl, show namesOf (.tuple (T.places.map .str)) = T.places from strs_map _, rd, st, re]
  rfl
def spLaw (K : PySem.W.Frag) (L : List Addr) : Sp := fun vs H Q _ => ∃ (a : Addr) (ns : List Int), vs = [.ref a] ∧ Scr K H a (ns.map V.int) ∧ ns.length ≤ 63 ∧ Tabs L H ∧ ∀ H', Q (.bl true) H'
theorem g_repB {K : PySem.W.Frag} {H : Hp} {b : Bool} {Q : VK} (q : Q (.str (PyData.bool b).shown) H) : uReprX K [.bl b] H Q := g_repX (.dp (.bl b)) trivial (by simp [PyData.depth]) (by simp [cost]) q
theorem g_repT {K : PySem.W.Frag} {S : List Addr} {H : Hp} {v : V} {e : PyData} {Q : VK} (h : Da S H v e) (o : ThOk e) (q : Q (.str e.shown) H) : uReprX K [v] H Q := g_repX h.dr (loD_fine (by decide +kernel) o.lo o.it) (Nat.le_trans o.d (by decide)) (Nat.le_trans o.c (by decide)) q
theorem rd_law (K : PySem.W.Frag) {L : List Addr} : ∀ vs H Q E, spLaw K L vs H Q E → run (t_law K (spPen K) spTownP (spIsTownX L) spThings spIsTownLX) (L2.start N_law vs) H Q := by
  rintro _ H Q _ ⟨a, ns, rfl, hS, hl, htb, q⟩
  show run (t_law K (spPen K) spTownP (spIsTownX L) spThings spIsTownLX) [some (.ref a), none, none, none, none, none] H Q
  unfold t_law
  walk_at "sx"
  refine g_lenQ hS.sq ?_
  walk_at "sx"
  rw [List.length_map]
  refine g_FR1 (by split <;> split <;> omega) (by split <;> split <;> omega) ⟨fun i σ H' => ∃ (x1 x2 x3 x4 x5 : Option V), σ = [some (.ref a), x1, x2, x3, x4, x5] ∧ Scr K H' a (ns.map V.int) ∧ Tabs L H', ⟨_, _, _, _, _, rfl, hS, htb⟩, ?_, ?_⟩
  · rintro i σ H1 hi ⟨x1, x2, x3, x4, x5, rfl, hS1, tb1⟩
    walk_at "sx"
    unfold t_law_b2
    walk_at "sx"
    refine ⟨a, _, ns, rfl, hS1.sq, Int.natCast_nonneg i, fun p H2 n2 k2 hp => ?_⟩
    walk_at "sx"
    have tb2 := tb1.keep0 k2
    have s2 := hS1.keep0 k2
    refine ⟨p, 999500, rfl, hp, fun t H3 T k3 p3 hT ok => ?_⟩
    have tb3 := tb2.keepPX k3 (hp.ninT tb2)
    have s3 := s2.keepP hp k3
    walk_at "sx"
    obtain ⟨_, _, _, _, _, _, _, _, _, dT⟩ := da_town (p := [p]) hT
    have sm := sm_tn ok
    refine ⟨[p], .ref t, tnD T, rfl, dT, Nat.le_trans sm.c (by decide), tb3, fun H4 k4 => ?_⟩
    rw [town_true ok]
    refine ⟨true, true, rfl, rfl, ⟨_, rfl, ?_⟩⟩
    rw [if_neg (by decide)]
    have tb4 := k4.t tb3
    have s4 := s3.kt tb3 k4
    have hp4 := p3.kt tb3 k4
    have hT4 : TnAt H4 t T := hT.keep k4.k tb3.noTup
    unfold t_law_r2
    walk_at "sx"
    refine ⟨p, t, T, 998500, rfl, hp4, hT4, ok, fun fa f H5 xs k5 p5 e5 l5 th5 => ?_⟩
    have tb5 := tb4.keepPX k5 (hp4.ninT tb4)
    have s5 := s4.keepP hp4 k5
    have kd5 : KD [p] H4 H5 := KD.ofP (by simp) hp4 k5
    obtain ⟨es, hes, oes⟩ := th5
    have dT5 : Da [p] H5 (.ref t) (tnD T) := by
      obtain ⟨_, _, _, _, _, _, _, _, _, d⟩ := da_town (p := [p]) hT4
      exact d.keep kd5
    refine g_FL (fun j σ H' => ∃ (y4 y5 : Option V), σ = [some (.ref a), some (.int (i : Nat)), some (.ref p), some (.ref t), y4, y5] ∧ H' fa = some (.lst xs) ∧ DaL [p, f] H' xs es ∧ Scr K H' a (ns.map V.int) ∧ Tabs L H' ∧ Da [p] H' (.ref t) (tnD T)) (lst_sq e5) ⟨_, _, rfl, e5, hes, s5, tb5, dT5⟩ (fun j σ H' _ ⟨_, _, _, e, _⟩ => lst_sq e) ?_ ?_
    · rintro j x σ H6 hx ⟨y4, y5, rfl, e6, hes6, s6, tb6, dT6⟩
      have lj : j < es.length := by rw [← hes.len]; exact (List.getElem?_eq_some_iff.mp hx).1
      obtain ⟨e, he⟩ : ∃ e, es[j]? = some e := ⟨_, List.getElem?_eq_getElem lj⟩
      obtain ⟨x', hx', hda⟩ := hes6.get he
      obtain rfl : x = x' := Option.some.inj (hx.symm.trans hx')
      have oe := oes e (List.mem_of_getElem? he)
      walk_at "sx"
      unfold t_law_b1
      walk_at "sx"
      refine g_repT hda oe ?_
      walk_at "sx"
      refine ⟨[p, f], x, e, rfl, hda, oe.c, tb6, fun H7 k7 => g_repB ?_⟩
      have kd7 : KD [p, f] H6 H7 := KD.ofT tb6 k7
      have tb7 := k7.t tb6
      refine ⟨[p, f], x, e, rfl, hda.keep kd7, oe.c, oe.lo, fun H8 k8 => g_repB (g_ne rfl ⟨_, rfl, ?_⟩)⟩
      rw [decide_eq_true rfl, if_neg (by decide)]
      have kd8 : KD [p, f] H6 H8 := kd7.trans (KD.of0 k8)
      refine g_repT (hda.keep kd8) oe (g_ne rfl ⟨_, rfl, ?_⟩)
      rw [decide_eq_true rfl, if_neg (by decide)]
      exact ⟨_, _, rfl, k8 _ _ nin0 (k7.k _ _ (tb6.lst e6) e6), hes6.keep kd8, (s6.kt tb6 k7).keep0 k8, tb7.keep0 k8, dT6.keep ((KD.ofT tb6 k7).trans (KD.of0 k8))⟩
    · rintro σ H6 ⟨y4, y5, rfl, e6, hes6, s6, tb6, dT6⟩
      unfold t_law_r1
      walk_at "sx"
      refine ⟨[p], .ref t, tnD T, rfl, dT6, Nat.le_trans sm.c (by decide), tb6, fun H7 k7 => ?_⟩
      rw [town_true ok]
      refine ⟨true, true, rfl, rfl, ⟨_, rfl, ?_⟩⟩
      rw [if_neg (by decide)]
      have tb7 := k7.t tb6
      refine ⟨[p], .ref t, tnD T, rfl, dT6.keep (KD.ofT tb6 k7), Nat.le_trans sm.c (by decide), (town_lo ok).1, fun H8 k8 => ⟨_, rfl, ?_⟩⟩
      rw [town_true ok, if_neg (by decide)]
      exact ⟨_, _, _, _, _, rfl, (s6.kt tb6 k7).keep0 k8, tb7.keep0 k8⟩
  · rintro σ H1 ⟨x1, x2, x3, x4, x5, rfl, hS1, tb1⟩
    unfold t_law_r3
    walk_at "sx"
    exact q H1


theorem all_mk {P q : Program} {w : World} {K : PySem.W.Frag} {h : Heap} {mg : Str → Option Value} {fa : Addr} (X : K.In h) (G : h.Ns mainGlobals mg) (hfa : mg "law" = some (.ref fa))
    {a_is_whole : Addr} {od_is_whole an_is_whole : Option Addr} {sl_is_whole : Array (Option Value)} {oc_is_whole kV_is_whole dc_is_whole pm_is_whole cd_is_whole ct_is_whole : Value}
    (ad_is_whole : PySem.W.nsIn K mainGlobals "is_whole" = some (some (.ref a_is_whole)))
    (lo_is_whole : K.lookup a_is_whole = some ⟨oc_is_whole, od_is_whole, .func (PySem.W.fnOf "is_whole" "is_whole" (defArgs s_is_whole_) (defBody s_is_whole_) (defScope s_is_whole_) .none kV_is_whole dc_is_whole pm_is_whole an_is_whole cd_is_whole ct_is_whole), sl_is_whole⟩)
    (co_is_whole : PySem.W.codeIn K cd_is_whole "is_whole" = true) (kp_is_whole : PySem.W.keepIn K (.ref a_is_whole) = true)
    {a_is_within : Addr} {od_is_within an_is_within : Option Addr} {sl_is_within : Array (Option Value)} {oc_is_within kV_is_within dc_is_within pm_is_within cd_is_within ct_is_within : Value}
    (ad_is_within : PySem.W.nsIn K mainGlobals "is_within" = some (some (.ref a_is_within)))
    (lo_is_within : K.lookup a_is_within = some ⟨oc_is_within, od_is_within, .func (PySem.W.fnOf "is_within" "is_within" (defArgs s_is_within_) (defBody s_is_within_) (defScope s_is_within_) .none kV_is_within dc_is_within pm_is_within an_is_within cd_is_within ct_is_within), sl_is_within⟩)
    (co_is_within : PySem.W.codeIn K cd_is_within "is_within" = true) (kp_is_within : PySem.W.keepIn K (.ref a_is_within) = true)
    {a_is_name tc_is_name P_is_name : Addr} {od_is_name an_is_name : Option Addr} {sl_is_name : Array (Option Value)} {oc_is_name kV_is_name dc_is_name pm_is_name ct_is_name : Value}
    (ad_is_name : PySem.W.nsIn K mainGlobals "is_name" = some (some (.ref a_is_name)))
    (lo_is_name : K.lookup a_is_name = some ⟨oc_is_name, od_is_name, .func (PySem.W.fnOf "is_name" "is_name" (defArgs s_is_name_) (defBody s_is_name_) (defScope s_is_name_) .none kV_is_name dc_is_name pm_is_name an_is_name (.ref tc_is_name) ct_is_name), sl_is_name⟩)
    (co_is_name : PySem.W.codeIn K (.ref tc_is_name) "is_name" = true) (kp_is_name : PySem.W.keepIn K (.ref a_is_name) = true)
    (tb_is_name : tabIn K tc_is_name = some P_is_name) (re_is_name : ((recsOf q).any fun e => e.name == "is_name") = true)
    {a__are_unlike : Addr} {od__are_unlike an__are_unlike : Option Addr} {sl__are_unlike : Array (Option Value)} {oc__are_unlike kV__are_unlike dc__are_unlike pm__are_unlike cd__are_unlike ct__are_unlike : Value}
    (ad__are_unlike : PySem.W.nsIn K mainGlobals "_are_unlike" = some (some (.ref a__are_unlike)))
    (lo__are_unlike : K.lookup a__are_unlike = some ⟨oc__are_unlike, od__are_unlike, .func (PySem.W.fnOf "_are_unlike" "_are_unlike" (defArgs s__are_unlike_) (defBody s__are_unlike_) (defScope s__are_unlike_) .none kV__are_unlike dc__are_unlike pm__are_unlike an__are_unlike cd__are_unlike ct__are_unlike), sl__are_unlike⟩)
    (co__are_unlike : PySem.W.codeIn K cd__are_unlike "_are_unlike" = true) (kp__are_unlike : PySem.W.keepIn K (.ref a__are_unlike) = true)
    {a__are_places tc__are_places P__are_places : Addr} {od__are_places an__are_places : Option Addr} {sl__are_places : Array (Option Value)} {oc__are_places kV__are_places dc__are_places pm__are_places ct__are_places : Value}
    (ad__are_places : PySem.W.nsIn K mainGlobals "_are_places" = some (some (.ref a__are_places)))
    (lo__are_places : K.lookup a__are_places = some ⟨oc__are_places, od__are_places, .func (PySem.W.fnOf "_are_places" "_are_places" (defArgs s__are_places_) (defBody s__are_places_) (defScope s__are_places_) .none kV__are_places dc__are_places pm__are_places an__are_places (.ref tc__are_places) ct__are_places), sl__are_places⟩)
    (co__are_places : PySem.W.codeIn K (.ref tc__are_places) "_are_places" = true) (kp__are_places : PySem.W.keepIn K (.ref a__are_places) = true)
    (tb__are_places : tabIn K tc__are_places = some P__are_places) (re__are_places : ((recsOf q).any fun e => e.name == "_are_places") = true)
    {a__is_drive : Addr} {od__is_drive an__is_drive : Option Addr} {sl__is_drive : Array (Option Value)} {oc__is_drive kV__is_drive dc__is_drive pm__is_drive cd__is_drive ct__is_drive : Value}
    (ad__is_drive : PySem.W.nsIn K mainGlobals "_is_drive" = some (some (.ref a__is_drive)))
    (lo__is_drive : K.lookup a__is_drive = some ⟨oc__is_drive, od__is_drive, .func (PySem.W.fnOf "_is_drive" "_is_drive" (defArgs s__is_drive_) (defBody s__is_drive_) (defScope s__is_drive_) .none kV__is_drive dc__is_drive pm__is_drive an__is_drive cd__is_drive ct__is_drive), sl__is_drive⟩)
    (co__is_drive : PySem.W.codeIn K cd__is_drive "_is_drive" = true) (kp__is_drive : PySem.W.keepIn K (.ref a__is_drive) = true)
    {a_is_road : Addr} {od_is_road an_is_road : Option Addr} {sl_is_road : Array (Option Value)} {oc_is_road kV_is_road dc_is_road pm_is_road cd_is_road ct_is_road : Value}
    (ad_is_road : PySem.W.nsIn K mainGlobals "is_road" = some (some (.ref a_is_road)))
    (lo_is_road : K.lookup a_is_road = some ⟨oc_is_road, od_is_road, .func (PySem.W.fnOf "is_road" "is_road" (defArgs s_is_road_) (defBody s_is_road_) (defScope s_is_road_) .none kV_is_road dc_is_road pm_is_road an_is_road cd_is_road ct_is_road), sl_is_road⟩)
    (co_is_road : PySem.W.codeIn K cd_is_road "is_road" = true) (kp_is_road : PySem.W.keepIn K (.ref a_is_road) = true)
    {a__are_roads tc__are_roads P__are_roads : Addr} {od__are_roads an__are_roads : Option Addr} {sl__are_roads : Array (Option Value)} {oc__are_roads kV__are_roads dc__are_roads pm__are_roads ct__are_roads : Value}
    (ad__are_roads : PySem.W.nsIn K mainGlobals "_are_roads" = some (some (.ref a__are_roads)))
    (lo__are_roads : K.lookup a__are_roads = some ⟨oc__are_roads, od__are_roads, .func (PySem.W.fnOf "_are_roads" "_are_roads" (defArgs s__are_roads_) (defBody s__are_roads_) (defScope s__are_roads_) .none kV__are_roads dc__are_roads pm__are_roads an__are_roads (.ref tc__are_roads) ct__are_roads), sl__are_roads⟩)
    (co__are_roads : PySem.W.codeIn K (.ref tc__are_roads) "_are_roads" = true) (kp__are_roads : PySem.W.keepIn K (.ref a__are_roads) = true)
    (tb__are_roads : tabIn K tc__are_roads = some P__are_roads) (re__are_roads : ((recsOf q).any fun e => e.name == "_are_roads") = true)
    {a__are_stands tc__are_stands P__are_stands : Addr} {od__are_stands an__are_stands : Option Addr} {sl__are_stands : Array (Option Value)} {oc__are_stands kV__are_stands dc__are_stands pm__are_stands ct__are_stands : Value}
    (ad__are_stands : PySem.W.nsIn K mainGlobals "_are_stands" = some (some (.ref a__are_stands)))
    (lo__are_stands : K.lookup a__are_stands = some ⟨oc__are_stands, od__are_stands, .func (PySem.W.fnOf "_are_stands" "_are_stands" (defArgs s__are_stands_) (defBody s__are_stands_) (defScope s__are_stands_) .none kV__are_stands dc__are_stands pm__are_stands an__are_stands (.ref tc__are_stands) ct__are_stands), sl__are_stands⟩)
    (co__are_stands : PySem.W.codeIn K (.ref tc__are_stands) "_are_stands" = true) (kp__are_stands : PySem.W.keepIn K (.ref a__are_stands) = true)
    (tb__are_stands : tabIn K tc__are_stands = some P__are_stands) (re__are_stands : ((recsOf q).any fun e => e.name == "_are_stands") = true)
    {a_is_town : Addr} {od_is_town an_is_town : Option Addr} {sl_is_town : Array (Option Value)} {oc_is_town kV_is_town dc_is_town pm_is_town cd_is_town ct_is_town : Value}
    (ad_is_town : PySem.W.nsIn K mainGlobals "is_town" = some (some (.ref a_is_town)))
    (lo_is_town : K.lookup a_is_town = some ⟨oc_is_town, od_is_town, .func (PySem.W.fnOf "is_town" "is_town" (defArgs s_is_town_) (defBody s_is_town_) (defScope s_is_town_) .none kV_is_town dc_is_town pm_is_town an_is_town cd_is_town ct_is_town), sl_is_town⟩)
    (co_is_town : PySem.W.codeIn K cd_is_town "is_town" = true) (kp_is_town : PySem.W.keepIn K (.ref a_is_town) = true)
    {a__law_pen : Addr} {od__law_pen an__law_pen : Option Addr} {sl__law_pen : Array (Option Value)} {oc__law_pen kV__law_pen dc__law_pen pm__law_pen cd__law_pen ct__law_pen : Value}
    (ad__law_pen : PySem.W.nsIn K mainGlobals "_law_pen" = some (some (.ref a__law_pen)))
    (lo__law_pen : K.lookup a__law_pen = some ⟨oc__law_pen, od__law_pen, .func (PySem.W.fnOf "_law_pen" "_law_pen" (defArgs s__law_pen_) (defBody s__law_pen_) (defScope s__law_pen_) .none kV__law_pen dc__law_pen pm__law_pen an__law_pen cd__law_pen ct__law_pen), sl__law_pen⟩)
    (co__law_pen : PySem.W.codeIn K cd__law_pen "_law_pen" = true) (kp__law_pen : PySem.W.keepIn K (.ref a__law_pen) = true)
    {a__law_draw : Addr} {od__law_draw an__law_draw : Option Addr} {sl__law_draw : Array (Option Value)} {oc__law_draw kV__law_draw dc__law_draw pm__law_draw cd__law_draw ct__law_draw : Value}
    (ad__law_draw : PySem.W.nsIn K mainGlobals "_law_draw" = some (some (.ref a__law_draw)))
    (lo__law_draw : K.lookup a__law_draw = some ⟨oc__law_draw, od__law_draw, .func (PySem.W.fnOf "_law_draw" "_law_draw" (defArgs s__law_draw_) (defBody s__law_draw_) (defScope s__law_draw_) .none kV__law_draw dc__law_draw pm__law_draw an__law_draw cd__law_draw ct__law_draw), sl__law_draw⟩)
    (co__law_draw : PySem.W.codeIn K cd__law_draw "_law_draw" = true) (kp__law_draw : PySem.W.keepIn K (.ref a__law_draw) = true)
    {a__law_signs : Addr} {od__law_signs an__law_signs : Option Addr} {sl__law_signs : Array (Option Value)} {oc__law_signs kV__law_signs dc__law_signs pm__law_signs cd__law_signs ct__law_signs : Value}
    (ad__law_signs : PySem.W.nsIn K mainGlobals "_law_signs" = some (some (.ref a__law_signs)))
    (lo__law_signs : K.lookup a__law_signs = some ⟨oc__law_signs, od__law_signs, .func (PySem.W.fnOf "_law_signs" "_law_signs" (defArgs s__law_signs_) (defBody s__law_signs_) (defScope s__law_signs_) .none kV__law_signs dc__law_signs pm__law_signs an__law_signs cd__law_signs ct__law_signs), sl__law_signs⟩)
    (co__law_signs : PySem.W.codeIn K cd__law_signs "_law_signs" = true) (kp__law_signs : PySem.W.keepIn K (.ref a__law_signs) = true)
    {a__law_word : Addr} {od__law_word an__law_word : Option Addr} {sl__law_word : Array (Option Value)} {oc__law_word kV__law_word dc__law_word pm__law_word cd__law_word ct__law_word : Value}
    (ad__law_word : PySem.W.nsIn K mainGlobals "_law_word" = some (some (.ref a__law_word)))
    (lo__law_word : K.lookup a__law_word = some ⟨oc__law_word, od__law_word, .func (PySem.W.fnOf "_law_word" "_law_word" (defArgs s__law_word_) (defBody s__law_word_) (defScope s__law_word_) .none kV__law_word dc__law_word pm__law_word an__law_word cd__law_word ct__law_word), sl__law_word⟩)
    (co__law_word : PySem.W.codeIn K cd__law_word "_law_word" = true) (kp__law_word : PySem.W.keepIn K (.ref a__law_word) = true)
    {a__law_names : Addr} {od__law_names an__law_names : Option Addr} {sl__law_names : Array (Option Value)} {oc__law_names kV__law_names dc__law_names pm__law_names cd__law_names ct__law_names : Value}
    (ad__law_names : PySem.W.nsIn K mainGlobals "_law_names" = some (some (.ref a__law_names)))
    (lo__law_names : K.lookup a__law_names = some ⟨oc__law_names, od__law_names, .func (PySem.W.fnOf "_law_names" "_law_names" (defArgs s__law_names_) (defBody s__law_names_) (defScope s__law_names_) .none kV__law_names dc__law_names pm__law_names an__law_names cd__law_names ct__law_names), sl__law_names⟩)
    (co__law_names : PySem.W.codeIn K cd__law_names "_law_names" = true) (kp__law_names : PySem.W.keepIn K (.ref a__law_names) = true)
    {a__law_minutes : Addr} {od__law_minutes an__law_minutes : Option Addr} {sl__law_minutes : Array (Option Value)} {oc__law_minutes kV__law_minutes dc__law_minutes pm__law_minutes cd__law_minutes ct__law_minutes : Value}
    (ad__law_minutes : PySem.W.nsIn K mainGlobals "_law_minutes" = some (some (.ref a__law_minutes)))
    (lo__law_minutes : K.lookup a__law_minutes = some ⟨oc__law_minutes, od__law_minutes, .func (PySem.W.fnOf "_law_minutes" "_law_minutes" (defArgs s__law_minutes_) (defBody s__law_minutes_) (defScope s__law_minutes_) .none kV__law_minutes dc__law_minutes pm__law_minutes an__law_minutes cd__law_minutes ct__law_minutes), sl__law_minutes⟩)
    (co__law_minutes : PySem.W.codeIn K cd__law_minutes "_law_minutes" = true) (kp__law_minutes : PySem.W.keepIn K (.ref a__law_minutes) = true)
    {a__law_town : Addr} {od__law_town an__law_town : Option Addr} {sl__law_town : Array (Option Value)} {oc__law_town kV__law_town dc__law_town pm__law_town cd__law_town ct__law_town : Value}
    (ad__law_town : PySem.W.nsIn K mainGlobals "_law_town" = some (some (.ref a__law_town)))
    (lo__law_town : K.lookup a__law_town = some ⟨oc__law_town, od__law_town, .func (PySem.W.fnOf "_law_town" "_law_town" (defArgs s__law_town_) (defBody s__law_town_) (defScope s__law_town_) .none kV__law_town dc__law_town pm__law_town an__law_town cd__law_town ct__law_town), sl__law_town⟩)
    (co__law_town : PySem.W.codeIn K cd__law_town "_law_town" = true) (kp__law_town : PySem.W.keepIn K (.ref a__law_town) = true)
    {a__law_is_name : Addr} {od__law_is_name an__law_is_name : Option Addr} {sl__law_is_name : Array (Option Value)} {oc__law_is_name kV__law_is_name dc__law_is_name pm__law_is_name cd__law_is_name ct__law_is_name : Value}
    (ad__law_is_name : PySem.W.nsIn K mainGlobals "_law_is_name" = some (some (.ref a__law_is_name)))
    (lo__law_is_name : K.lookup a__law_is_name = some ⟨oc__law_is_name, od__law_is_name, .func (PySem.W.fnOf "_law_is_name" "_law_is_name" (defArgs s__law_is_name_) (defBody s__law_is_name_) (defScope s__law_is_name_) .none kV__law_is_name dc__law_is_name pm__law_is_name an__law_is_name cd__law_is_name ct__law_is_name), sl__law_is_name⟩)
    (co__law_is_name : PySem.W.codeIn K cd__law_is_name "_law_is_name" = true) (kp__law_is_name : PySem.W.keepIn K (.ref a__law_is_name) = true)
    {a__law_whole : Addr} {od__law_whole an__law_whole : Option Addr} {sl__law_whole : Array (Option Value)} {oc__law_whole kV__law_whole dc__law_whole pm__law_whole cd__law_whole ct__law_whole : Value}
    (ad__law_whole : PySem.W.nsIn K mainGlobals "_law_whole" = some (some (.ref a__law_whole)))
    (lo__law_whole : K.lookup a__law_whole = some ⟨oc__law_whole, od__law_whole, .func (PySem.W.fnOf "_law_whole" "_law_whole" (defArgs s__law_whole_) (defBody s__law_whole_) (defScope s__law_whole_) .none kV__law_whole dc__law_whole pm__law_whole an__law_whole cd__law_whole ct__law_whole), sl__law_whole⟩)
    (co__law_whole : PySem.W.codeIn K cd__law_whole "_law_whole" = true) (kp__law_whole : PySem.W.keepIn K (.ref a__law_whole) = true)
    {a__law_is_way : Addr} {od__law_is_way an__law_is_way : Option Addr} {sl__law_is_way : Array (Option Value)} {oc__law_is_way kV__law_is_way dc__law_is_way pm__law_is_way cd__law_is_way ct__law_is_way : Value}
    (ad__law_is_way : PySem.W.nsIn K mainGlobals "_law_is_way" = some (some (.ref a__law_is_way)))
    (lo__law_is_way : K.lookup a__law_is_way = some ⟨oc__law_is_way, od__law_is_way, .func (PySem.W.fnOf "_law_is_way" "_law_is_way" (defArgs s__law_is_way_) (defBody s__law_is_way_) (defScope s__law_is_way_) .none kV__law_is_way dc__law_is_way pm__law_is_way an__law_is_way cd__law_is_way ct__law_is_way), sl__law_is_way⟩)
    (co__law_is_way : PySem.W.codeIn K cd__law_is_way "_law_is_way" = true) (kp__law_is_way : PySem.W.keepIn K (.ref a__law_is_way) = true)
    {a__law_is_road : Addr} {od__law_is_road an__law_is_road : Option Addr} {sl__law_is_road : Array (Option Value)} {oc__law_is_road kV__law_is_road dc__law_is_road pm__law_is_road cd__law_is_road ct__law_is_road : Value}
    (ad__law_is_road : PySem.W.nsIn K mainGlobals "_law_is_road" = some (some (.ref a__law_is_road)))
    (lo__law_is_road : K.lookup a__law_is_road = some ⟨oc__law_is_road, od__law_is_road, .func (PySem.W.fnOf "_law_is_road" "_law_is_road" (defArgs s__law_is_road_) (defBody s__law_is_road_) (defScope s__law_is_road_) .none kV__law_is_road dc__law_is_road pm__law_is_road an__law_is_road cd__law_is_road ct__law_is_road), sl__law_is_road⟩)
    (co__law_is_road : PySem.W.codeIn K cd__law_is_road "_law_is_road" = true) (kp__law_is_road : PySem.W.keepIn K (.ref a__law_is_road) = true)
    {a__law_is_town : Addr} {od__law_is_town an__law_is_town : Option Addr} {sl__law_is_town : Array (Option Value)} {oc__law_is_town kV__law_is_town dc__law_is_town pm__law_is_town cd__law_is_town ct__law_is_town : Value}
    (ad__law_is_town : PySem.W.nsIn K mainGlobals "_law_is_town" = some (some (.ref a__law_is_town)))
    (lo__law_is_town : K.lookup a__law_is_town = some ⟨oc__law_is_town, od__law_is_town, .func (PySem.W.fnOf "_law_is_town" "_law_is_town" (defArgs s__law_is_town_) (defBody s__law_is_town_) (defScope s__law_is_town_) .none kV__law_is_town dc__law_is_town pm__law_is_town an__law_is_town cd__law_is_town ct__law_is_town), sl__law_is_town⟩)
    (co__law_is_town : PySem.W.codeIn K cd__law_is_town "_law_is_town" = true) (kp__law_is_town : PySem.W.keepIn K (.ref a__law_is_town) = true)
    {a__law_spots : Addr} {od__law_spots an__law_spots : Option Addr} {sl__law_spots : Array (Option Value)} {oc__law_spots kV__law_spots dc__law_spots pm__law_spots cd__law_spots ct__law_spots : Value}
    (ad__law_spots : PySem.W.nsIn K mainGlobals "_law_spots" = some (some (.ref a__law_spots)))
    (lo__law_spots : K.lookup a__law_spots = some ⟨oc__law_spots, od__law_spots, .func (PySem.W.fnOf "_law_spots" "_law_spots" (defArgs s__law_spots_) (defBody s__law_spots_) (defScope s__law_spots_) .none kV__law_spots dc__law_spots pm__law_spots an__law_spots cd__law_spots ct__law_spots), sl__law_spots⟩)
    (co__law_spots : PySem.W.codeIn K cd__law_spots "_law_spots" = true) (kp__law_spots : PySem.W.keepIn K (.ref a__law_spots) = true)
    {a__law_put : Addr} {od__law_put an__law_put : Option Addr} {sl__law_put : Array (Option Value)} {oc__law_put kV__law_put dc__law_put pm__law_put cd__law_put ct__law_put : Value}
    (ad__law_put : PySem.W.nsIn K mainGlobals "_law_put" = some (some (.ref a__law_put)))
    (lo__law_put : K.lookup a__law_put = some ⟨oc__law_put, od__law_put, .func (PySem.W.fnOf "_law_put" "_law_put" (defArgs s__law_put_) (defBody s__law_put_) (defScope s__law_put_) .none kV__law_put dc__law_put pm__law_put an__law_put cd__law_put ct__law_put), sl__law_put⟩)
    (co__law_put : PySem.W.codeIn K cd__law_put "_law_put" = true) (kp__law_put : PySem.W.keepIn K (.ref a__law_put) = true)
    {a__law_odd_text : Addr} {od__law_odd_text an__law_odd_text : Option Addr} {sl__law_odd_text : Array (Option Value)} {oc__law_odd_text kV__law_odd_text dc__law_odd_text pm__law_odd_text cd__law_odd_text ct__law_odd_text : Value}
    (ad__law_odd_text : PySem.W.nsIn K mainGlobals "_law_odd_text" = some (some (.ref a__law_odd_text)))
    (lo__law_odd_text : K.lookup a__law_odd_text = some ⟨oc__law_odd_text, od__law_odd_text, .func (PySem.W.fnOf "_law_odd_text" "_law_odd_text" (defArgs s__law_odd_text_) (defBody s__law_odd_text_) (defScope s__law_odd_text_) .none kV__law_odd_text dc__law_odd_text pm__law_odd_text an__law_odd_text cd__law_odd_text ct__law_odd_text), sl__law_odd_text⟩)
    (co__law_odd_text : PySem.W.codeIn K cd__law_odd_text "_law_odd_text" = true) (kp__law_odd_text : PySem.W.keepIn K (.ref a__law_odd_text) = true)
    {a__law_odd_row : Addr} {od__law_odd_row an__law_odd_row : Option Addr} {sl__law_odd_row : Array (Option Value)} {oc__law_odd_row kV__law_odd_row dc__law_odd_row pm__law_odd_row cd__law_odd_row ct__law_odd_row : Value}
    (ad__law_odd_row : PySem.W.nsIn K mainGlobals "_law_odd_row" = some (some (.ref a__law_odd_row)))
    (lo__law_odd_row : K.lookup a__law_odd_row = some ⟨oc__law_odd_row, od__law_odd_row, .func (PySem.W.fnOf "_law_odd_row" "_law_odd_row" (defArgs s__law_odd_row_) (defBody s__law_odd_row_) (defScope s__law_odd_row_) .none kV__law_odd_row dc__law_odd_row pm__law_odd_row an__law_odd_row cd__law_odd_row ct__law_odd_row), sl__law_odd_row⟩)
    (co__law_odd_row : PySem.W.codeIn K cd__law_odd_row "_law_odd_row" = true) (kp__law_odd_row : PySem.W.keepIn K (.ref a__law_odd_row) = true)
    {a__law_odd : Addr} {od__law_odd an__law_odd : Option Addr} {sl__law_odd : Array (Option Value)} {oc__law_odd kV__law_odd dc__law_odd pm__law_odd cd__law_odd ct__law_odd : Value}
    (ad__law_odd : PySem.W.nsIn K mainGlobals "_law_odd" = some (some (.ref a__law_odd)))
    (lo__law_odd : K.lookup a__law_odd = some ⟨oc__law_odd, od__law_odd, .func (PySem.W.fnOf "_law_odd" "_law_odd" (defArgs s__law_odd_) (defBody s__law_odd_) (defScope s__law_odd_) .none kV__law_odd dc__law_odd pm__law_odd an__law_odd cd__law_odd ct__law_odd), sl__law_odd⟩)
    (co__law_odd : PySem.W.codeIn K cd__law_odd "_law_odd" = true) (kp__law_odd : PySem.W.keepIn K (.ref a__law_odd) = true)
    {a__law_spoilt : Addr} {od__law_spoilt an__law_spoilt : Option Addr} {sl__law_spoilt : Array (Option Value)} {oc__law_spoilt kV__law_spoilt dc__law_spoilt pm__law_spoilt cd__law_spoilt ct__law_spoilt : Value}
    (ad__law_spoilt : PySem.W.nsIn K mainGlobals "_law_spoilt" = some (some (.ref a__law_spoilt)))
    (lo__law_spoilt : K.lookup a__law_spoilt = some ⟨oc__law_spoilt, od__law_spoilt, .func (PySem.W.fnOf "_law_spoilt" "_law_spoilt" (defArgs s__law_spoilt_) (defBody s__law_spoilt_) (defScope s__law_spoilt_) .none kV__law_spoilt dc__law_spoilt pm__law_spoilt an__law_spoilt cd__law_spoilt ct__law_spoilt), sl__law_spoilt⟩)
    (co__law_spoilt : PySem.W.codeIn K cd__law_spoilt "_law_spoilt" = true) (kp__law_spoilt : PySem.W.keepIn K (.ref a__law_spoilt) = true)
    {a__law_deep : Addr} {od__law_deep an__law_deep : Option Addr} {sl__law_deep : Array (Option Value)} {oc__law_deep kV__law_deep dc__law_deep pm__law_deep cd__law_deep ct__law_deep : Value}
    (ad__law_deep : PySem.W.nsIn K mainGlobals "_law_deep" = some (some (.ref a__law_deep)))
    (lo__law_deep : K.lookup a__law_deep = some ⟨oc__law_deep, od__law_deep, .func (PySem.W.fnOf "_law_deep" "_law_deep" (defArgs s__law_deep_) (defBody s__law_deep_) (defScope s__law_deep_) .none kV__law_deep dc__law_deep pm__law_deep an__law_deep cd__law_deep ct__law_deep), sl__law_deep⟩)
    (co__law_deep : PySem.W.codeIn K cd__law_deep "_law_deep" = true) (kp__law_deep : PySem.W.keepIn K (.ref a__law_deep) = true)
    {a__law_things : Addr} {od__law_things an__law_things : Option Addr} {sl__law_things : Array (Option Value)} {oc__law_things kV__law_things dc__law_things pm__law_things cd__law_things ct__law_things : Value}
    (ad__law_things : PySem.W.nsIn K mainGlobals "_law_things" = some (some (.ref a__law_things)))
    (lo__law_things : K.lookup a__law_things = some ⟨oc__law_things, od__law_things, .func (PySem.W.fnOf "_law_things" "_law_things" (defArgs s__law_things_) (defBody s__law_things_) (defScope s__law_things_) .none kV__law_things dc__law_things pm__law_things an__law_things cd__law_things ct__law_things), sl__law_things⟩)
    (co__law_things : PySem.W.codeIn K cd__law_things "_law_things" = true) (kp__law_things : PySem.W.keepIn K (.ref a__law_things) = true)
    {a_law : Addr} {od_law an_law : Option Addr} {sl_law : Array (Option Value)} {oc_law kV_law dc_law pm_law cd_law ct_law : Value}
    (ad_law : PySem.W.nsIn K mainGlobals "law" = some (some (.ref a_law)))
    (lo_law : K.lookup a_law = some ⟨oc_law, od_law, .func (PySem.W.fnOf "law" "law" (defArgs s_law_) (defBody s_law_) (defScope s_law_) .none kV_law dc_law pm_law an_law cd_law ct_law), sl_law⟩)
    (co_law : PySem.W.codeIn K cd_law "law" = true) (kp_law : PySem.W.keepIn K (.ref a_law) = true)
    {tk_LONGEST_NAME : Tok} (cn_LONGEST_NAME : PySem.W.nsIn K mainGlobals "LONGEST_NAME" = some (some (.int 8 tk_LONGEST_NAME)))
    {tk_LETTERS : Tok} (cn_LETTERS : PySem.W.nsIn K mainGlobals "LETTERS" = some (some (.str "abcdefghijklmnopqrstuvwxyz" tk_LETTERS)))
    {tk_NAME_SIGNS : Tok} (cn_NAME_SIGNS : PySem.W.nsIn K mainGlobals "NAME_SIGNS" = some (some (.str "abcdefghijklmnopqrstuvwxyz0123456789" tk_NAME_SIGNS)))
    {tk_MOST_PLACES : Tok} (cn_MOST_PLACES : PySem.W.nsIn K mainGlobals "MOST_PLACES" = some (some (.int 10 tk_MOST_PLACES)))
    {tk_MOST_MINUTES : Tok} (cn_MOST_MINUTES : PySem.W.nsIn K mainGlobals "MOST_MINUTES" = some (some (.int 60 tk_MOST_MINUTES)))
    {tk_MOST_ROADS : Tok} (cn_MOST_ROADS : PySem.W.nsIn K mainGlobals "MOST_ROADS" = some (some (.int 18 tk_MOST_ROADS)))
    {tk_MOST_STANDS : Tok} (cn_MOST_STANDS : PySem.W.nsIn K mainGlobals "MOST_STANDS" = some (some (.int 5 tk_MOST_STANDS)))
    {tk_MOST_REACH : Tok} (cn_MOST_REACH : PySem.W.nsIn K mainGlobals "MOST_REACH" = some (some (.int 120 tk_MOST_REACH)))
    (no_isinstance : PySem.W.nsIn K mainGlobals "isinstance" = some none)
    (no_int : PySem.W.nsIn K mainGlobals "int" = some none)
    (no_bool : PySem.W.nsIn K mainGlobals "bool" = some none)
    (no_str : PySem.W.nsIn K mainGlobals "str" = some none)
    (no_len : PySem.W.nsIn K mainGlobals "len" = some none)
    (no_all : PySem.W.nsIn K mainGlobals "all" = some none)
    (no_set : PySem.W.nsIn K mainGlobals "set" = some none)
    (no_tuple : PySem.W.nsIn K mainGlobals "tuple" = some none)
    (no_abs : PySem.W.nsIn K mainGlobals "abs" = some none)
    (no_range : PySem.W.nsIn K mainGlobals "range" = some none)
    (no_list : PySem.W.nsIn K mainGlobals "list" = some none)
    (no_enumerate : PySem.W.nsIn K mainGlobals "enumerate" = some none)
    (no_max : PySem.W.nsIn K mainGlobals "max" = some none)
    (no_min : PySem.W.nsIn K mainGlobals "min" = some none)
    (no_repr : PySem.W.nsIn K mainGlobals "repr" = some none)
    : ∃ (fd : FuncData) (ts : List (Str × Addr × Addr)), (∀ t ∈ ts, TabDef q K mg t) ∧ (∀ (s : Shared) (u : Value), BindsTo s fd ⟨[u], []⟩ [("script", u)]) ∧ ∀ b : Heap, K.In b → b.Ns mainGlobals mg → (∀ t ∈ ts, GxR.TabB b mg t.2.1 t.2.2) → Keeps P w K mg b CX0 11 fa fd ["script"] (spLaw K (ts.map fun t => t.2.2)) := by
  have e := hfa.symm.trans (PySem.W.mg_of X G ad_law)
  cases e
  have f_is_whole := fun_mk (st := s_is_whole_) lo_is_whole co_is_whole kp_is_whole
  have F_is_whole : Fn K mg "is_whole" s_is_whole_ _ _ ["thing"] := ⟨f_is_whole, PySem.W.mg_of X G ad_is_whole, f_is_whole.binds (ps := ["thing"]) fun _ _ _ _ _ _ us hl => match us, hl with | [_], _ => rfl⟩
  have f_is_within := fun_mk (st := s_is_within_) lo_is_within co_is_within kp_is_within
  have F_is_within : Fn K mg "is_within" s_is_within_ _ _ ["thing", "least", "most"] := ⟨f_is_within, PySem.W.mg_of X G ad_is_within, f_is_within.binds (ps := ["thing", "least", "most"]) fun _ _ _ _ _ _ us hl => match us, hl with | [_, _, _], _ => rfl⟩
  have f_is_name := fun_mk (st := s_is_name_) lo_is_name co_is_name kp_is_name
  have F_is_name : Fn K mg "is_name" s_is_name_ _ _ ["thing"] := ⟨f_is_name, PySem.W.mg_of X G ad_is_name, f_is_name.binds (ps := ["thing"]) fun _ _ _ _ _ _ us hl => match us, hl with | [_], _ => rfl⟩
  have f__are_unlike := fun_mk (st := s__are_unlike_) lo__are_unlike co__are_unlike kp__are_unlike
  have F__are_unlike : Fn K mg "_are_unlike" s__are_unlike_ _ _ ["names"] := ⟨f__are_unlike, PySem.W.mg_of X G ad__are_unlike, f__are_unlike.binds (ps := ["names"]) fun _ _ _ _ _ _ us hl => match us, hl with | [_], _ => rfl⟩
  have f__are_places := fun_mk (st := s__are_places_) lo__are_places co__are_places kp__are_places
  have F__are_places : Fn K mg "_are_places" s__are_places_ _ _ ["thing"] := ⟨f__are_places, PySem.W.mg_of X G ad__are_places, f__are_places.binds (ps := ["thing"]) fun _ _ _ _ _ _ us hl => match us, hl with | [_], _ => rfl⟩
  have f__is_drive := fun_mk (st := s__is_drive_) lo__is_drive co__is_drive kp__is_drive
  have F__is_drive : Fn K mg "_is_drive" s__is_drive_ _ _ ["thing"] := ⟨f__is_drive, PySem.W.mg_of X G ad__is_drive, f__is_drive.binds (ps := ["thing"]) fun _ _ _ _ _ _ us hl => match us, hl with | [_], _ => rfl⟩
  have f_is_road := fun_mk (st := s_is_road_) lo_is_road co_is_road kp_is_road
  have F_is_road : Fn K mg "is_road" s_is_road_ _ _ ["places", "thing"] := ⟨f_is_road, PySem.W.mg_of X G ad_is_road, f_is_road.binds (ps := ["places", "thing"]) fun _ _ _ _ _ _ us hl => match us, hl with | [_, _], _ => rfl⟩
  have f__are_roads := fun_mk (st := s__are_roads_) lo__are_roads co__are_roads kp__are_roads
  have F__are_roads : Fn K mg "_are_roads" s__are_roads_ _ _ ["places", "thing"] := ⟨f__are_roads, PySem.W.mg_of X G ad__are_roads, f__are_roads.binds (ps := ["places", "thing"]) fun _ _ _ _ _ _ us hl => match us, hl with | [_, _], _ => rfl⟩
  have f__are_stands := fun_mk (st := s__are_stands_) lo__are_stands co__are_stands kp__are_stands
  have F__are_stands : Fn K mg "_are_stands" s__are_stands_ _ _ ["places", "thing"] := ⟨f__are_stands, PySem.W.mg_of X G ad__are_stands, f__are_stands.binds (ps := ["places", "thing"]) fun _ _ _ _ _ _ us hl => match us, hl with | [_, _], _ => rfl⟩
  have f_is_town := fun_mk (st := s_is_town_) lo_is_town co_is_town kp_is_town
  have F_is_town : Fn K mg "is_town" s_is_town_ _ _ ["thing"] := ⟨f_is_town, PySem.W.mg_of X G ad_is_town, f_is_town.binds (ps := ["thing"]) fun _ _ _ _ _ _ us hl => match us, hl with | [_], _ => rfl⟩
  have f__law_pen := fun_mk (st := s__law_pen_) lo__law_pen co__law_pen kp__law_pen
  have F__law_pen : Fn K mg "_law_pen" s__law_pen_ _ _ ["script", "k"] := ⟨f__law_pen, PySem.W.mg_of X G ad__law_pen, f__law_pen.binds (ps := ["script", "k"]) fun _ _ _ _ _ _ us hl => match us, hl with | [_, _], _ => rfl⟩
  have f__law_draw := fun_mk (st := s__law_draw_) lo__law_draw co__law_draw kp__law_draw
  have F__law_draw : Fn K mg "_law_draw" s__law_draw_ _ _ ["pen", "base"] := ⟨f__law_draw, PySem.W.mg_of X G ad__law_draw, f__law_draw.binds (ps := ["pen", "base"]) fun _ _ _ _ _ _ us hl => match us, hl with | [_, _], _ => rfl⟩
  have f__law_signs := fun_mk (st := s__law_signs_) lo__law_signs co__law_signs kp__law_signs
  have F__law_signs : Fn K mg "_law_signs" s__law_signs_ _ _ [] := ⟨f__law_signs, PySem.W.mg_of X G ad__law_signs, f__law_signs.binds (ps := []) fun _ _ _ _ _ _ us hl => match us, hl with | [], _ => rfl⟩
  have f__law_word := fun_mk (st := s__law_word_) lo__law_word co__law_word kp__law_word
  have F__law_word : Fn K mg "_law_word" s__law_word_ _ _ ["pen", "size"] := ⟨f__law_word, PySem.W.mg_of X G ad__law_word, f__law_word.binds (ps := ["pen", "size"]) fun _ _ _ _ _ _ us hl => match us, hl with | [_, _], _ => rfl⟩
  have f__law_names := fun_mk (st := s__law_names_) lo__law_names co__law_names kp__law_names
  have F__law_names : Fn K mg "_law_names" s__law_names_ _ _ ["pen", "many"] := ⟨f__law_names, PySem.W.mg_of X G ad__law_names, f__law_names.binds (ps := ["pen", "many"]) fun _ _ _ _ _ _ us hl => match us, hl with | [_, _], _ => rfl⟩
  have f__law_minutes := fun_mk (st := s__law_minutes_) lo__law_minutes co__law_minutes kp__law_minutes
  have F__law_minutes : Fn K mg "_law_minutes" s__law_minutes_ _ _ ["pen"] := ⟨f__law_minutes, PySem.W.mg_of X G ad__law_minutes, f__law_minutes.binds (ps := ["pen"]) fun _ _ _ _ _ _ us hl => match us, hl with | [_], _ => rfl⟩
  have f__law_town := fun_mk (st := s__law_town_) lo__law_town co__law_town kp__law_town
  have F__law_town : Fn K mg "_law_town" s__law_town_ _ _ ["pen"] := ⟨f__law_town, PySem.W.mg_of X G ad__law_town, f__law_town.binds (ps := ["pen"]) fun _ _ _ _ _ _ us hl => match us, hl with | [_], _ => rfl⟩
  have f__law_is_name := fun_mk (st := s__law_is_name_) lo__law_is_name co__law_is_name kp__law_is_name
  have F__law_is_name : Fn K mg "_law_is_name" s__law_is_name_ _ _ ["thing"] := ⟨f__law_is_name, PySem.W.mg_of X G ad__law_is_name, f__law_is_name.binds (ps := ["thing"]) fun _ _ _ _ _ _ us hl => match us, hl with | [_], _ => rfl⟩
  have f__law_whole := fun_mk (st := s__law_whole_) lo__law_whole co__law_whole kp__law_whole
  have F__law_whole : Fn K mg "_law_whole" s__law_whole_ _ _ ["thing", "least", "most"] := ⟨f__law_whole, PySem.W.mg_of X G ad__law_whole, f__law_whole.binds (ps := ["thing", "least", "most"]) fun _ _ _ _ _ _ us hl => match us, hl with | [_, _, _], _ => rfl⟩
  have f__law_is_way := fun_mk (st := s__law_is_way_) lo__law_is_way co__law_is_way kp__law_is_way
  have F__law_is_way : Fn K mg "_law_is_way" s__law_is_way_ _ _ ["thing"] := ⟨f__law_is_way, PySem.W.mg_of X G ad__law_is_way, f__law_is_way.binds (ps := ["thing"]) fun _ _ _ _ _ _ us hl => match us, hl with | [_], _ => rfl⟩
  have f__law_is_road := fun_mk (st := s__law_is_road_) lo__law_is_road co__law_is_road kp__law_is_road
  have F__law_is_road : Fn K mg "_law_is_road" s__law_is_road_ _ _ ["places", "thing"] := ⟨f__law_is_road, PySem.W.mg_of X G ad__law_is_road, f__law_is_road.binds (ps := ["places", "thing"]) fun _ _ _ _ _ _ us hl => match us, hl with | [_, _], _ => rfl⟩
  have f__law_is_town := fun_mk (st := s__law_is_town_) lo__law_is_town co__law_is_town kp__law_is_town
  have F__law_is_town : Fn K mg "_law_is_town" s__law_is_town_ _ _ ["thing"] := ⟨f__law_is_town, PySem.W.mg_of X G ad__law_is_town, f__law_is_town.binds (ps := ["thing"]) fun _ _ _ _ _ _ us hl => match us, hl with | [_], _ => rfl⟩
  have f__law_spots := fun_mk (st := s__law_spots_) lo__law_spots co__law_spots kp__law_spots
  have F__law_spots : Fn K mg "_law_spots" s__law_spots_ _ _ ["thing"] := ⟨f__law_spots, PySem.W.mg_of X G ad__law_spots, f__law_spots.binds (ps := ["thing"]) fun _ _ _ _ _ _ us hl => match us, hl with | [_], _ => rfl⟩
  have f__law_put := fun_mk (st := s__law_put_) lo__law_put co__law_put kp__law_put
  have F__law_put : Fn K mg "_law_put" s__law_put_ _ _ ["thing", "spot", "part"] := ⟨f__law_put, PySem.W.mg_of X G ad__law_put, f__law_put.binds (ps := ["thing", "spot", "part"]) fun _ _ _ _ _ _ us hl => match us, hl with | [_, _, _], _ => rfl⟩
  have f__law_odd_text := fun_mk (st := s__law_odd_text_) lo__law_odd_text co__law_odd_text kp__law_odd_text
  have F__law_odd_text : Fn K mg "_law_odd_text" s__law_odd_text_ _ _ ["pen", "part", "texts"] := ⟨f__law_odd_text, PySem.W.mg_of X G ad__law_odd_text, f__law_odd_text.binds (ps := ["pen", "part", "texts"]) fun _ _ _ _ _ _ us hl => match us, hl with | [_, _, _], _ => rfl⟩
  have f__law_odd_row := fun_mk (st := s__law_odd_row_) lo__law_odd_row co__law_odd_row kp__law_odd_row
  have F__law_odd_row : Fn K mg "_law_odd_row" s__law_odd_row_ _ _ ["pen", "part"] := ⟨f__law_odd_row, PySem.W.mg_of X G ad__law_odd_row, f__law_odd_row.binds (ps := ["pen", "part"]) fun _ _ _ _ _ _ us hl => match us, hl with | [_, _], _ => rfl⟩
  have f__law_odd := fun_mk (st := s__law_odd_) lo__law_odd co__law_odd kp__law_odd
  have F__law_odd : Fn K mg "_law_odd" s__law_odd_ _ _ ["pen", "part", "texts"] := ⟨f__law_odd, PySem.W.mg_of X G ad__law_odd, f__law_odd.binds (ps := ["pen", "part", "texts"]) fun _ _ _ _ _ _ us hl => match us, hl with | [_, _, _], _ => rfl⟩
  have f__law_spoilt := fun_mk (st := s__law_spoilt_) lo__law_spoilt co__law_spoilt kp__law_spoilt
  have F__law_spoilt : Fn K mg "_law_spoilt" s__law_spoilt_ _ _ ["pen", "thing", "texts"] := ⟨f__law_spoilt, PySem.W.mg_of X G ad__law_spoilt, f__law_spoilt.binds (ps := ["pen", "thing", "texts"]) fun _ _ _ _ _ _ us hl => match us, hl with | [_, _, _], _ => rfl⟩
  have f__law_deep := fun_mk (st := s__law_deep_) lo__law_deep co__law_deep kp__law_deep
  have F__law_deep : Fn K mg "_law_deep" s__law_deep_ _ _ ["many"] := ⟨f__law_deep, PySem.W.mg_of X G ad__law_deep, f__law_deep.binds (ps := ["many"]) fun _ _ _ _ _ _ us hl => match us, hl with | [_], _ => rfl⟩
  have f__law_things := fun_mk (st := s__law_things_) lo__law_things co__law_things kp__law_things
  have F__law_things : Fn K mg "_law_things" s__law_things_ _ _ ["pen", "town"] := ⟨f__law_things, PySem.W.mg_of X G ad__law_things, f__law_things.binds (ps := ["pen", "town"]) fun _ _ _ _ _ _ us hl => match us, hl with | [_, _], _ => rfl⟩
  have f_law := fun_mk (st := s_law_) lo_law co_law kp_law
  have F_law : Fn K mg "law" s_law_ _ _ ["script"] := ⟨f_law, PySem.W.mg_of X G ad_law, f_law.binds (ps := ["script"]) fun _ _ _ _ _ _ us hl => match us, hl with | [_], _ => rfl⟩
  refine ⟨PySem.W.fnOf "law" "law" (defArgs s_law_) (defBody s_law_) (defScope s_law_) .none kV_law dc_law pm_law an_law cd_law ct_law, [("is_name", tc_is_name, P_is_name), ("_are_places", tc__are_places, P__are_places), ("_are_roads", tc__are_roads, P__are_roads), ("_are_stands", tc__are_stands, P__are_stands)], ?_, fun s v => .of_eq rfl, fun b _ _ TBs => ?_⟩
  · intro t ht
    simp only [List.mem_cons, List.not_mem_nil, or_false] at ht
    rcases ht with rfl | rfl | rfl | rfl
    · exact ⟨re_is_name, ⟨_, _, _, PySem.W.mg_of X G ad_is_name, lo_is_name, rfl, rfl⟩, tb_is_name⟩
    · exact ⟨re__are_places, ⟨_, _, _, PySem.W.mg_of X G ad__are_places, lo__are_places, rfl, rfl⟩, tb__are_places⟩
    · exact ⟨re__are_roads, ⟨_, _, _, PySem.W.mg_of X G ad__are_roads, lo__are_roads, rfl, rfl⟩, tb__are_roads⟩
    · exact ⟨re__are_stands, ⟨_, _, _, PySem.W.mg_of X G ad__are_stands, lo__are_stands, rfl, rfl⟩, tb__are_stands⟩
  have TB_is_name := TBs ("is_name", tc_is_name, P_is_name) (by simp)
  have TB__are_places := TBs ("_are_places", tc__are_places, P__are_places) (by simp)
  have TB__are_roads := TBs ("_are_roads", tc__are_roads, P__are_roads) (by simp)
  have TB__are_stands := TBs ("_are_stands", tc__are_stands, P__are_stands) (by simp)
  have k_is_whole := dv_is_whole (P := P) (w := w) (b := b) (mg := mg) (sp := spWholeX) F_is_whole (PySem.W.mg_none_of X G no_isinstance) (PySem.W.mg_none_of X G no_int) (PySem.W.mg_none_of X G no_bool) (by intro vs H Q E h; first | (obtain ⟨_, rfl, _⟩ := h; rfl; done) | (obtain ⟨_, _, rfl, _⟩ := h; rfl; done) | (obtain ⟨_, _, _, rfl, _⟩ := h; rfl; done) | (obtain ⟨_, _, _, _, rfl, _⟩ := h; rfl; done) | (obtain ⟨_, _, _, _, _, rfl, _⟩ := h; rfl; done) | (obtain ⟨_, _, _, _, _, _, rfl, _⟩ := h; rfl; done) | (obtain ⟨_, _, _, _, _, _, _, rfl, _⟩ := h; rfl; done) | (obtain ⟨_, _, _, _, _, _, _, _, rfl, _⟩ := h; rfl; done) | (obtain ⟨_, _, _, _, _, _, _, _, _, rfl, _⟩ := h; rfl; done) | (obtain ⟨_, _, _, _, _, _, _, _, _, _, rfl, _⟩ := h; rfl; done) | (obtain ⟨_, _, _, _, _, _, _, _, _, _, _, rfl, _⟩ := h; rfl; done) | (obtain ⟨_, _, _, _, _, _, _, _, _, _, _, _, rfl, _⟩ := h; rfl; done) | (obtain ⟨_, _, _, _, _, _, _, _, _, _, _, _, _, rfl, _⟩ := h; rfl; done) | (obtain ⟨_, _, _, _, _, _, _, _, _, _, _, _, _, _, rfl, _⟩ := h; rfl; done) | (rcases h with h | h <;> first | (obtain ⟨_, rfl, _⟩ := h; rfl; done) | (obtain ⟨_, _, rfl, _⟩ := h; rfl; done) | (obtain ⟨_, _, _, rfl, _⟩ := h; rfl; done) | (obtain ⟨_, _, _, _, rfl, _⟩ := h; rfl; done) | (obtain ⟨_, _, _, _, _, rfl, _⟩ := h; rfl; done) | (obtain ⟨_, _, _, _, _, _, rfl, _⟩ := h; rfl; done) | (obtain ⟨_, _, _, _, _, _, _, rfl, _⟩ := h; rfl; done) | (obtain ⟨_, _, _, _, _, _, _, _, rfl, _⟩ := h; rfl; done) | (obtain ⟨_, _, _, _, _, _, _, _, _, rfl, _⟩ := h; rfl; done) | (obtain ⟨_, _, _, _, _, _, _, _, _, _, rfl, _⟩ := h; rfl; done) | (obtain ⟨_, _, _, _, _, _, _, _, _, _, _, rfl, _⟩ := h; rfl; done) | (obtain ⟨_, _, _, _, _, _, _, _, _, _, _, _, rfl, _⟩ := h; rfl; done) | (obtain ⟨_, _, _, _, _, _, _, _, _, _, _, _, _, rfl, _⟩ := h; rfl; done) | (obtain ⟨_, _, _, _, _, _, _, _, _, _, _, _, _, _, rfl, _⟩ := h; rfl; done))) (rd_wholeX K)
  have k_is_within := dv_is_within (P := P) (w := w) (b := b) (mg := mg) (sp := spWithinX) F_is_within F_is_whole k_is_whole (by intro vs H Q E h; first | (obtain ⟨_, rfl, _⟩ := h; rfl; done) | (obtain ⟨_, _, rfl, _⟩ := h; rfl; done) | (obtain ⟨_, _, _, rfl, _⟩ := h; rfl; done) | (obtain ⟨_, _, _, _, rfl, _⟩ := h; rfl; done) | (obtain ⟨_, _, _, _, _, rfl, _⟩ := h; rfl; done) | (obtain ⟨_, _, _, _, _, _, rfl, _⟩ := h; rfl; done) | (obtain ⟨_, _, _, _, _, _, _, rfl, _⟩ := h; rfl; done) | (obtain ⟨_, _, _, _, _, _, _, _, rfl, _⟩ := h; rfl; done) | (obtain ⟨_, _, _, _, _, _, _, _, _, rfl, _⟩ := h; rfl; done) | (obtain ⟨_, _, _, _, _, _, _, _, _, _, rfl, _⟩ := h; rfl; done) | (obtain ⟨_, _, _, _, _, _, _, _, _, _, _, rfl, _⟩ := h; rfl; done) | (obtain ⟨_, _, _, _, _, _, _, _, _, _, _, _, rfl, _⟩ := h; rfl; done) | (obtain ⟨_, _, _, _, _, _, _, _, _, _, _, _, _, rfl, _⟩ := h; rfl; done) | (obtain ⟨_, _, _, _, _, _, _, _, _, _, _, _, _, _, rfl, _⟩ := h; rfl; done) | (rcases h with h | h <;> first | (obtain ⟨_, rfl, _⟩ := h; rfl; done) | (obtain ⟨_, _, rfl, _⟩ := h; rfl; done) | (obtain ⟨_, _, _, rfl, _⟩ := h; rfl; done) | (obtain ⟨_, _, _, _, rfl, _⟩ := h; rfl; done) | (obtain ⟨_, _, _, _, _, rfl, _⟩ := h; rfl; done) | (obtain ⟨_, _, _, _, _, _, rfl, _⟩ := h; rfl; done) | (obtain ⟨_, _, _, _, _, _, _, rfl, _⟩ := h; rfl; done) | (obtain ⟨_, _, _, _, _, _, _, _, rfl, _⟩ := h; rfl; done) | (obtain ⟨_, _, _, _, _, _, _, _, _, rfl, _⟩ := h; rfl; done) | (obtain ⟨_, _, _, _, _, _, _, _, _, _, rfl, _⟩ := h; rfl; done) | (obtain ⟨_, _, _, _, _, _, _, _, _, _, _, rfl, _⟩ := h; rfl; done) | (obtain ⟨_, _, _, _, _, _, _, _, _, _, _, _, rfl, _⟩ := h; rfl; done) | (obtain ⟨_, _, _, _, _, _, _, _, _, _, _, _, _, rfl, _⟩ := h; rfl; done) | (obtain ⟨_, _, _, _, _, _, _, _, _, _, _, _, _, _, rfl, _⟩ := h; rfl; done))) (rd_withinX K)
  have k_is_name := dv_is_name (P := P) (w := w) (b := b) (mg := mg) (sp := spIsName K [P_is_name, P__are_places, P__are_roads, P__are_stands] P_is_name) F_is_name rfl TB_is_name (PySem.W.mg_none_of X G no_isinstance) (PySem.W.mg_none_of X G no_str) (PySem.W.mg_none_of X G no_len) (PySem.W.mg_of X G cn_LONGEST_NAME) (PySem.W.mg_of X G cn_LETTERS) (PySem.W.mg_none_of X G no_all) (PySem.W.mg_of X G cn_NAME_SIGNS) (by intro vs H Q E h; first | (obtain ⟨_, rfl, _⟩ := h; rfl; done) | (obtain ⟨_, _, rfl, _⟩ := h; rfl; done) | (obtain ⟨_, _, _, rfl, _⟩ := h; rfl; done) | (obtain ⟨_, _, _, _, rfl, _⟩ := h; rfl; done) | (obtain ⟨_, _, _, _, _, rfl, _⟩ := h; rfl; done) | (obtain ⟨_, _, _, _, _, _, rfl, _⟩ := h; rfl; done) | (obtain ⟨_, _, _, _, _, _, _, rfl, _⟩ := h; rfl; done) | (obtain ⟨_, _, _, _, _, _, _, _, rfl, _⟩ := h; rfl; done) | (obtain ⟨_, _, _, _, _, _, _, _, _, rfl, _⟩ := h; rfl; done) | (obtain ⟨_, _, _, _, _, _, _, _, _, _, rfl, _⟩ := h; rfl; done) | (obtain ⟨_, _, _, _, _, _, _, _, _, _, _, rfl, _⟩ := h; rfl; done) | (obtain ⟨_, _, _, _, _, _, _, _, _, _, _, _, rfl, _⟩ := h; rfl; done) | (obtain ⟨_, _, _, _, _, _, _, _, _, _, _, _, _, rfl, _⟩ := h; rfl; done) | (obtain ⟨_, _, _, _, _, _, _, _, _, _, _, _, _, _, rfl, _⟩ := h; rfl; done) | (rcases h with h | h <;> first | (obtain ⟨_, rfl, _⟩ := h; rfl; done) | (obtain ⟨_, _, rfl, _⟩ := h; rfl; done) | (obtain ⟨_, _, _, rfl, _⟩ := h; rfl; done) | (obtain ⟨_, _, _, _, rfl, _⟩ := h; rfl; done) | (obtain ⟨_, _, _, _, _, rfl, _⟩ := h; rfl; done) | (obtain ⟨_, _, _, _, _, _, rfl, _⟩ := h; rfl; done) | (obtain ⟨_, _, _, _, _, _, _, rfl, _⟩ := h; rfl; done) | (obtain ⟨_, _, _, _, _, _, _, _, rfl, _⟩ := h; rfl; done) | (obtain ⟨_, _, _, _, _, _, _, _, _, rfl, _⟩ := h; rfl; done) | (obtain ⟨_, _, _, _, _, _, _, _, _, _, rfl, _⟩ := h; rfl; done) | (obtain ⟨_, _, _, _, _, _, _, _, _, _, _, rfl, _⟩ := h; rfl; done) | (obtain ⟨_, _, _, _, _, _, _, _, _, _, _, _, rfl, _⟩ := h; rfl; done) | (obtain ⟨_, _, _, _, _, _, _, _, _, _, _, _, _, rfl, _⟩ := h; rfl; done) | (obtain ⟨_, _, _, _, _, _, _, _, _, _, _, _, _, _, rfl, _⟩ := h; rfl; done))) (rd_isname K (L := [P_is_name, P__are_places, P__are_roads, P__are_stands]) (P := P_is_name))
  have k__are_unlike := dv__are_unlike (P := P) (w := w) (b := b) (mg := mg) (sp := spUnlikeX) F__are_unlike (PySem.W.mg_none_of X G no_len) (PySem.W.mg_none_of X G no_set) (by intro vs H Q E h; first | (obtain ⟨_, rfl, _⟩ := h; rfl; done) | (obtain ⟨_, _, rfl, _⟩ := h; rfl; done) | (obtain ⟨_, _, _, rfl, _⟩ := h; rfl; done) | (obtain ⟨_, _, _, _, rfl, _⟩ := h; rfl; done) | (obtain ⟨_, _, _, _, _, rfl, _⟩ := h; rfl; done) | (obtain ⟨_, _, _, _, _, _, rfl, _⟩ := h; rfl; done) | (obtain ⟨_, _, _, _, _, _, _, rfl, _⟩ := h; rfl; done) | (obtain ⟨_, _, _, _, _, _, _, _, rfl, _⟩ := h; rfl; done) | (obtain ⟨_, _, _, _, _, _, _, _, _, rfl, _⟩ := h; rfl; done) | (obtain ⟨_, _, _, _, _, _, _, _, _, _, rfl, _⟩ := h; rfl; done) | (obtain ⟨_, _, _, _, _, _, _, _, _, _, _, rfl, _⟩ := h; rfl; done) | (obtain ⟨_, _, _, _, _, _, _, _, _, _, _, _, rfl, _⟩ := h; rfl; done) | (obtain ⟨_, _, _, _, _, _, _, _, _, _, _, _, _, rfl, _⟩ := h; rfl; done) | (obtain ⟨_, _, _, _, _, _, _, _, _, _, _, _, _, _, rfl, _⟩ := h; rfl; done) | (rcases h with h | h <;> first | (obtain ⟨_, rfl, _⟩ := h; rfl; done) | (obtain ⟨_, _, rfl, _⟩ := h; rfl; done) | (obtain ⟨_, _, _, rfl, _⟩ := h; rfl; done) | (obtain ⟨_, _, _, _, rfl, _⟩ := h; rfl; done) | (obtain ⟨_, _, _, _, _, rfl, _⟩ := h; rfl; done) | (obtain ⟨_, _, _, _, _, _, rfl, _⟩ := h; rfl; done) | (obtain ⟨_, _, _, _, _, _, _, rfl, _⟩ := h; rfl; done) | (obtain ⟨_, _, _, _, _, _, _, _, rfl, _⟩ := h; rfl; done) | (obtain ⟨_, _, _, _, _, _, _, _, _, rfl, _⟩ := h; rfl; done) | (obtain ⟨_, _, _, _, _, _, _, _, _, _, rfl, _⟩ := h; rfl; done) | (obtain ⟨_, _, _, _, _, _, _, _, _, _, _, rfl, _⟩ := h; rfl; done) | (obtain ⟨_, _, _, _, _, _, _, _, _, _, _, _, rfl, _⟩ := h; rfl; done) | (obtain ⟨_, _, _, _, _, _, _, _, _, _, _, _, _, rfl, _⟩ := h; rfl; done) | (obtain ⟨_, _, _, _, _, _, _, _, _, _, _, _, _, _, rfl, _⟩ := h; rfl; done))) (rd_unlikeX K)
  have k__are_places := dv__are_places (P := P) (w := w) (b := b) (mg := mg) (sp := spArePlX [P_is_name, P__are_places, P__are_roads, P__are_stands] P__are_places) F__are_places rfl TB__are_places (PySem.W.mg_none_of X G no_isinstance) (PySem.W.mg_none_of X G no_tuple) (PySem.W.mg_none_of X G no_len) (PySem.W.mg_of X G cn_MOST_PLACES) (PySem.W.mg_none_of X G no_all) F_is_name k_is_name F__are_unlike k__are_unlike (by intro vs H Q E h; first | (obtain ⟨_, rfl, _⟩ := h; rfl; done) | (obtain ⟨_, _, rfl, _⟩ := h; rfl; done) | (obtain ⟨_, _, _, rfl, _⟩ := h; rfl; done) | (obtain ⟨_, _, _, _, rfl, _⟩ := h; rfl; done) | (obtain ⟨_, _, _, _, _, rfl, _⟩ := h; rfl; done) | (obtain ⟨_, _, _, _, _, _, rfl, _⟩ := h; rfl; done) | (obtain ⟨_, _, _, _, _, _, _, rfl, _⟩ := h; rfl; done) | (obtain ⟨_, _, _, _, _, _, _, _, rfl, _⟩ := h; rfl; done) | (obtain ⟨_, _, _, _, _, _, _, _, _, rfl, _⟩ := h; rfl; done) | (obtain ⟨_, _, _, _, _, _, _, _, _, _, rfl, _⟩ := h; rfl; done) | (obtain ⟨_, _, _, _, _, _, _, _, _, _, _, rfl, _⟩ := h; rfl; done) | (obtain ⟨_, _, _, _, _, _, _, _, _, _, _, _, rfl, _⟩ := h; rfl; done) | (obtain ⟨_, _, _, _, _, _, _, _, _, _, _, _, _, rfl, _⟩ := h; rfl; done) | (obtain ⟨_, _, _, _, _, _, _, _, _, _, _, _, _, _, rfl, _⟩ := h; rfl; done) | (rcases h with h | h <;> first | (obtain ⟨_, rfl, _⟩ := h; rfl; done) | (obtain ⟨_, _, rfl, _⟩ := h; rfl; done) | (obtain ⟨_, _, _, rfl, _⟩ := h; rfl; done) | (obtain ⟨_, _, _, _, rfl, _⟩ := h; rfl; done) | (obtain ⟨_, _, _, _, _, rfl, _⟩ := h; rfl; done) | (obtain ⟨_, _, _, _, _, _, rfl, _⟩ := h; rfl; done) | (obtain ⟨_, _, _, _, _, _, _, rfl, _⟩ := h; rfl; done) | (obtain ⟨_, _, _, _, _, _, _, _, rfl, _⟩ := h; rfl; done) | (obtain ⟨_, _, _, _, _, _, _, _, _, rfl, _⟩ := h; rfl; done) | (obtain ⟨_, _, _, _, _, _, _, _, _, _, rfl, _⟩ := h; rfl; done) | (obtain ⟨_, _, _, _, _, _, _, _, _, _, _, rfl, _⟩ := h; rfl; done) | (obtain ⟨_, _, _, _, _, _, _, _, _, _, _, _, rfl, _⟩ := h; rfl; done) | (obtain ⟨_, _, _, _, _, _, _, _, _, _, _, _, _, rfl, _⟩ := h; rfl; done) | (obtain ⟨_, _, _, _, _, _, _, _, _, _, _, _, _, _, rfl, _⟩ := h; rfl; done))) (rd_arePlX K (L := [P_is_name, P__are_places, P__are_roads, P__are_stands]) (P := P__are_places) (P0 := P_is_name) (by simp))
  have k__is_drive := dv__is_drive (P := P) (w := w) (b := b) (mg := mg) (sp := spDriveX) F__is_drive F_is_within k_is_within (PySem.W.mg_of X G cn_MOST_MINUTES) (by intro vs H Q E h; first | (obtain ⟨_, rfl, _⟩ := h; rfl; done) | (obtain ⟨_, _, rfl, _⟩ := h; rfl; done) | (obtain ⟨_, _, _, rfl, _⟩ := h; rfl; done) | (obtain ⟨_, _, _, _, rfl, _⟩ := h; rfl; done) | (obtain ⟨_, _, _, _, _, rfl, _⟩ := h; rfl; done) | (obtain ⟨_, _, _, _, _, _, rfl, _⟩ := h; rfl; done) | (obtain ⟨_, _, _, _, _, _, _, rfl, _⟩ := h; rfl; done) | (obtain ⟨_, _, _, _, _, _, _, _, rfl, _⟩ := h; rfl; done) | (obtain ⟨_, _, _, _, _, _, _, _, _, rfl, _⟩ := h; rfl; done) | (obtain ⟨_, _, _, _, _, _, _, _, _, _, rfl, _⟩ := h; rfl; done) | (obtain ⟨_, _, _, _, _, _, _, _, _, _, _, rfl, _⟩ := h; rfl; done) | (obtain ⟨_, _, _, _, _, _, _, _, _, _, _, _, rfl, _⟩ := h; rfl; done) | (obtain ⟨_, _, _, _, _, _, _, _, _, _, _, _, _, rfl, _⟩ := h; rfl; done) | (obtain ⟨_, _, _, _, _, _, _, _, _, _, _, _, _, _, rfl, _⟩ := h; rfl; done) | (rcases h with h | h <;> first | (obtain ⟨_, rfl, _⟩ := h; rfl; done) | (obtain ⟨_, _, rfl, _⟩ := h; rfl; done) | (obtain ⟨_, _, _, rfl, _⟩ := h; rfl; done) | (obtain ⟨_, _, _, _, rfl, _⟩ := h; rfl; done) | (obtain ⟨_, _, _, _, _, rfl, _⟩ := h; rfl; done) | (obtain ⟨_, _, _, _, _, _, rfl, _⟩ := h; rfl; done) | (obtain ⟨_, _, _, _, _, _, _, rfl, _⟩ := h; rfl; done) | (obtain ⟨_, _, _, _, _, _, _, _, rfl, _⟩ := h; rfl; done) | (obtain ⟨_, _, _, _, _, _, _, _, _, rfl, _⟩ := h; rfl; done) | (obtain ⟨_, _, _, _, _, _, _, _, _, _, rfl, _⟩ := h; rfl; done) | (obtain ⟨_, _, _, _, _, _, _, _, _, _, _, rfl, _⟩ := h; rfl; done) | (obtain ⟨_, _, _, _, _, _, _, _, _, _, _, _, rfl, _⟩ := h; rfl; done) | (obtain ⟨_, _, _, _, _, _, _, _, _, _, _, _, _, rfl, _⟩ := h; rfl; done) | (obtain ⟨_, _, _, _, _, _, _, _, _, _, _, _, _, _, rfl, _⟩ := h; rfl; done))) (rd_driveX K)
  have k_is_road := dv_is_road (P := P) (w := w) (b := b) (mg := mg) (sp := spRoadX) F_is_road (PySem.W.mg_none_of X G no_isinstance) (PySem.W.mg_none_of X G no_tuple) (PySem.W.mg_none_of X G no_len) F__is_drive k__is_drive (by intro vs H Q E h; first | (obtain ⟨_, rfl, _⟩ := h; rfl; done) | (obtain ⟨_, _, rfl, _⟩ := h; rfl; done) | (obtain ⟨_, _, _, rfl, _⟩ := h; rfl; done) | (obtain ⟨_, _, _, _, rfl, _⟩ := h; rfl; done) | (obtain ⟨_, _, _, _, _, rfl, _⟩ := h; rfl; done) | (obtain ⟨_, _, _, _, _, _, rfl, _⟩ := h; rfl; done) | (obtain ⟨_, _, _, _, _, _, _, rfl, _⟩ := h; rfl; done) | (obtain ⟨_, _, _, _, _, _, _, _, rfl, _⟩ := h; rfl; done) | (obtain ⟨_, _, _, _, _, _, _, _, _, rfl, _⟩ := h; rfl; done) | (obtain ⟨_, _, _, _, _, _, _, _, _, _, rfl, _⟩ := h; rfl; done) | (obtain ⟨_, _, _, _, _, _, _, _, _, _, _, rfl, _⟩ := h; rfl; done) | (obtain ⟨_, _, _, _, _, _, _, _, _, _, _, _, rfl, _⟩ := h; rfl; done) | (obtain ⟨_, _, _, _, _, _, _, _, _, _, _, _, _, rfl, _⟩ := h; rfl; done) | (obtain ⟨_, _, _, _, _, _, _, _, _, _, _, _, _, _, rfl, _⟩ := h; rfl; done) | (rcases h with h | h <;> first | (obtain ⟨_, rfl, _⟩ := h; rfl; done) | (obtain ⟨_, _, rfl, _⟩ := h; rfl; done) | (obtain ⟨_, _, _, rfl, _⟩ := h; rfl; done) | (obtain ⟨_, _, _, _, rfl, _⟩ := h; rfl; done) | (obtain ⟨_, _, _, _, _, rfl, _⟩ := h; rfl; done) | (obtain ⟨_, _, _, _, _, _, rfl, _⟩ := h; rfl; done) | (obtain ⟨_, _, _, _, _, _, _, rfl, _⟩ := h; rfl; done) | (obtain ⟨_, _, _, _, _, _, _, _, rfl, _⟩ := h; rfl; done) | (obtain ⟨_, _, _, _, _, _, _, _, _, rfl, _⟩ := h; rfl; done) | (obtain ⟨_, _, _, _, _, _, _, _, _, _, rfl, _⟩ := h; rfl; done) | (obtain ⟨_, _, _, _, _, _, _, _, _, _, _, rfl, _⟩ := h; rfl; done) | (obtain ⟨_, _, _, _, _, _, _, _, _, _, _, _, rfl, _⟩ := h; rfl; done) | (obtain ⟨_, _, _, _, _, _, _, _, _, _, _, _, _, rfl, _⟩ := h; rfl; done) | (obtain ⟨_, _, _, _, _, _, _, _, _, _, _, _, _, _, rfl, _⟩ := h; rfl; done))) (rd_roadX K)
  have k__are_roads := dv__are_roads (P := P) (w := w) (b := b) (mg := mg) (sp := spAreRdX [P_is_name, P__are_places, P__are_roads, P__are_stands] P__are_roads) F__are_roads rfl TB__are_roads (PySem.W.mg_none_of X G no_isinstance) (PySem.W.mg_none_of X G no_tuple) (PySem.W.mg_none_of X G no_len) (PySem.W.mg_of X G cn_MOST_ROADS) (PySem.W.mg_none_of X G no_all) F_is_road k_is_road (by intro vs H Q E h; first | (obtain ⟨_, rfl, _⟩ := h; rfl; done) | (obtain ⟨_, _, rfl, _⟩ := h; rfl; done) | (obtain ⟨_, _, _, rfl, _⟩ := h; rfl; done) | (obtain ⟨_, _, _, _, rfl, _⟩ := h; rfl; done) | (obtain ⟨_, _, _, _, _, rfl, _⟩ := h; rfl; done) | (obtain ⟨_, _, _, _, _, _, rfl, _⟩ := h; rfl; done) | (obtain ⟨_, _, _, _, _, _, _, rfl, _⟩ := h; rfl; done) | (obtain ⟨_, _, _, _, _, _, _, _, rfl, _⟩ := h; rfl; done) | (obtain ⟨_, _, _, _, _, _, _, _, _, rfl, _⟩ := h; rfl; done) | (obtain ⟨_, _, _, _, _, _, _, _, _, _, rfl, _⟩ := h; rfl; done) | (obtain ⟨_, _, _, _, _, _, _, _, _, _, _, rfl, _⟩ := h; rfl; done) | (obtain ⟨_, _, _, _, _, _, _, _, _, _, _, _, rfl, _⟩ := h; rfl; done) | (obtain ⟨_, _, _, _, _, _, _, _, _, _, _, _, _, rfl, _⟩ := h; rfl; done) | (obtain ⟨_, _, _, _, _, _, _, _, _, _, _, _, _, _, rfl, _⟩ := h; rfl; done) | (rcases h with h | h <;> first | (obtain ⟨_, rfl, _⟩ := h; rfl; done) | (obtain ⟨_, _, rfl, _⟩ := h; rfl; done) | (obtain ⟨_, _, _, rfl, _⟩ := h; rfl; done) | (obtain ⟨_, _, _, _, rfl, _⟩ := h; rfl; done) | (obtain ⟨_, _, _, _, _, rfl, _⟩ := h; rfl; done) | (obtain ⟨_, _, _, _, _, _, rfl, _⟩ := h; rfl; done) | (obtain ⟨_, _, _, _, _, _, _, rfl, _⟩ := h; rfl; done) | (obtain ⟨_, _, _, _, _, _, _, _, rfl, _⟩ := h; rfl; done) | (obtain ⟨_, _, _, _, _, _, _, _, _, rfl, _⟩ := h; rfl; done) | (obtain ⟨_, _, _, _, _, _, _, _, _, _, rfl, _⟩ := h; rfl; done) | (obtain ⟨_, _, _, _, _, _, _, _, _, _, _, rfl, _⟩ := h; rfl; done) | (obtain ⟨_, _, _, _, _, _, _, _, _, _, _, _, rfl, _⟩ := h; rfl; done) | (obtain ⟨_, _, _, _, _, _, _, _, _, _, _, _, _, rfl, _⟩ := h; rfl; done) | (obtain ⟨_, _, _, _, _, _, _, _, _, _, _, _, _, _, rfl, _⟩ := h; rfl; done))) (rd_areRdX K (L := [P_is_name, P__are_places, P__are_roads, P__are_stands]) (P := P__are_roads))
  have k__are_stands := dv__are_stands (P := P) (w := w) (b := b) (mg := mg) (sp := spAreStX [P_is_name, P__are_places, P__are_roads, P__are_stands] P__are_stands) F__are_stands rfl TB__are_stands (PySem.W.mg_none_of X G no_isinstance) (PySem.W.mg_none_of X G no_tuple) (PySem.W.mg_none_of X G no_len) (PySem.W.mg_of X G cn_MOST_STANDS) (PySem.W.mg_none_of X G no_all) F__are_unlike k__are_unlike (by intro vs H Q E h; first | (obtain ⟨_, rfl, _⟩ := h; rfl; done) | (obtain ⟨_, _, rfl, _⟩ := h; rfl; done) | (obtain ⟨_, _, _, rfl, _⟩ := h; rfl; done) | (obtain ⟨_, _, _, _, rfl, _⟩ := h; rfl; done) | (obtain ⟨_, _, _, _, _, rfl, _⟩ := h; rfl; done) | (obtain ⟨_, _, _, _, _, _, rfl, _⟩ := h; rfl; done) | (obtain ⟨_, _, _, _, _, _, _, rfl, _⟩ := h; rfl; done) | (obtain ⟨_, _, _, _, _, _, _, _, rfl, _⟩ := h; rfl; done) | (obtain ⟨_, _, _, _, _, _, _, _, _, rfl, _⟩ := h; rfl; done) | (obtain ⟨_, _, _, _, _, _, _, _, _, _, rfl, _⟩ := h; rfl; done) | (obtain ⟨_, _, _, _, _, _, _, _, _, _, _, rfl, _⟩ := h; rfl; done) | (obtain ⟨_, _, _, _, _, _, _, _, _, _, _, _, rfl, _⟩ := h; rfl; done) | (obtain ⟨_, _, _, _, _, _, _, _, _, _, _, _, _, rfl, _⟩ := h; rfl; done) | (obtain ⟨_, _, _, _, _, _, _, _, _, _, _, _, _, _, rfl, _⟩ := h; rfl; done) | (rcases h with h | h <;> first | (obtain ⟨_, rfl, _⟩ := h; rfl; done) | (obtain ⟨_, _, rfl, _⟩ := h; rfl; done) | (obtain ⟨_, _, _, rfl, _⟩ := h; rfl; done) | (obtain ⟨_, _, _, _, rfl, _⟩ := h; rfl; done) | (obtain ⟨_, _, _, _, _, rfl, _⟩ := h; rfl; done) | (obtain ⟨_, _, _, _, _, _, rfl, _⟩ := h; rfl; done) | (obtain ⟨_, _, _, _, _, _, _, rfl, _⟩ := h; rfl; done) | (obtain ⟨_, _, _, _, _, _, _, _, rfl, _⟩ := h; rfl; done) | (obtain ⟨_, _, _, _, _, _, _, _, _, rfl, _⟩ := h; rfl; done) | (obtain ⟨_, _, _, _, _, _, _, _, _, _, rfl, _⟩ := h; rfl; done) | (obtain ⟨_, _, _, _, _, _, _, _, _, _, _, rfl, _⟩ := h; rfl; done) | (obtain ⟨_, _, _, _, _, _, _, _, _, _, _, _, rfl, _⟩ := h; rfl; done) | (obtain ⟨_, _, _, _, _, _, _, _, _, _, _, _, _, rfl, _⟩ := h; rfl; done) | (obtain ⟨_, _, _, _, _, _, _, _, _, _, _, _, _, _, rfl, _⟩ := h; rfl; done))) (rd_areStX K (L := [P_is_name, P__are_places, P__are_roads, P__are_stands]) (P := P__are_stands))
  have k_is_town := dv_is_town (P := P) (w := w) (b := b) (mg := mg) (sp := spIsTownX [P_is_name, P__are_places, P__are_roads, P__are_stands]) F_is_town (PySem.W.mg_none_of X G no_isinstance) (PySem.W.mg_none_of X G no_tuple) (PySem.W.mg_none_of X G no_len) F__are_places k__are_places F__are_roads k__are_roads F__are_stands k__are_stands F_is_within k_is_within (PySem.W.mg_of X G cn_MOST_REACH) (by intro vs H Q E h; first | (obtain ⟨_, rfl, _⟩ := h; rfl; done) | (obtain ⟨_, _, rfl, _⟩ := h; rfl; done) | (obtain ⟨_, _, _, rfl, _⟩ := h; rfl; done) | (obtain ⟨_, _, _, _, rfl, _⟩ := h; rfl; done) | (obtain ⟨_, _, _, _, _, rfl, _⟩ := h; rfl; done) | (obtain ⟨_, _, _, _, _, _, rfl, _⟩ := h; rfl; done) | (obtain ⟨_, _, _, _, _, _, _, rfl, _⟩ := h; rfl; done) | (obtain ⟨_, _, _, _, _, _, _, _, rfl, _⟩ := h; rfl; done) | (obtain ⟨_, _, _, _, _, _, _, _, _, rfl, _⟩ := h; rfl; done) | (obtain ⟨_, _, _, _, _, _, _, _, _, _, rfl, _⟩ := h; rfl; done) | (obtain ⟨_, _, _, _, _, _, _, _, _, _, _, rfl, _⟩ := h; rfl; done) | (obtain ⟨_, _, _, _, _, _, _, _, _, _, _, _, rfl, _⟩ := h; rfl; done) | (obtain ⟨_, _, _, _, _, _, _, _, _, _, _, _, _, rfl, _⟩ := h; rfl; done) | (obtain ⟨_, _, _, _, _, _, _, _, _, _, _, _, _, _, rfl, _⟩ := h; rfl; done) | (rcases h with h | h <;> first | (obtain ⟨_, rfl, _⟩ := h; rfl; done) | (obtain ⟨_, _, rfl, _⟩ := h; rfl; done) | (obtain ⟨_, _, _, rfl, _⟩ := h; rfl; done) | (obtain ⟨_, _, _, _, rfl, _⟩ := h; rfl; done) | (obtain ⟨_, _, _, _, _, rfl, _⟩ := h; rfl; done) | (obtain ⟨_, _, _, _, _, _, rfl, _⟩ := h; rfl; done) | (obtain ⟨_, _, _, _, _, _, _, rfl, _⟩ := h; rfl; done) | (obtain ⟨_, _, _, _, _, _, _, _, rfl, _⟩ := h; rfl; done) | (obtain ⟨_, _, _, _, _, _, _, _, _, rfl, _⟩ := h; rfl; done) | (obtain ⟨_, _, _, _, _, _, _, _, _, _, rfl, _⟩ := h; rfl; done) | (obtain ⟨_, _, _, _, _, _, _, _, _, _, _, rfl, _⟩ := h; rfl; done) | (obtain ⟨_, _, _, _, _, _, _, _, _, _, _, _, rfl, _⟩ := h; rfl; done) | (obtain ⟨_, _, _, _, _, _, _, _, _, _, _, _, _, rfl, _⟩ := h; rfl; done) | (obtain ⟨_, _, _, _, _, _, _, _, _, _, _, _, _, _, rfl, _⟩ := h; rfl; done))) (rd_isTownX K (L := [P_is_name, P__are_places, P__are_roads, P__are_stands]) (P1 := P__are_places) (P2 := P__are_roads) (P3 := P__are_stands) (by simp) (by simp) (by simp))
  have k__law_pen := dv__law_pen (P := P) (w := w) (b := b) (mg := mg) (sp := spPen K) F__law_pen (PySem.W.mg_none_of X G no_len) (PySem.W.mg_none_of X G no_abs) (by intro vs H Q E h; first | (obtain ⟨_, rfl, _⟩ := h; rfl; done) | (obtain ⟨_, _, rfl, _⟩ := h; rfl; done) | (obtain ⟨_, _, _, rfl, _⟩ := h; rfl; done) | (obtain ⟨_, _, _, _, rfl, _⟩ := h; rfl; done) | (obtain ⟨_, _, _, _, _, rfl, _⟩ := h; rfl; done) | (obtain ⟨_, _, _, _, _, _, rfl, _⟩ := h; rfl; done) | (obtain ⟨_, _, _, _, _, _, _, rfl, _⟩ := h; rfl; done) | (obtain ⟨_, _, _, _, _, _, _, _, rfl, _⟩ := h; rfl; done) | (obtain ⟨_, _, _, _, _, _, _, _, _, rfl, _⟩ := h; rfl; done) | (obtain ⟨_, _, _, _, _, _, _, _, _, _, rfl, _⟩ := h; rfl; done) | (obtain ⟨_, _, _, _, _, _, _, _, _, _, _, rfl, _⟩ := h; rfl; done) | (obtain ⟨_, _, _, _, _, _, _, _, _, _, _, _, rfl, _⟩ := h; rfl; done) | (obtain ⟨_, _, _, _, _, _, _, _, _, _, _, _, _, rfl, _⟩ := h; rfl; done) | (obtain ⟨_, _, _, _, _, _, _, _, _, _, _, _, _, _, rfl, _⟩ := h; rfl; done) | (rcases h with h | h <;> first | (obtain ⟨_, rfl, _⟩ := h; rfl; done) | (obtain ⟨_, _, rfl, _⟩ := h; rfl; done) | (obtain ⟨_, _, _, rfl, _⟩ := h; rfl; done) | (obtain ⟨_, _, _, _, rfl, _⟩ := h; rfl; done) | (obtain ⟨_, _, _, _, _, rfl, _⟩ := h; rfl; done) | (obtain ⟨_, _, _, _, _, _, rfl, _⟩ := h; rfl; done) | (obtain ⟨_, _, _, _, _, _, _, rfl, _⟩ := h; rfl; done) | (obtain ⟨_, _, _, _, _, _, _, _, rfl, _⟩ := h; rfl; done) | (obtain ⟨_, _, _, _, _, _, _, _, _, rfl, _⟩ := h; rfl; done) | (obtain ⟨_, _, _, _, _, _, _, _, _, _, rfl, _⟩ := h; rfl; done) | (obtain ⟨_, _, _, _, _, _, _, _, _, _, _, rfl, _⟩ := h; rfl; done) | (obtain ⟨_, _, _, _, _, _, _, _, _, _, _, _, rfl, _⟩ := h; rfl; done) | (obtain ⟨_, _, _, _, _, _, _, _, _, _, _, _, _, rfl, _⟩ := h; rfl; done) | (obtain ⟨_, _, _, _, _, _, _, _, _, _, _, _, _, _, rfl, _⟩ := h; rfl; done))) (rd_pen K)
  have k__law_draw := dv__law_draw (P := P) (w := w) (b := b) (mg := mg) (sp := spDraw) F__law_draw  (by intro vs H Q E h; first | (obtain ⟨_, rfl, _⟩ := h; rfl; done) | (obtain ⟨_, _, rfl, _⟩ := h; rfl; done) | (obtain ⟨_, _, _, rfl, _⟩ := h; rfl; done) | (obtain ⟨_, _, _, _, rfl, _⟩ := h; rfl; done) | (obtain ⟨_, _, _, _, _, rfl, _⟩ := h; rfl; done) | (obtain ⟨_, _, _, _, _, _, rfl, _⟩ := h; rfl; done) | (obtain ⟨_, _, _, _, _, _, _, rfl, _⟩ := h; rfl; done) | (obtain ⟨_, _, _, _, _, _, _, _, rfl, _⟩ := h; rfl; done) | (obtain ⟨_, _, _, _, _, _, _, _, _, rfl, _⟩ := h; rfl; done) | (obtain ⟨_, _, _, _, _, _, _, _, _, _, rfl, _⟩ := h; rfl; done) | (obtain ⟨_, _, _, _, _, _, _, _, _, _, _, rfl, _⟩ := h; rfl; done) | (obtain ⟨_, _, _, _, _, _, _, _, _, _, _, _, rfl, _⟩ := h; rfl; done) | (obtain ⟨_, _, _, _, _, _, _, _, _, _, _, _, _, rfl, _⟩ := h; rfl; done) | (obtain ⟨_, _, _, _, _, _, _, _, _, _, _, _, _, _, rfl, _⟩ := h; rfl; done) | (rcases h with h | h <;> first | (obtain ⟨_, rfl, _⟩ := h; rfl; done) | (obtain ⟨_, _, rfl, _⟩ := h; rfl; done) | (obtain ⟨_, _, _, rfl, _⟩ := h; rfl; done) | (obtain ⟨_, _, _, _, rfl, _⟩ := h; rfl; done) | (obtain ⟨_, _, _, _, _, rfl, _⟩ := h; rfl; done) | (obtain ⟨_, _, _, _, _, _, rfl, _⟩ := h; rfl; done) | (obtain ⟨_, _, _, _, _, _, _, rfl, _⟩ := h; rfl; done) | (obtain ⟨_, _, _, _, _, _, _, _, rfl, _⟩ := h; rfl; done) | (obtain ⟨_, _, _, _, _, _, _, _, _, rfl, _⟩ := h; rfl; done) | (obtain ⟨_, _, _, _, _, _, _, _, _, _, rfl, _⟩ := h; rfl; done) | (obtain ⟨_, _, _, _, _, _, _, _, _, _, _, rfl, _⟩ := h; rfl; done) | (obtain ⟨_, _, _, _, _, _, _, _, _, _, _, _, rfl, _⟩ := h; rfl; done) | (obtain ⟨_, _, _, _, _, _, _, _, _, _, _, _, _, rfl, _⟩ := h; rfl; done) | (obtain ⟨_, _, _, _, _, _, _, _, _, _, _, _, _, _, rfl, _⟩ := h; rfl; done))) (rd_draw K)
  have k__law_signs := dv__law_signs (P := P) (w := w) (b := b) (mg := mg) (sp := spSigns6) F__law_signs  (by intro vs H Q E h; first | (obtain ⟨_, rfl, _⟩ := h; rfl; done) | (obtain ⟨_, _, rfl, _⟩ := h; rfl; done) | (obtain ⟨_, _, _, rfl, _⟩ := h; rfl; done) | (obtain ⟨_, _, _, _, rfl, _⟩ := h; rfl; done) | (obtain ⟨_, _, _, _, _, rfl, _⟩ := h; rfl; done) | (obtain ⟨_, _, _, _, _, _, rfl, _⟩ := h; rfl; done) | (obtain ⟨_, _, _, _, _, _, _, rfl, _⟩ := h; rfl; done) | (obtain ⟨_, _, _, _, _, _, _, _, rfl, _⟩ := h; rfl; done) | (obtain ⟨_, _, _, _, _, _, _, _, _, rfl, _⟩ := h; rfl; done) | (obtain ⟨_, _, _, _, _, _, _, _, _, _, rfl, _⟩ := h; rfl; done) | (obtain ⟨_, _, _, _, _, _, _, _, _, _, _, rfl, _⟩ := h; rfl; done) | (obtain ⟨_, _, _, _, _, _, _, _, _, _, _, _, rfl, _⟩ := h; rfl; done) | (obtain ⟨_, _, _, _, _, _, _, _, _, _, _, _, _, rfl, _⟩ := h; rfl; done) | (obtain ⟨_, _, _, _, _, _, _, _, _, _, _, _, _, _, rfl, _⟩ := h; rfl; done) | (rcases h with h | h <;> first | (obtain ⟨_, rfl, _⟩ := h; rfl; done) | (obtain ⟨_, _, rfl, _⟩ := h; rfl; done) | (obtain ⟨_, _, _, rfl, _⟩ := h; rfl; done) | (obtain ⟨_, _, _, _, rfl, _⟩ := h; rfl; done) | (obtain ⟨_, _, _, _, _, rfl, _⟩ := h; rfl; done) | (obtain ⟨_, _, _, _, _, _, rfl, _⟩ := h; rfl; done) | (obtain ⟨_, _, _, _, _, _, _, rfl, _⟩ := h; rfl; done) | (obtain ⟨_, _, _, _, _, _, _, _, rfl, _⟩ := h; rfl; done) | (obtain ⟨_, _, _, _, _, _, _, _, _, rfl, _⟩ := h; rfl; done) | (obtain ⟨_, _, _, _, _, _, _, _, _, _, rfl, _⟩ := h; rfl; done) | (obtain ⟨_, _, _, _, _, _, _, _, _, _, _, rfl, _⟩ := h; rfl; done) | (obtain ⟨_, _, _, _, _, _, _, _, _, _, _, _, rfl, _⟩ := h; rfl; done) | (obtain ⟨_, _, _, _, _, _, _, _, _, _, _, _, _, rfl, _⟩ := h; rfl; done) | (obtain ⟨_, _, _, _, _, _, _, _, _, _, _, _, _, _, rfl, _⟩ := h; rfl; done))) (rd_signs6 K)
  have k__law_word := dv__law_word (P := P) (w := w) (b := b) (mg := mg) (sp := spWordP) F__law_word F__law_draw k__law_draw (PySem.W.mg_none_of X G no_range) (by intro vs H Q E h; first | (obtain ⟨_, rfl, _⟩ := h; rfl; done) | (obtain ⟨_, _, rfl, _⟩ := h; rfl; done) | (obtain ⟨_, _, _, rfl, _⟩ := h; rfl; done) | (obtain ⟨_, _, _, _, rfl, _⟩ := h; rfl; done) | (obtain ⟨_, _, _, _, _, rfl, _⟩ := h; rfl; done) | (obtain ⟨_, _, _, _, _, _, rfl, _⟩ := h; rfl; done) | (obtain ⟨_, _, _, _, _, _, _, rfl, _⟩ := h; rfl; done) | (obtain ⟨_, _, _, _, _, _, _, _, rfl, _⟩ := h; rfl; done) | (obtain ⟨_, _, _, _, _, _, _, _, _, rfl, _⟩ := h; rfl; done) | (obtain ⟨_, _, _, _, _, _, _, _, _, _, rfl, _⟩ := h; rfl; done) | (obtain ⟨_, _, _, _, _, _, _, _, _, _, _, rfl, _⟩ := h; rfl; done) | (obtain ⟨_, _, _, _, _, _, _, _, _, _, _, _, rfl, _⟩ := h; rfl; done) | (obtain ⟨_, _, _, _, _, _, _, _, _, _, _, _, _, rfl, _⟩ := h; rfl; done) | (obtain ⟨_, _, _, _, _, _, _, _, _, _, _, _, _, _, rfl, _⟩ := h; rfl; done) | (rcases h with h | h <;> first | (obtain ⟨_, rfl, _⟩ := h; rfl; done) | (obtain ⟨_, _, rfl, _⟩ := h; rfl; done) | (obtain ⟨_, _, _, rfl, _⟩ := h; rfl; done) | (obtain ⟨_, _, _, _, rfl, _⟩ := h; rfl; done) | (obtain ⟨_, _, _, _, _, rfl, _⟩ := h; rfl; done) | (obtain ⟨_, _, _, _, _, _, rfl, _⟩ := h; rfl; done) | (obtain ⟨_, _, _, _, _, _, _, rfl, _⟩ := h; rfl; done) | (obtain ⟨_, _, _, _, _, _, _, _, rfl, _⟩ := h; rfl; done) | (obtain ⟨_, _, _, _, _, _, _, _, _, rfl, _⟩ := h; rfl; done) | (obtain ⟨_, _, _, _, _, _, _, _, _, _, rfl, _⟩ := h; rfl; done) | (obtain ⟨_, _, _, _, _, _, _, _, _, _, _, rfl, _⟩ := h; rfl; done) | (obtain ⟨_, _, _, _, _, _, _, _, _, _, _, _, rfl, _⟩ := h; rfl; done) | (obtain ⟨_, _, _, _, _, _, _, _, _, _, _, _, _, rfl, _⟩ := h; rfl; done) | (obtain ⟨_, _, _, _, _, _, _, _, _, _, _, _, _, _, rfl, _⟩ := h; rfl; done))) (rd_wordP K)
  have k__law_names := dv__law_names (P := P) (w := w) (b := b) (mg := mg) (sp := spNamesP) F__law_names F__law_draw k__law_draw F__law_word k__law_word (PySem.W.mg_none_of X G no_int) (PySem.W.mg_none_of X G no_len) (PySem.W.mg_none_of X G no_range) (by intro vs H Q E h; first | (obtain ⟨_, rfl, _⟩ := h; rfl; done) | (obtain ⟨_, _, rfl, _⟩ := h; rfl; done) | (obtain ⟨_, _, _, rfl, _⟩ := h; rfl; done) | (obtain ⟨_, _, _, _, rfl, _⟩ := h; rfl; done) | (obtain ⟨_, _, _, _, _, rfl, _⟩ := h; rfl; done) | (obtain ⟨_, _, _, _, _, _, rfl, _⟩ := h; rfl; done) | (obtain ⟨_, _, _, _, _, _, _, rfl, _⟩ := h; rfl; done) | (obtain ⟨_, _, _, _, _, _, _, _, rfl, _⟩ := h; rfl; done) | (obtain ⟨_, _, _, _, _, _, _, _, _, rfl, _⟩ := h; rfl; done) | (obtain ⟨_, _, _, _, _, _, _, _, _, _, rfl, _⟩ := h; rfl; done) | (obtain ⟨_, _, _, _, _, _, _, _, _, _, _, rfl, _⟩ := h; rfl; done) | (obtain ⟨_, _, _, _, _, _, _, _, _, _, _, _, rfl, _⟩ := h; rfl; done) | (obtain ⟨_, _, _, _, _, _, _, _, _, _, _, _, _, rfl, _⟩ := h; rfl; done) | (obtain ⟨_, _, _, _, _, _, _, _, _, _, _, _, _, _, rfl, _⟩ := h; rfl; done) | (rcases h with h | h <;> first | (obtain ⟨_, rfl, _⟩ := h; rfl; done) | (obtain ⟨_, _, rfl, _⟩ := h; rfl; done) | (obtain ⟨_, _, _, rfl, _⟩ := h; rfl; done) | (obtain ⟨_, _, _, _, rfl, _⟩ := h; rfl; done) | (obtain ⟨_, _, _, _, _, rfl, _⟩ := h; rfl; done) | (obtain ⟨_, _, _, _, _, _, rfl, _⟩ := h; rfl; done) | (obtain ⟨_, _, _, _, _, _, _, rfl, _⟩ := h; rfl; done) | (obtain ⟨_, _, _, _, _, _, _, _, rfl, _⟩ := h; rfl; done) | (obtain ⟨_, _, _, _, _, _, _, _, _, rfl, _⟩ := h; rfl; done) | (obtain ⟨_, _, _, _, _, _, _, _, _, _, rfl, _⟩ := h; rfl; done) | (obtain ⟨_, _, _, _, _, _, _, _, _, _, _, rfl, _⟩ := h; rfl; done) | (obtain ⟨_, _, _, _, _, _, _, _, _, _, _, _, rfl, _⟩ := h; rfl; done) | (obtain ⟨_, _, _, _, _, _, _, _, _, _, _, _, _, rfl, _⟩ := h; rfl; done) | (obtain ⟨_, _, _, _, _, _, _, _, _, _, _, _, _, _, rfl, _⟩ := h; rfl; done))) (rd_namesP K)
  have k__law_minutes := dv__law_minutes (P := P) (w := w) (b := b) (mg := mg) (sp := spMinP) F__law_minutes (PySem.W.mg_none_of X G no_range) F__law_draw k__law_draw (PySem.W.mg_none_of X G no_tuple) (by intro vs H Q E h; first | (obtain ⟨_, rfl, _⟩ := h; rfl; done) | (obtain ⟨_, _, rfl, _⟩ := h; rfl; done) | (obtain ⟨_, _, _, rfl, _⟩ := h; rfl; done) | (obtain ⟨_, _, _, _, rfl, _⟩ := h; rfl; done) | (obtain ⟨_, _, _, _, _, rfl, _⟩ := h; rfl; done) | (obtain ⟨_, _, _, _, _, _, rfl, _⟩ := h; rfl; done) | (obtain ⟨_, _, _, _, _, _, _, rfl, _⟩ := h; rfl; done) | (obtain ⟨_, _, _, _, _, _, _, _, rfl, _⟩ := h; rfl; done) | (obtain ⟨_, _, _, _, _, _, _, _, _, rfl, _⟩ := h; rfl; done) | (obtain ⟨_, _, _, _, _, _, _, _, _, _, rfl, _⟩ := h; rfl; done) | (obtain ⟨_, _, _, _, _, _, _, _, _, _, _, rfl, _⟩ := h; rfl; done) | (obtain ⟨_, _, _, _, _, _, _, _, _, _, _, _, rfl, _⟩ := h; rfl; done) | (obtain ⟨_, _, _, _, _, _, _, _, _, _, _, _, _, rfl, _⟩ := h; rfl; done) | (obtain ⟨_, _, _, _, _, _, _, _, _, _, _, _, _, _, rfl, _⟩ := h; rfl; done) | (rcases h with h | h <;> first | (obtain ⟨_, rfl, _⟩ := h; rfl; done) | (obtain ⟨_, _, rfl, _⟩ := h; rfl; done) | (obtain ⟨_, _, _, rfl, _⟩ := h; rfl; done) | (obtain ⟨_, _, _, _, rfl, _⟩ := h; rfl; done) | (obtain ⟨_, _, _, _, _, rfl, _⟩ := h; rfl; done) | (obtain ⟨_, _, _, _, _, _, rfl, _⟩ := h; rfl; done) | (obtain ⟨_, _, _, _, _, _, _, rfl, _⟩ := h; rfl; done) | (obtain ⟨_, _, _, _, _, _, _, _, rfl, _⟩ := h; rfl; done) | (obtain ⟨_, _, _, _, _, _, _, _, _, rfl, _⟩ := h; rfl; done) | (obtain ⟨_, _, _, _, _, _, _, _, _, _, rfl, _⟩ := h; rfl; done) | (obtain ⟨_, _, _, _, _, _, _, _, _, _, _, rfl, _⟩ := h; rfl; done) | (obtain ⟨_, _, _, _, _, _, _, _, _, _, _, _, rfl, _⟩ := h; rfl; done) | (obtain ⟨_, _, _, _, _, _, _, _, _, _, _, _, _, rfl, _⟩ := h; rfl; done) | (obtain ⟨_, _, _, _, _, _, _, _, _, _, _, _, _, _, rfl, _⟩ := h; rfl; done))) (rd_minP K)
  have k__law_town := dv__law_town (P := P) (w := w) (b := b) (mg := mg) (sp := spTownP) F__law_town F__law_draw k__law_draw (PySem.W.mg_none_of X G no_int) F__law_names k__law_names (PySem.W.mg_none_of X G no_range) F__law_minutes k__law_minutes (PySem.W.mg_none_of X G no_list) (PySem.W.mg_none_of X G no_len) (PySem.W.mg_none_of X G no_tuple) (by intro vs H Q E h; first | (obtain ⟨_, rfl, _⟩ := h; rfl; done) | (obtain ⟨_, _, rfl, _⟩ := h; rfl; done) | (obtain ⟨_, _, _, rfl, _⟩ := h; rfl; done) | (obtain ⟨_, _, _, _, rfl, _⟩ := h; rfl; done) | (obtain ⟨_, _, _, _, _, rfl, _⟩ := h; rfl; done) | (obtain ⟨_, _, _, _, _, _, rfl, _⟩ := h; rfl; done) | (obtain ⟨_, _, _, _, _, _, _, rfl, _⟩ := h; rfl; done) | (obtain ⟨_, _, _, _, _, _, _, _, rfl, _⟩ := h; rfl; done) | (obtain ⟨_, _, _, _, _, _, _, _, _, rfl, _⟩ := h; rfl; done) | (obtain ⟨_, _, _, _, _, _, _, _, _, _, rfl, _⟩ := h; rfl; done) | (obtain ⟨_, _, _, _, _, _, _, _, _, _, _, rfl, _⟩ := h; rfl; done) | (obtain ⟨_, _, _, _, _, _, _, _, _, _, _, _, rfl, _⟩ := h; rfl; done) | (obtain ⟨_, _, _, _, _, _, _, _, _, _, _, _, _, rfl, _⟩ := h; rfl; done) | (obtain ⟨_, _, _, _, _, _, _, _, _, _, _, _, _, _, rfl, _⟩ := h; rfl; done) | (rcases h with h | h <;> first | (obtain ⟨_, rfl, _⟩ := h; rfl; done) | (obtain ⟨_, _, rfl, _⟩ := h; rfl; done) | (obtain ⟨_, _, _, rfl, _⟩ := h; rfl; done) | (obtain ⟨_, _, _, _, rfl, _⟩ := h; rfl; done) | (obtain ⟨_, _, _, _, _, rfl, _⟩ := h; rfl; done) | (obtain ⟨_, _, _, _, _, _, rfl, _⟩ := h; rfl; done) | (obtain ⟨_, _, _, _, _, _, _, rfl, _⟩ := h; rfl; done) | (obtain ⟨_, _, _, _, _, _, _, _, rfl, _⟩ := h; rfl; done) | (obtain ⟨_, _, _, _, _, _, _, _, _, rfl, _⟩ := h; rfl; done) | (obtain ⟨_, _, _, _, _, _, _, _, _, _, rfl, _⟩ := h; rfl; done) | (obtain ⟨_, _, _, _, _, _, _, _, _, _, _, rfl, _⟩ := h; rfl; done) | (obtain ⟨_, _, _, _, _, _, _, _, _, _, _, _, rfl, _⟩ := h; rfl; done) | (obtain ⟨_, _, _, _, _, _, _, _, _, _, _, _, _, rfl, _⟩ := h; rfl; done) | (obtain ⟨_, _, _, _, _, _, _, _, _, _, _, _, _, _, rfl, _⟩ := h; rfl; done))) (rd_townP K)
  have k__law_is_name := dv__law_is_name (P := P) (w := w) (b := b) (mg := mg) (sp := spIsL K) F__law_is_name (PySem.W.mg_none_of X G no_isinstance) (PySem.W.mg_none_of X G no_str) (PySem.W.mg_none_of X G no_len) (by intro vs H Q E h; first | (obtain ⟨_, rfl, _⟩ := h; rfl; done) | (obtain ⟨_, _, rfl, _⟩ := h; rfl; done) | (obtain ⟨_, _, _, rfl, _⟩ := h; rfl; done) | (obtain ⟨_, _, _, _, rfl, _⟩ := h; rfl; done) | (obtain ⟨_, _, _, _, _, rfl, _⟩ := h; rfl; done) | (obtain ⟨_, _, _, _, _, _, rfl, _⟩ := h; rfl; done) | (obtain ⟨_, _, _, _, _, _, _, rfl, _⟩ := h; rfl; done) | (obtain ⟨_, _, _, _, _, _, _, _, rfl, _⟩ := h; rfl; done) | (obtain ⟨_, _, _, _, _, _, _, _, _, rfl, _⟩ := h; rfl; done) | (obtain ⟨_, _, _, _, _, _, _, _, _, _, rfl, _⟩ := h; rfl; done) | (obtain ⟨_, _, _, _, _, _, _, _, _, _, _, rfl, _⟩ := h; rfl; done) | (obtain ⟨_, _, _, _, _, _, _, _, _, _, _, _, rfl, _⟩ := h; rfl; done) | (obtain ⟨_, _, _, _, _, _, _, _, _, _, _, _, _, rfl, _⟩ := h; rfl; done) | (obtain ⟨_, _, _, _, _, _, _, _, _, _, _, _, _, _, rfl, _⟩ := h; rfl; done) | (rcases h with h | h <;> first | (obtain ⟨_, rfl, _⟩ := h; rfl; done) | (obtain ⟨_, _, rfl, _⟩ := h; rfl; done) | (obtain ⟨_, _, _, rfl, _⟩ := h; rfl; done) | (obtain ⟨_, _, _, _, rfl, _⟩ := h; rfl; done) | (obtain ⟨_, _, _, _, _, rfl, _⟩ := h; rfl; done) | (obtain ⟨_, _, _, _, _, _, rfl, _⟩ := h; rfl; done) | (obtain ⟨_, _, _, _, _, _, _, rfl, _⟩ := h; rfl; done) | (obtain ⟨_, _, _, _, _, _, _, _, rfl, _⟩ := h; rfl; done) | (obtain ⟨_, _, _, _, _, _, _, _, _, rfl, _⟩ := h; rfl; done) | (obtain ⟨_, _, _, _, _, _, _, _, _, _, rfl, _⟩ := h; rfl; done) | (obtain ⟨_, _, _, _, _, _, _, _, _, _, _, rfl, _⟩ := h; rfl; done) | (obtain ⟨_, _, _, _, _, _, _, _, _, _, _, _, rfl, _⟩ := h; rfl; done) | (obtain ⟨_, _, _, _, _, _, _, _, _, _, _, _, _, rfl, _⟩ := h; rfl; done) | (obtain ⟨_, _, _, _, _, _, _, _, _, _, _, _, _, _, rfl, _⟩ := h; rfl; done))) (rd_isL K)
  have k__law_whole := dv__law_whole (P := P) (w := w) (b := b) (mg := mg) (sp := spWithinX) F__law_whole (PySem.W.mg_none_of X G no_isinstance) (PySem.W.mg_none_of X G no_int) (PySem.W.mg_none_of X G no_bool) (by intro vs H Q E h; first | (obtain ⟨_, rfl, _⟩ := h; rfl; done) | (obtain ⟨_, _, rfl, _⟩ := h; rfl; done) | (obtain ⟨_, _, _, rfl, _⟩ := h; rfl; done) | (obtain ⟨_, _, _, _, rfl, _⟩ := h; rfl; done) | (obtain ⟨_, _, _, _, _, rfl, _⟩ := h; rfl; done) | (obtain ⟨_, _, _, _, _, _, rfl, _⟩ := h; rfl; done) | (obtain ⟨_, _, _, _, _, _, _, rfl, _⟩ := h; rfl; done) | (obtain ⟨_, _, _, _, _, _, _, _, rfl, _⟩ := h; rfl; done) | (obtain ⟨_, _, _, _, _, _, _, _, _, rfl, _⟩ := h; rfl; done) | (obtain ⟨_, _, _, _, _, _, _, _, _, _, rfl, _⟩ := h; rfl; done) | (obtain ⟨_, _, _, _, _, _, _, _, _, _, _, rfl, _⟩ := h; rfl; done) | (obtain ⟨_, _, _, _, _, _, _, _, _, _, _, _, rfl, _⟩ := h; rfl; done) | (obtain ⟨_, _, _, _, _, _, _, _, _, _, _, _, _, rfl, _⟩ := h; rfl; done) | (obtain ⟨_, _, _, _, _, _, _, _, _, _, _, _, _, _, rfl, _⟩ := h; rfl; done) | (rcases h with h | h <;> first | (obtain ⟨_, rfl, _⟩ := h; rfl; done) | (obtain ⟨_, _, rfl, _⟩ := h; rfl; done) | (obtain ⟨_, _, _, rfl, _⟩ := h; rfl; done) | (obtain ⟨_, _, _, _, rfl, _⟩ := h; rfl; done) | (obtain ⟨_, _, _, _, _, rfl, _⟩ := h; rfl; done) | (obtain ⟨_, _, _, _, _, _, rfl, _⟩ := h; rfl; done) | (obtain ⟨_, _, _, _, _, _, _, rfl, _⟩ := h; rfl; done) | (obtain ⟨_, _, _, _, _, _, _, _, rfl, _⟩ := h; rfl; done) | (obtain ⟨_, _, _, _, _, _, _, _, _, rfl, _⟩ := h; rfl; done) | (obtain ⟨_, _, _, _, _, _, _, _, _, _, rfl, _⟩ := h; rfl; done) | (obtain ⟨_, _, _, _, _, _, _, _, _, _, _, rfl, _⟩ := h; rfl; done) | (obtain ⟨_, _, _, _, _, _, _, _, _, _, _, _, rfl, _⟩ := h; rfl; done) | (obtain ⟨_, _, _, _, _, _, _, _, _, _, _, _, _, rfl, _⟩ := h; rfl; done) | (obtain ⟨_, _, _, _, _, _, _, _, _, _, _, _, _, _, rfl, _⟩ := h; rfl; done))) (rd_wholeLX K)
  have k__law_is_way := dv__law_is_way (P := P) (w := w) (b := b) (mg := mg) (sp := spDriveX) F__law_is_way F__law_whole k__law_whole (by intro vs H Q E h; first | (obtain ⟨_, rfl, _⟩ := h; rfl; done) | (obtain ⟨_, _, rfl, _⟩ := h; rfl; done) | (obtain ⟨_, _, _, rfl, _⟩ := h; rfl; done) | (obtain ⟨_, _, _, _, rfl, _⟩ := h; rfl; done) | (obtain ⟨_, _, _, _, _, rfl, _⟩ := h; rfl; done) | (obtain ⟨_, _, _, _, _, _, rfl, _⟩ := h; rfl; done) | (obtain ⟨_, _, _, _, _, _, _, rfl, _⟩ := h; rfl; done) | (obtain ⟨_, _, _, _, _, _, _, _, rfl, _⟩ := h; rfl; done) | (obtain ⟨_, _, _, _, _, _, _, _, _, rfl, _⟩ := h; rfl; done) | (obtain ⟨_, _, _, _, _, _, _, _, _, _, rfl, _⟩ := h; rfl; done) | (obtain ⟨_, _, _, _, _, _, _, _, _, _, _, rfl, _⟩ := h; rfl; done) | (obtain ⟨_, _, _, _, _, _, _, _, _, _, _, _, rfl, _⟩ := h; rfl; done) | (obtain ⟨_, _, _, _, _, _, _, _, _, _, _, _, _, rfl, _⟩ := h; rfl; done) | (obtain ⟨_, _, _, _, _, _, _, _, _, _, _, _, _, _, rfl, _⟩ := h; rfl; done) | (rcases h with h | h <;> first | (obtain ⟨_, rfl, _⟩ := h; rfl; done) | (obtain ⟨_, _, rfl, _⟩ := h; rfl; done) | (obtain ⟨_, _, _, rfl, _⟩ := h; rfl; done) | (obtain ⟨_, _, _, _, rfl, _⟩ := h; rfl; done) | (obtain ⟨_, _, _, _, _, rfl, _⟩ := h; rfl; done) | (obtain ⟨_, _, _, _, _, _, rfl, _⟩ := h; rfl; done) | (obtain ⟨_, _, _, _, _, _, _, rfl, _⟩ := h; rfl; done) | (obtain ⟨_, _, _, _, _, _, _, _, rfl, _⟩ := h; rfl; done) | (obtain ⟨_, _, _, _, _, _, _, _, _, rfl, _⟩ := h; rfl; done) | (obtain ⟨_, _, _, _, _, _, _, _, _, _, rfl, _⟩ := h; rfl; done) | (obtain ⟨_, _, _, _, _, _, _, _, _, _, _, rfl, _⟩ := h; rfl; done) | (obtain ⟨_, _, _, _, _, _, _, _, _, _, _, _, rfl, _⟩ := h; rfl; done) | (obtain ⟨_, _, _, _, _, _, _, _, _, _, _, _, _, rfl, _⟩ := h; rfl; done) | (obtain ⟨_, _, _, _, _, _, _, _, _, _, _, _, _, _, rfl, _⟩ := h; rfl; done))) (rd_wayLX K)
  have k__law_is_road := dv__law_is_road (P := P) (w := w) (b := b) (mg := mg) (sp := spRoadLX) F__law_is_road (PySem.W.mg_none_of X G no_isinstance) (PySem.W.mg_none_of X G no_tuple) (PySem.W.mg_none_of X G no_len) F__law_is_name k__law_is_name F__law_is_way k__law_is_way (by intro vs H Q E h; first | (obtain ⟨_, rfl, _⟩ := h; rfl; done) | (obtain ⟨_, _, rfl, _⟩ := h; rfl; done) | (obtain ⟨_, _, _, rfl, _⟩ := h; rfl; done) | (obtain ⟨_, _, _, _, rfl, _⟩ := h; rfl; done) | (obtain ⟨_, _, _, _, _, rfl, _⟩ := h; rfl; done) | (obtain ⟨_, _, _, _, _, _, rfl, _⟩ := h; rfl; done) | (obtain ⟨_, _, _, _, _, _, _, rfl, _⟩ := h; rfl; done) | (obtain ⟨_, _, _, _, _, _, _, _, rfl, _⟩ := h; rfl; done) | (obtain ⟨_, _, _, _, _, _, _, _, _, rfl, _⟩ := h; rfl; done) | (obtain ⟨_, _, _, _, _, _, _, _, _, _, rfl, _⟩ := h; rfl; done) | (obtain ⟨_, _, _, _, _, _, _, _, _, _, _, rfl, _⟩ := h; rfl; done) | (obtain ⟨_, _, _, _, _, _, _, _, _, _, _, _, rfl, _⟩ := h; rfl; done) | (obtain ⟨_, _, _, _, _, _, _, _, _, _, _, _, _, rfl, _⟩ := h; rfl; done) | (obtain ⟨_, _, _, _, _, _, _, _, _, _, _, _, _, _, rfl, _⟩ := h; rfl; done) | (rcases h with h | h <;> first | (obtain ⟨_, rfl, _⟩ := h; rfl; done) | (obtain ⟨_, _, rfl, _⟩ := h; rfl; done) | (obtain ⟨_, _, _, rfl, _⟩ := h; rfl; done) | (obtain ⟨_, _, _, _, rfl, _⟩ := h; rfl; done) | (obtain ⟨_, _, _, _, _, rfl, _⟩ := h; rfl; done) | (obtain ⟨_, _, _, _, _, _, rfl, _⟩ := h; rfl; done) | (obtain ⟨_, _, _, _, _, _, _, rfl, _⟩ := h; rfl; done) | (obtain ⟨_, _, _, _, _, _, _, _, rfl, _⟩ := h; rfl; done) | (obtain ⟨_, _, _, _, _, _, _, _, _, rfl, _⟩ := h; rfl; done) | (obtain ⟨_, _, _, _, _, _, _, _, _, _, rfl, _⟩ := h; rfl; done) | (obtain ⟨_, _, _, _, _, _, _, _, _, _, _, rfl, _⟩ := h; rfl; done) | (obtain ⟨_, _, _, _, _, _, _, _, _, _, _, _, rfl, _⟩ := h; rfl; done) | (obtain ⟨_, _, _, _, _, _, _, _, _, _, _, _, _, rfl, _⟩ := h; rfl; done) | (obtain ⟨_, _, _, _, _, _, _, _, _, _, _, _, _, _, rfl, _⟩ := h; rfl; done))) (rd_roadLX K)
  have k__law_is_town := dv__law_is_town (P := P) (w := w) (b := b) (mg := mg) (sp := spIsTownLX) F__law_is_town (PySem.W.mg_none_of X G no_isinstance) (PySem.W.mg_none_of X G no_tuple) (PySem.W.mg_none_of X G no_len) (PySem.W.mg_none_of X G no_enumerate) F__law_is_name k__law_is_name F__law_whole k__law_whole F__law_is_road k__law_is_road (by intro vs H Q E h; first | (obtain ⟨_, rfl, _⟩ := h; rfl; done) | (obtain ⟨_, _, rfl, _⟩ := h; rfl; done) | (obtain ⟨_, _, _, rfl, _⟩ := h; rfl; done) | (obtain ⟨_, _, _, _, rfl, _⟩ := h; rfl; done) | (obtain ⟨_, _, _, _, _, rfl, _⟩ := h; rfl; done) | (obtain ⟨_, _, _, _, _, _, rfl, _⟩ := h; rfl; done) | (obtain ⟨_, _, _, _, _, _, _, rfl, _⟩ := h; rfl; done) | (obtain ⟨_, _, _, _, _, _, _, _, rfl, _⟩ := h; rfl; done) | (obtain ⟨_, _, _, _, _, _, _, _, _, rfl, _⟩ := h; rfl; done) | (obtain ⟨_, _, _, _, _, _, _, _, _, _, rfl, _⟩ := h; rfl; done) | (obtain ⟨_, _, _, _, _, _, _, _, _, _, _, rfl, _⟩ := h; rfl; done) | (obtain ⟨_, _, _, _, _, _, _, _, _, _, _, _, rfl, _⟩ := h; rfl; done) | (obtain ⟨_, _, _, _, _, _, _, _, _, _, _, _, _, rfl, _⟩ := h; rfl; done) | (obtain ⟨_, _, _, _, _, _, _, _, _, _, _, _, _, _, rfl, _⟩ := h; rfl; done) | (rcases h with h | h <;> first | (obtain ⟨_, rfl, _⟩ := h; rfl; done) | (obtain ⟨_, _, rfl, _⟩ := h; rfl; done) | (obtain ⟨_, _, _, rfl, _⟩ := h; rfl; done) | (obtain ⟨_, _, _, _, rfl, _⟩ := h; rfl; done) | (obtain ⟨_, _, _, _, _, rfl, _⟩ := h; rfl; done) | (obtain ⟨_, _, _, _, _, _, rfl, _⟩ := h; rfl; done) | (obtain ⟨_, _, _, _, _, _, _, rfl, _⟩ := h; rfl; done) | (obtain ⟨_, _, _, _, _, _, _, _, rfl, _⟩ := h; rfl; done) | (obtain ⟨_, _, _, _, _, _, _, _, _, rfl, _⟩ := h; rfl; done) | (obtain ⟨_, _, _, _, _, _, _, _, _, _, rfl, _⟩ := h; rfl; done) | (obtain ⟨_, _, _, _, _, _, _, _, _, _, _, rfl, _⟩ := h; rfl; done) | (obtain ⟨_, _, _, _, _, _, _, _, _, _, _, _, rfl, _⟩ := h; rfl; done) | (obtain ⟨_, _, _, _, _, _, _, _, _, _, _, _, _, rfl, _⟩ := h; rfl; done) | (obtain ⟨_, _, _, _, _, _, _, _, _, _, _, _, _, _, rfl, _⟩ := h; rfl; done))) (rd_isTownLX K)
  have kk__law_spots : ∀ m : Nat, Keeps P w K mg b CX0 (1 + m) a__law_spots (PySem.W.fnOf "_law_spots" "_law_spots" (defArgs s__law_spots_) (defBody s__law_spots_) (defScope s__law_spots_) .none kV__law_spots dc__law_spots pm__law_spots an__law_spots cd__law_spots ct__law_spots) ["thing"] (spSpots K m) := by
    intro m
    induction m with
    | zero => exact ⟨fun _ _ _ _ h => h.elim, fun _ _ _ _ _ _ _ _ _ _ _ _ _ h => h.elim⟩
    | succ m ih => exact dv__law_spots (P := P) (w := w) (b := b) (mg := mg) (sp := spSpots K (m + 1)) F__law_spots (PySem.W.mg_none_of X G no_isinstance) (PySem.W.mg_none_of X G no_tuple) (PySem.W.mg_none_of X G no_enumerate) (Nat.le_add_right _ _) F__law_spots ih (by intro vs H Q E h; first | (obtain ⟨_, rfl, _⟩ := h; rfl; done) | (obtain ⟨_, _, rfl, _⟩ := h; rfl; done) | (obtain ⟨_, _, _, rfl, _⟩ := h; rfl; done) | (obtain ⟨_, _, _, _, rfl, _⟩ := h; rfl; done) | (obtain ⟨_, _, _, _, _, rfl, _⟩ := h; rfl; done) | (obtain ⟨_, _, _, _, _, _, rfl, _⟩ := h; rfl; done) | (obtain ⟨_, _, _, _, _, _, _, rfl, _⟩ := h; rfl; done) | (obtain ⟨_, _, _, _, _, _, _, _, rfl, _⟩ := h; rfl; done) | (obtain ⟨_, _, _, _, _, _, _, _, _, rfl, _⟩ := h; rfl; done) | (obtain ⟨_, _, _, _, _, _, _, _, _, _, rfl, _⟩ := h; rfl; done) | (obtain ⟨_, _, _, _, _, _, _, _, _, _, _, rfl, _⟩ := h; rfl; done) | (obtain ⟨_, _, _, _, _, _, _, _, _, _, _, _, rfl, _⟩ := h; rfl; done) | (obtain ⟨_, _, _, _, _, _, _, _, _, _, _, _, _, rfl, _⟩ := h; rfl; done) | (obtain ⟨_, _, _, _, _, _, _, _, _, _, _, _, _, _, rfl, _⟩ := h; rfl; done) | (rcases h with h | h <;> first | (obtain ⟨_, rfl, _⟩ := h; rfl; done) | (obtain ⟨_, _, rfl, _⟩ := h; rfl; done) | (obtain ⟨_, _, _, rfl, _⟩ := h; rfl; done) | (obtain ⟨_, _, _, _, rfl, _⟩ := h; rfl; done) | (obtain ⟨_, _, _, _, _, rfl, _⟩ := h; rfl; done) | (obtain ⟨_, _, _, _, _, _, rfl, _⟩ := h; rfl; done) | (obtain ⟨_, _, _, _, _, _, _, rfl, _⟩ := h; rfl; done) | (obtain ⟨_, _, _, _, _, _, _, _, rfl, _⟩ := h; rfl; done) | (obtain ⟨_, _, _, _, _, _, _, _, _, rfl, _⟩ := h; rfl; done) | (obtain ⟨_, _, _, _, _, _, _, _, _, _, rfl, _⟩ := h; rfl; done) | (obtain ⟨_, _, _, _, _, _, _, _, _, _, _, rfl, _⟩ := h; rfl; done) | (obtain ⟨_, _, _, _, _, _, _, _, _, _, _, _, rfl, _⟩ := h; rfl; done) | (obtain ⟨_, _, _, _, _, _, _, _, _, _, _, _, _, rfl, _⟩ := h; rfl; done) | (obtain ⟨_, _, _, _, _, _, _, _, _, _, _, _, _, _, rfl, _⟩ := h; rfl; done))) (rd_spots K m)
  have k__law_spots := kk__law_spots 7
  have kk__law_put : ∀ m : Nat, Keeps P w K mg b CX0 (1 + m) a__law_put (PySem.W.fnOf "_law_put" "_law_put" (defArgs s__law_put_) (defBody s__law_put_) (defScope s__law_put_) .none kV__law_put dc__law_put pm__law_put an__law_put cd__law_put ct__law_put) ["thing", "spot", "part"] (spPut K m) := by
    intro m
    induction m with
    | zero => exact ⟨fun _ _ _ _ h => h.elim, fun _ _ _ _ _ _ _ _ _ _ _ _ _ h => h.elim⟩
    | succ m ih => exact dv__law_put (P := P) (w := w) (b := b) (mg := mg) (sp := spPut K (m + 1)) F__law_put (Nat.le_add_right _ _) F__law_put ih (by intro vs H Q E h; first | (obtain ⟨_, rfl, _⟩ := h; rfl; done) | (obtain ⟨_, _, rfl, _⟩ := h; rfl; done) | (obtain ⟨_, _, _, rfl, _⟩ := h; rfl; done) | (obtain ⟨_, _, _, _, rfl, _⟩ := h; rfl; done) | (obtain ⟨_, _, _, _, _, rfl, _⟩ := h; rfl; done) | (obtain ⟨_, _, _, _, _, _, rfl, _⟩ := h; rfl; done) | (obtain ⟨_, _, _, _, _, _, _, rfl, _⟩ := h; rfl; done) | (obtain ⟨_, _, _, _, _, _, _, _, rfl, _⟩ := h; rfl; done) | (obtain ⟨_, _, _, _, _, _, _, _, _, rfl, _⟩ := h; rfl; done) | (obtain ⟨_, _, _, _, _, _, _, _, _, _, rfl, _⟩ := h; rfl; done) | (obtain ⟨_, _, _, _, _, _, _, _, _, _, _, rfl, _⟩ := h; rfl; done) | (obtain ⟨_, _, _, _, _, _, _, _, _, _, _, _, rfl, _⟩ := h; rfl; done) | (obtain ⟨_, _, _, _, _, _, _, _, _, _, _, _, _, rfl, _⟩ := h; rfl; done) | (obtain ⟨_, _, _, _, _, _, _, _, _, _, _, _, _, _, rfl, _⟩ := h; rfl; done) | (rcases h with h | h <;> first | (obtain ⟨_, rfl, _⟩ := h; rfl; done) | (obtain ⟨_, _, rfl, _⟩ := h; rfl; done) | (obtain ⟨_, _, _, rfl, _⟩ := h; rfl; done) | (obtain ⟨_, _, _, _, rfl, _⟩ := h; rfl; done) | (obtain ⟨_, _, _, _, _, rfl, _⟩ := h; rfl; done) | (obtain ⟨_, _, _, _, _, _, rfl, _⟩ := h; rfl; done) | (obtain ⟨_, _, _, _, _, _, _, rfl, _⟩ := h; rfl; done) | (obtain ⟨_, _, _, _, _, _, _, _, rfl, _⟩ := h; rfl; done) | (obtain ⟨_, _, _, _, _, _, _, _, _, rfl, _⟩ := h; rfl; done) | (obtain ⟨_, _, _, _, _, _, _, _, _, _, rfl, _⟩ := h; rfl; done) | (obtain ⟨_, _, _, _, _, _, _, _, _, _, _, rfl, _⟩ := h; rfl; done) | (obtain ⟨_, _, _, _, _, _, _, _, _, _, _, _, rfl, _⟩ := h; rfl; done) | (obtain ⟨_, _, _, _, _, _, _, _, _, _, _, _, _, rfl, _⟩ := h; rfl; done) | (obtain ⟨_, _, _, _, _, _, _, _, _, _, _, _, _, _, rfl, _⟩ := h; rfl; done))) (rd_put K m)
  have k__law_put := kk__law_put 7
  have k__law_odd_text := dv__law_odd_text (P := P) (w := w) (b := b) (mg := mg) (sp := spOddText) F__law_odd_text F__law_signs k__law_signs F__law_draw k__law_draw (PySem.W.mg_none_of X G no_len) (by intro vs H Q E h; first | (obtain ⟨_, rfl, _⟩ := h; rfl; done) | (obtain ⟨_, _, rfl, _⟩ := h; rfl; done) | (obtain ⟨_, _, _, rfl, _⟩ := h; rfl; done) | (obtain ⟨_, _, _, _, rfl, _⟩ := h; rfl; done) | (obtain ⟨_, _, _, _, _, rfl, _⟩ := h; rfl; done) | (obtain ⟨_, _, _, _, _, _, rfl, _⟩ := h; rfl; done) | (obtain ⟨_, _, _, _, _, _, _, rfl, _⟩ := h; rfl; done) | (obtain ⟨_, _, _, _, _, _, _, _, rfl, _⟩ := h; rfl; done) | (obtain ⟨_, _, _, _, _, _, _, _, _, rfl, _⟩ := h; rfl; done) | (obtain ⟨_, _, _, _, _, _, _, _, _, _, rfl, _⟩ := h; rfl; done) | (obtain ⟨_, _, _, _, _, _, _, _, _, _, _, rfl, _⟩ := h; rfl; done) | (obtain ⟨_, _, _, _, _, _, _, _, _, _, _, _, rfl, _⟩ := h; rfl; done) | (obtain ⟨_, _, _, _, _, _, _, _, _, _, _, _, _, rfl, _⟩ := h; rfl; done) | (obtain ⟨_, _, _, _, _, _, _, _, _, _, _, _, _, _, rfl, _⟩ := h; rfl; done) | (rcases h with h | h <;> first | (obtain ⟨_, rfl, _⟩ := h; rfl; done) | (obtain ⟨_, _, rfl, _⟩ := h; rfl; done) | (obtain ⟨_, _, _, rfl, _⟩ := h; rfl; done) | (obtain ⟨_, _, _, _, rfl, _⟩ := h; rfl; done) | (obtain ⟨_, _, _, _, _, rfl, _⟩ := h; rfl; done) | (obtain ⟨_, _, _, _, _, _, rfl, _⟩ := h; rfl; done) | (obtain ⟨_, _, _, _, _, _, _, rfl, _⟩ := h; rfl; done) | (obtain ⟨_, _, _, _, _, _, _, _, rfl, _⟩ := h; rfl; done) | (obtain ⟨_, _, _, _, _, _, _, _, _, rfl, _⟩ := h; rfl; done) | (obtain ⟨_, _, _, _, _, _, _, _, _, _, rfl, _⟩ := h; rfl; done) | (obtain ⟨_, _, _, _, _, _, _, _, _, _, _, rfl, _⟩ := h; rfl; done) | (obtain ⟨_, _, _, _, _, _, _, _, _, _, _, _, rfl, _⟩ := h; rfl; done) | (obtain ⟨_, _, _, _, _, _, _, _, _, _, _, _, _, rfl, _⟩ := h; rfl; done) | (obtain ⟨_, _, _, _, _, _, _, _, _, _, _, _, _, _, rfl, _⟩ := h; rfl; done))) (rd_oddText K)
  have k__law_odd_row := dv__law_odd_row (P := P) (w := w) (b := b) (mg := mg) (sp := spOddRow) F__law_odd_row F__law_draw k__law_draw (PySem.W.mg_none_of X G no_len) (PySem.W.mg_none_of X G no_list) (by intro vs H Q E h; first | (obtain ⟨_, rfl, _⟩ := h; rfl; done) | (obtain ⟨_, _, rfl, _⟩ := h; rfl; done) | (obtain ⟨_, _, _, rfl, _⟩ := h; rfl; done) | (obtain ⟨_, _, _, _, rfl, _⟩ := h; rfl; done) | (obtain ⟨_, _, _, _, _, rfl, _⟩ := h; rfl; done) | (obtain ⟨_, _, _, _, _, _, rfl, _⟩ := h; rfl; done) | (obtain ⟨_, _, _, _, _, _, _, rfl, _⟩ := h; rfl; done) | (obtain ⟨_, _, _, _, _, _, _, _, rfl, _⟩ := h; rfl; done) | (obtain ⟨_, _, _, _, _, _, _, _, _, rfl, _⟩ := h; rfl; done) | (obtain ⟨_, _, _, _, _, _, _, _, _, _, rfl, _⟩ := h; rfl; done) | (obtain ⟨_, _, _, _, _, _, _, _, _, _, _, rfl, _⟩ := h; rfl; done) | (obtain ⟨_, _, _, _, _, _, _, _, _, _, _, _, rfl, _⟩ := h; rfl; done) | (obtain ⟨_, _, _, _, _, _, _, _, _, _, _, _, _, rfl, _⟩ := h; rfl; done) | (obtain ⟨_, _, _, _, _, _, _, _, _, _, _, _, _, _, rfl, _⟩ := h; rfl; done) | (rcases h with h | h <;> first | (obtain ⟨_, rfl, _⟩ := h; rfl; done) | (obtain ⟨_, _, rfl, _⟩ := h; rfl; done) | (obtain ⟨_, _, _, rfl, _⟩ := h; rfl; done) | (obtain ⟨_, _, _, _, rfl, _⟩ := h; rfl; done) | (obtain ⟨_, _, _, _, _, rfl, _⟩ := h; rfl; done) | (obtain ⟨_, _, _, _, _, _, rfl, _⟩ := h; rfl; done) | (obtain ⟨_, _, _, _, _, _, _, rfl, _⟩ := h; rfl; done) | (obtain ⟨_, _, _, _, _, _, _, _, rfl, _⟩ := h; rfl; done) | (obtain ⟨_, _, _, _, _, _, _, _, _, rfl, _⟩ := h; rfl; done) | (obtain ⟨_, _, _, _, _, _, _, _, _, _, rfl, _⟩ := h; rfl; done) | (obtain ⟨_, _, _, _, _, _, _, _, _, _, _, rfl, _⟩ := h; rfl; done) | (obtain ⟨_, _, _, _, _, _, _, _, _, _, _, _, rfl, _⟩ := h; rfl; done) | (obtain ⟨_, _, _, _, _, _, _, _, _, _, _, _, _, rfl, _⟩ := h; rfl; done) | (obtain ⟨_, _, _, _, _, _, _, _, _, _, _, _, _, _, rfl, _⟩ := h; rfl; done))) (rd_oddRow K)
  have k__law_odd := dv__law_odd (P := P) (w := w) (b := b) (mg := mg) (sp := spOdd) F__law_odd F__law_draw k__law_draw (PySem.W.mg_none_of X G no_isinstance) (PySem.W.mg_none_of X G no_str) F__law_odd_text k__law_odd_text (PySem.W.mg_none_of X G no_tuple) F__law_odd_row k__law_odd_row (PySem.W.mg_none_of X G no_int) (by intro vs H Q E h; first | (obtain ⟨_, rfl, _⟩ := h; rfl; done) | (obtain ⟨_, _, rfl, _⟩ := h; rfl; done) | (obtain ⟨_, _, _, rfl, _⟩ := h; rfl; done) | (obtain ⟨_, _, _, _, rfl, _⟩ := h; rfl; done) | (obtain ⟨_, _, _, _, _, rfl, _⟩ := h; rfl; done) | (obtain ⟨_, _, _, _, _, _, rfl, _⟩ := h; rfl; done) | (obtain ⟨_, _, _, _, _, _, _, rfl, _⟩ := h; rfl; done) | (obtain ⟨_, _, _, _, _, _, _, _, rfl, _⟩ := h; rfl; done) | (obtain ⟨_, _, _, _, _, _, _, _, _, rfl, _⟩ := h; rfl; done) | (obtain ⟨_, _, _, _, _, _, _, _, _, _, rfl, _⟩ := h; rfl; done) | (obtain ⟨_, _, _, _, _, _, _, _, _, _, _, rfl, _⟩ := h; rfl; done) | (obtain ⟨_, _, _, _, _, _, _, _, _, _, _, _, rfl, _⟩ := h; rfl; done) | (obtain ⟨_, _, _, _, _, _, _, _, _, _, _, _, _, rfl, _⟩ := h; rfl; done) | (obtain ⟨_, _, _, _, _, _, _, _, _, _, _, _, _, _, rfl, _⟩ := h; rfl; done) | (rcases h with h | h <;> first | (obtain ⟨_, rfl, _⟩ := h; rfl; done) | (obtain ⟨_, _, rfl, _⟩ := h; rfl; done) | (obtain ⟨_, _, _, rfl, _⟩ := h; rfl; done) | (obtain ⟨_, _, _, _, rfl, _⟩ := h; rfl; done) | (obtain ⟨_, _, _, _, _, rfl, _⟩ := h; rfl; done) | (obtain ⟨_, _, _, _, _, _, rfl, _⟩ := h; rfl; done) | (obtain ⟨_, _, _, _, _, _, _, rfl, _⟩ := h; rfl; done) | (obtain ⟨_, _, _, _, _, _, _, _, rfl, _⟩ := h; rfl; done) | (obtain ⟨_, _, _, _, _, _, _, _, _, rfl, _⟩ := h; rfl; done) | (obtain ⟨_, _, _, _, _, _, _, _, _, _, rfl, _⟩ := h; rfl; done) | (obtain ⟨_, _, _, _, _, _, _, _, _, _, _, rfl, _⟩ := h; rfl; done) | (obtain ⟨_, _, _, _, _, _, _, _, _, _, _, _, rfl, _⟩ := h; rfl; done) | (obtain ⟨_, _, _, _, _, _, _, _, _, _, _, _, _, rfl, _⟩ := h; rfl; done) | (obtain ⟨_, _, _, _, _, _, _, _, _, _, _, _, _, _, rfl, _⟩ := h; rfl; done))) (rd_odd K)
  have k__law_spoilt := dv__law_spoilt (P := P) (w := w) (b := b) (mg := mg) (sp := spSpoilt) F__law_spoilt F__law_spots k__law_spots F__law_draw k__law_draw (PySem.W.mg_none_of X G no_len) F__law_put k__law_put F__law_odd k__law_odd (by intro vs H Q E h; first | (obtain ⟨_, rfl, _⟩ := h; rfl; done) | (obtain ⟨_, _, rfl, _⟩ := h; rfl; done) | (obtain ⟨_, _, _, rfl, _⟩ := h; rfl; done) | (obtain ⟨_, _, _, _, rfl, _⟩ := h; rfl; done) | (obtain ⟨_, _, _, _, _, rfl, _⟩ := h; rfl; done) | (obtain ⟨_, _, _, _, _, _, rfl, _⟩ := h; rfl; done) | (obtain ⟨_, _, _, _, _, _, _, rfl, _⟩ := h; rfl; done) | (obtain ⟨_, _, _, _, _, _, _, _, rfl, _⟩ := h; rfl; done) | (obtain ⟨_, _, _, _, _, _, _, _, _, rfl, _⟩ := h; rfl; done) | (obtain ⟨_, _, _, _, _, _, _, _, _, _, rfl, _⟩ := h; rfl; done) | (obtain ⟨_, _, _, _, _, _, _, _, _, _, _, rfl, _⟩ := h; rfl; done) | (obtain ⟨_, _, _, _, _, _, _, _, _, _, _, _, rfl, _⟩ := h; rfl; done) | (obtain ⟨_, _, _, _, _, _, _, _, _, _, _, _, _, rfl, _⟩ := h; rfl; done) | (obtain ⟨_, _, _, _, _, _, _, _, _, _, _, _, _, _, rfl, _⟩ := h; rfl; done) | (rcases h with h | h <;> first | (obtain ⟨_, rfl, _⟩ := h; rfl; done) | (obtain ⟨_, _, rfl, _⟩ := h; rfl; done) | (obtain ⟨_, _, _, rfl, _⟩ := h; rfl; done) | (obtain ⟨_, _, _, _, rfl, _⟩ := h; rfl; done) | (obtain ⟨_, _, _, _, _, rfl, _⟩ := h; rfl; done) | (obtain ⟨_, _, _, _, _, _, rfl, _⟩ := h; rfl; done) | (obtain ⟨_, _, _, _, _, _, _, rfl, _⟩ := h; rfl; done) | (obtain ⟨_, _, _, _, _, _, _, _, rfl, _⟩ := h; rfl; done) | (obtain ⟨_, _, _, _, _, _, _, _, _, rfl, _⟩ := h; rfl; done) | (obtain ⟨_, _, _, _, _, _, _, _, _, _, rfl, _⟩ := h; rfl; done) | (obtain ⟨_, _, _, _, _, _, _, _, _, _, _, rfl, _⟩ := h; rfl; done) | (obtain ⟨_, _, _, _, _, _, _, _, _, _, _, _, rfl, _⟩ := h; rfl; done) | (obtain ⟨_, _, _, _, _, _, _, _, _, _, _, _, _, rfl, _⟩ := h; rfl; done) | (obtain ⟨_, _, _, _, _, _, _, _, _, _, _, _, _, _, rfl, _⟩ := h; rfl; done))) (rd_spoilt K)
  have k__law_deep := dv__law_deep (P := P) (w := w) (b := b) (mg := mg) (sp := spDeep) F__law_deep (PySem.W.mg_none_of X G no_range) (by intro vs H Q E h; first | (obtain ⟨_, rfl, _⟩ := h; rfl; done) | (obtain ⟨_, _, rfl, _⟩ := h; rfl; done) | (obtain ⟨_, _, _, rfl, _⟩ := h; rfl; done) | (obtain ⟨_, _, _, _, rfl, _⟩ := h; rfl; done) | (obtain ⟨_, _, _, _, _, rfl, _⟩ := h; rfl; done) | (obtain ⟨_, _, _, _, _, _, rfl, _⟩ := h; rfl; done) | (obtain ⟨_, _, _, _, _, _, _, rfl, _⟩ := h; rfl; done) | (obtain ⟨_, _, _, _, _, _, _, _, rfl, _⟩ := h; rfl; done) | (obtain ⟨_, _, _, _, _, _, _, _, _, rfl, _⟩ := h; rfl; done) | (obtain ⟨_, _, _, _, _, _, _, _, _, _, rfl, _⟩ := h; rfl; done) | (obtain ⟨_, _, _, _, _, _, _, _, _, _, _, rfl, _⟩ := h; rfl; done) | (obtain ⟨_, _, _, _, _, _, _, _, _, _, _, _, rfl, _⟩ := h; rfl; done) | (obtain ⟨_, _, _, _, _, _, _, _, _, _, _, _, _, rfl, _⟩ := h; rfl; done) | (obtain ⟨_, _, _, _, _, _, _, _, _, _, _, _, _, _, rfl, _⟩ := h; rfl; done) | (rcases h with h | h <;> first | (obtain ⟨_, rfl, _⟩ := h; rfl; done) | (obtain ⟨_, _, rfl, _⟩ := h; rfl; done) | (obtain ⟨_, _, _, rfl, _⟩ := h; rfl; done) | (obtain ⟨_, _, _, _, rfl, _⟩ := h; rfl; done) | (obtain ⟨_, _, _, _, _, rfl, _⟩ := h; rfl; done) | (obtain ⟨_, _, _, _, _, _, rfl, _⟩ := h; rfl; done) | (obtain ⟨_, _, _, _, _, _, _, rfl, _⟩ := h; rfl; done) | (obtain ⟨_, _, _, _, _, _, _, _, rfl, _⟩ := h; rfl; done) | (obtain ⟨_, _, _, _, _, _, _, _, _, rfl, _⟩ := h; rfl; done) | (obtain ⟨_, _, _, _, _, _, _, _, _, _, rfl, _⟩ := h; rfl; done) | (obtain ⟨_, _, _, _, _, _, _, _, _, _, _, rfl, _⟩ := h; rfl; done) | (obtain ⟨_, _, _, _, _, _, _, _, _, _, _, _, rfl, _⟩ := h; rfl; done) | (obtain ⟨_, _, _, _, _, _, _, _, _, _, _, _, _, rfl, _⟩ := h; rfl; done) | (obtain ⟨_, _, _, _, _, _, _, _, _, _, _, _, _, _, rfl, _⟩ := h; rfl; done))) (rd_deep K)
  have k__law_things := dv__law_things (P := P) (w := w) (b := b) (mg := mg) (sp := spThings) F__law_things (PySem.W.mg_none_of X G no_list) (PySem.W.mg_none_of X G no_range) F__law_spoilt k__law_spoilt (PySem.W.mg_none_of X G no_tuple) F__law_deep k__law_deep (by intro vs H Q E h; first | (obtain ⟨_, rfl, _⟩ := h; rfl; done) | (obtain ⟨_, _, rfl, _⟩ := h; rfl; done) | (obtain ⟨_, _, _, rfl, _⟩ := h; rfl; done) | (obtain ⟨_, _, _, _, rfl, _⟩ := h; rfl; done) | (obtain ⟨_, _, _, _, _, rfl, _⟩ := h; rfl; done) | (obtain ⟨_, _, _, _, _, _, rfl, _⟩ := h; rfl; done) | (obtain ⟨_, _, _, _, _, _, _, rfl, _⟩ := h; rfl; done) | (obtain ⟨_, _, _, _, _, _, _, _, rfl, _⟩ := h; rfl; done) | (obtain ⟨_, _, _, _, _, _, _, _, _, rfl, _⟩ := h; rfl; done) | (obtain ⟨_, _, _, _, _, _, _, _, _, _, rfl, _⟩ := h; rfl; done) | (obtain ⟨_, _, _, _, _, _, _, _, _, _, _, rfl, _⟩ := h; rfl; done) | (obtain ⟨_, _, _, _, _, _, _, _, _, _, _, _, rfl, _⟩ := h; rfl; done) | (obtain ⟨_, _, _, _, _, _, _, _, _, _, _, _, _, rfl, _⟩ := h; rfl; done) | (obtain ⟨_, _, _, _, _, _, _, _, _, _, _, _, _, _, rfl, _⟩ := h; rfl; done) | (rcases h with h | h <;> first | (obtain ⟨_, rfl, _⟩ := h; rfl; done) | (obtain ⟨_, _, rfl, _⟩ := h; rfl; done) | (obtain ⟨_, _, _, rfl, _⟩ := h; rfl; done) | (obtain ⟨_, _, _, _, rfl, _⟩ := h; rfl; done) | (obtain ⟨_, _, _, _, _, rfl, _⟩ := h; rfl; done) | (obtain ⟨_, _, _, _, _, _, rfl, _⟩ := h; rfl; done) | (obtain ⟨_, _, _, _, _, _, _, rfl, _⟩ := h; rfl; done) | (obtain ⟨_, _, _, _, _, _, _, _, rfl, _⟩ := h; rfl; done) | (obtain ⟨_, _, _, _, _, _, _, _, _, rfl, _⟩ := h; rfl; done) | (obtain ⟨_, _, _, _, _, _, _, _, _, _, rfl, _⟩ := h; rfl; done) | (obtain ⟨_, _, _, _, _, _, _, _, _, _, _, rfl, _⟩ := h; rfl; done) | (obtain ⟨_, _, _, _, _, _, _, _, _, _, _, _, rfl, _⟩ := h; rfl; done) | (obtain ⟨_, _, _, _, _, _, _, _, _, _, _, _, _, rfl, _⟩ := h; rfl; done) | (obtain ⟨_, _, _, _, _, _, _, _, _, _, _, _, _, _, rfl, _⟩ := h; rfl; done))) (rd_things K)
  have k_law := dv_law (P := P) (w := w) (b := b) (mg := mg) (sp := spLaw K [P_is_name, P__are_places, P__are_roads, P__are_stands]) F_law (PySem.W.mg_none_of X G no_range) (PySem.W.mg_none_of X G no_max) (PySem.W.mg_none_of X G no_min) (PySem.W.mg_none_of X G no_len) F__law_pen k__law_pen F__law_town k__law_town F_is_town k_is_town F__law_things k__law_things (PySem.W.mg_none_of X G no_repr) F__law_is_town k__law_is_town (by intro vs H Q E h; first | (obtain ⟨_, rfl, _⟩ := h; rfl; done) | (obtain ⟨_, _, rfl, _⟩ := h; rfl; done) | (obtain ⟨_, _, _, rfl, _⟩ := h; rfl; done) | (obtain ⟨_, _, _, _, rfl, _⟩ := h; rfl; done) | (obtain ⟨_, _, _, _, _, rfl, _⟩ := h; rfl; done) | (obtain ⟨_, _, _, _, _, _, rfl, _⟩ := h; rfl; done) | (obtain ⟨_, _, _, _, _, _, _, rfl, _⟩ := h; rfl; done) | (obtain ⟨_, _, _, _, _, _, _, _, rfl, _⟩ := h; rfl; done) | (obtain ⟨_, _, _, _, _, _, _, _, _, rfl, _⟩ := h; rfl; done) | (obtain ⟨_, _, _, _, _, _, _, _, _, _, rfl, _⟩ := h; rfl; done) | (obtain ⟨_, _, _, _, _, _, _, _, _, _, _, rfl, _⟩ := h; rfl; done) | (obtain ⟨_, _, _, _, _, _, _, _, _, _, _, _, rfl, _⟩ := h; rfl; done) | (obtain ⟨_, _, _, _, _, _, _, _, _, _, _, _, _, rfl, _⟩ := h; rfl; done) | (obtain ⟨_, _, _, _, _, _, _, _, _, _, _, _, _, _, rfl, _⟩ := h; rfl; done) | (rcases h with h | h <;> first | (obtain ⟨_, rfl, _⟩ := h; rfl; done) | (obtain ⟨_, _, rfl, _⟩ := h; rfl; done) | (obtain ⟨_, _, _, rfl, _⟩ := h; rfl; done) | (obtain ⟨_, _, _, _, rfl, _⟩ := h; rfl; done) | (obtain ⟨_, _, _, _, _, rfl, _⟩ := h; rfl; done) | (obtain ⟨_, _, _, _, _, _, rfl, _⟩ := h; rfl; done) | (obtain ⟨_, _, _, _, _, _, _, rfl, _⟩ := h; rfl; done) | (obtain ⟨_, _, _, _, _, _, _, _, rfl, _⟩ := h; rfl; done) | (obtain ⟨_, _, _, _, _, _, _, _, _, rfl, _⟩ := h; rfl; done) | (obtain ⟨_, _, _, _, _, _, _, _, _, _, rfl, _⟩ := h; rfl; done) | (obtain ⟨_, _, _, _, _, _, _, _, _, _, _, rfl, _⟩ := h; rfl; done) | (obtain ⟨_, _, _, _, _, _, _, _, _, _, _, _, rfl, _⟩ := h; rfl; done) | (obtain ⟨_, _, _, _, _, _, _, _, _, _, _, _, _, rfl, _⟩ := h; rfl; done) | (obtain ⟨_, _, _, _, _, _, _, _, _, _, _, _, _, _, rfl, _⟩ := h; rfl; done))) (rd_law K (L := [P_is_name, P__are_places, P__are_roads, P__are_stands]))
  exact k_law
end Wg
open PySem PySem.W PyProof.Rows
set_option maxHeartbeats 0 in
theorem PySem.Challenge.cw_wagoncalls_k06_towns_spoilt_anywhere_holds : PySem.Challenge.rw_wagoncalls_k06_towns_spoilt_anywhere.Holds := by
  w_on; o_law; k_head; (case hw => w_witness2)
  k_fill
  refine Wg.walk_endT (l := PySem.Challenge.rw_wagoncalls_k06_towns_spoilt_anywhere) (n := 63) (k := 11) (x := "script") (sp := fun K L => Wg.spLaw K L) rfl (by decide) rfl ⟨⟨rfl, by decide, by decide⟩, rfl⟩ (fun w h Y => PySem.W.kIn_of Y) ?F ?S
  case S =>
    intro K L H a ns hl ho ht hs
    exact ⟨a, ns, rfl, Wg.Scr.ofT ho hs, hl, ht, fun _ => rfl⟩
  case F =>
    intro w mg fa h KX G hmg
    refine' Wg.all_mk KX G hmg ?ad_is_whole ?lo_is_whole ?co_is_whole ?kp_is_whole ?ad_is_within ?lo_is_within ?co_is_within ?kp_is_within ?ad_is_name ?lo_is_name ?co_is_name ?kp_is_name ?tb_is_name ?re_is_name ?ad__are_unlike ?lo__are_unlike ?co__are_unlike ?kp__are_unlike ?ad__are_places ?lo__are_places ?co__are_places ?kp__are_places ?tb__are_places ?re__are_places ?ad__is_drive ?lo__is_drive ?co__is_drive ?kp__is_drive ?ad_is_road ?lo_is_road ?co_is_road ?kp_is_road ?ad__are_roads ?lo__are_roads ?co__are_roads ?kp__are_roads ?tb__are_roads ?re__are_roads ?ad__are_stands ?lo__are_stands ?co__are_stands ?kp__are_stands ?tb__are_stands ?re__are_stands ?ad_is_town ?lo_is_town ?co_is_town ?kp_is_town ?ad__law_pen ?lo__law_pen ?co__law_pen ?kp__law_pen ?ad__law_draw ?lo__law_draw ?co__law_draw ?kp__law_draw ?ad__law_signs ?lo__law_signs ?co__law_signs ?kp__law_signs ?ad__law_word ?lo__law_word ?co__law_word ?kp__law_word ?ad__law_names ?lo__law_names ?co__law_names ?kp__law_names ?ad__law_minutes ?lo__law_minutes ?co__law_minutes ?kp__law_minutes ?ad__law_town ?lo__law_town ?co__law_town ?kp__law_town ?ad__law_is_name ?lo__law_is_name ?co__law_is_name ?kp__law_is_name ?ad__law_whole ?lo__law_whole ?co__law_whole ?kp__law_whole ?ad__law_is_way ?lo__law_is_way ?co__law_is_way ?kp__law_is_way ?ad__law_is_road ?lo__law_is_road ?co__law_is_road ?kp__law_is_road ?ad__law_is_town ?lo__law_is_town ?co__law_is_town ?kp__law_is_town ?ad__law_spots ?lo__law_spots ?co__law_spots ?kp__law_spots ?ad__law_put ?lo__law_put ?co__law_put ?kp__law_put ?ad__law_odd_text ?lo__law_odd_text ?co__law_odd_text ?kp__law_odd_text ?ad__law_odd_row ?lo__law_odd_row ?co__law_odd_row ?kp__law_odd_row ?ad__law_odd ?lo__law_odd ?co__law_odd ?kp__law_odd ?ad__law_spoilt ?lo__law_spoilt ?co__law_spoilt ?kp__law_spoilt ?ad__law_deep ?lo__law_deep ?co__law_deep ?kp__law_deep ?ad__law_things ?lo__law_things ?co__law_things ?kp__law_things ?ad_law ?lo_law ?co_law ?kp_law ?cn_LONGEST_NAME ?cn_LETTERS ?cn_NAME_SIGNS ?cn_MOST_PLACES ?cn_MOST_MINUTES ?cn_MOST_ROADS ?cn_MOST_STANDS ?cn_MOST_REACH ?no_isinstance ?no_int ?no_bool ?no_str ?no_len ?no_all ?no_set ?no_tuple ?no_abs ?no_range ?no_list ?no_enumerate ?no_max ?no_min ?no_repr
    (case ad_is_whole => k_is)
    (case lo_is_whole => k_is)
    (case co_is_whole => k_is)
    (case kp_is_whole => k_is)
    (case ad_is_within => k_is)
    (case lo_is_within => k_is)
    (case co_is_within => k_is)
    (case kp_is_within => k_is)
    (case ad_is_name => k_is)
    (case lo_is_name => k_is)
    (case co_is_name => k_is)
    (case kp_is_name => k_is)
    (case tb_is_name => first | k_is | rfl | decide +kernel)
    (case re_is_name => first | k_is | rfl | decide +kernel)
    (case ad__are_unlike => k_is)
    (case lo__are_unlike => k_is)
    (case co__are_unlike => k_is)
    (case kp__are_unlike => k_is)
    (case ad__are_places => k_is)
    (case lo__are_places => k_is)
    (case co__are_places => k_is)
    (case kp__are_places => k_is)
    (case tb__are_places => first | k_is | rfl | decide +kernel)
    (case re__are_places => first | k_is | rfl | decide +kernel)
    (case ad__is_drive => k_is)
    (case lo__is_drive => k_is)
    (case co__is_drive => k_is)
    (case kp__is_drive => k_is)
    (case ad_is_road => k_is)
    (case lo_is_road => k_is)
    (case co_is_road => k_is)
    (case kp_is_road => k_is)
    (case ad__are_roads => k_is)
    (case lo__are_roads => k_is)
    (case co__are_roads => k_is)
    (case kp__are_roads => k_is)
    (case tb__are_roads => first | k_is | rfl | decide +kernel)
    (case re__are_roads => first | k_is | rfl | decide +kernel)
    (case ad__are_stands => k_is)
    (case lo__are_stands => k_is)
    (case co__are_stands => k_is)
    (case kp__are_stands => k_is)
    (case tb__are_stands => first | k_is | rfl | decide +kernel)
    (case re__are_stands => first | k_is | rfl | decide +kernel)
    (case ad_is_town => k_is)
    (case lo_is_town => k_is)
    (case co_is_town => k_is)
    (case kp_is_town => k_is)
    (case ad__law_pen => k_is)
    (case lo__law_pen => k_is)
    (case co__law_pen => k_is)
    (case kp__law_pen => k_is)
    (case ad__law_draw => k_is)
    (case lo__law_draw => k_is)
    (case co__law_draw => k_is)
    (case kp__law_draw => k_is)
    (case ad__law_signs => k_is)
    (case lo__law_signs => k_is)
    (case co__law_signs => k_is)
    (case kp__law_signs => k_is)
    (case ad__law_word => k_is)
    (case lo__law_word => k_is)
    (case co__law_word => k_is)
    (case kp__law_word => k_is)
    (case ad__law_names => k_is)
    (case lo__law_names => k_is)
    (case co__law_names => k_is)
    (case kp__law_names => k_is)
    (case ad__law_minutes => k_is)
    (case lo__law_minutes => k_is)
    (case co__law_minutes => k_is)
    (case kp__law_minutes => k_is)
    (case ad__law_town => k_is)
    (case lo__law_town => k_is)
    (case co__law_town => k_is)
    (case kp__law_town => k_is)
    (case ad__law_is_name => k_is)
    (case lo__law_is_name => k_is)
    (case co__law_is_name => k_is)
    (case kp__law_is_name => k_is)
    (case ad__law_whole => k_is)
    (case lo__law_whole => k_is)
    (case co__law_whole => k_is)
    (case kp__law_whole => k_is)
    (case ad__law_is_way => k_is)
    (case lo__law_is_way => k_is)
    (case co__law_is_way => k_is)
    (case kp__law_is_way => k_is)
    (case ad__law_is_road => k_is)
    (case lo__law_is_road => k_is)
    (case co__law_is_road => k_is)
    (case kp__law_is_road => k_is)
    (case ad__law_is_town => k_is)
    (case lo__law_is_town => k_is)
    (case co__law_is_town => k_is)
    (case kp__law_is_town => k_is)
    (case ad__law_spots => k_is)
    (case lo__law_spots => k_is)
    (case co__law_spots => k_is)
    (case kp__law_spots => k_is)
    (case ad__law_put => k_is)
    (case lo__law_put => k_is)
    (case co__law_put => k_is)
    (case kp__law_put => k_is)
    (case ad__law_odd_text => k_is)
    (case lo__law_odd_text => k_is)
    (case co__law_odd_text => k_is)
    (case kp__law_odd_text => k_is)
    (case ad__law_odd_row => k_is)
    (case lo__law_odd_row => k_is)
    (case co__law_odd_row => k_is)
    (case kp__law_odd_row => k_is)
    (case ad__law_odd => k_is)
    (case lo__law_odd => k_is)
    (case co__law_odd => k_is)
    (case kp__law_odd => k_is)
    (case ad__law_spoilt => k_is)
    (case lo__law_spoilt => k_is)
    (case co__law_spoilt => k_is)
    (case kp__law_spoilt => k_is)
    (case ad__law_deep => k_is)
    (case lo__law_deep => k_is)
    (case co__law_deep => k_is)
    (case kp__law_deep => k_is)
    (case ad__law_things => k_is)
    (case lo__law_things => k_is)
    (case co__law_things => k_is)
    (case kp__law_things => k_is)
    (case ad_law => k_is)
    (case lo_law => k_is)
    (case co_law => k_is)
    (case kp_law => k_is)
    (case cn_LONGEST_NAME => k_is)
    (case cn_LETTERS => k_is)
    (case cn_NAME_SIGNS => k_is)
    (case cn_MOST_PLACES => k_is)
    (case cn_MOST_MINUTES => k_is)
    (case cn_MOST_ROADS => k_is)
    (case cn_MOST_STANDS => k_is)
    (case cn_MOST_REACH => k_is)
    (case no_isinstance => k_is)
    (case no_int => k_is)
    (case no_bool => k_is)
    (case no_str => k_is)
    (case no_len => k_is)
    (case no_all => k_is)
    (case no_set => k_is)
    (case no_tuple => k_is)
    (case no_abs => k_is)
    (case no_range => k_is)
    (case no_list => k_is)
    (case no_enumerate => k_is)
    (case no_max => k_is)
    (case no_min => k_is)
    (case no_repr => k_is)
